import PyProof.Rows.All
import Wide.All
import OpenK.AllK
import Wide.FinOn
import Lean
import PyProof.EqAt
import PyProof.EqKinds
import PyProof.TupleCall
import PyProof.NeKinds
import PyProof.ExcAttrAll.ValueError
import PyProof.StationsW
import PyProof.PassesOwn
import PyProof.RulesAs
import PyProof.NsDelKeeps
import PyProof.CompMap
import PyProof.DictItems
import KE.KPairComp
import KE.KMinKey
import KE.KDictList
import KE.KDictOf
import KE.KEqDict
import PyProof.DictIter
import PyProof.DictWalks
import PyProof.Rows.DictUnroll
import KE.KRevIter
import PySem.Challenge.RW_glazebench_k66_orders_refused
set_option Elab.async false
set_option linter.all false
set_option maxRecDepth 100000
namespace L2
open PySem PySem.Spec PyProof.Rows
abbrev Key:=Sum Int Str
def keyIs:Key→Value→Bool
 | .inl k,v=>Value.isInt k v
 | .inr x,v=>Value.isStrOf x v
def keyH (w:World):Key→Int
 | .inl k=>hashInt k
 | .inr x=>hashStr w x
theorem keyIs_shape:∀ {k:Key} {v:Value},keyIs k v=true→(∃ i t,k=Sum.inl i∧v=Value.int i t)∨(∃ x t,k=Sum.inr x∧v=Value.str x t)
 | .inl i,v,h=>by
  obtain ⟨t,e⟩:=Value.isInt_shape (k:=i) (v:=v) h
  exact .inl ⟨i,t,rfl,e⟩
 | .inr x,v,h=>by
  obtain ⟨t,e⟩:=Value.isStrOf_shape (x:=x) (v:=v) h
  exact .inr ⟨x,t,rfl,e⟩
theorem keyIs_int (i:Int) (t:Tok):keyIs (.inl i) (.int i t)=true:=by simp [keyIs,Value.isInt]
theorem keyIs_str (x:Str) (t:Tok):keyIs (.inr x) (.str x t)=true:=by simp [keyIs,Value.isStrOf]
theorem key_ll (a b:Int):decide ((Sum.inl a:Key)=Sum.inl b)=(a == b):=by
 by_cases e:a=b
 ·subst e; simp
 ·have h:¬ (Sum.inl a:Key)=Sum.inl b:=fun q=>e (Sum.inl.inj q)
  rw [decide_eq_false h]
  exact (beq_eq_false_iff_ne.mpr e).symm
theorem key_rr (a b:Str):decide ((Sum.inr a:Key)=Sum.inr b)=decide (a=b):=by
 by_cases e:a=b
 ·subst e; simp
 ·have h:¬ (Sum.inr a:Key)=Sum.inr b:=fun q=>e (Sum.inr.inj q)
  rw [decide_eq_false h,decide_eq_false e]
theorem key_lr (a:Int) (b:Str):decide ((Sum.inl a:Key)=Sum.inr b)=false:=decide_eq_false (fun q=>nomatch q)
theorem key_rl (a:Str) (b:Int):decide ((Sum.inr a:Key)=Sum.inl b)=false:=decide_eq_false (fun q=>nomatch q)
def mixKind (prog:Program) (w:World):PySem.KeyKind prog w Key where
 is:=keyIs
 hash:=keyH w
 inj:=fun v a b ha hb=>by
  rcases keyIs_shape ha with ⟨i,t,rfl,rfl⟩ | ⟨x,t,rfl,rfl⟩
  ·rcases keyIs_shape hb with ⟨j,u,rfl,e⟩ | ⟨y,u,rfl,e⟩
   ·injection e with e1 _; rw [e1]
   ·exact nomatch e
  ·rcases keyIs_shape hb with ⟨j,u,rfl,e⟩ | ⟨y,u,rfl,e⟩
   ·exact nomatch e
   ·injection e with e1 _; rw [e1]
 byValue:=fun k v h=>by
  rcases keyIs_shape h with ⟨i,t,rfl,rfl⟩ | ⟨x,t,rfl,rfl⟩ <;> rfl
 pyHash:=fun hv h=>by
  rcases keyIs_shape hv with ⟨i,t,rfl,rfl⟩ | ⟨x,t,rfl,rfl⟩
  ·exact wpAny_pyHash_int h
  ·exact wpAny_pyHash_str h
 eqBool:=fun hu hv h=>by
  rcases keyIs_shape hu with ⟨i,t,rfl,rfl⟩ | ⟨x,t,rfl,rfl⟩
  ·rcases keyIs_shape hv with ⟨j,u,rfl,rfl⟩ | ⟨y,u,rfl,rfl⟩
   ·rw [key_ll] at h; exact wpAny_eqBool_int h
   ·rw [key_lr] at h; exact SeqAt.EqAt.int_str i t y u _ _ _ _ h
  ·rcases keyIs_shape hv with ⟨j,u,rfl,rfl⟩ | ⟨y,u,rfl,rfl⟩
   ·rw [key_rl] at h; exact SeqAt.EqAt.str_int x t j u _ _ _ _ h
   ·rw [key_rr] at h; exact wpAny_eqBool_str h
 «strs»:=fun k x t v h=>by
  rcases keyIs_shape h with ⟨i,u,rfl,e⟩ | ⟨y,u,rfl,e⟩
  ·exact nomatch e
  ·injection e with e1 _
   subst e1
   cases v <;> rfl
theorem mixKind_int (prog:Program) (w:World) (i:Int) (t:Tok):(mixKind prog w).is (.inl i) (.int i t)=true:=keyIs_int i t
theorem mixKind_str (prog:Program) (w:World) (x:Str) (t:Tok):(mixKind prog w).is (.inr x) (.str x t)=true:=keyIs_str x t
end L2
namespace L2
open PySem PySem.Spec PyProof.Rows
inductive V where
 | non | bl (b:Bool) | int (i:Int) | str (x:Str) | byt (b:Array UInt8) | flt (b:UInt64) | ref (a:Addr) | ty (n:String)
 deriving DecidableEq
def RelV:V→Value→Prop
 | .non,u=>u=Value.none
 | .bl b,u=>u=Value.bool b
 | .int i,u=>∃ t,u=Value.int i t
 | .str x,u=>∃ t,u=Value.str x t
 | .byt b,u=>∃ t,u=Value.bytes b t
 | .flt b,u=>∃ t,u=Value.float b t
 | .ref a,u=>u=Value.ref a
 | .ty n,u=>u=Value.type n
abbrev Vals:List V→List Value→Prop:=Paired RelV
theorem Vals.length {xs:List V} {us:List Value} (r:Vals xs us):xs.length=us.length:=Paired.length r
theorem Vals.get:∀ {xs:List V} {us:List Value} {i:Nat} {x:V},Vals xs us→xs[i]?=some x→∃ u,us[i]?=some u∧RelV x u
 | _,_,_,_,.nil,e=>by simp at e
 | _,_,0,_,.cons r _,e=>by simp at e; subst e; exact ⟨_,rfl,r⟩
 | _,_,i+1,x,.cons _ t,e=>by
  obtain ⟨u,h1,h2⟩:=Vals.get (i:=i) (x:=x) t (by simpa using e)
  exact ⟨u,by simpa using h1,h2⟩
theorem Vals.set {x:V} {u:Value} (r:RelV x u):∀ {xs:List V} {us:List Value} (i:Nat),Vals xs us→Vals (xs.set i x) (us.set i u)
 | _,_,_,.nil=>.nil
 | _,_,0,.cons _ t=>.cons r t
 | _,_,i+1,.cons q t=>.cons q (Vals.set r i t)
theorem Vals.append:∀ {xs ys:List V} {us ws:List Value},Vals xs us→Vals ys ws→Vals (xs++ys) (us++ws)
 | _,_,_,_,.nil,s=>s
 | _,_,_,_,.cons r t,s=>.cons r (Vals.append t s)
theorem Vals.take:∀ {xs:List V} {us:List Value} (n:Nat),Vals xs us→Vals (xs.take n) (us.take n)
 | _,_,0,_=>.nil
 | _,_,_+1,.nil=>.nil
 | _,_,n+1,.cons r t=>.cons r (Vals.take n t)
theorem Vals.drop:∀ {xs:List V} {us:List Value} (n:Nat),Vals xs us→Vals (xs.drop n) (us.drop n)
 | _,_,0,r=>r
 | _,_,_+1,.nil=>.nil
 | _,_,n+1,.cons _ t=>Vals.drop n t
def RelO:Option V→Option Value→Prop
 | some v,some u=>RelV v u
 | none,none=>True
 | _,_=>False
def KV {κ:Type}:List (κ × V)→List (κ × Value)→Prop:=Paired fun (p:κ × V) (q:κ × Value)=>p.1=q.1∧RelV p.2 q.2
def kV:Key→V
 | .inl i=>.int i
 | .inr x=>.str x
inductive HO where
 | lst (xs:List V)
 | tup (xs:List V)
 | dK (kvs:List (Key × V)) | dT (kvs:List (List Key × V))
 | set (S:Int→Bool) (n:Nat)
 | ins (C dx:Addr) (fs:List (Str × V))
 | own (x:Addr)
 | xd (fs:List (Str × V))
 | met (f x:Addr)
 | rng (lo hi:Int)
 | frz (o:Obj) (u:HO)
 | tbl (ps:Array Value)
 | ext (φ:Heap→Prop)
abbrev Hp:=Addr→Option HO
def upd (H:Hp) (a:Addr) (o:HO):Hp:=fun b=>if b=a then some o else H b
theorem upd_same {H:Hp} {a:Addr} {o:HO}:upd H a o a=some o:=by unfold upd; rw [if_pos rfl]
theorem upd_ne {H:Hp} {a b:Addr} {o:HO} (h:b≠a):upd H a o b=H b:=by unfold upd; rw [if_neg h]
theorem ne_of {H:Hp} {a b:Addr} {o u:HO} (h:H a=some o) (h':H b=some u) (d:o≠u):a≠b:=by
 intro e; subst e; rw [h] at h'; exact d (Option.some.inj h')
theorem ne_of_none {H:Hp} {a b:Addr} {o:HO} (h:H a=some o) (h':H b=none):a≠b:=by
 intro e; subst e; rw [h] at h'; cases h'
section
variable (P:Program) (w:World)
def ObjOk (H:Hp) (h:Heap) (a:Addr):HO→Prop
 | .lst xs=>xs.length≤sizeLine∧∃ (its:List Value) (n:Nat),Vals xs its∧h.get? a=some { cls:=.type "list",data:=.seq its.toArray n }
 | .tup xs=>xs.length≤sizeLine∧∃ its:List Value,Vals xs its∧IsTup h a its.toArray
 | .dK kvs=>kvs.length≤sizeLine∧(a == sysModules)=false∧∃ vs,KV kvs vs∧h.DictOf (mixKind P w) a vs
 | .dT kvs=>kvs.length≤sizeLine∧(a == sysModules)=false∧∃ xs:List (List Key × Addr × Value),
   Paired (fun (p:List Key × V) (q:List Key × Addr × Value)=>p.1=q.1∧H q.2.1=some (.tup (p.1.map kV))∧RelV p.2 q.2.2) kvs xs ∧
   ∃ o es ep,h.get? a=some o∧o.ExactDict∧o.data=.dict es ep∧es.toList=xs.map (entryOfKey (tupleKind (mixKind P w)))∧(xs.map (·.1)).Nodup
 | .set S n=>h.SetOf (intKind P w) a S n
 | .ins C dx fs=>H dx=some (.own a)∧fs.length≤1000∧dx≠a∧h.get? a=some (PySem.W.instObj C dx) ∧
   ∃ mA,h.Ns1 dx mA∧(∀ f,RelO (fs.lookup f) (mA f))∧PySem.Within mA (fs.map (·.1))
 | .own _=>∃ o,h.get? a=some o
 | .xd fs=>∃ mA,h.Ns1 a mA∧∀ f,RelO (fs.lookup f) (mA f)
 | .rng lo hi=>∃ t u v,h.get? a=some { cls:=.type "range",data:=.fields #[.int lo t,.int hi u,.int 1 v] }
 | .frz o u=>h.get? a=some o∧ObjOk H h a u
 | .tbl ps=>h.get? a=some { cls:=.none,data:=.fields ps }
 | .met f x=>h.get? a=some (PySem.W.methodObj (.ref f) (.ref x))
 | .ext φ=>φ h∧(∃ o,h.get? a=some o)∧∀ h1 h2:Heap,φ h1→(∀ o,h1.get? a=some o→h2.get? a=some o)→φ h2
def HOk (H:Hp) (h:Heap):Prop:=∀ a o,H a=some o→ObjOk P w H h a o
end
section
variable {P:Program} {w:World} {H H':Hp} {h h':Heap} {a:Addr} {o:HO}
theorem ObjOk.lt (x:ObjOk P w H h a o):a < h.objs.size:=by
 cases o with
 | lst xs=>obtain ⟨_,_,_,_,e⟩:=x; exact Heap.lt_size e
 | tup xs=>obtain ⟨_,_,_,p⟩:=x; exact p.lt
 | dK kvs=>obtain ⟨_,_,_,_,o,_,_,e,_⟩:=x; exact Heap.lt_size e
 | dT kvs=>obtain ⟨_,_,_,_,o,_,_,e,_⟩:=x; exact Heap.lt_size e
 | set S n=>obtain ⟨o,_,_,_,e,_⟩:=x; exact Heap.lt_size e
 | ins C dx fs=>obtain ⟨_,_,_,e,_⟩:=x; exact Heap.lt_size e
 | own y=>obtain ⟨_,e⟩:=x; exact Heap.lt_size e
 | xd fs=>obtain ⟨_,⟨_,_,_,e,_⟩,_⟩:=x; exact Heap.lt_size e
 | rng lo hi=>obtain ⟨_,_,_,e⟩:=x; exact Heap.lt_size e
 | frz ob u=>obtain ⟨e,_⟩:=x; exact Heap.lt_size e
 | tbl ps=>exact Heap.lt_size (show h.get? a=some _ from x)
 | met f y=>exact Heap.lt_size (show h.get? a=some _ from x)
 | ext φ=>obtain ⟨_,⟨_,e⟩,_⟩:=x; exact Heap.lt_size e
theorem Paired.mapP {α β:Type} {F G:α→β→Prop}:∀ {l₁:List α} {l₂:List β},Paired F l₁ l₂→(∀ a b,F a b→G a b)→Paired G l₁ l₂
 | _,_,.nil,_=>.nil
 | _,_,.cons r t,f=>.cons (f _ _ r) (Paired.mapP t f)
theorem ObjOk.stay (x:ObjOk P w H h a o) (k:∀ b u,(b=a∨H b=some (.own a))→h.get? b=some u→h'.get? b=some u)
  (ho:∀ b,H b=some (.own a)→H' b=some (.own a)) (ht:∀ b xs,H b=some (.tup xs)→H' b=some (.tup xs)):ObjOk P w H' h' a o:=by
 induction o with
 | lst xs=>obtain ⟨z,its,n,r,e⟩:=x; exact ⟨z,its,n,r,k _ _ (.inl rfl) e⟩
 | tup xs=>obtain ⟨z,its,r,ob,e,c⟩:=x; exact ⟨z,its,r,ob,k _ _ (.inl rfl) e,c⟩
 | dK kvs=>obtain ⟨z,y,vs,r,ob,es,ep,e,c⟩:=x; exact ⟨z,y,vs,r,ob,es,ep,k _ _ (.inl rfl) e,c⟩
 | dT kvs =>
  obtain ⟨z,y,xs,r,ob,es,ep,e,c⟩:=x
  exact ⟨z,y,xs,Paired.mapP r fun p q z=>⟨z.1,ht _ _ z.2.1,z.2.2⟩,ob,es,ep,k _ _ (.inl rfl) e,c⟩
 | set S n=>obtain ⟨ob,es,ep,t,e,c⟩:=x; exact ⟨ob,es,ep,t,k _ _ (.inl rfl) e,c⟩
 | ins C dx fs =>
  obtain ⟨d,z,ne,e,mA,⟨od,es,ep,e2,c⟩,r⟩:=x
  exact ⟨ho _ d,z,ne,k _ _ (.inl rfl) e,mA,⟨od,es,ep,k _ _ (.inr d) e2,c⟩,r⟩
 | own y=>obtain ⟨ob,e⟩:=x; exact ⟨ob,k _ _ (.inl rfl) e⟩
 | xd fs=>obtain ⟨mA,⟨od,es,ep,e,c⟩,r⟩:=x; exact ⟨mA,⟨od,es,ep,k _ _ (.inl rfl) e,c⟩,r⟩
 | rng lo hi=>obtain ⟨t,u,v,e⟩:=x; exact ⟨t,u,v,k _ _ (.inl rfl) e⟩
 | frz ob u ih=>obtain ⟨e,q⟩:=x; exact ⟨k _ _ (.inl rfl) e,ih q⟩
 | tbl ps =>
  have e:h.get? a=some { cls:=.none,data:=.fields ps }:=x
  show h'.get? a=some { cls:=.none,data:=.fields ps }
  exact k a _ (.inl rfl) e
 | met f y =>
  have e:h.get? a=some (PySem.W.methodObj (.ref f) (.ref y)):=x
  show h'.get? a=some (PySem.W.methodObj (.ref f) (.ref y))
  exact k a _ (.inl rfl) e
 | ext φ=>obtain ⟨p,⟨o,e⟩,st⟩:=x; exact ⟨st _ _ p fun o q=>k _ _ (.inl rfl) q,⟨o,k _ _ (.inl rfl) e⟩,st⟩
theorem HOk.lt (x:HOk P w H h) (e:H a=some o):a < h.objs.size:=(x a o e).lt
theorem HOk.fresh (x:HOk P w H h) (e:h.objs.size≤a):H a=none:=by
 cases q:H a with
 | none=>rfl
 | some u=>exact absurd (Nat.lt_of_lt_of_le (x.lt q) e) (Nat.lt_irrefl _)
theorem HOk.kept (x:HOk P w H h) (k:∀ b u,h.get? b=some u→h'.get? b=some u):HOk P w H h':=fun a o e =>
 (x a o e).stay (fun b u _ q=>k b u q) (fun _ q=>q) fun _ _ q=>q
theorem HOk.laid (x:HOk P w H h) (k:∀ b u,h.get? b=some u→h'.get? b=some u) (hp:h.objs.size≤a) (new:ObjOk P w (upd H a o) h' a o):HOk P w (upd H a o) h':=fun b u e=>by
 have hn:=x.fresh hp
 by_cases hb:b=a
 ·subst hb; rw [upd_same] at e; cases e; exact new
 ·rw [upd_ne hb] at e
  exact (x b u e).stay (fun c v _ q=>k c v q) (fun c q=>by rw [upd_ne (ne_of_none q hn)]; exact q) fun c xs q=>by rw [upd_ne (ne_of_none q hn)]; exact q
end
def Rd (H:Hp) (a:Addr) (u:HO):Prop:=H a=some u∨∃ o,H a=some (.frz o u)
theorem Rd.ok {P:Program} {w:World} {H:Hp} {h:Heap} {a:Addr} {u:HO} (r:Rd H a u) (x:HOk P w H h):ObjOk P w H h a u:=by
 rcases r with r | ⟨o,r⟩
 ·exact x a u r
 ·obtain ⟨_,q⟩:=x a _ r
  exact q
def Mut:Option HO→Prop
 | some (.lst _)=>True
 | some (.dK _)=>True
 | some (.dT _)=>True
 | some (.set _ _)=>True
 | some (.ins _ _ _)=>True
 | some (.ext _)=>True
 | _=>False
section
variable {P:Program} {w:World} {H:Hp} {h h':Heap} {x e:Addr} {o':HO}
theorem HOk.write (ok:HOk P w H h) (mu:Mut (H x)) (he:e=x∨H e=some (.own x)) (k:∀ b u,b≠e→h.get? b=some u→h'.get? b=some u) (heo:∃ u,h'.get? e=some u)
  (new:ObjOk P w (upd H x o') h' x o'):HOk P w (upd H x o') h':=fun b u q=>by
 have nown:∀ c y,H c=some (.own y)→c≠x:=fun c y r z=>by subst z; rw [r] at mu; exact mu
 have ntup:∀ c xs,H c=some (.tup xs)→c≠x:=fun c xs r z=>by subst z; rw [r] at mu; exact mu
 by_cases hb:b=x
 ·subst hb; rw [upd_same] at q; cases q; exact new
 ·rw [upd_ne hb] at q
  by_cases hbe:b=e
  ·have q':H b=some (.own x):=by
    rcases he with z | z
    ·exact absurd (hbe.trans z) hb
    ·rw [hbe]; exact z
   rw [q] at q'; cases q'
   obtain ⟨v,hv⟩:=heo
   exact ⟨v,by rw [hbe]; exact hv⟩
  ·refine (ok b u q).stay (fun c v hc r=>k c v ?_ r) (fun c r=>by rw [upd_ne (nown c b r)]; exact r) fun c xs r=>by rw [upd_ne (ntup c xs r)]; exact r
   rcases hc with rfl | hc
   ·exact hbe
   ·rintro rfl
    rcases he with z | z
    ·exact nown c b hc z
    ·rw [hc] at z; cases z; exact hb rfl
end
structure Un (fs ex:List Addr) (H H':Hp) (h h':Heap):Prop where
 keep:∀ b o,h.get? b=some o→H b=none→b ∉ fs→b ∉ ex→h'.get? b=some o
 slot:∀ b o,h.get? b=some o→H b=none→b∈fs→b ∉ ex→∃ sl,h'.get? b=some { o with slots:=sl }
 free:∀ b o,h.get? b=some o→H b=none→b ∉ ex→H' b=none
 there:∀ b o,h.get? b=some o→b ∉ ex→∃ o',h'.get? b=some o'
 tups:∀ b xs,H b=some (.tup xs)→H' b=some (.tup xs)
 frzs:∀ b o u,H b=some (.frz o u)→H' b=some (.frz o u)
 tbls:∀ b ps,H b=some (.tbl ps)→∃ more,H' b=some (.tbl (ps++more))
section
variable {fs fs' ex ex':List Addr} {H H1 H2:Hp} {h h1 h2 h':Heap} {a x e:Addr} {o:HO}
theorem Un.any (u:Un fs ex H H1 h h1) {b:Addr} {ob:Obj} (q:h.get? b=some ob) (n:H b=none) (hx:b ∉ ex):∃ sl,h1.get? b=some { ob with slots:=sl }:=by
 by_cases hb:b∈fs
 ·exact u.slot b ob q n hb hx
 ·exact ⟨ob.slots,u.keep b ob q n hb hx⟩
theorem Un.kept (k:∀ b u,h.get? b=some u→h'.get? b=some u):Un fs ex H H h h' :=
 ⟨fun b ob q _ _ _=>k b ob q,fun b ob q _ _ _=>⟨ob.slots,k b ob q⟩,fun _ _ _ n _=>n,fun b ob q _=>⟨ob,k b ob q⟩,fun _ _ q=>q,fun _ _ _ q=>q,fun _ ps q=>⟨#[],by rw [q]; simp⟩⟩
theorem Un.refl:Un fs ex H H h h:=Un.kept fun _ _ q=>q
theorem Un.laid (k:∀ b u,h.get? b=some u→h'.get? b=some u) (hp:h.objs.size≤a) (hn:H a=none):Un fs ex H (upd H a o) h h' where
 keep:=fun b u q _ _ _=>k b u q
 slot:=fun b u q _ _ _=>⟨u.slots,k b u q⟩
 free:=fun b u q n _=>by rw [upd_ne (Nat.ne_of_lt (Nat.lt_of_lt_of_le (Heap.lt_size q) hp))]; exact n
 there:=fun b u q _=>⟨u,k b u q⟩
 tups:=fun b xs q=>by rw [upd_ne (ne_of_none q hn)]; exact q
 frzs:=fun b u xs q=>by rw [upd_ne (ne_of_none q hn)]; exact q
 tbls:=fun b ps q=>⟨#[],by rw [upd_ne (ne_of_none q hn),q]; simp⟩
theorem Un.write (mu:Mut (H x)) (he:e=x∨H e=some (.own x)) (k:∀ b u,b≠e→h.get? b=some u→h'.get? b=some u) (heo:∃ u,h'.get? e=some u):Un fs ex H (upd H x o) h h':=by
 have hx:∀ b,H b=none→b≠x:=fun b n z=>by subst z; rw [n] at mu; exact mu
 have hb:∀ b,H b=none→b≠e:=fun b n z=>by
  subst z
  rcases he with r | r
  ·exact hx b n r
  ·rw [n] at r; cases r
 have hm:∀ b u,H b=some u→¬ Mut (some u)→b≠x:=fun b u q nm z=>by subst z; rw [q] at mu; exact nm mu
 refine ⟨fun b u q n _ _=>k b u (hb b n) q,fun b u q n _ _=>⟨u.slots,k b u (hb b n) q⟩,fun b u q n _=>by rw [upd_ne (hx b n)]; exact n,fun b u q _=>?_,
  fun b xs q=>by rw [upd_ne (hm b _ q fun z=>z)]; exact q,fun b u xs q=>by rw [upd_ne (hm b _ q fun z=>z)]; exact q,fun b ps q=>⟨#[],by rw [upd_ne (hm b _ q fun z=>z),q]; simp⟩⟩
 by_cases hbe:b=e
 ·subst hbe; exact heo
 ·exact ⟨u,k b u hbe q⟩
end
def trk (h:Heap) (H:Hp):List Addr:=(List.range h.objs.size).filter fun a=>(H a).isSome
def hidT (h:Heap) (H:Hp):Heap:=PySem.W.hideAll h (trk h H)
theorem hidT_size (h:Heap) (H:Hp):(hidT h H).objs.size=h.objs.size:=PySem.W.hideAll_size _ _
theorem hidT_get {h:Heap} {H:Hp} {b:Addr} {o:Obj} (e:h.get? b=some o) (n:H b=none):(hidT h H).get? b=some o :=
 PySem.W.hideAll_get _ e fun hm=>by
  have q:(H b).isSome=true:=(List.mem_filter.mp hm).2
  rw [n] at q; simp at q
theorem of_hidT {h:Heap} {H:Hp} {b:Addr} {o:Obj} (e:(hidT h H).get? b=some o):h.get? b=some o∧H b=none:=by
 have e':h.get? b=some o:=PySem.W.of_hideAll (trk h H) e
 refine ⟨e',?_⟩
 cases q:H b with
 | none=>rfl
 | some x =>
  have hm:b∈trk h H:=List.mem_filter.mpr ⟨List.mem_range.mpr (Heap.lt_size e'),by simp [q]⟩
  have z:(hidT h H).get? b=none:=PySem.W.hideAll_none (trk h H) hm
  rw [z] at e; cases e
def allNews (g h:Heap) (L:Addr):List (Addr × Obj):=(List.range h.objs.size).filterMap fun a=>if a=L∨(g.get? a).isSome=true then none else (h.get? a).map fun o=>(a,o)
def rest (g h:Heap) (L d:Addr):List (Addr × Obj):=(allNews g h L).filter fun p=>decide (p.1≠d)
end L2
namespace L2
open PySem PySem.Spec PyProof.Rows
structure Mod (K:PySem.W.Frag) (mg:Str→Option Value) (base:Heap):Prop where
 kin:K.In base
 glob:base.Ns mainGlobals mg
 blt:∃ mb,base.Ns builtinsNs mb∧∀ x:Str,x≠"__name__"→mb x=bootBuiltins x
 nolimit:base.NoLimit
structure Cx where
 prog:Program
 w:World
 K:PySem.W.Frag
 mg:Str→Option Value
 base:Heap
 A:Around
 N:List Str
 s₀:Shared
 H₀:Hp
 env:Env
 outer:List Env
 stack:List Env
 ex:List Addr
 fn:Str→Bool
 calm:Bool
 pn:List (Addr × Obj)
 xe:Value→Shared→Prop
def frs (l:List Env):List Addr:=l.filterMap (·.frame)
abbrev Cx.fs (X:Cx):List Addr:=frs X.outer
def Vis (sc:Scope) (x:Str):Prop:=sc.names.lookup x=some .local∨sc.names.lookup x=some .cell∨sc.names.lookup x=some .free
def Loc (sc:Scope) (x:Str):Prop:=sc.names.lookup x=some .local∨sc.names.lookup x=some .cell
def Look (env:Env) (h:Heap) (m:Str→Option Value) (x:Str) (u:Value):Prop :=
 (env.kindOf x=some .local∧m x=some u)∨((env.kindOf x=some .cell∨env.kindOf x=some .free)∧∃ c,env.cells.lookup x=some c∧h.IsCell c (some u))
structure Cx.Ok (X:Cx):Prop where
 mod:Mod X.K X.mg X.base
 kind:X.env.scope.kind=.function
 glob:X.env.globals=mainGlobals
 blt:X.env.builtins=builtinsNs
 above:X.s₀.heap.objs.size≤X.env.locals
 inj:∀ x y c,X.env.cells.lookup x=some c→X.env.cells.lookup y=some c→x=y
 has:∀ x,(X.env.kindOf x=some .cell∨X.env.kindOf x=some .free)→∃ c,X.env.cells.lookup x=some c
 cab:∀ x c,X.fn x=true→X.env.cells.lookup x=some c→X.s₀.heap.objs.size≤c
 hd:X.calm=true→X.A.handled=none
 frames:X.A.frames=some X.stack
 stk:X.stack=X.outer∨(X.stack=X.env :: X.outer∧X.env.frame=some X.env.locals)
 exf:∀ b∈X.ex,b≠X.env.locals∧∀ x c,X.env.cells.lookup x=some c→c≠b
 bs:∀ b o,X.base.get? b=some o→X.s₀.heap.get? b=some o∧X.H₀ b=none
 bsz:X.base.objs.size≤X.s₀.heap.objs.size
 noex:∀ b o,X.base.get? b=some o→b ∉ X.ex
 exfs:∀ b∈X.ex,b ∉ X.fs
 funs:X.s₀.heap.FunFrames X.base X.outer
 frf:∀ b∈X.fs,X.H₀ b=none
structure Inv (X:Cx) (pins:List (Addr × Obj)) (σ:List (Option V)) (H:Hp) (s:Shared):Prop where
 ok:X.Ok
 os:s.os=X.s₀.os
 bare:AllBare s.gens
 base:Un X.fs X.ex X.H₀ H X.s₀.heap s.heap
 loc:∃ m,s.heap.Ns X.env.locals m∧∀ (i:Nat) (x:Str) (v:V),X.N[i]?=some x→σ[i]?=some (some v)→Vis X.env.scope x→∃ u,RelV v u∧Look X.env s.heap m x u
 cell:∀ x c,X.env.cells.lookup x=some c→∃ v,s.heap.IsCell c v
 free:H X.env.locals=none
 freeC:∀ x c,X.env.cells.lookup x=some c→H c=none
 pin:∀ p∈X.pn++pins,s.heap.get? p.1=some p.2∧H p.1=none∧p.1≠X.env.locals∧p.1 ∉ X.fs∧∀ v,p.2.data≠.cell v
 hok:HOk X.prog X.w H s.heap
 len:σ.length=X.N.length
section
variable {X:Cx} {pins:List (Addr × Obj)} {σ:List (Option V)} {H H':Hp} {s:Shared} {h':Heap}
theorem Cx.Ok.nofr (ok:X.Ok) {b:Addr} {o:Obj} (e:X.base.get? b=some o):b ∉ X.fs:=fun hb=>by
 have:=(ok.funs.mem hb).1
 rw [e] at this; cases this
theorem Inv.bs (I:Inv X pins σ H s):∀ b o,X.base.get? b=some o→s.heap.get? b=some o∧H b=none:=fun b o e =>
 ⟨I.base.keep b o (I.ok.bs b o e).1 (I.ok.bs b o e).2 (I.ok.nofr e) (I.ok.noex b o e),I.base.free b o (I.ok.bs b o e).1 (I.ok.bs b o e).2 (I.ok.noex b o e)⟩
theorem Inv.bk (I:Inv X pins σ H s):∀ b o,X.base.get? b=some o→s.heap.get? b=some o:=fun b o e=>(I.bs b o e).1
theorem Inv.mod (I:Inv X pins σ H s):Mod X.K X.mg X.base:=I.ok.mod
theorem Inv.kIn (I:Inv X pins σ H s):X.K.In s.heap:=I.ok.mod.kin.keeps I.bk
theorem Inv.lt (I:Inv X pins σ H s):X.env.locals < s.heap.objs.size:=let ⟨_,hn,_⟩:=I.loc; hn.lt
theorem Inv.sz (I:Inv X pins σ H s):X.s₀.heap.objs.size≤s.heap.objs.size:=Nat.le_trans I.ok.above (Nat.le_of_lt I.lt)
theorem Inv.nofs (I:Inv X pins σ H s) {a:Addr} (h:s.heap.objs.size≤a):a ∉ X.fs:=fun hb=>by
 obtain ⟨_,o,ho,_⟩:=I.ok.funs.mem hb
 exact absurd (Nat.lt_of_lt_of_le (Heap.lt_size ho) (Nat.le_trans I.sz h)) (Nat.lt_irrefl _)
theorem Inv.cne (I:Inv X pins σ H s):∀ x c,X.env.cells.lookup x=some c→c≠X.env.locals:=fun x c e z=>by
 obtain ⟨v,o,ho,hd⟩:=I.cell x c e
 obtain ⟨m,⟨o',es,ep,ho',hd',_⟩,_⟩:=I.loc
 rw [z,ho'] at ho; cases ho; rw [hd'] at hd; cases hd
theorem Inv.funs (I:Inv X pins σ H s):s.heap.FunFrames X.base X.outer:=by
 have all:∀ (l:List Env),(∀ b∈frs l,b∈X.fs)→X.s₀.heap.FunFrames X.base l→s.heap.FunFrames X.base l:=by
  intro l
  induction l with
  | nil=>intro _ _; trivial
  | cons env r ih =>
   intro hs hl
   obtain ⟨hk,⟨L,o,hf,hn,ho,hd⟩,hr⟩:=hl
   have hL:L∈X.fs:=hs L (by unfold frs; rw [List.filterMap_cons,hf]; exact List.mem_cons_self)
   obtain ⟨sl,e⟩:=I.base.slot L o ho (I.ok.frf L hL) hL fun z=>I.ok.exfs L z hL
   exact ⟨hk,⟨L,_,hf,hn,e,hd⟩,ih (fun b hb=>hs b (by unfold frs; rw [List.filterMap_cons,hf]; exact List.mem_cons_of_mem _ hb)) hr⟩
 exact all X.outer (fun _ hb=>hb) I.ok.funs
theorem Inv.stack (I:Inv X pins σ H s):s.heap.FunFrames X.base X.stack:=by
 rcases I.ok.stk with e | ⟨e,hf⟩
 ·rw [e]; exact I.funs
 ·rw [e]
  obtain ⟨m,hn,_⟩:=I.loc
  refine .cons (by rw [I.ok.kind]; decide) hf hn ?_ I.funs
  exact Heap.get?_none_of_le (Nat.le_trans I.ok.bsz I.ok.above)
theorem Inv.stkSub (I:Inv X pins σ H s):∀ b∈frs X.stack,b∈X.env.locals :: X.fs:=fun b hb=>by
 rcases I.ok.stk with e | ⟨e,hf⟩
 ·rw [e] at hb; exact List.mem_cons_of_mem _ hb
 ·rw [e] at hb
  unfold frs at hb
  rw [List.filterMap_cons,hf] at hb
  exact hb
theorem Inv.stkFree (I:Inv X pins σ H s):∀ b∈frs X.stack,H b=none:=fun b hb=>by
 rcases List.mem_cons.mp (I.stkSub b hb) with e | hb
 ·rw [e]; exact I.free
 ·obtain ⟨_,o,ho,_⟩:=I.ok.funs.mem hb
  exact I.base.free b o ho (I.ok.frf b hb) fun z=>I.ok.exfs b z hb
theorem Inv.step {g':Array GenState} {t':Nat} {d':Drawn} {ch:List Addr} (I:Inv X pins σ H s)
  (hch:∀ b∈ch,(b∈X.ex∨X.s₀.heap.objs.size≤b)∧b≠X.env.locals∧(∀ x c,X.env.cells.lookup x=some c→c≠b)∧∀ p∈X.pn++pins,p.1≠b)
  (keep:∀ b o,b≠X.env.locals→b ∉ X.fs→b ∉ ch→s.heap.get? b=some o→H b=none→h'.get? b=some o)
  (slot:∀ b o,b≠X.env.locals→b∈X.fs→b ∉ ch→s.heap.get? b=some o→H b=none→∃ sl,h'.get? b=some { o with slots:=sl }) (free:∀ b o,b ∉ ch→s.heap.get? b=some o→H b=none→H' b=none)
  (there:∀ b o,b ∉ ch→s.heap.get? b=some o→∃ o',h'.get? b=some o')
  (tups:∀ b xs,H b=some (.tup xs)→H' b=some (.tup xs)) (frzs:∀ b o u,H b=some (.frz o u)→H' b=some (.frz o u)) (tbls:∀ b ps,H b=some (.tbl ps)→∃ more,H' b=some (.tbl (ps++more)))
  (ns:∀ m,s.heap.Ns X.env.locals m→h'.Ns X.env.locals m) (hok:HOk X.prog X.w H' h') (hg:AllBare g') :
  Inv X pins σ H' { s with heap:=h',gens:=g',drawn:=d',toks:=t' }:=by
 have neL:∀ b o,X.s₀.heap.get? b=some o→b≠X.env.locals:=fun b o e=>Nat.ne_of_lt (Nat.lt_of_lt_of_le (Heap.lt_size e) I.ok.above)
 have neC:∀ b o,X.s₀.heap.get? b=some o→b ∉ X.ex→b ∉ ch:=fun b o e hx hb=>by
  rcases (hch b hb).1 with z | z
  ·exact hx z
  ·exact absurd (Nat.lt_of_lt_of_le (Heap.lt_size e) z) (Nat.lt_irrefl _)
 have cellK:∀ x c,X.env.cells.lookup x=some c→∀ v,s.heap.IsCell c v→h'.IsCell c v:=fun x c e v ⟨o,ho,hd⟩=>by
  have nch:c ∉ ch:=fun z=>(hch c z).2.2.1 x c e rfl
  by_cases hc:c∈X.fs
  ·obtain ⟨sl,q⟩:=slot c o (I.cne x c e) hc nch ho (I.freeC x c e)
   exact ⟨_,q,hd⟩
  ·exact ⟨o,keep c o (I.cne x c e) hc nch ho (I.freeC x c e),hd⟩
 refine ⟨I.ok,I.os,hg,⟨fun b o e n hb hx=>?_,fun b o e n hb hx=>?_,fun b o e n hx=>?_,fun b o e hx=>?_,fun b xs e=>tups b xs (I.base.tups b xs e),fun b o xs e=>frzs b o xs (I.base.frzs b o xs e),fun b ps e=>?_⟩,?_,fun x c e=>?_,?_,fun x c e=>?_,fun p hp=>?_,hok,I.len⟩
 ·exact keep b o (neL b o e) hb (neC b o e hx) (I.base.keep b o e n hb hx) (I.base.free b o e n hx)
 ·obtain ⟨sl,e1⟩:=I.base.slot b o e n hb hx
  obtain ⟨sl',e2⟩:=slot b _ (neL b o e) hb (neC b o e hx) e1 (I.base.free b o e n hx)
  exact ⟨sl',e2⟩
 ·obtain ⟨o',e1⟩:=I.base.there b o e hx
  exact free b o' (neC b o e hx) e1 (I.base.free b o e n hx)
 ·obtain ⟨o',e1⟩:=I.base.there b o e hx
  exact there b o' (neC b o e hx) e1
 ·obtain ⟨m1,e1⟩:=I.base.tbls b ps e
  obtain ⟨m2,e2⟩:=tbls b _ e1
  exact ⟨m1++m2,by rw [e2,Array.append_assoc]⟩
 ·obtain ⟨m,hn,hl⟩:=I.loc
  refine ⟨m,ns m hn,fun i x v e1 e2 e3=>?_⟩
  obtain ⟨u,r,l⟩:=hl i x v e1 e2 e3
  refine ⟨u,r,?_⟩
  rcases l with l | ⟨k,c,e,z⟩
  ·exact .inl l
  ·exact .inr ⟨k,c,e,cellK x c e _ z⟩
 ·obtain ⟨v,z⟩:=I.cell x c e
  exact ⟨v,cellK x c e v z⟩
 ·obtain ⟨m,⟨o,_,_,ho,_⟩,_⟩:=I.loc
  exact free _ o (fun z=>(hch _ z).2.1 rfl) ho I.free
 ·obtain ⟨v,o,ho,hd⟩:=I.cell x c e
  exact free c o (fun z=>(hch c z).2.2.1 x c e rfl) ho (I.freeC x c e)
 ·obtain ⟨e,n,ne,nf,d⟩:=I.pin p hp
  have nch:p.1 ∉ ch:=fun z=>(hch p.1 z).2.2.2 p hp rfl
  exact ⟨keep p.1 p.2 ne nf nch e n,free p.1 p.2 nch e n,ne,nf,d⟩
theorem Inv.un {t':Nat} (I:Inv X pins σ H s) (u:Un X.fs [] H H' s.heap h') (hok:HOk X.prog X.w H' h'):Inv X pins σ H' { s with heap:=h',toks:=t' }:=by
 obtain ⟨m,⟨o,es,ep,ho,r⟩,_⟩:=id I.loc
 obtain ⟨sl,hL⟩:=u.any ho I.free (by simp)
 exact I.step (g':=s.gens) (d':=s.drawn) (ch:=[]) (fun _ z=>nomatch z) (fun b o _ hb _ e n=>u.keep b o e n hb (by simp)) (fun b o _ hb _ e n=>u.slot b o e n hb (by simp)) (fun b o _ e n=>u.free b o e n (by simp)) (fun b o _ e=>u.there b o e (by simp)) u.tups u.frzs u.tbls (fun m' hm=>by
  obtain ⟨o',es',ep',ho',r'⟩:=hm
  rw [ho] at ho'; cases ho'
  exact ⟨_,es',ep',hL,r'⟩) hok I.bare
theorem Inv.call {g':Array GenState} {t':Nat} {d':Drawn} {ch:List Addr} (I:Inv X pins σ H s) (u:Un (frs X.stack) ch H H' s.heap h') (hok:HOk X.prog X.w H' h') (hg:AllBare g')
  (hch:∀ b∈ch,(b∈X.ex∨X.s₀.heap.objs.size≤b)∧b≠X.env.locals∧(∀ x c,X.env.cells.lookup x=some c→c≠b)∧∀ p∈X.pn++pins,p.1≠b) :
  Inv X pins σ H' { s with heap:=h',gens:=g',drawn:=d',toks:=t' }:=by
 obtain ⟨m,⟨o,es,ep,ho,r⟩,_⟩:=id I.loc
 obtain ⟨sl,hL⟩:=u.any ho I.free fun z=>(hch _ z).2.1 rfl
 exact I.step (ch:=ch) hch (fun b o hL hb hc e n=>u.keep b o e n (fun z=>(List.mem_cons.mp (I.stkSub b z)).elim hL hb) hc) (fun b o _ _ hc e n=>u.any e n hc) (fun b o hc e n=>u.free b o e n hc) (fun b o hc e=>u.there b o e hc) u.tups u.frzs u.tbls (fun m' hm=>by
  obtain ⟨o',es',ep',ho',r'⟩:=hm
  rw [ho] at ho'; cases ho'
  exact ⟨_,es',ep',hL,r'⟩) hok hg
theorem Inv.turned {t':Nat} {it:Addr} (I:Inv X pins σ H s) (k:∀ b o,b≠it→s.heap.get? b=some o→h'.get? b=some o) (hn:H it=none) (hL:it≠X.env.locals)
  (h1:it∈X.ex∨X.s₀.heap.objs.size≤it) (h2:∀ x c,X.env.cells.lookup x=some c→c≠it) (h3:∀ p∈X.pn++pins,p.1≠it):Inv X pins σ H { s with heap:=h',toks:=t' }:=by
 have nit:∀ b u,H b=some u→b≠it:=fun b u e z=>by rw [z,hn] at e; cases e
 refine I.step (g':=s.gens) (d':=s.drawn) (ch:=[it]) (fun b hb=>?_) (fun b o _ _ hc e _=>k b o (fun z=>hc (by simp [z])) e) (fun b o _ _ hc e _=>⟨o.slots,k b o (fun z=>hc (by simp [z])) e⟩) (fun _ _ _ _ n=>n)
  (fun b o hc e=>⟨o,k b o (fun z=>hc (by simp [z])) e⟩) (fun _ _ e=>e) (fun _ _ _ e=>e) (fun b ps e=>⟨#[],by rw [e]; simp⟩) (fun m hm=>?_) (fun b u e=>?_) I.bare
 ·have e:b=it:=by simpa using hb
  subst e
  exact ⟨h1,hL,h2,h3⟩
 ·obtain ⟨o,es,ep,ho,r⟩:=hm
  exact ⟨o,es,ep,k _ o (Ne.symm hL) ho,r⟩
 ·refine (I.hok b u e).stay (fun c v hc q=>k c v ?_ q) (fun _ q=>q) fun _ _ q=>q
  rcases hc with z | z
  ·rw [z]; exact nit b u e
  ·exact nit c _ z
theorem Inv.tok (I:Inv X pins σ H s) (t:Nat):Inv X pins σ H { s with toks:=t }:=I.un (h':=s.heap) (t':=t) Un.refl I.hok
theorem Inv.kept {t':Nat} (I:Inv X pins σ H s) (k:∀ b u,s.heap.get? b=some u→h'.get? b=some u):Inv X pins σ H { s with heap:=h',toks:=t' }:=I.un (Un.kept k) (I.hok.kept k)
theorem Inv.laid {a:Addr} {o:HO} {t':Nat} (I:Inv X pins σ H s) (k:∀ b u,s.heap.get? b=some u→h'.get? b=some u) (hp:s.heap.objs.size≤a) (new:ObjOk X.prog X.w (upd H a o) h' a o) :
  Inv X pins σ (upd H a o) { s with heap:=h',toks:=t' }:=I.un (Un.laid k hp (I.hok.fresh hp)) (I.hok.laid k hp new)
theorem Inv.write {x e:Addr} {o:HO} {t':Nat} (I:Inv X pins σ H s) (mu:Mut (H x)) (he:e=x∨H e=some (.own x)) (k:∀ b u,b≠e→s.heap.get? b=some u→h'.get? b=some u) (heo:∃ u,h'.get? e=some u)
  (new:ObjOk X.prog X.w (upd H x o) h' x o):Inv X pins σ (upd H x o) { s with heap:=h',toks:=t' }:=I.un (Un.write mu he k heo) (I.hok.write mu he k heo new)
theorem Inv.pins_of {pins':List (Addr × Obj)} (I:Inv X pins σ H s) (h:∀ p∈pins',s.heap.get? p.1=some p.2∧H p.1=none∧p.1≠X.env.locals∧p.1 ∉ X.fs∧∀ v,p.2.data≠.cell v):Inv X pins' σ H s :=
 ⟨I.ok,I.os,I.bare,I.base,I.loc,I.cell,I.free,I.freeC,fun p hp=>(List.mem_append.mp hp).elim (fun z=>I.pin p (List.mem_append_left _ z)) (h p),I.hok,I.len⟩
theorem nodup_ix {N:List Str} (hN:N.Nodup) {i j:Nat} {x:Str} (a:N[i]?=some x) (b:N[j]?=some x):i=j:=by
 obtain ⟨h1,e1⟩:=List.getElem?_eq_some_iff.mp a
 obtain ⟨h2,e2⟩:=List.getElem?_eq_some_iff.mp b
 exact (List.getElem_inj hN).mp (e1.trans e2.symm)
theorem store_ok2 {M:Model} {A:Around} {E:Value→Shared→Prop} {i:Nat} {x:Str} {v:V} {u:Value} {Q:Unit→Shared→Prop} (I:Inv X pins σ H s) (hN:X.N.Nodup) (hi:X.N[i]?=some x) (hx:Loc X.env.scope x) (r:RelV v u)
  (h:∀ s',Inv X pins (σ.set i (some v)) H s'→(∃ a,Heap.SameBut a s.heap s'.heap∧(a=X.env.locals∨X.env.cells.lookup x=some a))→Q () s') (hf:X.fn x=true∨X.env.scope.names.lookup x=some .local:=by first | exact .inl rfl | exact .inr rfl | assumption):wpAny M A (storeName X.env x u) Q E s:=by
 obtain ⟨m,hn,hl⟩:=id I.loc
 have hcls:(X.env.scope.kind == .class || (X.env.scope.kind == .module && X.env.locals != X.env.globals))=false:=by rw [I.ok.kind]; rfl
 have hiσ:i < σ.length:=by rw [I.len]; exact (List.getElem?_eq_some_iff.mp hi).1
 have cne:=I.cne
 have tracked:∀ {a:Addr} {h':Heap},(∃ o,s.heap.get? a=some o∧H a=none)→Heap.SameBut a s.heap h'→HOk X.prog X.w H h':=fun {a h'} ha hs b ob e=>by
  obtain ⟨_,_,hfree⟩:=ha
  refine (I.hok b ob e).stay (fun c w' hc q=>(hs.2 c ?_).trans q) (fun _ q=>q) fun _ _ q=>q
  rintro rfl
  rcases hc with rfl | hc
  ·rw [hfree] at e; cases e
  ·rw [hfree] at hc; cases hc
 rcases hx with hk | hk
 ·refine wpAny_storeName_local hk hn (fun h' hn' hs=>?_) hcls
  obtain ⟨oL,_,_,hoL,_⟩:=id hn
  refine h _ ⟨I.ok,I.os,I.bare,⟨fun b o e n hb hx=>?_,fun b o e n hb hx=>?_,I.base.free,fun b o e hx=>?_,I.base.tups,I.base.frzs,I.base.tbls⟩,⟨_,hn',fun j y v' e1 e2 e3=>?_⟩,fun y c e=>?_,I.free,I.freeC,fun p hp=>?_,tracked ⟨oL,hoL,I.free⟩ hs,by simpa using I.len⟩ ⟨_,hs,.inl rfl⟩
  ·exact (hs.2 b (Nat.ne_of_lt (Nat.lt_of_lt_of_le (Heap.lt_size e) I.ok.above))).trans (I.base.keep b o e n hb hx)
  ·obtain ⟨sl,e1⟩:=I.base.slot b o e n hb hx
   exact ⟨sl,(hs.2 b (Nat.ne_of_lt (Nat.lt_of_lt_of_le (Heap.lt_size e) I.ok.above))).trans e1⟩
  ·obtain ⟨o',e1⟩:=I.base.there b o e hx
   exact ⟨o',(hs.2 b (Nat.ne_of_lt (Nat.lt_of_lt_of_le (Heap.lt_size e) I.ok.above))).trans e1⟩
  ·by_cases hj:j=i
   ·subst hj
    rw [hi] at e1; cases e1
    rw [List.getElem?_set_self hiσ] at e2
    cases e2
    exact ⟨u,r,.inl ⟨hk,by simp⟩⟩
   ·rw [List.getElem?_set_ne (Ne.symm hj)] at e2
    obtain ⟨u',r',q⟩:=hl j y v' e1 e2 e3
    refine ⟨u',r',?_⟩
    rcases q with ⟨k,e⟩ | ⟨k,c,e,z⟩
    ·refine .inl ⟨k,?_⟩
     have:y≠x:=fun e=>hj (nodup_ix hN e1 (e ▸ hi))
     simp [this,e]
    ·exact .inr ⟨k,c,e,z.sameBut hs (cne y c e)⟩
  ·obtain ⟨w',z⟩:=I.cell y c e
   exact ⟨w',z.sameBut hs (cne y c e)⟩
  ·obtain ⟨e,n,ne,nf,d⟩:=I.pin p hp
   exact ⟨(hs.2 p.1 ne).trans e,n,ne,nf,d⟩
 ·have hfn:X.fn x=true:=by
   rcases hf with z | z
   ·exact z
   ·rw [z] at hk; cases hk
  obtain ⟨c,hc⟩:=I.ok.has x (.inl hk)
  obtain ⟨w',z⟩:=I.cell x c hc
  refine wpAny_storeName_cell I.ok.kind hk hc z (fun h' hc' hs=>?_)
  obtain ⟨oc,hoc,hocd⟩:=id z
  refine h { s with heap:=h' } ⟨I.ok,I.os,I.bare,⟨fun b o e n hb hx=>?_,fun b o e n hb hx=>?_,I.base.free,fun b o e hx=>?_,I.base.tups,I.base.frzs,I.base.tbls⟩,⟨m,hn.sameBut hs (Ne.symm (cne x c hc)),fun j y v' e1 e2 e3=>?_⟩,fun y c' e=>?_,I.free,I.freeC,fun p hp=>?_,tracked ⟨oc,hoc,I.freeC x c hc⟩ hs,by simpa using I.len⟩ ⟨c,hs,.inr hc⟩
  ·exact (hs.2 b (Nat.ne_of_lt (Nat.lt_of_lt_of_le (Heap.lt_size e) (I.ok.cab x c hfn hc)))).trans (I.base.keep b o e n hb hx)
  ·obtain ⟨sl,e1⟩:=I.base.slot b o e n hb hx
   exact ⟨sl,(hs.2 b (Nat.ne_of_lt (Nat.lt_of_lt_of_le (Heap.lt_size e) (I.ok.cab x c hfn hc)))).trans e1⟩
  ·obtain ⟨o',e1⟩:=I.base.there b o e hx
   exact ⟨o',(hs.2 b (Nat.ne_of_lt (Nat.lt_of_lt_of_le (Heap.lt_size e) (I.ok.cab x c hfn hc)))).trans e1⟩
  ·by_cases hj:j=i
   ·subst hj
    rw [hi] at e1; cases e1
    rw [List.getElem?_set_self hiσ] at e2
    cases e2
    exact ⟨u,r,.inr ⟨.inl hk,c,hc,hc'⟩⟩
   ·rw [List.getElem?_set_ne (Ne.symm hj)] at e2
    obtain ⟨u',r',q⟩:=hl j y v' e1 e2 e3
    refine ⟨u',r',?_⟩
    rcases q with q | ⟨k,c',e,z'⟩
    ·exact .inl q
    ·refine .inr ⟨k,c',e,z'.sameBut hs ?_⟩
     rintro rfl
     exact hj (nodup_ix hN e1 (I.ok.inj _ _ _ e hc ▸ hi))
  ·by_cases hcc:c'=c
   ·subst hcc; exact ⟨_,hc'⟩
   ·obtain ⟨w2,z2⟩:=I.cell y c' e
    exact ⟨w2,z2.sameBut hs hcc⟩
  ·obtain ⟨e,n,ne,nf,d⟩:=I.pin p hp
   refine ⟨(hs.2 p.1 ?_).trans e,n,ne,nf,d⟩
   intro q
   rw [q,hoc] at e
   have q':oc=p.2:=Option.some.inj e
   exact d w' (by rw [← q']; exact hocd)
theorem store_ok {M:Model} {A:Around} {E:Value→Shared→Prop} {i:Nat} {x:Str} {v:V} {u:Value} {Q:Unit→Shared→Prop} (I:Inv X pins σ H s) (hN:X.N.Nodup) (hi:X.N[i]?=some x) (hx:Loc X.env.scope x) (r:RelV v u)
  (h:∀ s',Inv X pins (σ.set i (some v)) H s'→Q () s') (hf:X.fn x=true∨X.env.scope.names.lookup x=some .local:=by first | exact .inl rfl | exact .inr rfl | assumption):wpAny M A (storeName X.env x u) Q E s :=
 store_ok2 I hN hi hx r (fun s' I' _=>h s' I') hf
theorem Inv.call' {s':Shared} {ch:List Addr} (I:Inv X pins σ H s) (ho:s'.os=s.os) (u:Un (frs X.stack) ch H H' s.heap s'.heap) (hok:HOk X.prog X.w H' s'.heap) (hg:AllBare s'.gens)
  (hch:∀ b∈ch,(b∈X.ex∨X.s₀.heap.objs.size≤b)∧b≠X.env.locals∧(∀ x c,X.env.cells.lookup x=some c→c≠b)∧∀ p∈X.pn++pins,p.1≠b):Inv X pins σ H' s':=by
 obtain ⟨h',g',d',t',o'⟩:=s'
 have e:o'=s.os:=ho
 subst e
 exact I.call (g':=g') (t':=t') (d':=d') u hok hg hch
end
abbrev XK:=Value→Option Addr→Hp→Prop
abbrev St:=List (Option V)
abbrev VK:=V→Hp→Prop
abbrev TE:=St→Hp→VK→Prop
abbrev TT:=St→Hp→(Bool→Hp→Prop)→Prop
abbrev TA:=St→Hp→(List V→Hp→Prop)→Prop
structure Ends where
 nx:St→Hp→Prop
 rt:VK
 bk:St→Hp→Prop:=fun _ _=>False
 ct:St→Hp→Prop:=fun _ _=>False
abbrev TS:=Ends→St→Hp→Prop
def EP (X:Cx) (pins:List (Addr × Obj)) (σ:St) (Q:VK) (u:Value) (s':Shared):Prop:=∃ v H',Inv X pins σ H' s'∧RelV v u∧Q v H'
def TP (X:Cx) (pins:List (Addr × Obj)) (σ:St) (Q:Bool→Hp→Prop) (b:Bool) (s':Shared):Prop:=∃ H',Inv X pins σ H' s'∧Q b H'
def AP (X:Cx) (pins:List (Addr × Obj)) (σ:St) (Q:List V→Hp→Prop) (us:List Value) (s':Shared):Prop:=∃ vs H',Inv X pins σ H' s'∧Vals vs us∧Q vs H'
def SP (X:Cx) (pins:List (Addr × Obj)) (D:Ends) (f:Flow) (s':Shared):Prop :=
 match f with
 | .next=>∃ σ' H',Inv X pins σ' H' s'∧D.nx σ' H'
 | .brk=>∃ σ' H',Inv X pins σ' H' s'∧D.bk σ' H'
 | .cont=>∃ σ' H',Inv X pins σ' H' s'∧D.ct σ' H'
 | .ret u=>∃ v σ' H',Inv X pins σ' H' s'∧RelV v u∧D.rt v H'
def PE (X:Cx) (e:Expr) (t:TE):Prop :=
 ∀ (pins:List (Addr × Obj)) (s:Shared) (σ:St) (H:Hp) (Q:VK),Inv X pins σ H s→t σ H Q→wpAny (model X.prog X.w) X.A (eval e X.env) (EP X pins σ Q) X.xe s
def PT (X:Cx) (e:Expr) (t:TT):Prop :=
 ∀ (pins:List (Addr × Obj)) (s:Shared) (σ:St) (H:Hp) (Q:Bool→Hp→Prop),Inv X pins σ H s→t σ H Q→wpAny (model X.prog X.w) X.A (isTrue e X.env (eval e X.env)) (TP X pins σ Q) X.xe s
def PW (X:Cx) (e:Expr) (t:TT):Prop :=
 ∀ (whole:Sem Value) (pins:List (Addr × Obj)) (s:Shared) (σ:St) (H:Hp) (Q:Bool→Hp→Prop),Inv X pins σ H s→t σ H Q→wpAny (model X.prog X.w) X.A (isTrue e X.env whole) (TP X pins σ Q) X.xe s
theorem PW.pt {X:Cx} {e:Expr} {t:TT} (h:PW X e t):PT X e t:=h _
def PA (X:Cx) (es:List Expr) (t:TA):Prop :=
 ∀ (pos:Pos) (pins:List (Addr × Obj)) (s:Shared) (σ:St) (H:Hp) (Q:List V→Hp→Prop),Inv X pins σ H s→t σ H Q→wpAny (model X.prog X.w) X.A (spliced (backTo pos (starEach es X.env))) (AP X pins σ Q) X.xe s
def PS (X:Cx) (st:Stmt) (t:TS):Prop :=
 ∀ (pins:List (Addr × Obj)) (s:Shared) (σ:St) (H:Hp) (D:Ends),Inv X pins σ H s→t D σ H→wpAny (model X.prog X.w) X.A (exec st X.env) (SP X pins D) X.xe s
def PSs (X:Cx) (st:List Stmt) (t:TS):Prop :=
 ∀ (pins:List (Addr × Obj)) (s:Shared) (σ:St) (H:Hp) (D:Ends),Inv X pins σ H s→t D σ H→wpAny (model X.prog X.w) X.A (execs st X.env) (SP X pins D) X.xe s
theorem thn {α:Type} {t:Sem α} {Q Q':α→Shared→Prop} {M:Model} {A:Around} {E:Value→Shared→Prop} {s:Shared} (h:wpAny M A t Q E s) (hQ:∀ a s,Q a s→Q' a s):wpAny M A t Q' E s:=wpAny_mono h hQ fun _ _ x=>x
end L2
namespace L2
open PySem PySem.Spec PyProof.Rows
section
variable {X:Cx}
def tVar (i:Nat):TE:=fun σ H Q=>∃ v,σ[i]?=some (some v)∧Q v H
def tC (v:V):TE:=fun _ H Q=>Q v H
theorem pe_var {i:Nat} {x:Str} {pos:Pos} (hN:X.N[i]?=some x) (hv:Vis X.env.scope x) (hd:(x == ("__debug__":Str))=false:=by decide) (hcd:(x == ("__classdict__":Str))=false:=by decide):PE X (.Name x pos) (tVar i):=by
 intro pins s σ H Q I h
 obtain ⟨v,e,h⟩:=h
 obtain ⟨m,hn,hl⟩:=I.loc
 obtain ⟨u,r,l⟩:=hl i x v hN e hv
 have fin:EP X pins σ Q u s:=⟨v,H,I,r,h⟩
 rcases l with ⟨hk,hm⟩ | ⟨hk,c,hc,hcell⟩
 ·exact wpAny_Name (wpAny_loadName_local I.ok.kind hk hn hm fin) hd
 ·rcases hk with hk | hk
  ·exact wpAny_Name (wpAny_loadName_cell I.ok.kind hk hc hcell fin) hd
  ·exact wpAny_Name (wpAny_loadName_free I.ok.kind hk hc hcell fin hcd) hd
theorem pe_int {i j pos}:PE X (.Constant (.int i) j pos) (tC (.int i)):=fun _ _ _ H _ I h=>wpAny_Constant_int ⟨.int i,H,I.tok _,⟨_,rfl⟩,h⟩
theorem pe_bl {b j pos}:PE X (.Constant (.bool b) j pos) (tC (.bl b)):=fun _ _ _ H _ I h=>Constant_bool ⟨.bl b,H,I,rfl,h⟩
theorem pe_non {j pos}:PE X (.Constant .none j pos) (tC .non):=fun _ _ _ H _ I h=>Constant_none ⟨.non,H,I,rfl,h⟩
theorem pe_str {x j pos}:PE X (.Constant (.str x) j pos) (tC (.str x)):=fun _ _ _ H _ I h=>Calls.Constant_str ⟨.str x,H,I.tok _,⟨_,rfl⟩,h⟩
def Gl (X:Cx) (x:Str):Prop:=X.env.kindOf x=some .globalImplicit
theorem ld_glob {E:Value→Shared→Prop} {pins:List (Addr × Obj)} {s:Shared} {σ:St} {H:Hp} {x:Str} {u:Value} {pos:Pos} {Q:Value→Shared→Prop} (I:Inv X pins σ H s) (hg:Gl X x) (hm:X.mg x=some u) (h:Q u s)
  (hd:(x == ("__debug__":Str))=false:=by decide):wpAny (model X.prog X.w) X.A (eval (.Name x pos) X.env) Q E s :=
 Calls.Name_function_global I.ok.kind hg (Calls.loadGlobal_global (by rw [I.ok.glob]; exact I.mod.glob.keeps I.bk) hm h) hd
theorem ld_blt {E:Value→Shared→Prop} {pins:List (Addr × Obj)} {s:Shared} {σ:St} {H:Hp} {x:Str} {u:Value} {pos:Pos} {Q:Value→Shared→Prop} (I:Inv X pins σ H s) (hg:Gl X x) (hm:X.mg x=none) (hv:bootBuiltins x=some u) (h:Q u s)
  (hn:x≠"__name__":=by decide) (hd:(x == ("__debug__":Str))=false:=by decide):wpAny (model X.prog X.w) X.A (eval (.Name x pos) X.env) Q E s:=by
 obtain ⟨mb,h1,h2⟩:=I.mod.blt
 exact Calls.Name_function_global I.ok.kind hg (Calls.loadGlobal_builtin (by rw [I.ok.glob]; exact I.mod.glob.keeps I.bk) hm (by rw [I.ok.blt]; exact h1.keeps I.bk) ((h2 x hn).trans hv) h) hd
theorem pe_glob {x:Str} {v:V} {u:Value} {pos:Pos} (hg:Gl X x) (hm:X.mg x=some u) (r:RelV v u) (hd:(x == ("__debug__":Str))=false:=by decide):PE X (.Name x pos) (tC v) :=
 fun _ _ _ H _ I h=>ld_glob I hg hm ⟨v,H,I,r,h⟩ hd
theorem pe_bltn {x:Str} {v:V} {u:Value} {pos:Pos} (hg:Gl X x) (hm:X.mg x=none) (hv:bootBuiltins x=some u) (r:RelV v u) (hn:x≠"__name__":=by decide) (hd:(x == ("__debug__":Str))=false:=by decide):PE X (.Name x pos) (tC v) :=
 fun _ _ _ H _ I h=>ld_blt I hg hm hv ⟨v,H,I,r,h⟩ hn hd
variable {a b:Expr} {ta tb:TE} {pos:Pos}
def PC (X:Cx) (op:CmpOp) (a b:Expr) (t:TE):Prop :=
 ∀ (pins:List (Addr × Obj)) (s:Shared) (σ:St) (H:Hp) (Q:VK),Inv X pins σ H s→t σ H Q →
  wpAny (model X.prog X.w) X.A (eval a X.env) (fun v s₁=>wpAny (model X.prog X.w) X.A (eval b X.env) (fun u s₂=>wpAny (model X.prog X.w) X.A (compareOp op v u) (EP X pins σ Q) X.xe s₂) X.xe s₁) X.xe s
theorem nobehind (b:Expr) {op:CmpOp} (h:op≠.In) (h2:op≠.NotIn):behindInMarks op b=false:=by
 have e1:(op == CmpOp.In)=false:=by cases op <;> first | rfl | exact absurd rfl h
 have e2:(op == CmpOp.NotIn)=false:=by cases op <;> first | rfl | exact absurd rfl h2
 cases b <;> simp [behindInMarks,e1,e2]
def tB (t:TE):TT:=fun σ H Q=>t σ H fun x H1=>∃ c,x=.bl c∧Q c H1
theorem pt_cmp {op:CmpOp} {t:TE} (h:PC X op a b t) (h1:behindInMarks op b=false:=by first | exact nobehind _ (by decide) (by decide) | rfl):PT X (.Compare a [op] [b] pos) (tB t):=by
 intro pins s σ H Q I hw
 refine wpAny_isTrue_Compare1 (thn (h pins s σ H _ I hw) fun v s1 h1=>thn h1 fun u s2 h2=>thn h2 fun c s3 ⟨x,H1,I1,r1,q1⟩=>?_) h1
 obtain ⟨d,rfl,q⟩:=q1
 cases r1
 exact wpAny_truthy_bool ⟨H1,I1,q⟩
theorem pt_val {e:Expr} {t:TE} (h:PE X e t) (he:∀ whole,isTrue e X.env whole=(do let v ← whole; standAt e.pos; holding [v] (truthy v)):=by intro _; rfl):PT X e (tB t):=by
  intro pins s σ H Q I hw
  refine isTrue_plain (thn (h pins s σ H _ I hw) fun v s1 ⟨x,H1,I1,r1,q1⟩=>?_) (he _)
  obtain ⟨d,rfl,q⟩:=q1
  cases r1
  exact wpAny_truthy_bool ⟨H1,I1,q⟩
variable {tA tB':TT} {rest:List Expr}
def tAnd (t u:TT):TT:=fun σ H Q=>t σ H fun c H1=>if c=true then u σ H1 Q else Q false H1
def tOr (t u:TT):TT:=fun σ H Q=>t σ H fun c H1=>if c=true then Q true H1 else u σ H1 Q
def tNot (t:TT):TT:=fun σ H Q=>t σ H fun c H1=>Q (!c) H1
theorem pw_and1 (ha:PT X a tA):PW X (.BoolOp .And [a] pos) tA:=by
 intro wh pins s σ H Q I h
 refine isTrue_and (thn (ha pins s σ H Q I h) fun c s1 e=>?_)
 cases c with
 | true=>exact isTrue_and_nil e
 | false=>exact e
theorem pw_or1 (ha:PT X a tA):PW X (.BoolOp .Or [a] pos) tA:=by
 intro wh pins s σ H Q I h
 refine isTrue_or (thn (ha pins s σ H Q I h) fun c s1 e=>?_)
 cases c with
 | false=>exact isTrue_or_nil e
 | true=>exact e
theorem pw_and (ha:PT X a tA) (hb:PW X (.BoolOp .And (b :: rest) pos) tB'):PW X (.BoolOp .And (a :: b :: rest) pos) (tAnd tA tB'):=by
 intro wh pins s σ H Q I h
 refine isTrue_and (thn (ha pins s σ H _ I h) fun c s1 ⟨H1,I1,q1⟩=>?_)
 cases c with
 | true=>exact hb wh pins s1 σ H1 Q I1 q1
 | false=>exact ⟨H1,I1,q1⟩
theorem pw_or (ha:PT X a tA) (hb:PW X (.BoolOp .Or (b :: rest) pos) tB'):PW X (.BoolOp .Or (a :: b :: rest) pos) (tOr tA tB'):=by
 intro wh pins s σ H Q I h
 refine isTrue_or (thn (ha pins s σ H _ I h) fun c s1 ⟨H1,I1,q1⟩=>?_)
 cases c with
 | true=>exact ⟨H1,I1,q1⟩
 | false=>exact hb wh pins s1 σ H1 Q I1 q1
theorem pt_not (ha:PT X a tA):PT X (.UnaryOp .Not a pos) (tNot tA):=by
 intro pins s σ H Q I h
 exact isTrue_not (ha pins s σ H (fun c H1=>Q (!c) H1) I h)
def tAndV (ta tb:TE):TE:=fun σ H Q=>ta σ H fun x H1=>∃ c,x=.bl c∧if c=true then tb σ H1 Q else Q (.bl false) H1
def tNotV (ta:TE):TE:=fun σ H Q=>ta σ H fun x H1=>∃ c,x=.bl c∧Q (.bl (!c)) H1
theorem pe_one {op} {t:TE} (h:PE X a t):PE X (.BoolOp op [a] pos) t:=fun pins s σ H Q I hw=>BoolOp_one (h pins s σ H Q I hw)
theorem pe_and (ha:PE X a ta) (hb:PE X (.BoolOp .And (b :: rest) pos) tb):PE X (.BoolOp .And (a :: b :: rest) pos) (tAndV ta tb):=by
 intro pins s σ H Q I h
 refine BoolOp_and (thn (ha pins s σ H _ I h) fun v s1 ⟨x,H1,I1,r1,q1⟩=>?_)
 obtain ⟨c,rfl,q1⟩:=q1
 cases r1
 refine wpAny_truthy_bool ?_
 cases c with
 | true=>exact hb pins s1 σ H1 Q I1 q1
 | false=>exact ⟨.bl false,H1,I1,rfl,q1⟩
theorem pe_not (ha:PE X a ta):PE X (.UnaryOp .Not a pos) (tNotV ta):=by
 intro pins s σ H Q I h
 refine UnaryOp_ (thn (ha pins s σ H _ I h) fun v s1 ⟨x,H1,I1,r1,q1⟩=>?_)
 obtain ⟨c,rfl,q1⟩:=q1
 cases r1
 exact not_of (wpAny_truthy_bool ⟨.bl (!c),H1,I1,rfl,q1⟩)
def tIf (t:TT) (ta tb:TE):TE:=fun σ H Q=>t σ H fun c H1=>if c=true then ta σ H1 Q else tb σ H1 Q
theorem pe_ifExp {c:Expr} (hc:PT X c tA) (ha:PE X a ta) (hb:PE X b tb):PE X (.IfExp c a b pos) (tIf tA ta tb):=by
 intro pins s σ H Q I h
 refine wpAny_IfExp (thn (hc pins s σ H _ I h) fun d s1 ⟨H1,I1,q1⟩=>?_)
 cases d with
 | true=>exact ha pins s1 σ H1 Q I1 q1
 | false=>exact hb pins s1 σ H1 Q I1 q1
end
end L2
namespace L2
open PySem PySem.Spec PyProof.Rows
def SqL (K:PySem.W.Frag) (H:Hp) (a:Addr) (xs:List V):Prop :=
 Rd H a (.lst xs) ∨
  ∃ (o:Obj) (its:Array Value) (n:Nat),K.lookup a=some o∧o.cls=.type "list"∧o.dict=none∧o.data=.seq its n∧its.size≤sizeLine∧Vals xs its.toList
def SqT (K:PySem.W.Frag) (H:Hp) (a:Addr) (xs:List V):Prop :=
 Rd H a (.tup xs) ∨
  ∃ (o:Obj) (its:Array Value) (n:Nat),K.lookup a=some o∧o.cls=.type "tuple"∧o.data=.seq its n∧its.size≤sizeLine∧Vals xs its.toList
def absV:Value→Option V
 | .none=>some .non
 | .bool b=>some (.bl b)
 | .int i _=>some (.int i)
 | .str x _=>some (.str x)
 | .bytes b _=>some (.byt b)
 | .float b _=>some (.flt b)
 | .ref a=>some (.ref a)
 | .type n=>some (.ty n)
 | _=>none
theorem RelV.abs {x:V} {u:Value} (r:RelV x u):absV u=some x:=by
 cases x with
 | non=>cases r; rfl
 | bl _=>cases r; rfl
 | int _=>obtain ⟨t,rfl⟩:=r; rfl
 | str _=>obtain ⟨t,rfl⟩:=r; rfl
 | byt _=>obtain ⟨t,rfl⟩:=r; rfl
 | flt _=>obtain ⟨t,rfl⟩:=r; rfl
 | ref _=>cases r; rfl
 | ty _=>cases r; rfl
theorem RelV.inj {x y:V} {u:Value} (r:RelV x u) (q:RelV y u):x=y:=Option.some.inj (r.abs.symm.trans q.abs)
theorem Vals.inj:∀ {xs ys:List V} {us:List Value},Vals xs us→Vals ys us→xs=ys
 | _,_,_,.nil,.nil=>rfl
 | _,_,_,.cons r t,.cons r' t'=>by rw [r.inj r',Vals.inj t t']
section
variable {X:Cx} {pins:List (Addr × Obj)} {σ:St} {H:Hp} {s:Shared} {a:Addr} {xs ys:List V}
theorem SqL.of {K:PySem.W.Frag} (h:H a=some (.lst xs)):SqL K H a xs:=.inl (.inl h)
theorem SqT.of {K:PySem.W.Frag} (h:H a=some (.tup xs)):SqT K H a xs:=.inl (.inl h)
theorem Inv.list (I:Inv X pins σ H s) (h:SqL X.K H a xs):∃ its:List Value,Vals xs its∧PlainL s.heap a its.toArray∧xs.length≤sizeLine:=by
 rcases h with h | ⟨o,its,n,hk,hc,hd,hs,hz,r⟩
 ·obtain ⟨z,its,n,r,e⟩:=h.ok I.hok
  exact ⟨its,r,⟨_,n,e,rfl,rfl,rfl⟩,z⟩
 ·refine ⟨its.toList,r,⟨o,n,I.kIn a o hk,hc,hd,by simpa using hs⟩,?_⟩
  have e:=r.length
  simp only [Array.length_toList] at e
  omega
theorem Inv.tuple (I:Inv X pins σ H s) (h:SqT X.K H a xs):∃ its:List Value,Vals xs its∧IsTup s.heap a its.toArray∧xs.length≤sizeLine:=by
 rcases h with h | ⟨o,its,n,hk,hc,hs,hz,r⟩
 ·obtain ⟨z,its,r,p⟩:=h.ok I.hok
  exact ⟨its,r,p,z⟩
 ·refine ⟨its.toList,r,⟨o,I.kIn a o hk,hc,n,by simpa using hs⟩,?_⟩
  have e:=r.length
  simp only [Array.length_toList] at e
  omega
theorem Inv.list_inj (I:Inv X pins σ H s) (h:SqL X.K H a xs) (h':SqL X.K H a ys):xs=ys:=by
 obtain ⟨its,r,⟨o,n,e,_,_,d⟩,_⟩:=I.list h
 obtain ⟨its',r',⟨o',n',e',_,_,d'⟩,_⟩:=I.list h'
 rw [e] at e'; cases e'
 rw [d] at d'
 injection d' with d1 _
 have:its=its':=by simpa using congrArg Array.toList d1
 subst this
 exact r.inj r'
theorem Inv.tuple_inj (I:Inv X pins σ H s) (h:SqT X.K H a xs) (h':SqT X.K H a ys):xs=ys:=by
 obtain ⟨its,r,⟨o,e,_,n,d⟩,_⟩:=I.tuple h
 obtain ⟨its',r',⟨o',e',_,n',d'⟩,_⟩:=I.tuple h'
 rw [e] at e'; cases e'
 rw [d] at d'
 injection d' with d1 _
 have:its=its':=by simpa using congrArg Array.toList d1
 subst this
 exact r.inj r'
end
abbrev Cx.wish (X:Cx) (E:Value→Shared→Prop):Cx:={ X with xe:=E }
abbrev Cx.nox (X:Cx):Cx:=X.wish fun _ _=>False
theorem Cx.Ok.wish {X:Cx} (ok:X.Ok) (E:Value→Shared→Prop):(X.wish E).Ok :=
 ⟨ok.mod,ok.kind,ok.glob,ok.blt,ok.above,ok.inj,ok.has,ok.cab,ok.hd,ok.frames,ok.stk,ok.exf,ok.bs,ok.bsz,ok.noex,ok.exfs,ok.funs,ok.frf⟩
theorem Cx.Ok.unwish {X:Cx} {E:Value→Shared→Prop} (ok:(X.wish E).Ok):X.Ok :=
 ⟨ok.mod,ok.kind,ok.glob,ok.blt,ok.above,ok.inj,ok.has,ok.cab,ok.hd,ok.frames,ok.stk,ok.exf,ok.bs,ok.bsz,ok.noex,ok.exfs,ok.funs,ok.frf⟩
section
variable {X:Cx} {pins:List (Addr × Obj)} {σ:St} {H:Hp} {s:Shared} {E:Value→Shared→Prop}
theorem Inv.wish (I:Inv X pins σ H s) (E:Value→Shared→Prop):Inv (X.wish E) pins σ H s:=⟨I.ok.wish E,I.os,I.bare,I.base,I.loc,I.cell,I.free,I.freeC,I.pin,I.hok,I.len⟩
theorem Inv.unwish (I:Inv (X.wish E) pins σ H s):Inv X pins σ H s:=⟨I.ok.unwish,I.os,I.bare,I.base,I.loc,I.cell,I.free,I.freeC,I.pin,I.hok,I.len⟩
theorem SP.unwish {D:Ends} {f:Flow} {s':Shared} (h:SP (X.wish E) pins D f s'):SP X pins D f s':=by
 cases f with
 | next=>obtain ⟨σ',H',I,q⟩:=h; exact ⟨σ',H',I.unwish,q⟩
 | brk=>obtain ⟨σ',H',I,q⟩:=h; exact ⟨σ',H',I.unwish,q⟩
 | cont=>obtain ⟨σ',H',I,q⟩:=h; exact ⟨σ',H',I.unwish,q⟩
 | ret u=>obtain ⟨v,σ',H',I,r,q⟩:=h; exact ⟨v,σ',H',I.unwish,r,q⟩
theorem PSs.nox {st:List Stmt} {t:TS} (h:PSs X.nox st t):PSs X st t:=fun pins s σ H D I hw =>
 wpAny_mono (h pins s σ H D (I.wish _) hw) (fun _ _ q=>q.unwish) fun _ _ z=>False.elim z
end
section
variable {X:Cx} {st:Stmt} {rest:List Stmt} {t u:TS} {e:Expr} {te:TE} {pos:Pos}
def tNext:TS:=fun D σ H=>D.nx σ H
def tSeq (t u:TS):TS:=fun D σ H=>t { D with nx:=u D } σ H
theorem pss_nil:PSs X [] tNext:=fun _ _ σ H _ I h=>wpAny_execs_nil ⟨σ,H,I,h⟩
theorem pss_cons (h1:PS X st t) (h2:PSs X rest u):PSs X (st :: rest) (tSeq t u):=by
 intro pins s σ H D I h
 refine wpAny_execs_cons (thn (h1 pins s σ H { D with nx:=u D } I h) fun f s1 q=>?_)
 cases f with
 | next =>
  obtain ⟨σ',H',I',q⟩:=q
  exact h2 pins s1 σ' H' D I' q
 | ret v=>exact q
 | brk=>exact q
 | cont=>exact q
theorem pss_one (h1:PS X st t):PSs X [st] t:=by
 intro pins s σ H D I h
 refine wpAny_execs_cons (thn (h1 pins s σ H D I h) fun f s1 q=>?_)
 cases f with
 | next=>exact wpAny_execs_nil q
 | ret v=>exact q
 | brk=>exact q
 | cont=>exact q
theorem Inv.quiet {pins:List (Addr × Obj)} {σ:St} {H:Hp} {s:Shared} (I:Inv X pins σ H s):interactive X.env=false:=by simp [interactive,I.ok.kind]
def tDrop (te:TE):TS:=fun D σ H=>te σ H fun _ H1=>D.nx σ H1
theorem ps_expr (he:PE X e te) (hs:swapsWith e none pos.line X.env=pure false:=by rfl):PS X (.Expr e pos) (tDrop te):=by
 intro pins s σ H D I h
 exact wpAny_Expr_any (thn (he pins s σ H _ I h) fun v s1 ⟨x,H1,I1,r1,q1⟩=>⟨σ,H1,I1,q1⟩) I.quiet hs
def tRet (te:TE):TS:=fun D σ H=>te σ H D.rt
theorem ps_ret (he:PE X e te):PS X (.Return (some e) pos) (tRet te):=by
 intro pins s σ H D I h
 exact wpAny_Return_some (thn (he pins s σ H _ I h) fun v s1 ⟨x,H1,I1,r1,q1⟩=>⟨x,σ,H1,I1,r1,q1⟩)
def tIfS (c:TT) (t u:TS):TS:=fun D σ H=>c σ H fun b H1=>if b=true then t D σ H1 else u D σ H1
theorem ps_if {c:Expr} {a b:List Stmt} {tc:TT} (hc:PT X c tc) (ha:PSs X a t) (hb:PSs X b u):PS X (.If c a b pos) (tIfS tc t u):=by
 intro pins s σ H D I h
 refine wpAny_If (thn (hc pins s σ H _ I h) fun d s1 ⟨H1,I1,q1⟩=>?_)
 cases d with
 | true=>exact ha pins s1 σ H1 D I1 q1
 | false=>exact hb pins s1 σ H1 D I1 q1
end
abbrev TG:=V→St→Hp→(St→Hp→Prop)→Prop
abbrev TGs:=List V→St→Hp→(St→Hp→Prop)→Prop
def PG (X:Cx) (target:Expr) (t:TG):Prop :=
 ∀ (pins:List (Addr × Obj)) (s:Shared) (σ:St) (H:Hp) (v:V) (u:Value) (Q:St→Hp→Prop),Inv X pins σ H s→RelV v u→t v σ H Q →
  wpAny (model X.prog X.w) X.A (assign target X.env u) (fun _ s'=>∃ σ' H',Inv X pins σ' H' s'∧Q σ' H') X.xe s
def PGs (X:Cx) (ts:List Expr) (t:TGs):Prop :=
 ∀ (pins:List (Addr × Obj)) (s:Shared) (σ:St) (H:Hp) (vs:List V) (us:List Value) (Q:St→Hp→Prop),Inv X pins σ H s→Vals vs us→t vs σ H Q →
  wpAny (model X.prog X.w) X.A (assignInOrder ((assignEach ts X.env).map (·.2)) us) (fun _ s'=>∃ σ' H',Inv X pins σ' H' s'∧Q σ' H') X.xe s
abbrev TSet:=V→V→V→Hp→(Hp→Prop)→Prop
def PSet (X:Cx) (t:TSet):Prop :=
 ∀ (pins:List (Addr × Obj)) (s:Shared) (σ:St) (H:Hp) (o i v:V) (ov iv u:Value) (Q:Hp→Prop),Inv X pins σ H s→RelV o ov→RelV i iv→RelV v u→t o i v H Q →
  wpAny (model X.prog X.w) X.A (setItem ov iv u) (fun _ s'=>∃ H',Inv X pins σ H' s'∧Q H') X.xe s
abbrev TIp:=V→V→Hp→VK→Prop
def PIp (X:Cx) (op:Operator) (t:TIp):Prop :=
 ∀ (pins:List (Addr × Obj)) (s:Shared) (σ:St) (H:Hp) (x y:V) (v u:Value) (Q:VK),Inv X pins σ H s→RelV x v→RelV y u→t x y H Q →
  wpAny (model X.prog X.w) X.A (inplaceOp op v u) (EP X pins σ Q) X.xe s
section
variable {X:Cx} {pos:Pos}
def gName (i:Nat):TG:=fun v σ H Q=>Q (σ.set i (some v)) H
theorem pg_name {i:Nat} {x:Str} (hN:X.N.Nodup) (hi:X.N[i]?=some x) (hx:Loc X.env.scope x) (hf:X.fn x=true∨X.env.scope.names.lookup x=some .local:=by first | exact .inl rfl | exact .inr rfl | assumption):PG X (.Name x pos) (gName i):=by
 intro pins s σ H v u Q I r h
 exact wpAny_assign_Name (store_ok I hN hi hx r (fun s' I'=>⟨_,H,I',h⟩) hf)
def gNil:TGs:=fun vs σ H Q=>vs=[]∧Q σ H
def gCons (t:TG) (u:TGs):TGs:=fun vs σ H Q=>∃ v r,vs=v :: r∧t v σ H fun σ' H'=>u r σ' H' Q
theorem pgs_nil:PGs X [] gNil:=by
 intro pins s σ H vs us Q I r h
 obtain ⟨e,h⟩:=h
 subst e
 cases r
 exact assignInOrder_nil ⟨σ,H,I,h⟩
theorem pgs_cons {e:Expr} {es:List Expr} {t:TG} {u:TGs} (h1:PG X e t) (h2:PGs X es u)
  (hs:(assignEach (e :: es) X.env).map (·.2)=assign e X.env :: (assignEach es X.env).map (·.2):=by rfl):PGs X (e :: es) (gCons t u):=by
 intro pins s σ H vs us Q I r h
 obtain ⟨v,vr,e1,h⟩:=h
 subst e1
 cases r with
 | cons r rr =>
  rw [hs]
  refine assignInOrder_cons (thn (h1 pins s σ H _ _ _ I r h) fun _ s1 ⟨σ1,H1,I1,q1⟩=>?_)
  exact h2 pins s1 σ1 H1 _ _ Q I1 rr q1
def gTup (K:PySem.W.Frag) (n:Nat) (t:TGs):TG:=fun v σ H Q=>∃ a xs,v=.ref a∧SqT K H a xs∧xs.length=n∧t xs σ H Q
theorem pg_tup {es:List Expr} {k:Nat} {t:TGs} {n:Nat} (hc:X.calm=true) (h:PGs X es t)
  (hn:(assignEach es X.env).length=n:=by rfl) (hst:(assignEach es X.env).findIdx? (·.1)=none:=by rfl):PG X (.Tuple es k pos) (gTup X.K n t):=by
 intro pins s σ H v u Q I r hw
 obtain ⟨a,xs,e1,hq,hl,hw⟩:=hw
 subst e1
 cases r
 obtain ⟨its,rv,ht,hz⟩:=I.tuple hq
 refine assign_Tuple_tuple (I.ok.hd hc) ht (by simp [hn,← hl,rv.length]) hst fun h' hx=>?_
 have I1:Inv X pins σ H { s with heap:=h' }:=I.kept (t':=s.toks) fun b o e=>hx b o (Nat.ne_of_lt (Heap.lt_size e)) e
 exact h pins _ σ H xs _ Q I1 (by simpa using rv) hw
def gSub (to ti:TE) (t:TSet):TG:=fun v σ H Q=>to σ H fun o H1=>ti σ H1 fun i H2=>t o i v H2 fun H3=>Q σ H3
theorem pg_sub {o i:Expr} {to ti:TE} {t:TSet} (ho:PE X o to) (hi:PE X i ti) (hs:PSet X t)
    (ha:∀ v,assign (.Subscript o i pos) X.env v=(do
      let ov ← holding [v] (eval o X.env)
      let iv ← holding [v,ov] (eval i X.env)
      standAt pos
      holding [v,ov,iv] (setItem ov iv v)
      release [v,ov,iv] []):=by intro _; rfl):PG X (.Subscript o i pos) (gSub to ti t):=by
  intro pins s σ H v u Q I r h
  rw [ha]
  refine wpAny_bind (wpAny_holding (thn (ho pins s σ H _ I h) fun ov s1 ⟨x,H1,I1,r1,q1⟩=>?_))
  refine wpAny_bind (wpAny_holding (thn (hi pins s1 σ H1 _ I1 q1) fun iv s2 ⟨y,H2,I2,r2,q2⟩=>?_))
  refine wpAny_bind (wpAny_standAt (wpAny_bind (wpAny_holding (thn (hs pins s2 σ H2 x y v ov iv u _ I2 r1 r2 r q2) fun _ s3 ⟨H3,I3,q3⟩=>?_))))
  exact wpAny_release ⟨σ,H3,I3,q3⟩
def tAsg (te:TE) (g:TG):TS:=fun D σ H=>te σ H fun x H1=>g x σ H1 D.nx
theorem ps_asg {tg e:Expr} {te:TE} {g:TG} (he:PE X e te) (hg:PG X tg g) (hs:swapsWithSole [tg] e pos.line X.env=pure false:=by rfl) (hw:swappedStores [tg] e X.env=pure none:=by rfl)
  (h1:(assignEach [tg] X.env).map (·.2)=[assign tg X.env]:=by rfl):PS X (.Assign [tg] e pos) (tAsg te g):=by
 intro pins s σ H D I h
 refine wpAny_Assign_stores (thn (he pins s σ H _ I h) fun v s1 ⟨x,H1,I1,r1,q1⟩=>?_) hs hw
 rw [h1]
 exact thn (hg pins s1 σ H1 x v _ I1 r1 q1) fun _ s2 q=>q
theorem ps_set {i:Nat} {x:Str} {e:Expr} {te:TE} {pos':Pos} (hN:X.N.Nodup) (hi:X.N[i]?=some x) (hx:Loc X.env.scope x) (he:PE X e te) (hs:swapsWith e (some (.Name x pos')) pos.line X.env=pure false:=by rfl) (hf:X.fn x=true∨X.env.scope.names.lookup x=some .local:=by first | exact .inl rfl | exact .inr rfl | assumption) :
  PS X (.Assign [.Name x pos'] e pos) (tAsg te (gName i)):=by
 intro pins s σ H D I h
 refine wpAny_Assign_Name (thn (he pins s σ H _ I h) fun v s1 ⟨y,H1,I1,r1,q1⟩=>?_) hs
 exact store_ok I1 hN hi hx r1 (fun s2 I2=>⟨_,H1,I2,q1⟩) hf
def tAug (i:Nat) (te:TE) (ti:TIp):TS:=fun D σ H=>∃ x,σ[i]?=some (some x)∧te σ H fun y H1=>ti x y H1 fun z H2=>D.nx (σ.set i (some z)) H2
theorem ps_aug {i:Nat} {x:Str} {e:Expr} {te:TE} {op:Operator} {ti:TIp} {pos':Pos} (hN:X.N.Nodup) (hi:X.N[i]?=some x) (hx:Loc X.env.scope x) (he:PE X e te) (ho:PIp X op ti) (hf:X.fn x=true∨X.env.scope.names.lookup x=some .local:=by first | exact .inl rfl | exact .inr rfl | assumption) :
  PS X (.AugAssign (.Name x pos') op e pos) (tAug i te ti):=by
 intro pins s σ H D I h
 obtain ⟨v,e1,h⟩:=h
 obtain ⟨m,hn,hl⟩:=I.loc
 have vis:Vis X.env.scope x:=by rcases hx with k | k; exact .inl k; exact .inr (.inl k)
 obtain ⟨u,r,l⟩:=hl i x v hi e1 vis
 refine wpAny_AugAssign_Name ?_
 have go:wpAny (model X.prog X.w) X.A (eval e X.env) (fun w s₂=>wpAny (model X.prog X.w) X.A (inplaceOp op u w) (fun r s₃=>wpAny (model X.prog X.w) X.A (storeName X.env x r) (fun _=>SP X pins D .next) X.xe s₃) X.xe s₂) X.xe s:=by
  refine thn (he pins s σ H _ I h) fun w s1 ⟨y,H1,I1,r1,q1⟩=>?_
  refine thn (ho pins s1 σ H1 v y u w _ I1 r r1 q1) fun z s2 ⟨zv,H2,I2,r2,q2⟩=>?_
  exact store_ok I2 hN hi hx r2 (fun s3 I3=>⟨_,H2,I3,q2⟩) hf
 rcases l with ⟨hk,hm⟩ | ⟨hk,c,hc,hcell⟩
 ·exact wpAny_loadName_local I.ok.kind hk hn hm go
 ·rcases hk with hk | hk
  ·exact wpAny_loadName_cell I.ok.kind hk hc hcell go
  ·rcases hx with k | k
   ·have:X.env.scope.names.lookup x=some .free:=hk
    rw [k] at this; cases this
   ·have:X.env.scope.names.lookup x=some .free:=hk
    rw [k] at this; cases this
def ipI (f:Int→Int→Int):TIp:=fun x y H Q=>∃ i j,x=.int i∧y=.int j∧Q (.int (f i j)) H
theorem ip_sub:PIp X .Sub (ipI fun i j=>i - j):=by
 intro pins s σ H x y v u Q I r1 r2 h
 obtain ⟨i,j,e1,e2,q⟩:=h
 subst e1; subst e2
 obtain ⟨t,rfl⟩:=r1
 obtain ⟨t',rfl⟩:=r2
 exact isub_int ⟨.int _,H,I.tok _,⟨_,rfl⟩,q⟩
end
section
variable {X:Cx} {pos:Pos}
def tWhile (c:TT) (tb:TS):TS:=fun D σ H=>∃ W:Nat→St→Hp→Prop,(∃ m,W m σ H)∧∀ m σ H,W m σ H →
 c σ H fun b H1=>if b=true then ∃ N:St→Hp→Prop,(∀ σ' H',N σ' H'→∃ m',m' < m∧W m' σ' H')∧tb { D with nx:=N,ct:=N,bk:=D.nx } σ H1 else D.nx σ H1
theorem ps_while {c:Expr} {body:List Stmt} {tc:TT} {tb:TS} (hp:PassesOwn (model X.prog X.w) X.A X.env X.xe) (hc:PT X c tc) (hb:PSs X body tb):PS X (.While c body [] pos) (tWhile tc tb):=by
 intro pins s σ H D I h
 obtain ⟨W,⟨m0,w0⟩,turn⟩:=h
 refine wpAny_While (codeAny_whileLoop (fun n s'=>∃ σ' H',Inv X pins σ' H' s'∧W n σ' H') ?_ m0 ⟨σ,H,I,w0⟩)
 rintro n s1 ⟨σ1,H1,I1,w1⟩
 refine wpAny_passesOwn hp (thn (hc pins s1 σ1 H1 _ I1 (turn n σ1 H1 w1)) fun b s2 ⟨H2,I2,q2⟩=>?_)
 cases b with
 | true =>
  obtain ⟨N,hN,q2⟩:=q2
  rw [if_pos rfl]
  refine wpAny_passesOwn hp (thn (hb pins s2 σ1 H2 _ I2 q2) fun f s3 q3=>?_)
  cases f with
  | next =>
   obtain ⟨σ3,H3,I3,n3⟩:=q3
   obtain ⟨m',hm,w3⟩:=hN σ3 H3 n3
   exact ⟨m',hm,σ3,H3,I3,w3⟩
  | cont =>
   obtain ⟨σ3,H3,I3,n3⟩:=q3
   obtain ⟨m',hm,w3⟩:=hN σ3 H3 n3
   exact ⟨m',hm,σ3,H3,I3,w3⟩
  | brk=>exact q3
  | ret v=>exact q3
 | false =>
  rw [if_neg Bool.false_ne_true]
  exact wpAny_execs_nil ⟨σ1,H2,I2,q2⟩
end
structure It where
 go:Nat→Hp→Prop
 yld:Nat→Hp→V→Hp→Prop
 stop:Nat→Hp→Prop
def FpOk (X:Cx) (pins:List (Addr × Obj)) (H:Hp) (b:Addr):Prop :=
 H b=none∧b≠X.env.locals∧b ∉ X.fs∧(b∈X.ex∨X.s₀.heap.objs.size≤b)∧(∀ x c,X.env.cells.lookup x=some c→c≠b)∧∀ p∈X.pn++pins,p.1≠b
theorem Inv.fpOk {X:Cx} {pins:List (Addr × Obj)} {σ:St} {H H':Hp} {s:Shared} {b:Addr} (I:Inv X pins σ H s) (hb:s.heap.objs.size≤b) (hn:H' b=none):FpOk X pins H' b:=by
 refine ⟨hn,Nat.ne_of_gt (Nat.lt_of_lt_of_le I.lt hb),I.nofs hb,.inr (Nat.le_trans I.sz hb),fun x c e z=>?_,fun p hp z=>?_⟩
 ·obtain ⟨v,q⟩:=I.cell x c e
  exact absurd (Nat.lt_of_lt_of_le q.lt (by rw [z]; exact hb)) (Nat.lt_irrefl _)
 ·exact absurd (Nat.lt_of_lt_of_le (Heap.lt_size (I.pin p hp).1) (by rw [z]; exact hb)) (Nat.lt_irrefl _)
structure Turn (P:Program) (w:World) (K:PySem.W.Frag) (tg:Expr) (J:It) (fp:List Addr) (it:Addr) (tn:Nat→Heap→Prop):Prop where
 mem:it∈fp
 obj:∀ i h,tn i h→∀ b∈fp,∃ o,h.get? b=some o∧∀ v,o.data≠.cell v
 keep:∀ i h h',tn i h→(∀ b∈fp,∀ o,h.get? b=some o→h'.get? b=some o)→tn i h'
 item:∀ (X:Cx),X.prog=P→X.w=w→X.K=K→X.calm=true→∀ (i:Nat) (pins:List (Addr × Obj)) (s:Shared) (σ:St) (H:Hp) (E:Value→Shared→Prop),Inv X pins σ H s→(∀ b∈fp,FpOk X pins H b)→tn i s.heap→J.go i H →
  wpAny (model P w) X.A (pyNext (.ref it)) (fun r s1=>∃ u,r=some u ∧
   wpAny (model P w) X.A (letOwnedTupleGo tg (.ref it) u) (fun _ s2=>∃ x H',Inv X pins σ H' s2∧RelV x u∧J.yld i H x H'∧tn (i+1) s2.heap∧∀ b∈fp,H' b=none) E s1) E s
 done:∀ (X:Cx),X.prog=P→X.w=w→X.K=K→X.calm=true→∀ (i:Nat) (pins:List (Addr × Obj)) (s:Shared) (σ:St) (H:Hp) (E:Value→Shared→Prop),Inv X pins σ H s→(∀ b∈fp,FpOk X pins H b)→tn i s.heap→J.stop i H →
  wpAny (model P w) X.A (pyNext (.ref it)) (fun r s1=>r=none∧Inv X pins σ H s1) E s
 self:∀ (A:Around) (i:Nat) (s:Shared) (Q:Value→Shared→Prop) (E:Value→Shared→Prop),tn i s.heap→Q (.ref it) s→wpAny (model P w) A (pyIter (.ref it)) Q E s
abbrev TI:=St→Hp→(It→Hp→Prop)→Prop
def PIE (X:Cx) (pins:List (Addr × Obj)) (σ:St) (tg:Expr) (R:It→Hp→Prop) (itv:Value) (s2:Shared):Prop :=
 ∃ (it:Addr) (fp:List Addr) (tn:Nat→Heap→Prop) (J:It) (H':Hp),itv=.ref it∧Inv X pins σ H' s2∧Turn X.prog X.w X.K tg J fp it tn∧tn 0 s2.heap∧(∀ b∈fp,FpOk X pins H' b)∧R J H'
def PI (X:Cx) (tg iter:Expr) (wi:TI):Prop :=
 ∀ (pins:List (Addr × Obj)) (s:Shared) (σ:St) (H:Hp) (R:It→Hp→Prop),Inv X pins σ H s→wi σ H R →
  wpAny (model X.prog X.w) X.A (eval iter X.env) (fun v s1=>wpAny (model X.prog X.w) X.A (pyIter v) (PIE X pins σ tg R) X.xe s1) X.xe s
theorem go_of {M:Model} {A:Around} {E:Value→Shared→Prop} {s:Shared} {tg:Expr} {it:Addr} {u:Value} {o:Obj} {n:String} {vs:Array Value} {Q:Unit→Shared→Prop} (ho:s.heap.get? it=some o) (hc:o.cls=.type n) (hd:o.data=.fields vs)
    (hn:["enumerate","zip","dict_itemiterator","dict_reverseitemiterator","odict_iterator","itertools.zip_longest","itertools.pairwise"].contains n=false) (hQ:Q () s):wpAny M A (letOwnedTupleGo tg (.ref it) u) Q E s:=by
  unfold letOwnedTupleGo
  cases tg <;> first
    | exact wpAny_pure hQ
    | (cases u <;> first
        | exact wpAny_pure hQ
        | (refine wpAny_bind (wpAny_load ho ?_)
           rw [hc,hd]
           show wpAny M A (if (["enumerate","zip","dict_itemiterator","dict_reverseitemiterator","odict_iterator","itertools.zip_longest","itertools.pairwise"].contains n && vs[0]? == some (rawInt _))=true then _ else _) Q E s
           rw [if_neg (by intro h; rw [hn,Bool.false_and] at h; cases h)]
           exact wpAny_pure hQ))
def Itl (K:PySem.W.Frag) (a:Addr):It :=
 ⟨fun i H=>∃ xs x,SqL K H a xs∧xs[i]?=some x,fun i H x H'=>H'=H∧∀ xs,SqL K H a xs→xs[i]?=some x,fun i H=>∃ xs,SqL K H a xs∧xs.length≤i⟩
def Itt (K:PySem.W.Frag) (a:Addr):It :=
 ⟨fun i H=>∃ xs x,SqT K H a xs∧xs[i]?=some x,fun i H x H'=>H'=H∧∀ xs,SqT K H a xs→xs[i]?=some x,fun i H=>∃ xs,SqT K H a xs∧xs.length≤i⟩
def Itr (lo:Int) (n:Nat):It:=⟨fun i _=>i < n,fun i H x H'=>H'=H∧x=.int (lo+i),fun i _=>n≤i⟩
theorem turn_list {P:Program} {w:World} {K:PySem.W.Frag} {tg:Expr} (a it:Addr):Turn P w K tg (Itl K a) [it] it (fun i h=>h.IsListIter it a i) where
 mem:=by simp
 obj:=fun i h st b hb=>by
  have e:b=it:=by simpa using hb
  subst e
  obtain ⟨o,e,c,d⟩:=st
  exact ⟨o,e,fun v z=>by rw [d] at z; cases z⟩
 keep:=fun i h h' st k=>st.at fun o e=>k it (by simp) o e
 item:=by
  intro X hP hw hK hc i pins s σ H E I hf st hg
  subst hP hw hK
  obtain ⟨xs,x,hq,hx⟩:=hg
  obtain ⟨its,rv,p,hz⟩:=I.list hq
  obtain ⟨u,hu,ru⟩:=rv.get hx
  obtain ⟨f0,f1,f2,f3,f4,f5⟩:=hf it (by simp)
  refine wpAny_pyNext_list_item st p.isList (x:=u) (by simpa using hu) fun h' st' sb=>?_
  have I1:Inv X pins σ H { s with heap:=h' }:=I.turned (t':=s.toks) (fun b o hb e=>(sb.2 b hb).trans e) f0 f1 f3 f4 f5
  obtain ⟨o,e,c,d⟩:=id st'
  exact ⟨u,rfl,go_of (s:={ s with heap:=h' }) e c d (by decide) ⟨x,H,I1,ru,⟨rfl,fun ys hy=>by rw [I.list_inj hy hq]; exact hx⟩,st',fun b hb=>(hf b hb).1⟩⟩
 done:=by
  intro X hP hw hK hc i pins s σ H E I hf st hg
  subst hP hw hK
  obtain ⟨xs,hq,hx⟩:=hg
  obtain ⟨its,rv,p,hz⟩:=I.list hq
  obtain ⟨f0,f1,f2,f3,f4,f5⟩:=hf it (by simp)
  have hl:=rv.length
  exact wpAny_pyNext_list_end (I.ok.hd hc) st p.isList (by simp; omega) fun h' eb=>⟨rfl,I.turned (t':=s.toks) (fun b o hb e=>eb b o hb e) f0 f1 f3 f4 f5⟩
 self:=fun _ _ _ _ _ st h=>wpAny_pyIter_listiter st h
theorem turn_tuple {P:Program} {w:World} {K:PySem.W.Frag} {tg:Expr} (a it:Addr):Turn P w K tg (Itt K a) [it] it (fun i h=>h.IsTupleIter it a i) where
 mem:=by simp
 obj:=fun i h st b hb=>by
  have e:b=it:=by simpa using hb
  subst e
  obtain ⟨o,e,c,d⟩:=st
  exact ⟨o,e,fun v z=>by rw [d] at z; cases z⟩
 keep:=fun i h h' st k=>st.at fun o e=>k it (by simp) o e
 item:=by
  intro X hP hw hK hc i pins s σ H E I hf st hg
  subst hP hw hK
  obtain ⟨xs,x,hq,hx⟩:=hg
  obtain ⟨its,rv,p,hz⟩:=I.tuple hq
  obtain ⟨u,hu,ru⟩:=rv.get hx
  obtain ⟨f0,f1,f2,f3,f4,f5⟩:=hf it (by simp)
  refine wpAny_pyNext_tuple_item st (show s.heap.IsTuple a its.toArray from p) (x:=u) (by simpa using hu) fun h' st' sb=>?_
  have I1:Inv X pins σ H { s with heap:=h' }:=I.turned (t':=s.toks) (fun b o hb e=>(sb.2 b hb).trans e) f0 f1 f3 f4 f5
  obtain ⟨o,e,c,d⟩:=id st'
  exact ⟨u,rfl,go_of (s:={ s with heap:=h' }) e c d (by decide) ⟨x,H,I1,ru,⟨rfl,fun ys hy=>by rw [I.tuple_inj hy hq]; exact hx⟩,st',fun b hb=>(hf b hb).1⟩⟩
 done:=by
  intro X hP hw hK hc i pins s σ H E I hf st hg
  subst hP hw hK
  obtain ⟨xs,hq,hx⟩:=hg
  obtain ⟨its,rv,p,hz⟩:=I.tuple hq
  obtain ⟨f0,f1,f2,f3,f4,f5⟩:=hf it (by simp)
  have hl:=rv.length
  exact wpAny_pyNext_tuple_end (I.ok.hd hc) st (show s.heap.IsTuple a its.toArray from p) (by simp; omega) fun h' eb=>⟨rfl,I.turned (t':=s.toks) (fun b o hb e=>eb b o hb e) f0 f1 f3 f4 f5⟩
 self:=fun _ _ _ _ _ st h=>wpAny_pyIter_tupleiter st h
theorem turn_range {P:Program} {w:World} {K:PySem.W.Frag} {tg:Expr} (it:Addr) (lo:Int) (n:Nat):Turn P w K tg (Itr lo n) [it] it (fun i h=>IsRangeIter h it (lo+(i:Nat) * 1) ((n:Int) - (i:Nat)) 1) where
 mem:=by simp
 obj:=fun i h st b hb=>by
  have e:b=it:=by simpa using hb
  subst e
  exact ⟨_,st,fun v z=>by
   have z':Data.fields _=Data.cell v:=z
   cases z'⟩
 keep:=fun i h h' st k=>k it (by simp) _ st
 item:=by
  intro X hP hw hK hc i pins s σ H E I hf st hg
  subst hP hw hK
  obtain ⟨f0,f1,f2,f3,f4,f5⟩:=hf it (by simp)
  have W:=Walks.range (prog:=X.prog) (w:=X.w) (I.ok.hd hc) it lo 1 n
  refine W.item i s _ _ hg st fun v h' tk hv st' kk=>?_
  obtain ⟨t,rfl⟩:=hv
  have I1:Inv X pins σ H { s with heap:=h',toks:=tk }:=I.turned (fun b o hb e=>kk b o (by simpa using hb) e) f0 f1 f3 f4 f5
  refine ⟨_,rfl,go_of (s:={ s with heap:=h',toks:=tk }) (n:="range_iterator") st' rfl rfl (by decide) ⟨.int (lo+i),H,I1,⟨t,?_⟩,⟨rfl,rfl⟩,st',fun b hb=>(hf b hb).1⟩⟩
  rw [Int.mul_one]
 done:=by
  intro X hP hw hK hc i pins s σ H E I hf st hg
  subst hP hw hK
  obtain ⟨f0,f1,f2,f3,f4,f5⟩:=hf it (by simp)
  exact wpAny_pyNext_range_end (I.ok.hd hc) st (by have:n≤i:=hg; omega) fun h' eb=>⟨rfl,I.turned (t':=s.toks) (fun b o hb e=>eb b o hb e) f0 f1 f3 f4 f5⟩
 self:=fun _ _ _ _ _ st h=>wpAny_pyIter_rangeiter st h
end L2
namespace L2
open PySem PySem.Spec PyProof.Rows
section
variable {X:Cx} {tg:Expr}
def iList (K:PySem.W.Frag) (tl:TE):TI:=fun σ H R=>tl σ H fun x H1=>∃ a,x=.ref a∧(∃ xs,SqL K H1 a xs)∧R (Itl K a) H1
def iTup (K:PySem.W.Frag) (tl:TE):TI:=fun σ H R=>tl σ H fun x H1=>∃ a,x=.ref a∧(∃ xs,SqT K H1 a xs)∧R (Itt K a) H1
theorem pi_list {l:Expr} {tl:TE} (hl:PE X l tl):PI X tg l (iList X.K tl):=by
 intro pins s σ H R I h
 refine thn (hl pins s σ H _ I h) fun v s1 ⟨x,H1,I1,r1,q1⟩=>?_
 obtain ⟨a,e,⟨xs,hq⟩,q⟩:=q1
 subst e
 cases r1
 obtain ⟨its,rv,p,hz⟩:=I1.list hq
 refine wpAny_pyIter_list p.isList ?_
 refine ⟨s1.heap.objs.size,[s1.heap.objs.size],_,_,H1,rfl,I1.kept (t':=s1.toks) fun b o e=>Heap.get?_push_of_some _ e,turn_list a _,⟨_,Heap.get?_push_size _ rfl,rfl,rfl⟩,fun b hb=>?_,q⟩
 have e:b=s1.heap.objs.size:=by simpa using hb
 subst e
 exact I1.fpOk (Nat.le_refl _) (I1.hok.fresh (Nat.le_refl _))
theorem pi_tup {l:Expr} {tl:TE} (hl:PE X l tl):PI X tg l (iTup X.K tl):=by
 intro pins s σ H R I h
 refine thn (hl pins s σ H _ I h) fun v s1 ⟨x,H1,I1,r1,q1⟩=>?_
 obtain ⟨a,e,⟨xs,hq⟩,q⟩:=q1
 subst e
 cases r1
 obtain ⟨its,rv,p,hz⟩:=I1.tuple hq
 refine wpAny_pyIter_tuple (show s1.heap.IsTuple a its.toArray from p) ?_
 refine ⟨s1.heap.objs.size,[s1.heap.objs.size],_,_,H1,rfl,I1.kept (t':=s1.toks) fun b o e=>Heap.get?_push_of_some _ e,turn_tuple a _,⟨_,Heap.get?_push_size _ rfl,rfl,rfl⟩,fun b hb=>?_,q⟩
 have e:b=s1.heap.objs.size:=by simpa using hb
 subst e
 exact I1.fpOk (Nat.le_refl _) (I1.hok.fresh (Nat.le_refl _))
theorem range_it {pins:List (Addr × Obj)} {σ:St} {H:Hp} {s:Shared} {R:It→Hp→Prop} {E:Value→Shared→Prop} {lo hi:Int} {t u v:Tok} {tk:Nat} (I:Inv X pins σ H s) (h1:-(2^62)≤lo) (h2:lo < 2^62) (h3:-(2^62)≤hi) (h4:hi < 2^62)
  (q:R (Itr lo (hi - lo).toNat) H):wpAny (model X.prog X.w) X.A (pyIter (.ref s.heap.objs.size)) (PIE X pins σ tg R) E { s with heap:=s.heap.push { cls:=.type "range",data:=.fields #[.int lo t,.int hi u,.int 1 v] },toks:=tk }:=by
 refine wpAny_pyIter_range (IsRange.new ..) (small_one h1 h2 h3 h4) ?_
 have I1:Inv X pins σ H { s with heap:=s.heap.push { cls:=.type "range",data:=.fields #[.int lo t,.int hi u,.int 1 v] },toks:=tk }:=I.kept fun b o e=>Heap.get?_push_of_some _ e
 refine ⟨(s.heap.push { cls:=.type "range",data:=.fields #[.int lo t,.int hi u,.int 1 v] }).objs.size,[(s.heap.push { cls:=.type "range",data:=.fields #[.int lo t,.int hi u,.int 1 v] }).objs.size],_,_,H,rfl,
  I1.kept (t':=tk) fun b o e=>Heap.get?_push_of_some _ e,turn_range _ lo (hi - lo).toNat,?_,fun b hb=>?_,q⟩
 ·have e1:lo+((0:Nat):Int) * 1=lo:=by simp
  have e2:(((hi - lo).toNat:Nat):Int) - ((0:Nat):Int)=Builtin.Range.rangeSize lo hi 1:=by rw [rangeSize_one]; split <;> omega
  show IsRangeIter _ _ (lo+((0:Nat):Int) * 1) ((((hi - lo).toNat:Nat):Int) - ((0:Nat):Int)) 1
  rw [e1,e2]
  exact Heap.get?_push_size _ rfl
 ·have e:b=(s.heap.push { cls:=.type "range",data:=.fields #[.int lo t,.int hi u,.int 1 v] }).objs.size:=by simpa using hb
  subst e
  exact I1.fpOk (Nat.le_refl _) (I1.hok.fresh (Nat.le_refl _))
def iRng1 (ta:TA):TI:=fun σ H R=>ta σ H fun vs H1=>∃ j:Int,vs=[.int j]∧-(2^62)≤j∧j < 2^62∧R (Itr 0 j.toNat) H1
def iRng2 (ta:TA):TI:=fun σ H R=>ta σ H fun vs H1=>∃ i j:Int,vs=[.int i,.int j]∧(-(2^62)≤i∧i < 2^62∧-(2^62)≤j∧j < 2^62)∧R (Itr i (j - i).toNat) H1
theorem pi_range1 {a:Expr} {ta:TA} {p pos:Pos} (hg:Gl X "range") (hm:X.mg "range"=none) (ha:PA X [a] ta) (hs:starEach [a] X.env=[(false,eval a X.env)]:=by rfl):PI X tg (.Call (.Name "range" p) [a] [] pos) (iRng1 ta):=by
 intro pins s σ H R I h
 refine Call_ (ld_blt I hg hm boot_range (PyProof.Rows.callWith_type1 (thn (ha pos pins s σ H _ I h) fun us s1 ⟨vs,H1,I1,r1,q1⟩=>?_) hs rfl))
 obtain ⟨j,e,q1,q2,q⟩:=q1
 subst e
 cases r1 with
 | cons r rr =>
  cases rr
  obtain ⟨t,rfl⟩:=r
  exact call_range_1 (range_it I1 (by omega) (by omega) q1 q2 (by simpa using q))
theorem pi_range2 {a b:Expr} {ta:TA} {p pos:Pos} (hg:Gl X "range") (hm:X.mg "range"=none) (ha:PA X [a,b] ta) (hs:starEach [a,b] X.env=[(false,eval a X.env),(false,eval b X.env)]:=by rfl) (hs2:starEach [b] X.env=[(false,eval b X.env)]:=by rfl) :
  PI X tg (.Call (.Name "range" p) [a,b] [] pos) (iRng2 ta):=by
 intro pins s σ H R I h
 refine Call_ (ld_blt I hg hm boot_range (PyProof.Rows.callWith_type1 (thn (ha pos pins s σ H _ I h) fun us s1 ⟨vs,H1,I1,r1,q1⟩=>?_) (by rw [hs,hs2]) (by rw [hs2]; rfl)))
 obtain ⟨i,j,e,⟨q1,q2,q3,q4⟩,q⟩:=q1
 subst e
 cases r1 with
 | cons r rr =>
  cases rr with
  | cons r' rr =>
   cases rr
   obtain ⟨t,rfl⟩:=r
   obtain ⟨t',rfl⟩:=r'
   exact call_range_2 (range_it I1 q1 q2 q3 q4 q)
def tFor (wi:TI) (g:TG) (tb:TS):TS:=fun D σ H=>wi σ H fun J H1=>∃ W:Nat→Nat→St→Hp→Prop,(∃ m,W 0 m σ H1)∧∀ i m σ H,W i m σ H →
 (J.stop i H∧D.nx σ H)∨(J.go i H∧∃ N:St→Hp→Prop,(∀ σ' H',N σ' H'→∃ m',m' < m∧W (i+1) m' σ' H')∧∀ x H',J.yld i H x H'→g x σ H' fun σ2 H2=>tb { D with nx:=N,ct:=N,bk:=D.nx } σ2 H2)
def pinsAt (fp:List Addr) (h:Heap):List (Addr × Obj):=fp.filterMap fun b=>(h.get? b).map fun o=>(b,o)
theorem mem_pinsAt {fp:List Addr} {h:Heap} {b:Addr} {o:Obj} (hb:b∈fp) (e:h.get? b=some o):(b,o)∈pinsAt fp h:=List.mem_filterMap.mpr ⟨b,hb,by rw [e]; rfl⟩
theorem of_pinsAt {fp:List Addr} {h:Heap} {p:Addr × Obj} (hp:p∈pinsAt fp h):p.1∈fp∧h.get? p.1=some p.2:=by
 obtain ⟨b,hb,e⟩:=List.mem_filterMap.mp hp
 cases q:h.get? b with
 | none=>rw [q] at e; cases e
 | some o =>
  rw [q] at e
  have e':(b,o)=p:=Option.some.inj e
  subst e'
  exact ⟨hb,q⟩
theorem Inv.pinned {pins:List (Addr × Obj)} {σ:St} {H:Hp} {s:Shared} {fp:List Addr} (I:Inv X pins σ H s) (hf:∀ b∈fp,FpOk X pins H b) (ho:∀ b∈fp,∃ o,s.heap.get? b=some o∧∀ v,o.data≠.cell v):Inv X (pins++pinsAt fp s.heap) σ H s :=
 I.pins_of fun p hp=>(List.mem_append.mp hp).elim (fun z=>I.pin p (List.mem_append_right _ z)) fun z=>by
  obtain ⟨hb,e⟩:=of_pinsAt z
  obtain ⟨f0,f1,f2,_⟩:=hf p.1 hb
  obtain ⟨o,e',d⟩:=ho p.1 hb
  rw [e] at e'; cases e'
  exact ⟨e,f0,f1,f2,d⟩
theorem Inv.unpinned {pins pl:List (Addr × Obj)} {σ:St} {H:Hp} {s:Shared} (I:Inv X (pins++pl) σ H s):Inv X pins σ H s:=I.pins_of fun p hp=>I.pin p (List.mem_append_right _ (List.mem_append_left _ hp))
theorem ps_for {iter:Expr} {body:List Stmt} {wi:TI} {g:TG} {tb:TS} {pos:Pos} (hp:PassesOwn (model X.prog X.w) X.A X.env X.xe) (hc:X.calm=true) (hi:PI X tg iter wi) (hg:PG X tg g) (hb:PSs X body tb)
  (hs:∀ x,foldedSetIterable iter X.env x=pure x:=by intro _; rfl):PS X (.For tg iter body [] pos) (tFor wi g tb):=by
 intro pins s σ H D I h
 refine wpAny_For (thn (hi pins s σ H _ I h) fun v s1 h1=>thn h1 fun itv s2 h2=>?_) hs
 obtain ⟨it,fp,tn,J,H2,e,I2,T,st2,f2,W,⟨m0,w0⟩,turn⟩:=h2
 subst e
 have stat:∀ {H':Hp},(∀ b∈fp,H' b=none)→∀ b∈fp,FpOk X pins H' b:=fun hn b hb=>⟨hn b hb,(f2 b hb).2⟩
 refine codeAny_forLoop_any (fun n s'=>∃ i σ' H',Inv X pins σ' H' s'∧tn i s'.heap∧(∀ b∈fp,H' b=none)∧W i n σ' H') ?_ m0 ⟨0,σ,H2,I2,st2,fun b hb=>(f2 b hb).1,w0⟩
 rintro n s3 ⟨i,σ3,H3,I3,st3,fr3,w3⟩
 rcases turn i n σ3 H3 w3 with ⟨stop,qn⟩ | ⟨go,N,hN,step⟩
 ·refine wpAny_passesOwn hp (thn (T.done X rfl rfl rfl hc i pins s3 σ3 H3 X.xe I3 (stat fr3) st3 stop) fun r s4 ⟨hr,I4⟩=>?_)
  subst hr
  exact wpAny_execs_nil ⟨σ3,H3,I4,qn⟩
 ·refine wpAny_passesOwn hp (thn (T.item X rfl rfl rfl hc i pins s3 σ3 H3 X.xe I3 (stat fr3) st3 go) fun r s4 ⟨u,hr,h4⟩=>?_)
  subst hr
  refine wpAny_passesOwn hp (thn h4 fun _ s5 ⟨x,H5,I5,r5,y5,st5,fr5⟩=>?_)
  have I5':=I5.pinned (stat fr5) (T.obj _ _ st5)
  refine wpAny_passesOwn hp (thn (hg _ s5 σ3 H5 x u _ I5' r5 (step x H5 y5)) fun _ s6 ⟨σ6,H6,I6,q6⟩=>?_)
  refine wpAny_passesOwn hp (thn (hb _ s6 σ6 H6 _ I6 q6) fun f s7 q7=>?_)
  have again:∀ {σ7:St} {H7:Hp},Inv X (pins++pinsAt fp s5.heap) σ7 H7 s7→N σ7 H7→∃ m,m < n∧∃ i σ' H',Inv X pins σ' H' s7∧tn i s7.heap∧(∀ b∈fp,H' b=none)∧W i m σ' H':=fun {σ7 H7} I7 n7=>by
   obtain ⟨m',hm,w7⟩:=hN σ7 H7 n7
   refine ⟨m',hm,i+1,σ7,H7,I7.unpinned,T.keep _ _ _ st5 fun b hb o e=>(I7.pin (b,o) (List.mem_append_right _ (List.mem_append_right _ (mem_pinsAt hb e)))).1,fun b hb=>?_,w7⟩
   obtain ⟨o,e,d⟩:=T.obj _ _ st5 b hb
   exact (I7.pin (b,o) (List.mem_append_right _ (List.mem_append_right _ (mem_pinsAt hb e)))).2.1
  cases f with
  | next=>obtain ⟨σ7,H7,I7,n7⟩:=q7; exact again I7 n7
  | cont=>obtain ⟨σ7,H7,I7,n7⟩:=q7; exact again I7 n7
  | brk=>obtain ⟨σ7,H7,I7,q7⟩:=q7; exact ⟨σ7,H7,I7.unpinned,q7⟩
  | ret v=>obtain ⟨x7,σ7,H7,I7,r7,q7⟩:=q7; exact ⟨x7,σ7,H7,I7.unpinned,r7,q7⟩
end
theorem for_list {K:PySem.W.Frag} {a:Addr} {xs:List V} {g:TG} {tb:TS} {D:Ends} {σ:St} {H:Hp} (Pv:Nat→St→Hp→Prop) (h0:Pv 0 σ H) (hl:∀ i σ H,i≤xs.length→Pv i σ H→SqL K H a xs)
  (hs:∀ i x σ H,xs[i]?=some x→Pv i σ H→g x σ H fun σ2 H2=>tb { D with nx:=Pv (i+1),ct:=Pv (i+1),bk:=D.nx } σ2 H2) (hd:∀ σ H,Pv xs.length σ H→D.nx σ H) :
  ∃ W:Nat→Nat→St→Hp→Prop,(∃ m,W 0 m σ H)∧∀ i m σ H,W i m σ H →
   ((Itl K a).stop i H∧D.nx σ H)∨((Itl K a).go i H∧∃ N:St→Hp→Prop,(∀ σ' H',N σ' H'→∃ m',m' < m∧W (i+1) m' σ' H')∧∀ x H',(Itl K a).yld i H x H'→g x σ H' fun σ2 H2=>tb { D with nx:=N,ct:=N,bk:=D.nx } σ2 H2):=by
 refine ⟨fun i m σ H=>m=xs.length - i∧i≤xs.length∧Pv i σ H,⟨xs.length,by simp,Nat.zero_le _,h0⟩,?_⟩
 rintro i m σ H ⟨rfl,hi,p⟩
 have q:=hl i σ H hi p
 by_cases hlt:i < xs.length
 ·refine .inr ⟨⟨xs,xs[i],q,by simp [hlt]⟩,Pv (i+1),fun σ' H' p'=>⟨xs.length - (i+1),by omega,rfl,hlt,p'⟩,fun x H' y=>?_⟩
  obtain ⟨e,y⟩:=y
  subst e
  exact hs i x σ _ (y xs q) p
 ·have e:i=xs.length:=by omega
  subst e
  exact .inl ⟨⟨xs,q,Nat.le_refl _⟩,hd σ H p⟩
theorem for_tup {K:PySem.W.Frag} {a:Addr} {xs:List V} {g:TG} {tb:TS} {D:Ends} {σ:St} {H:Hp} (Pv:Nat→St→Hp→Prop) (h0:Pv 0 σ H) (hl:∀ i σ H,i≤xs.length→Pv i σ H→SqT K H a xs)
  (hs:∀ i x σ H,xs[i]?=some x→Pv i σ H→g x σ H fun σ2 H2=>tb { D with nx:=Pv (i+1),ct:=Pv (i+1),bk:=D.nx } σ2 H2) (hd:∀ σ H,Pv xs.length σ H→D.nx σ H) :
  ∃ W:Nat→Nat→St→Hp→Prop,(∃ m,W 0 m σ H)∧∀ i m σ H,W i m σ H →
   ((Itt K a).stop i H∧D.nx σ H)∨((Itt K a).go i H∧∃ N:St→Hp→Prop,(∀ σ' H',N σ' H'→∃ m',m' < m∧W (i+1) m' σ' H')∧∀ x H',(Itt K a).yld i H x H'→g x σ H' fun σ2 H2=>tb { D with nx:=N,ct:=N,bk:=D.nx } σ2 H2):=by
 refine ⟨fun i m σ H=>m=xs.length - i∧i≤xs.length∧Pv i σ H,⟨xs.length,by simp,Nat.zero_le _,h0⟩,?_⟩
 rintro i m σ H ⟨rfl,hi,p⟩
 have q:=hl i σ H hi p
 by_cases hlt:i < xs.length
 ·refine .inr ⟨⟨xs,xs[i],q,by simp [hlt]⟩,Pv (i+1),fun σ' H' p'=>⟨xs.length - (i+1),by omega,rfl,hlt,p'⟩,fun x H' y=>?_⟩
  obtain ⟨e,y⟩:=y
  subst e
  exact hs i x σ _ (y xs q) p
 ·have e:i=xs.length:=by omega
  subst e
  exact .inl ⟨⟨xs,q,Nat.le_refl _⟩,hd σ H p⟩
theorem for_range {lo:Int} {n:Nat} {g:TG} {tb:TS} {D:Ends} {σ:St} {H:Hp} (Pv:Nat→St→Hp→Prop) (h0:Pv 0 σ H)
  (hs:∀ i σ H,i < n→Pv i σ H→g (.int (lo+i)) σ H fun σ2 H2=>tb { D with nx:=Pv (i+1),ct:=Pv (i+1),bk:=D.nx } σ2 H2) (hd:∀ σ H,Pv n σ H→D.nx σ H) :
  ∃ W:Nat→Nat→St→Hp→Prop,(∃ m,W 0 m σ H)∧∀ i m σ H,W i m σ H →
   ((Itr lo n).stop i H∧D.nx σ H)∨((Itr lo n).go i H∧∃ N:St→Hp→Prop,(∀ σ' H',N σ' H'→∃ m',m' < m∧W (i+1) m' σ' H')∧∀ x H',(Itr lo n).yld i H x H'→g x σ H' fun σ2 H2=>tb { D with nx:=N,ct:=N,bk:=D.nx } σ2 H2):=by
 refine ⟨fun i m σ H=>m=n - i∧i≤n∧Pv i σ H,⟨n,by simp,Nat.zero_le _,h0⟩,?_⟩
 rintro i m σ H ⟨rfl,hi,p⟩
 by_cases hlt:i < n
 ·refine .inr ⟨hlt,Pv (i+1),fun σ' H' p'=>⟨n - (i+1),by omega,rfl,hlt,p'⟩,fun x H' y=>?_⟩
  obtain ⟨e,y⟩:=y
  subst e y
  exact hs i σ _ hlt p
 ·have e:i=n:=by omega
  subst e
  exact .inl ⟨Nat.le_refl _,hd σ H p⟩
theorem while_by {c:TT} {tb:TS} {D:Ends} {σ:St} {H:Hp} (Pv:St→Hp→Prop) (μ:St→Hp→Nat) (h0:Pv σ H)
  (hs:∀ σ H,Pv σ H→c σ H fun b H1=>if b=true then tb { D with nx:=fun σ' H'=>Pv σ' H'∧μ σ' H' < μ σ H,ct:=fun σ' H'=>Pv σ' H'∧μ σ' H' < μ σ H,bk:=D.nx } σ H1 else D.nx σ H1)
  (mono:∀ σ H Q Q',(∀ b H1,Q b H1→Q' b H1)→c σ H Q→c σ H Q'):tWhile c tb D σ H:=by
 refine ⟨fun m σ H=>m=μ σ H∧Pv σ H,⟨_,rfl,h0⟩,?_⟩
 rintro m σ H ⟨rfl,p⟩
 refine mono σ H _ _ (fun b H1 q=>?_) (hs σ H p)
 cases b with
 | true=>exact ⟨_,fun σ' H' ⟨p',l⟩=>⟨_,l,rfl,p'⟩,q⟩
 | false=>exact q
end L2
namespace L2
open PySem PySem.Spec PyProof.Rows
abbrev R2:=V→V→Hp→VK→Prop
def OpR (X:Cx) (f:Value→Value→Sem Value) (r:R2):Prop :=
 ∀ (pins:List (Addr × Obj)) (s:Shared) (σ:St) (H:Hp) (x y:V) (v u:Value) (Q:VK),Inv X pins σ H s→RelV x v→RelV y u→r x y H Q →
  wpAny (model X.prog X.w) X.A (f v u) (EP X pins σ Q) X.xe s
def UnR (X:Cx) (f:Value→Sem Value) (r:V→Hp→VK→Prop):Prop :=
 ∀ (pins:List (Addr × Obj)) (s:Shared) (σ:St) (H:Hp) (x:V) (v:Value) (Q:VK),Inv X pins σ H s→RelV x v→r x H Q →
  wpAny (model X.prog X.w) X.A (f v) (EP X pins σ Q) X.xe s
def CallR (X:Cx) (f:Value) (r:List V→Hp→VK→Prop):Prop :=
 ∀ (pins:List (Addr × Obj)) (s:Shared) (σ:St) (H:Hp) (xs:List V) (us:List Value) (Q:VK),Inv X pins σ H s→Vals xs us→r xs H Q →
  wpAny (model X.prog X.w) X.A (call f us) (EP X pins σ Q) X.xe s
def TruR (X:Cx) (r:V→Hp→(Bool→Hp→Prop)→Prop):Prop :=
 ∀ (pins:List (Addr × Obj)) (s:Shared) (σ:St) (H:Hp) (x:V) (v:Value) (Q:Bool→Hp→Prop),Inv X pins σ H s→RelV x v→r x H Q →
  wpAny (model X.prog X.w) X.A (truthy v) (TP X pins σ Q) X.xe s
def tOp (r:R2) (ta tb:TE):TE:=fun σ H Q=>ta σ H fun x H1=>tb σ H1 fun y H2=>r x y H2 Q
def tUn (r:V→Hp→VK→Prop) (ta:TE):TE:=fun σ H Q=>ta σ H fun x H1=>r x H1 Q
def rI (C:Int→Int→Prop) (g:Int→Int→V):R2:=fun x y H Q=>∃ i j,x=.int i∧y=.int j∧C i j∧Q (g i j) H
def rI0 (g:Int→Int→V):R2:=fun x y H Q=>∃ i j,x=.int i∧y=.int j∧Q (g i j) H
def rU (g:Int→V):V→Hp→VK→Prop:=fun x H Q=>∃ i,x=.int i∧Q (g i) H
section
variable {X:Cx} {a b c:Expr} {ta tb tc:TE} {pos:Pos}
theorem binT (ha:PE X a ta) (hb:PE X b tb) {pins:List (Addr × Obj)} {s:Shared} {σ:St} {H:Hp} {R:V→V→Hp→Prop} (I:Inv X pins σ H s)
  (h:ta σ H fun x H1=>tb σ H1 fun y H2=>R x y H2) {Q:Value→Shared→Prop} {f:Value→Value→Sem Value}
  (hf:∀ v u s2 x y H2,Inv X pins σ H2 s2→RelV x v→RelV y u→R x y H2→wpAny (model X.prog X.w) X.A (f v u) Q X.xe s2) :
  wpAny (model X.prog X.w) X.A (eval a X.env) (fun v s₁=>wpAny (model X.prog X.w) X.A (eval b X.env) (fun u s₂=>wpAny (model X.prog X.w) X.A (f v u) Q X.xe s₂) X.xe s₁) X.xe s:=by
 refine thn (ha pins s σ H _ I h) fun v s1 ⟨x,H1,I1,r1,q1⟩=>?_
 refine thn (hb pins s1 σ H1 _ I1 q1) fun u s2 ⟨y,H2,I2,r2,q2⟩=>?_
 exact hf v u s2 x y H2 I2 r1 r2 q2
theorem pe_op {op:Operator} {r:R2} (ho:OpR X (binaryOp op) r) (ha:PE X a ta) (hb:PE X b tb):PE X (.BinOp a op b pos) (tOp r ta tb):=by
 intro pins s σ H Q I h
 exact wpAny_BinOp (binT ha hb I h fun v u s2 x y H2 I2 rx ry q=>ho pins s2 σ H2 x y v u Q I2 rx ry q)
theorem pe_un {op:UnaryOp} {r:V→Hp→VK→Prop} (ho:UnR X (unaryOp op) r) (ha:PE X a ta):PE X (.UnaryOp op a pos) (tUn r ta):=by
 intro pins s σ H Q I h
 exact UnaryOp_ (thn (ha pins s σ H _ I h) fun v s1 ⟨x,H1,I1,r1,q1⟩=>ho pins s1 σ H1 x v Q I1 r1 q1)
theorem opI {f:Value→Value→Sem Value} {C:Int→Int→Prop} {g:Int→Int→Int}
  (rule:∀ (i j:Int) (t u:Tok) (s:Shared) (Q:Value→Shared→Prop) (E:Value→Shared→Prop),C i j→Q (.int (g i j) s.toks) { s with toks:=s.toks+1 }→wpAny (model X.prog X.w) X.A (f (.int i t) (.int j u)) Q E s) :
  OpR X f (rI C fun i j=>.int (g i j)):=by
 intro pins s σ H x y v u Q I rx ry h
 obtain ⟨i,j,rfl,rfl,hc,q⟩:=h
 obtain ⟨t,rfl⟩:=rx
 obtain ⟨t',rfl⟩:=ry
 exact rule i j t t' s _ _ hc ⟨.int (g i j),H,I.tok _,⟨_,rfl⟩,q⟩
theorem opI0 {f:Value→Value→Sem Value} {g:Int→Int→Int}
  (rule:∀ (i j:Int) (t u:Tok) (s:Shared) (Q:Value→Shared→Prop) (E:Value→Shared→Prop),Q (.int (g i j) s.toks) { s with toks:=s.toks+1 }→wpAny (model X.prog X.w) X.A (f (.int i t) (.int j u)) Q E s) :
  OpR X f (rI0 fun i j=>.int (g i j)):=by
 intro pins s σ H x y v u Q I rx ry h
 obtain ⟨i,j,rfl,rfl,q⟩:=h
 obtain ⟨t,rfl⟩:=rx
 obtain ⟨t',rfl⟩:=ry
 exact rule i j t t' s _ _ ⟨.int (g i j),H,I.tok _,⟨_,rfl⟩,q⟩
theorem opB0 {f:Value→Value→Sem Value} {g:Int→Int→Bool}
  (rule:∀ (i j:Int) (t u:Tok) (s:Shared) (Q:Value→Shared→Prop) (E:Value→Shared→Prop),Q (.bool (g i j)) s→wpAny (model X.prog X.w) X.A (f (.int i t) (.int j u)) Q E s) :
  OpR X f (rI0 fun i j=>.bl (g i j)):=by
 intro pins s σ H x y v u Q I rx ry h
 obtain ⟨i,j,rfl,rfl,q⟩:=h
 obtain ⟨t,rfl⟩:=rx
 obtain ⟨t',rfl⟩:=ry
 exact rule i j t t' s _ _ ⟨.bl (g i j),H,I,rfl,q⟩
def CPow (i j:Int):Prop:=0≤j∧j≤1000000∧i.natAbs < 2^64
theorem two_pow_nn (k:Nat):(0:Int)≤2^k:=by
 rw [two_pow_cast]
 exact Int.natCast_nonneg _
theorem op_add:OpR X (binaryOp .Add) (rI0 fun i j=>.int (i+j)):=opI0 fun _ _ _ _ _ _ _ q=>add_int q
theorem op_sub:OpR X (binaryOp .Sub) (rI0 fun i j=>.int (i - j)):=opI0 fun _ _ _ _ _ _ _ q=>sub_int q
theorem op_mod:OpR X (binaryOp .Mod) (rI (fun _ j=>0 < j) fun i j=>.int (i % j)):=opI fun i j _ _ _ _ _ hc q=>by
 have h1:(0:Int) < j:=hc
 exact mod_int' (by omega) (by rw [Int.fmod_eq_emod_of_nonneg i (by omega)]; exact q)
theorem op_pow:OpR X (binaryOp .Pow) (rI CPow fun i j=>.int (i^j.toNat)):=opI fun _ _ _ _ _ _ _ hc q=>pow_int_small hc.1 hc.2.1 hc.2.2 q
theorem op_shl:OpR X (binaryOp .LShift) (rI CPow fun i j=>.int (i * 2^j.toNat)):=opI fun _ _ _ _ _ _ _ hc q=>lshift_int_small hc.1 hc.2.1 hc.2.2 q
theorem op_and:OpR X (binaryOp .BitAnd) (rI0 fun i j=>.int (Builtin.bitAnd i j)):=opI0 fun _ _ _ _ _ _ _ q=>and_int q
theorem unI {f:Value→Sem Value} {g:Int→Int}
  (rule:∀ (i:Int) (t:Tok) (s:Shared) (Q:Value→Shared→Prop) (E:Value→Shared→Prop),Q (.int (g i) s.toks) { s with toks:=s.toks+1 }→wpAny (model X.prog X.w) X.A (f (.int i t)) Q E s) :
  UnR X f (rU fun i=>.int (g i)):=by
 intro pins s σ H x v Q I rx h
 obtain ⟨i,rfl,q⟩:=h
 obtain ⟨t,rfl⟩:=rx
 exact rule i t s _ _ ⟨.int (g i),H,I.tok _,⟨_,rfl⟩,q⟩
theorem un_neg:UnR X (unaryOp .USub) (rU fun i=>.int (-i)):=unI fun _ _ _ _ _ q=>neg_int q
end
def scal:V→V→Bool
 | .non,.non=>true | .non,.int _=>true | .int _,.non=>true | .non,.bl _=>true | .bl _,.non=>true | .non,.str _=>true | .str _,.non=>true
 | .int _,.int _=>true | .bl _,.bl _=>true | .str _,.str _=>true | .byt _,.byt _=>true
 | .int _,.str _=>true | .str _,.int _=>true | .bl _,.str _=>true | .str _,.bl _=>true
 | _,_=>false
def rEq:R2:=fun x y H Q=>scal x y=true∧Q (.bl (decide (x=y))) H
def rNe:R2:=fun x y H Q=>scal x y=true∧Q (.bl (!decide (x=y))) H
theorem dec_int {i j:Int}:decide (V.int i=V.int j)=(i == j):=by
 rw [Bool.eq_iff_iff]
 simp
theorem dec_bl {i j:Bool}:decide (V.bl i=V.bl j)=(i == j):=by
 rw [Bool.eq_iff_iff]
 simp
theorem dec_str {i j:Str}:decide (V.str i=V.str j)=(i == j):=by
 rw [Bool.eq_iff_iff]
 simp
theorem dec_byt {i j:Array UInt8}:decide (V.byt i=V.byt j)=(i.toList == j.toList):=by
 rw [Bool.eq_iff_iff]
 cases i
 cases j
 simp
section
variable {X:Cx} {a b c:Expr} {ta tb tc:TE} {pos:Pos}
theorem fin_bl {pins:List (Addr × Obj)} {σ:St} {H:Hp} {s:Shared} {Q:VK} {k k':Bool} (I:Inv X pins σ H s) (q:Q (.bl k) H) (e:k=k'):EP X pins σ Q (.bool k') s:=by
 subst e
 exact ⟨.bl k,H,I,rfl,q⟩
theorem op_eq:OpR X (compareOp .Eq) rEq:=by
 intro pins s σ H x y v u Q I rx ry h
 obtain ⟨hs,q⟩:=h
 cases x with
 | non =>
  cases rx
  cases y with
  | non=>cases ry; exact PySem.EqNone.eq_none_none (fin_bl I q (by simp))
  | bl j=>cases ry; exact PySem.EqNone.eq_none_bool (fin_bl I q (by simp))
  | int j=>obtain ⟨t',rfl⟩:=ry; exact PySem.EqNone.eq_none_int (fin_bl I q (by simp))
  | str j=>obtain ⟨t',rfl⟩:=ry; exact PySem.EqNone.eq_none_str (fin_bl I q (by simp))
  | _=>exact absurd (show false=true from hs) Bool.false_ne_true
 | bl i =>
  cases rx
  cases y with
  | non=>cases ry; exact PySem.EqNone.eq_bool_none (fin_bl I q (by simp))
  | bl j=>cases ry; exact eq_bool (fin_bl I q dec_bl)
  | str j=>obtain ⟨t',rfl⟩:=ry; exact PySem.EqMixed.eq_bool_str (fin_bl I q (by simp))
  | _=>exact absurd (show false=true from hs) Bool.false_ne_true
 | int i =>
  obtain ⟨t,rfl⟩:=rx
  cases y with
  | non=>cases ry; exact PySem.EqNone.eq_int_none (fin_bl I q (by simp))
  | int j=>obtain ⟨t',rfl⟩:=ry; exact eq_int (fin_bl I q dec_int)
  | str j=>obtain ⟨t',rfl⟩:=ry; exact PySem.EqMixed.eq_int_str (fin_bl I q (by simp))
  | _=>exact absurd (show false=true from hs) Bool.false_ne_true
 | str i =>
  obtain ⟨t,rfl⟩:=rx
  cases y with
  | non=>cases ry; exact PySem.EqNone.eq_str_none (fin_bl I q (by simp))
  | bl j=>cases ry; exact PySem.EqMixed.eq_str_bool (fin_bl I q (by simp))
  | int j=>obtain ⟨t',rfl⟩:=ry; exact PySem.EqMixed.eq_str_int (fin_bl I q (by simp))
  | str j=>obtain ⟨t',rfl⟩:=ry; exact eq_str (fin_bl I q dec_str)
  | _=>exact absurd (show false=true from hs) Bool.false_ne_true
 | byt i =>
  obtain ⟨t,rfl⟩:=rx
  cases y with
  | byt j=>obtain ⟨t',rfl⟩:=ry; exact PySem.W.eq_bytes (fin_bl I q dec_byt)
  | _=>exact absurd (show false=true from hs) Bool.false_ne_true
 | _=>cases y <;> exact absurd (show false=true from hs) Bool.false_ne_true
theorem op_ne:OpR X (compareOp .NotEq) rNe:=by
 intro pins s σ H x y v u Q I rx ry h
 obtain ⟨hs,q⟩:=h
 cases x with
 | non =>
  cases rx
  cases y with
  | non=>cases ry; exact PySem.EqNone.ne_none_none (fin_bl I q (by simp))
  | bl j=>cases ry; exact PySem.EqNone.ne_none_bool (fin_bl I q (by simp))
  | int j=>obtain ⟨t',rfl⟩:=ry; exact PySem.EqNone.ne_none_int (fin_bl I q (by simp))
  | str j=>obtain ⟨t',rfl⟩:=ry; exact PySem.EqNone.ne_none_str (fin_bl I q (by simp))
  | _=>exact absurd (show false=true from hs) Bool.false_ne_true
 | bl i =>
  cases rx
  cases y with
  | non=>cases ry; exact PySem.EqNone.ne_bool_none (fin_bl I q (by simp))
  | bl j=>cases ry; exact ne_bool (fin_bl I q (congrArg not dec_bl))
  | str j=>obtain ⟨t',rfl⟩:=ry; exact PySem.EqMixed.ne_bool_str (fin_bl I q (by simp))
  | _=>exact absurd (show false=true from hs) Bool.false_ne_true
 | int i =>
  obtain ⟨t,rfl⟩:=rx
  cases y with
  | non=>cases ry; exact PySem.EqNone.ne_int_none (fin_bl I q (by simp))
  | int j=>obtain ⟨t',rfl⟩:=ry; exact ne_int (fin_bl I q (congrArg not dec_int))
  | str j=>obtain ⟨t',rfl⟩:=ry; exact PySem.EqMixed.ne_int_str (fin_bl I q (by simp))
  | _=>exact absurd (show false=true from hs) Bool.false_ne_true
 | str i =>
  obtain ⟨t,rfl⟩:=rx
  cases y with
  | non=>cases ry; exact PySem.EqNone.ne_str_none (fin_bl I q (by simp))
  | bl j=>cases ry; exact PySem.EqMixed.ne_str_bool (fin_bl I q (by simp))
  | int j=>obtain ⟨t',rfl⟩:=ry; exact PySem.EqMixed.ne_str_int (fin_bl I q (by simp))
  | str j=>obtain ⟨t',rfl⟩:=ry; exact ne_str (fin_bl I q (congrArg not dec_str))
  | _=>exact absurd (show false=true from hs) Bool.false_ne_true
 | byt i =>
  obtain ⟨t,rfl⟩:=rx
  cases y with
  | byt j=>obtain ⟨t',rfl⟩:=ry; exact PySem.W.ne_bytes (fin_bl I q (congrArg not dec_byt))
  | _=>exact absurd (show false=true from hs) Bool.false_ne_true
 | _=>cases y <;> exact absurd (show false=true from hs) Bool.false_ne_true
theorem op_lt:OpR X (compareOp .Lt) (rI0 fun i j=>.bl (decide (i < j))):=opB0 fun _ _ _ _ _ _ _ q=>lt_int q
theorem op_le:OpR X (compareOp .LtE) (rI0 fun i j=>.bl (decide (i≤j))):=opB0 fun _ _ _ _ _ _ _ q=>le_int q
theorem op_gt:OpR X (compareOp .Gt) (rI0 fun i j=>.bl (decide (j < i))):=opB0 fun _ _ _ _ _ _ _ q=>gt_int q
theorem op_ge:OpR X (compareOp .GtE) (rI0 fun i j=>.bl (decide (j≤i))):=opB0 fun _ _ _ _ _ _ _ q=>ge_int q
theorem op_isN:OpR X (compareOp .Is) (fun x y H Q=>y=.non∧Q (.bl (decide (x=.non))) H):=by
 intro pins s σ H x y v u Q I rx ry h
 obtain ⟨rfl,q⟩:=h
 cases ry
 refine is_none_gen (fin_bl I q ?_)
 cases x <;> first
  | (cases rx; rfl)
  | (obtain ⟨t,rfl⟩:=rx; rfl)
theorem op_notN:OpR X (compareOp .IsNot) (fun x y H Q=>y=.non∧Q (.bl (!decide (x=.non))) H):=by
 intro pins s σ H x y v u Q I rx ry h
 obtain ⟨rfl,q⟩:=h
 cases ry
 refine isnot_none_gen (fin_bl I q ?_)
 cases x <;> first
  | (cases rx; rfl)
  | (obtain ⟨t,rfl⟩:=rx; rfl)
theorem nomark (b:Expr) {op:CmpOp} (h:op≠.In:=by decide) (h2:op≠.NotIn:=by decide):behindInMarks op b=false:=by
 have e1:(op == CmpOp.In)=false:=by cases op <;> first | rfl | exact absurd rfl h
 have e2:(op == CmpOp.NotIn)=false:=by cases op <;> first | rfl | exact absurd rfl h2
 cases b <;> simp [behindInMarks,e1,e2]
theorem pe_cmpR {op:CmpOp} {r:R2} (ho:OpR X (compareOp op) r) (ha:PE X a ta) (hb:PE X b tb) (hm:behindInMarks op b=false):PE X (.Compare a [op] [b] pos) (tOp r ta tb):=by
 intro pins s σ H Q I h
 exact wpAny_Compare1 (binT ha hb I h fun v u s2 x y H2 I2 rx ry q=>ho pins s2 σ H2 x y v u Q I2 rx ry q) hm
def tTest (t:TE):TT:=fun σ H Q=>t σ H fun x H'=>∃ k,x=.bl k∧Q k H'
theorem pt_cmpR {op:CmpOp} {r:R2} (ho:OpR X (compareOp op) r) (ha:PE X a ta) (hb:PE X b tb) (hm:behindInMarks op b=false):PT X (.Compare a [op] [b] pos) (tTest (tOp r ta tb)):=by
 intro pins s σ H Q I h
 refine wpAny_isTrue_Compare1 (thn (ha pins s σ H _ I h) fun v s1 ⟨x,H1,I1,r1,q1⟩=>thn (hb pins s1 σ H1 _ I1 q1) fun u s2 ⟨y,H2,I2,r2,q2⟩ =>
  thn (ho pins s2 σ H2 x y v u _ I2 r1 r2 q2) fun c s3 ⟨z,H3,I3,r3,k,e,q3⟩=>?_) hm
 subst e
 cases r3
 exact wpAny_truthy_bool ⟨H3,I3,q3⟩
def tChain (r r':R2) (ta tb tc:TE):TE:=fun σ H Q=>ta σ H fun x H1=>tb σ H1 fun y H2=>r x y H2 fun z H3=>∃ k,z=.bl k ∧
 (if k=true then tc σ H3 fun w' H4=>r' y w' H4 Q else Q (.bl false) H3)
theorem pe_chain {op op':CmpOp} {r r':R2} (ho:OpR X (compareOp op) r) (ho':OpR X (compareOp op') r') (ha:PE X a ta) (hb:PE X b tb) (hc:PE X c tc)
  (hm:lastMarks [op,op'] [b,c]=false:=by with_unfolding_all rfl):PE X (.Compare a [op,op'] [b,c] pos) (tChain r r' ta tb tc):=by
 intro pins s σ H Q I h
 refine Compare_chain (thn (ha pins s σ H _ I h) fun v s1 ⟨x,H1,I1,r1,q1⟩=>chain_link (thn (hb pins s1 σ H1 _ I1 q1) fun u s2 ⟨y,H2,I2,r2,q2⟩ =>
  thn (ho pins s2 σ H2 x y v u _ I2 r1 r2 q2) fun d s3 ⟨z,H3,I3,r3,k,e,q3⟩=>?_)) hm
 subst e
 cases r3
 refine wpAny_truthy_bool ?_
 cases k with
 | false=>exact ite_ff ⟨.bl false,H3,I3,rfl,q3⟩
 | true=>exact ite_tt (chain_last (thn (hc pins s3 σ H3 _ I3 q3) fun w' s4 ⟨z',H4,I4,r4,q4⟩=>ho' pins s4 σ H4 y z' u w' Q I4 r2 r4 q4))
theorem pt_chain {op op':CmpOp} {r r':R2} (ho:OpR X (compareOp op) r) (ho':OpR X (compareOp op') r') (ha:PE X a ta) (hb:PE X b tb) (hc:PE X c tc)
  (hm:lastMarks [op,op'] [b,c]=false:=by with_unfolding_all rfl):PT X (.Compare a [op,op'] [b,c] pos) (tTest (tChain r r' ta tb tc)):=by
 intro pins s σ H Q I h
 refine isTrue_chain (thn (ha pins s σ H _ I h) fun v s1 ⟨x,H1,I1,r1,q1⟩=>test_link (thn (hb pins s1 σ H1 _ I1 q1) fun u s2 ⟨y,H2,I2,r2,q2⟩ =>
  thn (ho pins s2 σ H2 x y v u _ I2 r1 r2 q2) fun d s3 ⟨z,H3,I3,r3,k,e,q3⟩=>?_)) hm
 subst e
 cases r3
 refine wpAny_truthy_bool ?_
 cases k with
 | false =>
  obtain ⟨k',e',q'⟩:=q3
  cases e'
  exact ite_ff ⟨H3,I3,q'⟩
 | true =>
  refine ite_tt (test_last (thn (hc pins s3 σ H3 _ I3 q3) fun w' s4 ⟨z',H4,I4,r4,q4⟩=>thn (ho' pins s4 σ H4 y z' u w' _ I4 r2 r4 q4) fun d' s5 ⟨z2,H5,I5,r5,k2,e2,q5⟩=>?_))
  subst e2
  cases r5
  exact wpAny_truthy_bool ⟨H5,I5,q5⟩
def TruV (K:PySem.W.Frag) (x:V) (H:Hp) (k:Bool):Prop :=
 match x with
 | .non=>k=false
 | .bl b=>k=b
 | .int i=>k=(i != 0)
 | .str y=>y.length≤sizeLine∧k=((y.length:Int) != 0)
 | .byt y=>y.size≤sizeLine∧k=((y.size:Int) != 0)
 | .ref p=>(∃ xs,SqL K H p xs∧k=!xs.isEmpty)∨(∃ xs,SqT K H p xs∧k=!xs.isEmpty)∨∃ kvs,H p=some (.dK kvs)∧k=!kvs.isEmpty
 | _=>False
theorem isEmpty_kv {κ:Type} {kvs:List (κ × V)} {vs:List (κ × Value)} (r:KV kvs vs):(!vs.isEmpty)=!kvs.isEmpty:=by
 cases r <;> rfl
theorem isEmpty_of {xs:List V} {its:List Value} (r:Vals xs its):(!its.toArray.isEmpty)=!xs.isEmpty:=by
 cases r <;> simp
theorem line63:(sizeLine:Nat) < 2^63:=by rw [sizeLine_eq]; decide
theorem tru_ok:TruR X (fun x H Q=>∃ k,TruV X.K x H k∧Q k H):=by
 intro pins s σ H x v Q I rx h
 obtain ⟨k,e,q⟩:=h
 have hl:=line63
 have hs:sizeLine=16777216:=sizeLine_eq
 cases x with
 | non =>
  cases rx
  have e':k=false:=e
  subst e'
  exact truthy_none ⟨H,I,q⟩
 | bl b =>
  cases rx
  have e':k=b:=e
  subst e'
  exact wpAny_truthy_bool ⟨H,I,q⟩
 | int i =>
  obtain ⟨t,rfl⟩:=rx
  have e':k=(i != 0):=e
  subst e'
  exact PySem.P.truthy_int ⟨H,I,q⟩
 | str y =>
  obtain ⟨t,rfl⟩:=rx
  obtain ⟨hy,e'⟩:y.length≤sizeLine∧k=((y.length:Int) != 0):=e
  subst e'
  exact PySem.P.truthy_str (by omega) ⟨H,I.tok _,q⟩
 | byt y =>
  obtain ⟨t,rfl⟩:=rx
  obtain ⟨hy,e'⟩:y.size≤sizeLine∧k=((y.size:Int) != 0):=e
  subst e'
  exact PySem.W.truthy_bytes (by omega) ⟨H,I.tok _,q⟩
 | ref p =>
  cases rx
  have e':(∃ xs,SqL X.K H p xs∧k=!xs.isEmpty)∨(∃ xs,SqT X.K H p xs∧k=!xs.isEmpty)∨∃ kvs,H p=some (.dK kvs)∧k=!kvs.isEmpty:=e
  rcases e' with ⟨xs,hx,e'⟩ | ⟨xs,hx,e'⟩ | ⟨kvs,hx,e'⟩
  ·subst e'
   obtain ⟨its,r,pl,hz⟩:=I.list hx
   have hlen:=r.length
   exact wpAny_truthy_list pl.isList (by simp only [List.size_toArray]; omega) ⟨H,I.tok _,by rw [isEmpty_of r]; exact q⟩
  ·subst e'
   obtain ⟨its,r,pl,hz⟩:=I.tuple hx
   have hlen:=r.length
   exact truthy_tuple pl (by simp only [List.size_toArray]; omega) ⟨H,I.tok _,by rw [isEmpty_of r]; exact q⟩
  ·subst e'
   obtain ⟨hz,hS,vs,r,m⟩:kvs.length≤sizeLine∧(p == sysModules)=false∧∃ vs,KV kvs vs∧s.heap.DictOf (mixKind X.prog X.w) p vs:=I.hok p _ hx
   have hlen:kvs.length=vs.length:=Paired.length r
   exact wpAny_truthy_dict hS m (by omega) ⟨H,I.tok _,by rw [isEmpty_kv r]; exact q⟩
 | _=>exact (show False from e).elim
theorem pt_truth (ha:PE X a ta) (he:∀ whole,isTrue a X.env whole=(do let v ← whole; standAt a.pos; holding [v] (truthy v))) :
    PT X a (fun σ H Q=>ta σ H fun x H'=>∃ k,TruV X.K x H' k∧Q k H'):=by
  intro pins s σ H Q I h
  exact isTrue_plain (thn (ha pins s σ H _ I h) fun v s1 ⟨x,H1,I1,r1,q1⟩=>tru_ok pins s1 σ H1 x v Q I1 r1 q1) (he _)
theorem vals1 {x:V} {us:List Value} (r:Vals [x] us):∃ u,us=[u]∧RelV x u:=by
 cases r with
 | cons r1 r2=>cases r2; exact ⟨_,rfl,r1⟩
theorem vals2 {x y:V} {us:List Value} (r:Vals [x,y] us):∃ u w',us=[u,w']∧RelV x u∧RelV y w':=by
 cases r with
 | cons r1 r2 =>
  cases r2 with
  | cons r3 r4=>cases r4; exact ⟨_,_,rfl,r1,r3⟩
theorem call_abs:CallR X (.builtin "abs") (fun xs H Q=>∃ i,xs=[.int i]∧Q (.int (if i < 0 then -i else i)) H):=by
 intro pins s σ H xs us Q I r h
 obtain ⟨i,rfl,q⟩:=h
 obtain ⟨u,rfl,t,rfl⟩:=vals1 r
 exact call_abs_int fun u tk=>⟨.int (if i < 0 then -i else i),H,I.tok _,⟨_,rfl⟩,q⟩
theorem call_max2 (hc:X.calm=true):CallR X (.builtin "max") (fun xs H Q=>∃ i j,xs=[.int i,.int j]∧Q (.int (if j > i then j else i)) H):=by
 intro pins s σ H xs us Q I r h
 obtain ⟨i,j,rfl,q⟩:=h
 obtain ⟨u,w',rfl,⟨t,rfl⟩,⟨t',rfl⟩⟩:=vals2 r
 refine max_two_ints (I.ok.hd hc) fun h' tk k=>⟨_,H,I.kept k,?_,q⟩
 by_cases hj:j > i
 ·rw [if_pos hj,if_pos hj]; exact ⟨_,rfl⟩
 ·rw [if_neg hj,if_neg hj]; exact ⟨_,rfl⟩
theorem call_min2 (hc:X.calm=true):CallR X (.builtin "min") (fun xs H Q=>∃ i j,xs=[.int i,.int j]∧Q (.int (if j < i then j else i)) H):=by
 intro pins s σ H xs us Q I r h
 obtain ⟨i,j,rfl,q⟩:=h
 obtain ⟨u,w',rfl,⟨t,rfl⟩,⟨t',rfl⟩⟩:=vals2 r
 refine min_two_ints (I.ok.hd hc) fun h' tk k=>⟨_,H,I.kept k,?_,q⟩
 by_cases hj:j < i
 ·rw [if_pos hj,if_pos hj]; exact ⟨_,rfl⟩
 ·rw [if_neg hj,if_neg hj]; exact ⟨_,rfl⟩
end
end L2
namespace L2
open PySem PySem.Spec PyProof.Rows
structure ObjM (h:Heap) (x dx C:Addr) (mA:Str→Option Value):Prop where
 obj:h.get? x=some (PySem.W.instObj C dx)
 ns:h.Ns1 dx mA
 ne:dx≠x
theorem lookIn_ns {h:Heap} {dx:Addr} {mA:Str→Option Value} (n:h.Ns1 dx mA):∃ od,h.get? dx=some od∧∀ name,PySem.W.lookIn name od=some (mA name):=by
 obtain ⟨o,es,ep,ho,hd,hk,_,hm⟩:=n
 refine ⟨o,ho,fun name=>?_⟩
 have e:=hm name
 unfold nsFind findBy at e
 rw [← Array.find?_toList] at e
 unfold PySem.W.lookIn
 rw [hd]
 dsimp only
 split
 ·rename_i y q
  rw [q] at e
  exact congrArg some e
 ·rename_i q
  rw [q] at e
  have a:es.toList.any (·.refKey)=false:=by
   rw [List.any_eq_false]
   intro y hy
   obtain ⟨z,t,hkey⟩:=hk y (Array.mem_toList_iff.mp hy)
   simp [DictEntry.refKey,hkey]
  have a':¬ es.toList.any (·.refKey)=true:=by rw [a]; exact Bool.false_ne_true
  rw [if_neg a']
  exact congrArg some e
theorem ObjM.look {h:Heap} {x dx C:Addr} {mA:Str→Option Value} (I:ObjM h x dx C mA):∃ od,PySem.W.InstAt h x (PySem.W.instObj C dx) C (some od)∧∀ name,PySem.W.lookIn name od=some (mA name) :=
 let ⟨od,ho,hl⟩:=lookIn_ns I.ns
 ⟨od,⟨I.obj,rfl,rfl,ho⟩,hl⟩
section
variable {prog:Program} {w:World} {A:Around} {E:Value→Shared→Prop} {s:Shared} {K:PySem.W.Frag} {x dx C f:Addr} {mA:Str→Option Value} {name:Str} {v:Value}
theorem set_map {ns:List Str} {Q:Unit→Shared→Prop} (X:K.In s.heap) (I:ObjM s.heap x dx C mA)
  (hs:PySem.W.findIn K (.ref C) "__setattr__"=some (some (.builtin "object.__setattr__"))) (hp:PySem.W.plainOver K C=true) (ht:PySem.W.takerIn K C name=some none) (hh:PySem.W.hasDictIn K C=true)
  (hw:PySem.Within mA ns) (hsz:ns.length≤sizeLine)
  (h:∀ h',ObjM h' x dx C (fun y=>if y=name then some v else mA y)→Heap.SameBut dx s.heap h'→Q () { s with heap:=h',toks:=s.toks+2 }) :
  wpAny (model prog w) A (setAttr (.ref x) name v) Q E s:=by
 obtain ⟨od,J,hl⟩:=I.look
 refine PySem.W.set_plain X J hs (PySem.W.osa_open (s:={ s with toks:=s.toks+1 }) (r:=none) X J hp ht fun b=>?_)
 obtain ⟨cd,hc,hd'⟩:=PySem.W.any_some hh
 have hx:s.heap.get? x=some ⟨.ref C,some dx,.plain,#[]⟩:=I.obj
 refine wpAny_bind (wpAny_pure (wpAny_bind (wpAny_bind (wpAny_loadPart hx (wpAny_bind (PySem.W.Looks.here (s:={ s with toks:=s.toks+1 }) (PySem.W.looks_clsIn X hc) ?_))))))
 rw [hd']
 refine wpAny_pure (a:=some dx) (wpAny_bind (wpAny_pure (wpAny_bind ?_)))
 refine wpAny_nsSet1 (s:={ s with toks:=s.toks+1 }) I.ns fun h' hn2 hs2=>?_
 obtain ⟨oD,esD,epD,hoD,hdD,hcD⟩:=hn2.count (PySem.Within.cons name v hw)
 refine wpAny_bind (wpAny_lookBehind hoD (by rw [hdD]; exact pastItsLine_dict (Nat.le_trans hcD (by rw [List.length_cons]; omega))) ?_)
 exact wpAny_pure (h _ ⟨(hs2.2 _ (Ne.symm I.ne)).trans I.obj,hn2,I.ne⟩ hs2)
theorem make_map {R:Result→Shared→Prop} {vs:List Value} {kw:List (Str × Value)} (X:K.In s.heap) (hm:PySem.W.makesIn K C=true)
  (hi:PySem.W.findIn K (.ref C) "__init__"=some (some (.ref f))) (hf:PySem.W.typeIn K (.ref f)=some (.type "function"))
  (h:codeAny (model prog w) (A.under (.builtin "type.__call__" ⟨.ref C :: vs,kw⟩)) (.call (.ref f) ⟨.ref (s.heap.objs.size+1) :: vs,kw⟩) (PySem.W.InitBack (s.heap.objs.size+1) R)
   { s with heap:=(s.heap.push PySem.W.emptyDict).push (PySem.W.instObj C s.heap.objs.size) }) :
  codeAny (model prog w) A (.call (.ref C) ⟨vs,kw⟩) R s:=by
 obtain ⟨hh,g,d,t,os⟩:=s
 exact PySem.W.make_core (PySem.W.makes_of X hm) (PySem.W.looks_findIn X hi) (fun self=>PySem.W.bind_fn X self hf) (.inl rfl) h
end
def putF (f:Str) (v:V):List (Str × V)→List (Str × V)
 | []=>[(f,v)]
 | (g,x) :: r=>if g=f then (g,v) :: r else (g,x) :: putF f v r
theorem lookup_putF (f g:Str) (v:V):∀ fs:List (Str × V),(putF f v fs).lookup g=if g=f then some v else fs.lookup g
 | []=>by
  show List.lookup g [(f,v)]=_
  by_cases h:g=f
  ·have hb:(g == f)=true:=beq_iff_eq.mpr h
   simp only [List.lookup,hb,if_pos h]
  ·have hb:(g == f)=false:=beq_eq_false_iff_ne.mpr h
   simp only [List.lookup,hb,if_neg h]
 | (k,x) :: r=>by
  have ih:=lookup_putF f g v r
  rw [show putF f v ((k,x) :: r)=(if k=f then (k,v) :: r else (k,x) :: putF f v r) from rfl]
  by_cases hk:k=f
  ·rw [if_pos hk]
   by_cases h:g=k
   ·have hb:(g == k)=true:=beq_iff_eq.mpr h
    simp only [List.lookup,hb,if_pos (h.trans hk)]
   ·have hb:(g == k)=false:=beq_eq_false_iff_ne.mpr h
    simp only [List.lookup,hb,if_neg (fun e:g=f=>h (e.trans hk.symm))]
  ·rw [if_neg hk]
   by_cases h:g=k
   ·have hb:(g == k)=true:=beq_iff_eq.mpr h
    simp only [List.lookup,hb,if_neg (fun e:g=f=>hk (h.symm.trans e))]
   ·have hb:(g == k)=false:=beq_eq_false_iff_ne.mpr h
    simp only [List.lookup,hb]
    exact ih
theorem keys_putF (f:Str) (v:V):∀ fs:List (Str × V),f∈(putF f v fs).map (·.1)∧∀ g,g∈fs.map (·.1)→g∈(putF f v fs).map (·.1)
 | []=>⟨by simp [putF],fun g h=>by simp at h⟩
 | (k,x) :: r=>by
  obtain ⟨i1,i2⟩:=keys_putF f v r
  rw [show putF f v ((k,x) :: r)=(if k=f then (k,v) :: r else (k,x) :: putF f v r) from rfl]
  by_cases hk:k=f
  ·rw [if_pos hk]
   subst hk
   exact ⟨by simp,fun g h=>by simpa using h⟩
  ·rw [if_neg hk]
   refine ⟨?_,fun g h=>?_⟩
   ·rw [List.map_cons]
    exact List.mem_cons_of_mem _ i1
   ·rw [List.map_cons] at h ⊢
    rcases List.mem_cons.mp h with e | e
    ·exact List.mem_cons.mpr (.inl e)
    ·exact List.mem_cons_of_mem _ (i2 g e)
theorem length_putF (f:Str) (v:V):∀ fs:List (Str × V),(putF f v fs).length≤fs.length+1
 | []=>by simp [putF]
 | (k,x) :: r=>by
  have ih:=length_putF f v r
  rw [show putF f v ((k,x) :: r)=(if k=f then (k,v) :: r else (k,x) :: putF f v r) from rfl]
  by_cases hk:k=f
  ·rw [if_pos hk,List.length_cons,List.length_cons]; omega
  ·rw [if_neg hk,List.length_cons,List.length_cons]; omega
theorem RelO.some_of {v:V} {o:Option Value} (r:RelO (some v) o):∃ u,o=some u∧RelV v u:=by
 cases o with
 | none=>exact (show False from r).elim
 | some u=>exact ⟨u,rfl,r⟩
theorem handed_of {v:V} {u:Value} (r:RelV v u):PySem.W.handedIn u=true:=by
 cases v with
 | non=>cases (show u=Value.none from r); rfl
 | bl b=>cases (show u=Value.bool b from r); rfl
 | int i=>obtain ⟨t,e⟩:=(show ∃ t,u=Value.int i t from r); cases e; rfl
 | str x=>obtain ⟨t,e⟩:=(show ∃ t,u=Value.str x t from r); cases e; rfl
 | byt b=>obtain ⟨t,e⟩:=(show ∃ t,u=Value.bytes b t from r); cases e; rfl
 | flt b=>obtain ⟨t,e⟩:=(show ∃ t,u=Value.float b t from r); cases e; rfl
 | ref a=>cases (show u=Value.ref a from r); rfl
 | ty n=>cases (show u=Value.type n from r); rfl
section
variable {P:Program} {w:World} {H H':Hp} {h h':Heap} {a C dx:Addr} {fs fs':List (Str × V)}
theorem ins_get (hok:HOk P w H h) (e:H a=some (.ins C dx fs)):∃ mA,ObjM h a dx C mA∧(∀ f,RelO (fs.lookup f) (mA f))∧PySem.Within mA (fs.map (·.1))∧fs.length≤1000∧H dx=some (.own a):=by
 obtain ⟨d,z,ne,ob,mA,n,r,q⟩:=(show ObjOk P w H h a (.ins C dx fs) from hok a _ e)
 exact ⟨mA,⟨ob,n,ne⟩,r,q,z,d⟩
end
structure Cls (K:PySem.W.Frag) (C:Addr):Prop where
 pg:PySem.W.plainGet K C Str.empty=true
 hd:PySem.W.hasDictIn K C=true
 po:PySem.W.plainOver K C=true
 sa:PySem.W.findIn K (.ref C) "__setattr__"=some (some (.builtin "object.__setattr__"))
theorem Cls.get {K:PySem.W.Frag} {C:Addr} (c:Cls K C) (f:Str):PySem.W.plainGet K C f=true:=c.pg
def NoAttr (K:PySem.W.Frag) (C:Addr) (f:Str):Prop:=PySem.W.findIn K (.ref C) f=some none
theorem NoAttr.taker {K:PySem.W.Frag} {C:Addr} {f:Str} (n:NoAttr K C f):PySem.W.takerIn K C f=some none:=by
 unfold PySem.W.takerIn
 rw [show PySem.W.findIn K (.ref C) f=some none from n]
 rfl
section
variable {X:Cx} {pins:List (Addr × Obj)} {σ:St} {H:Hp} {s:Shared} {a C dx:Addr} {fs:List (Str × V)} {f:Str} {v:V} {A:Around} {E:Value→Shared→Prop}
theorem setattr_ok {y:V} {u:Value} {Q:Unit→Shared→Prop} (I:Inv X pins σ H s) (e:H a=some (.ins C dx fs)) (c:Cls X.K C) (n:NoAttr X.K C f) (hl:fs.length < 1000) (ry:RelV y u)
  (h:∀ s',Inv X pins σ (upd H a (.ins C dx (putF f y fs))) s'→Q () s'):wpAny (model X.prog X.w) A (setAttr (.ref a) f u) Q E s:=by
 obtain ⟨mA,O,r,wi,_,ho⟩:=ins_get I.hok e
 have hz:(fs.map (·.1)).length≤sizeLine:=by rw [List.length_map,sizeLine_eq]; omega
 refine set_map I.kIn O c.sa c.po n.taker c.hd wi hz fun h' O' sb=>h _ ?_
 have hd:∃ o,h'.get? dx=some o:=let ⟨o,_,_,e',_⟩:=O'.ns; ⟨o,e'⟩
 refine I.write (x:=a) (e:=dx) (by rw [e]; exact True.intro) (.inr ho) (fun b q hb z=>(sb.2 b hb).trans z) hd ?_
 refine ⟨by rw [upd_ne O.ne]; exact ho,?_,O.ne,O'.obj,_,O'.ns,fun g=>?_,fun g hg=>?_⟩
 ·have:=length_putF f y fs; omega
 ·show RelO ((putF f y fs).lookup g) (if g=f then some u else mA g)
  rw [lookup_putF]
  by_cases q:g=f
  ·rw [if_pos q,if_pos q]; exact ry
  ·rw [if_neg q,if_neg q]; exact r g
 ·by_cases q:g=f
  ·rw [q]; exact (keys_putF f y fs).1
  ·refine (keys_putF f y fs).2 g (wi g fun z=>hg ?_)
   show (if g=f then some u else mA g)=none
   rw [if_neg q]; exact z
theorem Inv.made (I:Inv X pins σ H s):Inv X pins σ (upd (upd H s.heap.objs.size (.own (s.heap.objs.size+1))) (s.heap.objs.size+1) (.ins C s.heap.objs.size []))
  { s with heap:=(s.heap.push PySem.W.emptyDict).push (PySem.W.instObj C s.heap.objs.size) }:=by
 have e1:(s.heap.push PySem.W.emptyDict).get? s.heap.objs.size=some PySem.W.emptyDict:=Heap.get?_push_size s.heap rfl
 have e2:((s.heap.push PySem.W.emptyDict).push (PySem.W.instObj C s.heap.objs.size)).get? (s.heap.objs.size+1)=some (PySem.W.instObj C s.heap.objs.size):=by
  have:=Heap.get?_push_size (s.heap.push PySem.W.emptyDict) (o:=PySem.W.instObj C s.heap.objs.size) rfl
  rwa [Heap.size_push] at this
 have e3:(s.heap.push PySem.W.emptyDict).Ns s.heap.objs.size (fun _=>none):=⟨PySem.W.emptyDict,#[],_,e1,rfl,(fun e he=>absurd he (by simp)),fun _=>rfl⟩
 have I1:=I.laid (a:=s.heap.objs.size) (o:=.own (s.heap.objs.size+1)) (h':=s.heap.push PySem.W.emptyDict) (t':=s.toks) (fun b u q=>Heap.get?_push_of_some _ q) (Nat.le_refl _) ⟨_,e1⟩
 refine I1.laid (a:=s.heap.objs.size+1) (o:=.ins C s.heap.objs.size []) (t':=s.toks) (fun b u q=>Heap.get?_push_of_some _ q) (Nat.le_of_eq (Heap.size_push _ _)) ?_
 have ne:s.heap.objs.size≠s.heap.objs.size+1:=Nat.ne_of_lt (Nat.lt_succ_self _)
 refine ⟨by rw [upd_ne ne,upd_same],Nat.zero_le _,ne,e2,fun _=>none,(Heap.Ns1.of_empty e3).at fun o q=>Heap.get?_push_of_some _ q,fun _=>True.intro,fun y hy=>absurd rfl hy⟩
theorem attr_of {prog:Program} {w:World} {env:Env} {e:Expr} {f:Str} {pos:Pos} {s:Shared} {Q:Value→Shared→Prop} (hb:attributeBase e f env (eval e env)=eval e env)
  (h:wpAny (model prog w) A (eval e env) (fun o s₁=>wpAny (model prog w) A (getAttr o f true) Q E s₁) E s):wpAny (model prog w) A (eval (.Attribute e f pos) env) Q E s :=
 Attribute_any_ h (by rw [arm_eval_Attribute,hb])
end
def sFld (K:PySem.W.Frag) (ta tv:TE) (f:Str):TS:=fun D σ H=>tv σ H fun y H1=>ta σ H1 fun x H2=>∃ a C dx fs,x=.ref a∧H2 a=some (.ins C dx fs)∧Cls K C∧NoAttr K C f∧fs.length < 1000 ∧
 D.nx σ (upd H2 a (.ins C dx (putF f y fs)))
section
variable {X:Cx} {o e value:Expr} {f:Str} {pos pos' tpos:Pos} {ta tv:TE}
theorem ps_fld (ha:PE X o ta) (hv:PE X value tv) (hs:swapsWith value (some (.Attribute o f pos')) pos.line X.env=pure false):PS X (.Assign [.Attribute o f pos'] value pos) (sFld X.K ta tv f):=by
 intro pins s σ H D I h
 refine plainObj_wpAny_Assign_Attribute (thn (hv pins s σ H _ I h) fun u s1 ⟨y,H1,I1,ry,q⟩=>thn (ha pins s1 σ H1 _ I1 q) fun ov s2 ⟨x,H2,I2,rx,a,C,dx,fs,ex,ea,c,n,l,q2⟩=>?_) hs
 subst ex
 obtain rfl:ov=Value.ref a:=rx
 exact setattr_ok I2 ea c n l ry fun s3 I3=>⟨σ,_,I3,q2⟩
end
section
variable {X:Cx} {pins:List (Addr × Obj)} {σ:St} {H:Hp} {s:Shared} {A:Around} {E:Value→Shared→Prop} {Q:Value→Shared→Prop} {c:Value} {b:Bool}
inductive TyOf (K:PySem.W.Frag) (H:Hp):V→Value→Prop where
 | non:TyOf K H .non (.type "NoneType")
 | bl (x:Bool):TyOf K H (.bl x) (.type "bool")
 | int (i:Int):TyOf K H (.int i) (.type "int")
 | str (x:Str):TyOf K H (.str x) (.type "str")
 | flt (x:UInt64):TyOf K H (.flt x) (.type "float")
 | lst {a:Addr} {xs:List V} (e:H a=some (.lst xs)):TyOf K H (.ref a) (.type "list")
 | frz {a:Addr} {o:Obj} {xs:List V} (e:H a=some (.frz o (.lst xs))):TyOf K H (.ref a) (.type "list")
 | tup {a:Addr} {xs:List V} (e:H a=some (.tup xs)):TyOf K H (.ref a) (.type "tuple")
 | dK {a:Addr} {kvs:List (Key × V)} (e:H a=some (.dK kvs)):TyOf K H (.ref a) (.type "dict")
 | dT {a:Addr} {kvs:List (List Key × V)} (e:H a=some (.dT kvs)):TyOf K H (.ref a) (.type "dict")
 | ins {a C dx:Addr} {fs:List (Str × V)} (e:H a=some (.ins C dx fs)) (cl:Cls K C) (ha:PySem.W.findIn K (.ref C) "__class__"=some (some (.builtin "object.__class__")))
   (hn:PySem.W.specialIn K (.builtin "object.__class__") "__get__"=some (some (.builtin "getset_descriptor.__get__"))) (htk:PySem.W.takesIn K (.builtin "object.__class__")=some true)
   (hm:PySem.W.mroIn K C (.type "object")=some true):TyOf K H (.ref a) (.ref C)
theorem isinst_ok {x:V} {u t:Value} (I:Inv X pins σ H s) (rx:RelV x u) (ty:TyOf X.K H x t) (e:PySem.W.kitOne X.K t c=some b) (h:∀ tk,Q (.bool b) { s with toks:=tk }) :
  wpAny (model X.prog X.w) A (call (.builtin "isinstance") [u,c]) Q E s:=by
 cases ty with
 | non=>cases (show u=Value.none from rx); exact PySem.W.kia_one PySem.W.kitx_none I.kIn True.intro e (fun z=>nomatch z) h
 | bl y=>cases (show u=Value.bool y from rx); exact PySem.W.kia_one PySem.W.kitx_bool I.kIn True.intro e (fun z=>nomatch z) h
 | int i=>obtain ⟨t,q⟩:=(show ∃ t,u=Value.int i t from rx); cases q; exact PySem.W.kia_one PySem.W.kitx_int I.kIn True.intro e (fun z=>nomatch z) h
 | str y=>obtain ⟨t,q⟩:=(show ∃ t,u=Value.str y t from rx); cases q; exact PySem.W.kia_one PySem.W.kitx_str I.kIn True.intro e (fun z=>nomatch z) h
 | flt y=>obtain ⟨t,q⟩:=(show ∃ t,u=Value.float y t from rx); cases q; exact PySem.W.kia_one PySem.W.kitx_float I.kIn True.intro e (fun z=>nomatch z) h
 | @lst a xs ea =>
  cases (show u=Value.ref a from rx)
  obtain ⟨_,_,n,_,h1⟩:=(show ObjOk X.prog X.w H s.heap a (.lst xs) from I.hok a _ ea)
  exact PySem.W.kia_one PySem.W.kitx_list I.kIn ⟨_,h1,rfl⟩ e (fun z=>nomatch z) h
 | @frz a ob xs ea =>
  cases (show u=Value.ref a from rx)
  obtain ⟨_,_,_,n,_,h1⟩:=(show ObjOk X.prog X.w H s.heap a (.frz ob (.lst xs)) from I.hok a _ ea)
  exact PySem.W.kia_one PySem.W.kitx_list I.kIn ⟨_,h1,rfl⟩ e (fun z=>nomatch z) h
 | @tup a xs ea =>
  cases (show u=Value.ref a from rx)
  obtain ⟨_,_,_,p⟩:=(show ObjOk X.prog X.w H s.heap a (.tup xs) from I.hok a _ ea)
  obtain ⟨o,h1,h2,_⟩:=p
  exact PySem.W.kia_one PySem.W.kitx_tuple I.kIn ⟨o,h1,h2⟩ e (fun z=>nomatch z) h
 | @dK a kvs ea =>
  cases (show u=Value.ref a from rx)
  obtain ⟨_,_,vs,_,p⟩:=(show ObjOk X.prog X.w H s.heap a (.dK kvs) from I.hok a _ ea)
  obtain ⟨o,es,ep,h1,h2,_⟩:=p
  exact PySem.W.kia_one PySem.W.kitx_dict I.kIn ⟨o,h1,h2.1⟩ e (fun z=>nomatch z) h
 | @dT a kvs ea =>
  cases (show u=Value.ref a from rx)
  obtain ⟨_,_,xs,_,o,es,ep,h1,h2,_⟩:=(show ObjOk X.prog X.w H s.heap a (.dT kvs) from I.hok a _ ea)
  exact PySem.W.kia_one PySem.W.kitx_dict I.kIn ⟨o,h1,h2.1⟩ e (fun z=>nomatch z) h
 | @ins a C dx fs ea cl ha hn htk hm =>
  cases (show u=Value.ref a from rx)
  obtain ⟨mA,O,_⟩:=ins_get I.hok ea
  obtain ⟨od,J,_⟩:=O.look
  exact PySem.W.kia_one (PySem.W.kitx_own (cl.get _) cl.hd ha hn htk hm) I.kIn J e (fun z=>nomatch z) h
end
end L2
namespace L2
open PySem PySem.Spec PyProof.Rows
structure Room (k:Nat) (A:Around):Prop where
 hd:A.handled=none
 dp:A.depth+3 * k+5 < recursionLimit
 un:A.units+16 * k+200 < cLine
theorem Room.mono {j k:Nat} {A:Around} (r:Room k A) (h:j≤k):Room j A:=⟨r.hd,by have:=r.dp; omega,by have:=r.un; omega⟩
theorem Room.deeper {k:Nat} {A:Around} (r:Room (k+1) A) (env:Env):Room k (A.deeper env) :=
 ⟨r.hd,by have:=r.dp; show A.depth+1+3 * k+5 < _; omega,by have:=r.un; show A.units+3+16 * k+200 < _; omega⟩
theorem make_depth {A:Around} {C:Addr} {us:List Value} {kw:List (Str × Value)}:(A.under (.builtin "type.__call__" ⟨.ref C :: us,kw⟩)).depth=A.depth+1:=by
 first | rfl | simp [Around.under,Code.weight,Code.isCreation,Code.isGuard,Code.isCaller,Code.frames,Code.isFrame,guardIds]
theorem make_units {A:Around} {C:Addr} {us:List Value} {kw:List (Str × Value)}:(A.under (.builtin "type.__call__" ⟨.ref C :: us,kw⟩)).units=A.units+1:=by
 first | rfl | simp [Around.under,Code.cUnits,Code.frames,Code.isFrame]
theorem Room.make {k:Nat} {A:Around} (r:Room (k+1) A) (C:Addr) (us:List Value) (kw:List (Str × Value)):Room k (A.under (.builtin "type.__call__" ⟨.ref C :: us,kw⟩)) :=
 ⟨r.hd,by have:=r.dp; rw [make_depth]; omega,by have:=r.un; rw [make_units]; omega⟩
theorem Room.depth {k:Nat} {A:Around} (r:Room k A):A.depth < recursionLimit:=by have:=r.dp; omega
theorem Room.units {k:Nat} {A:Around} (r:Room k A):A.units+64 < cLine:=by have:=r.un; omega
def tNil:TA:=fun _ H Q=>Q [] H
def tCons (ta:TE) (tr:TA):TA:=fun σ H Q=>ta σ H fun x H1=>tr σ H1 fun xs H2=>Q (x :: xs) H2
section
variable {X:Cx} {e:Expr} {es:List Expr} {te:TE} {t:TA} {pos:Pos}
theorem pa_nil:PA X [] tNil:=fun _ _ _ _ H Q I h=>Calls.spliced_nil ⟨[],H,I,.nil,h⟩
theorem pa_cons (ha:PE X e te) (hr:PA X es t) (hs:starEach (e :: es) X.env=(false,eval e X.env) :: starEach es X.env:=by rfl):PA X (e :: es) (tCons te t):=by
 intro pos pins s σ H Q I h
 rw [hs]
 show wpAny _ _ (spliced ((false,eval e X.env) :: backTo pos (starEach es X.env))) _ _ s
 refine Calls.spliced_cons (thn (ha pins s σ H _ I h) fun u s1 ⟨x,H1,I1,r1,q1⟩=>?_)
 exact thn (hr pos pins s1 σ H1 _ I1 q1) fun us s2 ⟨xs,H2,I2,r2,q2⟩=>⟨x :: xs,H2,I2,.cons r1 r2,q2⟩
def tTup (t:TA):TE:=fun σ H Q=>t σ H fun xs H1=>xs.length≤sizeLine∧∀ p,H1 p=none→Q (.ref p) (upd H1 p (.tup xs))
def tLst (t:TA):TE:=fun σ H Q=>t σ H fun xs H1=>xs.length≤sizeLine∧∀ p,H1 p=none→Q (.ref p) (upd H1 p (.lst xs))
theorem pe_tup {x1} (h:PA X es t):PE X (.Tuple es x1 pos) (tTup t):=by
 intro pins s σ H Q I hq
 refine wpAny_Tuple_spliced (thn (h pos pins s σ H _ I hq) fun us s1 ⟨xs,H1,I1,r,z,q⟩=>⟨by rw [← r.length]; exact z,?_⟩)
 have hf:H1 s1.heap.objs.size=none:=I1.hok.fresh (Nat.le_refl _)
 refine ⟨.ref s1.heap.objs.size,upd H1 s1.heap.objs.size (.tup xs),I1.laid (t':=s1.toks) (fun b u e=>Heap.get?_push_of_some _ e) (Nat.le_refl _) ?_,rfl,q _ hf⟩
 exact ⟨z,us,r,⟨_,Heap.get?_push_size _ rfl,rfl,_,rfl⟩⟩
theorem pe_lst (h:PA X es t):PE X (.List es pos) (tLst t):=by
 intro pins s σ H Q I hq
 refine wpAny_List_spliced (thn (h pos pins s σ H _ I hq) fun us s1 ⟨xs,H1,I1,r,z,q⟩=>⟨by rw [← r.length]; exact z,?_⟩)
 have hf:H1 s1.heap.objs.size=none:=I1.hok.fresh (Nat.le_refl _)
 refine ⟨.ref s1.heap.objs.size,upd H1 s1.heap.objs.size (.lst xs),I1.laid (t':=s1.toks) (fun b u e=>Heap.get?_push_of_some _ e) (Nat.le_refl _) ?_,rfl,q _ hf⟩
 exact ⟨z,us,0,r,Heap.get?_push_size _ rfl⟩
end
abbrev Sp:=List V→Hp→VK→XK→Prop
abbrev CXT:=List Env→Hp→Shared→XK→Value→Shared→Prop
structure Env0 (P:Program) (w:World) (K:PySem.W.Frag) (mg:Str→Option Value) (base:Heap) (A:Around) (outer:List Env) (s:Shared) (H:Hp):Prop where
 frames:A.frames=some outer
 mod:Mod K mg base
 bs:∀ b o,base.get? b=some o→s.heap.get? b=some o∧H b=none
 bsz:base.objs.size≤s.heap.objs.size
 funs:s.heap.FunFrames base outer
 frf:∀ b∈frs outer,H b=none
 hok:HOk P w H s.heap
 bare:AllBare s.gens
def CE (outer:List Env) (P:Program) (w:World) (H:Hp) (s:Shared) (Q:VK) (u:Value) (s':Shared):Prop :=
 ∃ v H',s'.os=s.os∧AllBare s'.gens∧Un (frs outer) [] H H' s.heap s'.heap∧HOk P w H' s'.heap∧RelV v u∧Q v H'
def CR (CX:CXT) (outer:List Env) (P:Program) (w:World) (H:Hp) (s:Shared) (Q:VK) (E:XK) (r:Result) (s':Shared):Prop :=
 match r with
 | .ok (.ret u)=>CE outer P w H s Q u s'
 | .ok _=>False
 | .error e=>CX outer H s E e s'
structure FnOk (P:Program) (w:World) (K:PySem.W.Frag) (mg:Str→Option Value) (base:Heap) (CX:CXT) (k:Nat) (f:Addr) (fd:FuncData) (ps:List Str) (sp:Sp):Prop where
 len:∀ vs H Q E,sp vs H Q E→vs.length=ps.length
 run:∀ (A:Around) (outer:List Env) (s:Shared) (H:Hp) (args:Args) (us:List Value) (vs:List V) (Q:VK) (E:XK),Room k A→Env0 P w K mg base A outer s H→BindsTo s fd args (ps.zip us)→Vals vs us→sp vs H Q E →
  codeAny (model P w) A (.call (.ref f) args) (CR CX outer P w H s Q E) s
theorem Env0.make {P:Program} {w:World} {K:PySem.W.Frag} {mg:Str→Option Value} {base:Heap} {A:Around} {outer:List Env} {s:Shared} {H:Hp} (e:Env0 P w K mg base A outer s H) (C:Addr) (us:List Value) (kw:List (Str × Value)) :
  Env0 P w K mg base (A.under (.builtin "type.__call__" ⟨.ref C :: us,kw⟩)) outer s H:=⟨by first | exact e.frames | (simpa [Around.under,Code.envs,Code.isFrame,pushEnvs] using e.frames),e.mod,e.bs,e.bsz,e.funs,e.frf,e.hok,e.bare⟩
section
variable {X:Cx} {pins:List (Addr × Obj)} {σ:St} {H:Hp} {s s':Shared}
theorem Inv.env0 (I:Inv X pins σ H s):Env0 X.prog X.w X.K X.mg X.base X.A X.stack s H :=
 ⟨I.ok.frames,I.ok.mod,I.bs,Nat.le_trans I.ok.bsz I.sz,I.stack,I.stkFree,I.hok,I.bare⟩
theorem Inv.after {Q:VK} {u:Value} (I:Inv X pins σ H s) (h:CE X.stack X.prog X.w H s Q u s'):EP X pins σ Q u s':=by
 obtain ⟨v,H',os,bare,un,hok,r,q⟩:=h
 obtain ⟨hh,g,d,t,os'⟩:=s'
 obtain rfl:os'=s.os:=os
 exact ⟨v,H',I.call (h':=hh) (g':=g) (d':=d) (t':=t) (ch:=[]) un hok bare (fun b z=>absurd z (by simp)),r,q⟩
end
def tCall (sp:Sp) (dvs:List V) (E:XK) (t:TA):TE:=fun σ H Q=>t σ H fun vs H1=>sp (vs++dvs) H1 Q E
def tMake (C:Addr) (sp:Sp) (dvs:List V) (E:XK) (t:TA):TE:=fun σ H Q=>t σ H fun vs H1=>∀ x dx,H1 x=none→H1 dx=none→dx≠x →
 sp (.ref x :: (vs++dvs)) (upd (upd H1 dx (.own x)) x (.ins C dx [])) (fun v H2=>v=.non∧Q (.ref x) H2) E
def Binds (K:PySem.W.Frag) (fd:FuncData) (ps:List Str) (ds:List Value):Prop :=
 ∀ (s:Shared) (us:List Value),K.In s.heap→(us++ds).length=ps.length→BindsTo s fd ⟨us,[]⟩ (ps.zip (us++ds))
theorem Binds.all {K:PySem.W.Frag} {fd:FuncData} {ps:List Str} (h:∀ us:List Value,us.length=ps.length→bindArgs fd ⟨us,[]⟩=pure (ps.zip us)):Binds K fd ps []:=fun s us _ hl=>by
 rw [List.append_nil] at hl ⊢
 exact .of_eq (h us hl)
def Passes (CX:CXT) (X:Cx) (E:XK):Prop:=∀ (pins:List (Addr × Obj)) (σ:St) (H:Hp) (s:Shared) (e:Value) (s':Shared),Inv X pins σ H s→CX X.stack H s E e s'→X.xe e s'
section
variable {X:Cx} {CX:CXT} {k:Nat} {f C:Addr} {fd:FuncData} {ps:List Str} {sp:Sp} {dvs:List V} {ds:List Value} {E:XK} {x m:Str} {p pos apos:Pos} {e o:Expr} {es:List Expr} {ta:TE} {t:TA}
theorem run_fn {pins:List (Addr × Obj)} {σ:St} {H:Hp} {s:Shared} {Q:VK} {us:List Value} {vs:List V} (F:FnOk X.prog X.w X.K X.mg X.base CX k f fd ps sp) (hr:Room k X.A) (hb:Binds X.K fd ps ds) (hd:Vals dvs ds) (hx:Passes CX X E)
  (I:Inv X pins σ H s) (r:Vals vs us) (h:sp (vs++dvs) H Q E):wpAny (model X.prog X.w) X.A (call (.ref f) us) (EP X pins σ Q) X.xe s:=by
 have r2:Vals (vs++dvs) (us++ds):=r.append hd
 have hl:(us++ds).length=ps.length:=by rw [← r2.length]; exact F.len _ _ _ _ h
 refine wpAny_call (codeAny_mono (F.run X.A X.stack s H ⟨us,[]⟩ (us++ds) (vs++dvs) Q E hr I.env0 (hb s us I.kIn hl) r2 h) fun r s' hq=>?_)
 cases r with
 | error e=>exact hx pins σ H s e s' I hq
 | ok fl =>
  cases fl with
  | ret u=>exact I.after hq
  | next=>exact False.elim hq
  | brk=>exact False.elim hq
  | cont=>exact False.elim hq
theorem pe_call (F:FnOk X.prog X.w X.K X.mg X.base CX k f fd ps sp) (hr:Room k X.A) (hg:Gl X x) (hm:X.mg x=some (.ref f)) (hk:PySem.W.keepIn X.K (.ref f)=true) (hb:Binds X.K fd ps ds) (hd:Vals dvs ds) (hx:Passes CX X E)
  (ha:PA X (e :: es) t) (hdb:(x == ("__debug__":Str))=false:=by decide) (he:starEach (e :: es) X.env=(false,eval e X.env) :: starEach es X.env:=by rfl) (hpl:(backTo pos (starEach es X.env)).any (·.1)=false:=by rfl) :
  PE X (.Call (.Name x p) (e :: es) [] pos) (tCall sp dvs E t):=by
 intro pins s σ H Q I h
 refine wpAny_Call_Name_kw (ld_glob I hg hm ?_ hdb)
 refine PySem.W.callWith_K (h₀:=X.base) I.ok.mod.kin hk (thn (ha pos pins s σ H _ I h) fun us s1 ⟨vs,H1,I1,r,q⟩=>⟨I1.kIn,?_⟩) he hpl
 exact run_fn F hr hb hd hx I1 r q
structure Mk (K:PySem.W.Frag) (C f:Addr):Prop where
 makes:PySem.W.makesIn K C=true
 init:PySem.W.findIn K (.ref C) "__init__"=some (some (.ref f))
 fn:PySem.W.isFn K (.ref f)=true
 kp:PySem.W.keepIn K (.ref C)=true
theorem run_make {pins:List (Addr × Obj)} {σ:St} {H:Hp} {s:Shared} {Q:VK} {us:List Value} {vs:List V} (M:Mk X.K C f) (F:FnOk X.prog X.w X.K X.mg X.base CX k f fd ps sp) (hr:Room (k+1) X.A) (hb:Binds X.K fd ps ds) (hd:Vals dvs ds)
  (hx:Passes CX X E) (I:Inv X pins σ H s) (r:Vals vs us)
  (h:∀ x dx,H x=none→H dx=none→dx≠x→sp (.ref x :: (vs++dvs)) (upd (upd H dx (.own x)) x (.ins C dx [])) (fun v H2=>v=.non∧Q (.ref x) H2) E) :
  wpAny (model X.prog X.w) X.A (call (.ref C) us) (EP X pins σ Q) X.xe s:=by
 have hq:=h (s.heap.objs.size+1) s.heap.objs.size (I.hok.fresh (Nat.le_succ _)) (I.hok.fresh (Nat.le_refl _)) (Nat.ne_of_lt (Nat.lt_succ_self _))
 have I2:=Inv.made (C:=C) I
 have r2:Vals (V.ref (s.heap.objs.size+1) :: (vs++dvs)) (Value.ref (s.heap.objs.size+1) :: (us++ds)):=.cons rfl (r.append hd)
 have hl:(Value.ref (s.heap.objs.size+1) :: us++ds).length=ps.length:=by
  have e:=r2.length
  rw [F.len _ _ _ _ hq] at e
  exact e.symm
 refine wpAny_call (make_map (f:=f) I.kIn M.makes M.init (beq_iff_eq.mp M.fn) (codeAny_mono (F.run _ X.stack _ _ ⟨Value.ref (s.heap.objs.size+1) :: us,[]⟩ (Value.ref (s.heap.objs.size+1) :: (us++ds)) _ _ E (hr.make C us [])
  (I2.env0.make C us []) (hb _ (Value.ref (s.heap.objs.size+1) :: us) I2.kIn hl) r2 hq) fun r s' hq'=>?_))
 cases r with
 | error e=>exact hx pins σ _ _ e s' I2 hq'
 | ok fl =>
  cases fl with
  | ret u =>
   obtain ⟨v,H',I3,rv,ev,q3⟩:=I2.after hq'
   subst ev
   exact ⟨rv,⟨V.ref (s.heap.objs.size+1),H',I3,rfl,q3⟩⟩
  | next=>exact False.elim hq'
  | brk=>exact False.elim hq'
  | cont=>exact False.elim hq'
theorem pe_make (M:Mk X.K C f) (F:FnOk X.prog X.w X.K X.mg X.base CX k f fd ps sp) (hr:Room (k+1) X.A) (hg:Gl X x) (hm:X.mg x=some (.ref C)) (hb:Binds X.K fd ps ds) (hd:Vals dvs ds) (hx:Passes CX X E)
  (ha:PA X (e :: es) t) (hdb:(x == ("__debug__":Str))=false:=by decide) (he:starEach (e :: es) X.env=(false,eval e X.env) :: starEach es X.env:=by rfl) (hpl:(backTo pos (starEach es X.env)).any (·.1)=false:=by rfl) :
  PE X (.Call (.Name x p) (e :: es) [] pos) (tMake C sp dvs E t):=by
 intro pins s σ H Q I h
 refine wpAny_Call_Name_kw (ld_glob I hg hm ?_ hdb)
 refine PySem.W.callWith_K (h₀:=X.base) I.ok.mod.kin M.kp (thn (ha pos pins s σ H _ I h) fun us s1 ⟨vs,H1,I1,r,q⟩=>⟨I1.kIn,?_⟩) he hpl
 exact run_make M F hr hb hd hx I1 r q
theorem pe_make0 (M:Mk X.K C f) (F:FnOk X.prog X.w X.K X.mg X.base CX k f fd ps sp) (hr:Room (k+1) X.A) (hg:Gl X x) (hm:X.mg x=some (.ref C)) (hb:Binds X.K fd ps ds) (hd:Vals dvs ds) (hx:Passes CX X E)
  (hdb:(x == ("__debug__":Str))=false:=by decide):PE X (.Call (.Name x p) [] [] pos) (tMake C sp dvs E tNil):=by
 intro pins s σ H Q I h
 refine wpAny_Call_Name_kw (ld_glob I hg hm ?_ hdb)
 exact PySem.W.callWith_K0 I.kIn M.kp (run_make (us:=[]) M F hr hb hd hx I .nil h)
end
section
variable {X:Cx} {CX:CXT} {k:Nat} {f C:Addr} {fd:FuncData} {ps ks:List Str} {sp:Sp} {E:XK} {x m:Str} {p pos apos kpos:Pos} {e o:Expr} {es:List Expr} {kws:List Keyword} {te ta:TE} {t tk:TA} {nm:Option Str}
variable {g:List Value→List Value→List Value} {gV:List V→List V→List V}
end
structure FnScope (N P:List Str) (sc:Scope):Prop where
 kind:sc.kind=.function
 co:sc.isCoroutine=false
 gen:sc.isGenerator=false
 nd:N.Nodup
 pre:N.take P.length=P
 par:∀ x∈P,sc.names.lookup x=some .local∨sc.names.lookup x=some .cell
 nofree:∀ y∈sc.names,y.2≠.free
theorem bindL_out {kindOf:Str→Option NameKind} {x:Str}:∀ {binds:List (Str × Value)} {m:Str→Option Value},(∀ v,(x,v) ∉ binds)→bindL kindOf binds m x=m x
 | [],_,_=>rfl
 | (n,v) :: r,m,h=>by
  unfold bindL
  rw [bindL_out fun w hw=>h w (List.mem_cons_of_mem _ hw)]
  split
  ·have:x≠n:=by rintro rfl; exact h v List.mem_cons_self
   simp [this]
  ·rfl
theorem bindC_out {kindOf:Str→Option NameKind} {x:Str}:∀ {binds:List (Str × Value)} {m:Str→Option Value},(∀ v,(x,v) ∉ binds)→bindC kindOf binds m x=m x
 | [],_,_=>rfl
 | (n,v) :: r,m,h=>by
  unfold bindC
  rw [bindC_out fun w hw=>h w (List.mem_cons_of_mem _ hw)]
  split
  ·rfl
  ·have:x≠n:=by rintro rfl; exact h v List.mem_cons_self
   simp [this]
theorem bindL_get {kindOf:Str→Option NameKind} {x:Str} {v:Value}:∀ {P:List Str} {vs:List Value} {i:Nat} {m:Str→Option Value},P.Nodup→P[i]?=some x→vs[i]?=some v→kindOf x=some .local →
  bindL kindOf (P.zip vs) m x=some v
 | [],_,_,_,_,h,_,_=>by simp at h
 | _ :: _,[],_,_,_,_,h,_=>by simp at h
 | p :: P,w :: vs,0,m,nd,h1,h2,hk=>by
  simp at h1 h2; subst h1; subst h2
  show bindL kindOf ((p,w) :: P.zip vs) m p=_
  unfold bindL
  rw [bindL_out fun v hv=>(List.nodup_cons.mp nd).1 (List.of_mem_zip hv).1,if_pos hk]
  simp
 | p :: P,w :: vs,i+1,m,nd,h1,h2,hk=>by
  show bindL kindOf ((p,w) :: P.zip vs) m x=_
  unfold bindL
  exact bindL_get (i:=i) (List.nodup_cons.mp nd).2 (by simpa using h1) (by simpa using h2) hk
theorem bindC_get {kindOf:Str→Option NameKind} {x:Str} {v:Value}:∀ {P:List Str} {vs:List Value} {i:Nat} {m:Str→Option Value},P.Nodup→P[i]?=some x→vs[i]?=some v→kindOf x≠some .local →
  bindC kindOf (P.zip vs) m x=some v
 | [],_,_,_,_,h,_,_=>by simp at h
 | _ :: _,[],_,_,_,_,h,_=>by simp at h
 | p :: P,w :: vs,0,m,nd,h1,h2,hk=>by
  simp at h1 h2; subst h1; subst h2
  show bindC kindOf ((p,w) :: P.zip vs) m p=_
  unfold bindC
  rw [bindC_out fun v hv=>(List.nodup_cons.mp nd).1 (List.of_mem_zip hv).1,if_neg hk]
  simp
 | p :: P,w :: vs,i+1,m,nd,h1,h2,hk=>by
  show bindC kindOf ((p,w) :: P.zip vs) m x=_
  unfold bindC
  exact bindC_get (i:=i) (List.nodup_cons.mp nd).2 (by simpa using h1) (by simpa using h2) hk
def start (N:List Str) (vs:List V):St:=vs.map some++List.replicate (N.length - vs.length) none
def cxOf (CX:CXT) (P:Program) (w:World) (K:PySem.W.Frag) (mg:Str→Option Value) (base:Heap) (N:List Str) (qual:Str) (scope:Scope) (f:Addr) (cd:Value) (A:Around) (outer:List Env) (s:Shared) (H:Hp) (E:XK):Cx where
 prog:=P
 w:=w
 K:=K
 mg:=mg
 base:=base
 A:=A.deeper (envOfC qual scope s.heap.objs.size f cd)
 N:=N
 s₀:=s
 H₀:=H
 env:=envOfC qual scope s.heap.objs.size f cd
 outer:=outer
 stack:=envOfC qual scope s.heap.objs.size f cd :: outer
 ex:=[]
 calm:=true
 fn:=fun _=>true
 pn:=[]
 xe:=fun e s'=>wpAny (model P w) (A.deeper (envOfC qual scope s.heap.objs.size f cd)) (leaving (envOfC qual scope s.heap.objs.size f cd) e) (fun _ s''=>CX outer H s E e s'') (fun e' s''=>CX outer H s E e' s'') s'
theorem cell_has {sc:Scope} {n:Nat} {x:Str} (h:sc.names.lookup x=some .cell):∃ c,(cellsFrom n sc.names []).lookup x=some c:=by
 have q:=PySem.W.cellsFrom_some sc.names n [] (.inl h)
 exact Option.isSome_iff_exists.mp q
theorem inv_start {CX:CXT} {P:Program} {w:World} {K:PySem.W.Frag} {mg:Str→Option Value} {base:Heap} {N ps:List Str} {qual:Str} {scope:Scope} {f:Addr} {cd:Value} {A:Around} {outer:List Env} {s s1:Shared} {H:Hp} {E:XK} {us:List Value} {vs:List V}
  (S:FnScope N ps scope) (hd:A.handled=none) (e0:Env0 P w K mg base A outer s H) (hl:vs.length=ps.length) (r:Vals vs us)
  (x:InCallC s s.heap.objs.size (bindL (envOfC qual scope s.heap.objs.size f cd).kindOf (ps.zip us) fun _=>none) (cellsFrom (s.heap.objs.size+1) scope.names []) (bindC (envOfC qual scope s.heap.objs.size f cd).kindOf (ps.zip us) fun _=>none) s1) :
  Inv (cxOf CX P w K mg base N qual scope f cd A outer s H E) [] (start N vs) H s1:=by
 have hpl:ps.length≤N.length:=by have:=congrArg List.length S.pre; rw [List.length_take] at this; omega
 obtain ⟨h1,tk,rfl,hk⟩:=x.done
 have noA:∀ b:Addr,b ∉ (cxOf CX P w K mg base N qual scope f cd A outer s H E).ex:=fun b z=>absurd (show b∈([]:List Addr) from z) (by simp)
 refine ⟨⟨e0.mod,S.kind,rfl,rfl,Nat.le_refl _,fun y z c h1 h2=>?_,fun y hy=>?_,fun y c _ h=>?_,fun _=>hd,Around.frames_deeper e0.frames,.inr ⟨rfl,rfl⟩,fun b z=>absurd z (noA b),e0.bs,e0.bsz,fun b _ _=>noA b,fun b z=>absurd z (noA b),e0.funs,e0.frf⟩,
  rfl,e0.bare,Un.kept hk,⟨_,x.toInCall.ns,fun i y v h1 h2 h3=>?_⟩,fun y c h=>⟨_,x.cell y c h⟩,e0.hok.fresh (Nat.le_refl _),fun y c h=>?_,fun p hp=>absurd (show p∈([]:List (Addr × Obj)) from hp) (by simp),e0.hok.kept hk,?_⟩
 ·exact name_of_addr x.apart (PySem.mem_of_lookup h1) (PySem.mem_of_lookup h2)
 ·have hy:scope.names.lookup y=some .cell∨scope.names.lookup y=some .free:=hy
  rcases hy with hy | hy
  ·exact cell_has hy
  ·exact absurd rfl (S.nofree _ (PySem.mem_of_lookup hy))
 ·exact Nat.le_of_lt (x.above y c (PySem.mem_of_lookup h))
 ·have hi:i < vs.length:=by
   unfold start at h2
   by_cases hi:i < vs.length
   ·exact hi
   ·rw [List.getElem?_append_right (by simpa using hi)] at h2
    rw [List.getElem?_replicate] at h2
    split at h2 <;> cases h2
  have ha:vs[i]?=some v:=by
   unfold start at h2
   rw [List.getElem?_append_left (by simpa using hi),List.getElem?_map] at h2
   cases e:vs[i]? with
   | none=>rw [e] at h2; cases h2
   | some a=>rw [e] at h2; cases h2; rfl
  obtain ⟨u,hu,rv⟩:=r.get ha
  have hp:ps[i]?=some y:=by
   rw [← S.pre,List.getElem?_take_of_lt (by omega)]; exact h1
  have ndP:ps.Nodup:=by rw [← S.pre]; exact S.nd.sublist (List.take_sublist _ _)
  refine ⟨u,rv,?_⟩
  rcases S.par y (List.mem_of_getElem? hp) with k | k
  ·exact .inl ⟨k,bindL_get ndP hp hu k⟩
  ·obtain ⟨c,e⟩:=cell_has (n:=s.heap.objs.size+1) k
   refine .inr ⟨.inl k,c,e,?_⟩
   have q:=x.cell y c e
   rw [bindC_get ndP hp hu (by show scope.names.lookup y≠_; rw [k]; decide)] at q
   exact q
 ·exact e0.hok.fresh (Nat.le_of_lt (x.above y c (PySem.mem_of_lookup h)))
 ·unfold start
  show _=N.length
  rw [List.length_append,List.length_map,List.length_replicate]
  omega
theorem fn_of {CX:CXT} {P:Program} {w:World} {K:PySem.W.Frag} {mg:Str→Option Value} {base:Heap} {k:Nat} {f:Addr} {name qual:Str} {params:Arguments} {body:List Stmt} {scope:Scope} {dV kV doc pm cdv ct oc:Value} {an od:Option Addr}
  {osl:Array (Option Value)} {N ps:List Str} {sp:Sp} (lk:K.lookup f=some ⟨oc,od,.func (PySem.W.fnOf name qual params body scope dV kV doc pm an cdv ct),osl⟩) (hcd:PySem.W.codeIn K cdv qual=true) (S:FnScope N ps scope)
  (len:∀ vs H Q E,sp vs H Q E→vs.length=ps.length)
  (hbody:∀ (A:Around) (outer:List Env) (s:Shared) (H:Hp) (vs:List V) (Q:VK) (E:XK),Room k (A.deeper (envOfC qual scope s.heap.objs.size f cdv))→sp vs H Q E →
   ∃ t,PSs (cxOf CX P w K mg base N qual scope f cdv A outer s H E) body t∧t { nx:=fun _ H'=>Q .non H',rt:=Q } (start N vs) H) :
  FnOk P w K mg base CX (k+1) f (PySem.W.fnOf name qual params body scope dV kV doc pm an cdv ct) ps sp:=by
 refine ⟨len,fun A outer s H args us vs Q E hr e0 hb r hsp=>?_⟩
 have hl:=len _ _ _ _ hsp
 have KX:K.In s.heap:=e0.mod.kin.keeps fun b o e=>(e0.bs b o e).1
 have lim:s.heap.NoLimit:=e0.mod.nolimit.keeps fun b o e=>(e0.bs b o e).1
 have hkind:∀ y∈ps.zip us,scope.names.lookup y.1=some .local∨(scope.names.lookup y.1=some .cell∧((cellsFrom (s.heap.objs.size+1) scope.names []).lookup y.1).isSome=true):=fun ⟨n,v⟩ hy=>by
  rcases S.par n (List.of_mem_zip hy).1 with q | q
  ·exact .inl q
  ·exact .inr ⟨q,PySem.W.cellsFrom_some _ _ _ (.inl q)⟩
 refine codeAny_call_function hr.depth (KX _ _ lk) rfl S.co S.gen rfl (PySem.W.codeRec_of KX hcd) (hb _ _ _ _ ?_)
 refine wpAny_newFunctionEnv_cells S.kind hkind fun env he s1 x=>?_
 subst he
 refine ⟨lim.keeps x.toInCall.keep,codeAny_func ?_⟩
 obtain ⟨t,ht,hq⟩:=hbody A outer s H vs Q E (hr.deeper _) hsp
 have I:Inv (cxOf CX P w K mg base N qual scope f cdv A outer s H E) [] (start N vs) H s1:=inv_start S hr.hd e0 hl r x
 refine wpAny_mono (ht [] s1 (start N vs) H _ I hq) (fun fl s' hs=>?_) fun e s' hs=>hs
 have fin:∀ {σ':St} {H':Hp} {v:V} {u:Value},Inv (cxOf CX P w K mg base N qual scope f cdv A outer s H E) [] σ' H' s'→RelV v u→Q v H'→CE outer P w H s Q u s' :=
  fun {σ' H' v u} J rv q=>⟨v,H',J.os,J.bare,J.base,J.hok,rv,q⟩
 cases fl with
 | ret u =>
  obtain ⟨v,σ',H',J,rv,q⟩:=hs
  exact fin J rv q
 | next =>
  obtain ⟨σ',H',J,q⟩:=hs
  exact fin (v:=V.non) (u:=Value.none) J rfl q
 | brk =>
  obtain ⟨_,_,_,q⟩:=hs
  exact False.elim q
 | cont =>
  obtain ⟨_,_,_,q⟩:=hs
  exact False.elim q
end L2
namespace L2
open PySem PySem.Spec PyProof.Rows
section
variable {X:Cx} {x:Str} {p pos:Pos} {e:Expr} {es:List Expr} {t:TA} {id T:String} {r:List V→Hp→VK→Prop}
def tCB (r:List V→Hp→VK→Prop) (t:TA):TE:=fun σ H Q=>t σ H fun vs H1=>r vs H1 Q
theorem pe_callB (hc:CallR X (.builtin id) r) (hg:Gl X x) (hm:X.mg x=none) (hv:bootBuiltins x=some (.builtin id)) (ha:PA X (e :: es) t) (hn:x≠"__name__":=by decide) (hdb:(x == ("__debug__":Str))=false:=by decide)
  (he:starEach (e :: es) X.env=(false,eval e X.env) :: starEach es X.env:=by rfl) (hpl:(backTo pos (starEach es X.env)).any (·.1)=false:=by rfl):PE X (.Call (.Name x p) (e :: es) [] pos) (tCB r t):=by
 intro pins s σ H Q I h
 refine wpAny_Call_Name_kw (ld_blt I hg hm hv ?_ hn hdb)
 exact PyProof.Rows.callWith_builtin1 (thn (ha pos pins s σ H _ I h) fun us s1 ⟨vs,H1,I1,r1,q1⟩=>hc pins s1 σ H1 vs us Q I1 r1 q1) he hpl
theorem pe_callTy (hc:CallR X (.type T) r) (hg:Gl X x) (hm:X.mg x=none) (hv:bootBuiltins x=some (.type T)) (ha:PA X (e :: es) t) (hn:x≠"__name__":=by decide) (hdb:(x == ("__debug__":Str))=false:=by decide)
  (he:starEach (e :: es) X.env=(false,eval e X.env) :: starEach es X.env:=by rfl) (hpl:(backTo pos (starEach es X.env)).any (·.1)=false:=by rfl):PE X (.Call (.Name x p) (e :: es) [] pos) (tCB r t):=by
 intro pins s σ H Q I h
 refine wpAny_Call_Name_kw (ld_blt I hg hm hv ?_ hn hdb)
 exact PyProof.Rows.callWith_type1 (thn (ha pos pins s σ H _ I h) fun us s1 ⟨vs,H1,I1,r1,q1⟩=>hc pins s1 σ H1 vs us Q I1 r1 q1) he hpl
end
end L2
namespace HT
open PySem PyProof.Rows
def lexLt:List Int→List Int→Bool
 | [],[]=>false
 | [],_ :: _=>true
 | _ :: _,[]=>false
 | x :: xs,y :: ys=>if x=y then lexLt xs ys else decide (x < y)
theorem lexLt_cons (x y:Int) (xs ys:List Int):lexLt (x :: xs) (y :: ys)=if x=y then lexLt xs ys else decide (x < y):=rfl
theorem lexLt_nil_nil:lexLt [] []=false:=rfl
theorem lexLt_nil_cons (y:Int) (ys:List Int):lexLt [] (y :: ys)=true:=rfl
theorem lexLt_cons_nil (x:Int) (xs:List Int):lexLt (x :: xs) []=false:=rfl
theorem eqAt_int (A:Around) (s:Shared) (a:Int) (t:Tok) (c:Int) (u:Tok):∃ e,SeqAt.EqAt A s (.int a t) (.int c u) e∧(e=true↔a=c) :=
 ⟨(a == c),SeqAt.EqAt.int_int a t c u,by simp⟩
theorem rcLt_int (A:Around) (s:Shared) (a:Int) (t:Tok) (c:Int) (u:Tok) (prog:Program) (w:World) (E:Value→Shared→Prop) (Q:Value→Shared→Prop) (h:Q (.bool (decide (a < c))) s) :
  wpAny (model prog w) A (richCompare .Lt (.int a t) (.int c u)) Q E s :=
 (PyProof.Rows.lt_int h:wpAny (model prog w) A (compareOp .Lt (.int a t) (.int c u)) Q E s)
section
open PySem.SeqAt
open PySem.AutoSeq1 (wpAny_loadPart')
open PySem.MeetsSeq PySem.MeetsSeq2 PySem.MeetsSeq3
theorem tuple_lt_ints (l b:Addr) (items items2:Array Value) (n n2:Nat) (dd dd2:Option Addr) (sl sl2:Array (Option Value)) (ns ms:List Int) (hi:IntsAre items.toList ns) (hj:IntsAre items2.toList ms) :
  Meets (Builtin.«tuple.__lt__» ⟨[.ref l,.ref b],[]⟩)
   (fun _ R s=>s.heap.get? l=some { cls:=.type "tuple",dict:=dd,data:=.seq items n,slots:=sl }∧s.heap.get? b=some { cls:=.type "tuple",dict:=dd2,data:=.seq items2 n2,slots:=sl2 } ∧
    R (.ok (.ret (.bool (lexLt ns ms)))) s) :=
 .of_wp fun prog w A R s h=>by
  obtain ⟨hp,g,d,tk,os⟩:=s; obtain ⟨hl,hb,h⟩:=h
  have f2:=AutoSeq1.sub_tuple_tuple
  have z1:items.size=ns.length:=by rw [← hi.length]; simp
  have z2:items2.size=ms.length:=by rw [← hj.length]; simp
  wp_walk using wpAny_loadPart' hl,wpAny_loadPart' hb,wpAny_forIn_list _ (fun rest b s'=>b.1=none∧s'=⟨hp,g,d,tk,os⟩∧∃ (vs ws:List Value) (ns' ms':List Int),rest=vs.zip ws ∧
   IntsAre vs ns'∧IntsAre ws ms'∧ns'.length+items2.size=ms'.length+items.size∧R (.ok (.ret (.bool (lexLt ns' ms')))) ⟨hp,g,d,tk,os⟩) _
  case turn =>
   rintro ⟨y,x⟩ rest b s' ⟨hb',rfl,vs,ws,ns',ms',hz,hvi,hwi,hlen,hR⟩
   cases hvi with
   | nil=>rw [List.zip_nil_left] at hz; cases hz
   | cons a t hvi' =>
    cases hwi with
    | nil=>rw [List.zip_nil_right] at hz; cases hz
    | cons c u hwi' =>
     rw [List.zip_cons_cons] at hz
     injection hz with hyx hrest
     injection hyx with hy hx
     subst hy hx
     rw [lexLt_cons] at hR
     simp only [List.length_cons] at hlen
     obtain ⟨e,he,hiff⟩:=eqAt_int A.in1 ⟨hp,g,d,tk,os⟩ a t c u
     refine wpAny_bind (he prog w _ _ ?_)
     cases e with
     | true =>
      rw [if_pos (hiff.mp rfl)] at hR
      wp_walk
      exact ⟨rfl,rfl,_,_,_,_,hrest,hvi',hwi',by omega,hR⟩
     | false =>
      rw [if_neg (fun q=>absurd (hiff.mpr q) Bool.false_ne_true)] at hR
      have hri:=rcLt_int A.in1 ⟨hp,g,d,tk,os⟩ a t c u prog w
      wp_walk using hri
      exact ⟨_,rfl,by simpa using hR⟩
  case fin =>
   rintro ⟨b1,b2⟩ s' ⟨hb',rfl,vs,ws,ns',ms',hz,hvi,hwi,hlen,hR⟩
   simp only at hb'
   subst hb'
   have hv:lexLt ns' ms'=decide (items.size < items2.size):=by
    cases hvi with
    | nil =>
     cases hwi with
     | nil =>
      simp only [List.length_nil] at hlen
      rw [lexLt_nil_nil]
      exact (decide_eq_false (by omega)).symm
     | cons c u hw =>
      simp only [List.length_nil,List.length_cons] at hlen
      rw [lexLt_nil_cons]
      exact (decide_eq_true (by omega)).symm
    | cons a t hv =>
     cases hwi with
     | nil =>
      simp only [List.length_nil,List.length_cons] at hlen
      rw [lexLt_cons_nil]
      exact (decide_eq_false (by omega)).symm
     | cons c u hw =>
      rw [List.zip_cons_cons] at hz
      cases hz
   rw [hv] at hR
   wp_walk
   exact ⟨_,rfl,by simpa [Builtin.Tuple.tupleCompareSizes] using hR⟩
  case h =>
   exact ⟨rfl,rfl,items.toList,items2.toList,ns,ms,rfl,hi,hj,by omega,h⟩
end
section
variable {prog:Program} {w:World} {A:Around} {E:Value→Shared→Prop} {s:Shared}
theorem lt_tupInts {l b:Addr} {items items2:Array Value} {ns ms:List Int} {Q:Value→Shared→Prop} (hl:IsTup s.heap l items) (hb:IsTup s.heap b items2) (hi:IntsAre items.toList ns) (hj:IntsAre items2.toList ms)
  (hu:A.units < cLine) (h:Q (.bool (lexLt ns ms)) s):wpAny (model prog w) A (compareOp .Lt (.ref l) (.ref b)) Q E s:=by
 obtain ⟨⟨cls,dd,data,sl⟩,ho,hc,n,hd⟩:=id hl
 obtain ⟨⟨cls2,dd2,data2,sl2⟩,ho2,hc2,n2,hd2⟩:=id hb
 simp only at hc hd hc2 hd2
 subst hc hd hc2 hd2
 exact richCompare_meets_room (op:=.Lt) ⟨_,ho,rfl⟩ ⟨_,ho2,rfl⟩ PySem.F.slot_tuple_lt PySem.F.entry_tuple_lt (PySem.F.args_tuple_lt_2 _ _) (tuple_lt_ints l b items items2 n n2 dd dd2 sl sl2 ns ms hi hj)
  ⟨ho,ho2,show Value.bool (lexLt ns ms)≠Value.notImplemented∧Q (.bool (lexLt ns ms)) s from ⟨(fun x=>nomatch x),h⟩⟩ hu
theorem cat_tup {t b:Addr} {vs ws:List Value} {Q:Value→Shared→Prop} (ht:IsTup s.heap t vs.toArray) (hb:IsTup s.heap b ws.toArray) (hv:vs≠[])
  (h1:ws=[]→Q (.ref t) s) (h2:ws≠[]→Q (.ref s.heap.objs.size) { s with heap:=s.heap.push { cls:=.type "tuple",data:=.seq (vs++ws).toArray } })
  (hsz:vs.length+ws.length≤sizeLine):wpAny (model prog w) A (binaryOp .Add (.ref t) (.ref b)) Q E s:=by
 obtain ⟨⟨cls,dd,data,sl⟩,ho,hc,n,hd⟩:=id ht
 obtain ⟨⟨cls2,dd2,data2,sl2⟩,ho2,hc2,n2,hd2⟩:=id hb
 simp only at hc hd hc2 hd2
 subst hc hd hc2 hd2
 have e:vs.toArray++ws.toArray=(vs++ws).toArray:=by simp
 by_cases hw:ws=[]
 ·exact concat_meets ⟨_,ho,rfl⟩ ⟨_,ho2,rfl⟩ noFill_tuple_add seq_tuple_add PySem.F.slot_tuple_add PySem.F.entry_tuple_add (PySem.F.args_tuple_add_2 _ _)
   (tuple_addW1 t b vs.toArray ws.toArray n n2 dd dd2 sl sl2 (by simpa using hv) (by simp [hw])) ⟨ho,ho2,h1 hw⟩
 ·refine concat_meets ⟨_,ho,rfl⟩ ⟨_,ho2,rfl⟩ noFill_tuple_add seq_tuple_add PySem.F.slot_tuple_add PySem.F.entry_tuple_add (PySem.F.args_tuple_add_2 _ _)
   (tuple_addW2 t b vs.toArray ws.toArray n n2 dd dd2 sl sl2 (by simpa using hv) (by simpa using hw) (by rw [List.size_toArray,List.size_toArray]; exact hsz)) ⟨ho,ho2,?_⟩
  rw [e]
  exact h2 hw
def sIx (n d:Nat):Option Int→Nat
 | none=>d
 | some v=>if v < 0 then (v+(n:Int)).toNat else min v.toNat n
theorem sIx_nat (n d k:Nat):sIx n d (some (k:Int))=min k n:=by
 show (if (k:Int) < 0 then ((k:Int)+(n:Int)).toNat else min (k:Int).toNat n)=min k n
 rw [if_neg (by omega),Int.toNat_natCast]
end
end HT
namespace L2
open PySem PySem.Spec PyProof.Rows
abbrev TO:=St→Hp→(Option Int→Hp→Prop)→Prop
def PO (X:Cx) (e:Option Expr) (t:TO):Prop :=
 ∀ (pins:List (Addr × Obj)) (s:Shared) (σ:St) (H:Hp) (Q:Option Int→Hp→Prop),Inv X pins σ H s→t σ H Q →
  wpAny (model X.prog X.w) X.A (evalPart e X.env) (fun u s'=>∃ o H',Inv X pins σ H' s'∧IsPart u o∧Q o H') X.xe s
def tNoPart:TO:=fun _ H Q=>Q none H
def tPart (t:TE):TO:=fun σ H Q=>t σ H fun x H1=>∃ i,x=.int i∧Q (some i) H1
theorem intsAre_of {ns:List Int}:∀ {us:List Value},Vals (ns.map V.int) us→IntsAre us ns:=by
 induction ns with
 | nil=>intro us r; rw [List.map_nil] at r; cases r; exact .nil
 | cons n ns ih =>
  intro us r
  rw [List.map_cons] at r
  cases r with
  | cons r1 r2 =>
   obtain ⟨t,e⟩:=r1
   subst e
   exact .cons n t (ih r2)
section
variable {X:Cx} {e:Expr} {te:TE} {lo hi:Option Expr} {tl th:TO} {pos p2:Pos}
theorem po_none:PO X none tNoPart:=by
 intro pins s σ H Q I h
 rw [evalPart_none]
 exact wpAny_pure ⟨none,H,I,.none,h⟩
theorem po_some (h:PE X e te):PO X (some e) (tPart te):=by
 intro pins s σ H Q I hw
 rw [evalPart_some]
 refine thn (h pins s σ H _ I hw) fun u s1 ⟨x,H1,I1,r1,q1⟩=>?_
 obtain ⟨i,rfl,q⟩:=q1
 obtain ⟨t,rfl⟩:=r1
 exact ⟨some i,H1,I1,.int i t,q⟩
def SlR (X:Cx) (r:V→Option Int→Option Int→Hp→VK→Prop):Prop :=
 ∀ (pins:List (Addr × Obj)) (s:Shared) (σ:St) (H:Hp) (x:V) (v vl vu:Value) (lo hi:Option Int) (sl:Addr) (Q:VK),Inv X pins σ H s→RelV x v→s.heap.IsSliceOf sl vl vu .none→IsPart vl lo→IsPart vu hi→r x lo hi H Q →
  ∃ T id,typeLookup (.type T) "__getitem__"=pure (some (.builtin id))∧s.TypeIs v T∧wpAny (model X.prog X.w) X.A (getItem v (.ref sl)) (EP X pins σ Q) X.xe s
def tSl (r:V→Option Int→Option Int→Hp→VK→Prop) (te:TE) (tl th:TO):TE:=fun σ H Q=>te σ H fun x H1=>tl σ H1 fun l H2=>th σ H2 fun u H3=>r x l u H3 Q
theorem pe_slice {r:V→Option Int→Option Int→Hp→VK→Prop} (hr:SlR X r) (he:PE X e te) (hl:PO X lo tl) (hu:PO X hi th):PE X (.Subscript e (.Slice lo hi none p2) pos) (tSl r te tl th):=by
 intro pins s σ H Q I h
 refine Subscript_ (thn (he pins s σ H _ I h) fun v s1 ⟨x,H1,I1,r1,q1⟩=>?_)
 refine wpAny_Slice (thn (hl pins s1 σ H1 _ I1 q1) fun vl s2 ⟨l,H2,I2,pl,q2⟩=>thn (hu pins s2 σ H2 _ I2 q2) fun vu s3 ⟨u,H3,I3,pu,q3⟩=>?_)
 rw [evalPart_none]
 refine wpAny_pure ?_
 have I4:Inv X pins σ H3 { s3 with heap:=s3.heap.push { cls:=.type "slice",data:=.fields #[vl,vu,.none] } }:=I3.kept (t':=s3.toks) fun b ob q=>Heap.get?_push_of_some _ q
 obtain ⟨T,id,hT,ht,hg⟩:=hr pins { s3 with heap:=s3.heap.push { cls:=.type "slice",data:=.fields #[vl,vu,.none] } } σ H3 x v vl vu l u s3.heap.objs.size Q I4 r1 (Heap.IsSliceOf.new ..) pl pu q3
 show wpAny (model X.prog X.w) X.A (subscriptTail e (.Slice lo hi none p2) v (.ref s3.heap.objs.size)) (EP X pins σ Q) X.xe { s3 with heap:=s3.heap.push { cls:=.type "slice",data:=.fields #[vl,vu,.none] } }
 exact tail_any (ops:=[.ref s3.heap.objs.size,v]) ht hT hg (by with_unfolding_all rfl)
def cutV (xs:List V) (lo hi:Option Int):List V:=(xs.drop (HT.sIx xs.length 0 lo)).take (HT.sIx xs.length xs.length hi - HT.sIx xs.length 0 lo)
theorem cutV_length (xs:List V) (lo hi:Option Int):(cutV xs lo hi).length≤xs.length:=by
 unfold cutV
 rw [List.length_take,List.length_drop]
 omega
def rCatT (K:PySem.W.Frag):R2:=fun x y H Q=>∃ a b xs ys,x=.ref a∧y=.ref b∧SqT K H a xs∧SqT K H b ys∧xs≠[]∧xs.length+ys.length≤sizeLine ∧
 (ys=[]→Q (.ref a) H)∧(ys≠[]→∀ p,H p=none→Q (.ref p) (upd H p (.tup (xs++ys))))
theorem Vals.nil_iff {xs:List V} {us:List Value} (r:Vals xs us):us=[]↔xs=[]:=by
 cases r with
 | nil=>simp
 | cons _ _=>simp
theorem op_catT:OpR X (binaryOp .Add) (rCatT X.K):=by
 intro pins s σ H x y v u Q I rx ry h
 obtain ⟨a,b,xs,ys,rfl,rfl,ha,hb,hx,hz,q1,q2⟩:=h
 cases rx
 cases ry
 obtain ⟨its,r1,p1,_⟩:=I.tuple ha
 obtain ⟨its2,r2,p2,_⟩:=I.tuple hb
 refine HT.cat_tup p1 p2 (fun z=>hx (r1.nil_iff.mp z)) (fun z=>⟨.ref a,H,I,rfl,q1 (r2.nil_iff.mp z)⟩) (fun z=>?_) (by rw [← r1.length,← r2.length]; exact hz)
 refine ⟨.ref s.heap.objs.size,_,I.laid (t':=s.toks) (o:=.tup (xs++ys)) (fun b ob q=>Heap.get?_push_of_some _ q) (Nat.le_refl _) ?_,rfl,q2 (fun w=>z (r2.nil_iff.mpr w)) _ (I.hok.fresh (Nat.le_refl _))⟩
 exact ⟨by rw [List.length_append]; exact hz,_,r1.append r2,IsTup.new _ _⟩
end
end L2
namespace L2
open PySem PySem.Spec PyProof.Rows
def ixN (n:Nat) (i:Int):Option Nat:=if 0≤i then (if i < n then some i.toNat else none) else if -(n:Int)≤i then some (i+n).toNat else none
def atI {α:Type} (xs:List α) (i:Int):Option α:=(ixN xs.length i).bind fun j=>xs[j]?
theorem ixN_seq {n:Nat} {i:Int} {j:Nat} (h:ixN n i=some j):seqIndex? i n=some j∧j < n∧-(n:Int)≤i∧i < n:=by
 unfold ixN at h
 by_cases h0:0≤i
 ·rw [if_pos h0] at h
  by_cases h1:i < n
  ·rw [if_pos h1] at h
   have e:i.toNat=j:=Option.some.inj h
   exact ⟨by rw [seqIndex_of h0 h1,e],by omega,by omega,h1⟩
  ·rw [if_neg h1] at h; cases h
 ·rw [if_neg h0] at h
  by_cases h1:-(n:Int)≤i
  ·rw [if_pos h1] at h
   have e:(i+n).toNat=j:=Option.some.inj h
   exact ⟨by rw [seqIndex_neg (by omega) h1,e],by omega,h1,by omega⟩
  ·rw [if_neg h1] at h; cases h
theorem atI_get {α:Type} {xs:List α} {i:Int} {v:α} (h:atI xs i=some v):∃ j,seqIndex? i xs.length=some j∧xs[j]?=some v∧j < xs.length∧-(xs.length:Int)≤i∧i < xs.length:=by
 unfold atI at h
 cases e:ixN xs.length i with
 | none=>rw [e] at h; cases h
 | some j =>
  rw [e] at h
  obtain ⟨h1,h2,h3,h4⟩:=ixN_seq e
  exact ⟨j,h1,h,h2,h3,h4⟩
theorem atI_nat {α:Type} {xs:List α} {j:Nat} {v:α} (h:xs[j]?=some v):atI xs (j:Int)=some v:=by
 have hj:j < xs.length:=(List.getElem?_eq_some_iff.mp h).1
 have e:ixN xs.length (j:Int)=some j:=by
  unfold ixN
  rw [if_pos (by omega),if_pos (by omega)]; simp
 unfold atI; rw [e]; exact h
def PlainIx (b:Expr):Prop:=∀ o i,subscripted b false o i=operate [o,i] (getItem o i)
def IxR (X:Cx) (r:R2):Prop :=
 ∀ (value slice:Expr) (pins:List (Addr × Obj)) (s:Shared) (σ:St) (H:Hp) (x y:V) (v u:Value) (Q:VK),Inv X pins σ H s→RelV x v→RelV y u→r x y H Q →
  subscripted slice false v u=operate [v,u] (getItem v u)→wpAny (model X.prog X.w) X.A (subscriptTail value slice v u) (EP X pins σ Q) X.xe s
def MtR (X:Cx) (id:String) (r:V→List V→Hp→VK→Prop):Prop :=
 ∀ (pins:List (Addr × Obj)) (s:Shared) (σ:St) (H:Hp) (x:V) (xs:List V) (v:Value) (us:List Value) (Q:VK),Inv X pins σ H s→RelV x v→Vals xs us→r x xs H Q →
  wpAny (model X.prog X.w) X.A (call (.builtin id) (v :: us)) (EP X pins σ Q) X.xe s
section
variable {X:Cx} {a b:Expr} {ta tb:TE} {pos:Pos}
theorem pe_ix {r:R2} (hr:IxR X r) (ha:PE X a ta) (hb:PE X b tb) (hs:PlainIx b):PE X (.Subscript a b pos) (tOp r ta tb):=by
 intro pins s σ H Q I h
 exact Subscript_ (binT ha hb I h fun v u s2 x y H2 I2 rx ry q=>hr a b pins s2 σ H2 x y v u Q I2 rx ry q (hs _ _))
def rIxL (K:PySem.W.Frag):R2:=fun x y H Q=>∃ p xs i v,x=.ref p∧y=.int i∧SqL K H p xs∧atI xs i=some v∧Q v H
def rIxT (K:PySem.W.Frag):R2:=fun x y H Q=>∃ p xs i v,x=.ref p∧y=.int i∧SqT K H p xs∧atI xs i=some v∧Q v H
theorem ix_list:IxR X (rIxL X.K):=by
 intro value slice pins s σ H x y v u Q I rx ry h hs
 obtain ⟨p,xs,i,z,rfl,rfl,hq,he,q⟩:=h
 cases rx
 obtain ⟨t,rfl⟩:=ry
 obtain ⟨its,r,pl,hz⟩:=I.list hq
 obtain ⟨j,h1,h2,h3,h4,h5⟩:=atI_get he
 obtain ⟨w,ew,rw'⟩:=r.get h2
 have hl:=r.length
 have hn:=line63
 have fin:EP X pins σ Q w s:=⟨z,H,I,rw',q⟩
 by_cases h0:0≤i
 ·have hj:i.toNat=j:=by
   rw [seqIndex_of h0 h5] at h1
   exact Option.some.inj h1
  exact item_listR pl.isList h0 (by omega) (by rw [hj]; simpa using ew) fin hs
 ·have hj:(i+(its.toArray.size:Int)).toNat=j:=by
   rw [seqIndex_neg (by omega) h4] at h1
   rw [List.size_toArray,← hl]
   exact Option.some.inj h1
  exact subscriptTail_builtinR (x:=w) pl.isList.typeIs slot_list_getitem.lookup
   (wpAny_getItem_list_neg (Q:=fun r s'=>r=w∧EP X pins σ Q r s') pl.isList (by omega) (by rw [List.size_toArray] <;> omega) (by omega) (by rw [hj]; simpa using ew) ⟨rfl,fin⟩) hs
theorem ix_tup:IxR X (rIxT X.K):=by
 intro value slice pins s σ H x y v u Q I rx ry h hs
 obtain ⟨p,xs,i,z,rfl,rfl,hq,he,q⟩:=h
 cases rx
 obtain ⟨t,rfl⟩:=ry
 obtain ⟨its,r,pl,hz⟩:=I.tuple hq
 obtain ⟨j,h1,h2,h3,h4,h5⟩:=atI_get he
 obtain ⟨w,ew,rw'⟩:=r.get h2
 have hl:=r.length
 have hn:=line63
 have fin:EP X pins σ Q w s:=⟨z,H,I,rw',q⟩
 exact subscriptTail_builtinR (x:=w) pl.typeIs slot_tuple_getitem.lookup
  (getItem_tuple (j:=j) (Q:=fun r s'=>r=w∧EP X pins σ Q r s') pl (by omega) (by omega) (by rw [List.size_toArray,← hl]; exact h1) (by simpa using ew) ⟨rfl,fin⟩) hs
theorem mapSeq_set (its:List Value) (n j:Nat) (u:Value):Obj.mapSeq (·.setIfInBounds j u) { cls:=.type "list",data:=.seq its.toArray n }={ cls:=.type "list",data:=.seq (its.set j u).toArray n }:=by
 simp [Obj.mapSeq]
theorem Inv.lst {pins:List (Addr × Obj)} {σ:St} {H:Hp} {s:Shared} {p:Addr} {xs:List V} (I:Inv X pins σ H s) (h:H p=some (.lst xs)) :
  ∃ (its:List Value) (n:Nat),Vals xs its∧s.heap.get? p=some { cls:=.type "list",data:=.seq its.toArray n }∧xs.length≤sizeLine:=by
 obtain ⟨z,its,n,r,e⟩:=I.hok p _ h
 exact ⟨its,n,r,e,z⟩
theorem Inv.lstUpd {pins:List (Addr × Obj)} {σ:St} {H:Hp} {s:Shared} {p:Addr} {xs ys:List V} {its its':List Value} {n n':Nat} {f:Obj→Obj} (I:Inv X pins σ H s) (h:H p=some (.lst xs))
  (ho:s.heap.get? p=some { cls:=.type "list",data:=.seq its.toArray n }) (hf:f { cls:=.type "list",data:=.seq its.toArray n }={ cls:=.type "list",data:=.seq its'.toArray n' }) (r:Vals ys its') (hz:ys.length≤sizeLine) (t:Nat) :
  Inv X pins σ (upd H p (.lst ys)) { s with heap:=s.heap.update p f,toks:=t }:=by
 have e:(s.heap.update p f).get? p=some { cls:=.type "list",data:=.seq its'.toArray n' }:=by
  rw [Heap.get?_update_self f ho (by rw [hf] <;> rfl),hf]
 refine I.write (x:=p) (e:=p) (by rw [h]; trivial) (.inl rfl) (fun b u hb q=>(Heap.get?_update_other _ _ (Ne.symm hb)).trans q) ⟨_,e⟩ ?_
 exact ⟨hz,its',n',r,e⟩
def rSetL:V→V→V→Hp→(Hp→Prop)→Prop:=fun o i v H Q=>∃ p xs k j,o=.ref p∧i=.int k∧H p=some (.lst xs)∧ixN xs.length k=some j∧Q (upd H p (.lst (xs.set j v)))
theorem set_list:PSet X rSetL:=by
 intro pins s σ H o i v ov iv u Q I ro ri rv h
 obtain ⟨p,xs,k,j,rfl,rfl,hp,hj,q⟩:=h
 cases ro
 obtain ⟨t,rfl⟩:=ri
 obtain ⟨its,n,r,ho,hz⟩:=I.lst hp
 obtain ⟨h1,h2,h3,h4⟩:=ixN_seq hj
 have hl:=r.length
 have hn:=line63
 have I':Inv X pins σ (upd H p (.lst (xs.set j v))) { s with heap:=s.heap.update p (Obj.mapSeq (·.setIfInBounds j u)) } :=
  I.lstUpd hp ho (mapSeq_set its n j u) (r.set rv j) (by rw [List.length_set]; exact hz) s.toks
 by_cases h0:0≤k
 ·have hk:k.toNat=j:=by
   rw [seqIndex_of h0 h4] at h1
   exact Option.some.inj h1
  exact PySem.W.ki_setAt ho h0 (by omega) (by rw [List.size_toArray,← hl]; exact h4) (by rw [hk]; exact ⟨_,I',q⟩)
 ·have hk:(k+(its.toArray.size:Int)).toNat=j:=by
   rw [seqIndex_neg (by omega) h3] at h1
   rw [List.size_toArray,← hl]
   exact Option.some.inj h1
  exact PySem.W.ki_setBack ho (by omega) (by rw [List.size_toArray,← hl]; exact h3) (by omega) (by rw [hk]; exact ⟨_,I',q⟩)
theorem slice_bounds (lo hi:Option Int) (n:Nat):(sliceBounds lo hi none n).1=((HT.sIx n 0 lo:Nat):Int)∧(sliceBounds lo hi none n).2.1=((HT.sIx n n hi:Nat):Int)∧(sliceBounds lo hi none n).2.2=1:=by
 refine ⟨?_,?_,rfl⟩
 ·cases lo with
  | none=>simp [sliceBounds,HT.sIx]
  | some i =>
   simp only [sliceBounds,HT.sIx,Option.getD_none,show (1:Int) > 0 by decide,if_true]
   by_cases h:i < 0
   ·simp only [h,if_true] <;> omega
   ·simp only [h,if_false] <;> omega
 ·cases hi with
  | none=>simp [sliceBounds,HT.sIx]
  | some i =>
   simp only [sliceBounds,HT.sIx,Option.getD_none,show (1:Int) > 0 by decide,if_true]
   by_cases h:i < 0
   ·simp only [h,if_true] <;> omega
   ·simp only [h,if_false] <;> omega
theorem slicePick_cut (its:List Value) (lo hi:Option Int):slicePick its.toArray lo hi none=((its.drop (HT.sIx its.length 0 lo)).take (HT.sIx its.length its.length hi - HT.sIx its.length 0 lo)).toArray:=by
 obtain ⟨h1,h2,h3⟩:=slice_bounds lo hi its.toArray.size
 unfold slicePick
 rw [h1,h2,h3]
 simp only [sliceRange_one,pick_run,List.size_toArray] <;> rfl
def rSlL (K:PySem.W.Frag):V→Option Int→Option Int→Hp→VK→Prop:=fun x lo hi H Q=>∃ a xs,x=.ref a∧SqL K H a xs∧∀ p,H p=none→Q (.ref p) (upd H p (.lst (cutV xs lo hi)))
theorem sl_list:SlR X (rSlL X.K):=by
 intro pins s σ H x v vl vu lo hi sl Q I rx hs pl pu h
 obtain ⟨a,xs,rfl,hx,q⟩:=h
 cases rx
 obtain ⟨its,r,ht,hz⟩:=I.list hx
 have hlen:=r.length
 refine ⟨"list",_,slot_list_getitem.lookup,ht.isList.typeIs,?_⟩
 refine wpAny_getItem_list_slice ht.isList hs pl pu .none (by simp) ?_ (by rw [List.size_toArray] <;> omega)
 rw [slicePick_cut,← hlen]
 refine ⟨.ref s.heap.objs.size,_,I.laid (t':=s.toks) (o:=.lst (cutV xs lo hi)) (fun b ob q=>Heap.get?_push_of_some _ q) (Nat.le_refl _) ?_,rfl,q _ (I.hok.fresh (Nat.le_refl _))⟩
 exact ⟨Nat.le_trans (cutV_length xs lo hi) hz,_,0,(r.drop (HT.sIx xs.length 0 lo)).take (HT.sIx xs.length xs.length hi - HT.sIx xs.length 0 lo),Heap.get?_push_size _ rfl⟩
def flatV:V→Bool
 | .non=>true
 | .bl _=>true
 | .int _=>true
 | .str _=>true
 | _=>false
def eqV:V→V→Bool
 | .non,.non=>true
 | .bl a,.bl b=>a == b
 | .bl a,.int b=>(if a then 1 else 0) == b
 | .int a,.bl b=>a == (if b then 1 else 0)
 | .int a,.int b=>a == b
 | .str a,.str b=>a == b
 | _,_=>false
theorem eqAt_V {A:Around} {s:Shared} {y x:V} {u v:Value} (ry:RelV y u) (rx:RelV x v) (fy:flatV y=true) (fx:flatV x=true):SeqAt.EqAt A s u v (eqV y x):=by
 cases y with
 | non =>
  cases ry
  cases x with
  | non=>cases rx; exact SeqAt.EqAt.same _
  | bl b=>cases rx; exact SeqAt.EqAt.none_bool b
  | int b=>obtain ⟨t,rfl⟩:=rx; exact SeqAt.EqAt.none_int b t
  | str b=>obtain ⟨t,rfl⟩:=rx; exact SeqAt.EqAt.none_str b t
  | _=>exact absurd (show false=true from fx) Bool.false_ne_true
 | bl a =>
  cases ry
  cases x with
  | non=>cases rx; exact SeqAt.EqAt.bool_none a
  | bl b=>cases rx; exact SeqAt.EqAt.bool_bool a b
  | int b=>obtain ⟨t,rfl⟩:=rx; exact SeqAt.EqAt.bool_int a b t
  | str b=>obtain ⟨t,rfl⟩:=rx; exact SeqAt.EqAt.bool_str a b t
  | _=>exact absurd (show false=true from fx) Bool.false_ne_true
 | int a =>
  obtain ⟨t',rfl⟩:=ry
  cases x with
  | non=>cases rx; exact SeqAt.EqAt.int_none a t'
  | bl b=>cases rx; exact SeqAt.EqAt.int_bool a t' b
  | int b=>obtain ⟨t,rfl⟩:=rx; exact SeqAt.EqAt.int_int a t' b t
  | str b=>obtain ⟨t,rfl⟩:=rx; exact SeqAt.EqAt.int_str a t' b t
  | _=>exact absurd (show false=true from fx) Bool.false_ne_true
 | str a =>
  obtain ⟨t',rfl⟩:=ry
  cases x with
  | non=>cases rx; exact SeqAt.EqAt.str_none a t'
  | bl b=>cases rx; exact SeqAt.EqAt.str_bool a t' b
  | int b=>obtain ⟨t,rfl⟩:=rx; exact SeqAt.EqAt.str_int a t' b t
  | str b=>obtain ⟨t,rfl⟩:=rx; exact SeqAt.EqAt.str_str a t' b t
  | _=>exact absurd (show false=true from fx) Bool.false_ne_true
 | _=>exact absurd (show false=true from fy) Bool.false_ne_true
def eqU (x:V) (u:Value):Bool:=match u with
 | .none=>eqV .non x
 | .bool b=>eqV (.bl b) x
 | .int i _=>eqV (.int i) x
 | .str z _=>eqV (.str z) x
 | _=>false
theorem eqU_of {x y:V} {u:Value} (r:RelV y u) (f:flatV y=true):eqU x u=eqV y x:=by
 cases y with
 | non=>cases r; rfl
 | bl b=>cases r; rfl
 | int i=>obtain ⟨t,rfl⟩:=r; rfl
 | str z=>obtain ⟨t,rfl⟩:=r; rfl
 | _=>exact absurd (show false=true from f) Bool.false_ne_true
theorem any_eqU {x:V}:∀ {xs:List V} {us:List Value},Vals xs us→xs.all flatV=true→us.any (eqU x)=xs.any fun y=>eqV y x
 | _,_,.nil,_=>rfl
 | y :: xs,u :: us,.cons r t,f=>by
  rw [List.all_cons,Bool.and_eq_true] at f
  rw [List.any_cons,List.any_cons,eqU_of r f.1,any_eqU t f.2]
theorem mem_eqAt {A:Around} {s:Shared} {x:V} {v:Value} (rx:RelV x v) (fx:flatV x=true):∀ {xs:List V} {us:List Value},Vals xs us→xs.all flatV=true→∀ u∈us,SeqAt.EqAt A s u v (eqU x u)
 | _,_,.nil,_=>fun u hu=>by cases hu
 | y :: xs,u :: us,.cons r t,f=>fun u' hu=>by
  rw [List.all_cons,Bool.and_eq_true] at f
  rcases List.mem_cons.mp hu with rfl | hu
  ·rw [eqU_of r f.1]; exact eqAt_V r rx f.1 fx
  ·exact mem_eqAt rx fx t f.2 u' hu
def inV (x:V) (xs:List V):Bool:=xs.any fun y=>eqV y x
def rIn (K:PySem.W.Frag) (neg:Bool):R2:=fun x y H Q=>∃ p xs,y=.ref p∧(SqL K H p xs∨SqT K H p xs)∧flatV x=true∧xs.all flatV=true∧Q (.bl (if neg then !inV x xs else inV x xs)) H
theorem op_in_seq:OpR X (compareOp .In) (rIn X.K false):=by
 intro pins s σ H x y v u Q I rx ry h
 obtain ⟨p,xs,rfl,hq,fx,fs,q⟩:=h
 cases ry
 rcases hq with hq | hq
 ·obtain ⟨its,r,pl,hz⟩:=I.list hq
  refine SeqAt.in_listAt (eqU x) pl.isList (fun w hw=>mem_eqAt rx fx r fs w (by simpa using hw)) ⟨.bl _,H,I,rfl,?_⟩
  rw [show its.toArray.any (eqU x)=its.any (eqU x) by simp,any_eqU r fs]
  exact q
 ·obtain ⟨its,r,pl,hz⟩:=I.tuple hq
  refine SeqAt.in_tupleAt (eqU x) pl (fun w hw=>mem_eqAt rx fx r fs w (by simpa using hw)) ⟨.bl _,H,I,rfl,?_⟩
  rw [show its.toArray.any (eqU x)=its.any (eqU x) by simp,any_eqU r fs]
  exact q
theorem op_notIn_seq:OpR X (compareOp .NotIn) (rIn X.K true):=by
 intro pins s σ H x y v u Q I rx ry h
 obtain ⟨p,xs,rfl,hq,fx,fs,q⟩:=h
 cases ry
 rcases hq with hq | hq
 ·obtain ⟨its,r,pl,hz⟩:=I.list hq
  refine SeqAt.notIn_listAt (eqU x) pl.isList (fun w hw=>mem_eqAt rx fx r fs w (by simpa using hw)) ⟨.bl _,H,I,rfl,?_⟩
  rw [show its.toArray.any (eqU x)=its.any (eqU x) by simp,any_eqU r fs]
  exact q
 ·obtain ⟨its,r,pl,hz⟩:=I.tuple hq
  refine SeqAt.notIn_tupleAt (eqU x) pl (fun w hw=>mem_eqAt rx fx r fs w (by simpa using hw)) ⟨.bl _,H,I,rfl,?_⟩
  rw [show its.toArray.any (eqU x)=its.any (eqU x) by simp,any_eqU r fs]
  exact q
theorem call_len_seq:CallR X (.builtin "len") (fun xs H Q=>∃ p ys,xs=[.ref p]∧(SqL X.K H p ys∨SqT X.K H p ys)∧Q (.int ys.length) H):=by
 intro pins s σ H xs us Q I r h
 obtain ⟨p,ys,rfl,hq,q⟩:=h
 obtain ⟨u,rfl,rx⟩:=vals1 r
 cases rx
 have hn:=line63
 rcases hq with hq | hq
 ·obtain ⟨its,r',pl,hz⟩:=I.list hq
  have hlen:=r'.length
  exact Calls.call_len_list pl.isList (by simp only [List.size_toArray] <;> omega) ⟨.int ys.length,H,I.tok _,⟨s.toks+1,by rw [List.size_toArray,hlen]⟩,q⟩
 ·obtain ⟨its,r',pl,hz⟩:=I.tuple hq
  have hlen:=r'.length
  exact len_tuple pl (by simp only [List.size_toArray] <;> omega) ⟨.int ys.length,H,I.tok _,⟨s.toks+1,by rw [List.size_toArray,hlen]⟩,q⟩
theorem call_list_of:CallR X (.type "list") (fun xs H Q=>∃ p ys,xs=[.ref p]∧(SqL X.K H p ys∨SqT X.K H p ys)∧∀ l,H l=none→Q (.ref l) (upd H l (.lst ys))):=by
 intro pins s σ H xs us Q I r h
 obtain ⟨p,ys,rfl,hq,q⟩:=h
 obtain ⟨u,rfl,rx⟩:=vals1 r
 cases rx
 have fin:∀ (its:List Value),Vals ys its→ys.length≤sizeLine→∀ (h':Heap) (c':Nat),(∀ b o',s.heap.get? b=some o'→h'.get? b=some o') →
   h'.get? s.heap.objs.size=some { cls:=.type "list",dict:=none,data:=.seq its.toArray c',slots:=#[] }→EP X pins σ Q (.ref s.heap.objs.size) { s with heap:=h' }:=fun its r' hz h' c' kp e =>
  ⟨.ref s.heap.objs.size,_,I.laid (t':=s.toks) kp (Nat.le_refl _) (show ObjOk X.prog X.w _ h' _ (.lst ys) from ⟨hz,its,c',r',e⟩),rfl,q _ (I.hok.fresh (Nat.le_refl _))⟩
 rcases hq with hq | hq
 ·obtain ⟨its,r',pl,hz⟩:=I.list hq
  have hlen:=r'.length
  obtain ⟨o,ho,hc,n,hd⟩:=pl.isList
  exact call_list_seq p (.inl rfl) ho hc hd (fun h' c' kp e=>fin its r' hz h' c' kp e) (by simp only [List.size_toArray] <;> omega)
 ·obtain ⟨its,r',pl,hz⟩:=I.tuple hq
  have hlen:=r'.length
  obtain ⟨o,ho,hc,n,hd⟩:=pl
  exact call_list_seq p (.inr rfl) ho hc hd (fun h' c' kp e=>fin its r' hz h' c' kp e) (by simp only [List.size_toArray] <;> omega)
def tyV (K:PySem.W.Frag) (T:String) (x:V) (H:Hp):Prop:=match x with
 | .str _=>T="str"
 | .int _=>T="int"
 | .ref p=>(T="list"∧∃ xs,SqL K H p xs)∨(T="tuple"∧∃ o,K.lookup p=some o∧o.cls=.type "tuple"∧o.dict=none) ∨
   (T="dict"∧((∃ kvs,H p=some (.dK kvs))∨∃ kvs,H p=some (.dT kvs)))∨(T="set"∧∃ S n,H p=some (.set S n))
 | _=>False
theorem tyV_is {pins:List (Addr × Obj)} {σ:St} {H:Hp} {s:Shared} {T:String} {x:V} {v:Value} (I:Inv X pins σ H s) (r:RelV x v) (ty:tyV X.K T x H) :
  s.TypeIs v T∧∀ a,v=.ref a→∃ ob,s.heap.get? a=some ob∧ob.dict=none:=by
 cases x with
 | str z =>
  obtain ⟨t,rfl⟩:=r
  cases (show T="str" from ty)
  exact ⟨typeIs_str s z t,fun _ e=>nomatch e⟩
 | int i =>
  obtain ⟨t,rfl⟩:=r
  cases (show T="int" from ty)
  exact ⟨typeIs_int s i t,fun _ e=>nomatch e⟩
 | ref p =>
  cases r
  rcases ty with ⟨rfl,xs,hq⟩ | ⟨rfl,o,hk,hc,hd⟩ | ⟨rfl,hk⟩ | ⟨rfl,S,n,hk⟩
  ·obtain ⟨its,_,pl,_⟩:=I.list hq
   refine ⟨pl.isList.typeIs,fun a e=>?_⟩
   cases e
   obtain ⟨o,n,e,c,hd,_⟩:=pl
   exact ⟨o,e,hd⟩
  ·refine ⟨⟨o,I.kIn p o hk,hc⟩,fun a e=>?_⟩
   cases e
   exact ⟨o,I.kIn _ o hk,hd⟩
  ·have z:∃ o,s.heap.get? p=some o∧o.ExactDict:=by
    rcases hk with ⟨kvs,hk⟩ | ⟨kvs,hk⟩
    ·obtain ⟨_,_,_,_,o,_,_,e,ex,_⟩:=I.hok p _ hk
     exact ⟨o,e,ex⟩
    ·obtain ⟨_,_,_,_,o,_,_,e,ex,_⟩:=I.hok p _ hk
     exact ⟨o,e,ex⟩
   obtain ⟨o,e,ex⟩:=z
   refine ⟨⟨o,e,ex.1⟩,fun a e2=>?_⟩
   cases e2
   exact ⟨o,e,ex.2.1⟩
  ·obtain ⟨o,_,_,_,e,ex,_⟩:=I.hok p _ hk
   refine ⟨⟨o,e,ex.1⟩,fun a e2=>?_⟩
   cases e2
   exact ⟨o,e,ex.2.1⟩
 | _=>exact False.elim ty
def tBM0 (K:PySem.W.Frag) (T:String) (r:V→List V→Hp→VK→Prop) (to:TE):TE:=fun σ H Q=>to σ H fun x H1=>tyV K T x H1∧r x [] H1 Q
def tBM (K:PySem.W.Frag) (T:String) (r:V→List V→Hp→VK→Prop) (to:TE) (t:TA):TE:=fun σ H Q=>to σ H fun x H1=>tyV K T x H1∧t σ H1 fun xs H2=>r x xs H2 Q
variable {o e:Expr} {es:List Expr} {to:TE} {t:TA} {name:Str} {apos cpos:Pos} {T id:String} {r:V→List V→Hp→VK→Prop}
theorem pe_bm0 (pa:PlainAttrs T) (slot:Slot T name id) (hty:typeOf (.builtin id)=pure (.type "method_descriptor")) (hm:MtR X id r) (ho:PE X o to)
  (hbase:attributeBase o name X.env (eval o X.env)=eval o X.env:=by rfl) (hline:(apos.endLine == cpos.line)=true:=by rfl):PE X (.Call (.Attribute o name apos) [] [] cpos) (tBM0 X.K T r to):=by
 intro pins s σ H Q I h
 refine wpAny_Call_method0_late hbase hline (thn (ho pins s σ H _ I h) fun v s1 ⟨x,H1,I1,r1,ty,q1⟩=>?_)
 obtain ⟨h1,h2⟩:=tyV_is I1 r1 ty
 exact ⟨T,id,pa,slot,hty,h1,h2,Calls.callWith_builtin rfl (PySem.evalArgs_none (hm pins s1 σ H1 x [] v [] Q I1 r1 .nil q1))⟩
theorem pe_bm (pa:PlainAttrs T) (slot:Slot T name id) (hty:typeOf (.builtin id)=pure (.type "method_descriptor")) (hm:MtR X id r) (ho:PE X o to) (ha:PA X (e :: es) t)
  (hbase:attributeBase o name X.env (eval o X.env)=eval o X.env:=by rfl)
  (hfew:((backTo cpos (starEach (e :: es) X.env)).all (fun x=>!x.1) && (backToKw cpos (keywordEach [] X.env)).all (fun x=>x.1.isSome)
   && decide ((e :: es).length+([]:List Keyword).length+(if ([]:List Keyword).isEmpty then 0 else 1) < 30))=true:=by rfl)
  (hline:(apos.endLine == cpos.line)=true:=by rfl) (hs:starEach (e :: es) X.env=(false,eval e X.env) :: starEach es X.env:=by rfl) (hplain:(backTo cpos (starEach es X.env)).any (·.1)=false:=by rfl) :
  PE X (.Call (.Attribute o name apos) (e :: es) [] cpos) (tBM X.K T r to t):=by
 intro pins s σ H Q I h
 refine wpAny_Call_method_late hbase hfew hline rfl (thn (ho pins s σ H _ I h) fun v s1 ⟨x,H1,I1,r1,ty,q1⟩=>?_)
 obtain ⟨h1,h2⟩:=tyV_is I1 r1 ty
 refine ⟨T,id,pa,slot,hty,h1,h2,?_⟩
 have hA:=ha cpos pins s1 σ H1 _ I1 q1
 rw [hs] at hA ⊢
 refine Calls.callWith_builtin (by show (false || (backTo cpos (starEach es X.env)).any (·.1))=false; rw [hplain] <;> rfl) (Calls.evalArgs_plain ?_)
 exact thn hA fun us s2 ⟨vs,H2,I2,r2,q2⟩=>hm pins s2 σ H2 x vs v us Q I2 r1 r2 q2
/- xs.append(e),list.index on a module's tuple .. are MtR facts of 06m -/
end
end L2
namespace L2
open PySem PySem.Spec PyProof.Rows
def MtM (X:Cx) (id:String) (r:V→List V→Hp→VK→Prop):Prop :=
 ∀ (pins:List (Addr × Obj)) (s:Shared) (σ:St) (H:Hp) (x:V) (xs:List V) (v:Value) (us:List Value) (Q:VK),Inv X pins σ H s→RelV x v→Vals xs us→r x xs H Q →
  wpAny (model X.prog X.w) X.A (call (.builtin id) (v :: us)) (EP X pins σ Q) X.xe s
theorem Vals.one:∀ {x:V} {us:List Value},Vals [x] us→∃ u,us=[u]∧RelV x u
 | _,_,.cons r .nil=>⟨_,rfl,r⟩
section
variable {X:Cx} {pins:List (Addr × Obj)} {σ:St} {H:Hp} {s:Shared} {l b:Addr} {xs ys zs:List V}
theorem Inv.lset {its its':List Value} {n:Nat} {f:Array Value→Array Value} {t':Nat} (I:Inv X pins σ H s) (hH:H l=some (.lst xs))
  (e:s.heap.get? l=some { cls:=.type "list",data:=.seq its.toArray n }) (hf:f its.toArray=its'.toArray) (hv:Vals ys its') (hz:ys.length≤sizeLine) :
  Inv X pins σ (upd H l (.lst ys)) { s with heap:=s.heap.update l (Obj.mapSeq f),toks:=t' }:=by
 have q:=PySem.IsL.update e f
 rw [hf] at q
 refine I.write (x:=l) (e:=l) (by rw [hH]; exact trivial) (.inl rfl) (fun b' u hb hu=>(Heap.get?_update_other s.heap (Obj.mapSeq f) (Ne.symm hb)).trans hu) ⟨_,q⟩ ?_
 exact ⟨hz,its',_,hv,q⟩
theorem Inv.lnew {its:List Value} {t':Nat} (I:Inv X pins σ H s) (hv:Vals ys its) (hz:ys.length≤sizeLine) :
  Inv X pins σ (upd H s.heap.objs.size (.lst ys)) { s with heap:=s.heap.push { cls:=.type "list",data:=.seq its.toArray },toks:=t' } :=
 I.laid (fun _ _ q=>Heap.get?_push_of_some _ q) (Nat.le_refl _) ⟨hz,its,0,hv,Heap.get?_push_size _ rfl⟩
theorem Inv.fresh (I:Inv X pins σ H s):H s.heap.objs.size=none:=I.hok.fresh (Nat.le_refl _)
theorem Inv.lstM (I:Inv X pins σ H s) (hH:H l=some (.lst xs)):xs.length≤sizeLine∧∃ (its:List Value) (n:Nat),Vals xs its∧xs.length=its.length∧s.heap.get? l=some { cls:=.type "list",data:=.seq its.toArray n }:=by
 obtain ⟨z,its,n,r,e⟩:=I.hok l _ hH
 exact ⟨z,its,n,r,r.length,e⟩
theorem notLongL {n:Nat} (h:n≤sizeLine):Builtin.List.listTooLong n=false:=by
 unfold Builtin.List.listTooLong
 exact decide_eq_false (by omega)
end
section
variable {X:Cx}
def rAppend:V→List V→Hp→VK→Prop:=fun x vs H Q=>∃ l xs y,x=.ref l∧vs=[y]∧H l=some (.lst xs)∧xs.length < sizeLine∧Q .non (upd H l (.lst (xs++[y])))
theorem mt_append:MtM X "list.append" rAppend:=by
 intro pins s σ H x vs v us Q I rx rv h
 obtain ⟨l,xs,y,rfl,rfl,hH,hz,q⟩:=h
 cases rx
 obtain ⟨u,rfl,ru⟩:=rv.one
 obtain ⟨z,its,n,r,hl,e⟩:=I.lstM hH
 refine call_meets F.slot_list_append ⟨_,e,rfl⟩ F.entry_list_append (F.args_list_append_2 _ _) (PySem.list_append l its.toArray n u (by rw [List.size_toArray]; omega)) ⟨e,?_⟩
 refine ⟨.non,_,I.lset (its':=its++[u]) hH e (by simp) (r.append (.cons ru .nil)) ?_,rfl,q⟩
 rw [List.length_append,List.length_singleton]
 omega
def rExtend:V→List V→Hp→VK→Prop:=fun x vs H Q=>∃ l b xs zs,x=.ref l∧vs=[.ref b]∧H l=some (.lst xs)∧H b=some (.lst zs)∧xs.length+zs.length≤sizeLine∧Q .non (upd H l (.lst (xs++zs)))
theorem mt_extend:MtM X "list.extend" rExtend:=by
 intro pins s σ H x vs v us Q I rx rv h
 obtain ⟨l,b,xs,zs,rfl,rfl,hH,hB,hz,q⟩:=h
 cases rx
 obtain ⟨u,rfl,ru⟩:=rv.one
 cases ru
 obtain ⟨z,its,n,r,hl,e⟩:=I.lstM hH
 obtain ⟨z2,its2,n2,r2,hl2,e2⟩:=I.lstM hB
 have hsz:its.toArray.size+its2.toArray.size≤sizeLine:=by rw [List.size_toArray,List.size_toArray]; omega
 have hlong:¬ (!its.toArray.isEmpty && Builtin.List.listTooLong (its.toArray.size+its2.toArray.size))=true:=by
  rw [notLongL hsz,Bool.and_false]
  exact Bool.false_ne_true
 refine call_meets F.slot_list_extend ⟨_,e,rfl⟩ F.entry_list_extend (F.args_list_extend_2 _ _)
  (AutoSeq1.list_extend_list_list_0 l its.toArray n b its2.toArray n2 hlong (by rw [List.size_toArray]; omega) (by omega)) ⟨e,e2,?_⟩
 refine ⟨.non,_,I.lset (its':=its++its2) hH e (by simp) (r.append r2) ?_,rfl,q⟩
 rw [List.length_append]
 omega
def rCat:R2:=fun x y H Q=>∃ l b xs zs,x=.ref l∧y=.ref b∧H l=some (.lst xs)∧H b=some (.lst zs)∧xs.length+zs.length≤sizeLine∧∀ p,H p=none→Q (.ref p) (upd H p (.lst (xs++zs)))
theorem op_cat:OpR X (binaryOp .Add) rCat:=by
 intro pins s σ H x y v u Q I rx ry h
 obtain ⟨l,b,xs,zs,rfl,rfl,hH,hB,hz,q⟩:=h
 cases rx
 cases ry
 obtain ⟨z,its,n,r,hl,e⟩:=I.lstM hH
 obtain ⟨z2,its2,n2,r2,hl2,e2⟩:=I.lstM hB
 refine PySem.P.add_list e e2 ?_ (by rw [List.size_toArray,List.size_toArray]; omega)
 have ea:its.toArray++its2.toArray=(its++its2).toArray:=by simp
 rw [ea]
 exact ⟨.ref _,_,I.lnew (t':=s.toks) (r.append r2) (by rw [List.length_append]; omega),rfl,q _ I.fresh⟩
end
section
variable {prog:Program} {w:World} {A:Around} {E:Value→Shared→Prop} {s:Shared}
end
section
variable {X:Cx}
end
end L2
namespace Att
open PySem PySem.W PySem.Calls PyProof.Rows
theorem ints_of_wellAll {P:Params} {h:Heap}:∀ (ns:List Int) (vs:List Value),WellAll P h vs (ns.map WData.int)→IntsAre vs ns:=by
 intro ns
 induction ns with
 | nil =>
  intro vs w
  rw [List.map_nil] at w
  cases w
  exact .nil
 | cons n ns ih =>
  intro vs w
  rw [List.map_cons] at w
  cases w with
  | cons a b =>
   cases a
   exact .cons _ _ (ih _ b)
theorem script_of {l:OpenLaw} {n:Nat} (hn:l.most=some n) {P:Params} {h:Heap} {args:List WData} {vals:List Value}
  (hpre:l.row.toRowW.claim.pre args=true) (hwl:WellAll P h vals args) :
  ∃ a vs ns,vals=[Value.ref a]∧args=[WData.list (ns.map WData.int)]∧h.get? a=some { cls:=.type "list",data:=.seq vs.toArray }∧IntsAre vs ns∧ns.length≤n:=by
 have hsh:WShape.hasAll [] args [.list .int]=true:=(pre_splitW hpre).1
 have hc:l.pre.holds [] { args:=args }=true:=(pre_splitW hpre).2
 obtain ⟨d,r,rfl,h1,h2⟩:=hasAllW_cons hsh
 obtain rfl:=hasAllW_nil h2
 obtain ⟨xs,rfl,h3⟩:=hasW_list h1
 obtain ⟨ns,rfl⟩:=items_int h3
 have hlen:ns.length≤n:=by
  unfold OpenLaw.pre at hc
  have h4:(WTm.not (.lt (.lit (.int (n:Int))) (.len (.arg 0)))).holds [] { args:=[.list (ns.map .int)] }=true:=by
   have h4:=(holds_andW hc).1
   rw [hn] at h4
   exact h4
  have h5:=condW_of h4 (w_not (w_lt w_lit (w_len_list (w_arg rfl))))
  rw [List.length_map] at h5
  refine Nat.le_of_not_lt fun q=>?_
  have q':(n:Int) < ((ns.length:Nat):Int):=by omega
  first
   | (rw [decide_eq_true q'] at h5; exact absurd h5 (by decide))
   | (simp at h5; omega)
 cases hwl with
 | cons w1 w2 =>
  cases w2
  cases w1 with
  | list ho hall=>exact ⟨_,_,ns,rfl,rfl,ho,ints_of_wellAll ns _ hall,hlen⟩
theorem post_true (l:OpenLaw) (args:List WData):l.row.toRowW.claim.post args (.bool true) args=true :=
 postW_of (r:=l.row.toRowW) (X:=(true == true))
  (show WShape.has [] (.bool true) .bool=true by first | rfl | decide | simp [WShape.has,WShape.arms,WShape.armsAll])
  (show (WTm.eq .res (.lit (.bool true))).value [] { args:=args,res:=some (.bool true),after:=args }=some (.bool (true == true)) from w_eq_bool (w_res rfl) w_lit) rfl
theorem attach_call {l:OpenLaw} {n:Nat} {q:Program} {loose:List Str} {XP:(Str→Option Value)→Heap→Prop} {YP:World→Heap→Prop} {d:DefRec}
  (hn:l.most=some n) (hdf:d.params.defaults=[])
  (call:∀ (w:World) (s₀ s₁:Shared) (mg mb:Str→Option Value) (fa:Addr) (o:Obj) (pm cd doc:Value) (a:Addr) (vs:List Value) (ns:List Int),
   Ground q loose [] XP w s₀ mg mb s₁.heap→YP w s₁.heap →
   s₁.heap.get? fa=some o→o.data=.func (docDef d.name d.params d.body d.scope pm cd doc)→s₁.heap.CodeRec cd d.name→mg d.name=some (.ref fa) →
   s₁.heap.get? a=some { cls:=.type "list",data:=.seq vs.toArray }→IntsAre vs ns→ns.length≤n→s₁.gens=#[] →
   codeAny (model l.prog w) callerA (.call (.ref fa) ⟨[.ref a],[]⟩) (fun r s'=>r=.ok (.ret (.bool true))∧OldK s₁.heap s'.heap∧s'.os=s₁.os∧AllBare s'.gens) s₁) :
  WalkO q loose XP YP l.row.toRowW d [] (fun f vs=>PySem.call f vs):=by
 intro w s₀ s₁ mg mb G Y fa o pm cd doc dV kV ho hd hcd hD hmg hg args vals as hpre hlay hrd hwl hlo
 obtain rfl:dV=.none:=Dflts.none hD hdf
 obtain rfl:kV=.none:=Dflts.noKw hD
 obtain ⟨a,vs,ns,rfl,rfl,hobj,hints,hlen⟩:=script_of hn hpre hwl
 refine enter_call (codeAny_mono (call w s₀ s₁ mg mb fa o pm cd doc a vs ns G Y ho (fd_plain hd) hcd hmg hobj hints hlen hg) fun r s' hq=>?_)
 obtain ⟨rfl,h2,h3,h4⟩:=hq
 exact ⟨.inl ⟨.bool true,.bool true,[],rfl,fun _=>rfl,.bool true,post_true l _,fun _=>⟨List.Pairwise.nil,fun _ hm=>(nomatch hm)⟩⟩,h2,h3,h4⟩
section
variable {prog:Program} {w:World} {A:Around} {E:Value→Shared→Prop} {s:Shared} {K:Frag}
end
end Att
namespace L2
open PySem PySem.Spec PyProof.Rows
theorem vals_ints:∀ {vs:List Value} {ns:List Int},IntsAre vs ns→Vals (ns.map V.int) vs
 | _,_,.nil=>.nil
 | _,_,.cons n t h=>.cons ⟨t,rfl⟩ (vals_ints h)
def Only (H:Hp):Prop:=∀ b,H b=none∨∃ o xs,H b=some (.frz o (.lst xs))
theorem law_call {P:Program} {w:World} {K:PySem.W.Frag} {mg mb:Str→Option Value} {CX:CXT} {k:Nat} {fa a:Addr} {fd:FuncData} {x:Str} {sp:Sp} {s₁:Shared} {vs:List Value} {ns:List Int}
  (KX:K.In s₁.heap) (hns:s₁.heap.Ns mainGlobals mg) (hb:s₁.heap.Ns builtinsNs mb) (hbb:∀ x:Str,x≠"__name__"→mb x=bootBuiltins x) (hlim:s₁.heap.NoLimit) (hg:s₁.gens=#[])
  (ha:s₁.heap.get? a=some { cls:=.type "list",data:=.seq vs.toArray }) (hi:IntsAre vs ns) (hl:ns.length≤sizeLine) (hr:Room k callerA)
  (F:∀ base:Heap,K.In base→base.Ns mainGlobals mg→FnOk P w K mg base CX k fa fd [x] sp) (hbind:∀ (s:Shared) (u:Value),BindsTo s fd ⟨[u],[]⟩ [(x,u)])
  (hsp:∀ H:Hp,Only H→SqL K H a (ns.map V.int)→sp [.ref a] H (fun v _=>v=.bl true) fun _ _ _=>False)
  (hCX:∀ H e s',CX [] H s₁ (fun _ _ _=>False) e s'→False) :
  codeAny (model P w) callerA (.call (.ref fa) ⟨[.ref a],[]⟩) (fun r s'=>r=.ok (.ret (.bool true))∧OldK s₁.heap s'.heap∧s'.os=s₁.os∧AllBare s'.gens) s₁:=by
 have rv:=vals_ints hi
 have lenV:=hi.length
 have core:∀ H:Hp,Only H→SqL K H a (ns.map V.int)→HOk P w H s₁.heap→(∀ b,H b≠none→b=a)→(H a≠none→K.lookup a=none) →
   codeAny (model P w) callerA (.call (.ref fa) ⟨[.ref a],[]⟩) (fun r s'=>r=.ok (.ret (.bool true))∧OldK s₁.heap s'.heap∧s'.os=s₁.os∧AllBare s'.gens) s₁:=by
  intro H hO hS hok hA hK
  have base_of:∀ {b:Addr} {o:Obj},s₁.heap.get? b=some o→H b=none→(hidT s₁.heap H).get? b=some o:=fun e n=>hidT_get e n
  have noA:∀ {b:Addr} {o:Obj} {es:Array DictEntry} {ep:Nat},s₁.heap.get? b=some o→o.data=.dict es ep→H b=none:=fun {b o es ep} e d=>by
   cases q:H b with
   | none=>rfl
   | some u =>
    have e':b=a:=hA b (by rw [q]; simp)
    subst e'
    rw [ha] at e; cases e
    have d':Data.seq vs.toArray _=Data.dict es ep:=d
    cases d'
  have nsK:∀ {b:Addr} {m:Str→Option Value},s₁.heap.Ns b m→(hidT s₁.heap H).Ns b m:=fun {b m} ⟨o,es,ep,e,d,r⟩=>⟨o,es,ep,base_of e (noA e d),d,r⟩
  have hKb:K.In (hidT s₁.heap H):=fun b o e=>base_of (KX b o e) (by
   cases q:H b with
   | none=>rfl
   | some u =>
    have e':b=a:=hA b (by rw [q]; simp)
    subst e'
    rw [hK (by rw [q]; simp)] at e; cases e)
  have hM:Mod K mg (hidT s₁.heap H):=⟨hKb,nsK hns,⟨mb,nsK hb,hbb⟩,let ⟨mc,h1,h2⟩:=hlim; ⟨mc,nsK h1,h2⟩⟩
  have e0:Env0 P w K mg (hidT s₁.heap H) callerA [] s₁ H:=⟨rfl,hM,fun b o e=>of_hidT e,Nat.le_of_eq (hidT_size _ _),trivial,fun b hb=>absurd (show b∈([]:List Addr) from hb) (by simp),hok,.of_eq hg⟩
  refine codeAny_mono ((F _ hKb (nsK hns)).run callerA [] s₁ H ⟨[.ref a],[]⟩ [.ref a] [.ref a] _ _ hr e0 (hbind s₁ (.ref a)) (.cons rfl .nil) (hsp H hO hS)) fun r s' h=>?_
  cases r with
  | error e=>exact (hCX H e s' h).elim
  | ok fl =>
   cases fl with
   | next=>exact False.elim h
   | brk=>exact False.elim h
   | cont=>exact False.elim h
   | ret u =>
    obtain ⟨v,H',os,bare,un,hok',r',q⟩:=h
    have q':v=.bl true:=q
    subst q'
    obtain rfl:u=Value.bool true:=r'
    refine ⟨rfl,OldK.of_keep fun b o e=>?_,os,bare⟩
    cases q:H b with
    | none=>exact un.keep b o e q (by intro z; exact absurd (show b∈([]:List Addr) from z) (by simp)) (by simp)
    | some u =>
     rcases hO b with z | ⟨ob,xs,z⟩
     ·rw [q] at z; cases z
     ·have z2:=un.frzs b ob _ z
      obtain ⟨e1,_⟩:=hok b _ z
      obtain ⟨e2,_⟩:=hok' b _ z2
      rw [e] at e1; cases e1
      exact e2
 cases hk:K.lookup a with
 | some o =>
  have e:=KX a o hk
  rw [ha] at e
  cases e
  refine core (fun _=>none) (fun _=>.inl rfl) (.inr ⟨_,vs.toArray,_,hk,rfl,rfl,rfl,by rw [List.size_toArray,lenV]; exact hl,by simpa using rv⟩) (fun b u z=>by have z':(none:Option HO)=some u:=z; cases z') (fun b z=>absurd rfl z) fun z=>absurd rfl z
 | none =>
  refine core (fun b=>if b=a then some (.frz { cls:=.type "list",data:=.seq vs.toArray } (.lst (ns.map V.int))) else none) (fun b=>?_) (.inl (.inr ⟨{ cls:=.type "list",data:=.seq vs.toArray },if_pos rfl⟩)) (fun b u z=>?_) (fun b z=>?_) fun _=>hk
  ·by_cases hb:b=a
   ·exact .inr ⟨_,_,if_pos hb⟩
   ·exact .inl (if_neg hb)
  ·by_cases hb:b=a
   ·have z':=(if_pos hb).symm.trans z
    cases z'
    subst hb
    exact ⟨ha,by rw [List.length_map]; exact hl,vs,_,rv,ha⟩
   ·have z':=(if_neg hb).symm.trans z
    cases z'
  ·by_cases hb:b=a
   ·exact hb
   ·exact absurd (if_neg hb) z
end L2
namespace L2
open PySem PySem.Spec PyProof.Rows
abbrev KOf {K:PySem.W.Frag} {h:Heap} (_:K.In h):PySem.W.Frag:=K
theorem walk_of {l:PySem.W.OpenLaw} {n k:Nat} {q:Program} {loose:List Str} {XP:(Str→Option Value)→Heap→Prop} {YP:World→Heap→Prop} {d:DefRec} {K:Params→PySem.W.Frag} {CX:World→CXT} {sp:World→Sp} {x:Str}
  (hn:l.most=some n) (hn2:n≤sizeLine) (hdf:d.params.defaults=[]) (hr:Room k callerA)
  (hY:∀ (w:World) (h:Heap),YP w h→(K w.params).In h)
  (F:∀ (w:World) (mg:Str→Option Value) (fa:Addr) (h:Heap),(K w.params).In h→h.Ns mainGlobals mg→mg d.name=some (.ref fa) →
   ∃ fd:FuncData,(∀ (s:Shared) (u:Value),BindsTo s fd ⟨[u],[]⟩ [(x,u)]) ∧
    ∀ base:Heap,(K w.params).In base→base.Ns mainGlobals mg→FnOk l.prog w (K w.params) mg base (CX w) k fa fd [x] (sp w))
  (hsp:∀ (w:World) (H:Hp) (a:Addr) (ns:List Int),ns.length≤n→Only H→SqL (K w.params) H a (ns.map V.int)→sp w [.ref a] H (fun v _=>v=.bl true) fun _ _ _=>False)
  (hCX:∀ (w:World) (H:Hp) (s:Shared) (e:Value) (s':Shared),CX w [] H s (fun _ _ _=>False) e s'→False) :
  PySem.W.WalkO q loose XP YP l.row.toRowW d [] (fun f vs=>PySem.call f vs):=by
 refine Att.attach_call hn hdf fun w s₀ s₁ mg mb fa o pm cd doc a vs ns G Y ho hd hcd hmg hobj hints hlen hg=>?_
 have KX:=hY w _ Y
 obtain ⟨fd,hb,hF⟩:=F w mg fa _ KX G.T.g hmg
 exact law_call KX G.T.g G.T.b G.T.builtins G.T.nolimit hg hobj hints (Nat.le_trans hlen hn2) hr hF hb (fun H hO hS=>hsp w H a ns hlen hO hS) fun H e s'=>hCX w H s₁ e s'
end L2
/- THE LAST THEOREM (shape; LID,My.* are yours):
  My.Adr: a structure of the addresses that your layer names (classes,functions); My.Txt K t: a structure (Prop) of the equations over K;
  My.txt_mk:{K} {implicit addresses ..} (e1:nsIn K mainGlobals "law"=some (some (.ref f))) (e2:K.lookup f=some ⟨oc,od,.func (fnOf "law" "law" params body scope dV kV doc pm an cdv ct),sl⟩) (e3:codeIn K cdv "law"=true) ..:∃ t,My.Txt K t
set_option maxRecDepth 100000 in
set_option maxHeartbeats 0 in
theorem PySem.Challenge.cw_LID_holds:PySem.Challenge.rw_LID.Holds:=by
 w_on; o_law; k_head; (case hw=>w_witness2)
 k_fill
 refine L2.walk_of (l:=PySem.Challenge.rw_LID) (n:=63) (k:=40) (x:="script") (CX:=fun w=>..) (sp:=fun _=>My.sp_law) rfl (by decide) rfl ⟨rfl,by decide,by decide⟩ (fun w h Y=>PySem.W.kIn_of Y) ?F ?S ?C
 case F =>
  intro w mg fa h KX G hmg
  have T:∃ t,My.Txt (L2.KOf KX) t:=by
   dsimp only [L2.KOf]                          -- K must stand as «<heap const> w.params» for k_is
   refine' My.txt_mk ?e1 ?e2 ?e3 ..
   (case e1=>PySem.W.k_is)                    -- in the order: a name -> its address -> its object -> its parts
   (case e2=>PySem.W.k_is)
   ..
  obtain ⟨t,T⟩:=T
  have e0:=hmg.symm.trans (PySem.W.mg_of KX G T.law)
  cases e0                                       -- fa is the law's own address
  exact ⟨_,fun s u=>.of_eq rfl,fun base kb nb=>My.law_fn T kb nb⟩     -- if «.of_eq rfl» comes too early: refine' ⟨_,?b,fun base kb nb=>My.law_fn T kb nb⟩; exact fun s u=>.of_eq rfl
 case S=>exact fun w H a ns hl hO hS=>..
 case C=>exact ..
(the tactic k_is has no namespace: write k_is) -/
namespace L2
open PySem PySem.Spec PyProof.Rows
def inClass (s:Stmt) (j:Nat):Stmt:=match s with
 | .ClassDef _ _ _ body _ _ _ _ _ _ _=>body.getD j (.Pass ⟨0,0,0,0⟩)
 | _=>.Pass ⟨0,0,0,0⟩
def defArgs (s:Stmt):Arguments:=match s with
 | .FunctionDef _ a _ _ _ _ _ _ _ _=>a
 | _=>{ posonlyargs:=[],args:=[],vararg:=none,kwonlyargs:=[],kw_defaults:=[],kwarg:=none,defaults:=[] }
def defBody (s:Stmt):List Stmt:=match s with
 | .FunctionDef _ _ b _ _ _ _ _ _ _=>b
 | _=>[]
def defScope (s:Stmt):Scope:=match s with
 | .FunctionDef _ _ _ _ _ _ sc _ _ _=>sc
 | _=>{ kind:=.function,names:=[],isGenerator:=false,isCoroutine:=false }
abbrev CX0:CXT:=fun _ _ _ _ _ _=>False
abbrev E0:XK:=fun _ _ _=>False
theorem pass0 {X:Cx}:Passes CX0 X E0:=fun _ _ _ _ _ _ _ h=>h.elim
structure Fun (K:PySem.W.Frag) (x qual:Str) (st:Stmt) (f:Addr) (fd:FuncData):Prop where
 ex:∃ (oc:Value) (od:Option Addr) (kV doc pm:Value) (an:Option Addr) (cdv ct:Value) (osl:Array (Option Value)),
  fd=PySem.W.fnOf x qual (defArgs st) (defBody st) (defScope st) .none kV doc pm an cdv ct∧K.lookup f=some ⟨oc,od,.func fd,osl⟩∧PySem.W.codeIn K cdv qual=true
 kp:PySem.W.keepIn K (.ref f)=true
section
variable {P:Program} {w:World} {K:PySem.W.Frag} {mg:Str→Option Value} {base:Heap}
theorem Fun.ok {x qual:Str} {st:Stmt} {f:Addr} {fd:FuncData} {N ps:List Str} {k:Nat} {sp:Sp} (F:Fun K x qual st f fd) (S:FnScope N ps (defScope st)) (len:∀ vs H Q E,sp vs H Q E→vs.length=ps.length)
  (hbody:∀ (cdv:Value) (A:Around) (outer:List Env) (s:Shared) (H:Hp) (vs:List V) (Q:VK) (E:XK),Room k (A.deeper (envOfC qual (defScope st) s.heap.objs.size f cdv))→sp vs H Q E →
   ∃ t,PSs (cxOf CX0 P w K mg base N qual (defScope st) f cdv A outer s H E).nox (defBody st) t∧t { nx:=fun _ H'=>Q .non H',rt:=Q } (start N vs) H):FnOk P w K mg base CX0 (k+1) f fd ps sp:=by
 obtain ⟨oc,od,kV,doc,pm,an,cdv,ct,osl,rfl,lk,hcd⟩:=F.ex
 refine fn_of lk hcd S len fun A outer s H vs Q E hr hsp=>?_
 obtain ⟨t,h,q⟩:=hbody cdv A outer s H vs Q E hr hsp
 exact ⟨t,h.nox,q⟩
theorem Fun.binds {x qual:Str} {st:Stmt} {f:Addr} {fd:FuncData} {ps:List Str} (F:Fun K x qual st f fd)
  (h:∀ (kV doc pm:Value) (an:Option Addr) (cdv ct:Value) (us:List Value),us.length=ps.length→bindArgs (PySem.W.fnOf x qual (defArgs st) (defBody st) (defScope st) .none kV doc pm an cdv ct) ⟨us,[]⟩=pure (ps.zip us)):Binds K fd ps []:=by
 obtain ⟨oc,od,kV,doc,pm,an,cdv,ct,osl,rfl,lk,hcd⟩:=F.ex
 exact .all (h kV doc pm an cdv ct)
theorem fun_mk {x qual:Str} {st:Stmt} {f:Addr} {oc:Value} {od an:Option Addr} {osl:Array (Option Value)} {kV doc pm cdv ct:Value} (l:K.lookup f=some ⟨oc,od,.func (PySem.W.fnOf x qual (defArgs st) (defBody st) (defScope st) .none kV doc pm an cdv ct),osl⟩)
  (c:PySem.W.codeIn K cdv qual=true) (k:PySem.W.keepIn K (.ref f)=true):Fun K x qual st f (PySem.W.fnOf x qual (defArgs st) (defBody st) (defScope st) .none kV doc pm an cdv ct):=⟨⟨oc,od,kV,doc,pm,an,cdv,ct,osl,rfl,l,c⟩,k⟩
end
theorem hu_of {A:Around} {k:Nat} (hr:Room k A):A.units+1 < cLine:=Nat.lt_of_le_of_lt (Nat.add_le_add_left (by decide:1≤64) _) hr.units
theorem small1000 {n:Nat} (h:n≤1000):n < sizeLine:=Nat.lt_of_le_of_lt h (by decide)
section
variable {X:Cx}
theorem pv (i:Nat) {x:Str} {pos:Pos} (hN:X.N[i]?=some x:=by rfl) (hv:Vis X.env.scope x:=by first | exact Or.inl rfl | exact Or.inr (Or.inl rfl) | exact Or.inr (Or.inr rfl)) (hd:(x == ("__debug__":Str))=false:=by decide)
  (hcd:(x == ("__classdict__":Str))=false:=by decide):PE X (.Name x pos) (tVar i):=pe_var hN hv hd hcd
end
theorem iteF {A B:Prop} (h:B):if false=true then A else B:=by
 rw [if_neg Bool.false_ne_true]
 exact h
theorem iteT {A B:Prop} (h:A):if true=true then A else B:=by
 rw [if_pos rfl]
 exact h
def Same (H H':Hp):Prop:=∀ b o,H b=some o→H' b=some o
theorem Same.refl (H:Hp):Same H H:=fun _ _ h=>h
theorem Same.trans {H H1 H2:Hp} (a:Same H H1) (b:Same H1 H2):Same H H2:=fun c o h=>b c o (a c o h)
theorem Same.seq {K:PySem.W.Frag} {H H':Hp} {a:Addr} {xs:List V} (e:Same H H') (h:SqL K H a xs):SqL K H' a xs:=by
 rcases h with (h | ⟨o,h⟩) | h
 ·exact .inl (.inl (e _ _ h))
 ·exact .inl (.inr ⟨o,e _ _ h⟩)
 ·exact .inr h
end L2
set_option maxHeartbeats 4000000
namespace L2
open PySem PySem.W PyProof.Rows
def lookO {α β:Type} (oS:Program→List Str→List Str→(Shared→Bool)→Bool→Shared→α) (ms:List Str) (p q:Program) (lo:List Str) (Xt:Shared→Bool) (Yf:Shared→β) (h0:Heap) (s:Shared):Bool × α × β :=
 ((((staticsOk ms h0 s.heap && namesBound p s.heap) && gensDone s) && laidKept h0 s.heap),oS q lo ms Xt true s,Yf s)
noncomputable abbrev atBoot (P:Params) (os:OsState):Shared:=Shared.mk (boot_heap P) (Array.mk []) boot_drawn boot_toks os
theorem left_once {p q:Program} {lo:List Str} {Xt:Shared→Bool} {β:Type} {Yf:Shared→β} {Ya:World→β} {N m:Nat} {an:Option Value}
  (bo:∀ w:World,Option.map (fun s=>(s.heap,s.gens,s.drawn,s.toks)) (fencedOpening treeTable p w N)=some (boot_heap w.params,Array.mk [],boot_drawn,boot_toks))
  (sz:∀ w:World,((boot_heap w.params).isNs mainGlobals,(boot_heap w.params).objs.size,(boot_heap w.params).nsMap mainGlobals "__annotations__")=(true,m,an))
  (rn:∀ (w:World) (os:OsState),Option.map (lookO openSeen (importedModules p.main.body) p q lo Xt Yf (boot_heap w.params)) (topRun treeTable p w m an N (atBoot w.params os) (topStub p))=some (true,openGood q lo,Ya w)) :
  LeftO p q lo Xt Yf Ya N:=by
 intro w
 obtain ⟨s0,e0,e1⟩:=Option.map_eq_some_iff.mp (bo w)
 obtain ⟨hp,gs,dr,tk,os⟩:=s0
 simp only [Prod.mk.injEq] at e1
 obtain ⟨rfl,rfl,rfl,rfl⟩:=e1
 have z:=sz w
 simp only [Prod.mk.injEq] at z
 obtain ⟨z1,z2,z3⟩:=z
 obtain ⟨s1,r1,r2⟩:=Option.map_eq_some_iff.mp (rn w os)
 unfold lookO at r2
 simp only [Prod.mk.injEq] at r2
 obtain ⟨l1,l2,l3⟩:=r2
 have tf:topFrom treeTable p w N (atBoot w.params os)=some s1:=by
  unfold topFrom
  dsimp only
  rw [z1,z2,z3]
  show Option.bind (topRun treeTable p w m an N (atBoot w.params os) (topStub p)) _=_
  rw [r1]
  show (match (((staticsOk (importedModules p.main.body) (boot_heap w.params) s1.heap && namesBound p s1.heap) && gensDone s1) && laidKept (boot_heap w.params) s1.heap) with | true=>some s1 | false=>none)=_
  rw [l1]
 unfold openEnds
 rw [e0]
 show Option.map _ (topFrom treeTable p w N (atBoot w.params os))=_
 rw [tf]
 exact congrArg some (Prod.ext l2 l3)
def treeAt:List Obj→Nat→BT→BT
 | [],_,t=>t
 | o :: r,i,t=>treeAt r (i+1) (t.ins i o)
def topRunT (ok:Thread→Bool) (stp:SharedT→Thread→Option (SharedT × Thread)):Nat→SharedT→Thread→Option SharedT
 | 0,_,_=>none
 | n+1,s,t=>match through t with
  | true=>some s
  | false=>match ok t with
   | false=>none
   | true=>match stp s t with
    | some (s1,t1)=>topRunT ok stp n s1 t1
    | none=>none
theorem topRunT_of {tb:String→Option Builtin} {p:Program} {w:World} {m:Nat} {an:Option Value}:∀ {n:Nat} {s s1:SharedT} {t:Thread},topRunT (stepOk m an) (stepT (denote tb) p w) n s t=some s1→topRun tb p w m an n s.abs t=some s1.abs
 | 0,_,_,_,h=>by cases h
 | n+1,s,s1,t,h=>by
  rw [topRunT] at h
  rw [topRun]
  cases ht:through t with
  | true=>rw [ht] at h; cases h; rfl
  | false =>
   rw [ht] at h
   cases hk:stepOk m an t with
   | false=>rw [hk] at h; cases h
   | true =>
    rw [hk] at h
    cases hs:stepT (denote tb) p w s t with
    | none=>rw [hs] at h; cases h
    | some r =>
     obtain ⟨s2,t2⟩:=r
     rw [hs] at h
     rw [stepT_spec hs]
     exact topRunT_of h
noncomputable def bootT (P:Params):BT:=treeAt (boot_heap P).objs.toList 0 .nil
noncomputable def atBootT (P:Params) (os:OsState):SharedT:=SharedT.mk (bootT P) 11 (boot_heap P).life (Array.mk []) boot_drawn boot_toks os
theorem bootT_is (P:Params) (os:OsState):(atBootT P os).abs=atBoot P os:=by kernel_rfl
theorem ran_of {p q:Program} {lo ms:List Str} {Xt:Shared→Bool} {α β:Type} {Yf:Shared→β} {N m:Nat} {an:Option Value} {w:World} {os:OsState} {r:Bool × α × β} {oS:Program→List Str→List Str→(Shared→Bool)→Bool→Shared→α}
  (h:Option.map (fun s=>lookO oS ms p q lo Xt Yf (boot_heap w.params) (SharedT.abs s)) (topRunT (stepOk m an) (stepT (denote treeTable) p w) N (atBootT w.params os) (topStub p))=some r) :
  Option.map (lookO oS ms p q lo Xt Yf (boot_heap w.params)) (topRun treeTable p w m an N (atBoot w.params os) (topStub p))=some r:=by
 obtain ⟨s,e,z⟩:=Option.map_eq_some_iff.mp h
 have e:=topRunT_of e
 rw [bootT_is] at e
 rw [e]
 exact congrArg some z
end L2
namespace L2
open PySem PySem.W PyProof.Rows
theorem look3 {σ α β:Type} {r:Option σ} {f:σ→Bool} {g:σ→α} {k:σ→β} {a:α} {b:β} (h1:r.map f=some true) (h2:r.map g=some a) (h3:r.map k=some b):r.map (fun s=>(f s,g s,k s))=some (true,a,b):=by
 cases r with
 | none=>cases h1
 | some s =>
  have e1:=Option.some.inj h1
  have e2:=Option.some.inj h2
  have e3:=Option.some.inj h3
  exact congrArg some (Prod.ext e1 (Prod.ext e2 e3))
def lookA (ms:List Str) (p:Program) (h0:Heap) (s:Shared):Bool:=(((staticsOk ms h0 s.heap && namesBound p s.heap) && gensDone s) && laidKept h0 s.heap)
def RunA (N m:Nat) (an:Option Value) {p p':Program} {sT:(Code→Sem Fin)→Program→World→SharedT→Thread→Option (SharedT × Thread)} {dn:(String→Option Builtin)→Code→Sem Fin} {tT:String→Option Builtin} {iM:List Stmt→List Str} {oS:∀ (q:Program) (lo ms:List Str) (Xt:Shared→Bool) (g0:Bool) (s:Shared),_} (h1:@stepT=sT) (h0:@denote=dn) (h2:treeTable=tT) (h3:@importedModules=iM) (h4:@openSeen=oS) (h5:p=p'):Prop:=∀ (w:World) (os:OsState),Option.map (fun s=>lookA (iM p'.main.body) p' (boot_heap w.params) (SharedT.abs s)) (topRunT (stepOk m an) (sT (dn tT) p' w) N (atBootT w.params os) (topStub p'))=some true
def RunB (N m:Nat) (an:Option Value) (q:Program→Program) (lo:List Str) (Xt:Program→Shared→Bool) {p p':Program} {sT:(Code→Sem Fin)→Program→World→SharedT→Thread→Option (SharedT × Thread)} {dn:(String→Option Builtin)→Code→Sem Fin} {tT:String→Option Builtin} {iM:List Stmt→List Str} {oS:∀ (q:Program) (lo ms:List Str) (Xt:Shared→Bool) (g0:Bool) (s:Shared),_} (h1:@stepT=sT) (h0:@denote=dn) (h2:treeTable=tT) (h3:@importedModules=iM) (h4:@openSeen=oS) (h5:p=p'):Prop:=∀ (w:World) (os:OsState),Option.map (fun s=>oS (q p') lo (iM p'.main.body) (Xt p') true (SharedT.abs s)) (topRunT (stepOk m an) (sT (dn tT) p' w) N (atBootT w.params os) (topStub p'))=some (openGood (q p') lo)
def RunC (N m:Nat) (an:Option Value) {β:Type} (Yf:Shared→β) (Ya:World→β) {p p':Program} {sT:(Code→Sem Fin)→Program→World→SharedT→Thread→Option (SharedT × Thread)} {dn:(String→Option Builtin)→Code→Sem Fin} {tT:String→Option Builtin} {iM:List Stmt→List Str} {oS:∀ (q:Program) (lo ms:List Str) (Xt:Shared→Bool) (g0:Bool) (s:Shared),_} (h1:@stepT=sT) (h0:@denote=dn) (h2:treeTable=tT) (h3:@importedModules=iM) (h4:@openSeen=oS) (h5:p=p'):Prop:=∀ (w:World) (os:OsState),Option.map (fun s=>Yf (SharedT.abs s)) (topRunT (stepOk m an) (sT (dn tT) p' w) N (atBootT w.params os) (topStub p'))=some (Ya w)
theorem run_by3 {q:Program→Program} {lo:List Str} {Xt:Program→Shared→Bool} {β:Type} {Yf:Shared→β} {Ya:World→β} {N m:Nat} {an:Option Value} {p p':Program} {sT:(Code→Sem Fin)→Program→World→SharedT→Thread→Option (SharedT × Thread)} {dn:(String→Option Builtin)→Code→Sem Fin} {tT:String→Option Builtin} {iM:List Stmt→List Str} {oS:∀ (q:Program) (lo ms:List Str) (Xt:Shared→Bool) (g0:Bool) (s:Shared),_} {h1:@stepT=sT} {h0:@denote=dn} {h2:treeTable=tT} {h3:@importedModules=iM} {h4:@openSeen=oS} {h5:p=p'}
  (rA:RunA N m an h1 h0 h2 h3 h4 h5) (rB:RunB N m an q lo Xt h1 h0 h2 h3 h4 h5) (rC:RunC N m an Yf Ya h1 h0 h2 h3 h4 h5) :
  ∀ (w:World) (os:OsState),Option.map (lookO openSeen (importedModules p.main.body) p (q p) lo (Xt p) Yf (boot_heap w.params)) (topRun treeTable p w m an N (atBoot w.params os) (topStub p))=some (true,openGood (q p) lo,Ya w):=by
 subst h1 h0 h2 h3 h4 h5
 exact fun w os=>ran_of (look3 (rA w os) (rB w os) (rC w os))
end L2
namespace KH
open PySem PySem.W PyProof.Rows L2
def top (i:Nat):Stmt:=PySem.Challenge.pw_glazebench_k66_orders_refused.main.body.getD i (.Pass ⟨0,0,0,0⟩)
def kE (P:Params) (x:Str) (t:Tok) (v:Value):DictEntry:=⟨PyData.keyHash P x,.str x t,v⟩
def k2 (P:Params):Obj:=⟨.none,none,(.dict #[] 0),#[]⟩
def k3 (P:Params):Obj:=⟨(.type "dict"),none,(.dict #[kE P "__name__" 165 (.str "law_glazebench_k66_orders_refused" 855),kE P "__doc__" 166 .none,kE P "__package__" 167 .none,kE P "__loader__" 168 (.builtin "__main__.__loader__#opaque"),kE P "__spec__" 169 .none,kE P "__annotations__" 170 (.ref 6),kE P "__builtins__" 171 (.ref 4),kE P "__file__" 173 (.str "/claim/cut.py" 172),kE P "__cached__" 174 .none,kE P "_wall" 193 (.ref 21),kE P "GlassError" 213 (.ref 31),kE P "NoSide" 238 (.ref 51),kE P "TooMany" 263 (.ref 70),kE P "NoNumber" 288 (.ref 89),kE P "NoWant" 313 (.ref 108),kE P "NoSheet" 338 (.ref 127),kE P "NoSize" 363 (.ref 146),kE P "NoPlan" 388 (.ref 165),kE P "LONGEST_SIDE" 392 (.int (12) 391),kE P "is_whole" 399 (.ref 174),kE P "is_side" 406 (.ref 181),kE P "check_sides" 415 (.ref 188),kE P "WHOLE" 419 (.str "whole" 418),kE P "UPRIGHT" 421 (.str "upright" 420),kE P "LEVEL" 423 (.str "level" 422),kE P "Tree" 480 (.ref 231),kE P "Whole" 505 (.ref 253),kE P "Upright" 534 (.ref 272),kE P "Level" 563 (.ref 291),kE P "kind_of" 570 (.ref 300),kE P "entry_of" 578 (.ref 307),kE P "entries_of" 588 (.ref 314),kE P "cut_from" 598 (.ref 321),kE P "tree_from" 610 (.ref 328),kE P "turned_word" 617 (.ref 335),kE P "MOST_WANTS" 621 (.int (6) 620),kE P "TOO_HIGH" 623 (.int (13) 622),kE P "is_want" 630 (.ref 342),kE P "check_wants" 639 (.ref 349),kE P "ways_to_lie" 646 (.ref 356),kE P "ways_held" 652 (.ref 361),kE P "is_alone" 659 (.ref 368),kE P "number_alone" 666 (.ref 375),kE P "all_parts" 672 (.ref 380),kE P "parts_with_least" 678 (.ref 385),kE P "cuts_to" 684 (.ref 390),kE P "least_height" 690 (.ref 395),kE P "heights_of_parts" 696 (.ref 400),kE P "stair" 702 (.ref 405),kE P "all_bits" 709 (.ref 412),kE P "stairs" 719 (.ref 419),kE P "cut_off" 730 (.ref 426),kE P "tree_alone" 741 (.ref 433),kE P "tree_for" 758 (.ref 440),kE P "stair_tree" 769 (.ref 447),kE P "MOST_SHEETS" 773 (.int (4) 772),kE P "is_sheet" 780 (.ref 454),kE P "check_sheets" 789 (.ref 461),kE P "heights_for" 797 (.ref 468),kE P "cheapest_sheets" 803 (.ref 473),kE P "first_sheets" 809 (.ref 478),kE P "glass_by_set" 820 (.ref 485),kE P "least_glass" 829 (.ref 492),kE P "check_served" 838 (.ref 499),kE P "plan" 854 (.ref 506),kE P "_law_at" 865 (.ref 513),kE P "_law_knead" 876 (.ref 520),kE P "_law_bad_want" 884 (.ref 527),kE P "_law_bad_sheet" 891 (.ref 534),kE P "_law_caught" 904 (.ref 541),kE P "_law_told" 912 (.ref 548),kE P "_law_first" 918 (.ref 553),kE P "_law_due" 932 (.ref 560),kE P "_law_things" 950 (.ref 567),kE P "law" 956 (.ref 572)] 75),#[]⟩
def k15 (P:Params):Obj:=⟨(.type "tuple"),none,(.seq #[] 0),#[]⟩
def k17 (P:Params):Obj:=⟨(.type "tuple"),none,(.seq #[(.str "k" 190)] 0),#[]⟩
def k18 (P:Params):Obj:=⟨(.type "tuple"),none,(.seq #[] 0),#[]⟩
def k20 (P:Params):Obj:=⟨(.type "code"),none,(.fields #[(.str "_wall" 187),(.str "_wall" 188),(.str "/claim/cut.py" 189),(.int (1) 0),(.int (1) 0),(.int (0) 0),(.int (0) 0),(.int (3) 0),(.ref 15),(.bool true),(.int (181) 0),(.ref 16),.none,(.ref 17),(.ref 18),(.ref 19),(.int (191) 0),(.int (1) 0),(.str "/claim/cut.py" 192)]),#[]⟩
def k21 (P:Params):Obj:=⟨(.type "function"),none,(.func (fnOf "_wall" "_wall" (defArgs (top 0)) (defBody (top 0)) (defScope (top 0)) .none .none .none (.str "__main__" 164) none (.ref 20) .none)),#[]⟩
def k22 (P:Params):Obj:=⟨(.type "tuple"),none,(.seq #[(.type "ValueError")] 0),#[]⟩
def k29 (P:Params):Obj:=⟨(.type "tuple"),none,(.seq #[] 0),#[]⟩
def k30 (P:Params):Obj:=⟨(.type "dict"),none,(.dict #[kE P "__module__" 203 (.str "glazebench.errors" 194),kE P "__firstlineno__" 207 (.int (5) 206),kE P "__static_attributes__" 208 (.ref 29),kE P "__weakref__" 210 (.ref 32),kE P "__doc__" 211 .none] 3),#[]⟩
def k31 (P:Params):Obj:=⟨(.type "type"),none,(.cls { name:="GlassError",bases:=[(.type "ValueError")],mro:=[(.ref 31),(.type "ValueError"),(.type "Exception"),(.type "BaseException"),(.type "object")],ns:=30,qualname:="GlassError",hasDict:=true,slotNames:=[],subclasses:=[(.ref 51),(.ref 70),(.ref 89),(.ref 108),(.ref 127),(.ref 146),(.ref 165)],abstract:=false,collection:=none,hasDel:=false }),#[some (.ref 22),none,some (.str "GlassError" 196),some (.str "GlassError" 204),some (.builtin "ValueError.__new__"),some (.bool true)]⟩
def k32 (P:Params):Obj:=⟨(.type "getset_descriptor"),none,(.fields #[(.str "__weakref__" 209),(.ref 31),(.builtin "ExceptionGroup.__weakref__"),.none]),#[]⟩
def k35 (P:Params):Obj:=⟨(.type "tuple"),none,(.seq #[(.ref 31)] 0),#[]⟩
def k42 (P:Params):Obj:=⟨(.type "tuple"),none,(.seq #[] 0),#[]⟩
def k44 (P:Params):Obj:=⟨(.type "tuple"),none,(.seq #[(.str "self" 229),(.str "side" 230)] 0),#[]⟩
def k45 (P:Params):Obj:=⟨(.type "tuple"),none,(.seq #[] 0),#[]⟩
def k47 (P:Params):Obj:=⟨(.type "code"),none,(.fields #[(.str "__init__" 226),(.str "NoSide.__init__" 227),(.str "/claim/cut.py" 228),(.int (9) 0),(.int (2) 0),(.int (0) 0),(.int (0) 0),(.int (3) 0),(.ref 42),(.bool true),(.int (181) 0),(.ref 43),.none,(.ref 44),(.ref 45),(.ref 46),(.int (231) 0),(.int (9) 0),(.str "/claim/cut.py" 232)]),#[]⟩
def k48 (P:Params):Obj:=⟨(.type "function"),none,(.func (fnOf "__init__" "NoSide.__init__" (defArgs (inClass (top 3) 0)) (defBody (inClass (top 3) 0)) (defScope (inClass (top 3) 0)) .none .none .none (.str "glazebench.errors" 194) none (.ref 47) .none)),#[]⟩
def k49 (P:Params):Obj:=⟨(.type "tuple"),none,(.seq #[(.str "side" 234)] 0),#[]⟩
def k50 (P:Params):Obj:=⟨(.type "dict"),none,(.dict #[kE P "__module__" 221 (.str "glazebench.errors" 194),kE P "__firstlineno__" 225 (.int (7) 224),kE P "__init__" 233 (.ref 48),kE P "__static_attributes__" 235 (.ref 49),kE P "__doc__" 236 .none] 2),#[]⟩
def k51 (P:Params):Obj:=⟨(.type "type"),none,(.cls { name:="NoSide",bases:=[(.ref 31)],mro:=[(.ref 51),(.ref 31),(.type "ValueError"),(.type "Exception"),(.type "BaseException"),(.type "object")],ns:=50,qualname:="NoSide",hasDict:=true,slotNames:=[],subclasses:=[],abstract:=false,collection:=none,hasDel:=false }),#[some (.ref 35),none,some (.str "NoSide" 214),some (.str "NoSide" 222),some (.builtin "ValueError.__new__"),some (.bool true)]⟩
def k54 (P:Params):Obj:=⟨(.type "tuple"),none,(.seq #[(.ref 31)] 0),#[]⟩
def k61 (P:Params):Obj:=⟨(.type "tuple"),none,(.seq #[] 0),#[]⟩
def k63 (P:Params):Obj:=⟨(.type "tuple"),none,(.seq #[(.str "self" 254),(.str "many" 255)] 0),#[]⟩
def k64 (P:Params):Obj:=⟨(.type "tuple"),none,(.seq #[] 0),#[]⟩
def k66 (P:Params):Obj:=⟨(.type "code"),none,(.fields #[(.str "__init__" 251),(.str "TooMany.__init__" 252),(.str "/claim/cut.py" 253),(.int (13) 0),(.int (2) 0),(.int (0) 0),(.int (0) 0),(.int (3) 0),(.ref 61),(.bool true),(.int (181) 0),(.ref 62),.none,(.ref 63),(.ref 64),(.ref 65),(.int (256) 0),(.int (13) 0),(.str "/claim/cut.py" 257)]),#[]⟩
def k67 (P:Params):Obj:=⟨(.type "function"),none,(.func (fnOf "__init__" "TooMany.__init__" (defArgs (inClass (top 4) 0)) (defBody (inClass (top 4) 0)) (defScope (inClass (top 4) 0)) .none .none .none (.str "glazebench.errors" 194) none (.ref 66) .none)),#[]⟩
def k68 (P:Params):Obj:=⟨(.type "tuple"),none,(.seq #[(.str "many" 259)] 0),#[]⟩
def k69 (P:Params):Obj:=⟨(.type "dict"),none,(.dict #[kE P "__module__" 246 (.str "glazebench.errors" 194),kE P "__firstlineno__" 250 (.int (11) 249),kE P "__init__" 258 (.ref 67),kE P "__static_attributes__" 260 (.ref 68),kE P "__doc__" 261 .none] 2),#[]⟩
def k70 (P:Params):Obj:=⟨(.type "type"),none,(.cls { name:="TooMany",bases:=[(.ref 31)],mro:=[(.ref 70),(.ref 31),(.type "ValueError"),(.type "Exception"),(.type "BaseException"),(.type "object")],ns:=69,qualname:="TooMany",hasDict:=true,slotNames:=[],subclasses:=[],abstract:=false,collection:=none,hasDel:=false }),#[some (.ref 54),none,some (.str "TooMany" 239),some (.str "TooMany" 247),some (.builtin "ValueError.__new__"),some (.bool true)]⟩
def k73 (P:Params):Obj:=⟨(.type "tuple"),none,(.seq #[(.ref 31)] 0),#[]⟩
def k80 (P:Params):Obj:=⟨(.type "tuple"),none,(.seq #[] 0),#[]⟩
def k82 (P:Params):Obj:=⟨(.type "tuple"),none,(.seq #[(.str "self" 279),(.str "number" 280)] 0),#[]⟩
def k83 (P:Params):Obj:=⟨(.type "tuple"),none,(.seq #[] 0),#[]⟩
def k85 (P:Params):Obj:=⟨(.type "code"),none,(.fields #[(.str "__init__" 276),(.str "NoNumber.__init__" 277),(.str "/claim/cut.py" 278),(.int (17) 0),(.int (2) 0),(.int (0) 0),(.int (0) 0),(.int (3) 0),(.ref 80),(.bool true),(.int (181) 0),(.ref 81),.none,(.ref 82),(.ref 83),(.ref 84),(.int (281) 0),(.int (17) 0),(.str "/claim/cut.py" 282)]),#[]⟩
def k86 (P:Params):Obj:=⟨(.type "function"),none,(.func (fnOf "__init__" "NoNumber.__init__" (defArgs (inClass (top 5) 0)) (defBody (inClass (top 5) 0)) (defScope (inClass (top 5) 0)) .none .none .none (.str "glazebench.errors" 194) none (.ref 85) .none)),#[]⟩
def k87 (P:Params):Obj:=⟨(.type "tuple"),none,(.seq #[(.str "number" 284)] 0),#[]⟩
def k88 (P:Params):Obj:=⟨(.type "dict"),none,(.dict #[kE P "__module__" 271 (.str "glazebench.errors" 194),kE P "__firstlineno__" 275 (.int (15) 274),kE P "__init__" 283 (.ref 86),kE P "__static_attributes__" 285 (.ref 87),kE P "__doc__" 286 .none] 2),#[]⟩
def k89 (P:Params):Obj:=⟨(.type "type"),none,(.cls { name:="NoNumber",bases:=[(.ref 31)],mro:=[(.ref 89),(.ref 31),(.type "ValueError"),(.type "Exception"),(.type "BaseException"),(.type "object")],ns:=88,qualname:="NoNumber",hasDict:=true,slotNames:=[],subclasses:=[],abstract:=false,collection:=none,hasDel:=false }),#[some (.ref 73),none,some (.str "NoNumber" 264),some (.str "NoNumber" 272),some (.builtin "ValueError.__new__"),some (.bool true)]⟩
def k92 (P:Params):Obj:=⟨(.type "tuple"),none,(.seq #[(.ref 31)] 0),#[]⟩
def k99 (P:Params):Obj:=⟨(.type "tuple"),none,(.seq #[] 0),#[]⟩
def k101 (P:Params):Obj:=⟨(.type "tuple"),none,(.seq #[(.str "self" 304),(.str "place" 305)] 0),#[]⟩
def k102 (P:Params):Obj:=⟨(.type "tuple"),none,(.seq #[] 0),#[]⟩
def k104 (P:Params):Obj:=⟨(.type "code"),none,(.fields #[(.str "__init__" 301),(.str "NoWant.__init__" 302),(.str "/claim/cut.py" 303),(.int (21) 0),(.int (2) 0),(.int (0) 0),(.int (0) 0),(.int (3) 0),(.ref 99),(.bool true),(.int (181) 0),(.ref 100),.none,(.ref 101),(.ref 102),(.ref 103),(.int (306) 0),(.int (21) 0),(.str "/claim/cut.py" 307)]),#[]⟩
def k105 (P:Params):Obj:=⟨(.type "function"),none,(.func (fnOf "__init__" "NoWant.__init__" (defArgs (inClass (top 6) 0)) (defBody (inClass (top 6) 0)) (defScope (inClass (top 6) 0)) .none .none .none (.str "glazebench.errors" 194) none (.ref 104) .none)),#[]⟩
def k106 (P:Params):Obj:=⟨(.type "tuple"),none,(.seq #[(.str "place" 309)] 0),#[]⟩
def k107 (P:Params):Obj:=⟨(.type "dict"),none,(.dict #[kE P "__module__" 296 (.str "glazebench.errors" 194),kE P "__firstlineno__" 300 (.int (19) 299),kE P "__init__" 308 (.ref 105),kE P "__static_attributes__" 310 (.ref 106),kE P "__doc__" 311 .none] 2),#[]⟩
def k108 (P:Params):Obj:=⟨(.type "type"),none,(.cls { name:="NoWant",bases:=[(.ref 31)],mro:=[(.ref 108),(.ref 31),(.type "ValueError"),(.type "Exception"),(.type "BaseException"),(.type "object")],ns:=107,qualname:="NoWant",hasDict:=true,slotNames:=[],subclasses:=[],abstract:=false,collection:=none,hasDel:=false }),#[some (.ref 92),none,some (.str "NoWant" 289),some (.str "NoWant" 297),some (.builtin "ValueError.__new__"),some (.bool true)]⟩
def k111 (P:Params):Obj:=⟨(.type "tuple"),none,(.seq #[(.ref 31)] 0),#[]⟩
def k118 (P:Params):Obj:=⟨(.type "tuple"),none,(.seq #[] 0),#[]⟩
def k120 (P:Params):Obj:=⟨(.type "tuple"),none,(.seq #[(.str "self" 329),(.str "place" 330)] 0),#[]⟩
def k121 (P:Params):Obj:=⟨(.type "tuple"),none,(.seq #[] 0),#[]⟩
def k123 (P:Params):Obj:=⟨(.type "code"),none,(.fields #[(.str "__init__" 326),(.str "NoSheet.__init__" 327),(.str "/claim/cut.py" 328),(.int (25) 0),(.int (2) 0),(.int (0) 0),(.int (0) 0),(.int (3) 0),(.ref 118),(.bool true),(.int (181) 0),(.ref 119),.none,(.ref 120),(.ref 121),(.ref 122),(.int (331) 0),(.int (25) 0),(.str "/claim/cut.py" 332)]),#[]⟩
def k124 (P:Params):Obj:=⟨(.type "function"),none,(.func (fnOf "__init__" "NoSheet.__init__" (defArgs (inClass (top 7) 0)) (defBody (inClass (top 7) 0)) (defScope (inClass (top 7) 0)) .none .none .none (.str "glazebench.errors" 194) none (.ref 123) .none)),#[]⟩
def k125 (P:Params):Obj:=⟨(.type "tuple"),none,(.seq #[(.str "place" 334)] 0),#[]⟩
def k126 (P:Params):Obj:=⟨(.type "dict"),none,(.dict #[kE P "__module__" 321 (.str "glazebench.errors" 194),kE P "__firstlineno__" 325 (.int (23) 324),kE P "__init__" 333 (.ref 124),kE P "__static_attributes__" 335 (.ref 125),kE P "__doc__" 336 .none] 2),#[]⟩
def k127 (P:Params):Obj:=⟨(.type "type"),none,(.cls { name:="NoSheet",bases:=[(.ref 31)],mro:=[(.ref 127),(.ref 31),(.type "ValueError"),(.type "Exception"),(.type "BaseException"),(.type "object")],ns:=126,qualname:="NoSheet",hasDict:=true,slotNames:=[],subclasses:=[],abstract:=false,collection:=none,hasDel:=false }),#[some (.ref 111),none,some (.str "NoSheet" 314),some (.str "NoSheet" 322),some (.builtin "ValueError.__new__"),some (.bool true)]⟩
def k130 (P:Params):Obj:=⟨(.type "tuple"),none,(.seq #[(.ref 31)] 0),#[]⟩
def k137 (P:Params):Obj:=⟨(.type "tuple"),none,(.seq #[] 0),#[]⟩
def k139 (P:Params):Obj:=⟨(.type "tuple"),none,(.seq #[(.str "self" 354),(.str "size" 355)] 0),#[]⟩
def k140 (P:Params):Obj:=⟨(.type "tuple"),none,(.seq #[] 0),#[]⟩
def k142 (P:Params):Obj:=⟨(.type "code"),none,(.fields #[(.str "__init__" 351),(.str "NoSize.__init__" 352),(.str "/claim/cut.py" 353),(.int (29) 0),(.int (2) 0),(.int (0) 0),(.int (0) 0),(.int (3) 0),(.ref 137),(.bool true),(.int (181) 0),(.ref 138),.none,(.ref 139),(.ref 140),(.ref 141),(.int (356) 0),(.int (29) 0),(.str "/claim/cut.py" 357)]),#[]⟩
def k143 (P:Params):Obj:=⟨(.type "function"),none,(.func (fnOf "__init__" "NoSize.__init__" (defArgs (inClass (top 8) 0)) (defBody (inClass (top 8) 0)) (defScope (inClass (top 8) 0)) .none .none .none (.str "glazebench.errors" 194) none (.ref 142) .none)),#[]⟩
def k144 (P:Params):Obj:=⟨(.type "tuple"),none,(.seq #[(.str "size" 359)] 0),#[]⟩
def k145 (P:Params):Obj:=⟨(.type "dict"),none,(.dict #[kE P "__module__" 346 (.str "glazebench.errors" 194),kE P "__firstlineno__" 350 (.int (27) 349),kE P "__init__" 358 (.ref 143),kE P "__static_attributes__" 360 (.ref 144),kE P "__doc__" 361 .none] 2),#[]⟩
def k146 (P:Params):Obj:=⟨(.type "type"),none,(.cls { name:="NoSize",bases:=[(.ref 31)],mro:=[(.ref 146),(.ref 31),(.type "ValueError"),(.type "Exception"),(.type "BaseException"),(.type "object")],ns:=145,qualname:="NoSize",hasDict:=true,slotNames:=[],subclasses:=[],abstract:=false,collection:=none,hasDel:=false }),#[some (.ref 130),none,some (.str "NoSize" 339),some (.str "NoSize" 347),some (.builtin "ValueError.__new__"),some (.bool true)]⟩
def k149 (P:Params):Obj:=⟨(.type "tuple"),none,(.seq #[(.ref 31)] 0),#[]⟩
def k156 (P:Params):Obj:=⟨(.type "tuple"),none,(.seq #[] 0),#[]⟩
def k158 (P:Params):Obj:=⟨(.type "tuple"),none,(.seq #[(.str "self" 379),(.str "want" 380)] 0),#[]⟩
def k159 (P:Params):Obj:=⟨(.type "tuple"),none,(.seq #[] 0),#[]⟩
def k161 (P:Params):Obj:=⟨(.type "code"),none,(.fields #[(.str "__init__" 376),(.str "NoPlan.__init__" 377),(.str "/claim/cut.py" 378),(.int (33) 0),(.int (2) 0),(.int (0) 0),(.int (0) 0),(.int (3) 0),(.ref 156),(.bool true),(.int (181) 0),(.ref 157),.none,(.ref 158),(.ref 159),(.ref 160),(.int (381) 0),(.int (33) 0),(.str "/claim/cut.py" 382)]),#[]⟩
def k162 (P:Params):Obj:=⟨(.type "function"),none,(.func (fnOf "__init__" "NoPlan.__init__" (defArgs (inClass (top 9) 0)) (defBody (inClass (top 9) 0)) (defScope (inClass (top 9) 0)) .none .none .none (.str "glazebench.errors" 194) none (.ref 161) .none)),#[]⟩
def k163 (P:Params):Obj:=⟨(.type "tuple"),none,(.seq #[(.str "want" 384)] 0),#[]⟩
def k164 (P:Params):Obj:=⟨(.type "dict"),none,(.dict #[kE P "__module__" 371 (.str "glazebench.errors" 194),kE P "__firstlineno__" 375 (.int (31) 374),kE P "__init__" 383 (.ref 162),kE P "__static_attributes__" 385 (.ref 163),kE P "__doc__" 386 .none] 2),#[]⟩
def k165 (P:Params):Obj:=⟨(.type "type"),none,(.cls { name:="NoPlan",bases:=[(.ref 31)],mro:=[(.ref 165),(.ref 31),(.type "ValueError"),(.type "Exception"),(.type "BaseException"),(.type "object")],ns:=164,qualname:="NoPlan",hasDict:=true,slotNames:=[],subclasses:=[],abstract:=false,collection:=none,hasDel:=false }),#[some (.ref 149),none,some (.str "NoPlan" 364),some (.str "NoPlan" 372),some (.builtin "ValueError.__new__"),some (.bool true)]⟩
def k168 (P:Params):Obj:=⟨(.type "tuple"),none,(.seq #[] 0),#[]⟩
def k170 (P:Params):Obj:=⟨(.type "tuple"),none,(.seq #[(.str "thing" 396)] 0),#[]⟩
def k171 (P:Params):Obj:=⟨(.type "tuple"),none,(.seq #[] 0),#[]⟩
def k173 (P:Params):Obj:=⟨(.type "code"),none,(.fields #[(.str "is_whole" 393),(.str "is_whole" 394),(.str "/claim/cut.py" 395),(.int (37) 0),(.int (1) 0),(.int (0) 0),(.int (0) 0),(.int (3) 0),(.ref 168),(.bool true),(.int (181) 0),(.ref 169),.none,(.ref 170),(.ref 171),(.ref 172),(.int (397) 0),(.int (37) 0),(.str "/claim/cut.py" 398)]),#[]⟩
def k174 (P:Params):Obj:=⟨(.type "function"),none,(.func (fnOf "is_whole" "is_whole" (defArgs (top 12)) (defBody (top 12)) (defScope (top 12)) .none .none .none (.str "glazebench.panels" 389) none (.ref 173) .none)),#[]⟩
def k175 (P:Params):Obj:=⟨(.type "tuple"),none,(.seq #[] 0),#[]⟩
def k177 (P:Params):Obj:=⟨(.type "tuple"),none,(.seq #[(.str "thing" 403)] 0),#[]⟩
def k178 (P:Params):Obj:=⟨(.type "tuple"),none,(.seq #[] 0),#[]⟩
def k180 (P:Params):Obj:=⟨(.type "code"),none,(.fields #[(.str "is_side" 400),(.str "is_side" 401),(.str "/claim/cut.py" 402),(.int (39) 0),(.int (1) 0),(.int (0) 0),(.int (0) 0),(.int (3) 0),(.ref 175),(.bool true),(.int (181) 0),(.ref 176),.none,(.ref 177),(.ref 178),(.ref 179),(.int (404) 0),(.int (39) 0),(.str "/claim/cut.py" 405)]),#[]⟩
def k181 (P:Params):Obj:=⟨(.type "function"),none,(.func (fnOf "is_side" "is_side" (defArgs (top 13)) (defBody (top 13)) (defScope (top 13)) .none .none .none (.str "glazebench.panels" 389) none (.ref 180) .none)),#[]⟩
def k182 (P:Params):Obj:=⟨(.type "tuple"),none,(.seq #[] 0),#[]⟩
def k184 (P:Params):Obj:=⟨(.type "tuple"),none,(.seq #[(.str "width" 410),(.str "height" 411),(.str "side" 412)] 0),#[]⟩
def k185 (P:Params):Obj:=⟨(.type "tuple"),none,(.seq #[] 0),#[]⟩
def k187 (P:Params):Obj:=⟨(.type "code"),none,(.fields #[(.str "check_sides" 407),(.str "check_sides" 408),(.str "/claim/cut.py" 409),(.int (41) 0),(.int (2) 0),(.int (0) 0),(.int (0) 0),(.int (3) 0),(.ref 182),(.bool true),(.int (181) 0),(.ref 183),.none,(.ref 184),(.ref 185),(.ref 186),(.int (413) 0),(.int (41) 0),(.str "/claim/cut.py" 414)]),#[]⟩
def k188 (P:Params):Obj:=⟨(.type "function"),none,(.func (fnOf "check_sides" "check_sides" (defArgs (top 14)) (defBody (top 14)) (defScope (top 14)) .none .none .none (.str "glazebench.panels" 389) none (.ref 187) .none)),#[]⟩
def k196 (P:Params):Obj:=⟨(.type "tuple"),none,(.seq #[] 0),#[]⟩
def k198 (P:Params):Obj:=⟨(.type "tuple"),none,(.seq #[(.str "self" 439)] 0),#[]⟩
def k199 (P:Params):Obj:=⟨(.type "tuple"),none,(.seq #[] 0),#[]⟩
def k201 (P:Params):Obj:=⟨(.type "code"),none,(.fields #[(.str "leaves" 436),(.str "Tree.leaves" 437),(.str "/claim/cut.py" 438),(.int (51) 0),(.int (1) 0),(.int (0) 0),(.int (0) 0),(.int (3) 0),(.ref 196),(.bool true),(.int (181) 0),(.ref 197),.none,(.ref 198),(.ref 199),(.ref 200),(.int (440) 0),(.int (51) 0),(.str "/claim/cut.py" 441)]),#[]⟩
def k202 (P:Params):Obj:=⟨(.type "function"),none,(.func (fnOf "leaves" "Tree.leaves" (defArgs (inClass (top 19) 0)) (defBody (inClass (top 19) 0)) (defScope (inClass (top 19) 0)) .none .none .none (.str "glazebench.cuts" 416) none (.ref 201) .none)),#[]⟩
def k203 (P:Params):Obj:=⟨(.type "tuple"),none,(.seq #[] 0),#[]⟩
def k205 (P:Params):Obj:=⟨(.type "tuple"),none,(.seq #[(.str "self" 446)] 0),#[]⟩
def k206 (P:Params):Obj:=⟨(.type "tuple"),none,(.seq #[] 0),#[]⟩
def k208 (P:Params):Obj:=⟨(.type "code"),none,(.fields #[(.str "depth" 443),(.str "Tree.depth" 444),(.str "/claim/cut.py" 445),(.int (54) 0),(.int (1) 0),(.int (0) 0),(.int (0) 0),(.int (3) 0),(.ref 203),(.bool true),(.int (181) 0),(.ref 204),.none,(.ref 205),(.ref 206),(.ref 207),(.int (447) 0),(.int (54) 0),(.str "/claim/cut.py" 448)]),#[]⟩
def k209 (P:Params):Obj:=⟨(.type "function"),none,(.func (fnOf "depth" "Tree.depth" (defArgs (inClass (top 19) 1)) (defBody (inClass (top 19) 1)) (defScope (inClass (top 19) 1)) .none .none .none (.str "glazebench.cuts" 416) none (.ref 208) .none)),#[]⟩
def k210 (P:Params):Obj:=⟨(.type "tuple"),none,(.seq #[] 0),#[]⟩
def k213 (P:Params):Obj:=⟨(.type "code"),none,(.fields #[(.str "turned" 450),(.str "Tree.turned" 451),(.str "/claim/cut.py" 452),(.int (57) 0),(.int (1) 0),(.int (0) 0),(.int (0) 0),(.int (3) 0),(.ref 210),(.bool true),(.int (181) 0),(.ref 211),.none,.none,.none,(.ref 212),(.int (453) 0),(.int (57) 0),(.str "/claim/cut.py" 454)]),#[]⟩
def k214 (P:Params):Obj:=⟨(.type "function"),none,(.func (fnOf "turned" "Tree.turned" (defArgs (inClass (top 19) 2)) (defBody (inClass (top 19) 2)) (defScope (inClass (top 19) 2)) .none .none .none (.str "glazebench.cuts" 416) none (.ref 213) .none)),#[]⟩
def k215 (P:Params):Obj:=⟨(.type "tuple"),none,(.seq #[] 0),#[]⟩
def k217 (P:Params):Obj:=⟨(.type "tuple"),none,(.seq #[(.str "self" 459),(.str "width" 460),(.str "height" 461)] 0),#[]⟩
def k218 (P:Params):Obj:=⟨(.type "tuple"),none,(.seq #[] 0),#[]⟩
def k220 (P:Params):Obj:=⟨(.type "code"),none,(.fields #[(.str "fits" 456),(.str "Tree.fits" 457),(.str "/claim/cut.py" 458),(.int (60) 0),(.int (3) 0),(.int (0) 0),(.int (0) 0),(.int (3) 0),(.ref 215),(.bool true),(.int (181) 0),(.ref 216),.none,(.ref 217),(.ref 218),(.ref 219),(.int (462) 0),(.int (60) 0),(.str "/claim/cut.py" 463)]),#[]⟩
def k221 (P:Params):Obj:=⟨(.type "function"),none,(.func (fnOf "fits" "Tree.fits" (defArgs (inClass (top 19) 3)) (defBody (inClass (top 19) 3)) (defScope (inClass (top 19) 3)) .none .none .none (.str "glazebench.cuts" 416) none (.ref 220) .none)),#[]⟩
def k222 (P:Params):Obj:=⟨(.type "tuple"),none,(.seq #[] 0),#[]⟩
def k224 (P:Params):Obj:=⟨(.type "tuple"),none,(.seq #[(.str "self" 468),(.str "other" 469)] 0),#[]⟩
def k225 (P:Params):Obj:=⟨(.type "tuple"),none,(.seq #[] 0),#[]⟩
def k227 (P:Params):Obj:=⟨(.type "code"),none,(.fields #[(.str "same" 465),(.str "Tree.same" 466),(.str "/claim/cut.py" 467),(.int (63) 0),(.int (2) 0),(.int (0) 0),(.int (0) 0),(.int (3) 0),(.ref 222),(.bool true),(.int (181) 0),(.ref 223),.none,(.ref 224),(.ref 225),(.ref 226),(.int (470) 0),(.int (63) 0),(.str "/claim/cut.py" 471)]),#[]⟩
def k228 (P:Params):Obj:=⟨(.type "function"),none,(.func (fnOf "same" "Tree.same" (defArgs (inClass (top 19) 4)) (defBody (inClass (top 19) 4)) (defScope (inClass (top 19) 4)) .none .none .none (.str "glazebench.cuts" 416) none (.ref 227) .none)),#[]⟩
def k229 (P:Params):Obj:=⟨(.type "tuple"),none,(.seq #[] 0),#[]⟩
def k230 (P:Params):Obj:=⟨(.type "dict"),none,(.dict #[kE P "__module__" 431 (.str "glazebench.cuts" 416),kE P "__firstlineno__" 435 (.int (49) 434),kE P "leaves" 442 (.ref 202),kE P "depth" 449 (.ref 209),kE P "turned" 455 (.ref 214),kE P "fits" 464 (.ref 221),kE P "same" 472 (.ref 228),kE P "__static_attributes__" 473 (.ref 229),kE P "__dict__" 475 (.ref 232),kE P "__weakref__" 477 (.ref 233),kE P "__doc__" 478 .none] 4),#[]⟩
def k231 (P:Params):Obj:=⟨(.type "type"),none,(.cls { name:="Tree",bases:=[(.type "object")],mro:=[(.ref 231),(.type "object")],ns:=230,qualname:="Tree",hasDict:=true,slotNames:=[],subclasses:=[(.ref 253),(.ref 272),(.ref 291)],abstract:=false,collection:=none,hasDel:=false }),#[none,none,some (.str "Tree" 424),some (.str "Tree" 432),some (.builtin "object.__new__"),some (.bool true)]⟩
def k232 (P:Params):Obj:=⟨(.type "getset_descriptor"),none,(.fields #[(.str "__dict__" 474),(.ref 231),(.builtin "function.__dict__"),(.builtin "function.__dict__#set")]),#[]⟩
def k233 (P:Params):Obj:=⟨(.type "getset_descriptor"),none,(.fields #[(.str "__weakref__" 476),(.ref 231),(.builtin "ExceptionGroup.__weakref__"),.none]),#[]⟩
def k236 (P:Params):Obj:=⟨(.type "tuple"),none,(.seq #[(.ref 231)] 0),#[]⟩
def k243 (P:Params):Obj:=⟨(.type "tuple"),none,(.seq #[.none] 0),#[]⟩
def k244 (P:Params):Obj:=⟨(.type "tuple"),none,(.seq #[] 0),#[]⟩
def k246 (P:Params):Obj:=⟨(.type "tuple"),none,(.seq #[(.str "self" 496),(.str "mark" 497)] 0),#[]⟩
def k247 (P:Params):Obj:=⟨(.type "tuple"),none,(.seq #[] 0),#[]⟩
def k249 (P:Params):Obj:=⟨(.type "code"),none,(.fields #[(.str "__init__" 493),(.str "Whole.__init__" 494),(.str "/claim/cut.py" 495),(.int (67) 0),(.int (2) 0),(.int (0) 0),(.int (0) 0),(.int (3) 0),(.ref 244),(.bool true),(.int (181) 0),(.ref 245),.none,(.ref 246),(.ref 247),(.ref 248),(.int (498) 0),(.int (67) 0),(.str "/claim/cut.py" 499)]),#[]⟩
def k250 (P:Params):Obj:=⟨(.type "function"),none,(.func (fnOf "__init__" "Whole.__init__" (defArgs (inClass (top 20) 0)) (defBody (inClass (top 20) 0)) (defScope (inClass (top 20) 0)) (.ref 243) .none .none (.str "glazebench.cuts" 416) none (.ref 249) .none)),#[]⟩
def k251 (P:Params):Obj:=⟨(.type "tuple"),none,(.seq #[(.str "mark" 501)] 0),#[]⟩
def k252 (P:Params):Obj:=⟨(.type "dict"),none,(.dict #[kE P "__module__" 488 (.str "glazebench.cuts" 416),kE P "__firstlineno__" 492 (.int (65) 491),kE P "__init__" 500 (.ref 250),kE P "__static_attributes__" 502 (.ref 251),kE P "__doc__" 503 .none] 2),#[]⟩
def k253 (P:Params):Obj:=⟨(.type "type"),none,(.cls { name:="Whole",bases:=[(.ref 231)],mro:=[(.ref 253),(.ref 231),(.type "object")],ns:=252,qualname:="Whole",hasDict:=true,slotNames:=[],subclasses:=[],abstract:=false,collection:=none,hasDel:=false }),#[some (.ref 236),none,some (.str "Whole" 481),some (.str "Whole" 489),some (.builtin "object.__new__"),some (.bool true)]⟩
def k256 (P:Params):Obj:=⟨(.type "tuple"),none,(.seq #[(.ref 231)] 0),#[]⟩
def k263 (P:Params):Obj:=⟨(.type "tuple"),none,(.seq #[] 0),#[]⟩
def k265 (P:Params):Obj:=⟨(.type "tuple"),none,(.seq #[(.str "self" 521),(.str "at" 522),(.str "first" 523),(.str "other" 524)] 0),#[]⟩
def k266 (P:Params):Obj:=⟨(.type "tuple"),none,(.seq #[] 0),#[]⟩
def k268 (P:Params):Obj:=⟨(.type "code"),none,(.fields #[(.str "__init__" 518),(.str "Upright.__init__" 519),(.str "/claim/cut.py" 520),(.int (71) 0),(.int (4) 0),(.int (0) 0),(.int (0) 0),(.int (3) 0),(.ref 263),(.bool true),(.int (181) 0),(.ref 264),.none,(.ref 265),(.ref 266),(.ref 267),(.int (525) 0),(.int (71) 0),(.str "/claim/cut.py" 526)]),#[]⟩
def k269 (P:Params):Obj:=⟨(.type "function"),none,(.func (fnOf "__init__" "Upright.__init__" (defArgs (inClass (top 21) 0)) (defBody (inClass (top 21) 0)) (defScope (inClass (top 21) 0)) .none .none .none (.str "glazebench.cuts" 416) none (.ref 268) .none)),#[]⟩
def k270 (P:Params):Obj:=⟨(.type "tuple"),none,(.seq #[(.str "at" 528),(.str "first" 529),(.str "other" 530)] 0),#[]⟩
def k271 (P:Params):Obj:=⟨(.type "dict"),none,(.dict #[kE P "__module__" 513 (.str "glazebench.cuts" 416),kE P "__firstlineno__" 517 (.int (69) 516),kE P "__init__" 527 (.ref 269),kE P "__static_attributes__" 531 (.ref 270),kE P "__doc__" 532 .none] 2),#[]⟩
def k272 (P:Params):Obj:=⟨(.type "type"),none,(.cls { name:="Upright",bases:=[(.ref 231)],mro:=[(.ref 272),(.ref 231),(.type "object")],ns:=271,qualname:="Upright",hasDict:=true,slotNames:=[],subclasses:=[],abstract:=false,collection:=none,hasDel:=false }),#[some (.ref 256),none,some (.str "Upright" 506),some (.str "Upright" 514),some (.builtin "object.__new__"),some (.bool true)]⟩
def k275 (P:Params):Obj:=⟨(.type "tuple"),none,(.seq #[(.ref 231)] 0),#[]⟩
def k282 (P:Params):Obj:=⟨(.type "tuple"),none,(.seq #[] 0),#[]⟩
def k284 (P:Params):Obj:=⟨(.type "tuple"),none,(.seq #[(.str "self" 550),(.str "at" 551),(.str "first" 552),(.str "other" 553)] 0),#[]⟩
def k285 (P:Params):Obj:=⟨(.type "tuple"),none,(.seq #[] 0),#[]⟩
def k287 (P:Params):Obj:=⟨(.type "code"),none,(.fields #[(.str "__init__" 547),(.str "Level.__init__" 548),(.str "/claim/cut.py" 549),(.int (77) 0),(.int (4) 0),(.int (0) 0),(.int (0) 0),(.int (3) 0),(.ref 282),(.bool true),(.int (181) 0),(.ref 283),.none,(.ref 284),(.ref 285),(.ref 286),(.int (554) 0),(.int (77) 0),(.str "/claim/cut.py" 555)]),#[]⟩
def k288 (P:Params):Obj:=⟨(.type "function"),none,(.func (fnOf "__init__" "Level.__init__" (defArgs (inClass (top 22) 0)) (defBody (inClass (top 22) 0)) (defScope (inClass (top 22) 0)) .none .none .none (.str "glazebench.cuts" 416) none (.ref 287) .none)),#[]⟩
def k289 (P:Params):Obj:=⟨(.type "tuple"),none,(.seq #[(.str "at" 557),(.str "first" 558),(.str "other" 559)] 0),#[]⟩
def k290 (P:Params):Obj:=⟨(.type "dict"),none,(.dict #[kE P "__module__" 542 (.str "glazebench.cuts" 416),kE P "__firstlineno__" 546 (.int (75) 545),kE P "__init__" 556 (.ref 288),kE P "__static_attributes__" 560 (.ref 289),kE P "__doc__" 561 .none] 2),#[]⟩
def k291 (P:Params):Obj:=⟨(.type "type"),none,(.cls { name:="Level",bases:=[(.ref 231)],mro:=[(.ref 291),(.ref 231),(.type "object")],ns:=290,qualname:="Level",hasDict:=true,slotNames:=[],subclasses:=[],abstract:=false,collection:=none,hasDel:=false }),#[some (.ref 275),none,some (.str "Level" 535),some (.str "Level" 543),some (.builtin "object.__new__"),some (.bool true)]⟩
def k294 (P:Params):Obj:=⟨(.type "tuple"),none,(.seq #[] 0),#[]⟩
def k296 (P:Params):Obj:=⟨(.type "tuple"),none,(.seq #[(.str "tree" 567)] 0),#[]⟩
def k297 (P:Params):Obj:=⟨(.type "tuple"),none,(.seq #[] 0),#[]⟩
def k299 (P:Params):Obj:=⟨(.type "code"),none,(.fields #[(.str "kind_of" 564),(.str "kind_of" 565),(.str "/claim/cut.py" 566),(.int (81) 0),(.int (1) 0),(.int (0) 0),(.int (0) 0),(.int (3) 0),(.ref 294),(.bool true),(.int (181) 0),(.ref 295),.none,(.ref 296),(.ref 297),(.ref 298),(.int (568) 0),(.int (81) 0),(.str "/claim/cut.py" 569)]),#[]⟩
def k300 (P:Params):Obj:=⟨(.type "function"),none,(.func (fnOf "kind_of" "kind_of" (defArgs (top 23)) (defBody (top 23)) (defScope (top 23)) .none .none .none (.str "glazebench.cuts" 416) none (.ref 299) .none)),#[]⟩
def k301 (P:Params):Obj:=⟨(.type "tuple"),none,(.seq #[] 0),#[]⟩
def k303 (P:Params):Obj:=⟨(.type "tuple"),none,(.seq #[(.str "tree" 574),(.str "kind" 575)] 0),#[]⟩
def k304 (P:Params):Obj:=⟨(.type "tuple"),none,(.seq #[] 0),#[]⟩
def k306 (P:Params):Obj:=⟨(.type "code"),none,(.fields #[(.str "entry_of" 571),(.str "entry_of" 572),(.str "/claim/cut.py" 573),(.int (85) 0),(.int (1) 0),(.int (0) 0),(.int (0) 0),(.int (3) 0),(.ref 301),(.bool true),(.int (181) 0),(.ref 302),.none,(.ref 303),(.ref 304),(.ref 305),(.int (576) 0),(.int (85) 0),(.str "/claim/cut.py" 577)]),#[]⟩
def k307 (P:Params):Obj:=⟨(.type "function"),none,(.func (fnOf "entry_of" "entry_of" (defArgs (top 24)) (defBody (top 24)) (defScope (top 24)) .none .none .none (.str "glazebench.cuts" 416) none (.ref 306) .none)),#[]⟩
def k308 (P:Params):Obj:=⟨(.type "tuple"),none,(.seq #[] 0),#[]⟩
def k310 (P:Params):Obj:=⟨(.type "tuple"),none,(.seq #[(.str "tree" 582),(.str "entries" 583),(.str "waiting" 584),(.str "part" 585)] 0),#[]⟩
def k311 (P:Params):Obj:=⟨(.type "tuple"),none,(.seq #[] 0),#[]⟩
def k313 (P:Params):Obj:=⟨(.type "code"),none,(.fields #[(.str "entries_of" 579),(.str "entries_of" 580),(.str "/claim/cut.py" 581),(.int (88) 0),(.int (1) 0),(.int (0) 0),(.int (0) 0),(.int (3) 0),(.ref 308),(.bool true),(.int (181) 0),(.ref 309),.none,(.ref 310),(.ref 311),(.ref 312),(.int (586) 0),(.int (88) 0),(.str "/claim/cut.py" 587)]),#[]⟩
def k314 (P:Params):Obj:=⟨(.type "function"),none,(.func (fnOf "entries_of" "entries_of" (defArgs (top 25)) (defBody (top 25)) (defScope (top 25)) .none .none .none (.str "glazebench.cuts" 416) none (.ref 313) .none)),#[]⟩
def k315 (P:Params):Obj:=⟨(.type "tuple"),none,(.seq #[] 0),#[]⟩
def k317 (P:Params):Obj:=⟨(.type "tuple"),none,(.seq #[(.str "word" 592),(.str "at" 593),(.str "first" 594),(.str "other" 595)] 0),#[]⟩
def k318 (P:Params):Obj:=⟨(.type "tuple"),none,(.seq #[] 0),#[]⟩
def k320 (P:Params):Obj:=⟨(.type "code"),none,(.fields #[(.str "cut_from" 589),(.str "cut_from" 590),(.str "/claim/cut.py" 591),(.int (97) 0),(.int (4) 0),(.int (0) 0),(.int (0) 0),(.int (3) 0),(.ref 315),(.bool true),(.int (181) 0),(.ref 316),.none,(.ref 317),(.ref 318),(.ref 319),(.int (596) 0),(.int (97) 0),(.str "/claim/cut.py" 597)]),#[]⟩
def k321 (P:Params):Obj:=⟨(.type "function"),none,(.func (fnOf "cut_from" "cut_from" (defArgs (top 26)) (defBody (top 26)) (defScope (top 26)) .none .none .none (.str "glazebench.cuts" 416) none (.ref 320) .none)),#[]⟩
def k322 (P:Params):Obj:=⟨(.type "tuple"),none,(.seq #[] 0),#[]⟩
def k324 (P:Params):Obj:=⟨(.type "tuple"),none,(.seq #[(.str "entries" 602),(.str "done" 603),(.str "word" 604),(.str "number" 605),(.str "first" 606),(.str "other" 607)] 0),#[]⟩
def k325 (P:Params):Obj:=⟨(.type "tuple"),none,(.seq #[] 0),#[]⟩
def k327 (P:Params):Obj:=⟨(.type "code"),none,(.fields #[(.str "tree_from" 599),(.str "tree_from" 600),(.str "/claim/cut.py" 601),(.int (101) 0),(.int (1) 0),(.int (0) 0),(.int (0) 0),(.int (3) 0),(.ref 322),(.bool true),(.int (181) 0),(.ref 323),.none,(.ref 324),(.ref 325),(.ref 326),(.int (608) 0),(.int (101) 0),(.str "/claim/cut.py" 609)]),#[]⟩
def k328 (P:Params):Obj:=⟨(.type "function"),none,(.func (fnOf "tree_from" "tree_from" (defArgs (top 27)) (defBody (top 27)) (defScope (top 27)) .none .none .none (.str "glazebench.cuts" 416) none (.ref 327) .none)),#[]⟩
def k329 (P:Params):Obj:=⟨(.type "tuple"),none,(.seq #[] 0),#[]⟩
def k331 (P:Params):Obj:=⟨(.type "tuple"),none,(.seq #[(.str "word" 614)] 0),#[]⟩
def k332 (P:Params):Obj:=⟨(.type "tuple"),none,(.seq #[] 0),#[]⟩
def k334 (P:Params):Obj:=⟨(.type "code"),none,(.fields #[(.str "turned_word" 611),(.str "turned_word" 612),(.str "/claim/cut.py" 613),(.int (111) 0),(.int (1) 0),(.int (0) 0),(.int (0) 0),(.int (3) 0),(.ref 329),(.bool true),(.int (181) 0),(.ref 330),.none,(.ref 331),(.ref 332),(.ref 333),(.int (615) 0),(.int (111) 0),(.str "/claim/cut.py" 616)]),#[]⟩
def k335 (P:Params):Obj:=⟨(.type "function"),none,(.func (fnOf "turned_word" "turned_word" (defArgs (top 28)) (defBody (top 28)) (defScope (top 28)) .none .none .none (.str "glazebench.cuts" 416) none (.ref 334) .none)),#[]⟩
def k336 (P:Params):Obj:=⟨(.type "tuple"),none,(.seq #[] 0),#[]⟩
def k338 (P:Params):Obj:=⟨(.type "tuple"),none,(.seq #[(.str "thing" 627)] 0),#[]⟩
def k339 (P:Params):Obj:=⟨(.type "tuple"),none,(.seq #[] 0),#[]⟩
def k341 (P:Params):Obj:=⟨(.type "code"),none,(.fields #[(.str "is_want" 624),(.str "is_want" 625),(.str "/claim/cut.py" 626),(.int (118) 0),(.int (1) 0),(.int (0) 0),(.int (0) 0),(.int (3) 0),(.ref 336),(.bool true),(.int (181) 0),(.ref 337),.none,(.ref 338),(.ref 339),(.ref 340),(.int (628) 0),(.int (118) 0),(.str "/claim/cut.py" 629)]),#[]⟩
def k342 (P:Params):Obj:=⟨(.type "function"),none,(.func (fnOf "is_want" "is_want" (defArgs (top 32)) (defBody (top 32)) (defScope (top 32)) .none .none .none (.str "glazebench.stairs" 618) none (.ref 341) .none)),#[]⟩
def k343 (P:Params):Obj:=⟨(.type "tuple"),none,(.seq #[] 0),#[]⟩
def k345 (P:Params):Obj:=⟨(.type "tuple"),none,(.seq #[(.str "wants" 634),(.str "place" 635),(.str "want" 636)] 0),#[]⟩
def k346 (P:Params):Obj:=⟨(.type "tuple"),none,(.seq #[] 0),#[]⟩
def k348 (P:Params):Obj:=⟨(.type "code"),none,(.fields #[(.str "check_wants" 631),(.str "check_wants" 632),(.str "/claim/cut.py" 633),(.int (122) 0),(.int (1) 0),(.int (0) 0),(.int (0) 0),(.int (3) 0),(.ref 343),(.bool true),(.int (181) 0),(.ref 344),.none,(.ref 345),(.ref 346),(.ref 347),(.int (637) 0),(.int (122) 0),(.str "/claim/cut.py" 638)]),#[]⟩
def k349 (P:Params):Obj:=⟨(.type "function"),none,(.func (fnOf "check_wants" "check_wants" (defArgs (top 33)) (defBody (top 33)) (defScope (top 33)) .none .none .none (.str "glazebench.stairs" 618) none (.ref 348) .none)),#[]⟩
def k350 (P:Params):Obj:=⟨(.type "tuple"),none,(.seq #[] 0),#[]⟩
def k352 (P:Params):Obj:=⟨(.type "tuple"),none,(.seq #[(.str "want" 643)] 0),#[]⟩
def k353 (P:Params):Obj:=⟨(.type "tuple"),none,(.seq #[] 0),#[]⟩
def k355 (P:Params):Obj:=⟨(.type "code"),none,(.fields #[(.str "ways_to_lie" 640),(.str "ways_to_lie" 641),(.str "/claim/cut.py" 642),(.int (128) 0),(.int (1) 0),(.int (0) 0),(.int (0) 0),(.int (3) 0),(.ref 350),(.bool true),(.int (181) 0),(.ref 351),.none,(.ref 352),(.ref 353),(.ref 354),(.int (644) 0),(.int (128) 0),(.str "/claim/cut.py" 645)]),#[]⟩
def k356 (P:Params):Obj:=⟨(.type "function"),none,(.func (fnOf "ways_to_lie" "ways_to_lie" (defArgs (top 34)) (defBody (top 34)) (defScope (top 34)) .none .none .none (.str "glazebench.stairs" 618) none (.ref 355) .none)),#[]⟩
def k357 (P:Params):Obj:=⟨(.type "tuple"),none,(.seq #[] 0),#[]⟩
def k360 (P:Params):Obj:=⟨(.type "code"),none,(.fields #[(.str "ways_held" 647),(.str "ways_held" 648),(.str "/claim/cut.py" 649),(.int (132) 0),(.int (3) 0),(.int (0) 0),(.int (0) 0),(.int (3) 0),(.ref 357),(.bool true),(.int (181) 0),(.ref 358),.none,.none,.none,(.ref 359),(.int (650) 0),(.int (132) 0),(.str "/claim/cut.py" 651)]),#[]⟩
def k361 (P:Params):Obj:=⟨(.type "function"),none,(.func (fnOf "ways_held" "ways_held" (defArgs (top 35)) (defBody (top 35)) (defScope (top 35)) .none .none .none (.str "glazebench.stairs" 618) none (.ref 360) .none)),#[]⟩
def k362 (P:Params):Obj:=⟨(.type "tuple"),none,(.seq #[] 0),#[]⟩
def k364 (P:Params):Obj:=⟨(.type "tuple"),none,(.seq #[(.str "bits" 656)] 0),#[]⟩
def k365 (P:Params):Obj:=⟨(.type "tuple"),none,(.seq #[] 0),#[]⟩
def k367 (P:Params):Obj:=⟨(.type "code"),none,(.fields #[(.str "is_alone" 653),(.str "is_alone" 654),(.str "/claim/cut.py" 655),(.int (134) 0),(.int (1) 0),(.int (0) 0),(.int (0) 0),(.int (3) 0),(.ref 362),(.bool true),(.int (181) 0),(.ref 363),.none,(.ref 364),(.ref 365),(.ref 366),(.int (657) 0),(.int (134) 0),(.str "/claim/cut.py" 658)]),#[]⟩
def k368 (P:Params):Obj:=⟨(.type "function"),none,(.func (fnOf "is_alone" "is_alone" (defArgs (top 36)) (defBody (top 36)) (defScope (top 36)) .none .none .none (.str "glazebench.stairs" 618) none (.ref 367) .none)),#[]⟩
def k369 (P:Params):Obj:=⟨(.type "tuple"),none,(.seq #[] 0),#[]⟩
def k371 (P:Params):Obj:=⟨(.type "tuple"),none,(.seq #[(.str "bits" 663)] 0),#[]⟩
def k372 (P:Params):Obj:=⟨(.type "tuple"),none,(.seq #[] 0),#[]⟩
def k374 (P:Params):Obj:=⟨(.type "code"),none,(.fields #[(.str "number_alone" 660),(.str "number_alone" 661),(.str "/claim/cut.py" 662),(.int (136) 0),(.int (1) 0),(.int (0) 0),(.int (0) 0),(.int (3) 0),(.ref 369),(.bool true),(.int (181) 0),(.ref 370),.none,(.ref 371),(.ref 372),(.ref 373),(.int (664) 0),(.int (136) 0),(.str "/claim/cut.py" 665)]),#[]⟩
def k375 (P:Params):Obj:=⟨(.type "function"),none,(.func (fnOf "number_alone" "number_alone" (defArgs (top 37)) (defBody (top 37)) (defScope (top 37)) .none .none .none (.str "glazebench.stairs" 618) none (.ref 374) .none)),#[]⟩
def k376 (P:Params):Obj:=⟨(.type "tuple"),none,(.seq #[] 0),#[]⟩
def k379 (P:Params):Obj:=⟨(.type "code"),none,(.fields #[(.str "all_parts" 667),(.str "all_parts" 668),(.str "/claim/cut.py" 669),(.int (138) 0),(.int (1) 0),(.int (0) 0),(.int (0) 0),(.int (3) 0),(.ref 376),(.bool true),(.int (181) 0),(.ref 377),.none,.none,.none,(.ref 378),(.int (670) 0),(.int (138) 0),(.str "/claim/cut.py" 671)]),#[]⟩
def k380 (P:Params):Obj:=⟨(.type "function"),none,(.func (fnOf "all_parts" "all_parts" (defArgs (top 38)) (defBody (top 38)) (defScope (top 38)) .none .none .none (.str "glazebench.stairs" 618) none (.ref 379) .none)),#[]⟩
def k381 (P:Params):Obj:=⟨(.type "tuple"),none,(.seq #[] 0),#[]⟩
def k384 (P:Params):Obj:=⟨(.type "code"),none,(.fields #[(.str "parts_with_least" 673),(.str "parts_with_least" 674),(.str "/claim/cut.py" 675),(.int (140) 0),(.int (1) 0),(.int (0) 0),(.int (0) 0),(.int (3) 0),(.ref 381),(.bool true),(.int (181) 0),(.ref 382),.none,.none,.none,(.ref 383),(.int (676) 0),(.int (140) 0),(.str "/claim/cut.py" 677)]),#[]⟩
def k385 (P:Params):Obj:=⟨(.type "function"),none,(.func (fnOf "parts_with_least" "parts_with_least" (defArgs (top 39)) (defBody (top 39)) (defScope (top 39)) .none .none .none (.str "glazebench.stairs" 618) none (.ref 384) .none)),#[]⟩
def k386 (P:Params):Obj:=⟨(.type "tuple"),none,(.seq #[] 0),#[]⟩
def k389 (P:Params):Obj:=⟨(.type "code"),none,(.fields #[(.str "cuts_to" 679),(.str "cuts_to" 680),(.str "/claim/cut.py" 681),(.int (143) 0),(.int (3) 0),(.int (0) 0),(.int (0) 0),(.int (3) 0),(.ref 386),(.bool true),(.int (181) 0),(.ref 387),.none,.none,.none,(.ref 388),(.int (682) 0),(.int (143) 0),(.str "/claim/cut.py" 683)]),#[]⟩
def k390 (P:Params):Obj:=⟨(.type "function"),none,(.func (fnOf "cuts_to" "cuts_to" (defArgs (top 40)) (defBody (top 40)) (defScope (top 40)) .none .none .none (.str "glazebench.stairs" 618) none (.ref 389) .none)),#[]⟩
def k391 (P:Params):Obj:=⟨(.type "tuple"),none,(.seq #[] 0),#[]⟩
def k394 (P:Params):Obj:=⟨(.type "code"),none,(.fields #[(.str "least_height" 685),(.str "least_height" 686),(.str "/claim/cut.py" 687),(.int (151) 0),(.int (4) 0),(.int (0) 0),(.int (0) 0),(.int (3) 0),(.ref 391),(.bool true),(.int (181) 0),(.ref 392),.none,.none,.none,(.ref 393),(.int (688) 0),(.int (151) 0),(.str "/claim/cut.py" 689)]),#[]⟩
def k395 (P:Params):Obj:=⟨(.type "function"),none,(.func (fnOf "least_height" "least_height" (defArgs (top 41)) (defBody (top 41)) (defScope (top 41)) .none .none .none (.str "glazebench.stairs" 618) none (.ref 394) .none)),#[]⟩
def k396 (P:Params):Obj:=⟨(.type "tuple"),none,(.seq #[] 0),#[]⟩
def k399 (P:Params):Obj:=⟨(.type "code"),none,(.fields #[(.str "heights_of_parts" 691),(.str "heights_of_parts" 692),(.str "/claim/cut.py" 693),(.int (156) 0),(.int (2) 0),(.int (0) 0),(.int (0) 0),(.int (3) 0),(.ref 396),(.bool true),(.int (181) 0),(.ref 397),.none,.none,.none,(.ref 398),(.int (694) 0),(.int (156) 0),(.str "/claim/cut.py" 695)]),#[]⟩
def k400 (P:Params):Obj:=⟨(.type "function"),none,(.func (fnOf "heights_of_parts" "heights_of_parts" (defArgs (top 42)) (defBody (top 42)) (defScope (top 42)) .none .none .none (.str "glazebench.stairs" 618) none (.ref 399) .none)),#[]⟩
def k401 (P:Params):Obj:=⟨(.type "tuple"),none,(.seq #[] 0),#[]⟩
def k404 (P:Params):Obj:=⟨(.type "code"),none,(.fields #[(.str "stair" 697),(.str "stair" 698),(.str "/claim/cut.py" 699),(.int (162) 0),(.int (1) 0),(.int (0) 0),(.int (0) 0),(.int (3) 0),(.ref 401),(.bool true),(.int (181) 0),(.ref 402),.none,.none,.none,(.ref 403),(.int (700) 0),(.int (162) 0),(.str "/claim/cut.py" 701)]),#[]⟩
def k405 (P:Params):Obj:=⟨(.type "function"),none,(.func (fnOf "stair" "stair" (defArgs (top 43)) (defBody (top 43)) (defScope (top 43)) .none .none .none (.str "glazebench.stairs" 618) none (.ref 404) .none)),#[]⟩
def k406 (P:Params):Obj:=⟨(.type "tuple"),none,(.seq #[] 0),#[]⟩
def k408 (P:Params):Obj:=⟨(.type "tuple"),none,(.seq #[(.str "wants" 706)] 0),#[]⟩
def k409 (P:Params):Obj:=⟨(.type "tuple"),none,(.seq #[] 0),#[]⟩
def k411 (P:Params):Obj:=⟨(.type "code"),none,(.fields #[(.str "all_bits" 703),(.str "all_bits" 704),(.str "/claim/cut.py" 705),(.int (164) 0),(.int (1) 0),(.int (0) 0),(.int (0) 0),(.int (3) 0),(.ref 406),(.bool true),(.int (181) 0),(.ref 407),.none,(.ref 408),(.ref 409),(.ref 410),(.int (707) 0),(.int (164) 0),(.str "/claim/cut.py" 708)]),#[]⟩
def k412 (P:Params):Obj:=⟨(.type "function"),none,(.func (fnOf "all_bits" "all_bits" (defArgs (top 44)) (defBody (top 44)) (defScope (top 44)) .none .none .none (.str "glazebench.stairs" 618) none (.ref 411) .none)),#[]⟩
def k413 (P:Params):Obj:=⟨(.type "tuple"),none,(.seq #[] 0),#[]⟩
def k415 (P:Params):Obj:=⟨(.type "tuple"),none,(.seq #[(.str "wants" 713),(.str "found" 714),(.str "bits" 715),(.str "least" 716)] 0),#[]⟩
def k416 (P:Params):Obj:=⟨(.type "tuple"),none,(.seq #[] 0),#[]⟩
def k418 (P:Params):Obj:=⟨(.type "code"),none,(.fields #[(.str "stairs" 710),(.str "stairs" 711),(.str "/claim/cut.py" 712),(.int (166) 0),(.int (1) 0),(.int (0) 0),(.int (0) 0),(.int (3) 0),(.ref 413),(.bool true),(.int (181) 0),(.ref 414),.none,(.ref 415),(.ref 416),(.ref 417),(.int (717) 0),(.int (166) 0),(.str "/claim/cut.py" 718)]),#[]⟩
def k419 (P:Params):Obj:=⟨(.type "function"),none,(.func (fnOf "stairs" "stairs" (defArgs (top 45)) (defBody (top 45)) (defScope (top 45)) .none .none .none (.str "glazebench.stairs" 618) none (.ref 418) .none)),#[]⟩
def k420 (P:Params):Obj:=⟨(.type "tuple"),none,(.seq #[] 0),#[]⟩
def k422 (P:Params):Obj:=⟨(.type "tuple"),none,(.seq #[(.str "mark" 723),(.str "size" 724),(.str "width" 725),(.str "height" 726),(.str "tree" 727)] 0),#[]⟩
def k423 (P:Params):Obj:=⟨(.type "tuple"),none,(.seq #[] 0),#[]⟩
def k425 (P:Params):Obj:=⟨(.type "code"),none,(.fields #[(.str "cut_off" 720),(.str "cut_off" 721),(.str "/claim/cut.py" 722),(.int (172) 0),(.int (4) 0),(.int (0) 0),(.int (0) 0),(.int (3) 0),(.ref 420),(.bool true),(.int (181) 0),(.ref 421),.none,(.ref 422),(.ref 423),(.ref 424),(.int (728) 0),(.int (172) 0),(.str "/claim/cut.py" 729)]),#[]⟩
def k426 (P:Params):Obj:=⟨(.type "function"),none,(.func (fnOf "cut_off" "cut_off" (defArgs (top 46)) (defBody (top 46)) (defScope (top 46)) .none .none .none (.str "glazebench.stairs" 618) none (.ref 425) .none)),#[]⟩
def k427 (P:Params):Obj:=⟨(.type "tuple"),none,(.seq #[] 0),#[]⟩
def k429 (P:Params):Obj:=⟨(.type "tuple"),none,(.seq #[(.str "wants" 734),(.str "number" 735),(.str "width" 736),(.str "height" 737),(.str "held" 738)] 0),#[]⟩
def k430 (P:Params):Obj:=⟨(.type "tuple"),none,(.seq #[] 0),#[]⟩
def k432 (P:Params):Obj:=⟨(.type "code"),none,(.fields #[(.str "tree_alone" 731),(.str "tree_alone" 732),(.str "/claim/cut.py" 733),(.int (179) 0),(.int (4) 0),(.int (0) 0),(.int (0) 0),(.int (3) 0),(.ref 427),(.bool true),(.int (181) 0),(.ref 428),.none,(.ref 429),(.ref 430),(.ref 431),(.int (739) 0),(.int (179) 0),(.str "/claim/cut.py" 740)]),#[]⟩
def k433 (P:Params):Obj:=⟨(.type "function"),none,(.func (fnOf "tree_alone" "tree_alone" (defArgs (top 47)) (defBody (top 47)) (defScope (top 47)) .none .none .none (.str "glazebench.stairs" 618) none (.ref 432) .none)),#[]⟩
def k434 (P:Params):Obj:=⟨(.type "tuple"),none,(.seq #[] 0),#[]⟩
def k436 (P:Params):Obj:=⟨(.type "tuple"),none,(.seq #[(.str "wants" 745),(.str "heights" 746),(.str "bits" 747),(.str "width" 748),(.str "height" 749),(.str "cut" 750),(.str "word" 751),(.str "at" 752),(.str "part" 753),(.str "first" 754),(.str "other" 755)] 0),#[]⟩
def k437 (P:Params):Obj:=⟨(.type "tuple"),none,(.seq #[] 0),#[]⟩
def k439 (P:Params):Obj:=⟨(.type "code"),none,(.fields #[(.str "tree_for" 742),(.str "tree_for" 743),(.str "/claim/cut.py" 744),(.int (182) 0),(.int (5) 0),(.int (0) 0),(.int (0) 0),(.int (3) 0),(.ref 434),(.bool true),(.int (181) 0),(.ref 435),.none,(.ref 436),(.ref 437),(.ref 438),(.int (756) 0),(.int (182) 0),(.str "/claim/cut.py" 757)]),#[]⟩
def k440 (P:Params):Obj:=⟨(.type "function"),none,(.func (fnOf "tree_for" "tree_for" (defArgs (top 48)) (defBody (top 48)) (defScope (top 48)) .none .none .none (.str "glazebench.stairs" 618) none (.ref 439) .none)),#[]⟩
def k441 (P:Params):Obj:=⟨(.type "tuple"),none,(.seq #[] 0),#[]⟩
def k443 (P:Params):Obj:=⟨(.type "tuple"),none,(.seq #[(.str "wants" 762),(.str "bits" 763),(.str "width" 764),(.str "height" 765),(.str "heights" 766)] 0),#[]⟩
def k444 (P:Params):Obj:=⟨(.type "tuple"),none,(.seq #[] 0),#[]⟩
def k446 (P:Params):Obj:=⟨(.type "code"),none,(.fields #[(.str "stair_tree" 759),(.str "stair_tree" 760),(.str "/claim/cut.py" 761),(.int (196) 0),(.int (4) 0),(.int (0) 0),(.int (0) 0),(.int (3) 0),(.ref 441),(.bool true),(.int (181) 0),(.ref 442),.none,(.ref 443),(.ref 444),(.ref 445),(.int (767) 0),(.int (196) 0),(.str "/claim/cut.py" 768)]),#[]⟩
def k447 (P:Params):Obj:=⟨(.type "function"),none,(.func (fnOf "stair_tree" "stair_tree" (defArgs (top 49)) (defBody (top 49)) (defScope (top 49)) .none .none .none (.str "glazebench.stairs" 618) none (.ref 446) .none)),#[]⟩
def k448 (P:Params):Obj:=⟨(.type "tuple"),none,(.seq #[] 0),#[]⟩
def k450 (P:Params):Obj:=⟨(.type "tuple"),none,(.seq #[(.str "thing" 777)] 0),#[]⟩
def k451 (P:Params):Obj:=⟨(.type "tuple"),none,(.seq #[] 0),#[]⟩
def k453 (P:Params):Obj:=⟨(.type "code"),none,(.fields #[(.str "is_sheet" 774),(.str "is_sheet" 775),(.str "/claim/cut.py" 776),(.int (207) 0),(.int (1) 0),(.int (0) 0),(.int (0) 0),(.int (3) 0),(.ref 448),(.bool true),(.int (181) 0),(.ref 449),.none,(.ref 450),(.ref 451),(.ref 452),(.int (778) 0),(.int (207) 0),(.str "/claim/cut.py" 779)]),#[]⟩
def k454 (P:Params):Obj:=⟨(.type "function"),none,(.func (fnOf "is_sheet" "is_sheet" (defArgs (top 52)) (defBody (top 52)) (defScope (top 52)) .none .none .none (.str "glazebench.plans" 770) none (.ref 453) .none)),#[]⟩
def k455 (P:Params):Obj:=⟨(.type "tuple"),none,(.seq #[] 0),#[]⟩
def k457 (P:Params):Obj:=⟨(.type "tuple"),none,(.seq #[(.str "sheets" 784),(.str "place" 785),(.str "sheet" 786)] 0),#[]⟩
def k458 (P:Params):Obj:=⟨(.type "tuple"),none,(.seq #[] 0),#[]⟩
def k460 (P:Params):Obj:=⟨(.type "code"),none,(.fields #[(.str "check_sheets" 781),(.str "check_sheets" 782),(.str "/claim/cut.py" 783),(.int (211) 0),(.int (1) 0),(.int (0) 0),(.int (0) 0),(.int (3) 0),(.ref 455),(.bool true),(.int (181) 0),(.ref 456),.none,(.ref 457),(.ref 458),(.ref 459),(.int (787) 0),(.int (211) 0),(.str "/claim/cut.py" 788)]),#[]⟩
def k461 (P:Params):Obj:=⟨(.type "function"),none,(.func (fnOf "check_sheets" "check_sheets" (defArgs (top 53)) (defBody (top 53)) (defScope (top 53)) .none .none .none (.str "glazebench.plans" 770) none (.ref 460) .none)),#[]⟩
def k462 (P:Params):Obj:=⟨(.type "tuple"),none,(.seq #[] 0),#[]⟩
def k464 (P:Params):Obj:=⟨(.type "tuple"),none,(.seq #[(.str "wants" 793),(.str "sheets" 794)] 0),#[]⟩
def k465 (P:Params):Obj:=⟨(.type "tuple"),none,(.seq #[] 0),#[]⟩
def k467 (P:Params):Obj:=⟨(.type "code"),none,(.fields #[(.str "heights_for" 790),(.str "heights_for" 791),(.str "/claim/cut.py" 792),(.int (217) 0),(.int (2) 0),(.int (0) 0),(.int (0) 0),(.int (3) 0),(.ref 462),(.bool true),(.int (181) 0),(.ref 463),.none,(.ref 464),(.ref 465),(.ref 466),(.int (795) 0),(.int (217) 0),(.str "/claim/cut.py" 796)]),#[]⟩
def k468 (P:Params):Obj:=⟨(.type "function"),none,(.func (fnOf "heights_for" "heights_for" (defArgs (top 54)) (defBody (top 54)) (defScope (top 54)) .none .none .none (.str "glazebench.plans" 770) none (.ref 467) .none)),#[]⟩
def k469 (P:Params):Obj:=⟨(.type "tuple"),none,(.seq #[] 0),#[]⟩
def k472 (P:Params):Obj:=⟨(.type "code"),none,(.fields #[(.str "cheapest_sheets" 798),(.str "cheapest_sheets" 799),(.str "/claim/cut.py" 800),(.int (221) 0),(.int (2) 0),(.int (0) 0),(.int (0) 0),(.int (3) 0),(.ref 469),(.bool true),(.int (181) 0),(.ref 470),.none,.none,.none,(.ref 471),(.int (801) 0),(.int (221) 0),(.str "/claim/cut.py" 802)]),#[]⟩
def k473 (P:Params):Obj:=⟨(.type "function"),none,(.func (fnOf "cheapest_sheets" "cheapest_sheets" (defArgs (top 55)) (defBody (top 55)) (defScope (top 55)) .none .none .none (.str "glazebench.plans" 770) none (.ref 472) .none)),#[]⟩
def k474 (P:Params):Obj:=⟨(.type "tuple"),none,(.seq #[] 0),#[]⟩
def k477 (P:Params):Obj:=⟨(.type "code"),none,(.fields #[(.str "first_sheets" 804),(.str "first_sheets" 805),(.str "/claim/cut.py" 806),(.int (228) 0),(.int (3) 0),(.int (0) 0),(.int (0) 0),(.int (3) 0),(.ref 474),(.bool true),(.int (181) 0),(.ref 475),.none,.none,.none,(.ref 476),(.int (807) 0),(.int (228) 0),(.str "/claim/cut.py" 808)]),#[]⟩
def k478 (P:Params):Obj:=⟨(.type "function"),none,(.func (fnOf "first_sheets" "first_sheets" (defArgs (top 56)) (defBody (top 56)) (defScope (top 56)) .none .none .none (.str "glazebench.plans" 770) none (.ref 477) .none)),#[]⟩
def k479 (P:Params):Obj:=⟨(.type "tuple"),none,(.seq #[] 0),#[]⟩
def k481 (P:Params):Obj:=⟨(.type "tuple"),none,(.seq #[(.str "cheapest" 813),(.str "bits" 814),(.str "glass" 815),(.str "part" 816),(.str "ways" 817)] 0),#[]⟩
def k482 (P:Params):Obj:=⟨(.type "tuple"),none,(.seq #[] 0),#[]⟩
def k484 (P:Params):Obj:=⟨(.type "code"),none,(.fields #[(.str "glass_by_set" 810),(.str "glass_by_set" 811),(.str "/claim/cut.py" 812),(.int (231) 0),(.int (2) 0),(.int (0) 0),(.int (0) 0),(.int (3) 0),(.ref 479),(.bool true),(.int (181) 0),(.ref 480),.none,(.ref 481),(.ref 482),(.ref 483),(.int (818) 0),(.int (231) 0),(.str "/claim/cut.py" 819)]),#[]⟩
def k485 (P:Params):Obj:=⟨(.type "function"),none,(.func (fnOf "glass_by_set" "glass_by_set" (defArgs (top 57)) (defBody (top 57)) (defScope (top 57)) .none .none .none (.str "glazebench.plans" 770) none (.ref 484) .none)),#[]⟩
def k486 (P:Params):Obj:=⟨(.type "tuple"),none,(.seq #[] 0),#[]⟩
def k488 (P:Params):Obj:=⟨(.type "tuple"),none,(.seq #[(.str "wants" 824),(.str "sheets" 825),(.str "heights" 826)] 0),#[]⟩
def k489 (P:Params):Obj:=⟨(.type "tuple"),none,(.seq #[] 0),#[]⟩
def k491 (P:Params):Obj:=⟨(.type "code"),none,(.fields #[(.str "least_glass" 821),(.str "least_glass" 822),(.str "/claim/cut.py" 823),(.int (237) 0),(.int (2) 0),(.int (0) 0),(.int (0) 0),(.int (3) 0),(.ref 486),(.bool true),(.int (181) 0),(.ref 487),.none,(.ref 488),(.ref 489),(.ref 490),(.int (827) 0),(.int (237) 0),(.str "/claim/cut.py" 828)]),#[]⟩
def k492 (P:Params):Obj:=⟨(.type "function"),none,(.func (fnOf "least_glass" "least_glass" (defArgs (top 58)) (defBody (top 58)) (defScope (top 58)) .none .none .none (.str "glazebench.plans" 770) none (.ref 491) .none)),#[]⟩
def k493 (P:Params):Obj:=⟨(.type "tuple"),none,(.seq #[] 0),#[]⟩
def k495 (P:Params):Obj:=⟨(.type "tuple"),none,(.seq #[(.str "wants" 833),(.str "cheapest" 834),(.str "number" 835)] 0),#[]⟩
def k496 (P:Params):Obj:=⟨(.type "tuple"),none,(.seq #[] 0),#[]⟩
def k498 (P:Params):Obj:=⟨(.type "code"),none,(.fields #[(.str "check_served" 830),(.str "check_served" 831),(.str "/claim/cut.py" 832),(.int (240) 0),(.int (2) 0),(.int (0) 0),(.int (0) 0),(.int (3) 0),(.ref 493),(.bool true),(.int (181) 0),(.ref 494),.none,(.ref 495),(.ref 496),(.ref 497),(.int (836) 0),(.int (240) 0),(.str "/claim/cut.py" 837)]),#[]⟩
def k499 (P:Params):Obj:=⟨(.type "function"),none,(.func (fnOf "check_served" "check_served" (defArgs (top 59)) (defBody (top 59)) (defScope (top 59)) .none .none .none (.str "glazebench.plans" 770) none (.ref 498) .none)),#[]⟩
def k500 (P:Params):Obj:=⟨(.type "tuple"),none,(.seq #[] 0),#[]⟩
def k502 (P:Params):Obj:=⟨(.type "tuple"),none,(.seq #[(.str "wants" 842),(.str "sheets" 843),(.str "heights" 844),(.str "cheapest" 845),(.str "bits" 846),(.str "glass" 847),(.str "told" 848),(.str "part" 849),(.str "number" 850),(.str "size" 851)] 0),#[]⟩
def k503 (P:Params):Obj:=⟨(.type "tuple"),none,(.seq #[] 0),#[]⟩
def k505 (P:Params):Obj:=⟨(.type "code"),none,(.fields #[(.str "plan" 839),(.str "plan" 840),(.str "/claim/cut.py" 841),(.int (244) 0),(.int (2) 0),(.int (0) 0),(.int (0) 0),(.int (3) 0),(.ref 500),(.bool true),(.int (181) 0),(.ref 501),.none,(.ref 502),(.ref 503),(.ref 504),(.int (852) 0),(.int (244) 0),(.str "/claim/cut.py" 853)]),#[]⟩
def k506 (P:Params):Obj:=⟨(.type "function"),none,(.func (fnOf "plan" "plan" (defArgs (top 60)) (defBody (top 60)) (defScope (top 60)) .none .none .none (.str "glazebench.plans" 770) none (.ref 505) .none)),#[]⟩
def k507 (P:Params):Obj:=⟨(.type "tuple"),none,(.seq #[] 0),#[]⟩
def k509 (P:Params):Obj:=⟨(.type "tuple"),none,(.seq #[(.str "_law_script" 860),(.str "_law_k" 861),(.str "_law_cell" 862)] 0),#[]⟩
def k510 (P:Params):Obj:=⟨(.type "tuple"),none,(.seq #[] 0),#[]⟩
def k512 (P:Params):Obj:=⟨(.type "code"),none,(.fields #[(.str "_law_at" 857),(.str "_law_at" 858),(.str "/claim/cut.py" 859),(.int (259) 0),(.int (2) 0),(.int (0) 0),(.int (0) 0),(.int (3) 0),(.ref 507),(.bool true),(.int (181) 0),(.ref 508),.none,(.ref 509),(.ref 510),(.ref 511),(.int (863) 0),(.int (259) 0),(.str "/claim/cut.py" 864)]),#[]⟩
def k513 (P:Params):Obj:=⟨(.type "function"),none,(.func (fnOf "_law_at" "_law_at" (defArgs (top 62)) (defBody (top 62)) (defScope (top 62)) .none .none .none (.str "law_glazebench_k66_orders_refused" 855) none (.ref 512) .none)),#[]⟩
def k514 (P:Params):Obj:=⟨(.type "tuple"),none,(.seq #[] 0),#[]⟩
def k516 (P:Params):Obj:=⟨(.type "tuple"),none,(.seq #[(.str "_law_number" 869),(.str "_law_by" 870),(.str "_law_digits" 871),(.str "_law_k" 872),(.str "_law_found" 873)] 0),#[]⟩
def k517 (P:Params):Obj:=⟨(.type "tuple"),none,(.seq #[] 0),#[]⟩
def k519 (P:Params):Obj:=⟨(.type "code"),none,(.fields #[(.str "_law_knead" 866),(.str "_law_knead" 867),(.str "/claim/cut.py" 868),(.int (266) 0),(.int (2) 0),(.int (0) 0),(.int (0) 0),(.int (3) 0),(.ref 514),(.bool true),(.int (181) 0),(.ref 515),.none,(.ref 516),(.ref 517),(.ref 518),(.int (874) 0),(.int (266) 0),(.str "/claim/cut.py" 875)]),#[]⟩
def k520 (P:Params):Obj:=⟨(.type "function"),none,(.func (fnOf "_law_knead" "_law_knead" (defArgs (top 63)) (defBody (top 63)) (defScope (top 63)) .none .none .none (.str "law_glazebench_k66_orders_refused" 855) none (.ref 519) .none)),#[]⟩
def k521 (P:Params):Obj:=⟨(.type "tuple"),none,(.seq #[] 0),#[]⟩
def k523 (P:Params):Obj:=⟨(.type "tuple"),none,(.seq #[(.str "_law_number" 880),(.str "_law_some" 881)] 0),#[]⟩
def k524 (P:Params):Obj:=⟨(.type "tuple"),none,(.seq #[] 0),#[]⟩
def k526 (P:Params):Obj:=⟨(.type "code"),none,(.fields #[(.str "_law_bad_want" 877),(.str "_law_bad_want" 878),(.str "/claim/cut.py" 879),(.int (280) 0),(.int (1) 0),(.int (0) 0),(.int (0) 0),(.int (3) 0),(.ref 521),(.bool true),(.int (181) 0),(.ref 522),.none,(.ref 523),(.ref 524),(.ref 525),(.int (882) 0),(.int (280) 0),(.str "/claim/cut.py" 883)]),#[]⟩
def k527 (P:Params):Obj:=⟨(.type "function"),none,(.func (fnOf "_law_bad_want" "_law_bad_want" (defArgs (top 64)) (defBody (top 64)) (defScope (top 64)) .none .none .none (.str "law_glazebench_k66_orders_refused" 855) none (.ref 526) .none)),#[]⟩
def k528 (P:Params):Obj:=⟨(.type "tuple"),none,(.seq #[] 0),#[]⟩
def k530 (P:Params):Obj:=⟨(.type "tuple"),none,(.seq #[(.str "_law_number" 888)] 0),#[]⟩
def k531 (P:Params):Obj:=⟨(.type "tuple"),none,(.seq #[] 0),#[]⟩
def k533 (P:Params):Obj:=⟨(.type "code"),none,(.fields #[(.str "_law_bad_sheet" 885),(.str "_law_bad_sheet" 886),(.str "/claim/cut.py" 887),(.int (285) 0),(.int (1) 0),(.int (0) 0),(.int (0) 0),(.int (3) 0),(.ref 528),(.bool true),(.int (181) 0),(.ref 529),.none,(.ref 530),(.ref 531),(.ref 532),(.int (889) 0),(.int (285) 0),(.str "/claim/cut.py" 890)]),#[]⟩
def k534 (P:Params):Obj:=⟨(.type "function"),none,(.func (fnOf "_law_bad_sheet" "_law_bad_sheet" (defArgs (top 65)) (defBody (top 65)) (defScope (top 65)) .none .none .none (.str "law_glazebench_k66_orders_refused" 855) none (.ref 533) .none)),#[]⟩
def k535 (P:Params):Obj:=⟨(.type "tuple"),none,(.seq #[] 0),#[]⟩
def k537 (P:Params):Obj:=⟨(.type "tuple"),none,(.seq #[(.str "_law_which" 895),(.str "_law_wants" 896),(.str "_law_bits" 897),(.str "_law_sides" 898),(.str "_law_sheets" 899),(.str "_law_caught_here" 900),(.str "e" 901)] 0),#[]⟩
def k538 (P:Params):Obj:=⟨(.type "tuple"),none,(.seq #[] 0),#[]⟩
def k540 (P:Params):Obj:=⟨(.type "code"),none,(.fields #[(.str "_law_caught" 892),(.str "_law_caught" 893),(.str "/claim/cut.py" 894),(.int (287) 0),(.int (5) 0),(.int (0) 0),(.int (0) 0),(.int (3) 0),(.ref 535),(.bool true),(.int (181) 0),(.ref 536),.none,(.ref 537),(.ref 538),(.ref 539),(.int (902) 0),(.int (287) 0),(.str "/claim/cut.py" 903)]),#[]⟩
def k541 (P:Params):Obj:=⟨(.type "function"),none,(.func (fnOf "_law_caught" "_law_caught" (defArgs (top 66)) (defBody (top 66)) (defScope (top 66)) .none .none .none (.str "law_glazebench_k66_orders_refused" 855) none (.ref 540) .none)),#[]⟩
def k542 (P:Params):Obj:=⟨(.type "tuple"),none,(.seq #[] 0),#[]⟩
def k544 (P:Params):Obj:=⟨(.type "tuple"),none,(.seq #[(.str "_law_caught_here" 908),(.str "_law_flags" 909)] 0),#[]⟩
def k545 (P:Params):Obj:=⟨(.type "tuple"),none,(.seq #[] 0),#[]⟩
def k547 (P:Params):Obj:=⟨(.type "code"),none,(.fields #[(.str "_law_told" 905),(.str "_law_told" 906),(.str "/claim/cut.py" 907),(.int (301) 0),(.int (1) 0),(.int (0) 0),(.int (0) 0),(.int (3) 0),(.ref 542),(.bool true),(.int (181) 0),(.ref 543),.none,(.ref 544),(.ref 545),(.ref 546),(.int (910) 0),(.int (301) 0),(.str "/claim/cut.py" 911)]),#[]⟩
def k548 (P:Params):Obj:=⟨(.type "function"),none,(.func (fnOf "_law_told" "_law_told" (defArgs (top 67)) (defBody (top 67)) (defScope (top 67)) .none .none .none (.str "law_glazebench_k66_orders_refused" 855) none (.ref 547) .none)),#[]⟩
def k549 (P:Params):Obj:=⟨(.type "tuple"),none,(.seq #[] 0),#[]⟩
def k552 (P:Params):Obj:=⟨(.type "code"),none,(.fields #[(.str "_law_first" 913),(.str "_law_first" 914),(.str "/claim/cut.py" 915),(.int (317) 0),(.int (2) 0),(.int (0) 0),(.int (0) 0),(.int (3) 0),(.ref 549),(.bool true),(.int (181) 0),(.ref 550),.none,.none,.none,(.ref 551),(.int (916) 0),(.int (317) 0),(.str "/claim/cut.py" 917)]),#[]⟩
def k553 (P:Params):Obj:=⟨(.type "function"),none,(.func (fnOf "_law_first" "_law_first" (defArgs (top 68)) (defBody (top 68)) (defScope (top 68)) .none .none .none (.str "law_glazebench_k66_orders_refused" 855) none (.ref 552) .none)),#[]⟩
def k554 (P:Params):Obj:=⟨(.type "tuple"),none,(.seq #[] 0),#[]⟩
def k556 (P:Params):Obj:=⟨(.type "tuple"),none,(.seq #[(.str "_law_which" 922),(.str "_law_wants" 923),(.str "_law_bad" 924),(.str "_law_bits" 925),(.str "_law_sides" 926),(.str "_law_sheets" 927),(.str "_law_odd" 928),(.str "_law_side" 929)] 0),#[]⟩
def k557 (P:Params):Obj:=⟨(.type "tuple"),none,(.seq #[] 0),#[]⟩
def k559 (P:Params):Obj:=⟨(.type "code"),none,(.fields #[(.str "_law_due" 919),(.str "_law_due" 920),(.str "/claim/cut.py" 921),(.int (320) 0),(.int (7) 0),(.int (0) 0),(.int (0) 0),(.int (3) 0),(.ref 554),(.bool true),(.int (181) 0),(.ref 555),.none,(.ref 556),(.ref 557),(.ref 558),(.int (930) 0),(.int (320) 0),(.str "/claim/cut.py" 931)]),#[]⟩
def k560 (P:Params):Obj:=⟨(.type "function"),none,(.func (fnOf "_law_due" "_law_due" (defArgs (top 69)) (defBody (top 69)) (defScope (top 69)) .none .none .none (.str "law_glazebench_k66_orders_refused" 855) none (.ref 559) .none)),#[]⟩
def k561 (P:Params):Obj:=⟨(.type "tuple"),none,(.seq #[] 0),#[]⟩
def k563 (P:Params):Obj:=⟨(.type "tuple"),none,(.seq #[(.str "_law_cell" 936),(.str "_law_by" 937),(.str "_law_many" 938),(.str "_law_first_here" 939),(.str "_law_second" 940),(.str "_law_bad_one" 941),(.str "_law_number" 942),(.str "_law_things_here" 943),(.str "_law_k" 944),(.str "_law_size" 945),(.str "_law_bad" 946),(.str "_law_at_here" 947)] 0),#[]⟩
def k564 (P:Params):Obj:=⟨(.type "tuple"),none,(.seq #[] 0),#[]⟩
def k566 (P:Params):Obj:=⟨(.type "code"),none,(.fields #[(.str "_law_things" 933),(.str "_law_things" 934),(.str "/claim/cut.py" 935),(.int (339) 0),(.int (6) 0),(.int (0) 0),(.int (0) 0),(.int (3) 0),(.ref 561),(.bool true),(.int (181) 0),(.ref 562),.none,(.ref 563),(.ref 564),(.ref 565),(.int (948) 0),(.int (339) 0),(.str "/claim/cut.py" 949)]),#[]⟩
def k567 (P:Params):Obj:=⟨(.type "function"),none,(.func (fnOf "_law_things" "_law_things" (defArgs (top 70)) (defBody (top 70)) (defScope (top 70)) .none .none .none (.str "law_glazebench_k66_orders_refused" 855) none (.ref 566) .none)),#[]⟩
def k568 (P:Params):Obj:=⟨(.type "tuple"),none,(.seq #[] 0),#[]⟩
def k571 (P:Params):Obj:=⟨(.type "code"),none,(.fields #[(.str "law" 951),(.str "law" 952),(.str "/claim/cut.py" 953),(.int (352) 0),(.int (1) 0),(.int (0) 0),(.int (0) 0),(.int (3) 0),(.ref 568),(.bool true),(.int (181) 0),(.ref 569),.none,.none,.none,(.ref 570),(.int (954) 0),(.int (352) 0),(.str "/claim/cut.py" 955)]),#[]⟩
def k572 (P:Params):Obj:=⟨(.type "function"),none,(.func (fnOf "law" "law" (defArgs (top 71)) (defBody (top 71)) (defScope (top 71)) .none .none .none (.str "law_glazebench_k66_orders_refused" 855) none (.ref 571) .none)),#[]⟩
def KK:Params→Frag:=fun P=>(nat_lit 2,k2 P) :: (nat_lit 3,k3 P) :: (nat_lit 15,k15 P) :: (nat_lit 17,k17 P) :: (nat_lit 18,k18 P) :: (nat_lit 20,k20 P) :: (nat_lit 21,k21 P) :: (nat_lit 22,k22 P) :: (nat_lit 29,k29 P) :: (nat_lit 30,k30 P) :: (nat_lit 31,k31 P) :: (nat_lit 32,k32 P) :: (nat_lit 35,k35 P) :: (nat_lit 42,k42 P) :: (nat_lit 44,k44 P) :: (nat_lit 45,k45 P) :: (nat_lit 47,k47 P) :: (nat_lit 48,k48 P) :: (nat_lit 49,k49 P) :: (nat_lit 50,k50 P) :: (nat_lit 51,k51 P) :: (nat_lit 54,k54 P) :: (nat_lit 61,k61 P) :: (nat_lit 63,k63 P) :: (nat_lit 64,k64 P) :: (nat_lit 66,k66 P) :: (nat_lit 67,k67 P) :: (nat_lit 68,k68 P) :: (nat_lit 69,k69 P) :: (nat_lit 70,k70 P) :: (nat_lit 73,k73 P) :: (nat_lit 80,k80 P) :: (nat_lit 82,k82 P) :: (nat_lit 83,k83 P) :: (nat_lit 85,k85 P) :: (nat_lit 86,k86 P) :: (nat_lit 87,k87 P) :: (nat_lit 88,k88 P) :: (nat_lit 89,k89 P) :: (nat_lit 92,k92 P) :: (nat_lit 99,k99 P) :: (nat_lit 101,k101 P) :: (nat_lit 102,k102 P) :: (nat_lit 104,k104 P) :: (nat_lit 105,k105 P) :: (nat_lit 106,k106 P) :: (nat_lit 107,k107 P) :: (nat_lit 108,k108 P) :: (nat_lit 111,k111 P) :: (nat_lit 118,k118 P) :: (nat_lit 120,k120 P) :: (nat_lit 121,k121 P) :: (nat_lit 123,k123 P) :: (nat_lit 124,k124 P) :: (nat_lit 125,k125 P) :: (nat_lit 126,k126 P) :: (nat_lit 127,k127 P) :: (nat_lit 130,k130 P) :: (nat_lit 137,k137 P) :: (nat_lit 139,k139 P) :: (nat_lit 140,k140 P) :: (nat_lit 142,k142 P) :: (nat_lit 143,k143 P) :: (nat_lit 144,k144 P) :: (nat_lit 145,k145 P) :: (nat_lit 146,k146 P) :: (nat_lit 149,k149 P) :: (nat_lit 156,k156 P) :: (nat_lit 158,k158 P) :: (nat_lit 159,k159 P) :: (nat_lit 161,k161 P) :: (nat_lit 162,k162 P) :: (nat_lit 163,k163 P) :: (nat_lit 164,k164 P) :: (nat_lit 165,k165 P) :: (nat_lit 168,k168 P) :: (nat_lit 170,k170 P) :: (nat_lit 171,k171 P) :: (nat_lit 173,k173 P) :: (nat_lit 174,k174 P) :: (nat_lit 175,k175 P) :: (nat_lit 177,k177 P) :: (nat_lit 178,k178 P) :: (nat_lit 180,k180 P) :: (nat_lit 181,k181 P) :: (nat_lit 182,k182 P) :: (nat_lit 184,k184 P) :: (nat_lit 185,k185 P) :: (nat_lit 187,k187 P) :: (nat_lit 188,k188 P) :: (nat_lit 196,k196 P) :: (nat_lit 198,k198 P) :: (nat_lit 199,k199 P) :: (nat_lit 201,k201 P) :: (nat_lit 202,k202 P) :: (nat_lit 203,k203 P) :: (nat_lit 205,k205 P) :: (nat_lit 206,k206 P) :: (nat_lit 208,k208 P) :: (nat_lit 209,k209 P) :: (nat_lit 210,k210 P) :: (nat_lit 213,k213 P) :: (nat_lit 214,k214 P) :: (nat_lit 215,k215 P) :: (nat_lit 217,k217 P) :: (nat_lit 218,k218 P) :: (nat_lit 220,k220 P) :: (nat_lit 221,k221 P) :: (nat_lit 222,k222 P) :: (nat_lit 224,k224 P) :: (nat_lit 225,k225 P) :: (nat_lit 227,k227 P) :: (nat_lit 228,k228 P) :: (nat_lit 229,k229 P) :: (nat_lit 230,k230 P) :: (nat_lit 231,k231 P) :: (nat_lit 232,k232 P) :: (nat_lit 233,k233 P) :: (nat_lit 236,k236 P) :: (nat_lit 243,k243 P) :: (nat_lit 244,k244 P) :: (nat_lit 246,k246 P) :: (nat_lit 247,k247 P) :: (nat_lit 249,k249 P) :: (nat_lit 250,k250 P) :: (nat_lit 251,k251 P) :: (nat_lit 252,k252 P) :: (nat_lit 253,k253 P) :: (nat_lit 256,k256 P) :: (nat_lit 263,k263 P) :: (nat_lit 265,k265 P) :: (nat_lit 266,k266 P) :: (nat_lit 268,k268 P) :: (nat_lit 269,k269 P) :: (nat_lit 270,k270 P) :: (nat_lit 271,k271 P) :: (nat_lit 272,k272 P) :: (nat_lit 275,k275 P) :: (nat_lit 282,k282 P) :: (nat_lit 284,k284 P) :: (nat_lit 285,k285 P) :: (nat_lit 287,k287 P) :: (nat_lit 288,k288 P) :: (nat_lit 289,k289 P) :: (nat_lit 290,k290 P) :: (nat_lit 291,k291 P) :: (nat_lit 294,k294 P) :: (nat_lit 296,k296 P) :: (nat_lit 297,k297 P) :: (nat_lit 299,k299 P) :: (nat_lit 300,k300 P) :: (nat_lit 301,k301 P) :: (nat_lit 303,k303 P) :: (nat_lit 304,k304 P) :: (nat_lit 306,k306 P) :: (nat_lit 307,k307 P) :: (nat_lit 308,k308 P) :: (nat_lit 310,k310 P) :: (nat_lit 311,k311 P) :: (nat_lit 313,k313 P) :: (nat_lit 314,k314 P) :: (nat_lit 315,k315 P) :: (nat_lit 317,k317 P) :: (nat_lit 318,k318 P) :: (nat_lit 320,k320 P) :: (nat_lit 321,k321 P) :: (nat_lit 322,k322 P) :: (nat_lit 324,k324 P) :: (nat_lit 325,k325 P) :: (nat_lit 327,k327 P) :: (nat_lit 328,k328 P) :: (nat_lit 329,k329 P) :: (nat_lit 331,k331 P) :: (nat_lit 332,k332 P) :: (nat_lit 334,k334 P) :: (nat_lit 335,k335 P) :: (nat_lit 336,k336 P) :: (nat_lit 338,k338 P) :: (nat_lit 339,k339 P) :: (nat_lit 341,k341 P) :: (nat_lit 342,k342 P) :: (nat_lit 343,k343 P) :: (nat_lit 345,k345 P) :: (nat_lit 346,k346 P) :: (nat_lit 348,k348 P) :: (nat_lit 349,k349 P) :: (nat_lit 350,k350 P) :: (nat_lit 352,k352 P) :: (nat_lit 353,k353 P) :: (nat_lit 355,k355 P) :: (nat_lit 356,k356 P) :: (nat_lit 357,k357 P) :: (nat_lit 360,k360 P) :: (nat_lit 361,k361 P) :: (nat_lit 362,k362 P) :: (nat_lit 364,k364 P) :: (nat_lit 365,k365 P) :: (nat_lit 367,k367 P) :: (nat_lit 368,k368 P) :: (nat_lit 369,k369 P) :: (nat_lit 371,k371 P) :: (nat_lit 372,k372 P) :: (nat_lit 374,k374 P) :: (nat_lit 375,k375 P) :: (nat_lit 376,k376 P) :: (nat_lit 379,k379 P) :: (nat_lit 380,k380 P) :: (nat_lit 381,k381 P) :: (nat_lit 384,k384 P) :: (nat_lit 385,k385 P) :: (nat_lit 386,k386 P) :: (nat_lit 389,k389 P) :: (nat_lit 390,k390 P) :: (nat_lit 391,k391 P) :: (nat_lit 394,k394 P) :: (nat_lit 395,k395 P) :: (nat_lit 396,k396 P) :: (nat_lit 399,k399 P) :: (nat_lit 400,k400 P) :: (nat_lit 401,k401 P) :: (nat_lit 404,k404 P) :: (nat_lit 405,k405 P) :: (nat_lit 406,k406 P) :: (nat_lit 408,k408 P) :: (nat_lit 409,k409 P) :: (nat_lit 411,k411 P) :: (nat_lit 412,k412 P) :: (nat_lit 413,k413 P) :: (nat_lit 415,k415 P) :: (nat_lit 416,k416 P) :: (nat_lit 418,k418 P) :: (nat_lit 419,k419 P) :: (nat_lit 420,k420 P) :: (nat_lit 422,k422 P) :: (nat_lit 423,k423 P) :: (nat_lit 425,k425 P) :: (nat_lit 426,k426 P) :: (nat_lit 427,k427 P) :: (nat_lit 429,k429 P) :: (nat_lit 430,k430 P) :: (nat_lit 432,k432 P) :: (nat_lit 433,k433 P) :: (nat_lit 434,k434 P) :: (nat_lit 436,k436 P) :: (nat_lit 437,k437 P) :: (nat_lit 439,k439 P) :: (nat_lit 440,k440 P) :: (nat_lit 441,k441 P) :: (nat_lit 443,k443 P) :: (nat_lit 444,k444 P) :: (nat_lit 446,k446 P) :: (nat_lit 447,k447 P) :: (nat_lit 448,k448 P) :: (nat_lit 450,k450 P) :: (nat_lit 451,k451 P) :: (nat_lit 453,k453 P) :: (nat_lit 454,k454 P) :: (nat_lit 455,k455 P) :: (nat_lit 457,k457 P) :: (nat_lit 458,k458 P) :: (nat_lit 460,k460 P) :: (nat_lit 461,k461 P) :: (nat_lit 462,k462 P) :: (nat_lit 464,k464 P) :: (nat_lit 465,k465 P) :: (nat_lit 467,k467 P) :: (nat_lit 468,k468 P) :: (nat_lit 469,k469 P) :: (nat_lit 472,k472 P) :: (nat_lit 473,k473 P) :: (nat_lit 474,k474 P) :: (nat_lit 477,k477 P) :: (nat_lit 478,k478 P) :: (nat_lit 479,k479 P) :: (nat_lit 481,k481 P) :: (nat_lit 482,k482 P) :: (nat_lit 484,k484 P) :: (nat_lit 485,k485 P) :: (nat_lit 486,k486 P) :: (nat_lit 488,k488 P) :: (nat_lit 489,k489 P) :: (nat_lit 491,k491 P) :: (nat_lit 492,k492 P) :: (nat_lit 493,k493 P) :: (nat_lit 495,k495 P) :: (nat_lit 496,k496 P) :: (nat_lit 498,k498 P) :: (nat_lit 499,k499 P) :: (nat_lit 500,k500 P) :: (nat_lit 502,k502 P) :: (nat_lit 503,k503 P) :: (nat_lit 505,k505 P) :: (nat_lit 506,k506 P) :: (nat_lit 507,k507 P) :: (nat_lit 509,k509 P) :: (nat_lit 510,k510 P) :: (nat_lit 512,k512 P) :: (nat_lit 513,k513 P) :: (nat_lit 514,k514 P) :: (nat_lit 516,k516 P) :: (nat_lit 517,k517 P) :: (nat_lit 519,k519 P) :: (nat_lit 520,k520 P) :: (nat_lit 521,k521 P) :: (nat_lit 523,k523 P) :: (nat_lit 524,k524 P) :: (nat_lit 526,k526 P) :: (nat_lit 527,k527 P) :: (nat_lit 528,k528 P) :: (nat_lit 530,k530 P) :: (nat_lit 531,k531 P) :: (nat_lit 533,k533 P) :: (nat_lit 534,k534 P) :: (nat_lit 535,k535 P) :: (nat_lit 537,k537 P) :: (nat_lit 538,k538 P) :: (nat_lit 540,k540 P) :: (nat_lit 541,k541 P) :: (nat_lit 542,k542 P) :: (nat_lit 544,k544 P) :: (nat_lit 545,k545 P) :: (nat_lit 547,k547 P) :: (nat_lit 548,k548 P) :: (nat_lit 549,k549 P) :: (nat_lit 552,k552 P) :: (nat_lit 553,k553 P) :: (nat_lit 554,k554 P) :: (nat_lit 556,k556 P) :: (nat_lit 557,k557 P) :: (nat_lit 559,k559 P) :: (nat_lit 560,k560 P) :: (nat_lit 561,k561 P) :: (nat_lit 563,k563 P) :: (nat_lit 564,k564 P) :: (nat_lit 566,k566 P) :: (nat_lit 567,k567 P) :: (nat_lit 568,k568 P) :: (nat_lit 571,k571 P) :: (nat_lit 572,k572 P) :: []
def kas:List Addr:=nat_lit 2 :: nat_lit 3 :: nat_lit 15 :: nat_lit 17 :: nat_lit 18 :: nat_lit 20 :: nat_lit 21 :: nat_lit 22 :: nat_lit 29 :: nat_lit 30 :: nat_lit 31 :: nat_lit 32 :: nat_lit 35 :: nat_lit 42 :: nat_lit 44 :: nat_lit 45 :: nat_lit 47 :: nat_lit 48 :: nat_lit 49 :: nat_lit 50 :: nat_lit 51 :: nat_lit 54 :: nat_lit 61 :: nat_lit 63 :: nat_lit 64 :: nat_lit 66 :: nat_lit 67 :: nat_lit 68 :: nat_lit 69 :: nat_lit 70 :: nat_lit 73 :: nat_lit 80 :: nat_lit 82 :: nat_lit 83 :: nat_lit 85 :: nat_lit 86 :: nat_lit 87 :: nat_lit 88 :: nat_lit 89 :: nat_lit 92 :: nat_lit 99 :: nat_lit 101 :: nat_lit 102 :: nat_lit 104 :: nat_lit 105 :: nat_lit 106 :: nat_lit 107 :: nat_lit 108 :: nat_lit 111 :: nat_lit 118 :: nat_lit 120 :: nat_lit 121 :: nat_lit 123 :: nat_lit 124 :: nat_lit 125 :: nat_lit 126 :: nat_lit 127 :: nat_lit 130 :: nat_lit 137 :: nat_lit 139 :: nat_lit 140 :: nat_lit 142 :: nat_lit 143 :: nat_lit 144 :: nat_lit 145 :: nat_lit 146 :: nat_lit 149 :: nat_lit 156 :: nat_lit 158 :: nat_lit 159 :: nat_lit 161 :: nat_lit 162 :: nat_lit 163 :: nat_lit 164 :: nat_lit 165 :: nat_lit 168 :: nat_lit 170 :: nat_lit 171 :: nat_lit 173 :: nat_lit 174 :: nat_lit 175 :: nat_lit 177 :: nat_lit 178 :: nat_lit 180 :: nat_lit 181 :: nat_lit 182 :: nat_lit 184 :: nat_lit 185 :: nat_lit 187 :: nat_lit 188 :: nat_lit 196 :: nat_lit 198 :: nat_lit 199 :: nat_lit 201 :: nat_lit 202 :: nat_lit 203 :: nat_lit 205 :: nat_lit 206 :: nat_lit 208 :: nat_lit 209 :: nat_lit 210 :: nat_lit 213 :: nat_lit 214 :: nat_lit 215 :: nat_lit 217 :: nat_lit 218 :: nat_lit 220 :: nat_lit 221 :: nat_lit 222 :: nat_lit 224 :: nat_lit 225 :: nat_lit 227 :: nat_lit 228 :: nat_lit 229 :: nat_lit 230 :: nat_lit 231 :: nat_lit 232 :: nat_lit 233 :: nat_lit 236 :: nat_lit 243 :: nat_lit 244 :: nat_lit 246 :: nat_lit 247 :: nat_lit 249 :: nat_lit 250 :: nat_lit 251 :: nat_lit 252 :: nat_lit 253 :: nat_lit 256 :: nat_lit 263 :: nat_lit 265 :: nat_lit 266 :: nat_lit 268 :: nat_lit 269 :: nat_lit 270 :: nat_lit 271 :: nat_lit 272 :: nat_lit 275 :: nat_lit 282 :: nat_lit 284 :: nat_lit 285 :: nat_lit 287 :: nat_lit 288 :: nat_lit 289 :: nat_lit 290 :: nat_lit 291 :: nat_lit 294 :: nat_lit 296 :: nat_lit 297 :: nat_lit 299 :: nat_lit 300 :: nat_lit 301 :: nat_lit 303 :: nat_lit 304 :: nat_lit 306 :: nat_lit 307 :: nat_lit 308 :: nat_lit 310 :: nat_lit 311 :: nat_lit 313 :: nat_lit 314 :: nat_lit 315 :: nat_lit 317 :: nat_lit 318 :: nat_lit 320 :: nat_lit 321 :: nat_lit 322 :: nat_lit 324 :: nat_lit 325 :: nat_lit 327 :: nat_lit 328 :: nat_lit 329 :: nat_lit 331 :: nat_lit 332 :: nat_lit 334 :: nat_lit 335 :: nat_lit 336 :: nat_lit 338 :: nat_lit 339 :: nat_lit 341 :: nat_lit 342 :: nat_lit 343 :: nat_lit 345 :: nat_lit 346 :: nat_lit 348 :: nat_lit 349 :: nat_lit 350 :: nat_lit 352 :: nat_lit 353 :: nat_lit 355 :: nat_lit 356 :: nat_lit 357 :: nat_lit 360 :: nat_lit 361 :: nat_lit 362 :: nat_lit 364 :: nat_lit 365 :: nat_lit 367 :: nat_lit 368 :: nat_lit 369 :: nat_lit 371 :: nat_lit 372 :: nat_lit 374 :: nat_lit 375 :: nat_lit 376 :: nat_lit 379 :: nat_lit 380 :: nat_lit 381 :: nat_lit 384 :: nat_lit 385 :: nat_lit 386 :: nat_lit 389 :: nat_lit 390 :: nat_lit 391 :: nat_lit 394 :: nat_lit 395 :: nat_lit 396 :: nat_lit 399 :: nat_lit 400 :: nat_lit 401 :: nat_lit 404 :: nat_lit 405 :: nat_lit 406 :: nat_lit 408 :: nat_lit 409 :: nat_lit 411 :: nat_lit 412 :: nat_lit 413 :: nat_lit 415 :: nat_lit 416 :: nat_lit 418 :: nat_lit 419 :: nat_lit 420 :: nat_lit 422 :: nat_lit 423 :: nat_lit 425 :: nat_lit 426 :: nat_lit 427 :: nat_lit 429 :: nat_lit 430 :: nat_lit 432 :: nat_lit 433 :: nat_lit 434 :: nat_lit 436 :: nat_lit 437 :: nat_lit 439 :: nat_lit 440 :: nat_lit 441 :: nat_lit 443 :: nat_lit 444 :: nat_lit 446 :: nat_lit 447 :: nat_lit 448 :: nat_lit 450 :: nat_lit 451 :: nat_lit 453 :: nat_lit 454 :: nat_lit 455 :: nat_lit 457 :: nat_lit 458 :: nat_lit 460 :: nat_lit 461 :: nat_lit 462 :: nat_lit 464 :: nat_lit 465 :: nat_lit 467 :: nat_lit 468 :: nat_lit 469 :: nat_lit 472 :: nat_lit 473 :: nat_lit 474 :: nat_lit 477 :: nat_lit 478 :: nat_lit 479 :: nat_lit 481 :: nat_lit 482 :: nat_lit 484 :: nat_lit 485 :: nat_lit 486 :: nat_lit 488 :: nat_lit 489 :: nat_lit 491 :: nat_lit 492 :: nat_lit 493 :: nat_lit 495 :: nat_lit 496 :: nat_lit 498 :: nat_lit 499 :: nat_lit 500 :: nat_lit 502 :: nat_lit 503 :: nat_lit 505 :: nat_lit 506 :: nat_lit 507 :: nat_lit 509 :: nat_lit 510 :: nat_lit 512 :: nat_lit 513 :: nat_lit 514 :: nat_lit 516 :: nat_lit 517 :: nat_lit 519 :: nat_lit 520 :: nat_lit 521 :: nat_lit 523 :: nat_lit 524 :: nat_lit 526 :: nat_lit 527 :: nat_lit 528 :: nat_lit 530 :: nat_lit 531 :: nat_lit 533 :: nat_lit 534 :: nat_lit 535 :: nat_lit 537 :: nat_lit 538 :: nat_lit 540 :: nat_lit 541 :: nat_lit 542 :: nat_lit 544 :: nat_lit 545 :: nat_lit 547 :: nat_lit 548 :: nat_lit 549 :: nat_lit 552 :: nat_lit 553 :: nat_lit 554 :: nat_lit 556 :: nat_lit 557 :: nat_lit 559 :: nat_lit 560 :: nat_lit 561 :: nat_lit 563 :: nat_lit 564 :: nat_lit 566 :: nat_lit 567 :: nat_lit 568 :: nat_lit 571 :: nat_lit 572 :: []
def keeps:List Nat:=0 :: 2 :: 3 :: 4 :: 5 :: 6 :: 7 :: 8 :: 9 :: 11 :: 12 :: 13 :: 14 :: 16 :: 17 :: 18 :: 19 :: 20 :: 21 :: 22 :: 23 :: 24 :: 25 :: 26 :: 27 :: 28 :: 30 :: 31 :: 32 :: 33 :: 34 :: 35 :: 36 :: 37 :: 38 :: 39 :: 40 :: 41 :: 42 :: 43 :: 44 :: 45 :: 46 :: 47 :: 48 :: 49 :: 51 :: 52 :: 53 :: 54 :: 55 :: 56 :: 57 :: 58 :: 59 :: 60 :: 62 :: 63 :: 64 :: 65 :: 66 :: 67 :: 68 :: 69 :: 70 :: 71 :: []
def lo:List Str:=["Whole"]
theorem prep (h:PySem.Challenge.rw_glazebench_k66_orders_refused.row.wellSaid=true→PySem.Challenge.rw_glazebench_k66_orders_refused.row.Holds):PySem.Challenge.rw_glazebench_k66_orders_refused.Holds:=by
 w_on
 o_law
 exact h (by assumption)
def qv (p:Program):Program:=view p keeps
def Xp (p:Program) (s:Shared):Bool:=xlAt (qv p) [] s && recOk (RowW.records (OpenRow.toRowW PySem.Challenge.rw_glazebench_k66_orders_refused.row)) s
theorem kas_is (P:Params):kas=(KK P).map (fun x=>x.1):=by kernel_rfl
theorem op_is:opening PySem.Challenge.pw_glazebench_k66_orders_refused=plainProg PySem.Challenge.pw_glazebench_k66_orders_refused.main.scope.names:=by kernel_rfl
theorem fence_is (s:Shared):fenceModules? PySem.Challenge.pw_glazebench_k66_orders_refused s=some s:=by kernel_rfl
theorem boot_is (w:World):((boot_heap w.params).isNs mainGlobals,(boot_heap w.params).objs.size,(boot_heap w.params).nsMap mainGlobals "__annotations__")=(true,11,(some (.ref 6))):=by kernel_rfl
theorem ranA:RunA 9184 11 (some (.ref 6)) PySem.W.Fast.te10156331382660048174 PySem.W.Fast.te11892475500146522536 PySem.W.Fast.te14364793385576792824 PySem.W.Fast.te5923862056798008813 PySem.W.Fast.te4187177175401517315 PySem.W.Fast.te9205896539219414591:=fun w os=>by kernel_rfl
theorem ranB:RunB 9184 11 (some (.ref 6)) qv lo Xp PySem.W.Fast.te10156331382660048174 PySem.W.Fast.te11892475500146522536 PySem.W.Fast.te14364793385576792824 PySem.W.Fast.te5923862056798008813 PySem.W.Fast.te4187177175401517315 PySem.W.Fast.te9205896539219414591:=fun w os=>by kernel_rfl
theorem ranC:RunC 9184 11 (some (.ref 6)) (kHook KK kas kas_is).obs (kHook KK kas kas_is).val PySem.W.Fast.te10156331382660048174 PySem.W.Fast.te11892475500146522536 PySem.W.Fast.te14364793385576792824 PySem.W.Fast.te5923862056798008813 PySem.W.Fast.te4187177175401517315 PySem.W.Fast.te9205896539219414591:=fun w os=>by kernel_rfl
theorem ran:∀ (w:World) (os:OsState),Option.map (lookO openSeen (importedModules PySem.Challenge.pw_glazebench_k66_orders_refused.main.body) PySem.Challenge.pw_glazebench_k66_orders_refused (qv PySem.Challenge.pw_glazebench_k66_orders_refused) lo (Xp PySem.Challenge.pw_glazebench_k66_orders_refused) (kHook KK kas kas_is).obs (boot_heap w.params)) (topRun treeTable PySem.Challenge.pw_glazebench_k66_orders_refused w 11 (some (.ref 6)) 9184 (atBoot w.params os) (topStub PySem.Challenge.pw_glazebench_k66_orders_refused))=some (true,openGood (qv PySem.Challenge.pw_glazebench_k66_orders_refused) lo,(kHook KK kas kas_is).val w):=run_by3 ranA ranB ranC
theorem left:LeftO PySem.Challenge.pw_glazebench_k66_orders_refused (qv PySem.Challenge.pw_glazebench_k66_orders_refused) lo (Xp PySem.Challenge.pw_glazebench_k66_orders_refused) (kHook KK kas kas_is).obs (kHook KK kas kas_is).val 9184:=left_once (boot_open op_is (by decide) fence_is) boot_is ran
end KH
namespace L2
open PySem PySem.Spec PyProof.Rows
def isCF:Option NameKind→Bool
 | some .cell=>true
 | some .free=>true
 | _=>false
theorem isCF_of {o:Option NameKind} (h:isCF o=true):o=some .cell∨o=some .free:=by
 match o,h with
 | some .cell,_=>exact .inl rfl
 | some .free,_=>exact .inr rfl
theorem closure_go (env:Env):∀ (l:List (Str × NameKind)) (acc:List (Str × Addr)),(∀ y∈l,y.2=.free→∃ c,env.cells.lookup y.1=some c) →
  (∀ x c,acc.lookup x=some c→env.cells.lookup x=some c) →
  ∃ cl,(forIn l acc (fun (x:Str × NameKind) (r:List (Str × Addr))=>if (x.2 == .free)=true then (cellOf env x.1 >>= fun c=>pure (ForInStep.yield ((x.1,c) :: r))) else pure (ForInStep.yield r)):Sem (List (Str × Addr)))=pure cl ∧
   (∀ x c,cl.lookup x=some c→env.cells.lookup x=some c)∧(∀ x,((∃ c,acc.lookup x=some c)∨(x,NameKind.free)∈l)→∃ c,cl.lookup x=some c)
 | [],acc,_,ha=>⟨acc,by rfl,ha,fun x h=>h.elim id fun z=>nomatch z⟩
 | (n,k) :: l,acc,hl,ha=>by
  have hl':∀ y∈l,y.2=.free→∃ c,env.cells.lookup y.1=some c:=fun y hy=>hl y (List.mem_cons_of_mem _ hy)
  by_cases hk:k=.free
  ·subst hk
   obtain ⟨c,hc⟩:=hl (n,.free) List.mem_cons_self rfl
   have hc':env.cells.lookup n=some c:=hc
   have look:∀ x,((n,c) :: acc).lookup x=if x=n then some c else acc.lookup x:=fun x=>by
    rw [List.lookup_cons]
    by_cases e:x=n
    ·subst e; simp
    ·rw [if_neg e,show (x == n)=false by simpa using e]
   have ha':∀ x d,((n,c) :: acc).lookup x=some d→env.cells.lookup x=some d:=fun x d e=>by
    rw [look] at e
    split at e
    ·rename_i q; subst q; rw [hc']; exact e
    ·exact ha x d e
   obtain ⟨cl,e,h1,h2⟩:=closure_go env l ((n,c) :: acc) hl' ha'
   refine ⟨cl,?_,h1,fun x h=>h2 x ?_⟩
   ·rw [← e,List.forIn_cons]
    have ec:cellOf env n=pure c:=by unfold cellOf; rw [hc']
    show ((cellOf env n >>= fun c=>pure (ForInStep.yield ((n,c) :: acc))) >>= _:Sem (List (Str × Addr)))=_
    rw [ec]
    rfl
   ·rcases h with ⟨d,q⟩ | h
    ·left
     rw [look]
     by_cases z:x=n
     ·exact ⟨c,by rw [if_pos z]⟩
     ·exact ⟨d,by rw [if_neg z]; exact q⟩
    ·rcases List.mem_cons.mp h with z | z
     ·left
      rw [look]
      exact ⟨c,by rw [if_pos (congrArg Prod.fst z)]⟩
     ·exact .inr z
  ·obtain ⟨cl,e,h1,h2⟩:=closure_go env l acc hl' ha
   refine ⟨cl,?_,h1,fun x h=>h2 x ?_⟩
   ·rw [← e,List.forIn_cons]
    have hb:(k == NameKind.free)=false:=by simpa using hk
    show ((if (k == NameKind.free)=true then _ else pure (ForInStep.yield acc)) >>= _:Sem (List (Str × Addr)))=_
    rw [hb]
    rfl
   ·rcases h with h | h
    ·exact .inl h
    ·rcases List.mem_cons.mp h with z | z
     ·exact absurd (congrArg Prod.snd z).symm hk
     ·exact .inr z
theorem closure_of {scope:Scope} {env:Env} (h:∀ y∈scope.names,y.2=.free→∃ c,env.cells.lookup y.1=some c) :
  ∃ cl,closureFor scope env=pure cl∧(∀ x c,cl.lookup x=some c→env.cells.lookup x=some c)∧(∀ x,(x,NameKind.free)∈scope.names→∃ c,cl.lookup x=some c):=by
 obtain ⟨cl,e,h1,h2⟩:=closure_go env scope.names [] h (fun x c e=>by simp at e)
 refine ⟨cl,?_,h1,fun x hx=>h2 x (.inr hx)⟩
 have e2:closureFor scope env=(forIn scope.names [] (fun (x:Str × NameKind) (r:List (Str × Addr))=>if (x.2 == .free)=true then (cellOf env x.1 >>= fun c=>pure (ForInStep.yield ((x.1,c) :: r))) else pure (ForInStep.yield r)) >>= fun r=>pure r:Sem (List (Str × Addr))):=by
  rfl
 rw [e2,e]
 rfl
abbrev compCx (X:Cx) (scope:Scope) (cl:List (Str × Addr)) (N:List Str) (C:Addr) (s:Shared) (H:Hp) (ex:List Addr):Cx :=
 { X with N:=N,s₀:=s,H₀:=H,env:=compEnvC scope cl C X.env,outer:=X.stack,ex:=ex,fn:=fun _=>false,pn:=[],xe:=fun _ _=>False }
def compChk (osc:Scope) (oN:List Str) (sc:Scope) (N:List Str) (fr:List (Option Nat)):Bool :=
 decide (sc.kind=.function) && sc.names.all (fun y=>decide (y.2≠.cell)) && sc.names.all (fun y=>decide (y.2≠.free) || isCF (osc.names.lookup y.1)) &&
 sc.names.all (fun y=>decide (y.2≠.local) || decide (sc.names.lookup y.1=some .local)) &&
 (N.zip fr).all (fun y=>match y.2 with
  | none=>true
  | some i=>decide (oN[i]?=some y.1) && isCF (osc.names.lookup y.1) && decide (sc.names.lookup y.1=some .free)) && decide (N.length=fr.length)
structure CompChk (osc:Scope) (oN:List Str) (sc:Scope) (N:List Str) (fr:List (Option Nat)):Prop where
 kind:sc.kind=.function
 nocell:∀ y∈sc.names,y.2≠.cell
 free:∀ y∈sc.names,y.2=.free→isCF (osc.names.lookup y.1)=true
 loc:∀ y∈sc.names,y.2=.local→sc.names.lookup y.1=some .local
 slots:∀ (j:Nat) (x:Str) (i:Nat),N[j]?=some x→fr[j]?=some (some i)→oN[i]?=some x∧isCF (osc.names.lookup x)=true∧sc.names.lookup x=some .free
 len:N.length=fr.length
theorem compChk_of {osc:Scope} {oN:List Str} {sc:Scope} {N:List Str} {fr:List (Option Nat)} (h:compChk osc oN sc N fr=true):CompChk osc oN sc N fr:=by
 unfold compChk at h
 simp only [Bool.and_eq_true,List.all_eq_true,decide_eq_true_eq,Bool.or_eq_true] at h
 obtain ⟨⟨⟨⟨⟨h1,h2⟩,h3⟩,h4⟩,h5⟩,h6⟩:=h
 refine ⟨h1,h2,fun y hy e=>(h3 y hy).resolve_left fun z=>z e,fun y hy e=>(h4 y hy).resolve_left fun z=>z e,fun j x i e1 e2=>?_,h6⟩
 have hm:(x,some i)∈N.zip fr:=by
  have:(N.zip fr)[j]?=some (x,some i):=by rw [List.getElem?_zip_eq_some]; exact ⟨e1,e2⟩
  exact List.mem_of_getElem? this
 have:=h5 _ hm
 simp only [Bool.and_eq_true,decide_eq_true_eq] at this
 exact ⟨this.1.1,this.1.2,this.2⟩
def stC (fr:List (Option Nat)) (σ:St):St:=fr.map fun o=>o.bind fun i=>(σ[i]?).join
def tComp (wi:TI) (g:TG) (te:TE) (fr:List (Option Nat)):TE:=fun σ H Q=>wi σ H fun J H1=>∀ acc,H1 acc=none→∃ W:Nat→Nat→St→Hp→Prop,(∃ m,W 0 m (stC fr σ) (upd H1 acc (.lst [])))∧∀ i m σ1 H2,W i m σ1 H2 →
 (J.stop i H2∧Q (.ref acc) H2)∨(J.go i H2∧∀ x H3,J.yld i H2 x H3→g x σ1 H3 fun σ4 H4=>te σ4 H4 fun v H5=>∃ xs,H5 acc=some (.lst xs)∧xs.length < sizeLine∧∃ m',m' < m∧W (i+1) m' σ4 (upd H5 acc (.lst (xs++[v]))))
section
variable {prog:Program} {w:World} {A:Around} {R:Result→Shared→Prop} {s:Shared}
theorem compLoop_any {elt target iter:Expr} {scope:Scope} {pos:Pos} {it acc:Value} {env:Env} (I:Nat→Shared→Prop)
    (turn:∀ n s,I n s→wpAny (model prog w) A (pyNext it) (fun r s₁=>match r with
      | none=>R (.ok .next) s₁
      | some v=>wpAny (model prog w) A (letOwnedTupleGo target it v) (fun _ s₁=>wpAny (model prog w) A (assign target env v) (fun _ s₂=>wpAny (model prog w) A (eval elt env) (fun x s₃ =>
          wpAny (model prog w) A (call (.builtin "list.append") [acc,x]) (fun _ s₄=>∃ m,m < n∧I m s₄) (notedBy (model prog w) A env fun e s'=>R (.error e) s') s₃)
          (notedBy (model prog w) A env fun e s'=>R (.error e) s') s₂) (notedBy (model prog w) A env fun e s'=>R (.error e) s') s₁) (notedBy (model prog w) A env fun e s'=>R (.error e) s') s₁) (notedBy (model prog w) A env fun e s'=>R (.error e) s') s)
    (n:Nat) (h:I n s) :
    codeAny (model prog w) A (.compLoop (.ListComp elt [⟨target,iter,[],0⟩] scope pos) 0 it acc env) R s:=by
  refine codeAny_loop rfl I (fun n s hI=>?_) n h
  show wpAny _ _ ((compTurn (.ListComp elt [⟨target,iter,[],0⟩] scope pos) 0 it acc env).onRaise (fun x=>do noteFrame x env; theTreesLotGoes x)) _ _ s
  refine wpAny_noted ?_
  rw [compTurn_list1]
  refine wpAny_bind (wpAny_standAt (wpAny_bind (wpAny_mono (turn n s hI) (fun r s₁ h₁=>?_) fun _ _ h'=>h')))
  cases r with
  | none=>exact wpAny_pure h₁
  | some v =>
    refine wpAny_bind (wpAny_mono h₁ (fun _ s₁ h₁=>?_) fun _ _ h'=>h')
    exact wpAny_bind (wpAny_mono h₁ (fun _ s₂ h₂=>wpAny_bind (wpAny_bind (wpAny_mono h₂ (fun x s₃ h₃=>wpAny_bind (wpAny_mono h₃
      (fun _ s₄ h₄=>wpAny_pure (wpAny_pure ⟨rfl,h₄⟩)) fun _ _ h'=>h')) fun _ _ h'=>h'))) fun _ _ h'=>h')
end
theorem wpFalse {α:Type} {M:Model} {A:Around} {t:Sem α} {Q:α→Shared→Prop} {E:Value→Shared→Prop} {s:Shared} (h:wpAny M A t Q (fun _ _=>False) s):wpAny M A t Q E s :=
 wpAny_mono h (fun _ _ q=>q) fun _ _ z=>z.elim
theorem relabel_CF {scope:Scope} {env:Env} (hc:∀ y∈scope.names,y.2≠.cell) {x:Str} (h:(relabel scope env).names.lookup x=some .cell∨(relabel scope env).names.lookup x=some .free):(x,NameKind.free)∈scope.names:=by
 have key:∀ (l:List (Str × NameKind)),(∀ y∈l,y.2≠.cell)→((l.map fun (n,k)=>if (k == NameKind.free && env.scope.kind == .function && env.kindOf n == some .cell) then (n,NameKind.cell) else (n,k)).lookup x=some .cell ∨
   (l.map fun (n,k)=>if (k == NameKind.free && env.scope.kind == .function && env.kindOf n == some .cell) then (n,NameKind.cell) else (n,k)).lookup x=some .free)→(x,NameKind.free)∈l:=by
  intro l
  induction l with
  | nil=>intro _ h; simp at h
  | cons y r ih =>
   obtain ⟨n,k⟩:=y
   intro hc h
   have hr:∀ y∈r,y.2≠.cell:=fun y hy=>hc y (List.mem_cons_of_mem _ hy)
   have hk:k≠.cell:=hc (n,k) List.mem_cons_self
   rw [List.map_cons] at h
   by_cases hxn:x=n
   ·subst hxn
    have hkf:k=.free:=by
     by_cases hb:(k == NameKind.free && env.scope.kind == .function && env.kindOf x == some .cell)=true
     ·simp only [Bool.and_eq_true,beq_iff_eq] at hb
      exact hb.1.1
     ·simp only [hb,if_neg,Bool.false_eq_true,if_false] at h
      simp only [List.lookup_cons,beq_self_eq_true] at h
      rcases h with h | h
      ·exact absurd (Option.some.inj h) hk
      ·exact Option.some.inj h
    rw [hkf]
    exact List.mem_cons_self
   ·have hb:(x == n)=false:=by simpa using hxn
    refine List.mem_cons_of_mem _ (ih hr ?_)
    by_cases hq:(k == NameKind.free && env.scope.kind == .function && env.kindOf n == some .cell)=true
    ·simp only [hq,if_true,List.lookup_cons,hb] at h
     exact h
    ·simp only [hq,Bool.false_eq_true,if_false,List.lookup_cons,hb] at h
     exact h
 exact key scope.names hc h
theorem relabel_free {env:Env} {x:Str}:∀ {l:List (Str × NameKind)},l.lookup x=some .free →
  ((l.map fun (n,k)=>if (k == NameKind.free && env.scope.kind == .function && env.kindOf n == some .cell) then (n,NameKind.cell) else (n,k)).lookup x=some .cell ∨
   (l.map fun (n,k)=>if (k == NameKind.free && env.scope.kind == .function && env.kindOf n == some .cell) then (n,NameKind.cell) else (n,k)).lookup x=some .free)
 | [],h=>by simp at h
 | (n,k) :: r,h=>by
  rw [List.map_cons]
  by_cases hxn:x=n
  ·subst hxn
   simp only [List.lookup_cons,beq_self_eq_true] at h
   have hk:=Option.some.inj h
   subst hk
   by_cases hq:(NameKind.free == NameKind.free && env.scope.kind == .function && env.kindOf x == some .cell)=true
   ·left
    show List.lookup x ((if (NameKind.free == NameKind.free && env.scope.kind == .function && env.kindOf x == some .cell)=true then (x,NameKind.cell) else (x,NameKind.free)) :: _)=_
    rw [if_pos hq,List.lookup_cons,beq_self_eq_true]
   ·right
    show List.lookup x ((if (NameKind.free == NameKind.free && env.scope.kind == .function && env.kindOf x == some .cell)=true then (x,NameKind.cell) else (x,NameKind.free)) :: _)=_
    rw [if_neg hq,List.lookup_cons,beq_self_eq_true]
  ·have hb:(x == n)=false:=by simpa using hxn
   simp only [List.lookup_cons,hb] at h
   have ih:=relabel_free (env:=env) h
   by_cases hq:(k == NameKind.free && env.scope.kind == .function && env.kindOf n == some .cell)=true
   ·simp only [hq,if_true,List.lookup_cons,hb]; exact ih
   ·simp only [hq,Bool.false_eq_true,if_false,List.lookup_cons,hb]; exact ih
theorem mem_look {x:Str} {k:NameKind}:∀ {l:List (Str × NameKind)},l.lookup x=some k→(x,k)∈l
 | [],h=>by simp at h
 | (n,j) :: r,h=>by
  by_cases e:x=n
  ·subst e
   simp only [List.lookup_cons,beq_self_eq_true] at h
   rw [← Option.some.inj h]
   exact List.mem_cons_self
  ·have hb:(x == n)=false:=by simpa using e
   simp only [List.lookup_cons,hb] at h
   exact List.mem_cons_of_mem _ (mem_look h)
section
variable {X:Cx} {elt tg iter:Expr} {scope:Scope} {pos:Pos} {wi:TI} {g:TG} {te:TE} {N:List Str} {fr:List (Option Nat)}
theorem comp_entry {pins:List (Addr × Obj)} {σ:St} {H:Hp} {s s1:Shared} {cl:List (Str × Addr)} {ex:List Addr} {C:Addr} {m:Str→Option Value} (I:Inv X pins σ H s) (ck:CompChk X.env.scope X.N scope N fr)
    (c1:∀ x c,cl.lookup x=some c→X.env.cells.lookup x=some c) (c2:∀ x,(x,NameKind.free)∈scope.names→∃ c,cl.lookup x=some c) (hex:∀ b∈ex,FpOk X pins H b∧b < s.heap.objs.size) (hC:s.heap.objs.size≤C)
    (hn:s1.heap.Ns C m) (k:∀ b o,s.heap.get? b=some o→s1.heap.get? b=some o) (ho:s1.os=s.os) (hg:s1.gens=s.gens) :
    Inv (compCx X scope cl N C s H ex) [] (stC fr σ) H s1:=by
  have lt_ne:∀ {b:Addr} {o:Obj},s.heap.get? b=some o→b≠C:=fun e=>Nat.ne_of_lt (Nat.lt_of_lt_of_le (Heap.lt_size e) hC)
  have ok:(compCx X scope cl N C s H ex).Ok :=
    { mod:=I.ok.mod
      kind:=ck.kind
      glob:=I.ok.glob
      blt:=I.ok.blt
      above:=hC
      inj:=fun x y c e1 e2=>I.ok.inj x y c (c1 x c e1) (c1 y c e2)
      has:=fun x h=>c2 x (relabel_CF ck.nocell h)
      cab:=fun x c z=>by cases z
      hd:=I.ok.hd
      frames:=I.ok.frames
      stk:=.inl rfl
      exf:=fun b hb=>⟨Nat.ne_of_lt (Nat.lt_of_lt_of_le (hex b hb).2 hC),fun x c e=>(hex b hb).1.2.2.2.2.1 x c (c1 x c e)⟩
      bs:=I.bs
      bsz:=Nat.le_trans I.ok.bsz I.sz
      noex:=fun b o e hb=>by
        rcases (hex b hb).1.2.2.2.1 with z | z
        · exact I.ok.noex b o e z
        · exact absurd (Nat.lt_of_lt_of_le (Heap.lt_size e) (Nat.le_trans I.ok.bsz z)) (Nat.lt_irrefl _)
      exfs:=fun b hb hz=>by
        rcases List.mem_cons.mp (I.stkSub b hz) with z | z
        · exact (hex b hb).1.2.1 z
        · exact (hex b hb).1.2.2.1 z
      funs:=I.stack
      frf:=I.stkFree }
  refine ⟨ok,ho,by rw [hg]; exact I.bare,Un.kept k,⟨m,hn,fun j x v e1 e2 e3=>?_⟩,fun x c e=>?_,I.hok.fresh hC,fun x c e=>I.freeC x c (c1 x c e),fun p hp=>by simp at hp,I.hok.kept k,?_⟩
  · have e1':N[j]?=some x:=e1
    unfold stC at e2
    rw [List.getElem?_map] at e2
    cases q:fr[j]? with
    | none=>rw [q] at e2; cases e2
    | some o =>
      rw [q] at e2
      cases o with
      | none =>
        have:(none:Option V)=some v:=Option.some.inj e2
        cases this
      | some i =>
        have e2':(σ[i]?).join=some v:=Option.some.inj e2
        obtain ⟨s1',s2',s3'⟩:=ck.slots j x i e1' q
        have hσ:σ[i]?=some (some v):=by
          cases z:σ[i]? with
          | none=>rw [z] at e2'; cases e2'
          | some y=>rw [z] at e2'; exact congrArg some e2'
        have hcf:=isCF_of s2'
        obtain ⟨m0,hn0,hl⟩:=I.loc
        obtain ⟨u,r,lk⟩:=hl i x v s1' hσ (Or.inr hcf)
        refine ⟨u,r,Or.inr ⟨relabel_free s3',?_⟩⟩
        obtain ⟨c,hc⟩:=c2 x (mem_look s3')
        refine ⟨c,hc,?_⟩
        rcases lk with ⟨z,_⟩ | ⟨_,c',hc',hv⟩
        · rcases hcf with y | y
          · have z':X.env.scope.names.lookup x=some .local:=z
            rw [y] at z'; cases z'
          · have z':X.env.scope.names.lookup x=some .local:=z
            rw [y] at z'; cases z'
        · have:=c1 x c hc
          rw [hc'] at this
          cases this
          exact hv.keeps k
  · obtain ⟨v,z⟩:=I.cell x c (c1 x c e)
    exact ⟨v,z.keeps k⟩
  · unfold stC
    rw [List.length_map]
    exact ck.len.symm
theorem comp_core {pins:List (Addr × Obj)} {σ:St} {H:Hp} {s:Shared} {Q:VK} {cl:List (Str × Addr)} {R:Value→Addr→Result→Shared→Prop} (hc:X.calm=true) (I:Inv X pins σ H s) (hi:PI X tg iter wi)
  (hg:∀ cl C s H ex,PG (compCx X scope cl N C s H ex) tg g) (he:∀ cl C s H ex,PE (compCx X scope cl N C s H ex) elt te) (ck:CompChk X.env.scope X.N scope N fr)
  (c1:∀ x c,cl.lookup x=some c→X.env.cells.lookup x=some c) (c2:∀ x,(x,NameKind.free)∈scope.names→∃ c,cl.lookup x=some c)
  (h:tComp wi g te fr σ H Q)
  (hR:∀ acc C s' H' m,s'.heap.Ns C m→FpOk X pins H' C→Inv X pins σ H' s'→Q (.ref acc) H'→R (.ref acc) C (.ok .next) s') :
  wpAny (model X.prog X.w) X.A (eval iter X.env) (fun x s₁=>wpAny (model X.prog X.w) X.A (pyIter x) (fun it s₂=>wpAny (model X.prog X.w) X.A (newList []) (fun acc s₃ =>
   wpAny (model X.prog X.w) X.A (newFunctionEnv scope X.env.globals cl [] X.env.qual none .none (some X.env)) (fun cenv s₄ =>
    codeAny (model X.prog X.w) X.A (.compStart (.ListComp elt [⟨tg,iter,[],0⟩] scope pos) 0 it acc { cenv with scope:=relabel scope X.env }) (R acc cenv.locals) s₄) X.xe s₃) X.xe s₂) X.xe s₁) X.xe s:=by
 refine thn (hi pins s σ H _ I h) fun v s1 h1=>thn h1 fun itv s2 h2=>?_
 obtain ⟨it,fp,tn,J,H2,e,I2,T,st2,f2,q2⟩:=h2
 subst e
 refine wpAny_newObj_type (wpAny_newFunctionEnv ck.nocell (by intro y hy; simp at hy) (fun h₁ hns₁ hsb₁=>?_) ck.kind)
 dsimp only at hns₁ hsb₁ ⊢
 have I3:Inv X pins σ (upd H2 s2.heap.objs.size (.lst [])) { s2 with heap:=s2.heap.push { cls:=.type "list",dict:=none,data:=.seq ([]:List Value).toArray } }:=I2.lnew (t':=s2.toks) (its:=[]) .nil (Nat.zero_le _)
 have acc0:H2 s2.heap.objs.size=none:=I2.fresh
 obtain ⟨W,⟨m0,w0⟩,turn⟩:=q2 s2.heap.objs.size acc0
 generalize hH3:s2.heap.push { cls:=.type "list",dict:=none,data:=.seq ([]:List Value).toArray }=h3 at hns₁ hsb₁ I3 ⊢
 have hz3:h3.objs.size=s2.heap.objs.size+1:=by rw [← hH3,Heap.size_push]
 have k23:∀ b o,s2.heap.get? b=some o→h3.get? b=some o:=fun b o e=>by rw [← hH3]; exact Heap.get?_push_of_some _ e
 have k34:∀ b o,h3.get? b=some o→h₁.get? b=some o:=fun b o e=>hsb₁.extBut b o (Nat.ne_of_lt (Heap.lt_size e)) (Heap.get?_push_of_some _ e)
 have fpo:∀ b∈fp,∃ o,s2.heap.get? b=some o∧∀ v,o.data≠.cell v:=T.obj 0 _ st2
 have hex:∀ b∈fp,FpOk X pins (upd H2 s2.heap.objs.size (.lst [])) b∧b < h3.objs.size:=fun b hb=>by
  obtain ⟨o,eo,_⟩:=fpo b hb
  have lt:=Heap.lt_size eo
  obtain ⟨f0,fr'⟩:=f2 b hb
  exact ⟨⟨by rw [upd_ne (Nat.ne_of_lt lt)]; exact f0,fr'⟩,by rw [hz3]; exact Nat.lt_succ_of_lt lt⟩
 have I4:Inv (compCx X scope cl N h3.objs.size { s2 with heap:=h3 } (upd H2 s2.heap.objs.size (.lst [])) fp) [] (stC fr σ) (upd H2 s2.heap.objs.size (.lst [])) { s2 with heap:=h₁,toks:=s2.toks+([]:List (Str × Value)).length } :=
  comp_entry I3 ck c1 c2 hex (Nat.le_refl _) hns₁ k34 rfl rfl
 have stat:∀ {H':Hp},(∀ b∈fp,H' b=none)→∀ b∈fp,FpOk (compCx X scope cl N h3.objs.size { s2 with heap:=h3 } (upd H2 s2.heap.objs.size (.lst [])) fp) [] H' b:=fun hn b hb =>
  ⟨hn b hb,(I4.ok.exf b hb).1,I4.ok.exfs b hb,.inl hb,(I4.ok.exf b hb).2,fun p hp=>by simp at hp⟩
 have stn:∀ i h h',tn i h→(∀ b o,h.get? b=some o→h'.get? b=some o)→tn i h':=fun i h h' st kk=>T.keep i h h' st fun b _ o e=>kk b o e
 have loop:codeAny (model X.prog X.w) X.A (.compLoop (.ListComp elt [⟨tg,iter,[],0⟩] scope pos) 0 (.ref it) (.ref s2.heap.objs.size) (compEnvC scope cl h3.objs.size X.env)) (R (.ref s2.heap.objs.size) h3.objs.size)
   { s2 with heap:=h₁,toks:=s2.toks+([]:List (Str × Value)).length }:=by
  refine compLoop_any (fun n s'=>∃ i σ' H',Inv (compCx X scope cl N h3.objs.size { s2 with heap:=h3 } (upd H2 s2.heap.objs.size (.lst [])) fp) [] σ' H' s'∧tn i s'.heap∧(∀ b∈fp,H' b=none)∧W i n σ' H') ?_ m0
   ⟨0,_,_,I4,stn _ _ _ st2 fun b o e=>k34 b o (k23 b o e),fun b hb=>(hex b hb).1.1,w0⟩
  rintro n s3 ⟨i,σ3,H3,J3,st3,fr3,w3⟩
  rcases turn i n σ3 H3 w3 with ⟨stop,qn⟩ | ⟨go,step⟩
  ·refine wpFalse (thn (T.done (compCx X scope cl N h3.objs.size { s2 with heap:=h3 } (upd H2 s2.heap.objs.size (.lst [])) fp) rfl rfl rfl hc i [] s3 σ3 H3 (fun _ _=>False) J3 (stat fr3) st3 stop) fun r s4 ⟨hr,J4⟩=>?_)
   subst hr
   obtain ⟨mc,hmc,_⟩:=J4.loc
   have I5:Inv X pins σ H3 s4:=I3.call' (ch:=fp) J4.os J4.base J4.hok J4.bare fun b hb=>⟨(hex b hb).1.2.2.2.1,(hex b hb).1.2.1,(hex b hb).1.2.2.2.2.1,(hex b hb).1.2.2.2.2.2⟩
   exact hR _ _ s4 H3 mc hmc (I3.fpOk (Nat.le_refl _) J4.free) I5 qn
  ·refine wpFalse (thn (T.item (compCx X scope cl N h3.objs.size { s2 with heap:=h3 } (upd H2 s2.heap.objs.size (.lst [])) fp) rfl rfl rfl hc i [] s3 σ3 H3 (fun _ _=>False) J3 (stat fr3) st3 go) fun r s4 ⟨u,hr,h4⟩=>?_)
   subst hr
   refine wpFalse (thn h4 fun _ s5 ⟨x,H5,J5,r5,y5,st5,fr5⟩=>?_)
   have J5':=J5.pinned (stat fr5) (T.obj _ _ st5)
   refine wpFalse (thn (hg _ _ _ _ _ _ s5 σ3 H5 x u _ J5' r5 (step x H5 y5)) fun _ s6 ⟨σ6,H6,J6,q6⟩=>?_)
   refine wpFalse (thn (he _ _ _ _ _ _ s6 σ6 H6 _ J6 q6) fun y s7 ⟨v7,H7,J7,r7,xs,hx,hz,m',hm',w7⟩=>?_)
   refine wpFalse (thn (mt_append _ s7 σ6 H7 (.ref s2.heap.objs.size) [v7] (.ref s2.heap.objs.size) [y] (fun v H8=>H8=upd H7 s2.heap.objs.size (.lst (xs++[v7]))) J7 rfl (.cons r7 .nil) ⟨_,xs,v7,rfl,rfl,hx,hz,rfl⟩) fun _ s8 ⟨_,H8,J8,_,e8⟩=>?_)
   subst e8
   refine ⟨m',hm',i+1,σ6,_,J8.unpinned,T.keep _ _ _ st5 fun b hb o e=>(J8.pin (b,o) (List.mem_append_right _ (List.mem_append_right _ (mem_pinsAt hb e)))).1,fun b hb=>?_,w7⟩
   obtain ⟨o,e,d⟩:=T.obj _ _ st5 b hb
   exact (J8.pin (b,o) (List.mem_append_right _ (List.mem_append_right _ (mem_pinsAt hb e)))).2.1
 exact codeAny_compStart_list loop (T.self _ 0 _ _ _ (stn _ _ _ st2 fun b o e=>k34 b o (k23 b o e)) loop)
theorem comp_cl (I:X.Ok) (ck:CompChk X.env.scope X.N scope N fr):∃ cl,closureFor scope X.env=pure cl∧(∀ x c,cl.lookup x=some c→X.env.cells.lookup x=some c)∧(∀ x,(x,NameKind.free)∈scope.names→∃ c,cl.lookup x=some c) :=
 closure_of fun y hy e=>I.has y.1 (isCF_of (ck.free y hy e))
theorem pe_comp (hc:X.calm=true) (hi:PI X tg iter wi) (hg:∀ cl C s H ex,PG (compCx X scope cl N C s H ex) tg g) (he:∀ cl C s H ex,PE (compCx X scope cl N C s H ex) elt te)
  (hk:compChk X.env.scope X.N scope N fr=true:=by rfl) (hs:∀ x,foldedSetIterable iter X.env x=pure x:=by intro _; rfl):PE X (.ListComp elt [⟨tg,iter,[],0⟩] scope pos) (tComp wi g te fr):=by
 intro pins s σ H Q I h
 have ck:=compChk_of hk
 obtain ⟨cl,e1,c1,c2⟩:=comp_cl I.ok ck
 rw [eval_ListComp]
 refine wpAny_comprehension_free (use:=none) (Q:=EP X pins σ Q) rfl hs e1 ck.kind ck.loc (comp_core (R:=fun acc C=>compPost (model X.prog X.w) X.A X.xe none (EP X pins σ Q) acc C) hc I hi hg he ck c1 c2 h fun acc C s' H' m hn f I' q=>?_)
 obtain ⟨f0,f1,f2,f3,f4,f5⟩:=f
 exact ⟨m,hn,fun h' hs'=>⟨.ref acc,H',I'.turned (t':=s'.toks) (fun b o hb e=>hs'.extBut b o hb e) f0 f1 f3 f4 f5,rfl,q⟩⟩
theorem ps_setComp {y:Str} {py spos:Pos} {gy:TG} (hc:X.calm=true) (hy:PG X (.Name y py) gy) (hi:PI X tg iter wi) (hg:∀ cl C s H ex,PG (compCx X scope cl N C s H ex) tg g) (he:∀ cl C s H ex,PE (compCx X scope cl N C s H ex) elt te)
    (hk:compChk X.env.scope X.N scope N fr=true:=by rfl) (hsw:swapsWith (.ListComp elt [⟨tg,iter,[],0⟩] scope pos) (some (.Name y py)) spos.line X.env=pure true:=by rfl) (hs:∀ x,foldedSetIterable iter X.env x=pure x:=by intro _; rfl) :
    PS X (.Assign [.Name y py] (.ListComp elt [⟨tg,iter,[],0⟩] scope pos) spos) (tAsg (tComp wi g te fr) gy):=by
  intro pins s σ H D I h
  have ck:=compChk_of hk
  obtain ⟨cl,e1,c1,c2⟩:=comp_cl I.ok ck
  rw [exec_Assign_Name_used _ _ _ _ hsw]
  refine wpAny_bind (wpAny_standAt (wpAny_bind ?_))
  show wpAny _ X.A (do let _ ← comprehension (.ListComp elt [⟨tg,iter,[],0⟩] scope pos) scope X.env _ (newList []) false (eval iter X.env) (some (assign (.Name y py) X.env))) _ _ s
  refine wpAny_bind (wpAny_mono (wpAny_comprehension_free (use:=some (assign (.Name y py) X.env)) (Q:=fun _ s'=>SP X pins D .next s') rfl hs e1 ck.kind ck.loc
    (comp_core (R:=fun acc C=>compPost (model X.prog X.w) X.A X.xe (some (assign (.Name y py) X.env)) (fun _ s'=>SP X pins D .next s') acc C) hc I hi hg he ck c1 c2 h fun acc C s' H' m hn f I' q=>?_)) (fun _ s' hq=>wpAny_pure (wpAny_pure hq)) fun _ _ e=>e)
  show wpAny _ X.A (assign (.Name y py) X.env (.ref acc)) _ _ _
  obtain ⟨oC,es,ep,hoC,hdC,hrC⟩:=id hn
  have IP:=I'.pinned (fp:=[C]) (fun b hb=>by rw [List.mem_singleton.mp hb]; exact f) (fun b hb=>by rw [List.mem_singleton.mp hb]; exact ⟨oC,hoC,fun v z=>by rw [hdC] at z; cases z⟩)
  refine thn (hy _ s' σ H' (.ref acc) (.ref acc) _ IP rfl q) fun _ s'' ⟨σ6,H6,I6,q6⟩=>?_
  have pC:=I6.pin (C,oC) (List.mem_append_right _ (List.mem_append_right _ (mem_pinsAt (List.mem_singleton.mpr rfl) hoC)))
  obtain ⟨f0,f1,f2,f3,f4,f5⟩:=f
  exact ⟨m,⟨oC,es,ep,pC.1,hdC,hrC⟩,fun h' hs'=>⟨σ6,H6,I6.unpinned.turned (t':=s''.toks) (fun b o hb e=>hs'.extBut b o hb e) pC.2.1 f1 f3 f4 f5,q6⟩⟩
end
end L2
namespace L2
open PySem PySem.Spec PyProof.Rows
section
variable {X:Cx}
def CDivL (_ j:Int):Prop:=0 < j∧j.natAbs.log2 < 9000
theorem op_fdivL:OpR X (binaryOp .FloorDiv) (rI CDivL fun i j=>.int (i / j)):=opI fun i j _ _ _ _ _ hc q=>by
 have h1:(0:Int) < j:=hc.1
 exact floordiv_int (by omega) (by rw [Int.fdiv_eq_ediv_of_nonneg i (by omega)]; exact q) (.inl (PyProof.noPylong_of_log2 hc.2))
theorem op_mulL:OpR X (binaryOp .Mult) (rI IntMulOk fun i j=>.int (i * j)):=opI fun _ _ _ _ _ _ _ hc q=>mul_int q hc
theorem log2_lt_of {n k:Nat} (hk:0 < k) (h:n < 2^k):n.log2 < k:=by
 rcases Nat.eq_zero_or_pos n with h0 | hp
 ·rw [h0]; simpa using hk
 ·exact (Nat.log2_lt (Nat.ne_of_gt hp)).mpr h
theorem intBits_le {z:Int} {k:Nat} (hk:0 < k) (h:z.natAbs < 2^k):Builtin.Int.intBits z≤k:=by
 unfold Builtin.Int.intBits
 split
 ·exact Nat.zero_le _
 ·exact log2_lt_of hk h
theorem mulOk_of {a b:Int} (h1:a.natAbs < 2^128) (h2:b.natAbs < 2^128):IntMulOk a b:=by
 have e1:=intBits_le (by decide) h1
 have e2:=intBits_le (by decide) h2
 unfold IntMulOk Builtin.Int.intTooBig
 intro h
 simp only [Bool.and_eq_true,decide_eq_true_eq] at h
 have h3:=h.2
 have hb:(256:Int)≤(bitsLine:Int):=by decide +kernel
 omega
def tyO:Option HO→Option String
 | some (.lst _)=>some "list"
 | some (.frz _ (.lst _))=>some "list"
 | some (.tup _)=>some "tuple"
 | some (.dK _)=>some "dict"
 | some (.dT _)=>some "dict"
 | _=>none
def tyS (H:Hp):V→Option String
 | .non=>some "NoneType"
 | .bl _=>some "bool"
 | .int _=>some "int"
 | .str _=>some "str"
 | .ref a=>tyO (H a)
 | _=>none
theorem tyS_of {K:PySem.W.Frag} {H:Hp} {x:V} {T:String} (h:tyS H x=some T):TyOf K H x (.type T)∧(T="NoneType"∨T="bool"∨T="int"∨T="str"∨T="list"∨T="tuple"∨T="dict"):=by
 unfold tyS at h
 split at h
 ·cases h; exact ⟨.non,by simp⟩
 ·cases h; exact ⟨.bl _,by simp⟩
 ·cases h; exact ⟨.int _,by simp⟩
 ·cases h; exact ⟨.str _,by simp⟩
 ·unfold tyO at h
  split at h
  ·rename_i e; cases h; exact ⟨.lst e,by simp⟩
  ·rename_i e; cases h; exact ⟨.frz e,by simp⟩
  ·rename_i e; cases h; exact ⟨.tup e,by simp⟩
  ·rename_i e; cases h; exact ⟨.dK e,by simp⟩
  ·rename_i e; cases h; exact ⟨.dT e,by simp⟩
  ·cases h
 ·cases h
def isB (T c:String):Bool:=decide (T=c) || (decide (T="bool") && decide (c="int"))
theorem isB_tt:isB "tuple" "tuple"=true:=by decide
theorem kit_isB {K:PySem.W.Frag} {T c:String} (h:T="NoneType"∨T="bool"∨T="int"∨T="str"∨T="list"∨T="tuple"∨T="dict") (hc:c="int"∨c="bool"∨c="tuple"∨c="list"∨c="str") :
  PySem.W.kitOne K (.type T) (.type c)=some (isB T c):=by
 rcases h with rfl | rfl | rfl | rfl | rfl | rfl | rfl <;> rcases hc with rfl | rfl | rfl | rfl | rfl <;> rfl
theorem call_isin:CallR X (.builtin "isinstance") (fun xs H Q=>∃ x T c,xs=[x,.ty c]∧tyS H x=some T∧(c="int"∨c="bool"∨c="tuple"∨c="list"∨c="str")∧Q (.bl (isB T c)) H):=by
 intro pins s σ H xs us Q I r h
 obtain ⟨x,T,c,rfl,hT,hc,q⟩:=h
 obtain ⟨u,w',rfl,rx,ry⟩:=vals2 r
 cases (show w'=Value.type c from ry)
 obtain ⟨ty,hl⟩:=tyS_of (K:=X.K) hT
 exact isinst_ok I rx ty (kit_isB hl hc) fun tk=>⟨.bl (isB T c),H,I.tok tk,rfl,q⟩
end
section
variable {X:Cx}
end
end L2
namespace L2
open PySem PySem.Spec PyProof.Rows
structure DefOk (P:Program) (w:World) (K:PySem.W.Frag) (mg:Str→Option Value) (base:Heap) (k:Nat) (x:Str) (ps:List Str) (sp:Sp):Prop where
 ex:∃ (f:Addr) (fd:FuncData),FnOk P w K mg base CX0 k f fd ps sp∧mg x=some (.ref f)∧PySem.W.keepIn K (.ref f)=true∧Binds K fd ps []
section
variable {X:Cx} {k j:Nat} {x:Str} {ps:List Str} {sp:Sp} {p pos:Pos} {e:Expr} {es:List Expr} {t:TA}
theorem pe_fn (D:DefOk X.prog X.w X.K X.mg X.base k x ps sp) (hr:Room j X.A) (ha:PA X (e :: es) t) (hj:k≤j:=by decide) (hg:Gl X x:=by rfl) (hdb:(x == ("__debug__":Str))=false:=by decide)
  (he:starEach (e :: es) X.env=(false,eval e X.env) :: starEach es X.env:=by rfl) (hpl:(backTo pos (starEach es X.env)).any (·.1)=false:=by rfl):PE X (.Call (.Name x p) (e :: es) [] pos) (tCall sp [] E0 t):=by
 obtain ⟨f,fd,F,hm,hk,hb⟩:=D.ex
 exact pe_call F (hr.mono hj) hg hm hk hb .nil pass0 ha hdb he hpl
end
theorem lenOk {xs:List V} (n:Nat) (h:xs.length=n:=by rfl) (h2:n≤1000:=by decide):xs.length≤sizeLine:=by rw [h]; exact Nat.le_of_lt (small1000 h2)
theorem iteP {c:Bool} {A B:Prop} (h:c=true) (a:A):if c=true then A else B:=by rw [if_pos h]; exact a
theorem iteN {c:Bool} {A B:Prop} (h:c=false) (b:B):if c=true then A else B:=by rw [if_neg (by rw [h]; exact Bool.false_ne_true)]; exact b
theorem ite3 {c:Bool} {A B:Prop} (h1:c=true→A) (h2:c=false→B):if c=true then A else B:=by
 cases c with
 | true=>exact iteT (h1 rfl)
 | false=>exact iteF (h2 rfl)
theorem decI {i j:Int}:decide (V.int i=V.int j)=true↔i=j:=by
 rw [decide_eq_true_eq]
 exact ⟨fun h=>by injection h,fun h=>by rw [h]⟩
def SameX (p:Addr) (H H':Hp):Prop:=∀ b o,b≠p→H b=some o→H' b=some o
theorem SameX.refl {p:Addr} {H:Hp}:SameX p H H:=fun _ _ _ h=>h
theorem SameX.trans {p:Addr} {H H1 H2:Hp} (a:SameX p H H1) (b:SameX p H1 H2):SameX p H H2:=fun c o n h=>b c o n (a c o n h)
theorem SameX.upd {p:Addr} {H:Hp} {o:HO}:SameX p H (upd H p o):=fun b u n h=>by rw [upd_ne n]; exact h
theorem Same.new {l:Addr} {H:Hp} {o:HO} (h:H l=none):Same H (L2.upd H l o):=fun b u e=>by rw [upd_ne (ne_of_none e h)]; exact e
theorem SameX.same {p:Addr} {H H0 H':Hp} (a:SameX p H H') (s:Same H0 H) (h:H0 p=none):Same H0 H':=fun b o e=>a b o (ne_of_none e h) (s b o e)
theorem Same.x {p:Addr} {H H':Hp} (a:Same H H'):SameX p H H':=fun b o _ e=>a b o e
def cW (acc:Addr) (n:Nat) (Pv:Nat→List V→St→Hp→Prop) (i m:Nat) (σ:St) (H:Hp):Prop:=i≤n∧m=n - i∧∃ xs,xs.length=i∧H acc=some (.lst xs)∧Pv i xs σ H
def cNx (acc:Addr) (n:Nat) (Pv:Nat→List V→St→Hp→Prop) (i:Nat) (σ:St) (v:V) (H:Hp):Prop:=∃ xs,H acc=some (.lst xs)∧xs.length < sizeLine∧∃ m',m' < n - i∧cW acc n Pv (i+1) m' σ (upd H acc (.lst (xs++[v])))
theorem cNx.mk {acc:Addr} {n:Nat} {Pv:Nat→List V→St→Hp→Prop} {i:Nat} {σ:St} {v:V} {H:Hp} {xs:List V} (hn:n≤sizeLine) (hi:i < n) (hl:xs.length=i) (ha:H acc=some (.lst xs)) (hp:Pv (i+1) (xs++[v]) σ (upd H acc (.lst (xs++[v])))) :
  cNx acc n Pv i σ v H:=⟨xs,ha,by omega,n - (i+1),by omega,hi,rfl,xs++[v],by rw [List.length_append,hl]; rfl,upd_same,hp⟩
theorem comp_range {lo:Int} {n:Nat} {g:TG} {te:TE} {σ:St} {H1:Hp} {acc:Addr} {Qr:Hp→Prop} (Pv:Nat→List V→St→Hp→Prop) (h0:Pv 0 [] σ (upd H1 acc (.lst [])))
  (hs:∀ i xs σ H,i < n→xs.length=i→H acc=some (.lst xs)→Pv i xs σ H→g (.int (lo+i)) σ H fun σ2 H2=>te σ2 H2 fun v H3=>cNx acc n Pv i σ2 v H3)
  (hd:∀ xs σ H,xs.length=n→H acc=some (.lst xs)→Pv n xs σ H→Qr H) :
  ∃ W:Nat→Nat→St→Hp→Prop,(∃ m,W 0 m σ (upd H1 acc (.lst [])))∧∀ i m σ1 H2,W i m σ1 H2 →
   ((Itr lo n).stop i H2∧Qr H2)∨((Itr lo n).go i H2∧∀ x H3,(Itr lo n).yld i H2 x H3→g x σ1 H3 fun σ4 H4=>te σ4 H4 fun v H5=>∃ xs,H5 acc=some (.lst xs)∧xs.length < sizeLine∧∃ m',m' < m∧W (i+1) m' σ4 (upd H5 acc (.lst (xs++[v])))):=by
 refine ⟨cW acc n Pv,⟨n,Nat.zero_le _,rfl,[],rfl,upd_same,h0⟩,?_⟩
 rintro i m σ1 H2 ⟨hi,rfl,xs,hl,ha,hp⟩
 rcases Nat.lt_or_ge i n with h | h
 ·refine .inr ⟨h,?_⟩
  rintro x H3 ⟨rfl,rfl⟩
  exact hs i xs σ1 H3 h hl ha hp
 ·have e:i=n:=Nat.le_antisymm hi h
  subst e
  exact .inl ⟨Nat.le_refl _,hd xs σ1 H2 hl ha hp⟩
theorem comp_list {K:PySem.W.Frag} {a:Addr} {ys:List V} {g:TG} {te:TE} {σ:St} {H1:Hp} {acc:Addr} {Qr:Hp→Prop} (Pv:Nat→List V→St→Hp→Prop) (h0:Pv 0 [] σ (upd H1 acc (.lst [])))
  (hq:∀ i xs σ H,i≤ys.length→H acc=some (.lst xs)→Pv i xs σ H→SqL K H a ys)
  (hs:∀ i x xs σ H,ys[i]?=some x→i < ys.length→xs.length=i→H acc=some (.lst xs)→Pv i xs σ H→g x σ H fun σ2 H2=>te σ2 H2 fun v H3=>cNx acc ys.length Pv i σ2 v H3)
  (hd:∀ xs σ H,xs.length=ys.length→H acc=some (.lst xs)→Pv ys.length xs σ H→Qr H) :
  ∃ W:Nat→Nat→St→Hp→Prop,(∃ m,W 0 m σ (upd H1 acc (.lst [])))∧∀ i m σ1 H2,W i m σ1 H2 →
   ((Itl K a).stop i H2∧Qr H2)∨((Itl K a).go i H2∧∀ x H3,(Itl K a).yld i H2 x H3→g x σ1 H3 fun σ4 H4=>te σ4 H4 fun v H5=>∃ xs,H5 acc=some (.lst xs)∧xs.length < sizeLine∧∃ m',m' < m∧W (i+1) m' σ4 (upd H5 acc (.lst (xs++[v])))):=by
 refine ⟨cW acc ys.length Pv,⟨ys.length,Nat.zero_le _,rfl,[],rfl,upd_same,h0⟩,?_⟩
 rintro i m σ1 H2 ⟨hi,rfl,xs,hl,ha,hp⟩
 have hsq:=hq i xs σ1 H2 hi ha hp
 rcases Nat.lt_or_ge i ys.length with h | h
 ·refine .inr ⟨⟨ys,ys[i],hsq,List.getElem?_eq_getElem h⟩,?_⟩
  rintro x H3 ⟨rfl,hx⟩
  exact hs i x xs σ1 H3 (hx ys hsq) h hl ha hp
 ·have e:i=ys.length:=Nat.le_antisymm hi h
  subst e
  exact .inl ⟨⟨ys,hsq,Nat.le_refl _⟩,hd xs σ1 H2 hl ha hp⟩
end L2
namespace L2
open PySem PySem.Spec PyProof.Rows PySem.W
section
variable {cmp:Nat→Nat→(Bool→Shared→Prop)→Shared→Prop} {key:Nat→Int} {N:Nat} {s:Shared}
variable (hcmp:∀ i j (C:Bool→Shared→Prop),i < N→j < N→C (decide (key i < key j)) s→cmp i j C s)
include hcmp
end
end L2
namespace L2
open PySem PySem.Spec PyProof.Rows PySem.W
section
variable {prog:Program} {w:World} {A:Around} {E:Value→Shared→Prop} {s:Shared}
end
section
variable {X:Cx}
theorem refs_vals:∀ {ts:List Addr} {its:List Value},Vals (ts.map V.ref) its→its=ts.map Value.ref
 | [],_,.nil=>rfl
 | a :: r,_,.cons h t=>by
  cases (show _=Value.ref a from h)
  rw [List.map_cons,refs_vals t]
end
end L2
namespace L2
open PySem PySem.Spec PyProof.Rows
section
variable {κ:Type} [DecidableEq κ]
def valV (kvs:List (κ × V)) (k:κ):Option V:=(kvs.find? fun kv=>decide (kv.1=k)).map (·.2)
def putK (kvs:List (κ × V)) (k:κ) (v:V):List (κ × V) :=
 if (kvs.any fun kv=>decide (kv.1=k))=true then kvs.map (fun kv=>if kv.1=k then (kv.1,v) else kv) else kvs++[(k,v)]
theorem valV_pos {p:κ × V} {r:List (κ × V)} {k:κ} (e:p.1=k):valV (p :: r) k=some p.2:=by simp [valV,List.find?_cons,e]
theorem valV_neg {p:κ × V} {r:List (κ × V)} {k:κ} (e:¬ p.1=k):valV (p :: r) k=valV r k:=by simp [valV,List.find?_cons,e]
theorem valV_any (k:κ):∀ kvs:List (κ × V),(kvs.any fun kv=>decide (kv.1=k))=(valV kvs k).isSome
 | []=>rfl
 | p :: r=>by
  rw [List.any_cons]
  by_cases e:p.1=k
  ·simp only [valV_pos e,decide_eq_true e,Bool.true_or,Option.isSome_some]
  ·rw [valV_neg e,decide_eq_false e,Bool.false_or]; exact valV_any k r
theorem valV_map (k j:κ) (y:V):∀ kvs:List (κ × V),valV (kvs.map fun kv=>if kv.1=k then (kv.1,y) else kv) j=(valV kvs j).map fun x=>if j=k then y else x
 | []=>rfl
 | p :: r=>by
  have ih:=valV_map k j y r
  rw [List.map_cons]
  by_cases h:p.1=k
  ·rw [if_pos h]
   by_cases e:p.1=j
   ·rw [valV_pos (p:=(p.1,y)) e,valV_pos e,Option.map_some,if_pos (e.symm.trans h)]
   ·rw [valV_neg (p:=(p.1,y)) e,valV_neg e,ih]
  ·rw [if_neg h]
   by_cases e:p.1=j
   ·rw [valV_pos (p:=p) e,valV_pos e,Option.map_some,if_neg (fun z=>h (e.trans z))]
   ·rw [valV_neg (p:=p) e,valV_neg e,ih]
theorem valV_snoc (k j:κ) (y:V):∀ kvs:List (κ × V),valV kvs k=none→valV (kvs++[(k,y)]) j=if j=k then some y else valV kvs j
 | [],_=>by
  by_cases e:k=j
  ·rw [if_pos e.symm]; exact valV_pos (p:=(k,y)) e
  ·rw [if_neg (fun z=>e z.symm)]; exact valV_neg (p:=(k,y)) e
 | p :: r,hn=>by
  rw [List.cons_append]
  have hk:¬ p.1=k:=fun z=>by rw [valV_pos z] at hn; cases hn
  rw [valV_neg hk] at hn
  have ih:=valV_snoc k j y r hn
  by_cases e:p.1=j
  ·rw [valV_pos e,valV_pos e,if_neg (fun z=>hk (e.trans z))]
  ·rw [valV_neg e,valV_neg e,ih]
theorem valV_put (kvs:List (κ × V)) (k j:κ) (y:V):valV (putK kvs k y) j=if j=k then some y else valV kvs j:=by
 unfold putK
 by_cases a:(kvs.any fun kv=>decide (kv.1=k))=true
 ·rw [if_pos a,valV_map]
  rw [valV_any] at a
  by_cases e:j=k
  ·obtain ⟨x,hx⟩:=Option.isSome_iff_exists.mp a
   rw [if_pos e,e,hx,Option.map_some,if_pos rfl]
  ·rw [if_neg e]
   cases valV kvs j with
   | none=>rfl
   | some x=>rw [Option.map_some,if_neg e]
 ·rw [if_neg a]
  refine valV_snoc k j y kvs ?_
  rw [valV_any] at a
  cases q:valV kvs k with
  | none=>rfl
  | some x=>rw [q] at a; exact (a rfl).elim
theorem length_putK (kvs:List (κ × V)) (k:κ) (v:V):(putK kvs k v).length≤kvs.length+1:=by
 unfold putK
 split
 ·rw [List.length_map]; omega
 ·rw [List.length_append,List.length_cons,List.length_nil]; omega
theorem putK_new {kvs:List (κ × V)} {k:κ} (v:V) (h:valV kvs k=none):putK kvs k v=kvs++[(k,v)]:=by
 unfold putK
 rw [valV_any,h]
 exact if_neg (by decide)
theorem RelO.isSome_eq {o:Option V} {u:Option Value} (r:RelO o u):o.isSome=u.isSome:=by
 cases o with
 | none=>cases u with
  | none=>rfl
  | some _=>exact (show False from r).elim
 | some _=>cases u with
  | none=>exact (show False from r).elim
  | some _=>rfl
theorem KV.val {kvs:List (κ × V)} {vs:List (κ × Value)} (r:KV kvs vs) (k:κ):RelO (valV kvs k) (valueAt vs k):=by
 unfold KV at r
 induction r with
 | nil=>exact True.intro
 | @cons p q ps qs h t ih =>
  obtain ⟨h1,h2⟩:=h
  by_cases e:p.1=k
  ·have e':q.1=k:=h1.symm.trans e
   have b:valueAt (q :: qs) k=some q.2:=by simp [valueAt,List.find?_cons,e']
   rw [valV_pos e,b]; exact h2
  ·have e':¬ q.1=k:=fun z=>e (h1.trans z)
   have b:valueAt (q :: qs) k=valueAt qs k:=by simp [valueAt,List.find?_cons,e']
   rw [valV_neg e,b]; exact ih
theorem KV.any {kvs:List (κ × V)} {vs:List (κ × Value)} (r:KV kvs vs) (k:κ):(kvs.any fun kv=>decide (kv.1=k))=vs.any fun kv=>decide (kv.1=k):=by
 unfold KV at r
 induction r with
 | nil=>rfl
 | cons h t ih=>rw [List.any_cons,List.any_cons,ih,h.1]
theorem KV.repl {kvs:List (κ × V)} {vs:List (κ × Value)} (r:KV kvs vs) (k:κ) {y:V} {u:Value} (ry:RelV y u) :
  KV (kvs.map fun kv=>if kv.1=k then (kv.1,y) else kv) (vs.map fun kv=>if kv.1=k then (kv.1,u) else kv):=by
 unfold KV at r ⊢
 induction r with
 | nil=>exact .nil
 | @cons p q ps qs h t ih =>
  rw [List.map_cons,List.map_cons]
  refine .cons ?_ ih
  obtain ⟨h1,h2⟩:=h
  by_cases e:p.1=k
  ·rw [if_pos e,if_pos (h1.symm.trans e)]; exact ⟨h1,ry⟩
  ·rw [if_neg e,if_neg (fun z=>e (h1.trans z))]; exact ⟨h1,h2⟩
theorem KV.put {kvs:List (κ × V)} {vs:List (κ × Value)} (r:KV kvs vs) (k:κ) {y:V} {u:Value} (ry:RelV y u):KV (putK kvs k y) (stored vs k u):=by
 unfold putK stored
 rw [r.any k]
 by_cases e:(vs.any fun kv=>decide (kv.1=k))=true
 ·rw [if_pos e,if_pos e]; exact r.repl k ry
 ·rw [if_neg e,if_neg e]; exact Paired.snoc r ⟨rfl,ry⟩
theorem KV.length {kvs:List (κ × V)} {vs:List (κ × Value)} (r:KV kvs vs):kvs.length=vs.length:=Paired.length r
end
theorem kV_is {P:Program} {w:World} {k:Key} {u:Value} (r:RelV (kV k) u):(mixKind P w).is k u=true:=by
 cases k with
 | inl i=>obtain ⟨t,e⟩:=(show ∃ t,u=Value.int i t from r); subst e; exact mixKind_int P w i t
 | inr x=>obtain ⟨t,e⟩:=(show ∃ t,u=Value.str x t from r); subst e; exact mixKind_str P w x t
theorem items_are {P:Program} {w:World}:∀ {ks:List Key} {us:List Value},Vals (ks.map kV) us→ItemsAre (mixKind P w) ks us
 | [],_,r=>by rw [List.map_nil] at r; cases r; exact .nil
 | k :: ks,_,r=>by
  rw [List.map_cons] at r
  cases r with
  | cons h t=>exact .cons (kV_is h) (items_are t)
abbrev KT (H:Hp):List (List Key × V)→List (List Key × Addr × Value)→Prop:=Paired fun p q=>p.1=q.1∧H q.2.1=some (.tup (p.1.map kV))∧RelV p.2 q.2.2
theorem KT.val {H:Hp} {kvs:List (List Key × V)} {xs:List (List Key × Addr × Value)} (r:KT H kvs xs) (k:List Key):RelO (valV kvs k) ((atKey xs k).map (·.2)):=by
 induction r with
 | nil=>exact True.intro
 | @cons p q ps qs h t ih =>
  obtain ⟨h1,_,h2⟩:=h
  by_cases e:p.1=k
  ·have e':q.1=k:=h1.symm.trans e
   have b:atKey (q :: qs) k=some q.2:=by simp [atKey,List.find?_cons,e']
   rw [valV_pos e,b]; exact h2
  ·have e':¬ q.1=k:=fun z=>e (h1.trans z)
   have b:atKey (q :: qs) k=atKey qs k:=by simp [atKey,List.find?_cons,e']
   rw [valV_neg e,b]; exact ih
theorem KT.repl {H:Hp} {kvs:List (List Key × V)} {xs:List (List Key × Addr × Value)} (r:KT H kvs xs) (k:List Key) {y:V} {u:Value} (ry:RelV y u) :
  KT H (kvs.map fun kv=>if kv.1=k then (kv.1,y) else kv) (xs.map (putAt k u)):=by
 induction r with
 | nil=>exact .nil
 | @cons p q ps qs h t ih =>
  rw [List.map_cons,List.map_cons]
  refine .cons ?_ ih
  obtain ⟨h1,h2,h3⟩:=h
  unfold putAt
  by_cases e:p.1=k
  ·rw [if_pos e,if_pos (h1.symm.trans e)]; exact ⟨h1,h2,ry⟩
  ·rw [if_neg e,if_neg (fun z=>e (h1.trans z))]; exact ⟨h1,h2,h3⟩
theorem KT.put {H:Hp} {kvs:List (List Key × V)} {xs:List (List Key × Addr × Value)} (r:KT H kvs xs) (k:List Key) {b:Addr} {y:V} {u:Value} (hb:H b=some (.tup (k.map kV))) (ry:RelV y u) :
  KT H (putK kvs k y) (storedH xs k b u):=by
 have e:(kvs.any fun kv=>decide (kv.1=k))=(atKey xs k).isSome:=by
  rw [valV_any,(r.val k).isSome_eq,Option.isSome_map]
 unfold putK storedH
 rw [e]
 by_cases q:(atKey xs k).isSome=true
 ·rw [if_pos q,if_pos q]; exact r.repl k ry
 ·rw [if_neg q,if_neg q]; exact Paired.snoc r ⟨rfl,hb,ry⟩
theorem KT.keeps {H H':Hp} {kvs:List (List Key × V)} {xs:List (List Key × Addr × Value)} (r:KT H kvs xs) (ht:∀ b ys,H b=some (.tup ys)→H' b=some (.tup ys)):KT H' kvs xs :=
 Paired.mapP r fun _ _ z=>⟨z.1,ht _ _ z.2.1,z.2.2⟩
section
variable {P:Program} {w:World} {H:Hp} {h:Heap} {a:Addr}
theorem rd_of {u:HO} (ok:HOk P w H h) (e:Rd H a u):ObjOk P w H h a u:=e.ok ok
theorem dk_rd {kvs:List (Key × V)} (ok:HOk P w H h) (e:Rd H a (.dK kvs)):kvs.length≤sizeLine∧(a == sysModules)=false∧∃ vs,KV kvs vs∧h.DictOf (mixKind P w) a vs :=
 show ObjOk P w H h a (.dK kvs) from rd_of ok e
theorem dk_of {kvs:List (Key × V)} (ok:HOk P w H h) (e:H a=some (.dK kvs)):kvs.length≤sizeLine∧(a == sysModules)=false∧∃ vs,KV kvs vs∧h.DictOf (mixKind P w) a vs:=dk_rd ok (.inl e)
theorem key_of {ks:List Key} (ok:HOk P w H h) (e:H a=some (.tup (ks.map kV))):(tupleKind (mixKind P w)).is h ks a:=by
 obtain ⟨_,its,r,o,h1,h2,n,h3⟩:=(show ObjOk P w H h a (.tup (ks.map kV)) from ok a _ e)
 exact ⟨o,its.toArray,n,h1,h2,h3,by simpa using items_are r⟩
theorem dt_rd {kvs:List (List Key × V)} (ok:HOk P w H h) (e:Rd H a (.dT kvs)):kvs.length≤sizeLine∧(a == sysModules)=false ∧
  ∃ xs,KT H kvs xs∧h.DictOfH (tupleKind (mixKind P w)) a xs:=by
 obtain ⟨z,y,xs,r,o,es,ep,h1,h2,h3,h4,h5⟩:=(show ObjOk P w H h a (.dT kvs) from rd_of ok e)
 refine ⟨z,y,xs,r,o,es,ep,h1,h2,h3,h4,fun x hx=>?_,h5⟩
 have all:∀ {l:List (List Key × V)} {m:List (List Key × Addr × Value)},KT H l m→∀ x∈m,(tupleKind (mixKind P w)).is h x.1 x.2.1:=by
  intro l m q
  induction q with
  | nil=>intro x hx; exact nomatch hx
  | @cons p q ps qs hq t ih =>
   intro x hx
   rcases List.mem_cons.mp hx with e | hx
   ·subst e
    exact key_of ok (by rw [← hq.1]; exact hq.2.1)
   ·exact ih x hx
 exact all r x hx
theorem dt_of {kvs:List (List Key × V)} (ok:HOk P w H h) (e:H a=some (.dT kvs)):kvs.length≤sizeLine∧(a == sysModules)=false ∧
  ∃ xs,KT H kvs xs∧h.DictOfH (tupleKind (mixKind P w)) a xs:=dt_rd ok (.inl e)
end
def DGet (H:Hp) (a:Addr) (y:V) (r:Option V):Prop :=
 (∃ kvs k,Rd H a (.dK kvs)∧y=kV k∧r=valV kvs k)∨∃ kvs k b,Rd H a (.dT kvs)∧y=.ref b∧H b=some (.tup (k.map kV))∧r=valV kvs k
def DPut (H:Hp) (a:Addr) (y v:V) (H':Hp):Prop :=
 (∃ kvs k,H a=some (.dK kvs)∧y=kV k∧kvs.length < sizeLine∧H'=upd H a (.dK (putK kvs k v))) ∨
 ∃ kvs k b,H a=some (.dT kvs)∧y=.ref b∧H b=some (.tup (k.map kV))∧kvs.length < sizeLine∧H'=upd H a (.dT (putK kvs k v))
theorem DGet.k {H:Hp} {a:Addr} {kvs:List (Key × V)} {k:Key} (e:H a=some (.dK kvs)):DGet H a (kV k) (valV kvs k):=.inl ⟨kvs,k,.inl e,rfl,rfl⟩
theorem DPut.k {H:Hp} {a:Addr} {kvs:List (Key × V)} {k:Key} {v:V} (e:H a=some (.dK kvs)) (hl:kvs.length < sizeLine):DPut H a (kV k) v (upd H a (.dK (putK kvs k v))):=.inl ⟨kvs,k,e,rfl,hl,rfl⟩
section
variable {X:Cx} {pins:List (Addr × Obj)} {σ:St} {H:Hp} {s:Shared} {a:Addr} {y v:V} {u r:Value} {o:Option V} {A:Around} {E:Value→Shared→Prop}
theorem Inv.big (I:Inv X pins σ H s):sysModules < s.heap.objs.size:=by
 have h:mainGlobals < s.heap.objs.size:=(I.mod.glob.keeps I.bk).lt
 exact Nat.lt_trans (by decide) h
theorem d_getItem {Q:Value→Shared→Prop} (hu:A.units+1 < cLine) (I:Inv X pins σ H s) (g:DGet H a y (some v)) (ry:RelV y u) (h:∀ w' s',Inv X pins σ H s'→RelV v w'→Q w' s') :
  wpAny (model X.prog X.w) A (getItem (.ref a) u) Q E s:=by
 rcases g with ⟨kvs,k,e,ey,l⟩ | ⟨kvs,k,b,e,ey,eb,l⟩
 ·subst ey
  obtain ⟨z,hd,vs,rel,dd⟩:=dk_rd I.hok e
  obtain ⟨w',hw,rw'⟩:=RelO.some_of (v:=v) (o:=valueAt vs k) (by rw [l]; exact rel.val k)
  exact wpAny_getItem_of (kV_is ry) dd.mapOf hw (h w' _ (I.tok _) rw')
 ·subst ey
  cases (show u=Value.ref b from ry)
  obtain ⟨z,hd,xs,rel,dd⟩:=dt_rd I.hok e
  obtain ⟨w',hw,rw'⟩:=RelO.some_of (v:=v) (o:=(atKey xs k).map (·.2)) (by rw [l]; exact rel.val k)
  obtain ⟨p,hp,hp2⟩:=Option.map_eq_some_iff.mp hw
  refine wpAny_getItem_heap (tupleKind_room_in1 hu) (key_of I.hok eb) dd hp ?_
  rw [hp2]
  exact h w' _ (I.tok _) rw'
theorem d_in {Q:Value→Shared→Prop} (hu:A.units+1 < cLine) (I:Inv X pins σ H s) (g:DGet H a y o) (ry:RelV y u) (h:∀ s',Inv X pins σ H s'→Q (.bool o.isSome) s') :
  wpAny (model X.prog X.w) A (compareOp .In u (.ref a)) Q E s:=by
 rcases g with ⟨kvs,k,e,ey,l⟩ | ⟨kvs,k,b,e,ey,eb,l⟩
 ·subst ey
  obtain ⟨z,hd,vs,rel,dd⟩:=dk_rd I.hok e
  refine wpAny_in_of (kV_is ry) hd dd.mapOf ?_
  rw [← (rel.val k).isSome_eq,← l]
  exact h _ (I.tok _)
 ·subst ey
  cases (show u=Value.ref b from ry)
  obtain ⟨z,hd,xs,rel,dd⟩:=dt_rd I.hok e
  refine wpAny_in_heap (tupleKind_room_in1 hu) (key_of I.hok eb) hd dd ?_
  have q:=(rel.val k).isSome_eq
  rw [Option.isSome_map] at q
  rw [← q,← l]
  exact h _ (I.tok _)
theorem d_notIn {Q:Value→Shared→Prop} (hu:A.units+1 < cLine) (I:Inv X pins σ H s) (g:DGet H a y o) (ry:RelV y u) (h:∀ s',Inv X pins σ H s'→Q (.bool (!o.isSome)) s') :
  wpAny (model X.prog X.w) A (compareOp .NotIn u (.ref a)) Q E s:=by
 rcases g with ⟨kvs,k,e,ey,l⟩ | ⟨kvs,k,b,e,ey,eb,l⟩
 ·subst ey
  obtain ⟨z,hd,vs,rel,dd⟩:=dk_rd I.hok e
  refine wpAny_notIn_of (kV_is ry) hd dd.mapOf ?_
  rw [← (rel.val k).isSome_eq,← l]
  exact h _ (I.tok _)
 ·subst ey
  cases (show u=Value.ref b from ry)
  obtain ⟨z,hd,xs,rel,dd⟩:=dt_rd I.hok e
  refine wpAny_notIn_heap (tupleKind_room_in1 hu) (key_of I.hok eb) hd dd ?_
  have q:=(rel.val k).isSome_eq
  rw [Option.isSome_map] at q
  rw [← q,← l]
  exact h _ (I.tok _)
theorem d_write {h':Heap} {t':Nat} {ob:HO} (I:Inv X pins σ H s) (mu:Mut (H a)) (hs:Heap.SameBut a s.heap h') (he:∃ q,h'.get? a=some q) (new:ObjOk X.prog X.w (upd H a ob) h' a ob) :
  Inv X pins σ (upd H a ob) { s with heap:=h',toks:=t' } :=
 I.write (x:=a) (e:=a) mu (.inl rfl) (fun b q hb z=>(hs.2 b hb).trans z) he new
theorem dk_new {P:Program} {w:World} {H':Hp} {h':Heap} {kvs:List (Key × V)} {vs:List (Key × Value)} (z:kvs.length≤sizeLine) (hd:(a == sysModules)=false) (rel:KV kvs vs) (dd:h'.DictOf (mixKind P w) a vs) :
  ObjOk P w H' h' a (.dK kvs):=⟨z,hd,vs,rel,dd⟩
theorem d_setItem {H':Hp} {Q:Unit→Shared→Prop} (hu:A.units+1 < cLine) (I:Inv X pins σ H s) (g:DPut H a y v H') (ry:RelV y u) (rv:RelV v r) (h:∀ s',Inv X pins σ H' s'→Q () s') :
  wpAny (model X.prog X.w) A (setItem (.ref a) u r) Q E s:=by
 rcases g with ⟨kvs,k,e,ey,l,eH⟩ | ⟨kvs,k,b,e,ey,eb,l,eH⟩
 ·subst ey eH
  obtain ⟨z,hd,vs,rel,dd⟩:=dk_of I.hok e
  have hz:vs.length≤sizeLine:=by rw [← rel.length]; exact z
  have hl:(putK kvs k v).length≤sizeLine:=by have:=length_putK kvs k v; omega
  refine wpAny_setItem_pairs (hsz:=hz) (kV_is ry) dd fun h' dd' hs=>h _ ?_
  have he:∃ q,h'.get? a=some q:=let ⟨q,_,_,hq,_⟩:=dd'; ⟨q,hq⟩
  exact d_write I (by rw [e]; exact True.intro) hs he (dk_new hl hd (rel.put k rv) dd')
 ·subst ey eH
  cases (show u=Value.ref b from ry)
  obtain ⟨z,hd,xs,rel,dd⟩:=dt_of I.hok e
  have hz:xs.length≤sizeLine:=by rw [← Paired.length rel]; exact z
  have hl:(putK kvs k v).length≤sizeLine:=by have:=length_putK kvs k v; omega
  refine wpAny_setItem_heap (hsz:=hz) (tupleKind_room_in1 hu) (key_of I.hok eb) dd fun h' dd' hs=>h _ ?_
  obtain ⟨q,es,ep,hq,h2,h3,h4,_,h5⟩:=dd'
  refine d_write I (by rw [e]; exact True.intro) hs ⟨q,hq⟩ ⟨hl,hd,_,(rel.put k eb rv).keeps fun c ys ec=>?_,q,es,ep,hq,h2,h3,h4,h5⟩
  rw [upd_ne (ne_of ec e (fun z=>nomatch z))]
  exact ec
end
section
variable {X:Cx} {pins:List (Addr × Obj)} {σ:St} {H:Hp} {s:Shared} {a:Addr} {kvs:List (Key × V)} {k:Key} {u:Value} {A:Around} {E:Value→Shared→Prop}
end
def NoSl (i:Expr):Prop:=∀ ov iv,subscripted i false ov iv=operate [ov,iv] (getItem ov iv)
theorem subD_of {prog:Program} {w:World} {A:Around} {E:Value→Shared→Prop} {s:Shared} {env:Env} {value slice:Expr} {pos:Pos} {T id:String} {Q:Value→Shared→Prop}
  (hl:typeLookup (.type T) "__getitem__"=pure (some (.builtin id))) (hs:NoSl slice)
  (h:wpAny (model prog w) A (eval value env) (fun o s₁=>wpAny (model prog w) A (eval slice env) (fun i s₂=>s₂.TypeIs o T∧wpAny (model prog w) A (getItem o i) Q E s₂) E s₁) E s) :
  wpAny (model prog w) A (eval (.Subscript value slice pos) env) Q E s:=by
 refine Subscript_ (wpAny_mono h (fun o s₁ h₁=>wpAny_mono h₁ (fun i s₂ h₂=>?_) fun _ _ x=>x) fun _ _ x=>x)
 obtain ⟨hT,h₂⟩:=h₂
 unfold subscriptTail
 refine wpAny_bind ?_
 rw [getitemInPython_of_ne hT.not_modules]
 refine wpAny_bind (wpAny_specialOf hT hl ?_)
 have fin:wpAny (model prog w) A (subscripted slice false o i) (fun r s₃=>wpAny (model prog w) A (letTemporaryGo value o r >>= fun _=>pure r) Q E s₃) E s₂:=by
  rw [hs o i]
  exact wpAny_operating (wpAny_mono h₂ (fun r s₃ h₃=>wpAny_bind (wpAny_letTemporaryGo (wpAny_pure h₃))) fun _ _ x=>x)
 first
  | exact wpAny_pure (wpAny_bind fin)
  | exact wpAny_bind (wpAny_pure (wpAny_bind fin))
  | exact wpAny_bind fin
theorem dict_typeIs {X:Cx} {pins:List (Addr × Obj)} {σ:St} {H:Hp} {s:Shared} {a:Addr} {y:V} {o:Option V} (I:Inv X pins σ H s) (g:DGet H a y o):s.TypeIs (.ref a) "dict":=by
 rcases g with ⟨kvs,k,e,_,_⟩ | ⟨kvs,k,b,e,_,_,_⟩
 ·obtain ⟨_,_,vs,_,dd⟩:=dk_rd I.hok e
  exact dd.typeIs
 ·obtain ⟨_,_,xs,_,dd⟩:=dt_rd I.hok e
  exact dd.typeIs
def tDGet (td ty:TE):TE:=fun σ H Q=>td σ H fun x H1=>ty σ H1 fun y H2=>∃ a v,x=.ref a∧DGet H2 a y (some v)∧Q v H2
def tDIn (ty td:TE):TE:=fun σ H Q=>ty σ H fun y H1=>td σ H1 fun x H2=>∃ a o,x=.ref a∧DGet H2 a y o∧Q (.bl o.isSome) H2
def tDNotIn (ty td:TE):TE:=fun σ H Q=>ty σ H fun y H1=>td σ H1 fun x H2=>∃ a o,x=.ref a∧DGet H2 a y o∧Q (.bl (!o.isSome)) H2
def sDPut (td ty tv:TE):TS:=fun D σ H=>tv σ H fun v H1=>td σ H1 fun x H2=>ty σ H2 fun y H3=>∃ a H4,x=.ref a∧DPut H3 a y v H4∧D.nx σ H4
section
variable {X:Cx} {o i e value:Expr} {pos pos' tpos:Pos} {td ty tv:TE}
theorem pe_dget (hu:X.A.units+1 < cLine) (ho:PE X o td) (hi:PE X i ty) (hs:NoSl i):PE X (.Subscript o i pos) (tDGet td ty):=by
 intro pins s σ H Q I h
 refine subD_of PySem.F.slot_dict_getitem.lookup hs (thn (ho pins s σ H _ I h) fun u s1 ⟨x,H1,I1,rx,q1⟩=>thn (hi pins s1 σ H1 _ I1 q1) fun iv s2 ⟨y,H2,I2,ry,a,v,ex,g,q2⟩=>?_)
 subst ex
 obtain rfl:u=Value.ref a:=rx
 exact ⟨dict_typeIs I2 g,d_getItem hu I2 g ry fun w' s3 I3 rw'=>⟨v,H2,I3,rw',q2⟩⟩
theorem pc_din (hu:X.A.units+1 < cLine) (hi:PE X i ty) (ho:PE X o td):PC X .In i o (tDIn ty td):=by
 intro pins s σ H Q I h
 refine thn (hi pins s σ H _ I h) fun iv s1 ⟨y,H1,I1,ry,q1⟩=>thn (ho pins s1 σ H1 _ I1 q1) fun u s2 ⟨x,H2,I2,rx,a,ov,ex,g,q2⟩=>?_
 subst ex
 obtain rfl:u=Value.ref a:=rx
 exact d_in hu I2 g ry fun s3 I3=>⟨.bl ov.isSome,H2,I3,rfl,q2⟩
theorem pc_dnotin (hu:X.A.units+1 < cLine) (hi:PE X i ty) (ho:PE X o td):PC X .NotIn i o (tDNotIn ty td):=by
 intro pins s σ H Q I h
 refine thn (hi pins s σ H _ I h) fun iv s1 ⟨y,H1,I1,ry,q1⟩=>thn (ho pins s1 σ H1 _ I1 q1) fun u s2 ⟨x,H2,I2,rx,a,ov,ex,g,q2⟩=>?_
 subst ex
 obtain rfl:u=Value.ref a:=rx
 exact d_notIn hu I2 g ry fun s3 I3=>⟨.bl (!ov.isSome),H2,I3,rfl,q2⟩
theorem ps_dput (hu:X.A.units+1 < cLine) (ho:PE X o td) (hi:PE X i ty) (hv:PE X value tv) (hs:swapsWith value (some (.Subscript o i pos')) pos.line X.env=pure false) :
  PS X (.Assign [.Subscript o i pos'] value pos) (sDPut td ty tv):=by
 intro pins s σ H D I h
 refine wpAny_Assign_Subscript (thn (hv pins s σ H _ I h) fun r s1 ⟨v,H1,I1,rv,q1⟩=>thn (ho pins s1 σ H1 _ I1 q1) fun u s2 ⟨x,H2,I2,rx,q2⟩=>thn (hi pins s2 σ H2 _ I2 q2) fun iv s3 ⟨y,H3,I3,ry,a,H4,ex,g,q3⟩=>?_) hs
 subst ex
 obtain rfl:u=Value.ref a:=rx
 exact d_setItem hu I3 g ry rv fun s4 I4=>⟨σ,H4,I4,q3⟩
end
theorem dk_empty {P:Program} {w:World} {H:Hp} (h:Heap) (hb:sysModules < h.objs.size):ObjOk P w H (h.push { cls:=.type "dict",data:=.dict #[] }) h.objs.size (.dK []) :=
 ⟨Nat.zero_le _,beq_eq_false_iff_ne.mpr (Ne.symm (Nat.ne_of_lt hb)),[],.nil,Heap.DictOf.new h⟩
def tDNewK:TE:=fun _ H Q=>∀ p,H p=none→Q (.ref p) (upd H p (.dK []))
section
variable {X:Cx} {pos:Pos}
theorem pe_dnewK:PE X (.Dict [] [] pos) tDNewK:=fun pins s σ H Q I h =>
 wpAny_Dict_empty ⟨.ref s.heap.objs.size,_,I.laid (a:=s.heap.objs.size) (o:=.dK []) (t':=s.toks) (fun _ _ q=>Heap.get?_push_of_some _ q) (Nat.le_refl _) (dk_empty s.heap I.big),rfl,h _ (I.hok.fresh (Nat.le_refl _))⟩
end
def tPairs:List (TE × TE)→St→Hp→(List (V × V)→Hp→Prop)→Prop
 | [],_,H,Q=>Q [] H
 | (tk,tv) :: r,σ,H,Q=>tk σ H fun x H1=>tv σ H1 fun y H2=>tPairs r σ H2 fun ps H3=>Q ((x,y) :: ps) H3
abbrev VV:List (V × V)→List (Value × Value)→Prop:=Paired fun p q=>RelV p.1 q.1∧RelV p.2 q.2
def PPs (X:Cx) (pos:Pos) (keys:List (Option Expr)) (values:List Expr) (trs:List (TE × TE)):Prop :=
 ∀ (pins:List (Addr × Obj)) (s:Shared) (σ:St) (H:Hp) (Q:List (V × V)→Hp→Prop),Inv X pins σ H s→tPairs trs σ H Q →
  wpAny (model X.prog X.w) X.A (evalPairs (pairTrees keys values X.env pos)) (fun vs s'=>∃ ps H',Inv X pins σ H' s'∧VV ps vs∧Q ps H') X.xe s
theorem pps_nil {X:Cx} {pos:Pos}:PPs X pos [] [] []:=fun pins s σ H Q I h=>pairTrees_nil_walk ⟨[],H,I,.nil,h⟩
theorem pps_cons {X:Cx} {pos:Pos} {k v:Expr} {ks:List (Option Expr)} {vs:List Expr} {tk tv:TE} {trs:List (TE × TE)} (hk:PE X k tk) (hv:PE X v tv) (hr:PPs X pos ks vs trs) :
  PPs X pos (some k :: ks) (v :: vs) ((tk,tv) :: trs):=fun pins s σ H Q I h =>
 pairTrees_cons_walk (thn (hk pins s σ H _ I h) fun u s1 ⟨x,H1,I1,rx,q1⟩=>thn (hv pins s1 σ H1 _ I1 q1) fun w2 s2 ⟨y,H2,I2,ry,q2⟩ =>
  thn (hr pins s2 σ H2 _ I2 q2) fun ws s3 ⟨ps,H3,I3,rel,q3⟩=>⟨(x,y) :: ps,H3,I3,.cons ⟨rx,ry⟩ rel,q3⟩)
def mergeK (kvs more:List (Key × V)):List (Key × V):=more.foldl (fun acc kv=>putK acc kv.1 kv.2) kvs
theorem KV.merge:∀ {more:List (Key × V)} {rs:List (Key × Value)} {kvs:List (Key × V)} {vs:List (Key × Value)},KV more rs→KV kvs vs→KV (mergeK kvs more) (merged vs rs):=by
 intro more rs kvs vs r
 unfold KV at r
 induction r generalizing kvs vs with
 | nil=>intro q; exact q
 | @cons p q ps qs h t ih =>
  intro r0
  have e:KV (putK kvs p.1 p.2) (stored vs q.1 q.2):=by
   have:=r0.put p.1 h.2
   rw [← h.1]; exact this
  exact ih e
theorem length_mergeK:∀ (more kvs:List (Key × V)),(mergeK kvs more).length≤kvs.length+more.length
 | [],kvs=>by show kvs.length≤kvs.length+0; omega
 | p :: r,kvs=>by
  have h1:=length_mergeK r (putK kvs p.1 p.2)
  have h2:=length_putK kvs p.1 p.2
  show (mergeK (putK kvs p.1 p.2) r).length≤_
  rw [List.length_cons]; omega
theorem carries_of {P:Program} {w:World}:∀ {kvs:List (Key × V)} {ws:List (Value × Value)},VV (kvs.map fun kv=>(kV kv.1,kv.2)) ws→∃ rs,Carries (mixKind P w) ws rs∧KV kvs rs
 | [],_,r=>by rw [List.map_nil] at r; cases r; exact ⟨[],True.intro,.nil⟩
 | p :: kvs,_,r=>by
  rw [List.map_cons] at r
  cases r with
  | @cons a b as bs h t =>
   obtain ⟨rs,c,q⟩:=carries_of (P:=P) (w:=w) t
   obtain ⟨b1,b2⟩:=b
   exact ⟨(p.1,b2) :: rs,⟨kV_is h.1,rfl,c⟩,.cons ⟨rfl,h.2⟩ q⟩
def tDisp (trs:List (TE × TE)):TE:=fun σ H Q=>∀ p,H p=none→tPairs trs σ (upd H p (.dK [])) fun ps H2=>H2 p=some (.dK [])∧∃ kvs:List (Key × V),ps=kvs.map (fun kv=>(kV kv.1,kv.2))∧kvs.length≤15∧Q (.ref p) (upd H2 p (.dK (mergeK [] kvs)))
theorem pe_disp {X:Cx} {pos:Pos} {keys:List (Option Expr)} {values:List Expr} {trs:List (TE × TE)} (h:PPs X pos keys values trs) (hall:keys.all (·.isSome)=true) (hl:keys.length=values.length) (h0:keys≠[])
  (h15:keys.length≤15):PE X (.Dict keys values pos) (tDisp trs):=by
 intro pins s σ H Q I q
 have hn:=I.hok.fresh (Nat.le_refl s.heap.objs.size)
 have I1:=I.laid (a:=s.heap.objs.size) (o:=.dK []) (h':=s.heap.push { cls:=.type "dict",data:=.dict #[] }) (t':=s.toks) (fun _ _ q=>Heap.get?_push_of_some _ q) (Nat.le_refl _) (dk_empty s.heap I.big)
 refine wpAny_Dict_walk (knd:=mixKind X.prog X.w) hall hl h0 h15 (thn (h pins _ σ _ _ I1 (q _ hn)) fun ws s2 ⟨ps,H2,I2,rel,e,kvs,ep,lk,q2⟩=>?_)
 subst ep
 obtain ⟨rs,c,rk⟩:=carries_of (P:=X.prog) (w:=X.w) rel
 obtain ⟨z,hd,vs0,r0,dd⟩:=dk_of I2.hok e
 cases r0
 refine ⟨rs,c,dd,fun h' dd' hs=>⟨.ref s.heap.objs.size,_,?_,rfl,q2⟩⟩
 have hz:(mergeK [] kvs).length≤sizeLine:=by
  have h1:=length_mergeK kvs []
  rw [List.length_nil] at h1
  rw [sizeLine_eq]; omega
 have he:∃ q,h'.get? s.heap.objs.size=some q:=let ⟨q,_,_,hq,_⟩:=dd'; ⟨q,hq⟩
 exact d_write I2 (by rw [e]; exact True.intro) hs he (dk_new hz hd (rk.merge .nil) dd')
def IsD (H:Hp) (a:Addr):Prop:=(∃ kvs,Rd H a (.dK kvs))∨∃ kvs,Rd H a (.dT kvs)
theorem isD_at {X:Cx} {pins:List (Addr × Obj)} {σ:St} {H:Hp} {s:Shared} {a:Addr} (I:Inv X pins σ H s) (d:IsD H a) :
  s.TypeIs (.ref a) "dict"∧(∀ b,Value.ref a=.ref b→∃ ob,s.heap.get? b=some ob∧ob.dict=none)∧(a == sysModules)=false:=by
 rcases d with ⟨kvs,e⟩ | ⟨kvs,e⟩
 ·obtain ⟨_,hd,vs,_,dd⟩:=dk_rd I.hok e
  refine ⟨dd.typeIs,fun b q=>?_,hd⟩
  cases q
  obtain ⟨ob,_,_,h1,h2,_⟩:=dd
  exact ⟨ob,h1,h2.2.1⟩
 ·obtain ⟨_,hd,xs,_,dd⟩:=dt_rd I.hok e
  refine ⟨dd.typeIs,fun b q=>?_,hd⟩
  cases q
  obtain ⟨ob,_,_,h1,h2,_⟩:=dd
  exact ⟨ob,h1,h2.2.1⟩
section
variable {X:Cx} {pins:List (Addr × Obj)} {σ:St} {H:Hp} {s:Shared} {a:Addr} {y d:V} {u r:Value} {o:Option V} {A:Around} {E:Value→Shared→Prop}
end
section
variable {X:Cx} {o e f:Expr} {apos cpos:Pos} {td ty tx:TE}
end
section
variable {X:Cx} {pins:List (Addr × Obj)} {σ:St} {H:Hp} {s:Shared} {a:Addr} {kvs:List (Key × V)} {A:Around} {E:Value→Shared→Prop}
end
section
variable {X:Cx} {pins:List (Addr × Obj)} {σ:St} {H:Hp} {s:Shared} {a:Addr} {y:V} {u:Value} {A:Around} {E:Value→Shared→Prop}
end
section
variable {κ:Type} [DecidableEq κ]
end
section
variable {X:Cx}
end
end L2
namespace L2
open PySem PySem.Spec PyProof.Rows
def Ite (K:PySem.W.Frag) (a:Addr):It :=
 ⟨fun i H=>∃ xs x,SqL K H a xs∧xs[i]?=some x,fun i H y H'=>∃ t x,(∀ xs,SqL K H a xs→xs[i]?=some x)∧y=.ref t∧H t=none∧H'=upd H t (.tup [.int i,x]),fun i H=>∃ xs,SqL K H a xs∧xs.length≤i⟩
theorem enum_step {X:Cx} {pins:List (Addr × Obj)} {σ:St} {H:Hp} {s:Shared} {h':Heap} {e it:Addr} {t':Nat} {ys:List V} (I:Inv X pins σ H s) (fe:FpOk X pins H e) (fi:FpOk X pins H it)
  (k:∀ b o,b≠e→b≠it→s.heap.get? b=some o→h'.get? b=some o) (he:∃ o,h'.get? e=some o) (hi:∃ o,h'.get? it=some o)
  (new:ObjOk X.prog X.w (upd H s.heap.objs.size (.tup ys)) h' s.heap.objs.size (.tup ys)) :
  Inv X pins σ (upd H s.heap.objs.size (.tup ys)) { s with heap:=h',toks:=t' }:=by
 have hn:H s.heap.objs.size=none:=I.hok.fresh (Nat.le_refl _)
 obtain ⟨e0,e1,e2,e3,e4,e5⟩:=fe
 obtain ⟨i0,i1,i2,i3,i4,i5⟩:=fi
 have nt:∀ b u,H b=some u→b≠e∧b≠it:=fun b u q=>⟨fun z=>(by rw [z,e0] at q; cases q),fun z=>(by rw [z,i0] at q; cases q)⟩
 have nc:∀ b,b ∉ [e,it]→b≠e∧b≠it:=fun b hb=>⟨fun z=>hb (by simp [z]),fun z=>hb (by simp [z])⟩
 have ne:∀ b u,H b=some u→b≠s.heap.objs.size:=fun b u q=>ne_of_none q hn
 refine I.step (g':=s.gens) (d':=s.drawn) (ch:=[e,it]) (fun b hb=>?_) (fun b o _ _ hc q _=>k b o (nc b hc).1 (nc b hc).2 q) (fun b o _ _ hc q _=>⟨o.slots,k b o (nc b hc).1 (nc b hc).2 q⟩)
  (fun b o _ q n=>by rw [upd_ne (Nat.ne_of_lt (Heap.lt_size q))]; exact n) (fun b o hc q=>⟨o,k b o (nc b hc).1 (nc b hc).2 q⟩) (fun b xs q=>by rw [upd_ne (ne b _ q)]; exact q) (fun b o u q=>by rw [upd_ne (ne b _ q)]; exact q)
  (fun b ps q=>⟨#[],by rw [upd_ne (ne b _ q),q]; simp⟩) (fun m hm=>?_) (fun b u q=>?_) I.bare
 ·rcases List.mem_cons.mp hb with rfl | hb
  ·exact ⟨e3,e1,e4,e5⟩
  ·rw [List.mem_singleton.mp hb]; exact ⟨i3,i1,i4,i5⟩
 ·obtain ⟨o,es,ep,ho,r⟩:=hm
  exact ⟨o,es,ep,k _ o (Ne.symm e1) (Ne.symm i1) ho,r⟩
 ·by_cases hb:b=s.heap.objs.size
  ·subst hb; rw [upd_same] at q; cases q; exact new
  ·rw [upd_ne hb] at q
   refine (I.hok b u q).stay (fun c v hc z=>k c v ?_ ?_ z) (fun c z=>by rw [upd_ne (ne c _ z)]; exact z) fun c xs z=>by rw [upd_ne (ne c _ z)]; exact z
   ·rcases hc with rfl | hc
    ·exact (nt c u q).1
    ·exact (nt c _ hc).1
   ·rcases hc with rfl | hc
    ·exact (nt c u q).2
    ·exact (nt c _ hc).2
theorem turn_enum {P:Program} {w:World} {K:PySem.W.Frag} {es:List Expr} {k:Nat} {pos:Pos} (a e it:Addr) (hei:e≠it) :
  Turn P w K (.Tuple es k pos) (Ite K a) [e,it] e (fun i h=>(∃ old,IsEnum h e it i old)∧h.IsListIter it a i) where
 mem:=by simp
 obj:=fun i h st b hb=>by
  obtain ⟨⟨old,he⟩,⟨o,eo,c,d⟩⟩:=st
  rcases List.mem_cons.mp hb with rfl | hb
  ·exact ⟨_,he,fun v z=>by
    have z':Data.fields _=Data.cell v:=z
    cases z'⟩
  ·rw [List.mem_singleton.mp hb]; exact ⟨o,eo,fun v z=>by rw [d] at z; cases z⟩
 keep:=fun i h h' st kk=>by
  obtain ⟨⟨old,he⟩,st⟩:=st
  exact ⟨⟨old,kk e (by simp) _ he⟩,st.at fun o z=>kk it (by simp) o z⟩
 item:=by
  intro X hP hw hK hc i pins s σ H E I hf st hg
  subst hP hw hK
  obtain ⟨⟨old,he⟩,st⟩:=st
  obtain ⟨xs,x,hq,hx⟩:=hg
  obtain ⟨its,rv,p,hz⟩:=I.list hq
  obtain ⟨u,hu,ru⟩:=rv.get hx
  have fe:=hf e (by simp)
  have fi:=hf it (by simp)
  refine wpAny_pyNext_enum_item he st p.isList (x:=u) (by simpa using hu) hei fun h' he' st' ht hz' kk=>?_
  refine ⟨_,rfl,?_⟩
  have ltE:e < s.heap.objs.size:=Heap.lt_size he
  have hn:H s.heap.objs.size=none:=I.hok.fresh (Nat.le_refl _)
  have I1:Inv X pins σ (upd H s.heap.objs.size (.tup [.int i,x])) { s with heap:=h',toks:=s.toks+1 }:=by
   refine enum_step I fe fi kk ⟨_,he'⟩ (let ⟨o,eo,_⟩:=st'; ⟨o,eo⟩) ⟨?_,[.int i s.toks,u],.cons ⟨_,rfl⟩ (.cons ru .nil),⟨_,ht,rfl,_,rfl⟩⟩
   show 2≤sizeLine
   decide
  refine wpAny_letOwnedTupleGo_enum (s:={ s with heap:=h',toks:=s.toks+1 }) he' fun h2 he2 sb=>?_
  have neE:e≠s.heap.objs.size:=Nat.ne_of_lt ltE
  have fe2:(upd H s.heap.objs.size (.tup [.int i,x])) e=none:=by rw [upd_ne neE]; exact fe.1
  have I2:Inv X pins σ (upd H s.heap.objs.size (.tup [.int i,x])) { ({ s with heap:=h',toks:=s.toks+1 }:Shared) with heap:=h2,toks:=s.toks+1 } :=
   I1.turned (t':=s.toks+1) (it:=e) (fun b o hb z=>(sb.2 b hb).trans z) fe2 fe.2.1 fe.2.2.2.1 fe.2.2.2.2.1 fe.2.2.2.2.2
  obtain ⟨oi,hoi,_⟩:=id st
  have ltI:it < s.heap.objs.size:=Heap.lt_size hoi
  refine ⟨.ref s.heap.objs.size,_,I2,rfl,⟨_,x,fun ys hy=>by rw [I.list_inj hy hq]; exact hx,rfl,hn,rfl⟩,⟨⟨u,?_⟩,?_⟩,fun b hb=>?_⟩
  ·have e1:((i+1:Nat):Int)=(i:Int)+1:=by push_cast; rfl
   rw [e1]; exact he2
  ·exact st'.at fun o z=>(sb.2 it (Ne.symm hei)).trans z
  ·rcases List.mem_cons.mp hb with rfl | hb
   ·exact fe2
   ·rw [List.mem_singleton.mp hb,upd_ne (Nat.ne_of_lt ltI)]; exact fi.1
 done:=by
  intro X hP hw hK hc i pins s σ H E I hf st hg
  subst hP hw hK
  obtain ⟨⟨old,he⟩,st⟩:=st
  obtain ⟨xs,hq,hx⟩:=hg
  obtain ⟨its,rv,p,hz⟩:=I.list hq
  obtain ⟨f0,f1,f2,f3,f4,f5⟩:=hf it (by simp)
  have hl:=rv.length
  exact wpAny_pyNext_enum_end (I.ok.hd hc) he st p.isList (by simp; omega) fun h' eb=>⟨rfl,I.turned (t':=s.toks) (fun b o hb z=>eb b o hb z) f0 f1 f3 f4 f5⟩
 self:=fun _ _ _ _ _ st h=>by
  obtain ⟨⟨old,he⟩,_⟩:=st
  exact wpAny_pyIter_enum he h
def iEnum (K:PySem.W.Frag) (ta:TA):TI:=fun σ H R=>ta σ H fun vs H1=>∃ a,vs=[.ref a]∧(∃ xs,SqL K H1 a xs)∧R (Ite K a) H1
section
variable {X:Cx}
theorem pi_enum {a:Expr} {es:List Expr} {k:Nat} {tpos:Pos} {ta:TA} {p pos:Pos} (hg:Gl X "enumerate") (hm:X.mg "enumerate"=none) (ha:PA X [a] ta) (hs:starEach [a] X.env=[(false,eval a X.env)]:=by rfl) :
  PI X (.Tuple es k tpos) (.Call (.Name "enumerate" p) [a] [] pos) (iEnum X.K ta):=by
 intro pins s σ H R I h
 refine Call_ (ld_blt I hg hm boot_enumerate (PyProof.Rows.callWith_type1 (thn (ha pos pins s σ H _ I h) fun us s1 ⟨vs,H1,I1,r1,q1⟩=>?_) hs rfl))
 obtain ⟨b,e,⟨xs,hq⟩,q⟩:=q1
 subst e
 cases r1 with
 | cons r rr =>
  cases rr
  cases r
  obtain ⟨its,rv,pl,hz⟩:=I1.list hq
  refine call_enumerate_list pl.isList fun h' he hit hsz hk=>?_
  have I2:Inv X pins σ H1 { s1 with heap:=h' }:=I1.kept (t':=s1.toks) hk
  refine wpAny_pyIter_enum (s:={ s1 with heap:=h' }) he ?_
  refine ⟨s1.heap.objs.size+1,[s1.heap.objs.size+1,s1.heap.objs.size],_,_,H1,rfl,I2,turn_enum b _ _ (Nat.succ_ne_self _),⟨⟨_,he⟩,hit⟩,fun c hc=>?_,q⟩
  rcases List.mem_cons.mp hc with rfl | hc
  ·exact I1.fpOk (Nat.le_succ _) (I1.hok.fresh (Nat.le_succ _))
  ·rw [List.mem_singleton.mp hc]; exact I1.fpOk (Nat.le_refl _) (I1.hok.fresh (Nat.le_refl _))
end
theorem for_enum {K:PySem.W.Frag} {a:Addr} {xs:List V} {g:TG} {tb:TS} {D:Ends} {σ:St} {H:Hp} (Pv:Nat→St→Hp→Prop) (h0:Pv 0 σ H) (hl:∀ i σ H,i≤xs.length→Pv i σ H→SqL K H a xs)
  (hs:∀ i x σ H t,xs[i]?=some x→Pv i σ H→H t=none→g (.ref t) σ (upd H t (.tup [.int i,x])) fun σ2 H2=>tb { D with nx:=Pv (i+1),ct:=Pv (i+1),bk:=D.nx } σ2 H2) (hd:∀ σ H,Pv xs.length σ H→D.nx σ H) :
  ∃ W:Nat→Nat→St→Hp→Prop,(∃ m,W 0 m σ H)∧∀ i m σ H,W i m σ H →
   ((Ite K a).stop i H∧D.nx σ H)∨((Ite K a).go i H∧∃ N:St→Hp→Prop,(∀ σ' H',N σ' H'→∃ m',m' < m∧W (i+1) m' σ' H')∧∀ x H',(Ite K a).yld i H x H'→g x σ H' fun σ2 H2=>tb { D with nx:=N,ct:=N,bk:=D.nx } σ2 H2):=by
 refine ⟨fun i m σ H=>m=xs.length - i∧i≤xs.length∧Pv i σ H,⟨xs.length,by simp,Nat.zero_le _,h0⟩,?_⟩
 rintro i m σ H ⟨rfl,hi,p⟩
 have q:=hl i σ H hi p
 by_cases hlt:i < xs.length
 ·refine .inr ⟨⟨xs,xs[i],q,by simp [hlt]⟩,Pv (i+1),fun σ' H' p'=>⟨xs.length - (i+1),by omega,rfl,hlt,p'⟩,fun x H' y=>?_⟩
  obtain ⟨t,z,hz,rfl,ht,rfl⟩:=y
  exact hs i z σ H t (hz xs q) p ht
 ·have e:i=xs.length:=by omega
  subst e
  exact .inl ⟨⟨xs,q,Nat.le_refl _⟩,hd σ H p⟩
end L2
namespace L2
open PySem PySem.Spec PyProof.Rows PySem.SeqAt
mutual
inductive D where
 | at (v:V)
 | tup (xs:Ds)
 | lst (xs:Ds)
inductive Ds where
 | nil
 | cons (d:D) (r:Ds)
end
mutual
def DIs (K:PySem.W.Frag) (H:Hp):D→V→Prop
 | .at u,v=>v=u∧flatV u=true
 | .tup ds,v=>∃ a xs,v=.ref a∧SqT K H a xs∧DIss K H ds xs
 | .lst ds,v=>∃ a xs,v=.ref a∧SqL K H a xs∧DIss K H ds xs
def DIss (K:PySem.W.Frag) (H:Hp):Ds→List V→Prop
 | .nil,xs=>xs=[]
 | .cons d r,xs=>∃ x ys,xs=x :: ys∧DIs K H d x∧DIss K H r ys
end
mutual
def dep:D→Nat
 | .at _=>0
 | .tup ds=>deps ds+1
 | .lst ds=>deps ds+1
def deps:Ds→Nat
 | .nil=>0
 | .cons d r=>max (dep d) (deps r)
end
mutual
def deq:D→D→Bool
 | .at u,.at v=>eqV u v
 | .tup xs,.tup ys=>deqs xs ys
 | .lst xs,.lst ys=>deqs xs ys
 | _,_=>false
def deqs:Ds→Ds→Bool
 | .nil,.nil=>true
 | .cons d r,.cons e q=>deq d e && deqs r q
 | _,_=>false
end
def Ds.len:Ds→Nat
 | .nil=>0
 | .cons _ r=>r.len+1
def Ds.get:Ds→Nat→D
 | .nil,_=>.at .non
 | .cons d _,0=>d
 | .cons _ r,i+1=>r.get i
theorem deqs_all:∀ (ds es:Ds),((List.range (min ds.len es.len)).all (fun j=>deq (ds.get j) (es.get j)) && ds.len == es.len)=deqs ds es
 | .nil,.nil=>rfl
 | .nil,.cons e q=>by simp [Ds.len,deqs]
 | .cons d r,.nil=>by simp [Ds.len,deqs]
 | .cons d r,.cons e q=>by
  have ih:=deqs_all r q
  rw [show deqs (.cons d r) (.cons e q)=(deq d e && deqs r q) from by rw [deqs],← ih]
  show ((List.range (min (r.len+1) (q.len+1))).all _ && (r.len+1 == q.len+1))=_
  rw [show min (r.len+1) (q.len+1)=min r.len q.len+1 by omega,List.range_succ_eq_map,List.all_cons,List.all_map,Bool.and_assoc]
  congr 1
  rw [show (r.len+1 == q.len+1)=(r.len == q.len) by simp]
  rfl
mutual
theorem deq_refl:∀ {K:PySem.W.Frag} {H:Hp} (d:D) {v:V},DIs K H d v→deq d d=true
 | _,_,.at u,v,h=>by
  obtain ⟨_,hf⟩:=(show v=u∧flatV u=true by simpa [DIs] using h)
  rw [deq]
  cases u <;> simp_all [flatV,eqV]
 | _,_,.tup ds,v,h=>by
  rw [DIs] at h
  obtain ⟨a,xs,_,_,q⟩:=h
  rw [deq]; exact deqs_refl ds q
 | _,_,.lst ds,v,h=>by
  rw [DIs] at h
  obtain ⟨a,xs,_,_,q⟩:=h
  rw [deq]; exact deqs_refl ds q
theorem deqs_refl:∀ {K:PySem.W.Frag} {H:Hp} (ds:Ds) {xs:List V},DIss K H ds xs→deqs ds ds=true
 | _,_,.nil,_,_=>by rw [deqs]
 | _,_,.cons d r,xs,h=>by
  rw [DIss] at h
  obtain ⟨x,ys,_,h1,h2⟩:=h
  rw [deqs,deq_refl d h1,deqs_refl r h2]; rfl
end
theorem DIss.len {K:PySem.W.Frag} {H:Hp}:∀ {ds:Ds} {xs:List V},DIss K H ds xs→ds.len=xs.length
 | .nil,xs,h=>by rw [DIss] at h; rw [h]; rfl
 | .cons d r,xs,h=>by
  rw [DIss] at h
  obtain ⟨x,ys,rfl,_,h2⟩:=h
  show r.len+1=ys.length+1
  rw [DIss.len h2]
theorem DIss.get {K:PySem.W.Frag} {H:Hp}:∀ {ds:Ds} {xs:List V} {i:Nat} {x:V},DIss K H ds xs→xs[i]?=some x→DIs K H (ds.get i) x
 | .nil,xs,i,x,h,e=>by rw [DIss] at h; rw [h] at e; simp at e
 | .cons d r,xs,i,x,h,e=>by
  rw [DIss] at h
  obtain ⟨y,ys,rfl,h1,h2⟩:=h
  cases i with
  | zero=>simp at e; subst e; exact h1
  | succ i =>
   show DIs K H (r.get i) x
   exact DIss.get h2 (by simpa using e)
theorem dep_get:∀ (ds:Ds) (i:Nat),i < ds.len→dep (ds.get i)≤deps ds
 | .nil,i,h=>absurd h (by simp [Ds.len])
 | .cons d r,0,_=>by show dep d≤_; rw [deps]; omega
 | .cons d r,i+1,h=>by
  have:=dep_get r i (by simpa [Ds.len] using h)
  show dep (r.get i)≤_
  rw [deps]; omega
section
variable {X:Cx} {pins:List (Addr × Obj)} {σ:St} {H:Hp} {s:Shared}
mutual
theorem DIs.inj (I:Inv X pins σ H s):∀ {d e:D} {v:V},DIs X.K H d v→DIs X.K H e v→d=e
 | .at u,.at w',v,h,h'=>by
  rw [DIs] at h
  rw [DIs] at h'
  rw [← h.1,← h'.1]
 | .at u,.tup ds,v,h,h'=>by
  rw [DIs] at h
  rw [DIs] at h'
  obtain ⟨a,xs,e,_⟩:=h'
  have:=h.2
  rw [← h.1,e] at this
  cases this
 | .at u,.lst ds,v,h,h'=>by
  rw [DIs] at h
  rw [DIs] at h'
  obtain ⟨a,xs,e,_⟩:=h'
  have:=h.2
  rw [← h.1,e] at this
  cases this
 | .tup ds,.at u,v,h',h=>by
  rw [DIs] at h
  rw [DIs] at h'
  obtain ⟨a,xs,e,_⟩:=h'
  have:=h.2
  rw [← h.1,e] at this
  cases this
 | .lst ds,.at u,v,h',h=>by
  rw [DIs] at h
  rw [DIs] at h'
  obtain ⟨a,xs,e,_⟩:=h'
  have:=h.2
  rw [← h.1,e] at this
  cases this
 | .tup ds,.tup es,v,h,h'=>by
  rw [DIs] at h
  rw [DIs] at h'
  obtain ⟨a,xs,rfl,h1,h2⟩:=h
  obtain ⟨b,ys,e,k1,k2⟩:=h'
  cases e
  have e:=I.tuple_inj h1 k1
  subst e
  rw [DIss.inj I h2 k2]
 | .lst ds,.lst es,v,h,h'=>by
  rw [DIs] at h
  rw [DIs] at h'
  obtain ⟨a,xs,rfl,h1,h2⟩:=h
  obtain ⟨b,ys,e,k1,k2⟩:=h'
  cases e
  have e:=I.list_inj h1 k1
  subst e
  rw [DIss.inj I h2 k2]
 | .tup ds,.lst es,v,h,h'=>by
  rw [DIs] at h
  rw [DIs] at h'
  obtain ⟨a,xs,rfl,h1,h2⟩:=h
  obtain ⟨b,ys,e,k1,k2⟩:=h'
  cases e
  obtain ⟨_,_,t1,_⟩:=I.tuple h1
  obtain ⟨_,_,t2,_⟩:=I.list k1
  exact absurd rfl (ne_of_list_tuple t2.isList (show s.heap.IsTuple a _ from t1))
 | .lst ds,.tup es,v,h,h'=>by
  rw [DIs] at h
  rw [DIs] at h'
  obtain ⟨a,xs,rfl,h1,h2⟩:=h
  obtain ⟨b,ys,e,k1,k2⟩:=h'
  cases e
  obtain ⟨_,_,t1,_⟩:=I.tuple k1
  obtain ⟨_,_,t2,_⟩:=I.list h1
  exact absurd rfl (ne_of_list_tuple t2.isList (show s.heap.IsTuple a _ from t1))
theorem DIss.inj (I:Inv X pins σ H s):∀ {ds es:Ds} {xs:List V},DIss X.K H ds xs→DIss X.K H es xs→ds=es
 | .nil,.nil,xs,h,h'=>rfl
 | .nil,.cons d r,xs,h,h'=>by
  rw [DIss] at h
  rw [DIss] at h'
  obtain ⟨x,ys,e,_⟩:=h'
  rw [h] at e; cases e
 | .cons d r,.nil,xs,h',h=>by
  rw [DIss] at h
  rw [DIss] at h'
  obtain ⟨x,ys,e,_⟩:=h'
  rw [h] at e; cases e
 | .cons d r,.cons e q,xs,h,h'=>by
  rw [DIss] at h
  rw [DIss] at h'
  obtain ⟨x,ys,rfl,h1,h2⟩:=h
  obtain ⟨y,zs,e',k1,k2⟩:=h'
  cases e'
  rw [DIs.inj I h1 k1,DIss.inj I h2 k2]
end
theorem flat_tup {A:Around} {u:V} {x:Value} {l:Addr} {items:Array Value} (r:RelV u x) (f:flatV u=true) (hl:s.heap.IsTuple l items) (hu:A.units < cLine):EqAt A s x (.ref l) false∧EqAt A s (.ref l) x false:=by
 cases u with
 | non=>cases r; exact ⟨.none_tuple hl hu,.tuple_none hl hu⟩
 | bl b=>cases r; exact ⟨.bool_tuple b hl hu,.tuple_bool b hl hu⟩
 | int b=>obtain ⟨t,rfl⟩:=r; exact ⟨.int_tuple b t hl hu,.tuple_int b t hl hu⟩
 | str b=>obtain ⟨t,rfl⟩:=r; exact ⟨.str_tuple b t hl hu,.tuple_str b t hl hu⟩
 | _=>exact absurd (show false=true from f) Bool.false_ne_true
theorem flat_lst {A:Around} {u:V} {x:Value} {l:Addr} {items:Array Value} (r:RelV u x) (f:flatV u=true) (hl:s.heap.IsList l items) (hu:A.units < cLine):EqAt A s x (.ref l) false∧EqAt A s (.ref l) x false:=by
 cases u with
 | non=>cases r; exact ⟨.none_list hl hu,.list_none hl hu⟩
 | bl b=>cases r; exact ⟨.bool_list b hl hu,.list_bool b hl hu⟩
 | int b=>obtain ⟨t,rfl⟩:=r; exact ⟨.int_list b t hl hu,.list_int b t hl hu⟩
 | str b=>obtain ⟨t,rfl⟩:=r; exact ⟨.str_list b t hl hu,.list_str b t hl hu⟩
 | _=>exact absurd (show false=true from f) Bool.false_ne_true
theorem eqAt_D (I:Inv X pins σ H s):∀ (n:Nat) (A:Around) (d e:D) (x y:V) (u v:Value),dep d≤n→DIs X.K H d x→DIs X.K H e y→RelV x u→RelV y v→A.units+n < cLine→EqAt A s u v (deq d e):=by
 intro n
 induction n with
 | zero =>
  intro A d e x y u v hn hd he rx ry hu
  cases d with
  | tup ds=>rw [dep] at hn; omega
  | lst ds=>rw [dep] at hn; omega
  | «at» p =>
   rw [DIs] at hd
   obtain ⟨rfl,hf⟩:=hd
   cases e with
   | «at» q =>
    rw [DIs] at he
    obtain ⟨rfl,hg⟩:=he
    rw [deq]; exact eqAt_V rx ry hf hg
   | tup es =>
    rw [DIs] at he
    obtain ⟨b,ys,rfl,h1,_⟩:=he
    obtain ⟨_,_,t,_⟩:=I.tuple h1
    cases ry
    rw [deq]
    ·exact (flat_tup rx hf (show s.heap.IsTuple b _ from t) hu).1
    all_goals (intros; simp_all)
   | lst es =>
    rw [DIs] at he
    obtain ⟨b,ys,rfl,h1,_⟩:=he
    obtain ⟨_,_,t,_⟩:=I.list h1
    cases ry
    rw [deq]
    ·exact (flat_lst rx hf t.isList hu).1
    all_goals (intros; simp_all)
 | succ n ih =>
  intro A d e x y u v hn hd he rx ry hu
  have hu1:A.in1.units+n < cLine:=by show A.units+1+n < cLine; omega
  cases d with
  | «at» p =>
   rw [DIs] at hd
   obtain ⟨rfl,hf⟩:=hd
   cases e with
   | «at» q =>
    rw [DIs] at he
    obtain ⟨rfl,hg⟩:=he
    rw [deq]; exact eqAt_V rx ry hf hg
   | tup es =>
    rw [DIs] at he
    obtain ⟨b,ys,rfl,h1,_⟩:=he
    obtain ⟨_,_,t,_⟩:=I.tuple h1
    cases ry
    rw [deq]
    ·exact (flat_tup rx hf (show s.heap.IsTuple b _ from t) (by omega)).1
    all_goals (intros; simp_all)
   | lst es =>
    rw [DIs] at he
    obtain ⟨b,ys,rfl,h1,_⟩:=he
    obtain ⟨_,_,t,_⟩:=I.list h1
    cases ry
    rw [deq]
    ·exact (flat_lst rx hf t.isList (by omega)).1
    all_goals (intros; simp_all)
  | tup ds =>
   have hd0:=hd
   rw [dep] at hn
   rw [DIs] at hd
   obtain ⟨a,xs,rfl,h1,h2⟩:=hd
   obtain ⟨i1,r1,t1,_⟩:=I.tuple h1
   cases rx
   cases e with
   | «at» q =>
    rw [DIs] at he
    obtain ⟨rfl,hg⟩:=he
    rw [deq]
    ·exact (flat_tup ry hg (show s.heap.IsTuple a _ from t1) (by omega)).2
    all_goals (intros; simp_all)
   | lst es =>
    rw [DIs] at he
    obtain ⟨b,ys,rfl,k1,_⟩:=he
    obtain ⟨_,_,t2,_⟩:=I.list k1
    cases ry
    rw [deq]
    ·exact EqAt.tuple_list (show s.heap.IsTuple a _ from t1) t2.isList (by omega)
    all_goals (intros; simp_all)
   | tup es =>
    have he0:=he
    rw [DIs] at he
    obtain ⟨b,ys,rfl,k1,k2⟩:=he
    obtain ⟨i2,r2,t2,_⟩:=I.tuple k1
    cases ry
    by_cases hab:a=b
    ·subst hab
     rw [DIs.inj I he0 hd0,deq_refl _ hd0]
     exact EqAt.same _
    ·refine EqAt.of_refs hab ?_
     have:=RcAt.tuples (A:=A) (e:=fun j=>deq (ds.get j) (es.get j)) (show s.heap.IsTuple a i1.toArray from t1) (show s.heap.IsTuple b i2.toArray from t2) (by omega) fun j g1 g2=>?_
     ·have l1:=r1.length
      have l2:=r2.length
      have m1:=h2.len
      have m2:=k2.len
      rw [List.size_toArray,List.size_toArray,← l1,← l2,← m1,← m2,deqs_all] at this
      rw [deq]; exact this
     ·have l1:=r1.length
      have l2:=r2.length
      have m1:=h2.len
      have g1':j < xs.length:=by simp at g1; omega
      have g2':j < ys.length:=by simp at g2; omega
      obtain ⟨u1,e1,q1⟩:=r1.get (List.getElem?_eq_getElem g1')
      obtain ⟨u2,e2,q2⟩:=r2.get (List.getElem?_eq_getElem g2')
      have d1:i1.toArray[j]=u1:=by
       have:i1[j]?=some i1.toArray[j]:=by simp
       rw [e1] at this; exact (Option.some.inj this).symm
      have d2:i2.toArray[j]=u2:=by
       have:i2[j]?=some i2.toArray[j]:=by simp
       rw [e2] at this; exact (Option.some.inj this).symm
      rw [d1,d2]
      exact ih _ _ _ _ _ _ _ (Nat.le_trans (dep_get ds j (by omega)) (by omega)) (h2.get (List.getElem?_eq_getElem g1')) (k2.get (List.getElem?_eq_getElem g2')) q1 q2 hu1
  | lst ds =>
   have hd0:=hd
   rw [dep] at hn
   rw [DIs] at hd
   obtain ⟨a,xs,rfl,h1,h2⟩:=hd
   obtain ⟨i1,r1,t1,_⟩:=I.list h1
   cases rx
   cases e with
   | «at» q =>
    rw [DIs] at he
    obtain ⟨rfl,hg⟩:=he
    rw [deq]
    ·exact (flat_lst ry hg t1.isList (by omega)).2
    all_goals (intros; simp_all)
   | tup es =>
    rw [DIs] at he
    obtain ⟨b,ys,rfl,k1,_⟩:=he
    obtain ⟨_,_,t2,_⟩:=I.tuple k1
    cases ry
    rw [deq]
    ·exact EqAt.list_tuple t1.isList (show s.heap.IsTuple b _ from t2) (by omega)
    all_goals (intros; simp_all)
   | lst es =>
    have he0:=he
    rw [DIs] at he
    obtain ⟨b,ys,rfl,k1,k2⟩:=he
    obtain ⟨i2,r2,t2,_⟩:=I.list k1
    cases ry
    by_cases hab:a=b
    ·subst hab
     rw [DIs.inj I he0 hd0,deq_refl _ hd0]
     exact EqAt.same _
    ·refine EqAt.of_refs hab ?_
     have l1:=r1.length
     have l2:=r2.length
     have m1:=h2.len
     have m2:=k2.len
     rw [deq]
     rw [← deqs_all]
     by_cases hz:ds.len=es.len
     ·have:=RcAt.lists (A:=A) (e:=fun j=>deq (ds.get j) (es.get j)) t1.isList t2.isList (by simp; omega) (by omega) fun j g1 g2=>?_
      ·rw [List.size_toArray,← l1,← m1] at this
       rw [hz,Nat.min_self,beq_self_eq_true,Bool.and_true,← hz]
       exact this
      ·have g1':j < xs.length:=by simp at g1; omega
       have g2':j < ys.length:=by simp at g2; omega
       obtain ⟨u1,e1,q1⟩:=r1.get (List.getElem?_eq_getElem g1')
       obtain ⟨u2,e2,q2⟩:=r2.get (List.getElem?_eq_getElem g2')
       have d1:i1.toArray[j]=u1:=by
        have:i1[j]?=some i1.toArray[j]:=by simp
        rw [e1] at this; exact (Option.some.inj this).symm
       have d2:i2.toArray[j]=u2:=by
        have:i2[j]?=some i2.toArray[j]:=by simp
        rw [e2] at this; exact (Option.some.inj this).symm
       rw [d1,d2]
       exact ih _ _ _ _ _ _ _ (Nat.le_trans (dep_get ds j (by omega)) (by omega)) (h2.get (List.getElem?_eq_getElem g1')) (k2.get (List.getElem?_eq_getElem g2')) q1 q2 hu1
     ·have e0:(ds.len == es.len)=false:=by simpa using hz
      rw [e0,Bool.and_false]
      exact RcAt.lists_lengths t1.isList t2.isList (by simp; omega) (by omega)
end
section
variable {X:Cx}
theorem eqItems {pins:List (Addr × Obj)} {σ:St} {H:Hp} {s:Shared} (I:Inv X pins σ H s) {A:Around} {ds es:Ds} {xs ys:List V} {i1 i2:List Value} (h2:DIss X.K H ds xs) (k2:DIss X.K H es ys) (r1:Vals xs i1) (r2:Vals ys i2)
  (hu:A.units+60 < cLine) (hd:deps ds≤50):∀ j (g1:j < i1.toArray.size) (g2:j < i2.toArray.size),EqAt A.in1 s i1.toArray[j] i2.toArray[j] (deq (ds.get j) (es.get j)):=fun j g1 g2=>by
 have l1:=r1.length
 have l2:=r2.length
 have m1:=h2.len
 have g1':j < xs.length:=by simp at g1; omega
 have g2':j < ys.length:=by simp at g2; omega
 obtain ⟨u1,e1,q1⟩:=r1.get (List.getElem?_eq_getElem g1')
 obtain ⟨u2,e2,q2⟩:=r2.get (List.getElem?_eq_getElem g2')
 have d1:i1.toArray[j]=u1:=by
  have:i1[j]?=some i1.toArray[j]:=by simp
  rw [e1] at this; exact (Option.some.inj this).symm
 have d2:i2.toArray[j]=u2:=by
  have:i2[j]?=some i2.toArray[j]:=by simp
  rw [e2] at this; exact (Option.some.inj this).symm
 rw [d1,d2]
 exact eqAt_D I 50 _ _ _ _ _ _ _ (Nat.le_trans (dep_get ds j (by omega)) hd) (h2.get (List.getElem?_eq_getElem g1')) (k2.get (List.getElem?_eq_getElem g2')) q1 q2 (by show A.units+1+50 < cLine; omega)
def rEqD (K:PySem.W.Frag) (neg:Bool):R2:=fun x y H Q=>∃ d e,DIs K H d x∧DIs K H e y∧(∃ a,x=.ref a)∧(∃ b,y=.ref b)∧dep d≤50∧Q (.bl (if neg then !deq d e else deq d e)) H
theorem op_neD {k:Nat} (hr:Room k X.A):OpR X (compareOp .NotEq) (rEqD X.K true):=by
 intro pins s σ H x y v u Q I rx ry h
 obtain ⟨d,e,hd,he,⟨a,rfl⟩,⟨b,rfl⟩,hn,q⟩:=h
 cases rx
 cases ry
 have hu:=hr.units
 cases d with
 | «at» p=>rw [DIs] at hd; obtain ⟨rfl,hf⟩:=hd; cases hf
 | tup ds =>
  rw [dep] at hn
  rw [DIs] at hd
  obtain ⟨a',xs,e',h1,h2⟩:=hd
  cases e'
  obtain ⟨i1,r1,t1,_⟩:=I.tuple h1
  cases e with
  | «at» p=>rw [DIs] at he; obtain ⟨rfl,hf⟩:=he; cases hf
  | tup es =>
   rw [DIs] at he
   obtain ⟨b',ys,e',k1,k2⟩:=he
   cases e'
   obtain ⟨i2,r2,t2,_⟩:=I.tuple k1
   refine RcNeAt.tuples (show s.heap.IsTuple a i1.toArray from t1) (show s.heap.IsTuple b i2.toArray from t2) (by omega) (eqItems I h2 k2 r1 r2 (by omega) (by omega)) _ _ _ _ ⟨.bl _,H,I,?_,q⟩
   show Value.bool _=Value.bool _
   rw [List.size_toArray,List.size_toArray,← r1.length,← r2.length,← h2.len,← k2.len,deqs_all]
   simp only [if_true]
   rw [deq]
  | lst es =>
   rw [DIs] at he
   obtain ⟨b',ys,e',k1,k2⟩:=he
   cases e'
   obtain ⟨i2,r2,t2,_⟩:=I.list k1
   refine RcNeAt.tuple_list (show s.heap.IsTuple a _ from t1) t2.isList (by omega) _ _ _ _ ⟨.bl _,H,I,?_,q⟩
   show Value.bool _=Value.bool _
   simp only [if_true]
   rw [deq] <;> first | rfl | (intros; simp_all)
 | lst ds =>
  rw [dep] at hn
  rw [DIs] at hd
  obtain ⟨a',xs,e',h1,h2⟩:=hd
  cases e'
  obtain ⟨i1,r1,t1,_⟩:=I.list h1
  cases e with
  | «at» p=>rw [DIs] at he; obtain ⟨rfl,hf⟩:=he; cases hf
  | tup es =>
   rw [DIs] at he
   obtain ⟨b',ys,e',k1,k2⟩:=he
   cases e'
   obtain ⟨i2,r2,t2,_⟩:=I.tuple k1
   refine RcNeAt.list_tuple t1.isList (show s.heap.IsTuple b _ from t2) (by omega) _ _ _ _ ⟨.bl _,H,I,?_,q⟩
   show Value.bool _=Value.bool _
   simp only [if_true]
   rw [deq] <;> first | rfl | (intros; simp_all)
  | lst es =>
   rw [DIs] at he
   obtain ⟨b',ys,e',k1,k2⟩:=he
   cases e'
   obtain ⟨i2,r2,t2,_⟩:=I.list k1
   have l1:=r1.length
   have l2:=r2.length
   have m1:=h2.len
   have m2:=k2.len
   by_cases hz:ds.len=es.len
   ·refine RcNeAt.lists t1.isList t2.isList (by simp; omega) (by omega) (eqItems I h2 k2 r1 r2 (by omega) (by omega)) _ _ _ _ ⟨.bl _,H,I,?_,q⟩
    show Value.bool _=Value.bool _
    simp only [if_true]
    rw [deq,← deqs_all,List.size_toArray,← l1,← m1,hz,Nat.min_self,beq_self_eq_true,Bool.and_true]
   ·refine RcNeAt.lists_lengths t1.isList t2.isList (by simp; omega) (by omega) _ _ _ _ ⟨.bl _,H,I,?_,q⟩
    show Value.bool _=Value.bool _
    have e0:(ds.len == es.len)=false:=by simpa using hz
    simp only [if_true]
    rw [deq,← deqs_all,e0,Bool.and_false]; rfl
end
end L2
namespace L2
open PySem PySem.Spec PyProof.Rows
section
variable {X:Cx} {e st:Expr} {te ts:TE} {pos p2:Pos}
end
end L2
namespace L2
open PySem PySem.Spec PyProof.Rows
structure MkOk (P:Program) (w:World) (K:PySem.W.Frag) (mg:Str→Option Value) (base:Heap) (k:Nat) (x:Str) (C:Addr) (ps:List Str) (sp:Sp):Prop where
 ex:∃ (f:Addr) (fd:FuncData),Mk K C f∧FnOk P w K mg base CX0 k f fd ps sp∧mg x=some (.ref C)∧Binds K fd ps []
section
variable {X:Cx} {k j:Nat} {x m:Str} {C:Addr} {ps:List Str} {sp:Sp} {p pos apos:Pos} {e o:Expr} {es:List Expr} {t:TA} {ta:TE}
theorem pe_mk (D:MkOk X.prog X.w X.K X.mg X.base k x C ps sp) (hr:Room j X.A) (ha:PA X (e :: es) t) (hj:k+1≤j:=by decide) (hg:Gl X x:=by rfl) (hdb:(x == ("__debug__":Str))=false:=by decide)
  (he:starEach (e :: es) X.env=(false,eval e X.env) :: starEach es X.env:=by rfl) (hpl:(backTo pos (starEach es X.env)).any (·.1)=false:=by rfl):PE X (.Call (.Name x p) (e :: es) [] pos) (tMake C sp [] E0 t):=by
 obtain ⟨f,fd,M,F,hm,hb⟩:=D.ex
 exact pe_make M F (hr.mono hj) hg hm hb .nil pass0 ha hdb he hpl
end
section
variable {X:Cx} {K:PySem.W.Frag} {pos:Pos}
theorem pg_tupK {es:List Expr} {k:Nat} {t:TGs} {n:Nat} (hc:X.calm=true) (h:PGs X es t) (hK:X.K=K:=by rfl)
  (hn:(assignEach es X.env).length=n:=by rfl) (hst:(assignEach es X.env).findIdx? (·.1)=none:=by rfl):PG X (.Tuple es k pos) (gTup K n t):=by
 subst hK; exact pg_tup hc h hn hst
end
end L2
namespace GB
open PySem L2
def key:List Int→Int
 | [a,b,c,d]=>((a * 13+b) * 13+c) * 13+d
 | _=>0
end GB
namespace L2
open PySem PySem.Spec PyProof.Rows
section
variable {prog:Program} {w:World} {A:Around} {E:Value→Shared→Prop} {h:Heap} {g:Array GenState} {d:Drawn} {t:Nat} {os:OsState}
 {nm qn:Str} {C N:Addr} {bs bm bmB:List Value} {hdct:Bool} {sn:List Str} {sub:List Value} {ab:Bool} {col:Option Bool} {dd:Option Addr} {k0 k1 k2 k3 k5:Option Value} {B newId initId:String}
def rawExc (h:Heap) (C:Addr) (rest:List Value):Heap:=(h.push { cls:=.type "tuple",data:=.seq rest.toArray }).push { cls:=.ref C,data:=.fields #[.ref h.objs.size,.none,.none,.none,.bool false,.none] }
theorem rawExc_keep {C:Addr} {rest:List Value} {b:Addr} {o:Obj} (e:h.get? b=some o):(rawExc h C rest).get? b=some o:=Heap.get?_push_of_some _ (Heap.get?_push_of_some _ e)
theorem rawExc_at (C:Addr) (rest:List Value):(rawExc h C rest).get? (h.objs.size+1)=some { cls:=.ref C,data:=.fields #[.ref h.objs.size,.none,.none,.none,.bool false,.none] }:=by
 unfold rawExc; heap_get
theorem type_call_excT (F:ExcBaseFacts B newId initId bmB) (T:OwnTail h bmB bm) {mN:Str→Option Value} {rest:List Value} {fI:Addr} {oI:Obj} {Q:Fin→Shared→Prop}
  (hC:h.get? C=some (excClassObj nm qn C N bs bm hdct sn sub ab col dd k0 k1 k2 k3 k5 newId)) (hn:h.Ns N mN) (hi:mN "__init__"=some (.ref fI)) (hfI:h.get? fI=some oI) (hfc:oI.cls=.type "function") (hrest:rest.length≤sizeLine)
  (hq:wpAny (model prog w) A (call (.ref fI) (.ref (h.objs.size+1) :: rest)) (fun r s'=>r=.none∧Q (.done (.ret (.ref (h.objs.size+1)))) s') E ⟨rawExc h C rest,g,d,t,os⟩) :
  wpAny (model prog w) A (Builtin.«type.__call__» ⟨.ref C :: rest,[]⟩) Q E ⟨h,g,d,t,os⟩:=by
 repeat (first | with_reducible refine wpAny_loadPart_at hC ?_ | with_reducible refine wpAny_madeBy_exc hC ?_ | wp_step)
 refine codeAny_call_builtin_code (Code.quiet_builtin _ F.quiet) (wpAny_check_new_subT F T hC (codeAny_exc_new_subT F T hC ?_ hrest))
 show wpAny _ _ _ _ _ ⟨rawExc h C rest,g,d,t,os⟩
 have c1:(rawExc h C rest).get? C=_:=rawExc_keep hC
 have n1:(rawExc h C rest).Ns N mN:=let ⟨o,es,ep,e,r⟩:=hn; ⟨o,es,ep,rawExc_keep e,r⟩
 have e1:=rawExc_at (h:=h) C rest
 have T1:OwnTail (rawExc h C rest) bmB bm:=T.keeps fun _ _ e=>rawExc_keep e
 have cc:(Value.ref C :: bm).contains (.ref C)=true:=by simp
 unfold isInstance
 repeat (first | with_reducible refine wpAny_loadPart_at e1 ?_ | (with_reducible refine wpAny_isSubtype_exc c1 ?_; rw [cc]) | wp_step)
 show wpAny _ _ (typeLookup (.ref C) _) _ _ _
 refine wpAny_typeLookup_tail c1 n1 T1 F.mroIs F.init.lookup ?_
 rw [hi]
 refine wpAny_holding (wpAny_bind ?_)
 unfold bindSpecial
 refine wpAny_bind (wpAny_typeOf (T:="function") ⟨_,rawExc_keep hfI,hfc⟩ ?_)
 rw [if_pos (by decide)]
 refine wpAny_pure (wpAny_bind (wpAny_mono hq (fun r s' hr=>?_) fun _ _ x=>x))
 obtain ⟨rfl,hQ⟩:=hr
 wp_walk
 exact hQ
theorem call_excT (F:ExcBaseFacts B newId initId bmB) (T:OwnTail h bmB bm) {mN:Str→Option Value} {rest:List Value} {fI:Addr} {oI:Obj} {Q:Value→Shared→Prop}
  (hC:h.get? C=some (excClassObj nm qn C N bs bm hdct sn sub ab col dd k0 k1 k2 k3 k5 newId)) (hn:h.Ns N mN) (hi:mN "__init__"=some (.ref fI)) (hfI:h.get? fI=some oI) (hfc:oI.cls=.type "function") (hrest:rest.length≤sizeLine)
  (hq:wpAny (model prog w) (A.under (.builtin "type.__call__" ⟨.ref C :: rest,[]⟩)) (call (.ref fI) (.ref (h.objs.size+1) :: rest)) (fun r s'=>r=.none∧Q (.ref (h.objs.size+1)) s') E ⟨rawExc h C rest,g,d,t,os⟩) :
  wpAny (model prog w) A (call (.ref C) rest) Q E ⟨h,g,d,t,os⟩:=by
 have l1:=tc_lookup
 have l2:=tc_bind (.ref C)
 have ty:(⟨h,g,d,t,os⟩:Shared).TypeIs (.ref C) "type":=⟨_,hC,rfl⟩
 refine wpAny_call (codeAny_of_tree ?_)
 show wpAny _ _ (callAny (.ref C) _) _ _ _
 repeat (any_goals (first | assumption | with_reducible refine wpAny_loadPart_at hC ?_ | wp_step))
 exact ⟨rfl,codeAny_call_builtin_at (Code.quiet_builtin _ (by decide +kernel)) entry_typeCall (wpAny_check_type_call_sub hC (type_call_excT F T hC hn hi hfI hfc hrest hq))⟩
end
end L2
namespace L2
open PySem PySem.Spec PyProof.Rows PySem.W PySem.Builtin PySem.Builtin.ObjectAttr
def vErr:List Value:=[.type "ValueError",.type "Exception",.type "BaseException",.type "object"]
def excMro:List Value→Bool
 | []=>false
 | x :: r=>(match x with | .ref _=>excMro r | _=>false) || (x :: r == vErr)
theorem refuse_exc (self:Value):∀ {l:List Value},excMro l=true→refuseLoop self "__setattr__" l=pure ()
 | [],e=>by cases e
 | x :: r,e=>by
  unfold excMro at e
  rw [Bool.or_eq_true] at e
  rcases e with e | e
  ·cases x <;> first | (rw [refuseLoop_ref]; exact refuse_exc self e) | cases e
  ·rw [show x :: r=vErr from beq_iff_eq.mp e]
   exact PySem.F.store_ValueError.passes self
theorem exc_has {T:String} (hT:vErr.contains (.type T)=true):∀ {l:List Value},excMro l=true→l.contains (.type T)=true
 | [],e=>by cases e
 | x :: r,e=>by
  unfold excMro at e
  rw [Bool.or_eq_true] at e
  rcases e with e | e
  ·cases x <;> first | (rw [List.contains_cons,exc_has hT e,Bool.or_true]) | cases e
  ·rw [show x :: r=vErr from beq_iff_eq.mp e]; exact hT
def excIn (K:Frag) (C:Addr):Bool:=(clsIn K C).any fun cd=>excMro cd.mro
section
variable {prog:Program} {w:World} {A:Around} {E:Value→Shared→Prop} {R:Result→Shared→Prop} {s:Shared} {K:Frag} {x C:Addr} {ox:Obj} {od:Option Obj} {name:Str} {tk:Tok} {v:Value}
theorem osa_exc (X:K.In s.heap) (I:InstAt s.heap x ox C od) (hp:excIn K C=true) (ht:findIn K (.ref C) name=some none)
  (h:wpAny (model prog w) A.in1 (storeInOwnDict (.ref x) (.ref C) (.str name tk) name v false)
   (fun fin s'=>match fin with | .done f=>R (.ok f) s' | .again c'=>c'.quiet=true∧codeAny (model prog w) A c' R s') (fun e s'=>R (.error e) s') s) :
  codeAny (model prog w) A (.call (.builtin "object.__setattr__") ⟨[.ref x,.str name tk,v],[]⟩) R s:=by
 have SF:=PySem.F.store_object
 obtain ⟨cd,hc,ho⟩:=any_some hp
 have ne:cd.mro.isEmpty=false:=by cases q:cd.mro with | nil=>rw [q] at ho; cases ho | cons _ _=>rfl
 have tO:Looks (model prog w) s.heap (isInstance (.ref x) (.type "object")) true:=I.type.andThen (looks_mroIn X (by
  unfold mroIn
  rw [hc,Option.bind_some,ne]
  show some (cd.mro.contains (.type "object"))=some true
  rw [exc_has (by decide +kernel) ho]))
 have tM:Looks (model prog w) s.heap (mroOf (.ref C)) cd.mro:=(looks_clsIn X hc).andThen .now
 refine codeAny_call_builtin SF.slot.plain SF.entry (@check_slot (model prog w) _ _ s "object.__setattr__" "object" "__setattr__" (.ref x) [.str name tk,v] [] _ SF.kind SF.split tO (SF.args (.ref x) (.str name tk) v) ?_)
 rw [osa_eq,refuse_eq]
 refine wpAny_bind (wpAny_bind (I.type.here (wpAny_bind (tM.here ?_))))
 rw [refuse_exc _ ho]
 exact wpAny_pure (wpAny_bind (I.type.here (wpAny_bind ((looks_findIn X ht).here (wpAny_bind (wpAny_pure h))))))
theorem set_exc0 {vs:Array Value} {sl:Array (Option Value)} {Q:Unit→Shared→Prop} (X:K.In s.heap) (hx:s.heap.get? x=some ⟨.ref C,none,.fields vs,sl⟩) (hs:findIn K (.ref C) "__setattr__"=some (some (.builtin "object.__setattr__")))
  (hp:excIn K C=true) (hh:hasDictIn K C=true) (ht:findIn K (.ref C) name=some none)
  (h:∀ h',h'.get? x=some ⟨.ref C,some s.heap.objs.size,.fields vs,sl⟩→h'.Ns1 s.heap.objs.size (fun y=>if y=name then some v else none)→(∀ b o,b≠x→s.heap.get? b=some o→h'.get? b=some o)→Q () { s with heap:=h',toks:=s.toks+2 }) :
  wpAny (model prog w) A (setAttr (.ref x) name v) Q E s:=by
 have I:InstAt s.heap x ⟨.ref C,none,.fields vs,sl⟩ C none:=⟨hx,rfl,rfl,trivial⟩
 obtain ⟨cd,hc,hd'⟩:=any_some hh
 have nx:x≠s.heap.objs.size:=Nat.ne_of_lt (Heap.lt_size hx)
 refine set_plain X I hs (osa_exc (s:={ s with toks:=s.toks+1 }) X I hp ht ?_)
 refine wpAny_bind (wpAny_pure (wpAny_bind (wpAny_bind (wpAny_loadPart hx (wpAny_bind (Looks.here (s:={ s with toks:=s.toks+1 }) (looks_clsIn X hc) ?_))))))
 rw [hd']
 refine wpAny_bind (wpAny_alloc (wpAny_bind (wpAny_update (Heap.get?_push_of_some _ hx) (wpAny_pure ?_))))
 generalize hH:(s.heap.push { cls:=.type "dict",data:=.dict #[] }).update x (fun o=>{ o with dict:=some s.heap.objs.size })=H1
 have hx1:H1.get? x=some ⟨.ref C,some s.heap.objs.size,.fields vs,sl⟩:=by
  rw [← hH]; exact Heap.get?_update_self _ (Heap.get?_push_of_some _ hx) rfl
 have hd1:H1.get? s.heap.objs.size=some { cls:=.type "dict",data:=.dict #[] }:=by
  rw [← hH,Heap.get?_update_ne _ _ _ _ (Ne.symm nx)]; exact Heap.get?_push_size _ rfl
 have hk1:∀ b o,b≠x→s.heap.get? b=some o→H1.get? b=some o:=fun b o hb e=>by
  rw [← hH,Heap.get?_update_ne _ _ _ _ hb]; exact Heap.get?_push_of_some _ e
 have hn1:H1.Ns1 s.heap.objs.size (fun _=>none):=Heap.Ns1.of_empty ⟨_,#[],_,hd1,rfl,fun e he=>absurd he (by simp),fun _=>rfl⟩
 refine wpAny_bind (wpAny_pure (wpAny_bind (wpAny_nsSet1 (s:={ s with heap:=H1,toks:=s.toks+1 }) hn1 fun h' hn2 hs2=>?_)))
 obtain ⟨oD,esD,epD,hoD,hdD,hcD⟩:=hn2.count (Within.cons name v Within.nil)
 refine wpAny_bind (wpAny_lookBehind hoD (by rw [hdD]; exact pastItsLine_dict (Nat.le_trans hcD (by rw [List.length_cons,List.length_nil,sizeLine_eq]; omega))) ?_)
 exact wpAny_pure (h _ ((hs2.2 _ nx).trans hx1) hn2 fun b o hb e=>(hs2.2 _ (Nat.ne_of_lt (Heap.lt_size e))).trans (hk1 b o hb e))
theorem set_exc {vs:Array Value} {sl:Array (Option Value)} {dx:Addr} {mA:Str→Option Value} {ns:List Str} {Q:Unit→Shared→Prop} (X:K.In s.heap) (hx:s.heap.get? x=some ⟨.ref C,some dx,.fields vs,sl⟩) (hn:s.heap.Ns1 dx mA) (hne:dx≠x)
  (hs:findIn K (.ref C) "__setattr__"=some (some (.builtin "object.__setattr__"))) (hp:excIn K C=true) (hh:hasDictIn K C=true) (ht:findIn K (.ref C) name=some none) (hw:PySem.Within mA ns) (hsz:ns.length≤sizeLine)
  (h:∀ h',h'.get? x=some ⟨.ref C,some dx,.fields vs,sl⟩→h'.Ns1 dx (fun y=>if y=name then some v else mA y)→Heap.SameBut dx s.heap h'→Q () { s with heap:=h',toks:=s.toks+2 }) :
  wpAny (model prog w) A (setAttr (.ref x) name v) Q E s:=by
 obtain ⟨od,ho⟩:∃ o,s.heap.get? dx=some o:=let ⟨o,_,_,e,_⟩:=hn; ⟨o,e⟩
 have I:InstAt s.heap x ⟨.ref C,some dx,.fields vs,sl⟩ C (some od):=⟨hx,rfl,rfl,ho⟩
 obtain ⟨cd,hc,hd'⟩:=any_some hh
 refine set_plain X I hs (osa_exc (s:={ s with toks:=s.toks+1 }) X I hp ht ?_)
 refine wpAny_bind (wpAny_pure (wpAny_bind (wpAny_bind (wpAny_loadPart hx (wpAny_bind (Looks.here (s:={ s with toks:=s.toks+1 }) (looks_clsIn X hc) ?_))))))
 rw [hd']
 refine wpAny_pure (a:=some dx) (wpAny_bind (wpAny_pure (wpAny_bind (wpAny_nsSet1 (s:={ s with toks:=s.toks+1 }) hn fun h' hn2 hs2=>?_))))
 obtain ⟨oD,esD,epD,hoD,hdD,hcD⟩:=hn2.count (Within.cons name v hw)
 refine wpAny_bind (wpAny_lookBehind hoD (by rw [hdD]; exact pastItsLine_dict (Nat.le_trans hcD (by rw [List.length_cons]; omega))) ?_)
 exact wpAny_pure (h _ ((hs2.2 _ (Ne.symm hne)).trans hx) hn2 hs2)
end
end L2
namespace L2
open PySem PySem.Spec PyProof.Rows PySem.W PySem.Builtin PySem.Builtin.ObjectAttr
section
variable {prog:Program} {w:World} {A:Around} {E:Value→Shared→Prop} {R:Result→Shared→Prop} {s:Shared} {K:Frag} {x C:Addr} {ox:Obj} {od:Option Obj} {name:Str} {tk:Tok} {v:Value} {expr:Bool}
theorem ga_code (X:K.In s.heap) (I:InstAt s.heap x ox C od) (hp:L2.excIn K C=true)
  (h:wpAny (model prog w) A.in1 (Builtin.«object.__getattribute__» ⟨[.ref x,.str name tk],[]⟩)
   (fun fin s'=>match fin with | .done f=>R (.ok f) s' | .again c'=>c'.quiet=true∧codeAny (model prog w) A c' R s') (fun e s'=>R (.error e) s') s) :
  codeAny (model prog w) A (.call (.builtin "BaseException.__getattribute__") ⟨[.ref x,.str name tk],[]⟩) R s:=by
 obtain ⟨cd,hc,ho⟩:=any_some hp
 have ne:cd.mro.isEmpty=false:=by cases q:cd.mro with | nil=>rw [q] at ho; cases ho | cons _ _=>rfl
 have tB:Looks (model prog w) s.heap (isInstance (.ref x) (.type "BaseException")) true:=I.type.andThen (looks_mroIn X (by
  unfold mroIn
  rw [hc,Option.bind_some,ne]
  show some (cd.mro.contains (.type "BaseException"))=some true
  rw [exc_has (by decide +kernel) ho]))
 exact codeAny_call_builtin PySem.F.attrBase_ValueError.ga.plain PySem.F.entry_bexc_ga (@check_slot (model prog w) _ _ s "BaseException.__getattribute__" "BaseException" "__getattribute__" (.ref x) [.str name tk] [] _ (by decide +kernel) (by decide +kernel) tB (PySem.F.args_bexc_ga (.ref x) (.str name tk)) h)
theorem ga_by (X:K.In s.heap) (I:InstAt s.heap x ox C od) (hp:L2.excIn K C=true) (hga:findIn K (.ref C) "__getattribute__"=some (some (.builtin "BaseException.__getattribute__"))) (hk:findIn K (.ref C) "__getattr__"=some none) {fill:Bool} {Q:Value→Shared→Prop}
  (h:wpAny (model prog w) A.in1 (Builtin.«object.__getattribute__» ⟨[.ref x,.str name tk],[]⟩)
   (fun fin s'=>match fin with | .done (.ret v)=>wpAny (model prog w) A (handedOut v) Q E s' | _=>False) (fun _ _=>False) s) :
  wpAny (model prog w) A (getAttrBy (.ref x) (.str name tk) fill expr) Q E s:=by
 have L0:=I.type (M:=model prog w)
 have L1:=looks_findIn (M:=model prog w) X hga
 have L2:=looks_findIn (M:=model prog w) X hk
 unfold getAttrBy
 refine wpAny_holding (wpAny_bind (L0.here (wpAny_bind (L1.here ?_))))
 show wpAny _ _ (getAttrByItsOwn (.ref x) (.str name tk) (.ref C) (.builtin "BaseException.__getattribute__") fill expr) _ _ _
 unfold getAttrByItsOwn hookBefore callGetattribute boundAndCalled
 refine wpAny_bind (L2.here ?_)
 refine wpAny_bind (wpAny_attempt (wpAny_holding ?_))
 rw [show (expr && onTheHeap (Value.builtin "BaseException.__getattribute__"))=false from by cases expr <;> rfl,if_neg Bool.false_ne_true]
 refine wpAny_bind (wpAny_of_eq (PySem.F.attrBase_ValueError.ga.bind _) ?_)
 refine wpAny_call (ga_code X I hp (wpAny_mono h (fun fin s' z=>?_) fun _ _ z=>z.elim))
 rcases fin with (_ | _ | _ | _) | _ <;> first | exact z.elim | exact z
theorem get_exc {Q:Value→Shared→Prop} (X:K.In s.heap) (I:InstAt s.heap x ox C od) (hp:L2.excIn K C=true) (hga:findIn K (.ref C) "__getattribute__"=some (some (.builtin "BaseException.__getattribute__"))) (hk:findIn K (.ref C) "__getattr__"=some none)
  (hf:findObj K C od name=some (.value v)) (hh:handedIn v=true) (h:Q v { s with toks:=s.toks+1 }):wpAny (model prog w) A (getAttr (.ref x) name expr) Q E s:=by
 unfold getAttr
 refine wpAny_bind (wpAny_mkText (ga_by (s:={ s with toks:=s.toks+1 }) X I hp hga hk ?_))
 have L0:=I.type (M:=model prog w)
 have L1:=looks_find (M:=model prog w) X I hf
 refine wpAny_bind (wpAny_of_eq (show slotArgs "__getattribute__" 1 ⟨[.ref x,.str name s.toks],[]⟩=pure (.ref x,[.str name s.toks]) from rfl) ?_)
 refine wpAny_bind (wpAny_pure (wpAny_bind (Looks.here (s:={ s with toks:=s.toks+1 }) L0 (wpAny_bind (Looks.here (s:={ s with toks:=s.toks+1 }) L1 ?_)))))
 refine wpAny_pure ?_
 show wpAny _ _ (handedOut v) _ _ _
 rw [handedOut_of hh]; exact wpAny_pure h
theorem class_exc {Q:Option Value→Shared→Prop} (X:K.In s.heap) (I:InstAt s.heap x ox C od) (hp:L2.excIn K C=true) (hga:findIn K (.ref C) "__getattribute__"=some (some (.builtin "BaseException.__getattribute__"))) (hk:findIn K (.ref C) "__getattr__"=some none)
  (hf:findObj K C od "__class__"=some (.bind (.builtin "getset_descriptor.__get__") (.builtin "object.__class__"))) (hm:mroIn K C (.type "object")=some true) (h:Q (some (.ref C)) { s with toks:=s.toks+1 }):wpAny (model prog w) A (getAttr? (.ref x) "__class__") Q E s:=by
 unfold getAttr? getAttrBy?
 refine wpAny_bind (wpAny_mkText (wpAny_bind (wpAny_attempt (ga_by (s:={ s with toks:=s.toks+1 }) X I hp hga hk ?_))))
 have L0:=I.type (M:=model prog w)
 have L1:=looks_find (M:=model prog w) X I hf
 refine wpAny_bind (wpAny_of_eq (show slotArgs "__getattribute__" 1 ⟨[.ref x,.str "__class__" s.toks],[]⟩=pure (.ref x,[.str "__class__" s.toks]) from rfl) ?_)
 refine wpAny_bind (wpAny_pure (wpAny_bind (Looks.here (s:={ s with toks:=s.toks+1 }) L0 (wpAny_bind (Looks.here (s:={ s with toks:=s.toks+1 }) L1 ?_)))))
 show wpAny _ _ (holding [.builtin "object.__class__"] (call (.builtin "getset_descriptor.__get__") [.builtin "object.__class__",.ref x,.ref C]) >>= ret) _ _ _
 refine wpAny_bind (wpAny_holding (wpAny_call (class_get (s:={ s with toks:=s.toks+1 }) (ox:=ox) (od:=od) X I hm ?_)))
 exact wpAny_pure (handed_on rfl (wpAny_pure h))
end
end L2
namespace L2
open PySem PySem.Spec PyProof.Rows PySem.W
def ExcN (C x:Addr):HO:=.ext fun h=>∃ vs sl,h.get? x=some ⟨.ref C,none,.fields vs,sl⟩∧vs[1]?=some Value.none
def ExcO (C dx x:Addr):HO:=.ext fun h=>∃ vs sl,h.get? x=some ⟨.ref C,some dx,.fields vs,sl⟩∧vs[1]?=some Value.none
def ExcT (C:Addr) (d:Option Addr) (x T:Addr):HO:=.ext fun h=>∃ vs sl,h.get? x=some ⟨.ref C,d,.fields vs,sl⟩∧vs[1]?=some (.ref T)
def ExcD (dx:Addr) (fs:List (Str × V)):HO:=.ext fun h=>∃ mA,h.Ns1 dx mA∧(∀ f,RelO (fs.lookup f) (mA f))∧PySem.Within mA (fs.map (·.1))
section
variable {P:Program} {w:World} {H:Hp} {h:Heap} {x C dx:Addr} {fs:List (Str × V)}
theorem excN_ok {vs:Array Value} {sl:Array (Option Value)} (e:h.get? x=some ⟨.ref C,none,.fields vs,sl⟩) (f:vs[1]?=some Value.none):ObjOk P w H h x (ExcN C x) :=
 ⟨⟨vs,sl,e,f⟩,⟨_,e⟩,fun _ _ ⟨vs,sl,e,f⟩ k=>⟨vs,sl,k _ e,f⟩⟩
theorem excO_ok {vs:Array Value} {sl:Array (Option Value)} (e:h.get? x=some ⟨.ref C,some dx,.fields vs,sl⟩) (f:vs[1]?=some Value.none):ObjOk P w H h x (ExcO C dx x) :=
 ⟨⟨vs,sl,e,f⟩,⟨_,e⟩,fun _ _ ⟨vs,sl,e,f⟩ k=>⟨vs,sl,k _ e,f⟩⟩
theorem excT_ok {d:Option Addr} {T:Addr} {vs:Array Value} {sl:Array (Option Value)} (e:h.get? x=some ⟨.ref C,d,.fields vs,sl⟩) (f:vs[1]?=some (.ref T)):ObjOk P w H h x (ExcT C d x T) :=
 ⟨⟨vs,sl,e,f⟩,⟨_,e⟩,fun _ _ ⟨vs,sl,e,f⟩ k=>⟨vs,sl,k _ e,f⟩⟩
theorem excD_ok {mA:Str→Option Value} (n:h.Ns1 dx mA) (r:∀ f,RelO (fs.lookup f) (mA f)) (wi:PySem.Within mA (fs.map (·.1))):ObjOk P w H h dx (ExcD dx fs) :=
 ⟨⟨mA,n,r,wi⟩,let ⟨o,_,_,e,_⟩:=n; ⟨o,e⟩,fun _ _ ⟨mA,n,r,wi⟩ k=>⟨mA,n.at k,r,wi⟩⟩
end
structure XCls (K:Frag) (C:Addr):Prop where
 ga:findIn K (.ref C) "__getattribute__"=some (some (.builtin "BaseException.__getattribute__"))
 gh:findIn K (.ref C) "__getattr__"=some none
 hd:hasDictIn K C=true
 sa:findIn K (.ref C) "__setattr__"=some (some (.builtin "object.__setattr__"))
 ex:L2.excIn K C=true
 ca:findIn K (.ref C) "__class__"=some (some (.builtin "object.__class__"))
 gn:specialIn K (.builtin "object.__class__") "__get__"=some (some (.builtin "getset_descriptor.__get__"))
 tk:takesIn K (.builtin "object.__class__")=some true
 mo:mroIn K C (.type "object")=some true
def xclsB (K:Frag) (C:Addr):Bool:=(findIn K (.ref C) "__getattribute__" == some (some (.builtin "BaseException.__getattribute__"))) && (findIn K (.ref C) "__getattr__" == some none) && hasDictIn K C && (findIn K (.ref C) "__setattr__" == some (some (.builtin "object.__setattr__"))) && L2.excIn K C &&
 (findIn K (.ref C) "__class__" == some (some (.builtin "object.__class__"))) && (specialIn K (.builtin "object.__class__") "__get__" == some (some (.builtin "getset_descriptor.__get__"))) &&
 (takesIn K (.builtin "object.__class__") == some true) && (mroIn K C (.type "object") == some true)
theorem XCls.of {K:Frag} {C:Addr} (h:xclsB K C=true):XCls K C:=by
 unfold xclsB at h
 simp only [Bool.and_eq_true,beq_iff_eq] at h
 obtain ⟨⟨⟨⟨⟨⟨⟨⟨a,a'⟩,b⟩,c⟩,d⟩,e⟩,f⟩,g⟩,i⟩:=h
 exact ⟨a,a',b,c,d,e,f,g,i⟩
section
variable {X:Cx} {pins:List (Addr × Obj)} {σ:St} {H:Hp} {s:Shared} {a C dx:Addr} {fs:List (Str × V)} {f:Str} {v:V} {A:Around} {E:Value→Shared→Prop}
theorem ext_ne_own {φ:Heap→Prop} {b c:Addr} (h:H b=some (.ext φ)):H b≠some (.own c):=fun e=>by rw [h] at e; cases e
theorem setexc0_ok {y:V} {u:Value} {Q:Unit→Shared→Prop} (I:Inv X pins σ H s) (e:H a=some (ExcN C a)) (c:XCls X.K C) (n:NoAttr X.K C f) (ry:RelV y u)
  (h:∀ s' d,H d=none→Inv X pins σ (upd (upd H d (ExcD d [(f,y)])) a (ExcO C d a)) s'→Q () s'):wpAny (model X.prog X.w) A (setAttr (.ref a) f u) Q E s:=by
 obtain ⟨⟨vs,sl,hx,hv1⟩,_⟩:=(show ObjOk X.prog X.w H s.heap a (ExcN C a) from I.hok a _ e)
 refine set_exc0 I.kIn hx c.sa c.ex c.hd n fun h' h1 h2 k=>?_
 have hn:H s.heap.objs.size=none:=I.hok.fresh (Nat.le_refl _)
 have nea:s.heap.objs.size≠a:=Ne.symm (ne_of_none e hn)
 refine h _ s.heap.objs.size hn ?_
 have e':∀ b o,H b=some o→b≠s.heap.objs.size:=fun b o q=>ne_of_none q hn
 have lt:∀ b o,s.heap.get? b=some o→b≠s.heap.objs.size:=fun b o q=>Nat.ne_of_lt (Heap.lt_size q)
 have na:∀ b o,H b=some o→(∀ φ,o≠.ext φ)→b≠a:=fun b o q z t=>by subst t; rw [e] at q; cases q; exact z _ rfl
 refine I.un (h':=h') (t':=s.toks+2) ⟨fun b o q m _ _=>k b o (fun z=>by rw [z,e] at m; cases m) q,fun b o q m _ _=>⟨o.slots,k b o (fun z=>by rw [z,e] at m; cases m) q⟩,
  fun b o q m _=>by rw [upd_ne (fun z=>by rw [z,e] at m; cases m),upd_ne (lt b o q)]; exact m,fun b o q _=>?_,fun b xs q=>by rw [upd_ne (na b _ q (fun φ z=>by cases z)),upd_ne (e' b _ q)]; exact q,
  fun b o u q=>by rw [upd_ne (na b _ q (fun φ z=>by cases z)),upd_ne (e' b _ q)]; exact q,fun b ps q=>⟨#[],by rw [upd_ne (na b _ q (fun φ z=>by cases z)),upd_ne (e' b _ q),q]; simp⟩⟩ fun b o q=>?_
 ·by_cases hb:b=a
  ·subst hb; exact ⟨_,h1⟩
  ·exact ⟨o,k b o hb q⟩
 ·by_cases hb:b=a
  ·subst hb; rw [upd_same] at q; cases q; exact excO_ok h1 hv1
  ·rw [upd_ne hb] at q
   by_cases hd:b=s.heap.objs.size
   ·subst hd; rw [upd_same] at q; cases q
    refine excD_ok h2 (fun g=>?_) fun g hg=>?_
    ·show RelO (List.lookup g [(f,y)]) (if g=f then some u else none)
     by_cases q:g=f
     ·have hb:(g == f)=true:=beq_iff_eq.mpr q
      rw [if_pos q]; simp only [List.lookup,hb]; exact ry
     ·have hb:(g == f)=false:=beq_eq_false_iff_ne.mpr q
      rw [if_neg q]; simp only [List.lookup,hb]; exact True.intro
    ·by_cases q:g=f
     ·rw [q]; simp
     ·exact absurd (if_neg q) hg
   ·rw [upd_ne hd] at q
    refine (I.hok b o q).stay (fun cc w' hc z=>k cc w' ?_ z) (fun cc z=>?_) fun cc xs z=>?_
    ·rcases hc with rfl | hc
     ·exact hb
     ·exact fun t=>ext_ne_own e (t ▸ hc)
    ·rw [upd_ne (fun t=>ext_ne_own e (t ▸ z)),upd_ne (e' cc _ z)]; exact z
    ·rw [upd_ne (na cc _ z (fun φ t=>by cases t)),upd_ne (e' cc _ z)]; exact z
theorem setexc_ok {y:V} {u:Value} {Q:Unit→Shared→Prop} (I:Inv X pins σ H s) (e:H a=some (ExcO C dx a)) (ed:H dx=some (ExcD dx fs)) (c:XCls X.K C) (n:NoAttr X.K C f) (hl:fs.length < 1000) (ry:RelV y u)
  (h:∀ s',Inv X pins σ (upd H dx (ExcD dx (putF f y fs))) s'→Q () s'):wpAny (model X.prog X.w) A (setAttr (.ref a) f u) Q E s:=by
 obtain ⟨⟨vs,sl,hx,_⟩,_⟩:=(show ObjOk X.prog X.w H s.heap a (ExcO C dx a) from I.hok a _ e)
 obtain ⟨⟨mA,hn,r,wi⟩,_⟩:=(show ObjOk X.prog X.w H s.heap dx (ExcD dx fs) from I.hok dx _ ed)
 have hne:dx≠a:=fun z=>by
  subst z
  obtain ⟨o,es,ep,ho,hd,_⟩:=hn
  rw [hx] at ho
  cases ho
  cases hd
 have hz:(fs.map (·.1)).length≤sizeLine:=by rw [List.length_map,sizeLine_eq]; omega
 refine set_exc I.kIn hx hn hne c.sa c.ex c.hd n wi hz fun h' h1 h2 sb=>h _ ?_
 have hd:∃ o,h'.get? dx=some o:=let ⟨o,_,_,e',_⟩:=h2; ⟨o,e'⟩
 refine I.write (x:=dx) (e:=dx) (t':=s.toks+2) (by rw [ed]; exact True.intro) (.inl rfl) (fun b q hb z=>(sb.2 b hb).trans z) hd (excD_ok h2 (fun g=>?_) fun g hg=>?_)
 ·show RelO ((putF f y fs).lookup g) (if g=f then some u else mA g)
  rw [lookup_putF]
  by_cases q:g=f
  ·rw [if_pos q,if_pos q]; exact ry
  ·rw [if_neg q,if_neg q]; exact r g
 ·by_cases q:g=f
  ·rw [q]; exact (keys_putF f y fs).1
  ·refine (keys_putF f y fs).2 g (wi g fun z=>hg ?_)
   show (if g=f then some u else mA g)=none
   rw [if_neg q]; exact z
def XAt (H:Hp) (C dx a:Addr):Prop:=H a=some (ExcO C dx a)∨∃ T,H a=some (ExcT C (some dx) a T)
theorem XAt.same {H':Hp} (h:XAt H C dx a) (s:Same H H'):XAt H' C dx a:=h.imp (fun z=>s _ _ z) fun ⟨T,z⟩=>⟨T,s _ _ z⟩
theorem XAt.obj (I:Inv X pins σ H s) (h:XAt H C dx a):∃ vs sl,s.heap.get? a=some ⟨.ref C,some dx,.fields vs,sl⟩:=by
 rcases h with h | ⟨T,h⟩
 ·obtain ⟨⟨vs,sl,hx,_⟩,_⟩:=(show ObjOk X.prog X.w H s.heap a (ExcO C dx a) from I.hok a _ h)
  exact ⟨vs,sl,hx⟩
 ·obtain ⟨⟨vs,sl,hx,_⟩,_⟩:=(show ObjOk X.prog X.w H s.heap a (ExcT C (some dx) a T) from I.hok a _ h)
  exact ⟨vs,sl,hx⟩
theorem getexc_ok {b:Bool} {Q:Value→Shared→Prop} (I:Inv X pins σ H s) (e:XAt H C dx a) (ed:H dx=some (ExcD dx fs)) (c:XCls X.K C) (n:NoAttr X.K C f) (l:fs.lookup f=some v)
  (h:∀ u s',Inv X pins σ H s'→RelV v u→Q u s'):wpAny (model X.prog X.w) A (getAttr (.ref a) f b) Q E s:=by
 obtain ⟨vs,sl,hx⟩:=e.obj I
 obtain ⟨⟨mA,hn,r,wi⟩,_⟩:=(show ObjOk X.prog X.w H s.heap dx (ExcD dx fs) from I.hok dx _ ed)
 obtain ⟨u,hu,ru⟩:=RelO.some_of (v:=v) (o:=mA f) (by rw [← l]; exact r f)
 obtain ⟨od,ho,hl⟩:=lookIn_ns hn
 have J:InstAt s.heap a ⟨.ref C,some dx,.fields vs,sl⟩ C (some od):=⟨hx,rfl,rfl,ho⟩
 exact get_exc I.kIn J c.ex c.ga c.gh (findObj_own c.hd n rfl (by rw [hl,hu])) (handed_of ru) (h u _ (I.tok _) ru)
end
theorem kitx_exc {K:Frag} {x D:Addr} (c:XCls K D):KitX K (.ref x) (.ref D) (fun h=>∃ (ox:Obj) (od:Option Obj),InstAt h x ox D od) where
 ty:=fun _ _ _ ⟨_,_,I⟩=>I.type
 it:=fun _ _ X _=>by
  obtain ⟨cdD,hcD,_⟩:=any_some c.hd
  unfold clsIn at hcD
  split at hcD
  ·rename_i c' d' cd' sl' ho
   intro A' Q' E' s' k q
   unfold isType loadHead
   exact wpAny_bind (wpAny_loadPart (k _ _ (X _ _ ho)) (wpAny_pure q))
  ·cases hcD
 ne:=fun h tp dd its n sl X htp=>by
  obtain ⟨cdD,hcD,_⟩:=any_some c.hd
  refine Bool.eq_false_iff.mpr fun q=>?_
  have e:D=tp:=Value.ref.inj (beq_iff_eq.mp q)
  subst e
  unfold clsIn at hcD
  split at hcD
  ·rename_i c' d' cd' sl' ho
   have z:=(X _ _ ho).symm.trans htp
   cases z
  ·cases hcD
 ca:=fun {prog w A E Q s} X ⟨ox,od,I⟩ h=>by
  have hf:findObj K D od "__class__"=some (.bind (.builtin "getset_descriptor.__get__") (.builtin "object.__class__")):=by
   obtain ⟨cd,hc,_⟩:=any_some c.hd
   unfold findObj
   rw [hc,Option.bind_some,c.ca,Option.bind_some]
   simp [c.gn,c.tk]
  exact class_exc X I c.ex c.ga c.gh hf c.mo h
def IsExc (H:Hp) (a C:Addr):Prop:=(∃ dx fs,XAt H C dx a∧H dx=some (ExcD dx fs))∨H a=some (ExcN C a)∨∃ T,H a=some (ExcT C none a T)
theorem IsExc.same {H H':Hp} {a C:Addr} (h:IsExc H a C) (s:Same H H'):IsExc H' a C:=by
 rcases h with ⟨dx,fs,h1,h2⟩ | h | ⟨T,h⟩
 ·exact .inl ⟨dx,fs,h1.same s,s _ _ h2⟩
 ·exact .inr (.inl (s _ _ h))
 ·exact .inr (.inr ⟨T,s _ _ h⟩)
section
variable {X:Cx}
theorem isexc_inst {pins:List (Addr × Obj)} {σ:St} {H:Hp} {s:Shared} {a C:Addr} (I:Inv X pins σ H s) (h:IsExc H a C):∃ (ox:Obj) (od:Option Obj),InstAt s.heap a ox C od:=by
 rcases h with ⟨dx,fs,h1,h2⟩ | h | ⟨T,h⟩
 ·obtain ⟨vs,sl,hx⟩:=h1.obj I
  obtain ⟨⟨mA,hn,_⟩,_⟩:=(show ObjOk X.prog X.w H s.heap dx (ExcD dx fs) from I.hok dx _ h2)
  obtain ⟨o,_,_,ho,_⟩:=hn
  exact ⟨_,some o,⟨hx,rfl,rfl,ho⟩⟩
 ·obtain ⟨⟨vs,sl,hx,_⟩,_⟩:=(show ObjOk X.prog X.w H s.heap a (ExcN C a) from I.hok a _ h)
  exact ⟨_,none,⟨hx,rfl,rfl,trivial⟩⟩
 ·obtain ⟨⟨vs,sl,hx,_⟩,_⟩:=(show ObjOk X.prog X.w H s.heap a (ExcT C none a T) from I.hok a _ h)
  exact ⟨_,none,⟨hx,rfl,rfl,trivial⟩⟩
theorem call_isinX:CallR X (.builtin "isinstance") (fun xs H Q=>∃ a C c u b,xs=[.ref a,c]∧IsExc H a C∧XCls X.K C∧RelV c u∧(∀ u',RelV c u'→u'=u)∧kitOne X.K (.ref C) u=some b∧Q (.bl b) H):=by
 intro pins s σ H xs us Q I r h
 obtain ⟨a,C,c,u,b,rfl,he,hc,ru,uq,hk,q⟩:=h
 obtain ⟨v1,v2,rfl,r1,r2⟩:=vals2 r
 cases r1
 have:=uq v2 r2
 subst this
 exact kia_one (kitx_exc hc) I.kIn (isexc_inst I he) hk (fun z=>nomatch z) fun tk=>⟨.bl b,H,I.tok tk,rfl,q⟩
end
def tXFld (K:Frag) (ta:TE) (f:Str):TE:=fun σ H Q=>ta σ H fun x H1=>∃ a C dx fs v,x=.ref a∧XAt H1 C dx a∧H1 dx=some (ExcD dx fs)∧XCls K C∧NoAttr K C f∧fs.lookup f=some v∧Q v H1
def sXFld (K:Frag) (ta tv:TE) (f:Str):TS:=fun D σ H=>tv σ H fun y H1=>ta σ H1 fun x H2=>∃ a C,x=.ref a∧XCls K C∧NoAttr K C f ∧
 ((H2 a=some (ExcN C a)∧∀ d,H2 d=none→D.nx σ (upd (upd H2 d (ExcD d [(f,y)])) a (ExcO C d a)))∨∃ dx fs,H2 a=some (ExcO C dx a)∧H2 dx=some (ExcD dx fs)∧fs.length < 1000∧D.nx σ (upd H2 dx (ExcD dx (putF f y fs))))
section
variable {X:Cx} {o e value:Expr} {f:Str} {pos pos':Pos} {ta tv:TE}
theorem pe_xfld (he:PE X e ta) (hb:attributeBase e f X.env (eval e X.env)=eval e X.env):PE X (.Attribute e f pos) (tXFld X.K ta f):=by
 intro pins s σ H Q I h
 refine attr_of hb (thn (he pins s σ H _ I h) fun u s1 ⟨x,H1,I1,rx,a,C,dx,fs,v,ex,ea,ed,c,n,l,q⟩=>?_)
 subst ex
 obtain rfl:u=Value.ref a:=rx
 exact getexc_ok I1 ea ed c n l fun u' s2 I2 ru=>⟨v,H1,I2,ru,q⟩
theorem ps_xfld (ha:PE X o ta) (hv:PE X value tv) (hs:swapsWith value (some (.Attribute o f pos')) pos.line X.env=pure false):PS X (.Assign [.Attribute o f pos'] value pos) (sXFld X.K ta tv f):=by
 intro pins s σ H D I h
 refine plainObj_wpAny_Assign_Attribute (thn (hv pins s σ H _ I h) fun u s1 ⟨y,H1,I1,ry,q⟩=>thn (ha pins s1 σ H1 _ I1 q) fun ov s2 ⟨x,H2,I2,rx,a,C,ex,c,n,q2⟩=>?_) hs
 subst ex
 obtain rfl:ov=Value.ref a:=rx
 rcases q2 with ⟨e0,q2⟩ | ⟨dx,fs,e1,e2,l,q2⟩
 ·exact setexc0_ok I2 e0 c n ry fun s3 d hd I3=>⟨σ,_,I3,q2 d hd⟩
 ·exact setexc_ok I2 e1 e2 c n l ry fun s3 I3=>⟨σ,_,I3,q2⟩
end
def excInI (K:Frag) (C:Addr) (fI:Addr):Bool:=match K.lookup C with
 | some ⟨.type "type",_,.cls cd,sl⟩=>(match cd.mro,sl.toList with
  | .ref C' :: bm,[_,_,_,_,some (.builtin n),_]=>C' == C && n == "ValueError.__new__" && !cd.hasDel && tailIn K vErr bm && nsOkIn K cd.ns && nsIn K cd.ns "__init__" == some (some (.ref fI))
  | _,_=>false)
 | _=>false
theorem ns_some_of {K:Frag} {h:Heap} {N:Addr} {mg:Str→Option Value} {n:Str} {v:Value} (X:K.In h) (G:h.Ns N mg) (e:nsIn K N n=some (some v)):mg n=some v:=by
 obtain ⟨o,es,ep,ho,hd,_,hf⟩:=G
 unfold nsIn at e
 split at e
 ·rename_i c d es' n' sl q
  have:=X _ _ q
  rw [ho] at this
  cases this
  cases hd
  split at e
  ·rename_i e' he
   cases e
   rw [← hf]
   unfold nsFind findBy
   rw [← Array.find?_toList,he]
   rfl
  ·split at e <;> cases e
 ·cases e
structure XMk (K:Frag) (C fI:Addr):Prop where
 cl:XCls K C
 ei:excInI K C fI=true
 kp:keepIn K (.ref C)=true
 fn:isFn K (.ref fI)=true
theorem XMk.call {K:Frag} {C fI:Addr} (M:XMk K C fI) {prog:Program} {w:World} {A:Around} {E:Value→Shared→Prop} {s:Shared} {rest:List Value} {Q:Value→Shared→Prop} (X:K.In s.heap) (hrest:rest.length≤sizeLine)
  (hq:wpAny (model prog w) (A.under (.builtin "type.__call__" ⟨.ref C :: rest,[]⟩)) (call (.ref fI) (.ref (s.heap.objs.size+1) :: rest)) (fun r s'=>r=.none∧Q (.ref (s.heap.objs.size+1)) s') E { s with heap:=rawExc s.heap C rest }) :
  wpAny (model prog w) A (call (.ref C) rest) Q E s:=by
 obtain ⟨hh,g,d,t,os⟩:=s
 have q:=M.ei
 have fnt:typeIn K (.ref fI)=some (.type "function"):=beq_iff_eq.mp M.fn
 have hfI:∃ oI:Obj,hh.get? fI=some oI∧oI.cls=.type "function":=by
  cases z:K.lookup fI with
  | none=>simp [typeIn,z] at fnt
  | some o=>exact ⟨o,X _ _ z,by simpa [typeIn,z] using fnt⟩
 obtain ⟨oI,hoI,hcI⟩:=hfI
 unfold excInI at q
 split at q
 ·rename_i dd cd sl ho
  split at q
  ·rename_i C' bm k0 k1 k2 k3 n k5 hm hs
   simp only [Bool.and_eq_true,beq_iff_eq,Bool.not_eq_true'] at q
   obtain ⟨⟨⟨⟨⟨rfl,rfl⟩,hdel⟩,ht⟩,hok⟩,hni⟩:=q
   obtain ⟨nm,bs,mro,ns,qn,hd,sn,sub,ab,col,del⟩:=cd
   dsimp only at hm hdel hok hni
   subst hm hdel
   have hsl:sl=#[k0,k1,k2,k3,some (.builtin "ValueError.__new__"),k5]:=by
    obtain ⟨l⟩:=sl
    simp only at hs
    rw [hs]
   subst hsl
   have G:hh.Ns ns (hh.nsMap ns):=.of_isNs (isNs_of_in X hok)
   exact call_excT PySem.F.excBase_ValueError (tail_of_in X ht) (X _ _ ho) G (ns_some_of X G hni) hoI hcI hrest hq
  ·cases q
 ·cases q
end L2
namespace L2
open PySem PySem.Spec PyProof.Rows PySem.W
theorem ObjOk.there {P:Program} {w:World} {H:Hp} {h:Heap} {a:Addr} {o:HO} (x:ObjOk P w H h a o):∃ u,h.get? a=some u:=by
 cases o with
 | lst xs=>obtain ⟨_,_,_,_,e⟩:=x; exact ⟨_,e⟩
 | tup xs=>obtain ⟨_,_,_,p⟩:=x; obtain ⟨_,e,_⟩:=p; exact ⟨_,e⟩
 | dK kvs=>obtain ⟨_,_,_,_,o,_,_,e,_⟩:=x; exact ⟨_,e⟩
 | dT kvs=>obtain ⟨_,_,_,_,o,_,_,e,_⟩:=x; exact ⟨_,e⟩
 | set S n=>obtain ⟨o,_,_,_,e,_⟩:=x; exact ⟨_,e⟩
 | ins C dx fs=>obtain ⟨_,_,_,e,_⟩:=x; exact ⟨_,e⟩
 | own y=>obtain ⟨_,e⟩:=x; exact ⟨_,e⟩
 | xd fs=>obtain ⟨_,⟨_,_,_,e,_⟩,_⟩:=x; exact ⟨_,e⟩
 | rng lo hi=>obtain ⟨_,_,_,e⟩:=x; exact ⟨_,e⟩
 | frz ob u=>obtain ⟨e,_⟩:=x; exact ⟨_,e⟩
 | tbl ps=>exact ⟨_,(show h.get? a=some _ from x)⟩
 | met f y=>exact ⟨_,(show h.get? a=some _ from x)⟩
 | ext φ=>obtain ⟨_,⟨_,e⟩,_⟩:=x; exact ⟨_,e⟩
def sp_x (C:Addr) (names:List Str):Sp:=fun vs H Q _=>∃ x ws,vs=.ref x :: ws∧ws.length=names.length∧H x=some (ExcN C x) ∧
 ∀ d H',H d=none→H' x=some (ExcO C d x)→H' d=some (ExcD d (names.zip ws))→(∀ a o,a≠x→H a=some o→H' a=some o)→Q .non H'
structure XMkOk (P:Program) (w:World) (K:PySem.W.Frag) (mg:Str→Option Value) (base:Heap) (k:Nat) (x:Str) (C:Addr) (ps names:List Str):Prop where
 few:names.length≤1000
 ex:∃ (f:Addr) (fd:FuncData),XMk K C f∧FnOk P w K mg base CX0 k f fd ps (sp_x C names)∧mg x=some (.ref C)∧Binds K fd ps []
section
variable {X:Cx} {CX:CXT} {k j:Nat} {f C:Addr} {fd:FuncData} {ps names:List Str} {sp:Sp} {E:XK} {x m:Str} {p pos apos:Pos} {e o:Expr} {es:List Expr} {ta:TE} {t:TA}
theorem run_xmk {pins:List (Addr × Obj)} {σ:St} {H:Hp} {s:Shared} {Q:VK} {us:List Value} {vs:List V} (M:XMk X.K C f) (F:FnOk X.prog X.w X.K X.mg X.base CX k f fd ps sp) (hr:Room (k+1) X.A) (hb:Binds X.K fd ps [])
  (hx:Passes CX X E) (I:Inv X pins σ H s) (r:Vals vs us) (hz:vs.length≤1000)
  (h:∀ x,H x=none→sp (.ref x :: vs) (upd H x (ExcN C x)) (fun v H2=>v=.non∧Q (.ref x) H2) E) :
  wpAny (model X.prog X.w) X.A (call (.ref C) us) (EP X pins σ Q) X.xe s:=by
 have hq:=h (s.heap.objs.size+1) (I.hok.fresh (Nat.le_succ _))
 have hus:us.length≤sizeLine:=by rw [← r.length,sizeLine_eq]; omega
 have I2:Inv X pins σ (upd H (s.heap.objs.size+1) (ExcN C (s.heap.objs.size+1))) { s with heap:=rawExc s.heap C us } :=
  I.laid (t':=s.toks) (fun b u z=>rawExc_keep z) (Nat.le_succ _) (excN_ok (rawExc_at C us) rfl)
 have r2:Vals (V.ref (s.heap.objs.size+1) :: vs) (Value.ref (s.heap.objs.size+1) :: us):=.cons rfl r
 have hl:(Value.ref (s.heap.objs.size+1) :: us++[]).length=ps.length:=by
  have e:=r2.length
  rw [F.len _ _ _ _ hq] at e
  rw [List.append_nil]
  exact e.symm
 have hb2:=hb { s with heap:=rawExc s.heap C us } (Value.ref (s.heap.objs.size+1) :: us) I2.kIn hl
 rw [List.append_nil] at hb2
 refine M.call I.kIn hus (wpAny_call (codeAny_mono (F.run _ X.stack _ _ ⟨Value.ref (s.heap.objs.size+1) :: us,[]⟩ (Value.ref (s.heap.objs.size+1) :: us) _ _ E (hr.make C us [])
  (I2.env0.make C us []) hb2 r2 hq) fun r s' hq'=>?_))
 cases r with
 | error e=>exact hx pins σ _ _ e s' I2 hq'
 | ok fl =>
  cases fl with
  | ret u =>
   obtain ⟨v,H',I3,rv,ev,q3⟩:=I2.after hq'
   subst ev
   exact ⟨rv,⟨V.ref (s.heap.objs.size+1),H',I3,rfl,q3⟩⟩
  | next=>exact False.elim hq'
  | brk=>exact False.elim hq'
  | cont=>exact False.elim hq'
end
end L2
namespace L2
open PySem PySem.Spec PyProof.Rows PySem.W
structure NoteTo (fr tt:List Addr) (e T:Addr) (fl cls:Value) (d:Option Addr) (h h':Heap):Prop where
 nT:h.get? T=none
 keep:∀ b o,b≠e→b ∉ fr→b ∉ tt→h.get? b=some o→h'.get? b=some o
 slot:∀ b o,b∈fr→h.get? b=some o→∃ sl,h'.get? b=some { o with slots:=sl }
 exc:∃ vs sl,h'.get? e=some ⟨cls,d,.fields vs,sl⟩∧vs[1]?=some (.ref T)
 tb:∃ o ts,h'.get? T=some o∧o.data=.fields ts∧ts[3]?=some fl
 old:∀ t o ts,t∈tt→t≠e→h.get? t=some o→o.data=.fields ts→3 < ts.size→∃ o' ts',h'.get? t=some o'∧o'.data=.fields ts'∧ts'[3]?=some Value.none
section
variable {M:Model} {A:Around} {E:Value→Shared→Prop} {s:Shared} {base:Heap} {env:Env} {outer:List Env} {L e:Addr} {cls:Value} {d:Option Addr} {vs:Array Value} {sl:Array (Option Value)} {Q:Unit→Shared→Prop}
theorem note_entry {head:Value} {hadNext:Bool} (hfr:A.frames=some (env :: outer)) (hl:s.heap.FunFrames base (env :: outer)) (hf:env.frame=some L) (he:s.heap.get? e=some ⟨cls,d,.fields vs,sl⟩) (hsz:1 < vs.size)
    (h:∀ h' T,NoteTo (frs (env :: outer)) [] e T (rawInt L) cls d s.heap h'→Q () { s with heap:=h' }) :
    wpAny M A (do
      let a ← frameOf env
      let pl ← entryPlaceOf L hadNext
      let b ← EntryCells.newEntry head a .none (rawInt L) .none pl
      setField (.ref e) 1 b) Q E s:=by
  have hne:e ∉ frs (env :: outer):=fun hm=>by
    obtain ⟨_,o,ho,hnf⟩:=hl.mem hm
    rw [he] at ho; cases ho; exact hnf vs rfl
  refine wpAny_bind (wpAny_frameOf_fun hfr hl hf fun h₁ hs=>wpAny_bind (wpAny_entryPlaceOf fun pl hpl=>?_))
  unfold EntryCells.newEntry newFields
  refine wpAny_bind (wpAny_newObj_type ?_ (hpl.sizeOk5 _ _ _ _ _))
  have e1:h₁.get? e=some ⟨cls,d,.fields vs,sl⟩:=(hs.2.1 e hne).trans he
  generalize hob:({ cls:=.type "traceback",dict:=none,data:=.fields ([head,.ref L,.none,rawInt L,.none]++(if pl.isEmpty then List.replicate 6 Value.none else pl)).toArray }:Obj)=ob
  have hfb:ob.isFreed=false:=by rw [← hob]; rfl
  have e2:=Heap.get?_push_of_some (h:=h₁) ob e1
  refine wpAny_setField e2 rfl hsz (h _ h₁.objs.size ?_)
  have nTe:h₁.objs.size≠e:=Nat.ne_of_gt (Heap.lt_size e1)
  have kp:∀ b o,b≠e→h₁.get? b=some o→((h₁.push ob).update e (Obj.mapFields (·.setIfInBounds 1 (Value.ref h₁.objs.size)))).get? b=some o:=fun b o nb hb=>by
    rw [Heap.get?_update_other _ _ (Ne.symm nb)]; exact Heap.get?_push_of_some _ hb
  refine ⟨Heap.get?_none_of_le (Nat.le_of_eq hs.1.symm),fun b o nb nf _ hb=>kp b o nb ((hs.2.1 b nf).trans hb),fun b o bf hb=>?_,⟨vs.setIfInBounds 1 (.ref h₁.objs.size),sl,?_,by simp [hsz]⟩,⟨ob,([head,.ref L,.none,rawInt L,.none]++(if pl.isEmpty then List.replicate 6 Value.none else pl)).toArray,?_,by rw [← hob],?_⟩,fun _ _ _ z=>nomatch z⟩
  · obtain ⟨sl',z⟩:=hs.2.2 b o hb
    exact ⟨sl',kp b _ (fun q=>hne (q ▸ bf)) z⟩
  · exact Heap.get?_update_self _ e2 rfl
  · rw [Heap.get?_update_other _ _ (Ne.symm nTe)]; exact Heap.get?_push_size _ hfb
  · simp
theorem note_new (hfr:A.frames=some (env :: outer)) (hl:s.heap.FunFrames base (env :: outer)) (hf:env.frame=some L) (he:s.heap.get? e=some ⟨cls,d,.fields vs,sl⟩) (h1:vs[1]?=some Value.none)
  (h:∀ h' T,NoteTo (frs (env :: outer)) [] e T (rawInt L) cls d s.heap h'→Q () { s with heap:=h' }):wpAny M A (noteFrame (.ref e) env) Q E s:=by
 unfold noteFrame
 simp only [hf]
 refine wpAny_bind (wpAny_field he rfl h1 ?_)
 rw [if_neg (by decide)]
 exact note_entry hfr hl hf he (Array.getElem?_eq_some_iff.mp h1).1 h
theorem note_next {T1:Addr} {oT:Obj} {ts:Array Value} (hfr:A.frames=some (env :: outer)) (hl:s.heap.FunFrames base (env :: outer)) (hf:env.frame=some L) (he:s.heap.get? e=some ⟨cls,d,.fields vs,sl⟩) (h1:vs[1]?=some (.ref T1))
  (hT:s.heap.get? T1=some oT) (hd:oT.data=.fields ts) (h3:ts[3]?=some Value.none) (ne:T1≠e)
  (h:∀ h' T,NoteTo (frs (env :: outer)) [T1] e T (rawInt L) cls d s.heap h'→Q () { s with heap:=h' }):wpAny M A (noteFrame (.ref e) env) Q E s:=by
 unfold noteFrame
 simp only [hf]
 refine wpAny_bind (wpAny_field he rfl h1 ?_)
 rw [if_pos (show (Value.ref T1 != Value.none)=true from by simp)]
 refine wpAny_bind (wpAny_field hT hd h3 ?_)
 rw [if_neg (show ¬ ((Value.none == rawInt L)=true) from by simp [rawInt])]
 have hs3:3 < ts.size:=(Array.getElem?_eq_some_iff.mp h3).1
 refine wpAny_bind (wpAny_setField hT hd hs3 ?_)
 have oth:∀ b,b≠T1→(s.heap.update T1 (Obj.mapFields (·.setIfInBounds 3 Value.none))).get? b=s.heap.get? b:=fun b hb=>Heap.get?_update_other _ _ (Ne.symm hb)
 have nT1:T1 ∉ frs (env :: outer):=fun hm=>by
  obtain ⟨_,o,ho,hnf⟩:=hl.mem hm
  rw [hT] at ho; cases ho; exact hnf ts hd
 have self:(s.heap.update T1 (Obj.mapFields (·.setIfInBounds 3 Value.none))).get? T1=some (Obj.mapFields (·.setIfInBounds 3 Value.none) oT):=Heap.get?_update_self _ hT (Obj.isFreed_of_fields (Obj.data_mapFields hd _))
 refine note_entry (s:={ s with heap:=s.heap.update T1 (Obj.mapFields (·.setIfInBounds 3 Value.none)) }) hfr (hl.of_keeps fun b o hb hnf=>⟨o,(oth b fun q=>?_).trans hb,rfl⟩) hf ((oth e (Ne.symm ne)).trans he) (Array.getElem?_eq_some_iff.mp h1).1 fun h' T n=>h h' T ?_
 ·rw [q,hT] at hb; cases hb; exact hnf ts hd
 ·have nT':s.heap.get? T=none:=by
   by_cases q:T=T1
   ·have:=n.nT; rw [q] at this; rw [self] at this; cases this
   ·rw [← oth T q]; exact n.nT
  refine ⟨nT',fun b o nb nf nt hb=>n.keep b o nb nf (by simp) ((oth b (by simpa using nt)).trans hb),fun b o bf hb=>n.slot b o bf ((oth b fun q=>nT1 (q ▸ bf)).trans hb),n.exc,n.tb,fun t o us ht hte hb hdo hsz=>?_⟩
  obtain rfl:t=T1:=by simpa using ht
  rw [hT] at hb; cases hb
  rw [hd] at hdo; cases hdo
  exact ⟨_,_,n.keep t _ hte nT1 (by simp) self,Obj.data_mapFields hd _,by simp [hs3]⟩
theorem flight_off {T:Addr} {oT:Obj} {ts:Array Value} (he:s.heap.get? e=some ⟨cls,d,.fields vs,sl⟩) (h1:vs[1]?=some (.ref T)) (hT:s.heap.get? T=some oT) (hd:oT.data=.fields ts) (hs3:3 < ts.size)
  (h:∀ h',(∀ b,b≠T→h'.get? b=s.heap.get? b)→(∃ o' ts',h'.get? T=some o'∧o'.data=.fields ts'∧ts'[3]?=some Value.none)→Q () { s with heap:=h' }):wpAny M A (setFlight (.ref e) none) Q E s:=by
 unfold setFlight
 refine wpAny_bind (wpAny_field he rfl h1 ?_)
 rw [if_pos (show (Value.ref T != Value.none)=true from by simp)]
 refine wpAny_setField hT hd hs3 (h _ (fun b hb=>Heap.get?_update_other _ _ (Ne.symm hb)) ⟨_,_,Heap.get?_update_self _ hT (Obj.isFreed_of_fields (Obj.data_mapFields hd _)),Obj.data_mapFields hd _,by simp [hs3]⟩)
end
end L2
namespace L2
open PySem PySem.Spec PyProof.Rows PySem.W
section
variable {prog:Program} {w:World} {A:Around} {E:Value→Shared→Prop} {s:Shared} {K:Frag} {C fI e:Addr} {d:Option Addr} {env:Env}
theorem raise_made {x:Sem Value} {Q:Flow→Shared→Prop} (M:XMk K C fI) (hh:A.handled=none)
  (h:wpAny (model prog w) A x (fun v s₁=>∃ e d vs sl,v=.ref e∧K.In s₁.heap∧s₁.heap.get? e=some ⟨.ref C,d,.fields vs,sl⟩∧vs[1]?=some Value.none∧E (.ref e) s₁) E s) :
  wpAny (model prog w) A (raiseStmt env (some x) none) Q E s:=by
 unfold raiseStmt
 refine wpAny_bind (wpAny_mono h (fun v s₁ h₁=>?_) fun _ _ x=>x)
 obtain ⟨e,d,vs,sl',rfl,X,he,h1,hE⟩:=h₁
 obtain ⟨hp,g,dr,tk,os⟩:=s₁
 have q:=M.ei
 unfold excInI at q
 split at q
 ·rename_i dd cd sl ho
  split at q
  ·rename_i C' bm k0 k1 k2 k3 n k5 hm hs
   simp only [Bool.and_eq_true,beq_iff_eq,Bool.not_eq_true'] at q
   obtain ⟨⟨⟨⟨⟨rfl,rfl⟩,hdel⟩,ht⟩,hok⟩,hni⟩:=q
   obtain ⟨nm,bs,mro,ns,qn,hd,sn,sub,ab,col,del⟩:=cd
   dsimp only at hm hdel hok hni
   subst hm hdel
   have hsl:sl=#[k0,k1,k2,k3,some (.builtin "ValueError.__new__"),k5]:=by
    obtain ⟨l⟩:=sl
    simp only at hs
    rw [hs]
   subst hsl
   have hC:hp.get? C'=some (excClassObj nm qn C' ns bs bm hd sn sub ab col dd k0 k1 k2 k3 k5 "ValueError.__new__"):=X _ _ ho
   have hcB:(Value.ref C' :: bm).contains (.type "BaseException")=true:=by
    rw [List.contains_cons,(tail_of_in X ht).hasType (show vErr.contains (.type "BaseException")=true by decide +kernel)]; exact Bool.or_true _
   repeat (first | with_reducible refine wpAny_field he rfl h1 ?_ | with_reducible refine wpAny_loadPart_at he ?_ | with_reducible refine wpAny_loadPart_at hC ?_ | (with_reducible refine wpAny_isSubtype_exc hC ?_; rw [hcB]) | wp_step)
   exact wpAny_raiseNew_none hh hE
  ·cases q
 ·cases q
end
end L2
namespace L2
open PySem PySem.Spec PyProof.Rows PySem.W
def TbO (T:Addr):HO:=.ext fun h=>∃ o ts,h.get? T=some o∧o.data=.fields ts∧ts[3]?=some Value.none
theorem tbO_ok {P:Program} {w:World} {H:Hp} {h:Heap} {T:Addr} (t:∃ o ts,h.get? T=some o∧o.data=.fields ts∧ts[3]?=some Value.none):ObjOk P w H h T (TbO T) :=
 ⟨t,let ⟨o,_,e,_⟩:=t; ⟨o,e⟩,fun _ _ ⟨o,ts,e,r⟩ k=>⟨o,ts,k _ e,r⟩⟩
def Fresh (H:Hp) (x C:Addr) (d:Option Addr):Prop:=(d=none∧H x=some (ExcN C x))∨∃ dx,d=some dx∧H x=some (ExcO C dx x)
def Flown (H:Hp) (x C:Addr) (d:Option Addr) (T:Addr):Prop:=H x=some (ExcT C d x T)∧H T=some (TbO T)∧T≠x
def thrown (H:Hp) (x C:Addr) (d:Option Addr) (T:Addr):Hp:=upd (upd H T (TbO T)) x (ExcT C d x T)
theorem thrown_x {H:Hp} {x C T:Addr} {d:Option Addr}:thrown H x C d T x=some (ExcT C d x T):=upd_same
theorem thrown_T {H:Hp} {x C T:Addr} {d:Option Addr} (n:T≠x):thrown H x C d T T=some (TbO T):=by unfold thrown; rw [upd_ne n,upd_same]
theorem thrown_ne {H:Hp} {x C T b:Addr} {d:Option Addr} (n:b≠x) (m:b≠T):thrown H x C d T b=H b:=by unfold thrown; rw [upd_ne n,upd_ne m]
section
variable {X:Cx} {pins:List (Addr × Obj)} {σ:St} {H:Hp} {s:Shared} {x C T:Addr} {d:Option Addr} {h1 h2:Heap} {fl:Value} {tt:List Addr}
theorem note_un (I:Inv X pins σ H s) {φ:Heap→Prop} (hx:H x=some (.ext φ)) (htt:∀ t∈tt,H t=some (TbO t)∧t≠x) (n:NoteTo (frs X.stack) tt x T fl (.ref C) d s.heap h1) (k2:∀ b,b≠T→h2.get? b=h1.get? b)
  (t2:∃ o ts,h2.get? T=some o∧o.data=.fields ts∧ts[3]?=some Value.none):H T=none∧T≠x∧Un (frs X.stack) [] H (thrown H x C d T) s.heap h2∧HOk X.prog X.w (thrown H x C d T) h2:=by
 have hT:H T=none:=by
  cases q:H T with
  | none=>rfl
  | some u =>
   obtain ⟨o,ho⟩:=(I.hok T u q).there
   rw [n.nT] at ho; cases ho
 have nTx:T≠x:=fun z=>by rw [z,hx] at hT; cases hT
 have tn:∀ b o,s.heap.get? b=some o→b≠T:=fun b o e z=>by rw [z,n.nT] at e; cases e
 have un:∀ b,H b=none→b≠x:=fun b e z=>by rw [z,hx] at e; cases e
 have ut:∀ b,H b=none→b ∉ tt:=fun b e z=>by rw [(htt b z).1] at e; cases e
 have hb:∀ b u,H b=some u→b≠T:=fun b u e z=>by rw [z,hT] at e; cases e
 have old:∀ t∈tt,∃ o' ts',h2.get? t=some o'∧o'.data=.fields ts'∧ts'[3]?=some Value.none:=fun t ht=>by
  obtain ⟨e,ne⟩:=htt t ht
  obtain ⟨⟨o,ts,e1,e2,e3⟩,_⟩:=(show ObjOk X.prog X.w H s.heap t (TbO t) from I.hok t _ e)
  obtain ⟨o',ts',f1,f2,f3⟩:=n.old t o ts ht ne e1 e2 (Array.getElem?_eq_some_iff.mp e3).1
  exact ⟨o',ts',(k2 t (hb t _ e)).trans f1,f2,f3⟩
 have exc:∃ vs sl,h2.get? x=some ⟨.ref C,d,.fields vs,sl⟩∧vs[1]?=some (.ref T):=by
  obtain ⟨vs,sl,e1,e2⟩:=n.exc
  exact ⟨vs,sl,(k2 x (Ne.symm nTx)).trans e1,e2⟩
 have ne_ext:∀ b u,H b=some u→(∀ ψ,u≠.ext ψ)→b≠x:=fun b u e z q=>by rw [q,hx] at e; cases e; exact z _ rfl
 refine ⟨hT,nTx,⟨fun b o q e nf _=>?_,fun b o q e bf _=>?_,fun b o q e _=>?_,fun b o q _=>?_,fun b xs e=>?_,fun b o u e=>?_,fun b ps e=>⟨#[],?_⟩⟩,fun b u e=>?_⟩
 ·exact (k2 b (tn b o q)).trans (n.keep b o (un b e) nf (ut b e) q)
 ·obtain ⟨sl,z⟩:=n.slot b o bf q
  exact ⟨sl,(k2 b (tn b o q)).trans z⟩
 ·rw [thrown_ne (un b e) (tn b o q)]; exact e
 ·by_cases z:b=x
  ·obtain ⟨vs,sl,e1,_⟩:=exc; exact ⟨_,z ▸ e1⟩
  ·by_cases zf:b∈frs X.stack
   ·obtain ⟨sl,z⟩:=n.slot b o zf q
    exact ⟨_,(k2 b (tn b o q)).trans z⟩
   ·by_cases zt:b∈tt
    ·obtain ⟨o',_,e1,_⟩:=old b zt; exact ⟨o',e1⟩
    ·exact ⟨o,(k2 b (tn b o q)).trans (n.keep b o z zf zt q)⟩
 ·rw [thrown_ne (ne_ext b _ e fun ψ z=>by cases z) (hb b _ e)]; exact e
 ·rw [thrown_ne (ne_ext b _ e fun ψ z=>by cases z) (hb b _ e)]; exact e
 ·rw [thrown_ne (ne_ext b _ e fun ψ z=>by cases z) (hb b _ e),e]; simp
 ·by_cases z:b=x
  ·subst z; rw [thrown_x] at e; cases e
   obtain ⟨vs,sl,e1,e2⟩:=exc
   exact excT_ok e1 e2
  ·by_cases zT:b=T
   ·subst zT; rw [thrown_T nTx] at e; cases e
    exact tbO_ok t2
   ·rw [thrown_ne z zT] at e
    by_cases zt:b∈tt
    ·rw [(htt b zt).1] at e; cases e
     exact tbO_ok (old b zt)
    ·have own_ne:∀ c,H c=some (.own b)→c≠x∧c≠T:=fun c hc=>⟨ne_ext c _ hc (fun ψ z=>by cases z),hb c _ hc⟩
     refine (I.hok b u e).stay (fun c v hc q=>?_) (fun c q=>?_) fun c xs q=>?_
     ·have hcH:∃ y,H c=some y:=by
       rcases hc with rfl | hc
       ·exact ⟨u,e⟩
       ·exact ⟨_,hc⟩
      obtain ⟨y,hy⟩:=hcH
      refine (k2 c (hb c y hy)).trans (n.keep c v ?_ (fun zf=>by rw [I.stkFree c zf] at hy; cases hy) (fun zt'=>?_) q)
      ·rcases hc with rfl | hc
       ·exact z
       ·exact (own_ne c hc).1
      ·rcases hc with rfl | hc
       ·exact zt zt'
       ·rw [(htt c zt').1] at hc; cases hc
     ·rw [thrown_ne (own_ne c q).1 (own_ne c q).2]; exact q
     ·rw [thrown_ne (ne_ext c _ q fun ψ z=>by cases z) (hb c _ q)]; exact q
theorem note_flight {E:Value→Shared→Prop} {Q:Unit→Shared→Prop} (I:Inv X pins σ H s) (hst:X.stack=X.env :: X.outer) (hfr:X.env.frame=some X.env.locals) (hf:Fresh H x C d∨∃ T,Flown H x C d T)
  (h:∀ h' T,H T=none→T≠x→Inv X pins σ (thrown H x C d T) { s with heap:=h' }→Q () { s with heap:=h' }) :
  wpAny (model X.prog X.w) X.A (noteFrame (.ref x) X.env) (fun _ s₂=>wpAny (model X.prog X.w) X.A (setFlight (.ref x) none) Q E s₂) E s:=by
 have fr:X.A.frames=some (X.env :: X.outer):=hst ▸ I.ok.frames
 have ff:s.heap.FunFrames X.base (X.env :: X.outer):=hst ▸ I.stack
 have rest:∀ {φ:Heap→Prop} {tt:List Addr} (hx:H x=some (.ext φ)) (htt:∀ t∈tt,H t=some (TbO t)∧t≠x) (h1:Heap) (T:Addr),NoteTo (frs (X.env :: X.outer)) tt x T (rawInt X.env.locals) (.ref C) d s.heap h1 →
   wpAny (model X.prog X.w) X.A (setFlight (.ref x) none) Q E { s with heap:=h1 }:=fun {φ tt} hx htt h1 T n=>by
  obtain ⟨vs,sl,e1,e2⟩:=n.exc
  obtain ⟨o,ts,f1,f2,f3⟩:=n.tb
  refine flight_off (s:={ s with heap:=h1 }) e1 e2 f1 f2 (Array.getElem?_eq_some_iff.mp f3).1 fun h2 k2 t2=>?_
  obtain ⟨hT,nT,un,ok⟩:=note_un I hx htt (hst ▸ n) k2 t2
  exact h h2 T hT nT (I.call (g':=s.gens) (d':=s.drawn) (t':=s.toks) (ch:=[]) un ok I.bare (fun b z=>absurd z (by simp)))
 rcases hf with (⟨rfl,hx⟩ | ⟨dx,rfl,hx⟩) | ⟨T,hx,hT,ne⟩
 ·obtain ⟨⟨vs,sl,e1,e2⟩,_⟩:=(show ObjOk X.prog X.w H s.heap x (ExcN C x) from I.hok x _ hx)
  exact note_new fr ff hfr e1 e2 fun h1 T n=>rest (tt:=[]) hx (fun t z=>absurd z (by simp)) h1 T n
 ·obtain ⟨⟨vs,sl,e1,e2⟩,_⟩:=(show ObjOk X.prog X.w H s.heap x (ExcO C dx x) from I.hok x _ hx)
  exact note_new fr ff hfr e1 e2 fun h1 T n=>rest (tt:=[]) hx (fun t z=>absurd z (by simp)) h1 T n
 ·obtain ⟨⟨vs,sl,e1,e2⟩,_⟩:=(show ObjOk X.prog X.w H s.heap x (ExcT C d x T) from I.hok x _ hx)
  obtain ⟨⟨o,ts,f1,f2,f3⟩,_⟩:=(show ObjOk X.prog X.w H s.heap T (TbO T) from I.hok T _ hT)
  exact note_next fr ff hfr e1 e2 f1 f2 f3 ne fun h1 T' n=>rest (tt:=[T]) hx (fun t z=>by rw [List.mem_singleton.mp z]; exact ⟨hT,ne⟩) h1 T' n
theorem leave_inv {E:Value→Shared→Prop} {Q:Unit→Shared→Prop} (I:Inv X pins σ H s) (hst:X.stack=X.env :: X.outer) (hfr:X.env.frame=some X.env.locals) (hf:Fresh H x C d∨∃ T,Flown H x C d T)
  (h:∀ h' T,H T=none→T≠x→Inv X pins σ (thrown H x C d T) { s with heap:=h' }→Q () { s with heap:=h' }):wpAny (model X.prog X.w) X.A (leaving X.env (.ref x)) Q E s:=by
 unfold leaving
 exact wpAny_bind (note_flight I hst hfr hf h)
end
end L2
namespace L2
open PySem PySem.Spec PyProof.Rows PySem.W
def CX1 (P:Program) (w:World):CXT:=fun outer H s E e s'=>∃ x T C d H',e=Value.ref x∧s'.os=s.os∧AllBare s'.gens∧Un (frs outer) [] H H' s.heap s'.heap∧HOk P w H' s'.heap∧Flown H' x C d T∧E (.ref x) d H'
def XeOk (X:Cx) (E:XK):Prop:=∀ (pins:List (Addr × Obj)) (σ:St) (H:Hp) (s:Shared) (x C:Addr) (d:Option Addr),Inv X pins σ H s→(Fresh H x C d∨∃ T,Flown H x C d T) →
 (∀ T,H T=none→T≠x→E (.ref x) d (thrown H x C d T))→X.xe (.ref x) s
section
variable {P:Program} {w:World} {K:PySem.W.Frag} {mg:Str→Option Value} {base:Heap} {N:List Str} {qual:Str} {scope:Scope} {f:Addr} {cd:Value} {A:Around} {outer:List Env} {s:Shared} {H:Hp} {E E₁:XK}
theorem xeok_cx:XeOk (cxOf (CX1 P w) P w K mg base N qual scope f cd A outer s H E) E:=by
 intro pins σ H1 s1 x C d I hf hE
 exact leave_inv I rfl rfl hf fun h' T hT nT I'=>⟨x,T,C,d,_,rfl,I'.os,I'.bare,I'.base,I'.hok,⟨thrown_x,thrown_T nT,nT⟩,hE T hT nT⟩
theorem own_cx:PassesOwn (model (cxOf (CX1 P w) P w K mg base N qual scope f cd A outer s H E).prog (cxOf (CX1 P w) P w K mg base N qual scope f cd A outer s H E).w) (cxOf (CX1 P w) P w K mg base N qual scope f cd A outer s H E).A (cxOf (CX1 P w) P w K mg base N qual scope f cd A outer s H E).env (cxOf (CX1 P w) P w K mg base N qual scope f cd A outer s H E).xe:=PassesOwn.leaving
end
section
variable {X:Cx} {E E₁:XK}
theorem pass_x (hX:XeOk X E) (h:∀ x C d T T2 H',E₁ (.ref x) d H'→Flown H' x C d T→H' T2=none→T2≠x→E (.ref x) d (thrown H' x C d T2)):Passes (CX1 X.prog X.w) X E₁:=by
 rintro pins σ H s e s' I ⟨x,T,C,d,H',rfl,os,bare,un,hok,fl,q⟩
 obtain ⟨hh,g,dr,t,os'⟩:=s'
 obtain rfl:os'=s.os:=os
 exact hX pins σ H' _ x C d (I.call (h':=hh) (g':=g) (d':=dr) (t':=t) (ch:=[]) un hok bare (fun b z=>absurd z (by simp))) (.inr ⟨T,fl⟩) fun T2 h2 n2=>h x C d T T2 H' q fl h2 n2
end
theorem Fun.okx {P:Program} {w:World} {K:PySem.W.Frag} {mg:Str→Option Value} {base:Heap} {x qual:Str} {st:Stmt} {f:Addr} {fd:FuncData} {N ps:List Str} {k:Nat} {sp:Sp} (F:Fun K x qual st f fd) (S:FnScope N ps (defScope st)) (len:∀ vs H Q E,sp vs H Q E→vs.length=ps.length)
  (hbody:∀ (cdv:Value) (A:Around) (outer:List Env) (s:Shared) (H:Hp) (vs:List V) (Q:VK) (E:XK),Room k (A.deeper (envOfC qual (defScope st) s.heap.objs.size f cdv))→sp vs H Q E →
   ∃ t,PSs (cxOf (CX1 P w) P w K mg base N qual (defScope st) f cdv A outer s H E) (defBody st) t∧t { nx:=fun _ H'=>Q .non H',rt:=Q } (start N vs) H):FnOk P w K mg base (CX1 P w) (k+1) f fd ps sp:=by
 obtain ⟨oc,od,kV,doc,pm,an,cdv,ct,osl,rfl,lk,hcd⟩:=F.ex
 exact fn_of lk hcd S len fun A outer s H vs Q E hr hsp=>hbody cdv A outer s H vs Q E hr hsp
structure DefOkX (P:Program) (w:World) (K:PySem.W.Frag) (mg:Str→Option Value) (base:Heap) (k:Nat) (x:Str) (ps:List Str) (sp:Sp):Prop where
 ex:∃ (f:Addr) (fd:FuncData),FnOk P w K mg base (CX1 P w) k f fd ps sp∧mg x=some (.ref f)∧PySem.W.keepIn K (.ref f)=true∧Binds K fd ps []
def sRaise (C:Addr) (names:List Str) (E:XK) (t:TA):TS:=fun _ σ H=>t σ H fun vs H1=>vs.length=names.length ∧
 ∀ y dx T H2,H1 y=none→Same H1 H2→H2 y=some (ExcO C dx y)→H2 dx=some (ExcD dx (names.zip vs))→dx≠y→H2 T=none→T≠y→E (.ref y) (some dx) (thrown H2 y C (some dx) T)
section
variable {X:Cx} {k j:Nat} {x:Str} {C:Addr} {ps names:List Str} {sp:Sp} {p pos cpos:Pos} {e:Expr} {es:List Expr} {t:TA} {E E₁:XK}
theorem pe_fnx (D:DefOkX X.prog X.w X.K X.mg X.base k x ps sp) (hr:Room j X.A) (hx:Passes (CX1 X.prog X.w) X E₁) (ha:PA X (e :: es) t) (hj:k≤j:=by decide) (hg:Gl X x:=by rfl) (hdb:(x == ("__debug__":Str))=false:=by decide)
  (he:starEach (e :: es) X.env=(false,eval e X.env) :: starEach es X.env:=by rfl) (hpl:(backTo pos (starEach es X.env)).any (·.1)=false:=by rfl):PE X (.Call (.Name x p) (e :: es) [] pos) (tCall sp [] E₁ t):=by
 obtain ⟨f,fd,F,hm,hk,hb⟩:=D.ex
 exact pe_call F (hr.mono hj) hg hm hk hb .nil hx ha hdb he hpl
theorem ps_raise (hX:XeOk X E) (D:XMkOk X.prog X.w X.K X.mg X.base k x C ps names) (hr:Room j X.A) (ha:PA X (e :: es) t) (hc:X.calm=true:=by rfl) (hj:k+1≤j:=by decide) (hg:Gl X x:=by rfl) (hdb:(x == ("__debug__":Str))=false:=by decide)
  (he:starEach (e :: es) X.env=(false,eval e X.env) :: starEach es X.env:=by rfl) (hpl:(backTo cpos (starEach es X.env)).any (·.1)=false:=by rfl):PS X (.Raise (some (.Call (.Name x p) (e :: es) [] cpos)) none pos) (sRaise C names E t):=by
 intro pins s σ H Dd I h
 obtain ⟨f,fd,M,F,hm,hb⟩:=D.ex
 have pe:wpAny (model X.prog X.w) X.A (eval (.Call (.Name x p) (e :: es) [] cpos) X.env) (EP X pins σ fun v H2=>∃ y d,v=V.ref y∧Fresh H2 y C d∧∀ T,H2 T=none→T≠y→E (.ref y) d (thrown H2 y C d T)) X.xe s:=by
  refine wpAny_Call_Name_kw (ld_glob I hg hm ?_ hdb)
  refine PySem.W.callWith_K (h₀:=X.base) I.ok.mod.kin M.kp (thn (ha cpos pins s σ H _ I h) fun us s1 ⟨vs,H1,I1,r,hl,q⟩=>⟨I1.kIn,?_⟩) he hpl
  refine run_xmk M F (hr.mono hj) hb pass0 I1 r (hl ▸ D.few) fun y hy=>⟨y,vs,rfl,hl,upd_same,fun d H' hd h1 h2 hs=>⟨rfl,y,some d,rfl,.inr ⟨d,rfl,h1⟩,fun T hT nT=>?_⟩⟩
  refine q y d T H' hy (fun a o ho=>hs a o (ne_of_none ho hy) ?_) h1 h2 (fun z=>by rw [z,upd_same] at hd; cases hd) hT nT
  rw [upd_ne (ne_of_none ho hy)]; exact ho
 rw [arm_exec_Raise]
 simp only [evalOpt,Option.map]
 refine wpAny_bind (wpAny_standAt (raise_made M (I.ok.hd hc) ?_))
 refine wpAny_bind (thn pe fun v s1 ⟨u,H2,I2,r,y,d,ey,fr,hE⟩=>wpAny_bind (wpAny_standAt (wpAny_pure ?_)))
 subst ey
 obtain rfl:v=Value.ref y:=r
 have ob:∃ vs sl,s1.heap.get? y=some ⟨.ref C,d,.fields vs,sl⟩∧vs[1]?=some Value.none:=by
  rcases fr with ⟨rfl,hx⟩ | ⟨dx,rfl,hx⟩
  ·exact (show ObjOk X.prog X.w H2 s1.heap y (ExcN C y) from I2.hok y _ hx).1
  ·exact (show ObjOk X.prog X.w H2 s1.heap y (ExcO C dx y) from I2.hok y _ hx).1
 obtain ⟨vs,sl,e1,e2⟩:=ob
 exact ⟨y,d,vs,sl,rfl,I2.kIn,e1,e2,hX pins σ H2 s1 y C d I2 (.inl fr) hE⟩
end
def emptyTo:Nat→Heap
 | 0=>{}
 | n+1=>(emptyTo n).push { cls:=.type "dict",data:=.dict #[] }
theorem emptyTo_size:∀ n,(emptyTo n).objs.size=n
 | 0=>rfl
 | n+1=>by rw [emptyTo,Heap.size_push,emptyTo_size n]
theorem excT_inj {C C' x T T':Addr} {d d':Option Addr} (h:ExcT C d x T=ExcT C' d' x T'):C=C'∧d=d'∧T=T':=by
 have h:(HO.ext fun h=>∃ vs sl,h.get? x=some ⟨.ref C,d,.fields vs,sl⟩∧vs[1]?=some (.ref T))=HO.ext fun h=>∃ vs sl,h.get? x=some ⟨.ref C',d',.fields vs,sl⟩∧vs[1]?=some (.ref T'):=h
 injection h with h
 have e:=congrFun h ((emptyTo x).push ⟨.ref C,d,.fields #[.none,.ref T],#[]⟩)
 have g:((emptyTo x).push ⟨.ref C,d,.fields #[.none,.ref T],#[]⟩).get? x=some ⟨.ref C,d,.fields #[.none,.ref T],#[]⟩:=Heap.get?_push_at (emptyTo_size x).symm rfl
 have q:=e.mp ⟨_,_,g,rfl⟩
 obtain ⟨vs,sl,e1,e2⟩:=q
 rw [g] at e1
 cases e1
 cases e2
 exact ⟨rfl,rfl,rfl⟩
def XR (H:Hp) (x C:Addr) (d:Option Addr) (fs:List (Str × V)):Prop:=(∃ dx,d=some dx∧dx≠x∧H dx=some (ExcD dx fs))∧∃ T,H x=some (ExcT C d x T)
theorem xr_new {H1 H2:Hp} {y C dx T:Addr} {fs:List (Str × V)} (hy:H1 y=none) (s:Same H1 H2) (e:H2 y=some (ExcO C dx y)) (ed:H2 dx=some (ExcD dx fs)) (hT:H2 T=none) (nd:dx≠y) :
  XR (thrown H2 y C (some dx) T) y C (some dx) fs∧Same H1 (thrown H2 y C (some dx) T) :=
 ⟨⟨⟨dx,rfl,nd,by rw [thrown_ne nd (ne_of_none ed hT)]; exact ed⟩,T,thrown_x⟩,fun a o ho=>by rw [thrown_ne (ne_of_none ho hy) (ne_of_none (s a o ho) hT)]; exact s a o ho⟩
theorem xr_on {H H1:Hp} {x C C':Addr} {d:Option Addr} {T T2:Addr} {fs:List (Str × V)} (hx:H1 x=none) (s:Same H1 H) (r:XR H x C d fs) (fl:Flown H x C' d T) (hT:H T2=none) :
  C=C'∧XR (thrown H x C' d T2) x C d fs∧Same H1 (thrown H x C' d T2):=by
 obtain ⟨⟨dx,rfl,nd,ed⟩,T',e⟩:=r
 have q:C=C':=by
  have:=fl.1
  rw [e] at this
  exact (excT_inj (Option.some.inj this)).1
 subst q
 exact ⟨rfl,⟨⟨dx,rfl,nd,by rw [thrown_ne nd (ne_of_none ed hT)]; exact ed⟩,T2,thrown_x⟩,fun a o ho=>by rw [thrown_ne (ne_of_none ho hx) (ne_of_none (s a o ho) hT)]; exact s a o ho⟩
def Rf (H:Hp) (E:XK) (C:Addr) (P:List (Str × V)→Hp→Prop):Prop:=∀ x d fs H',H x=none→Same H H'→XR H' x C (some d) fs→P fs H'→E (.ref x) (some d) H'
theorem Rf.raise {H H1 H2:Hp} {E:XK} {C y dx T:Addr} {P:List (Str × V)→Hp→Prop} {fs:List (Str × V)} (r:Rf H E C P) (s1:Same H H1) (hy:H1 y=none) (s:Same H1 H2) (e:H2 y=some (ExcO C dx y)) (ed:H2 dx=some (ExcD dx fs)) (nd:dx≠y)
  (hT:H2 T=none) (p:P fs (thrown H2 y C (some dx) T)):E (.ref y) (some dx) (thrown H2 y C (some dx) T):=by
 obtain ⟨a,b⟩:=xr_new hy s e ed hT nd
 have hy0:H y=none:=by
  cases q:H y with
  | none=>rfl
  | some o=>rw [s1 y o q] at hy; cases hy
 exact r y dx fs _ hy0 (s1.trans b) a p
def XE (H:Hp) (R:Addr→List (Str × V)→Hp→Prop):XK:=fun v d H'=>∃ x C dx fs,v=.ref x∧d=some dx∧H x=none∧Same H H'∧XR H' x C (some dx) fs∧R C fs H'
theorem XE.rf {H:Hp} {R:Addr→List (Str × V)→Hp→Prop} {C:Addr} {P:List (Str × V)→Hp→Prop} (h:∀ fs H',P fs H'→R C fs H'):Rf H (XE H R) C P:=fun x d fs H' hx s r p=>⟨x,C,d,fs,rfl,rfl,hx,s,r,h fs H' p⟩
theorem XE.on {H H0:Hp} {R:Addr→List (Str × V)→Hp→Prop} {E:XK} (s0:Same H0 H) (st:∀ C fs H' x C' d T2,R C fs H'→(∃ φ,H' x=some (.ext φ))→H' T2=none→R C fs (thrown H' x C' d T2)) (hE:∀ C,Rf H0 E C (R C)) :
  ∀ x C d T T2 H',XE H R (.ref x) d H'→Flown H' x C d T→H' T2=none→T2≠x→E (.ref x) d (thrown H' x C d T2):=by
 rintro x C d T T2 H' ⟨x',C',dx,fs,ev,rfl,hx,s,r,p⟩ fl hT2 nT2
 obtain rfl:x=x':=Value.ref.inj ev
 have hx0:H0 x=none:=by
  cases q:H0 x with
  | none=>rfl
  | some o=>rw [s0 x o q] at hx; cases hx
 obtain ⟨rfl,r2,s2⟩:=xr_on hx s r fl hT2
 exact hE C' x dx fs _ hx0 (s0.trans s2) r2 (st C' fs H' x C' (some dx) T2 p ⟨_,fl.1⟩ hT2)
def Stb (P:List (Str × V)→Hp→Prop):Prop:=∀ fs H' x C' d T2,P fs H'→(∃ φ,H' x=some (.ext φ))→H' T2=none→P fs (thrown H' x C' d T2)
theorem stb_eq {l:List (Str × V)}:Stb fun fs _=>fs=l:=fun _ _ _ _ _ _ p _ _=>p
def RU (H:Hp) (E:XK):Addr→List (Str × V)→Hp→Prop:=fun C fs H'=>∃ P,Rf H E C P∧P fs H'∧Stb P
theorem pass_u {H:Hp} {E:XK}:∀ x C d T T2 H',XE H (RU H E) (.ref x) d H'→Flown H' x C d T→H' T2=none→T2≠x→E (.ref x) d (thrown H' x C d T2) :=
 XE.on (Same.refl H) (fun C fs H' x C' d T2 ⟨P,r,p,st⟩ hx hT=>⟨P,r,st fs H' x C' d T2 p hx hT,st⟩) fun C x d fs H' hx s r ⟨P,rf,p,_⟩=>rf x d fs H' hx s r p
theorem rf_u {H H2:Hp} {E:XK} {C:Addr} {P:List (Str × V)→Hp→Prop} (s:Same H H2) (r:Rf H E C P) (st:Stb P):Rf H2 (XE H (RU H E)) C P:=fun x d fs H' hx s2 xr p=>by
 have hx0:H x=none:=by
  cases q:H x with
  | none=>rfl
  | some o=>rw [s x o q] at hx; cases hx
 exact ⟨x,C,d,fs,rfl,rfl,hx0,s.trans s2,xr,P,r,p,st⟩
end L2
namespace L2
open PySem PySem.Spec PyProof.Rows PySem.W
section
variable {X:Cx} {pins:List (Addr × Obj)} {σ:St} {H:Hp} {s:Shared}
theorem goes_ok {M:Model} {A:Around} {E:Value→Shared→Prop} {i:Nat} {n:Str} {pos:Pos} {Q:Unit→Shared→Prop} (I:Inv X pins σ H s) (hN:X.N.Nodup) (hi:X.N[i]?=some n) (hk:X.env.scope.names.lookup n=some .local)
    (h:∀ s',Inv X pins (σ.set i none) H s'→Q () s'):wpAny M A (do bindName X.env n .none; unbindBehindTheSuite X.env n pos) Q E s:=by
  obtain ⟨m,hn,hl⟩:=id I.loc
  have hcls:(X.env.scope.kind == .class || (X.env.scope.kind == .module && X.env.locals != X.env.globals))=false:=by rw [I.ok.kind]; rfl
  have hiσ:i < σ.length:=by rw [I.len]; exact (List.getElem?_eq_some_iff.mp hi).1
  refine wpAny_nameGoes_keeps hk hn hcls fun h' v hn' hs=>h _ ?_
  have nl:∀ b o,X.s₀.heap.get? b=some o→b≠X.env.locals:=fun b o e=>Nat.ne_of_lt (Nat.lt_of_lt_of_le (Heap.lt_size e) I.ok.above)
  refine ⟨I.ok,I.os,I.bare,⟨fun b o e z hb hx=>(hs.2 b (nl b o e)).trans (I.base.keep b o e z hb hx),fun b o e z hb hx=>?_,I.base.free,fun b o e hx=>?_,I.base.tups,I.base.frzs,I.base.tbls⟩,⟨_,hn',fun j y v' e1 e2 e3=>?_⟩,fun y c e=>?_,I.free,I.freeC,fun p hp=>?_,fun b ob e=>?_,by simpa using I.len⟩
  · obtain ⟨sl,e1⟩:=I.base.slot b o e z hb hx
    exact ⟨sl,(hs.2 b (nl b o e)).trans e1⟩
  · obtain ⟨o',e1⟩:=I.base.there b o e hx
    exact ⟨o',(hs.2 b (nl b o e)).trans e1⟩
  · by_cases hj:j=i
    · subst hj
      rw [List.getElem?_set_self hiσ] at e2
      cases e2
    · rw [List.getElem?_set_ne (Ne.symm hj)] at e2
      obtain ⟨u',r',q⟩:=hl j y v' e1 e2 e3
      refine ⟨u',r',?_⟩
      rcases q with ⟨k,e⟩ | ⟨k,c,e,z⟩
      · have ny:y≠n:=fun e=>hj (nodup_ix hN e1 (e ▸ hi))
        exact .inl ⟨k,by simp [ny,e]⟩
      · exact .inr ⟨k,c,e,z.sameBut hs (I.cne y c e)⟩
  · obtain ⟨w',z⟩:=I.cell y c e
    exact ⟨w',z.sameBut hs (I.cne y c e)⟩
  · obtain ⟨e,z,ne,nf,d⟩:=I.pin p hp
    exact ⟨(hs.2 p.1 ne).trans e,z,ne,nf,d⟩
  · refine (I.hok b ob e).stay (fun c w' hc q=>(hs.2 c ?_).trans q) (fun _ q=>q) fun _ _ q=>q
    rintro rfl
    rcases hc with hc | hc
    · rw [← hc,I.free] at e; cases e
    · rw [I.free] at hc; cases hc
abbrev Cx.suite (X:Cx) (x:Addr):Cx:={ X with A:=X.A.mark (some (.ref x)),calm:=false,xe:=fun _ _=>False }
theorem Inv.suite (I:Inv X pins σ H s) (x:Addr):Inv (X.suite x) pins σ H s :=
 ⟨⟨I.ok.mod,I.ok.kind,I.ok.glob,I.ok.blt,I.ok.above,I.ok.inj,I.ok.has,I.ok.cab,(fun z=>nomatch z),I.ok.frames,I.ok.stk,I.ok.exf,I.ok.bs,I.ok.bsz,I.ok.noex,I.ok.exfs,I.ok.funs,I.ok.frf⟩,I.os,I.bare,I.base,I.loc,I.cell,I.free,I.freeC,I.pin,I.hok,I.len⟩
theorem Inv.unsuite {ok:X.Ok} {x:Addr} (I:Inv (X.suite x) pins σ H s):Inv X pins σ H s :=
 ⟨ok,I.os,I.bare,I.base,I.loc,I.cell,I.free,I.freeC,I.pin,I.hok,I.len⟩
end
end L2
namespace L2
open PySem PySem.Spec PyProof.Rows PySem.W
def PX (X:Cx) (e:Expr) (t:TE) (E:XK):Prop:=∀ (pins:List (Addr × Obj)) (s:Shared) (σ:St) (H:Hp) (Q:VK) (Ex:Value→Shared→Prop),Inv X pins σ H s→t σ H Q →
 (∀ x T C d H' s',Inv X pins σ H' s'→Flown H' x C d T→E (.ref x) d H'→Ex (.ref x) s')→wpAny (model X.prog X.w) X.A (eval e X.env) (EP X pins σ Q) Ex s
section
variable {X:Cx} {k j:Nat} {x:Str} {C:Addr} {ps:List Str} {sp:Sp} {p pos:Pos} {e:Expr} {es:List Expr} {t:TA} {E:XK}
theorem px_fn (D:DefOkX X.prog X.w X.K X.mg X.base k x ps sp) (hr:Room j X.A) (ha:PA X.nox (e :: es) t) (hj:k≤j:=by decide) (hg:Gl X x:=by rfl) (hdb:(x == ("__debug__":Str))=false:=by decide)
  (he:starEach (e :: es) X.env=(false,eval e X.env) :: starEach es X.env:=by rfl) (hpl:(backTo pos (starEach es X.env)).any (·.1)=false:=by rfl):PX X (.Call (.Name x p) (e :: es) [] pos) (tCall sp [] E t) E:=by
 obtain ⟨f,fd,F,hm,hk,hb⟩:=D.ex
 intro pins s σ H Q Ex I h hx
 refine wpAny_Call_Name_kw (ld_glob I hg hm ?_ hdb)
 refine PySem.W.callWith_K (h₀:=X.base) I.ok.mod.kin hk (wpAny_mono (ha pos pins s σ H _ (I.wish _) h) (fun us s1 ⟨vs,H1,I1',r,q⟩=>⟨I1'.unwish.kIn,?_⟩) fun _ _ z=>False.elim z) he hpl
 have I1:Inv X pins σ H1 s1:=I1'.unwish
 have q:sp (vs++[]) H1 Q E:=q
 rw [List.append_nil] at q
 have hl:us.length=ps.length:=by rw [← r.length]; exact F.len _ _ _ _ q
 have hb2:=hb s1 us I1.kIn (by rw [List.append_nil]; exact hl)
 rw [List.append_nil] at hb2
 refine wpAny_call (codeAny_mono (F.run X.A X.stack s1 H1 ⟨us,[]⟩ us vs Q E (hr.mono hj) I1.env0 hb2 r q) fun r s' hq=>?_)
 cases r with
 | error e =>
  obtain ⟨x,T,C,d,H',rfl,os,bare,un,hok,fl,q'⟩:=hq
  exact hx x T C d H' s' (I1.call' (ch:=[]) os un hok bare (fun b z=>absurd z (by simp))) fl q'
 | ok fl =>
  cases fl with
  | ret u=>exact I1.after hq
  | next=>exact False.elim hq
  | brk=>exact False.elim hq
  | cont=>exact False.elim hq
end
theorem match_sub {M:Model} {A:Around} {E:Value→Shared→Prop} {s:Shared} {K:Frag} {G C e:Addr} {d:Option Addr} {dt:Data} {sl':Array (Option Value)} {Q:Bool→Shared→Prop} (X:K.In s.heap) (hG:PySem.W.excIn K G vErr "ValueError.__new__"=true)
  (he:s.heap.get? e=some ⟨.ref C,d,dt,sl'⟩) (hs:mroIn K C (.ref G)=some true) (h:Q true s):wpAny M A (excMatches (.ref e) (.ref G)) Q E s:=by
 have LS:=looks_mroIn (M:=M) X hs
 obtain ⟨hp,g,dr,tk,os⟩:=s
 have q:=hG
 unfold PySem.W.excIn at q
 split at q
 ·rename_i dd cd sl ho
  split at q
  ·rename_i C' bm k0 k1 k2 k3 n k5 hm hs
   simp only [Bool.and_eq_true,beq_iff_eq,Bool.not_eq_true'] at q
   obtain ⟨⟨⟨⟨⟨rfl,rfl⟩,hdel⟩,ht⟩,hok⟩,hni⟩:=q
   obtain ⟨nm,bs,mro,ns,qn,hd,sn,sub,ab,col,del⟩:=cd
   dsimp only at hm hdel hok hni
   subst hm hdel
   have hsl:sl=#[k0,k1,k2,k3,some (.builtin "ValueError.__new__"),k5]:=by
    obtain ⟨l⟩:=sl
    simp only at hs
    rw [hs]
   subst hsl
   have hC:hp.get? C'=some (excClassObj nm qn C' ns bs bm hd sn sub ab col dd k0 k1 k2 k3 k5 "ValueError.__new__"):=X _ _ ho
   have hcB:(Value.ref C' :: bm).contains (.type "BaseException")=true:=by
    rw [List.contains_cons,(tail_of_in X ht).hasType (show vErr.contains (.type "BaseException")=true by decide +kernel)]; exact Bool.or_true _
   have f:=tc_notTuple
   unfold excMatches
   repeat (first | with_reducible refine wpAny_loadPart_at he ?_ | with_reducible refine wpAny_loadPart_at hC ?_ | (with_reducible refine wpAny_isSubtype_exc hC ?_; rw [hcB]) | (with_reducible refine LS.at ?_) | wp_step)
   exact h
  ·cases q
 ·cases q
def goneD (im:Nat) (D:Ends):Ends:={ nx:=fun σ H=>D.nx (σ.set im none) H,rt:=D.rt,bk:=fun σ H=>D.bk (σ.set im none) H,ct:=fun σ H=>D.ct (σ.set im none) H }
section
variable {X:Cx} {i im:Nat} {n m g:Str} {G:Addr} {value:Expr} {b₀:Stmt} {suite:List Stmt} {np apos gp hpos pos:Pos} {te:XK→TE} {ts:TS}
end
end L2
namespace L2
open PySem PySem.Spec PyProof.Rows
def tCompF (wi:TI) (g:TG) (tc:TT) (te:TE) (fr:List (Option Nat)):TE:=fun σ H Q=>wi σ H fun J H1=>∀ acc,H1 acc=none→∃ W:Nat→Nat→St→Hp→Prop,(∃ m,W 0 m (stC fr σ) (upd H1 acc (.lst [])))∧∀ i m σ1 H2,W i m σ1 H2 →
 (J.stop i H2∧Q (.ref acc) H2)∨(J.go i H2∧∀ x H3,J.yld i H2 x H3→g x σ1 H3 fun σ4 H4=>tc σ4 H4 fun b Hb=>match b with
  | true=>te σ4 Hb fun v H5=>∃ xs,H5 acc=some (.lst xs)∧xs.length < sizeLine∧∃ m',m' < m∧W (i+1) m' σ4 (upd H5 acc (.lst (xs++[v])))
  | false=>∃ m',m' < m∧W (i+1) m' σ4 Hb)
section
variable {prog:Program} {w:World} {A:Around} {R:Result→Shared→Prop} {s:Shared}
theorem compLoop_anyF {elt target iter cnd:Expr} {scope:Scope} {pos:Pos} {it acc:Value} {env:Env} (I:Nat→Shared→Prop)
    (turn:∀ n s,I n s→wpAny (model prog w) A (pyNext it) (fun r s₁=>match r with
      | none=>R (.ok .next) s₁
      | some v=>wpAny (model prog w) A (letOwnedTupleGo target it v) (fun _ s₁=>wpAny (model prog w) A (assign target env v) (fun _ s₂ =>
          wpAny (model prog w) A (forIn [cnd] true fun c r=>if r=true then do let ok ← isTrue c env (eval c env); pure (ForInStep.yield ok) else pure (ForInStep.yield r)) (fun ok s₃ =>
            if ok=true then wpAny (model prog w) A (eval elt env) (fun x s₄=>wpAny (model prog w) A (call (.builtin "list.append") [acc,x]) (fun _ s₅=>∃ m,m < n∧I m s₅) (notedBy (model prog w) A env fun e s'=>R (.error e) s') s₄)
              (notedBy (model prog w) A env fun e s'=>R (.error e) s') s₃
            else ∃ m,m < n∧I m s₃) (notedBy (model prog w) A env fun e s'=>R (.error e) s') s₂)
          (notedBy (model prog w) A env fun e s'=>R (.error e) s') s₁) (notedBy (model prog w) A env fun e s'=>R (.error e) s') s₁) (notedBy (model prog w) A env fun e s'=>R (.error e) s') s)
    (n:Nat) (h:I n s) :
    codeAny (model prog w) A (.compLoop (.ListComp elt [⟨target,iter,[cnd],0⟩] scope pos) 0 it acc env) R s:=by
  refine codeAny_loop rfl I (fun n s hI=>?_) n h
  show wpAny _ _ ((compTurn (.ListComp elt [⟨target,iter,[cnd],0⟩] scope pos) 0 it acc env).onRaise (fun x=>do noteFrame x env; theTreesLotGoes x)) _ _ s
  refine wpAny_noted ?_
  rw [compTurn_list]
  refine wpAny_bind (wpAny_standAt (wpAny_bind (wpAny_mono (turn n s hI) (fun r s₁ h₁=>?_) fun _ _ h'=>h')))
  cases r with
  | none=>exact wpAny_pure h₁
  | some v =>
    refine wpAny_bind (wpAny_mono h₁ (fun _ s₁ h₁=>?_) fun _ _ h'=>h')
    refine wpAny_bind (wpAny_mono h₁ (fun _ s₂ h₂=>wpAny_bind (wpAny_mono h₂ (fun ok s₃ h₃=>?_) fun _ _ h'=>h')) fun _ _ h'=>h')
    cases ok with
    | false=>exact wpAny_pure ⟨rfl,h₃⟩
    | true=>exact wpAny_bind (wpAny_bind (wpAny_mono h₃ (fun x s₄ h₄=>wpAny_bind (wpAny_mono h₄ (fun _ s₅ h₅=>wpAny_pure (wpAny_pure ⟨rfl,h₅⟩)) fun _ _ h'=>h')) fun _ _ h'=>h'))
end
section
variable {X:Cx} {elt tg iter:Expr} {scope:Scope} {pos:Pos} {wi:TI} {g:TG} {te:TE} {N:List Str} {fr:List (Option Nat)}
variable {cnd:Expr} {tc:TT}
theorem comp_coreF {pins:List (Addr × Obj)} {σ:St} {H:Hp} {s:Shared} {Q:VK} {cl:List (Str × Addr)} {R:Value→Addr→Result→Shared→Prop} (hc:X.calm=true) (I:Inv X pins σ H s) (hi:PI X tg iter wi)
  (hg:∀ cl C s H ex,PG (compCx X scope cl N C s H ex) tg g) (hcn:∀ cl C s H ex,PT (compCx X scope cl N C s H ex) cnd tc) (he:∀ cl C s H ex,PE (compCx X scope cl N C s H ex) elt te) (ck:CompChk X.env.scope X.N scope N fr)
  (c1:∀ x c,cl.lookup x=some c→X.env.cells.lookup x=some c) (c2:∀ x,(x,NameKind.free)∈scope.names→∃ c,cl.lookup x=some c)
  (h:tCompF wi g tc te fr σ H Q)
  (hR:∀ acc C s' H' m,s'.heap.Ns C m→FpOk X pins H' C→Inv X pins σ H' s'→Q (.ref acc) H'→R (.ref acc) C (.ok .next) s') :
  wpAny (model X.prog X.w) X.A (eval iter X.env) (fun x s₁=>wpAny (model X.prog X.w) X.A (pyIter x) (fun it s₂=>wpAny (model X.prog X.w) X.A (newList []) (fun acc s₃ =>
   wpAny (model X.prog X.w) X.A (newFunctionEnv scope X.env.globals cl [] X.env.qual none .none (some X.env)) (fun cenv s₄ =>
    codeAny (model X.prog X.w) X.A (.compStart (.ListComp elt [⟨tg,iter,[cnd],0⟩] scope pos) 0 it acc { cenv with scope:=relabel scope X.env }) (R acc cenv.locals) s₄) X.xe s₃) X.xe s₂) X.xe s₁) X.xe s:=by
 refine thn (hi pins s σ H _ I h) fun v s1 h1=>thn h1 fun itv s2 h2=>?_
 obtain ⟨it,fp,tn,J,H2,e,I2,T,st2,f2,q2⟩:=h2
 subst e
 refine wpAny_newObj_type (wpAny_newFunctionEnv ck.nocell (by intro y hy; simp at hy) (fun h₁ hns₁ hsb₁=>?_) ck.kind)
 dsimp only at hns₁ hsb₁ ⊢
 have I3:Inv X pins σ (upd H2 s2.heap.objs.size (.lst [])) { s2 with heap:=s2.heap.push { cls:=.type "list",dict:=none,data:=.seq ([]:List Value).toArray } }:=I2.lnew (t':=s2.toks) (its:=[]) .nil (Nat.zero_le _)
 have acc0:H2 s2.heap.objs.size=none:=I2.fresh
 obtain ⟨W,⟨m0,w0⟩,turn⟩:=q2 s2.heap.objs.size acc0
 generalize hH3:s2.heap.push { cls:=.type "list",dict:=none,data:=.seq ([]:List Value).toArray }=h3 at hns₁ hsb₁ I3 ⊢
 have hz3:h3.objs.size=s2.heap.objs.size+1:=by rw [← hH3,Heap.size_push]
 have k23:∀ b o,s2.heap.get? b=some o→h3.get? b=some o:=fun b o e=>by rw [← hH3]; exact Heap.get?_push_of_some _ e
 have k34:∀ b o,h3.get? b=some o→h₁.get? b=some o:=fun b o e=>hsb₁.extBut b o (Nat.ne_of_lt (Heap.lt_size e)) (Heap.get?_push_of_some _ e)
 have fpo:∀ b∈fp,∃ o,s2.heap.get? b=some o∧∀ v,o.data≠.cell v:=T.obj 0 _ st2
 have hex:∀ b∈fp,FpOk X pins (upd H2 s2.heap.objs.size (.lst [])) b∧b < h3.objs.size:=fun b hb=>by
  obtain ⟨o,eo,_⟩:=fpo b hb
  have lt:=Heap.lt_size eo
  obtain ⟨f0,fr'⟩:=f2 b hb
  exact ⟨⟨by rw [upd_ne (Nat.ne_of_lt lt)]; exact f0,fr'⟩,by rw [hz3]; exact Nat.lt_succ_of_lt lt⟩
 have I4:Inv (compCx X scope cl N h3.objs.size { s2 with heap:=h3 } (upd H2 s2.heap.objs.size (.lst [])) fp) [] (stC fr σ) (upd H2 s2.heap.objs.size (.lst [])) { s2 with heap:=h₁,toks:=s2.toks+([]:List (Str × Value)).length } :=
  comp_entry I3 ck c1 c2 hex (Nat.le_refl _) hns₁ k34 rfl rfl
 have stat:∀ {H':Hp},(∀ b∈fp,H' b=none)→∀ b∈fp,FpOk (compCx X scope cl N h3.objs.size { s2 with heap:=h3 } (upd H2 s2.heap.objs.size (.lst [])) fp) [] H' b:=fun hn b hb =>
  ⟨hn b hb,(I4.ok.exf b hb).1,I4.ok.exfs b hb,.inl hb,(I4.ok.exf b hb).2,fun p hp=>by simp at hp⟩
 have stn:∀ i h h',tn i h→(∀ b o,h.get? b=some o→h'.get? b=some o)→tn i h':=fun i h h' st kk=>T.keep i h h' st fun b _ o e=>kk b o e
 have loop:codeAny (model X.prog X.w) X.A (.compLoop (.ListComp elt [⟨tg,iter,[cnd],0⟩] scope pos) 0 (.ref it) (.ref s2.heap.objs.size) (compEnvC scope cl h3.objs.size X.env)) (R (.ref s2.heap.objs.size) h3.objs.size)
   { s2 with heap:=h₁,toks:=s2.toks+([]:List (Str × Value)).length }:=by
  refine compLoop_anyF (fun n s'=>∃ i σ' H',Inv (compCx X scope cl N h3.objs.size { s2 with heap:=h3 } (upd H2 s2.heap.objs.size (.lst [])) fp) [] σ' H' s'∧tn i s'.heap∧(∀ b∈fp,H' b=none)∧W i n σ' H') ?_ m0
   ⟨0,_,_,I4,stn _ _ _ st2 fun b o e=>k34 b o (k23 b o e),fun b hb=>(hex b hb).1.1,w0⟩
  rintro n s3 ⟨i,σ3,H3,J3,st3,fr3,w3⟩
  rcases turn i n σ3 H3 w3 with ⟨stop,qn⟩ | ⟨go,step⟩
  ·refine wpFalse (thn (T.done (compCx X scope cl N h3.objs.size { s2 with heap:=h3 } (upd H2 s2.heap.objs.size (.lst [])) fp) rfl rfl rfl hc i [] s3 σ3 H3 (fun _ _=>False) J3 (stat fr3) st3 stop) fun r s4 ⟨hr,J4⟩=>?_)
   subst hr
   obtain ⟨mc,hmc,_⟩:=J4.loc
   have I5:Inv X pins σ H3 s4:=I3.call' (ch:=fp) J4.os J4.base J4.hok J4.bare fun b hb=>⟨(hex b hb).1.2.2.2.1,(hex b hb).1.2.1,(hex b hb).1.2.2.2.2.1,(hex b hb).1.2.2.2.2.2⟩
   exact hR _ _ s4 H3 mc hmc (I3.fpOk (Nat.le_refl _) J4.free) I5 qn
  ·refine wpFalse (thn (T.item (compCx X scope cl N h3.objs.size { s2 with heap:=h3 } (upd H2 s2.heap.objs.size (.lst [])) fp) rfl rfl rfl hc i [] s3 σ3 H3 (fun _ _=>False) J3 (stat fr3) st3 go) fun r s4 ⟨u,hr,h4⟩=>?_)
   subst hr
   refine wpFalse (thn h4 fun _ s5 ⟨x,H5,J5,r5,y5,st5,fr5⟩=>?_)
   have J5':=J5.pinned (stat fr5) (T.obj _ _ st5)
   refine wpFalse (thn (hg _ _ _ _ _ _ s5 σ3 H5 x u _ J5' r5 (step x H5 y5)) fun _ s6 ⟨σ6,H6,J6,q6⟩=>?_)
   refine wpAny_tests_one (wpFalse (thn (hcn _ _ _ _ _ _ s6 σ6 H6 _ J6 q6) fun b sb ⟨Hb,Jb,qb⟩=>?_))
   cases b with
   | false =>
    obtain ⟨m',hm',w7⟩:=qb
    refine ite_ff ⟨m',hm',i+1,σ6,_,Jb.unpinned,T.keep _ _ _ st5 fun b hb o e=>(Jb.pin (b,o) (List.mem_append_right _ (List.mem_append_right _ (mem_pinsAt hb e)))).1,fun b hb=>?_,w7⟩
    obtain ⟨o,e,d⟩:=T.obj _ _ st5 b hb
    exact (Jb.pin (b,o) (List.mem_append_right _ (List.mem_append_right _ (mem_pinsAt hb e)))).2.1
   | true =>
    refine ite_tt ?_
    refine wpFalse (thn (he _ _ _ _ _ _ sb σ6 Hb _ Jb qb) fun y s7 ⟨v7,H7,J7,r7,xs,hx,hz,m',hm',w7⟩=>?_)
    refine wpFalse (thn (mt_append _ s7 σ6 H7 (.ref s2.heap.objs.size) [v7] (.ref s2.heap.objs.size) [y] (fun v H8=>H8=upd H7 s2.heap.objs.size (.lst (xs++[v7]))) J7 rfl (.cons r7 .nil) ⟨_,xs,v7,rfl,rfl,hx,hz,rfl⟩) fun _ s8 ⟨_,H8,J8,_,e8⟩=>?_)
    subst e8
    refine ⟨m',hm',i+1,σ6,_,J8.unpinned,T.keep _ _ _ st5 fun b hb o e=>(J8.pin (b,o) (List.mem_append_right _ (List.mem_append_right _ (mem_pinsAt hb e)))).1,fun b hb=>?_,w7⟩
    obtain ⟨o,e,d⟩:=T.obj _ _ st5 b hb
    exact (J8.pin (b,o) (List.mem_append_right _ (List.mem_append_right _ (mem_pinsAt hb e)))).2.1
 exact codeAny_compStart_list loop (T.self _ 0 _ _ _ (stn _ _ _ st2 fun b o e=>k34 b o (k23 b o e)) loop)
theorem pe_compF (hc:X.calm=true) (hi:PI X tg iter wi) (hg:∀ cl C s H ex,PG (compCx X scope cl N C s H ex) tg g) (hcn:∀ cl C s H ex,PT (compCx X scope cl N C s H ex) cnd tc) (he:∀ cl C s H ex,PE (compCx X scope cl N C s H ex) elt te)
  (hk:compChk X.env.scope X.N scope N fr=true:=by rfl) (hs:∀ x,foldedSetIterable iter X.env x=pure x:=by intro _; rfl):PE X (.ListComp elt [⟨tg,iter,[cnd],0⟩] scope pos) (tCompF wi g tc te fr):=by
 intro pins s σ H Q I h
 have ck:=compChk_of hk
 obtain ⟨cl,e1,c1,c2⟩:=comp_cl I.ok ck
 rw [eval_ListComp]
 refine wpAny_comprehension_free (use:=none) (Q:=EP X pins σ Q) rfl hs e1 ck.kind ck.loc (comp_coreF (R:=fun acc C=>compPost (model X.prog X.w) X.A X.xe none (EP X pins σ Q) acc C) hc I hi hg hcn he ck c1 c2 h fun acc C s' H' m hn f I' q=>?_)
 obtain ⟨f0,f1,f2,f3,f4,f5⟩:=f
 exact ⟨m,hn,fun h' hs'=>⟨.ref acc,H',I'.turned (t':=s'.toks) (fun b o hb e=>hs'.extBut b o hb e) f0 f1 f3 f4 f5,rfl,q⟩⟩
theorem ps_setCompF {y:Str} {py spos:Pos} {gy:TG} (hc:X.calm=true) (hy:PG X (.Name y py) gy) (hi:PI X tg iter wi) (hg:∀ cl C s H ex,PG (compCx X scope cl N C s H ex) tg g) (hcn:∀ cl C s H ex,PT (compCx X scope cl N C s H ex) cnd tc) (he:∀ cl C s H ex,PE (compCx X scope cl N C s H ex) elt te)
    (hk:compChk X.env.scope X.N scope N fr=true:=by rfl) (hsw:swapsWith (.ListComp elt [⟨tg,iter,[cnd],0⟩] scope pos) (some (.Name y py)) spos.line X.env=pure true:=by rfl) (hs:∀ x,foldedSetIterable iter X.env x=pure x:=by intro _; rfl) :
    PS X (.Assign [.Name y py] (.ListComp elt [⟨tg,iter,[cnd],0⟩] scope pos) spos) (tAsg (tCompF wi g tc te fr) gy):=by
  intro pins s σ H D I h
  have ck:=compChk_of hk
  obtain ⟨cl,e1,c1,c2⟩:=comp_cl I.ok ck
  rw [exec_Assign_Name_used _ _ _ _ hsw]
  refine wpAny_bind (wpAny_standAt (wpAny_bind ?_))
  show wpAny _ X.A (do let _ ← comprehension (.ListComp elt [⟨tg,iter,[cnd],0⟩] scope pos) scope X.env _ (newList []) false (eval iter X.env) (some (assign (.Name y py) X.env))) _ _ s
  refine wpAny_bind (wpAny_mono (wpAny_comprehension_free (use:=some (assign (.Name y py) X.env)) (Q:=fun _ s'=>SP X pins D .next s') rfl hs e1 ck.kind ck.loc
    (comp_coreF (R:=fun acc C=>compPost (model X.prog X.w) X.A X.xe (some (assign (.Name y py) X.env)) (fun _ s'=>SP X pins D .next s') acc C) hc I hi hg hcn he ck c1 c2 h fun acc C s' H' m hn f I' q=>?_)) (fun _ s' hq=>wpAny_pure (wpAny_pure hq)) fun _ _ e=>e)
  show wpAny _ X.A (assign (.Name y py) X.env (.ref acc)) _ _ _
  obtain ⟨oC,es,ep,hoC,hdC,hrC⟩:=id hn
  have IP:=I'.pinned (fp:=[C]) (fun b hb=>by rw [List.mem_singleton.mp hb]; exact f) (fun b hb=>by rw [List.mem_singleton.mp hb]; exact ⟨oC,hoC,fun v z=>by rw [hdC] at z; cases z⟩)
  refine thn (hy _ s' σ H' (.ref acc) (.ref acc) _ IP rfl q) fun _ s'' ⟨σ6,H6,I6,q6⟩=>?_
  have pC:=I6.pin (C,oC) (List.mem_append_right _ (List.mem_append_right _ (mem_pinsAt (List.mem_singleton.mpr rfl) hoC)))
  obtain ⟨f0,f1,f2,f3,f4,f5⟩:=f
  exact ⟨m,⟨oC,es,ep,pC.1,hdC,hrC⟩,fun h' hs'=>⟨σ6,H6,I6.unpinned.turned (t':=s''.toks) (fun b o hb e=>hs'.extBut b o hb e) pC.2.1 f1 f3 f4 f5,q6⟩⟩
end
end L2
namespace L2
open PySem PySem.Spec PyProof.Rows
section
variable {X:Cx} {a b c d:Expr} {ta tb tc td:TE} {pos:Pos}
theorem ix_tupK {K:PySem.W.Frag} (hK:X.K=K:=by rfl):IxR X (rIxT K):=by subst hK; exact ix_tup
theorem ix_listK {K:PySem.W.Frag} (hK:X.K=K:=by rfl):IxR X (rIxL K):=by subst hK; exact ix_list
end
def fW (acc:Addr) (n:Nat) (Pv:Nat→List V→St→Hp→Prop) (i m:Nat) (σ:St) (H:Hp):Prop:=i≤n∧m=n - i∧∃ xs,xs.length≤i∧H acc=some (.lst xs)∧Pv i xs σ H
def fNx (acc:Addr) (n:Nat) (Pv:Nat→List V→St→Hp→Prop) (i:Nat) (σ:St) (v:V) (H:Hp):Prop:=∃ xs,H acc=some (.lst xs)∧xs.length < sizeLine∧∃ m',m' < n - i∧fW acc n Pv (i+1) m' σ (upd H acc (.lst (xs++[v])))
def fSk (acc:Addr) (n:Nat) (Pv:Nat→List V→St→Hp→Prop) (i:Nat) (σ:St) (H:Hp):Prop:=∃ m',m' < n - i∧fW acc n Pv (i+1) m' σ H
theorem fNx.mk {acc:Addr} {n:Nat} {Pv:Nat→List V→St→Hp→Prop} {i:Nat} {σ:St} {v:V} {H:Hp} {xs:List V} (hn:n≤sizeLine) (hi:i < n) (hl:xs.length≤i) (ha:H acc=some (.lst xs)) (hp:Pv (i+1) (xs++[v]) σ (upd H acc (.lst (xs++[v])))) :
  fNx acc n Pv i σ v H:=⟨xs,ha,by omega,n - (i+1),by omega,hi,rfl,xs++[v],by rw [List.length_append,List.length_singleton]; omega,upd_same,hp⟩
theorem fSk.mk {acc:Addr} {n:Nat} {Pv:Nat→List V→St→Hp→Prop} {i:Nat} {σ:St} {H:Hp} {xs:List V} (hi:i < n) (hl:xs.length≤i) (ha:H acc=some (.lst xs)) (hp:Pv (i+1) xs σ H):fSk acc n Pv i σ H:=⟨n - (i+1),by omega,hi,rfl,xs,by omega,ha,hp⟩
theorem comp_listF {K:PySem.W.Frag} {a:Addr} {ys:List V} {g:TG} {tc:TT} {te:TE} {σ:St} {H1:Hp} {acc:Addr} {Qr:Hp→Prop} (Pv:Nat→List V→St→Hp→Prop) (h0:Pv 0 [] σ (upd H1 acc (.lst [])))
  (hq:∀ i xs σ H,i≤ys.length→H acc=some (.lst xs)→Pv i xs σ H→SqL K H a ys)
  (hs:∀ i x xs σ H,ys[i]?=some x→i < ys.length→xs.length≤i→H acc=some (.lst xs)→Pv i xs σ H→g x σ H fun σ2 H2=>tc σ2 H2 fun b Hb=>match b with
   | true=>te σ2 Hb fun v H3=>fNx acc ys.length Pv i σ2 v H3
   | false=>fSk acc ys.length Pv i σ2 Hb)
  (hd:∀ xs σ H,xs.length≤ys.length→H acc=some (.lst xs)→Pv ys.length xs σ H→Qr H) :
  ∃ W:Nat→Nat→St→Hp→Prop,(∃ m,W 0 m σ (upd H1 acc (.lst [])))∧∀ i m σ1 H2,W i m σ1 H2 →
   ((Itl K a).stop i H2∧Qr H2)∨((Itl K a).go i H2∧∀ x H3,(Itl K a).yld i H2 x H3→g x σ1 H3 fun σ4 H4=>tc σ4 H4 fun b Hb=>match b with
    | true=>te σ4 Hb fun v H5=>∃ xs,H5 acc=some (.lst xs)∧xs.length < sizeLine∧∃ m',m' < m∧W (i+1) m' σ4 (upd H5 acc (.lst (xs++[v])))
    | false=>∃ m',m' < m∧W (i+1) m' σ4 Hb):=by
 refine ⟨fW acc ys.length Pv,⟨ys.length,Nat.zero_le _,rfl,[],Nat.le_refl _,upd_same,h0⟩,?_⟩
 rintro i m σ1 H2 ⟨hi,rfl,xs,hl,ha,hp⟩
 have hsq:=hq i xs σ1 H2 hi ha hp
 rcases Nat.lt_or_ge i ys.length with h | h
 ·refine .inr ⟨⟨ys,ys[i],hsq,List.getElem?_eq_getElem h⟩,?_⟩
  rintro x H3 ⟨rfl,hx⟩
  exact hs i x xs σ1 H3 (hx ys hsq) h hl ha hp
 ·have e:i=ys.length:=Nat.le_antisymm hi h
  subst e
  exact .inl ⟨⟨ys,hsq,Nat.le_refl _⟩,hd xs σ1 H2 hl ha hp⟩
end L2
namespace L2
open PySem PySem.Spec PyProof.Rows PySem.W
section
variable {X:Cx}
end
end L2
namespace L2
open PySem PySem.Spec PyProof.Rows
theorem Paired.get {α β:Type} {F:α→β→Prop}:∀ {l₁:List α} {l₂:List β},Paired F l₁ l₂→∀ {i:Nat} {a:α},l₁[i]?=some a→∃ b,l₂[i]?=some b∧F a b
 | _,_,.nil,i,a,h=>by simp at h
 | _,_,.cons f t,0,a,h=>by
  simp only [List.getElem?_cons_zero,Option.some.injEq] at h
  subst h
  exact ⟨_,rfl,f⟩
 | _,_,.cons f t,i+1,a,h=>by
  simp only [List.getElem?_cons_succ] at h ⊢
  exact Paired.get t h
theorem kV_rel {P:Program} {w:World} {k:Key} {u:Value} (h:(mixKind P w).is k u=true):RelV (kV k) u:=by
 rcases keyIs_shape (show keyIs k u=true from h) with ⟨i,t,rfl,rfl⟩ | ⟨x,t,rfl,rfl⟩
 ·exact ⟨t,rfl⟩
 ·exact ⟨t,rfl⟩
def Itm (a:Addr) (ob:Obj):It :=
 ⟨fun i H=>∃ kvs p,H a=some (.frz ob (.dK kvs))∧kvs[i]?=some p,
  fun i H y H'=>∃ t p,(∀ kvs,H a=some (.frz ob (.dK kvs))→kvs[i]?=some p)∧y=.ref t∧H t=none∧H'=upd H t (.tup [kV p.1,p.2]),
  fun i H=>∃ kvs,H a=some (.frz ob (.dK kvs))∧kvs.length≤i⟩
theorem frz_at {P:Program} {w:World} {H:Hp} {h:Heap} {a:Addr} {ob:Obj} {kvs:List (Key × V)} {ents:Array DictEntry} {n ep:Nat} (ok:HOk P w H h) (e:H a=some (.frz ob (.dK kvs))) (hd:ob.data=.dict ents ep) (hn:ents.size=n) :
  ∃ vs,KV kvs vs∧h.DictAt (mixKind P w) a vs ep∧vs.length=n:=by
 obtain ⟨ho,_,_,vs,rel,o,es,ep',h1,h2,h3,h4,h5,h6⟩:=(show ObjOk P w H h a (.frz ob (.dK kvs)) from ok a _ e)
 rw [ho] at h1
 cases h1
 rw [hd] at h3
 cases h3
 refine ⟨vs,rel,⟨_,_,ho,h2,hd,h4,h5,h6⟩,?_⟩
 rw [← h5.length,Array.length_toList]
 exact hn
theorem turn_items {P:Program} {w:World} {K:PySem.W.Frag} {es:List Expr} {k:Nat} {pos:Pos} (a it:Addr) {ob:Obj} {ents:Array DictEntry} {n ep:Nat} (hd:ob.data=.dict ents ep) (hn:ents.size=n) :
  Turn P w K (.Tuple es k pos) (Itm a ob) [it] it (fun i h=>∃ ok ov,IsItemIter h it a i n ep ok ov) where
 mem:=by simp
 obj:=fun i h st b hb=>by
  obtain ⟨ok,ov,he⟩:=st
  rw [List.mem_singleton.mp hb]
  exact ⟨_,he,fun v z=>by
   have z':Data.fields _=Data.cell v:=z
   cases z'⟩
 keep:=fun i h h' st kk=>by
  obtain ⟨ok,ov,he⟩:=st
  exact ⟨ok,ov,kk it (by simp) _ he⟩
 item:=by
  intro X hP hw hK hc i pins s σ H E I hf st hg
  subst hP hw hK
  obtain ⟨ok,ov,he⟩:=st
  obtain ⟨kvs,p,hq,hx⟩:=hg
  obtain ⟨vs,rel,hat,hl⟩:=frz_at I.hok hq hd hn
  obtain ⟨⟨k',u⟩,hu,hk',ru⟩:=Paired.get rel hx
  have fi:=hf it (by simp)
  subst hl
  refine wpAny_pyNext_items_item he hat hu fun key h' hkey ho hT hsz kk=>?_
  refine ⟨_,rfl,?_⟩
  have hfr:H s.heap.objs.size=none:=I.hok.fresh (Nat.le_refl _)
  have ltI:it < s.heap.objs.size:=Heap.lt_size he
  have rk:RelV (kV p.1) key:=by
   have e:p.1=k':=hk'
   rw [e]
   exact kV_rel hkey
  have I1:Inv X pins σ (upd H s.heap.objs.size (.tup [kV p.1,p.2])) { s with heap:=h',toks:=s.toks }:=by
   refine enum_step I fi fi (fun b o nb _ z=>kk b o nb z) ⟨_,ho⟩ ⟨_,ho⟩ ⟨?_,[key,u],.cons rk (.cons ru .nil),⟨_,hT,rfl,_,rfl⟩⟩
   show 2≤sizeLine
   decide
  refine wpAny_letOwnedTupleGo_items (s:={ s with heap:=h' }) ho fun h2 he2 sb=>?_
  have nI:it≠s.heap.objs.size:=Nat.ne_of_lt ltI
  have fi2:(upd H s.heap.objs.size (.tup [kV p.1,p.2])) it=none:=by rw [upd_ne nI]; exact fi.1
  have I2:Inv X pins σ (upd H s.heap.objs.size (.tup [kV p.1,p.2])) { ({ s with heap:=h',toks:=s.toks }:Shared) with heap:=h2,toks:=s.toks } :=
   I1.turned (t':=s.toks) (it:=it) (fun b o hb z=>(sb.2 b hb).trans z) fi2 fi.2.1 fi.2.2.2.1 fi.2.2.2.2.1 fi.2.2.2.2.2
  refine ⟨.ref s.heap.objs.size,_,I2,rfl,⟨_,p,fun ys hy=>?_,rfl,hfr,rfl⟩,⟨_,_,he2⟩,fun b hb=>?_⟩
  ·rw [hq] at hy
   cases hy
   exact hx
  ·rw [List.mem_singleton.mp hb]; exact fi2
 done:=by
  intro X hP hw hK hc i pins s σ H E I hf st hg
  subst hP hw hK
  obtain ⟨ok,ov,he⟩:=st
  obtain ⟨kvs,hq,hx⟩:=hg
  obtain ⟨vs,rel,hat,hl⟩:=frz_at I.hok hq hd hn
  obtain ⟨f0,f1,f2,f3,f4,f5⟩:=hf it (by simp)
  have hle:kvs.length=vs.length:=rel.length
  subst hl
  exact wpAny_pyNext_items_end (I.ok.hd hc) he hat (List.getElem?_eq_none (by omega)) fun h' eb=>⟨rfl,I.turned (t':=s.toks) (fun b o hb z=>eb b o hb z) f0 f1 f3 f4 f5⟩
 self:=fun _ _ _ _ _ st h=>by
  obtain ⟨ok,ov,he⟩:=st
  exact PySem.W.kcp_self he h
def iItems (td:TE):TI:=fun σ H R=>td σ H fun x H1=>∃ a kvs,x=.ref a∧H1 a=some (.dK kvs)∧∀ ob,R (Itm a ob) (upd H1 a (.frz ob (.dK kvs)))
section
variable {X:Cx}
theorem pi_items {o:Expr} {es:List Expr} {k:Nat} {tpos apos cpos:Pos} {td:TE} (hp:PE X o td)
  (hb:attributeBase o "items" X.env (eval o X.env)=eval o X.env:=by rfl) (hline:(apos.endLine == cpos.line)=true:=by rfl) :
  PI X (.Tuple es k tpos) (.Call (.Attribute o "items" apos) [] [] cpos) (iItems td):=by
 intro pins s σ H R I h
 refine wpAny_Call_method0_late hb hline (thn (hp pins s σ H _ I h) fun v s1 ⟨x,H1,I1,r1,q1⟩=>?_)
 obtain ⟨a,kvs,e,ea,q⟩:=q1
 subst e
 cases r1
 obtain ⟨hty,hnd,hsys⟩:=isD_at I1 (.inl ⟨kvs,.inl ea⟩)
 obtain ⟨_,_,vs,rel,dd⟩:=dk_of I1.hok ea
 refine ⟨"dict","dict.items",PySem.F.plainAttrs_dict,PySem.F.slot_dict_items,PySem.F.type_dict_items,hty,hnd,Calls.callWith_builtin rfl (PySem.evalArgs_none ?_)⟩
 refine call_meetsIn PySem.F.slot_dict_items dd.typeIs PySem.F.entry_dict_items (PySem.F.args_dict_items_1 _) (meets_dict_items (mixKind X.prog X.w) a hsys) ⟨⟨vs,dd⟩,?_⟩
 obtain ⟨ob,ents,ep,g1,g2,g3,g4,g5,g6⟩:=id dd
 have hat:s1.heap.DictAt (mixKind X.prog X.w) a vs ep:=⟨ob,ents,g1,g2,g3,g4,g5,g6⟩
 refine wpAny_pyIter_items (knd:=mixKind X.prog X.w) ⟨_,Heap.get?_push_size _ rfl,rfl,rfl⟩ (hat.push _) ?_
 have I2:Inv X pins σ H1 { s1 with heap:=s1.heap.push { cls:=.type "dict_items",data:=.fields #[.ref a] },toks:=s1.toks }:=I1.kept fun b u z=>Heap.get?_push_of_some _ z
 have I3:=I2.kept (h':=(s1.heap.push { cls:=.type "dict_items",data:=.fields #[.ref a] }).push { cls:=.type "dict_itemiterator",data:=.fields #[.none,.bool false,.ref a,.int 0 0,.int vs.length 0,.int ep 0,.none,.none] }) (t':=s1.toks) fun b u z=>Heap.get?_push_of_some _ z
 have g1':((s1.heap.push { cls:=.type "dict_items",data:=.fields #[.ref a] }).push { cls:=.type "dict_itemiterator",data:=.fields #[.none,.bool false,.ref a,.int 0 0,.int vs.length 0,.int ep 0,.none,.none] }).get? a=some ob:=Heap.get?_push_of_some _ (Heap.get?_push_of_some _ g1)
 have I4:=I3.write (x:=a) (e:=a) (o:=.frz ob (.dK kvs)) (h':=(s1.heap.push { cls:=.type "dict_items",data:=.fields #[.ref a] }).push { cls:=.type "dict_itemiterator",data:=.fields #[.none,.bool false,.ref a,.int 0 0,.int vs.length 0,.int ep 0,.none,.none] }) (t':=s1.toks)
  (by rw [ea]; exact True.intro) (.inl rfl) (fun b u _ z=>z) ⟨ob,g1'⟩ ⟨g1',I3.hok a _ ea⟩
 have hsz:ents.size=vs.length:=by rw [← g5.length,Array.length_toList]
 have na:s1.heap.objs.size+1≠a:=Nat.ne_of_gt (Nat.lt_succ_of_lt (Heap.lt_size g1))
 refine ⟨(s1.heap.push { cls:=.type "dict_items",data:=.fields #[.ref a] }).objs.size,[(s1.heap.push { cls:=.type "dict_items",data:=.fields #[.ref a] }).objs.size],_,_,_,rfl,I4,turn_items a _ g3 hsz,⟨_,_,Heap.get?_push_size _ rfl⟩,fun b hb'=>?_,q ob⟩
 rw [List.mem_singleton.mp hb']
 refine I2.fpOk (Nat.le_refl _) ?_
 rw [upd_ne (by rw [Heap.size_push]; exact na)]
 exact I2.hok.fresh (Nat.le_refl _)
end
theorem for_items {a:Addr} {ob:Obj} {kvs:List (Key × V)} {g:TG} {tb:TS} {D:Ends} {σ:St} {H:Hp} (Pv:Nat→St→Hp→Prop) (h0:Pv 0 σ H) (hl:∀ i σ H,i≤kvs.length→Pv i σ H→H a=some (.frz ob (.dK kvs)))
  (hs:∀ i p σ H t,kvs[i]?=some p→Pv i σ H→H t=none→g (.ref t) σ (upd H t (.tup [kV p.1,p.2])) fun σ2 H2=>tb { D with nx:=Pv (i+1),ct:=Pv (i+1),bk:=D.nx } σ2 H2) (hd:∀ σ H,Pv kvs.length σ H→D.nx σ H) :
  ∃ W:Nat→Nat→St→Hp→Prop,(∃ m,W 0 m σ H)∧∀ i m σ H,W i m σ H →
   ((Itm a ob).stop i H∧D.nx σ H)∨((Itm a ob).go i H∧∃ N:St→Hp→Prop,(∀ σ' H',N σ' H'→∃ m',m' < m∧W (i+1) m' σ' H')∧∀ x H',(Itm a ob).yld i H x H'→g x σ H' fun σ2 H2=>tb { D with nx:=N,ct:=N,bk:=D.nx } σ2 H2):=by
 refine ⟨fun i m σ H=>m=kvs.length - i∧i≤kvs.length∧Pv i σ H,⟨kvs.length,by simp,Nat.zero_le _,h0⟩,?_⟩
 rintro i m σ H ⟨rfl,hi,p⟩
 have q:=hl i σ H hi p
 by_cases hlt:i < kvs.length
 ·refine .inr ⟨⟨kvs,kvs[i],q,by simp [hlt]⟩,Pv (i+1),fun σ' H' p'=>⟨kvs.length - (i+1),by omega,rfl,hlt,p'⟩,fun x H' y=>?_⟩
  obtain ⟨t,z,hz,rfl,ht,rfl⟩:=y
  exact hs i z σ H t (hz kvs q) p ht
 ·have e:i=kvs.length:=by omega
  subst e
  exact .inl ⟨⟨kvs,q,Nat.le_refl _⟩,hd σ H p⟩
section
variable {X:Cx}
theorem mt_bits:MtR X "int.bit_length" (fun x vs H Q=>∃ i,x=.int i∧vs=[]∧Q (.int (Builtin.Int.intBits i)) H):=by
 intro pins s σ H x xs v us Q I rx rv h
 obtain ⟨i,rfl,rfl,q⟩:=h
 obtain ⟨t,rfl⟩:=rx
 cases rv
 exact PyProof.Rows.call_int_bit_length ⟨.int _,H,I.tok _,⟨_,rfl⟩,q⟩
end
section
variable {prog:Program} {w:World} {A:Around} {E:Value→Shared→Prop} {s:Shared}
theorem least_at {its:List Value} {ns:List Int} {xs:Array (Int × Tok)} (hi:IntsAre its ns) (e:its.toArray=intItems xs) (hn:ns≠[]) {v:Value}
  (hv:(intItems xs)[argBest (fun i j=>decide (numAt xs i < numAt xs j)) (xs.size - 1)]?=some v):∃ m t,v=.int m t∧m∈ns∧∀ z∈ns,m≤z:=by
 have hns:ns=xs.toList.map (·.1):=by rw [← hi.numsOf,← nums_intItems,← e]
 have hsz:0 < xs.size:=by
  rcases Nat.eq_zero_or_pos xs.size with z | z
  ·exact absurd (by rw [hns,List.map_eq_nil_iff,← List.length_eq_zero_iff,Array.length_toList]; exact z) hn
  ·exact z
 obtain ⟨t,rfl⟩:=intItems_at hv
 obtain ⟨b1,b2⟩:=argBest_lt (numAt xs) (xs.size - 1)
 refine ⟨_,t,rfl,?_,fun z hz=>?_⟩
 ·rw [hns,numAt_eq]; exact getD_mem (by rw [List.length_map,Array.length_toList]; omega)
 ·rw [hns] at hz
  obtain ⟨j,hj,rfl⟩:=mem_getD hz
  rw [List.length_map,Array.length_toList] at hj
  rw [← numAt_eq]; exact b2 j (by omega)
end
section
variable {X:Cx}
theorem call_min1:CallR X (.builtin "min") (fun xs H Q=>∃ (p:Addr) (ns:List Int),xs=[.ref p]∧SqL X.K H p (ns.map V.int)∧X.calm=true∧ns≠[]∧∀ m,m∈ns→(∀ z∈ns,m≤z)→Q (.int m) H):=by
 intro pins s σ H xs us Q I r h
 obtain ⟨p,ns,rfl,hp,hc,hn,q⟩:=h
 obtain ⟨u,rfl,ru⟩:=vals1 r
 cases ru
 obtain ⟨its,rv,pl,hz⟩:=I.list hp
 have hi:=intsAre_of rv
 obtain ⟨xs,e⟩:=hi.allInts.items
 have hl:s.heap.IsList p (intItems xs):=e ▸ pl.isList
 have hsz:0 < xs.size:=by
  have l1:ns.length=its.length:=by rw [← hi.length]
  have l2:its.length=xs.size:=by
   have:=congrArg Array.size e
   simpa [intItems] using this
  have l3:0 < ns.length:=List.length_pos_iff.mpr hn
  omega
 refine min_intList (I.ok.hd hc) hl hsz fun v h' tk hv hk=>?_
 obtain ⟨m,t,rfl,hm,hle⟩:=least_at hi e hn hv
 exact ⟨.int m,H,I.kept (t':=tk) hk,⟨t,rfl⟩,q m hm hle⟩
end
section
variable {prog:Program} {w:World} {A:Around} {E:Value→Shared→Prop} {s:Shared} {R:Result→Shared→Prop} {I:Addr} {fp wr:List Addr} {n:Nat} {P:Nat→Value→Prop} {St:Nat→Heap→Prop}
theorem args_min_or (a v:Value):argsOk "min" ⟨[a],[(Str.ofString "default",v)]⟩:=by unfold argsOk; kernel_rfl
theorem minLoop_on (wk:Walks prog w A.in1 I fp wr n P St) (lt:Nat→Nat→Bool) (cmp:CmpOf prog w A.in1 .Lt P lt) (B:Addr) (hB:B ∉ fp) (dv:Value) :
  ∀ (r j:Nat) (s:Shared) (cur:Value) (c:Nat),n - (j+1)=r→j+1≤n→St (j+1) s.heap→P (argBest lt j) cur→s.heap.get? B=some { cls:=.type "list",dict:=none,data:=.seq #[cur,cur] c,slots:=#[] } →
  (∀ v h' tk,P (argBest lt (n - 1)) v→(∀ b o,b ∉ wr→b≠B→s.heap.get? b=some o→h'.get? b=some o)→R (.ok (.ret v)) { s with heap:=h',toks:=tk }) →
  codeAny (model prog w) A (.builtin "min.loop" ⟨[.ref I,.none,.ref B],[(Str.ofString "default",dv)]⟩) R s:=by
 have nB:B ∉ wr:=fun z=>hB (wk.sub _ z)
 have name:(toString "min"++toString ".loop":String)="min.loop":=by decide
 intro r
 induction r with
 | zero =>
  intro j s cur c hr hj st pc gB fin
  have hend:j+1=n:=by omega
  refine codeAny_builtin PySem.F.entry_min_loop ?_
  rw [Around.under_plainId PySem.F.plain_min_loop _]
  show wpAny (model prog w) A.in1 (seqItems? (.ref B) >>= _) _ _ s
  refine wpAny_bind (wpAny_seqItems gB rfl ?_)
  show wpAny (model prog w) A.in1 (tryCatch (pyNext (.ref I)) _ >>= _) _ _ s
  refine wpAny_bind (wpAny_tryCatch (wk.done s _ _ (hend ▸ st) fun h1 tk kp=>?_))
  have gB1:=kp B _ nB gB
  show wpAny (model prog w) A.in1 (updateSeq B (fun _=>#[]) >>= _) _ _ _
  refine wpAny_bind ?_
  refine wpAny_updateSeq gB1 rfl (wpAny_bind (wpAny_letGo (wpAny_pure ?_)))
  refine fin cur _ tk (by rw [← hend]; exact pc) fun b o bw bB z=>?_
  exact (Heap.get?_update_other _ _ (Ne.symm bB)).trans (kp b o bw z)
 | succ r ih =>
  intro j s cur c hr hj st pc gB fin
  have more:j+1 < n:=by omega
  refine codeAny_builtin PySem.F.entry_min_loop ?_
  rw [Around.under_plainId PySem.F.plain_min_loop _]
  show wpAny (model prog w) A.in1 (seqItems? (.ref B) >>= _) _ _ s
  refine wpAny_bind (wpAny_seqItems gB rfl ?_)
  show wpAny (model prog w) A.in1 (tryCatch (pyNext (.ref I)) _ >>= _) _ _ s
  refine wpAny_bind (wpAny_tryCatch (wk.item (j+1) s _ _ more st fun v h1 tk pv st1 kp=>?_))
  have gB1:=kp B _ nB gB
  show wpAny (model prog w) A.in1 (tryCatch (holding [v,v] (richCompare .Lt v cur >>= _)) _ >>= _) _ _ _
  refine wpAny_bind (wpAny_tryCatch (wpAny_holding (wpAny_bind (cmp (j+1) (argBest lt j) v cur _ _ _ pv pc ?_))))
  refine wpAny_bind (wpAny_holding (wpAny_truthy_bool (wpAny_bind (wpAny_letGo (wpAny_pure ?_)))))
  cases q:lt (j+1) (argBest lt j) with
  | true =>
   simp only [if_true]
   refine wpAny_bind ?_
   refine wpAny_updateSeq gB1 rfl (wpAny_bind (wpAny_letGo ?_))
   rw [name]
   refine wpAny_pure ⟨plainId_quiet PySem.F.plain_min_loop _,ih (j+1) _ v _ (by omega) more (wk.frame _ _ _ st1 fun b bf o z=>?_) (by simp only [argBest,q,if_true]; exact pv) (Heap.get?_update_self _ gB1 rfl) fun v2 h2 tk2 p2 k2=>?_⟩
   ·have ne:B≠b:=fun z2=>hB (by rw [z2]; exact bf)
    exact (Heap.get?_update_other _ _ ne).trans z
   ·exact fin v2 h2 tk2 p2 fun b o bw bB z=>k2 b o bw bB ((Heap.get?_update_other _ _ (Ne.symm bB)).trans (kp b o bw z))
  | false =>
   simp only [Bool.false_eq_true,if_false]
   refine wpAny_bind (wpAny_letGo ?_)
   rw [name]
   refine wpAny_pure ⟨plainId_quiet PySem.F.plain_min_loop _,ih (j+1) _ cur c (by omega) more st1 (by simp only [argBest,q,Bool.false_eq_true,if_false]; exact pc) gB1 fun v2 h2 tk2 p2 k2=>?_⟩
   exact fin v2 h2 tk2 p2 fun b o bw bB z=>k2 b o bw bB (kp b o bw z)
theorem minLoop_or (wk:Walks prog w A.in1 I fp wr n P St) (lt:Nat→Nat→Bool) (cmp:CmpOf prog w A.in1 .Lt P lt) (B:Addr) (hB:B ∉ fp) (dv:Value) {s:Shared} {c:Nat} (st:St 0 s.heap)
  (gB:s.heap.get? B=some { cls:=.type "list",dict:=none,data:=.seq #[] c,slots:=#[] })
  (fin:∀ v h' tk,(n=0∧v=dv∨0 < n∧P (argBest lt (n - 1)) v)→(∀ b o,b ∉ wr→b≠B→s.heap.get? b=some o→h'.get? b=some o)→R (.ok (.ret v)) { s with heap:=h',toks:=tk }) :
  codeAny (model prog w) A (.builtin "min.loop" ⟨[.ref I,.none,.ref B],[(Str.ofString "default",dv)]⟩) R s:=by
 have nB:B ∉ wr:=fun z=>hB (wk.sub _ z)
 have name:(toString "min"++toString ".loop":String)="min.loop":=by decide
 refine codeAny_builtin PySem.F.entry_min_loop ?_
 rw [Around.under_plainId PySem.F.plain_min_loop _]
 show wpAny (model prog w) A.in1 (seqItems? (.ref B) >>= _) _ _ s
 refine wpAny_bind (wpAny_seqItems gB rfl ?_)
 show wpAny (model prog w) A.in1 (tryCatch (pyNext (.ref I)) _ >>= _) _ _ s
 rcases Nat.eq_zero_or_pos n with h0 | h0
 ·refine wpAny_bind (wpAny_tryCatch (wk.done s _ _ (h0 ▸ st) fun h1 tk kp=>?_))
  refine wpAny_bind (wpAny_rule (wpAny_pure ?_))
  exact fin dv h1 tk (.inl ⟨h0,rfl⟩) fun b o bw _ z=>kp b o bw z
 ·refine wpAny_bind (wpAny_tryCatch (wk.item 0 s _ _ h0 st fun v h1 tk pv st1 kp=>?_))
  have gB1:=kp B _ nB gB
  show wpAny (model prog w) A.in1 (updateSeq B (fun _=>#[v,v]) >>= _) _ _ _
  refine wpAny_bind ?_
  refine wpAny_updateSeq gB1 rfl ?_
  rw [name]
  refine wpAny_pure ⟨plainId_quiet PySem.F.plain_min_loop _,minLoop_on wk lt cmp B hB dv _ 0 _ v _ rfl h0 (wk.frame _ _ _ st1 fun b bf o z=>?_) pv (Heap.get?_update_self _ gB1 rfl) fun v2 h2 tk2 p2 k2=>?_⟩
  ·have ne:B≠b:=fun z2=>hB (by rw [z2]; exact bf)
   exact (Heap.get?_update_other _ _ ne).trans z
  ·exact fin v2 h2 tk2 (.inr ⟨h0,p2⟩) fun b o bw bB z=>k2 b o bw bB ((Heap.get?_update_other _ _ (Ne.symm bB)).trans (kp b o bw z))
theorem min_or {Q:Value→Shared→Prop} {l:Addr} {xs:Array (Int × Tok)} {dv:Value} (hh:A.handled=none) (hl:s.heap.IsList l (intItems xs))
  (fin:∀ v h' tk,(xs.size=0∧v=dv∨0 < xs.size∧(intItems xs)[argBest (fun i j=>decide (numAt xs i < numAt xs j)) (xs.size - 1)]?=some v)→(∀ b o,s.heap.get? b=some o→h'.get? b=some o)→Q v { s with heap:=h',toks:=tk }) :
  wpAny (model prog w) A (call (.builtin "min") [.ref l] [(Str.ofString "default",dv)]) Q E s:=by
 have name:(toString "min"++toString ".loop":String)="min.loop":=by decide
 refine kmk_tree PySem.F.kind_min PySem.F.plain_min PySem.F.entry_min (args_min_or _ _) ?_
 show wpAny (model prog w) A.in1 (Builtin.Builtins.bindParams "min" ["key","default"] 0 ⟨[],[(Str.ofString "default",dv)]⟩ >>= _) _ _ s
 refine wpAny_bind (wpAny_of_eq (show Builtin.Builtins.bindParams "min" ["key","default"] 0 ⟨[],[(Str.ofString "default",dv)]⟩=pure [none,some dv] from rfl) ?_)
 refine wpAny_bind (wpAny_pure ?_)
 refine wpAny_bind (wpAny_pyIter_list hl ?_)
 refine wpAny_bind (wpAny_newList ?_ (Nat.zero_le _))
 rw [name]
 obtain ⟨ol,hol,rl⟩:=id hl
 have hlt:l < s.heap.objs.size:=Heap.lt_size hol
 have sz:(s.heap.push { cls:=.type "list_iterator",data:=.fields #[.ref l,.int 0 0] }).objs.size=s.heap.objs.size+1:=Heap.size_push ..
 have wk:=Walks.list (prog:=prog) (w:=w) (A:=A.in1) hh s.heap.objs.size l (Nat.ne_of_lt hlt) (intItems xs)
 have nn:(intItems xs).size=xs.size:=by simp [intItems]
 refine wpAny_pure ⟨plainId_quiet PySem.F.plain_min_loop _,minLoop_or wk (fun i j=>decide (numAt xs i < numAt xs j)) (CmpOf.ints_lt (numAt xs) (fun _ _=>intItems_at)) _ (fun z=>?_) dv
  ⟨⟨_,Heap.get?_push_of_some _ (Heap.get?_push_size _ rfl),rfl,rfl⟩,ol,Heap.get?_push_of_some _ (Heap.get?_push_of_some _ hol),rl⟩ (Heap.get?_push_size _ rfl) fun v h' tk hv kp=>?_⟩
 ·rw [sz] at z
  rcases List.mem_cons.mp z with z | z
  ·exact absurd z (Nat.succ_ne_self _)
  ·have z:=List.mem_singleton.mp z
   exact absurd hlt (by rw [← z]; exact Nat.not_lt.mpr (Nat.le_succ _))
 ·rw [nn] at hv
  refine fin v h' tk hv fun b o z=>kp b o (fun z2=>?_) (fun z2=>?_) (Heap.get?_push_of_some _ (Heap.get?_push_of_some _ z))
  ·have z2:=List.mem_singleton.mp z2
   exact absurd (Heap.lt_size z) (by rw [z2]; exact Nat.lt_irrefl _)
  ·rw [sz] at z2
   exact absurd (Heap.lt_size z) (by rw [z2]; exact Nat.not_lt.mpr (Nat.le_succ _))
end
def tMinD (K:PySem.W.Frag) (ta:TA) (td:TE):TE:=fun σ H Q=>ta σ H fun xs H1=>td σ H1 fun y H2=>∃ (p:Addr) (ns:List Int),xs=[.ref p]∧SqL K H2 p (ns.map V.int)∧(ns=[]→Q y H2)∧∀ m,m∈ns→(∀ z∈ns,m≤z)→Q (.int m) H2
section
variable {X:Cx}
theorem pe_minD {e d:Expr} {p kp pos:Pos} {ta:TA} {td:TE} (hc:X.calm=true) (hg:Gl X "min") (hm:X.mg "min"=none) (ha:PA X [e] ta) (hd:PE X d td)
  (he:backTo pos (starEach [e] X.env)=(false,eval e X.env) :: backTo pos (starEach [] X.env):=by rfl) (hn:(backTo pos (starEach [e] X.env)).any (·.1)=false:=by rfl) :
  PE X (.Call (.Name "min" p) [e] [⟨some "default",d,kp⟩] pos) (tMinD X.K ta td):=by
 intro pins s σ H Q I h
 refine wpAny_Call_Name_kw (ld_blt I hg hm boot_min ?_)
 refine PyProof.Rows.callWith_kw (thn (ha pos pins s σ H _ I h) fun us s1 ⟨vs,H1,I1,r1,q1⟩=>?_) he hn
 refine PyProof.Rows.kws_cons (thn (hd pins s1 σ H1 _ I1 q1) fun dv s2 ⟨y,H2,I2,ry,q2⟩=>PyProof.Rows.kws_nil ?_)
 obtain ⟨l,ns,rfl,hp,q0,qm⟩:=q2
 obtain ⟨u,rfl,ru⟩:=vals1 r1
 cases ru
 obtain ⟨its,rv,pl,hz⟩:=I2.list hp
 have hi:=intsAre_of rv
 obtain ⟨xs,ex⟩:=hi.allInts.items
 have hl:s2.heap.IsList l (intItems xs):=ex ▸ pl.isList
 have l0:ns.length=xs.size:=by
  have l1:ns.length=its.length:=by rw [← hi.length]
  have l2:its.length=xs.size:=by
   have:=congrArg Array.size ex
   simpa [intItems] using this
  omega
 show wpAny (model X.prog X.w) X.A (call (.builtin "min") [.ref l] [(Str.ofString "default",dv)]) _ _ s2
 refine min_or (I2.ok.hd hc) hl fun v h' tk hv kk=>?_
 rcases hv with ⟨n0,rfl⟩ | ⟨n0,hv⟩
 ·have hn:ns=[]:=List.length_eq_zero_iff.mp (by omega)
  exact ⟨y,H2,I2.kept (t':=tk) kk,ry,q0 hn⟩
 ·have hn:ns≠[]:=fun z=>by rw [z] at l0; simp at l0; omega
  obtain ⟨m,t,rfl,h1,h2⟩:=least_at hi ex hn hv
  exact ⟨.int m,H2,I2.kept (t':=tk) kk,⟨t,rfl⟩,qm m h1 h2⟩
end
def tInt (ta:TE):TT:=fun σ H Q=>ta σ H fun x H'=>∃ i,x=.int i∧Q (i != 0) H'
section
variable {X:Cx} {a:Expr} {ta:TE}
theorem pt_int (ha:PE X a ta) (he:∀ whole,isTrue a X.env whole=(do let v ← whole; standAt a.pos; holding [v] (truthy v)):=by intro _; rfl):PT X a (tInt ta):=by
  intro pins s σ H Q I h
  refine isTrue_plain (thn (ha pins s σ H _ I h) fun v s1 ⟨x,H1,I1,r1,q1⟩=>?_) (he _)
  obtain ⟨i,rfl,q⟩:=q1
  obtain ⟨t,rfl⟩:=r1
  exact PySem.P.truthy_int ⟨H1,I1,q⟩
end
theorem comp_rangeF {lo:Int} {n:Nat} {g:TG} {tc:TT} {te:TE} {σ:St} {H1:Hp} {acc:Addr} {Qr:Hp→Prop} (Pv:Nat→List V→St→Hp→Prop) (h0:Pv 0 [] σ (upd H1 acc (.lst [])))
  (hs:∀ i xs σ H,i < n→xs.length≤i→H acc=some (.lst xs)→Pv i xs σ H→g (.int (lo+i)) σ H fun σ2 H2=>tc σ2 H2 fun b Hb=>match b with
   | true=>te σ2 Hb fun v H3=>fNx acc n Pv i σ2 v H3
   | false=>fSk acc n Pv i σ2 Hb)
  (hd:∀ xs σ H,xs.length≤n→H acc=some (.lst xs)→Pv n xs σ H→Qr H) :
  ∃ W:Nat→Nat→St→Hp→Prop,(∃ m,W 0 m σ (upd H1 acc (.lst [])))∧∀ i m σ1 H2,W i m σ1 H2 →
   ((Itr lo n).stop i H2∧Qr H2)∨((Itr lo n).go i H2∧∀ x H3,(Itr lo n).yld i H2 x H3→g x σ1 H3 fun σ4 H4=>tc σ4 H4 fun b Hb=>match b with
    | true=>te σ4 Hb fun v H5=>∃ xs,H5 acc=some (.lst xs)∧xs.length < sizeLine∧∃ m',m' < m∧W (i+1) m' σ4 (upd H5 acc (.lst (xs++[v])))
    | false=>∃ m',m' < m∧W (i+1) m' σ4 Hb):=by
 refine ⟨fW acc n Pv,⟨n,Nat.zero_le _,rfl,[],Nat.le_refl _,upd_same,h0⟩,?_⟩
 rintro i m σ1 H2 ⟨hi,rfl,xs,hl,ha,hp⟩
 rcases Nat.lt_or_ge i n with h | h
 ·refine .inr ⟨h,?_⟩
  rintro x H3 ⟨rfl,rfl⟩
  exact hs i xs σ1 H3 h hl ha hp
 ·have e:i=n:=Nat.le_antisymm hi h
  subst e
  exact .inl ⟨Nat.le_refl _,hd xs σ1 H2 hl ha hp⟩
end L2
namespace L2
open PySem PySem.Spec PyProof.Rows
section
variable {X:Cx}
end
end L2
namespace L2
open PySem PySem.Spec PyProof.Rows
section
variable {X:Cx} {k j:Nat} {x y:Str} {ps:List Str} {sp:Sp} {p pos:Pos} {e:Expr} {es:List Expr} {tv:TE} {t:TA}
end
section
variable {prog:Program} {w:World} {A:Around} {E:Value→Shared→Prop} {s:Shared} {it d v:Addr} {i n ep:Nat} {od:Obj} {es:Array DictEntry} {k0 v0:Value}
end
section
variable {X:Cx}
end
end L2
namespace L2
open PySem PySem.Spec PyProof.Rows
section
variable {prog:Program} {w:World} {A:Around} {E:Value→Shared→Prop} {s:Shared} {d:Addr} {od:Obj} {es:Array DictEntry} {ep:Nat}
end
section
variable {X:Cx}
end
section
variable {X:Cx}
end
end L2
namespace L2
open PySem PySem.Spec PyProof.Rows
section
variable {prog:Program} {w:World} {A:Around} {E:Value→Shared→Prop} {s:Shared} {it d:Addr} {i ep:Nat} {od:Obj} {es:Array DictEntry}
end
section
variable {X:Cx}
end
end L2
namespace L2
open PySem PySem.Spec PyProof.Rows
section
variable {X:Cx}
end
end L2
namespace L2
open PySem PySem.Spec PyProof.Rows
section
variable {X:Cx}
end
section
variable {X:Cx}
end
end L2
namespace L2
open PySem PySem.Spec PyProof.Rows
section
open HT
variable {prog:Program} {w:World} {A:Around} {E:Value→Shared→Prop} {s:Shared}
end
section
variable {X:Cx} {e st:Expr} {te ts:TE} {pos p2:Pos}
end
end L2
namespace L2
open PySem PySem.Spec PyProof.Rows
section
variable {prog:Program} {w:World} {A:Around} {E:Value→Shared→Prop} {s:Shared} {R:Result→Shared→Prop} {I:Addr} {fp wr:List Addr} {n:Nat} {P:Nat→Value→Prop} {St:Nat→Heap→Prop}
def CmpG (prog:Program) (w:World) (A:Around) (G:Heap→Prop) (P:Nat→Value→Prop) (lt:Nat→Nat→Bool):Prop :=
 ∀ i j vi vj (s:Shared) (Q:Value→Shared→Prop) (E:Value→Shared→Prop),G s.heap→P i vi→P j vj→Q (.bool (lt i j)) s→wpAny (model prog w) A (richCompare .Lt vi vj) Q E s
theorem minLoop_G (wk:Walks prog w A.in1 I fp wr n P St) (lt:Nat→Nat→Bool) (B:Addr) (hB:B ∉ fp) {G:Heap→Prop} (hG:∀ h h',G h→(∀ b o,b ∉ wr→b≠B→h.get? b=some o→h'.get? b=some o)→G h') (cmp:CmpG prog w A.in1 G P lt) :
  ∀ (r j:Nat) (s:Shared) (cur:Value) (c:Nat),n - (j+1)=r→j+1≤n→G s.heap→St (j+1) s.heap→P (argBest lt j) cur→s.heap.get? B=some { cls:=.type "list",dict:=none,data:=.seq #[cur,cur] c,slots:=#[] } →
  (∀ v h' tk,P (argBest lt (n - 1)) v→(∀ b o,b ∉ wr→b≠B→s.heap.get? b=some o→h'.get? b=some o)→R (.ok (.ret v)) { s with heap:=h',toks:=tk }) →
  codeAny (model prog w) A (.builtin "min.loop" ⟨[.ref I,.none,.ref B],[]⟩) R s:=by
 have nB:B ∉ wr:=fun z=>hB (wk.sub _ z)
 have name:(toString "min"++toString ".loop":String)="min.loop":=by decide
 intro r
 induction r with
 | zero =>
  intro j s cur c hr hj gs st pc gB fin
  have hend:j+1=n:=by omega
  refine codeAny_builtin PySem.F.entry_min_loop ?_
  rw [Around.under_plainId PySem.F.plain_min_loop _]
  show wpAny (model prog w) A.in1 (seqItems? (.ref B) >>= _) _ _ s
  refine wpAny_bind (wpAny_seqItems gB rfl ?_)
  show wpAny (model prog w) A.in1 (tryCatch (pyNext (.ref I)) _ >>= _) _ _ s
  refine wpAny_bind (wpAny_tryCatch (wk.done s _ _ (hend ▸ st) fun h1 tk kp=>?_))
  have gB1:=kp B _ nB gB
  show wpAny (model prog w) A.in1 (updateSeq B (fun _=>#[]) >>= _) _ _ _
  refine wpAny_bind ?_
  refine wpAny_updateSeq gB1 rfl (wpAny_bind (wpAny_letGo (wpAny_pure ?_)))
  refine fin cur _ tk (by rw [← hend]; exact pc) fun b o bw bB z=>?_
  exact (Heap.get?_update_other _ _ (Ne.symm bB)).trans (kp b o bw z)
 | succ r ih =>
  intro j s cur c hr hj gs st pc gB fin
  have more:j+1 < n:=by omega
  refine codeAny_builtin PySem.F.entry_min_loop ?_
  rw [Around.under_plainId PySem.F.plain_min_loop _]
  show wpAny (model prog w) A.in1 (seqItems? (.ref B) >>= _) _ _ s
  refine wpAny_bind (wpAny_seqItems gB rfl ?_)
  show wpAny (model prog w) A.in1 (tryCatch (pyNext (.ref I)) _ >>= _) _ _ s
  refine wpAny_bind (wpAny_tryCatch (wk.item (j+1) s _ _ more st fun v h1 tk pv st1 kp=>?_))
  have gB1:=kp B _ nB gB
  have gs1:G h1:=hG _ _ gs fun b o bw _ z=>kp b o bw z
  show wpAny (model prog w) A.in1 (tryCatch (holding [v,v] (richCompare .Lt v cur >>= _)) _ >>= _) _ _ _
  refine wpAny_bind (wpAny_tryCatch (wpAny_holding (wpAny_bind (cmp (j+1) (argBest lt j) v cur _ _ _ gs1 pv pc ?_))))
  refine wpAny_bind (wpAny_holding (wpAny_truthy_bool (wpAny_bind (wpAny_letGo (wpAny_pure ?_)))))
  cases q:lt (j+1) (argBest lt j) with
  | true =>
   simp only [if_true]
   refine wpAny_bind ?_
   refine wpAny_updateSeq gB1 rfl (wpAny_bind (wpAny_letGo ?_))
   rw [name]
   refine wpAny_pure ⟨plainId_quiet PySem.F.plain_min_loop _,ih (j+1) _ v _ (by omega) more (hG _ _ gs1 fun b o _ bB z=>?_) (wk.frame _ _ _ st1 fun b bf o z=>?_) (by simp only [argBest,q,if_true]; exact pv) (Heap.get?_update_self _ gB1 rfl) fun v2 h2 tk2 p2 k2=>?_⟩
   ·exact (Heap.get?_update_other _ _ (Ne.symm bB)).trans z
   ·have ne:B≠b:=fun z2=>hB (by rw [z2]; exact bf)
    exact (Heap.get?_update_other _ _ ne).trans z
   ·exact fin v2 h2 tk2 p2 fun b o bw bB z=>k2 b o bw bB ((Heap.get?_update_other _ _ (Ne.symm bB)).trans (kp b o bw z))
  | false =>
   simp only [Bool.false_eq_true,if_false]
   refine wpAny_bind (wpAny_letGo ?_)
   rw [name]
   refine wpAny_pure ⟨plainId_quiet PySem.F.plain_min_loop _,ih (j+1) _ cur c (by omega) more gs1 st1 (by simp only [argBest,q,Bool.false_eq_true,if_false]; exact pc) gB1 fun v2 h2 tk2 p2 k2=>?_⟩
   exact fin v2 h2 tk2 p2 fun b o bw bB z=>k2 b o bw bB (kp b o bw z)
theorem min_G {Q:Value→Shared→Prop} {l:Addr} {items:Array Value} {lt:Nat→Nat→Bool} (hh:A.handled=none) (hl:s.heap.IsList l items) (hne:0 < items.size)
  (cmp:CmpG prog w A.in1 (fun h=>∀ b o,s.heap.get? b=some o→h.get? b=some o) (fun i v=>items[i]?=some v) lt)
  (fin:∀ v h' tk,items[argBest lt (items.size - 1)]?=some v→(∀ b o,s.heap.get? b=some o→h'.get? b=some o)→Q v { s with heap:=h',toks:=tk }) :
  wpAny (model prog w) A (call (.builtin "min") [.ref l]) Q E s:=by
 have name:(toString "min"++toString ".loop":String)="min.loop":=by decide
 refine call_function_tree PySem.F.kind_min PySem.F.plain_min PySem.F.entry_min (PySem.F.args_min1 _) ?_
 show wpAny (model prog w) A.in1 (Builtin.Builtins.bindParams "min" ["key","default"] 0 ⟨[],[]⟩ >>= _) _ _ s
 refine wpAny_bind (wpAny_of_eq (show Builtin.Builtins.bindParams "min" ["key","default"] 0 ⟨[],[]⟩=pure [none,none] from rfl) ?_)
 refine wpAny_bind (wpAny_pure ?_)
 refine wpAny_bind (wpAny_pyIter_list hl ?_)
 refine wpAny_bind (wpAny_newList ?_ (Nat.zero_le _))
 rw [name]
 obtain ⟨ol,hol,rl⟩:=id hl
 have hlt:l < s.heap.objs.size:=Heap.lt_size hol
 have sz:(s.heap.push { cls:=.type "list_iterator",data:=.fields #[.ref l,.int 0 0] }).objs.size=s.heap.objs.size+1:=Heap.size_push ..
 have wk:=Walks.list (prog:=prog) (w:=w) (A:=A.in1) hh s.heap.objs.size l (Nat.ne_of_lt hlt) items
 have st0:(((s.heap.push { cls:=.type "list_iterator",data:=.fields #[.ref l,.int 0 0] }).push { cls:=.type "list",data:=.seq #[] }).IsListIter s.heap.objs.size l 0)∧((s.heap.push { cls:=.type "list_iterator",data:=.fields #[.ref l,.int 0 0] }).push { cls:=.type "list",data:=.seq #[] }).IsList l items:=⟨⟨_,Heap.get?_push_of_some _ (Heap.get?_push_size _ rfl),rfl,rfl⟩,ol,Heap.get?_push_of_some _ (Heap.get?_push_of_some _ hol),rl⟩
 have nB:(s.heap.push { cls:=.type "list_iterator",data:=.fields #[.ref l,.int 0 0] }).objs.size ∉ [s.heap.objs.size,l]:=fun z=>by
  rw [sz] at z
  rcases List.mem_cons.mp z with z | z
  ·exact absurd z (Nat.succ_ne_self _)
  ·have z:=List.mem_singleton.mp z
   exact absurd hlt (by rw [← z]; exact Nat.not_lt.mpr (Nat.le_succ _))
 have nW:(s.heap.push { cls:=.type "list_iterator",data:=.fields #[.ref l,.int 0 0] }).objs.size ∉ [s.heap.objs.size]:=fun z=>nB (by rw [List.mem_singleton.mp z]; simp)
 have old:∀ b o,s.heap.get? b=some o→b ∉ [s.heap.objs.size]∧b≠(s.heap.push { cls:=.type "list_iterator",data:=.fields #[.ref l,.int 0 0] }).objs.size:=fun b o z=>by
  have lt:=Heap.lt_size z
  refine ⟨fun z2=>?_,fun z2=>?_⟩
  ·have z2:=List.mem_singleton.mp z2
   rw [z2] at lt
   exact absurd lt (Nat.lt_irrefl _)
  ·rw [sz] at z2
   rw [z2] at lt
   exact absurd lt (Nat.not_lt.mpr (Nat.le_succ _))
 have hG:∀ h h':Heap,(∀ b o,s.heap.get? b=some o→h.get? b=some o)→(∀ b o,b ∉ [s.heap.objs.size]→b≠(s.heap.push { cls:=.type "list_iterator",data:=.fields #[.ref l,.int 0 0] }).objs.size→h.get? b=some o→h'.get? b=some o)→(∀ b o,s.heap.get? b=some o→h'.get? b=some o):=fun h h' g k b o z=>k b o (old b o z).1 (old b o z).2 (g b o z)
 have g0:∀ b o,s.heap.get? b=some o→((s.heap.push { cls:=.type "list_iterator",data:=.fields #[.ref l,.int 0 0] }).push { cls:=.type "list",data:=.seq #[] }).get? b=some o:=fun b o z=>Heap.get?_push_of_some _ (Heap.get?_push_of_some _ z)
 have gB:=Heap.get?_push_size (s.heap.push { cls:=.type "list_iterator",data:=.fields #[.ref l,.int 0 0] }) (o:={ cls:=.type "list",data:=.seq #[] }) rfl
 refine wpAny_pure ⟨plainId_quiet PySem.F.plain_min_loop _,?_⟩
 refine codeAny_builtin PySem.F.entry_min_loop ?_
 rw [Around.under_plainId PySem.F.plain_min_loop _]
 show wpAny (model prog w) A.in1 (seqItems? (.ref _) >>= _) _ _ _
 refine wpAny_bind (wpAny_seqItems gB rfl ?_)
 show wpAny (model prog w) A.in1 (tryCatch (pyNext (.ref _)) _ >>= _) _ _ _
 refine wpAny_bind (wpAny_tryCatch (wk.item 0 _ _ _ hne st0 fun v h1 tk pv st1 kp=>?_))
 have gB1:=kp _ _ nW gB
 show wpAny (model prog w) A.in1 (updateSeq _ (fun _=>#[v,v]) >>= _) _ _ _
 refine wpAny_bind ?_
 refine wpAny_updateSeq gB1 rfl ?_
 rw [name]
 have g1:∀ b o,s.heap.get? b=some o→h1.get? b=some o:=fun b o z=>kp b o (old b o z).1 (g0 b o z)
 refine wpAny_pure ⟨plainId_quiet PySem.F.plain_min_loop _,minLoop_G wk lt _ nB hG cmp _ 0 _ v _ rfl hne (fun b o z=>(Heap.get?_update_other _ _ (Ne.symm (old b o z).2)).trans (g1 b o z)) (wk.frame _ _ _ st1 fun b bf o z=>?_) pv (Heap.get?_update_self _ gB1 rfl) fun v2 h2 tk2 p2 k2=>?_⟩
 ·exact (Heap.get?_update_other _ _ (fun z2=>nB (by rw [z2]; exact bf))).trans z
 ·exact fin v2 h2 tk2 p2 fun b o z=>k2 b o (old b o z).1 (old b o z).2 ((Heap.get?_update_other _ _ (Ne.symm (old b o z).2)).trans (g1 b o z))
end
theorem lex2 {a b c d:Int}:(HT.lexLt [a,b] [c,d]=true→a≤c)∧(HT.lexLt [a,b] [c,d]=false→c≤a):=by
 rw [HT.lexLt_cons]
 by_cases e:a=c
 ·exact ⟨fun _=>by omega,fun _=>by omega⟩
 ·rw [if_neg e]
  exact ⟨fun h=>by have:=of_decide_eq_true h; omega,fun h=>by have:=of_decide_eq_false h; omega⟩
theorem best2 (f:Nat→Int × Int):∀ k,argBest (fun i j=>HT.lexLt [(f i).1,(f i).2] [(f j).1,(f j).2]) k≤k∧∀ j,j≤k→(f (argBest (fun i j=>HT.lexLt [(f i).1,(f i).2] [(f j).1,(f j).2]) k)).1≤(f j).1
 | 0=>⟨Nat.le_refl _,fun j hj=>by rw [Nat.le_zero.mp hj]; exact Int.le_refl _⟩
 | k+1=>by
  obtain ⟨h1,h2⟩:=best2 f k
  unfold argBest
  cases q:HT.lexLt [(f (k+1)).1,(f (k+1)).2] [(f (argBest (fun i j=>HT.lexLt [(f i).1,(f i).2] [(f j).1,(f j).2]) k)).1,(f (argBest (fun i j=>HT.lexLt [(f i).1,(f i).2] [(f j).1,(f j).2]) k)).2] with
  | true =>
   rw [if_pos rfl]
   have:=lex2.1 q
   refine ⟨Nat.le_refl _,fun j hj=>?_⟩
   rcases Nat.lt_or_ge j (k+1) with l | l
   ·exact Int.le_trans this (h2 j (by omega))
   ·rw [show j=k+1 from by omega]; exact Int.le_refl _
  | false =>
   rw [if_neg Bool.false_ne_true]
   have:=lex2.2 q
   refine ⟨by omega,fun j hj=>?_⟩
   rcases Nat.lt_or_ge j (k+1) with l | l
   ·exact h2 j (by omega)
   ·rw [show j=k+1 from by omega]; exact this
section
variable {X:Cx}
theorem call_minT (hu:X.A.units+1 < cLine):CallR X (.builtin "min") (fun xs H Q=>∃ (p:Addr) (ts:List (Addr × Int × Int)),xs=[.ref p]∧SqL X.K H p (ts.map fun t=>V.ref t.1)∧X.calm=true∧ts≠[]∧(∀ t∈ts,H t.1=some (.tup [.int t.2.1,.int t.2.2])) ∧
  ∀ t∈ts,(∀ u∈ts,t.2.1≤u.2.1)→Q (.ref t.1) H):=by
 intro pins s σ H xs us Q I r h
 obtain ⟨p,ts,rfl,hp,hc,hn,ht,q⟩:=h
 obtain ⟨u,rfl,ru⟩:=vals1 r
 cases ru
 obtain ⟨its,rv,pl,hz⟩:=I.list hp
 have hits:its=ts.map fun t=>Value.ref t.1:=by
  have:=refs_vals (ts:=ts.map (·.1)) (its:=its) (by rw [List.map_map]; exact rv)
  rw [this,List.map_map]; rfl
 subst hits
 have tup:∀ t∈ts,∃ items,IsTup s.heap t.1 items∧IntsAre items.toList [t.2.1,t.2.2]:=fun t htm=>by
  obtain ⟨_,zs,rz,tz⟩:=(show ObjOk X.prog X.w H s.heap t.1 (.tup ([t.2.1,t.2.2].map V.int)) from I.hok _ _ (ht t htm))
  exact ⟨_,tz,by simpa using intsAre_of rz⟩
 have len:0 < ts.length:=List.length_pos_iff.mpr hn
 have at_:∀ (i:Nat) (v:Value),(ts.map fun t=>Value.ref t.1).toArray[i]?=some v→∃ t,ts[i]?=some t∧v=.ref t.1:=fun i v e=>by
  rw [List.getElem?_toArray,List.getElem?_map] at e
  cases z:ts[i]? with
  | none=>rw [z] at e; cases e
  | some t=>rw [z] at e; exact ⟨t,rfl,(Option.some.inj e).symm⟩
 have gd:∀ (i:Nat) (t:Addr × Int × Int),ts[i]?=some t→((ts.map (·.2)).getD i (0,0))=t.2:=fun i t e=>by
  rw [List.getD_eq_getElem?_getD,List.getElem?_map,e]; rfl
 refine min_G (lt:=fun i j=>HT.lexLt [((ts.map (·.2)).getD i (0,0)).1,((ts.map (·.2)).getD i (0,0)).2] [((ts.map (·.2)).getD j (0,0)).1,((ts.map (·.2)).getD j (0,0)).2]) (I.ok.hd hc) pl.isList (by simpa using len) ?_ fun v h' tk hv hk=>?_
 ·intro i j vi vj s' Q' E' g hi hj hq
  obtain ⟨ti,e1,rfl⟩:=at_ i vi hi
  obtain ⟨tj,e2,rfl⟩:=at_ j vj hj
  dsimp only at hq
  rw [gd i ti e1,gd j tj e2] at hq
  obtain ⟨its1,⟨o1,a1,b1⟩,c1⟩:=tup ti (List.mem_of_getElem? e1)
  obtain ⟨its2,⟨o2,a2,b2⟩,c2⟩:=tup tj (List.mem_of_getElem? e2)
  exact HT.lt_tupInts (s:=s') ⟨o1,g _ _ a1,b1⟩ ⟨o2,g _ _ a2,b2⟩ c1 c2 (by show X.A.units+1 < cLine; exact hu) hq
 ·obtain ⟨b1,b2⟩:=best2 (fun i=>(ts.map (·.2)).getD i (0,0)) ((ts.map fun t=>Value.ref t.1).toArray.size - 1)
  obtain ⟨t,e1,rfl⟩:=at_ _ v hv
  refine ⟨.ref t.1,H,I.kept (t':=tk) hk,rfl,q t (List.mem_of_getElem? e1) fun u hu'=>?_⟩
  obtain ⟨j,hj⟩:=List.mem_iff_getElem?.mp hu'
  have:=b2 j (by have:=(List.getElem?_eq_some_iff.mp hj).1; simp; omega)
  rw [gd j u hj,gd _ t e1] at this
  exact this
end
end L2
namespace L2
open PySem PySem.Spec PyProof.Rows
theorem comp_enumF {K:PySem.W.Frag} {a:Addr} {ys:List V} {g:TG} {tc:TT} {te:TE} {σ:St} {H1:Hp} {acc:Addr} {Qr:Hp→Prop} (Pv:Nat→List V→St→Hp→Prop) (h0:Pv 0 [] σ (upd H1 acc (.lst [])))
  (hq:∀ i xs σ H,i≤ys.length→H acc=some (.lst xs)→Pv i xs σ H→SqL K H a ys)
  (hs:∀ i x t xs σ H,ys[i]?=some x→i < ys.length→xs.length≤i→H acc=some (.lst xs)→Pv i xs σ H→H t=none→g (.ref t) σ (upd H t (.tup [.int i,x])) fun σ2 H2=>tc σ2 H2 fun b Hb=>match b with
   | true=>te σ2 Hb fun v H3=>fNx acc ys.length Pv i σ2 v H3
   | false=>fSk acc ys.length Pv i σ2 Hb)
  (hd:∀ xs σ H,xs.length≤ys.length→H acc=some (.lst xs)→Pv ys.length xs σ H→Qr H) :
  ∃ W:Nat→Nat→St→Hp→Prop,(∃ m,W 0 m σ (upd H1 acc (.lst [])))∧∀ i m σ1 H2,W i m σ1 H2 →
   ((Ite K a).stop i H2∧Qr H2)∨((Ite K a).go i H2∧∀ x H3,(Ite K a).yld i H2 x H3→g x σ1 H3 fun σ4 H4=>tc σ4 H4 fun b Hb=>match b with
    | true=>te σ4 Hb fun v H5=>∃ xs,H5 acc=some (.lst xs)∧xs.length < sizeLine∧∃ m',m' < m∧W (i+1) m' σ4 (upd H5 acc (.lst (xs++[v])))
    | false=>∃ m',m' < m∧W (i+1) m' σ4 Hb):=by
 refine ⟨fW acc ys.length Pv,⟨ys.length,Nat.zero_le _,rfl,[],Nat.le_refl _,upd_same,h0⟩,?_⟩
 rintro i m σ1 H2 ⟨hi,rfl,xs,hl,ha,hp⟩
 have hsq:=hq i xs σ1 H2 hi ha hp
 rcases Nat.lt_or_ge i ys.length with h | h
 ·refine .inr ⟨⟨ys,ys[i],hsq,by simp [h]⟩,fun x H3 y=>?_⟩
  obtain ⟨t,z,hz,rfl,ht,rfl⟩:=y
  exact hs i z t xs σ1 H2 (hz ys hsq) h hl ha hp ht
 ·have e:i=ys.length:=Nat.le_antisymm hi h
  subst e
  exact .inl ⟨⟨ys,hsq,Nat.le_refl _⟩,hd xs σ1 H2 hl ha hp⟩
end L2
namespace L2
open PySem PySem.Spec PyProof.Rows
section
variable {X:Cx}
end
end L2
namespace L2
open PySem PySem.Spec PyProof.Rows
def kLt:Key→Key→Bool
 | .inl a,.inl b=>decide (a < b)
 | .inr x,.inr y=>decide (x.cps.toList < y.cps.toList)
 | _,_=>false
def kAs:Key→Key→Bool
 | .inl _,.inl _=>true
 | .inr _,.inr _=>true
 | _,_=>false
def lexQ:List Key→List Key→Bool
 | x :: xs,y :: ys=>if x=y then lexQ xs ys else kLt x y
 | _,_=>false
inductive KeysAre:List Value→List Key→Prop
 | nil:KeysAre [] []
 | cons {v:Value} {k:Key} {vs:List Value} {ks:List Key}:keyIs k v=true→KeysAre vs ks→KeysAre (v :: vs) (k :: ks)
theorem KeysAre.length {vs:List Value} {ks:List Key} (h:KeysAre vs ks):vs.length=ks.length:=by
 induction h with
 | nil=>rfl
 | cons _ _ ih=>rw [List.length_cons,List.length_cons,ih]
inductive Alike:List Key→List Key→Prop
 | nil:Alike [] []
 | cons {x y:Key} {xs ys:List Key}:kAs x y=true→Alike xs ys→Alike (x :: xs) (y :: ys)
theorem eqAt_key (A:Around) (s:Shared) {x y:Key} {v u:Value} (hv:keyIs x v=true) (hu:keyIs y u=true) (h:kAs x y=true):∃ e,SeqAt.EqAt A s v u e∧(e=true↔x=y):=by
 rcases keyIs_shape hv with ⟨i,t,rfl,rfl⟩ | ⟨a,t,rfl,rfl⟩
 ·rcases keyIs_shape hu with ⟨j,t',rfl,rfl⟩ | ⟨b,t',rfl,rfl⟩
  ·exact ⟨(i == j),SeqAt.EqAt.int_int i t j t',by simp⟩
  ·cases h
 ·rcases keyIs_shape hu with ⟨j,t',rfl,rfl⟩ | ⟨b,t',rfl,rfl⟩
  ·cases h
  ·exact ⟨(a == b),SeqAt.EqAt.str_str a t b t',by simp⟩
theorem rcLt_key (A:Around) (s:Shared) {x y:Key} {v u:Value} (hv:keyIs x v=true) (hu:keyIs y u=true) (h:kAs x y=true) (prog:Program) (w:World) (E:Value→Shared→Prop) (Q:Value→Shared→Prop) (q:Q (.bool (kLt x y)) s) :
  wpAny (model prog w) A (richCompare .Lt v u) Q E s:=by
 rcases keyIs_shape hv with ⟨i,t,rfl,rfl⟩ | ⟨a,t,rfl,rfl⟩
 ·rcases keyIs_shape hu with ⟨j,t',rfl,rfl⟩ | ⟨b,t',rfl,rfl⟩
  ·exact (PyProof.Rows.lt_int q:wpAny (model prog w) A (compareOp .Lt (.int i t) (.int j t')) Q E s)
  ·cases h
 ·rcases keyIs_shape hu with ⟨j,t',rfl,rfl⟩ | ⟨b,t',rfl,rfl⟩
  ·cases h
  ·exact (PyProof.Rows.lt_str q:wpAny (model prog w) A (compareOp .Lt (.str a t) (.str b t')) Q E s)
section
open PySem.SeqAt
open PySem.AutoSeq1 (wpAny_loadPart')
open PySem.MeetsSeq PySem.MeetsSeq2 PySem.MeetsSeq3
theorem tuple_lt_keys (l b:Addr) (items items2:Array Value) (n n2:Nat) (dd dd2:Option Addr) (sl sl2:Array (Option Value)) (ns ms:List Key) (hi:KeysAre items.toList ns) (hj:KeysAre items2.toList ms) (al:Alike ns ms) :
  Meets (Builtin.«tuple.__lt__» ⟨[.ref l,.ref b],[]⟩)
   (fun _ R s=>s.heap.get? l=some { cls:=.type "tuple",dict:=dd,data:=.seq items n,slots:=sl }∧s.heap.get? b=some { cls:=.type "tuple",dict:=dd2,data:=.seq items2 n2,slots:=sl2 } ∧
    R (.ok (.ret (.bool (lexQ ns ms)))) s) :=
 .of_wp fun prog w A R s h=>by
  obtain ⟨hp,g,d,tk,os⟩:=s; obtain ⟨hl,hb,h⟩:=h
  have f2:=AutoSeq1.sub_tuple_tuple
  have z1:items.size=ns.length:=by rw [← hi.length]; simp
  have z2:items2.size=ms.length:=by rw [← hj.length]; simp
  have z3:ns.length=ms.length:=by
   clear z1 z2 hi hj h
   induction al with
   | nil=>rfl
   | cons _ _ ih=>rw [List.length_cons,List.length_cons,ih]
  wp_walk using wpAny_loadPart' hl,wpAny_loadPart' hb,wpAny_forIn_list _ (fun rest b s'=>b.1=none∧s'=⟨hp,g,d,tk,os⟩∧∃ (vs ws:List Value) (ns' ms':List Key),rest=vs.zip ws ∧
   KeysAre vs ns'∧KeysAre ws ms'∧Alike ns' ms'∧R (.ok (.ret (.bool (lexQ ns' ms')))) ⟨hp,g,d,tk,os⟩) _
  case turn =>
   rintro ⟨y,x⟩ rest b s' ⟨hb',rfl,vs,ws,ns',ms',hz,hvi,hwi,al',hR⟩
   cases al' with
   | nil=>cases hvi; cases hwi; cases hz
   | cons ka al2 =>
    cases hvi with
    | cons kv hvi' =>
     cases hwi with
     | cons kw hwi' =>
      rw [List.zip_cons_cons] at hz
      injection hz with hyx hrest
      injection hyx with hy hx
      subst hy hx
      obtain ⟨e,he,hiff⟩:=eqAt_key A.in1 ⟨hp,g,d,tk,os⟩ kv kw ka
      refine wpAny_bind (he prog w _ _ ?_)
      cases e with
      | true =>
       rw [lexQ,if_pos (hiff.mp rfl)] at hR
       wp_walk
       exact ⟨rfl,rfl,_,_,_,_,hrest,hvi',hwi',al2,hR⟩
      | false =>
       rw [lexQ,if_neg (fun q=>absurd (hiff.mpr q) Bool.false_ne_true)] at hR
       have hri:=rcLt_key A.in1 ⟨hp,g,d,tk,os⟩ kv kw ka prog w
       wp_walk using hri
       exact ⟨_,rfl,by simpa using hR⟩
  case fin =>
   rintro ⟨b1,b2⟩ s' ⟨hb',rfl,vs,ws,ns',ms',hz,hvi,hwi,al',hR⟩
   simp only at hb'
   subst hb'
   have hv:lexQ ns' ms'=decide (items.size < items2.size):=by
    cases al' with
    | nil=>exact (decide_eq_false (by omega)).symm
    | cons ka al2 =>
     cases hvi with
     | cons kv hvi' =>
      cases hwi with
      | cons kw hwi' =>
       rw [List.zip_cons_cons] at hz
       cases hz
   rw [hv] at hR
   wp_walk
   exact ⟨_,rfl,by simpa [Builtin.Tuple.tupleCompareSizes] using hR⟩
  exact ⟨rfl,rfl,_,_,_,_,rfl,hi,hj,al,h⟩
variable {prog:Program} {w:World} {A:Around} {E:Value→Shared→Prop} {s:Shared}
theorem lt_tupKeys {l b:Addr} {items items2:Array Value} {ns ms:List Key} {Q:Value→Shared→Prop} (hl:IsTup s.heap l items) (hb:IsTup s.heap b items2) (hi:KeysAre items.toList ns) (hj:KeysAre items2.toList ms) (al:Alike ns ms)
  (hu:A.units < cLine) (h:Q (.bool (lexQ ns ms)) s):wpAny (model prog w) A (compareOp .Lt (.ref l) (.ref b)) Q E s:=by
 obtain ⟨⟨cls,dd,data,sl⟩,ho,hc,n,hd⟩:=id hl
 obtain ⟨⟨cls2,dd2,data2,sl2⟩,ho2,hc2,n2,hd2⟩:=id hb
 simp only at hc hd hc2 hd2
 subst hc hd hc2 hd2
 exact richCompare_meets_room (op:=.Lt) ⟨_,ho,rfl⟩ ⟨_,ho2,rfl⟩ PySem.F.slot_tuple_lt PySem.F.entry_tuple_lt (PySem.F.args_tuple_lt_2 _ _) (tuple_lt_keys l b items items2 n n2 dd dd2 sl sl2 ns ms hi hj al)
  ⟨ho,ho2,show Value.bool (lexQ ns ms)≠Value.notImplemented∧Q (.bool (lexQ ns ms)) s from ⟨(fun x=>nomatch x),h⟩⟩ hu
end
abbrev Rw4:=Int × List Key
def rowK (r:Rw4):List Key:=.inl r.1 :: r.2
theorem lexQ_first {a b:Rw4}:(lexQ (rowK a) (rowK b)=true→a.1≤b.1)∧(lexQ (rowK a) (rowK b)=false→b.1≤a.1):=by
 unfold rowK
 rw [lexQ]
 by_cases e:(Sum.inl a.1:Key)=Sum.inl b.1
 ·injection e with e; exact ⟨fun _=>by omega,fun _=>by omega⟩
 ·rw [if_neg e]
  exact ⟨fun h=>by have:=of_decide_eq_true h; omega,fun h=>by have:=of_decide_eq_false h; omega⟩
theorem bestQ (f:Nat→Rw4):∀ k,argBest (fun i j=>lexQ (rowK (f i)) (rowK (f j))) k≤k∧∀ j,j≤k→(f (argBest (fun i j=>lexQ (rowK (f i)) (rowK (f j))) k)).1≤(f j).1
 | 0=>⟨Nat.le_refl _,fun j hj=>by rw [Nat.le_zero.mp hj]; exact Int.le_refl _⟩
 | k+1=>by
  obtain ⟨h1,h2⟩:=bestQ f k
  unfold argBest
  cases q:lexQ (rowK (f (k+1))) (rowK (f (argBest (fun i j=>lexQ (rowK (f i)) (rowK (f j))) k))) with
  | true =>
   rw [if_pos rfl]
   have:=lexQ_first.1 q
   refine ⟨Nat.le_refl _,fun j hj=>?_⟩
   rcases Nat.lt_or_ge j (k+1) with l | l
   ·exact Int.le_trans this (h2 j (by omega))
   ·rw [show j=k+1 from by omega]; exact Int.le_refl _
  | false =>
   rw [if_neg Bool.false_ne_true]
   have:=lexQ_first.2 q
   refine ⟨by omega,fun j hj=>?_⟩
   rcases Nat.lt_or_ge j (k+1) with l | l
   ·exact h2 j (by omega)
   ·rw [show j=k+1 from by omega]; exact this
theorem keysAre_of {ks:List Key} {zs:List Value}:Vals (ks.map kV) zs→KeysAre zs ks:=by
 intro r
 induction ks generalizing zs with
 | nil=>cases r; exact .nil
 | cons k ks ih =>
  rw [List.map_cons] at r
  cases r with
  | cons h t =>
   refine .cons ?_ (ih t)
   cases k with
   | inl i=>obtain ⟨t,rfl⟩:=(show ∃ t,_=Value.int i t from h); exact keyIs_int i t
   | inr x=>obtain ⟨t,rfl⟩:=(show ∃ t,_=Value.str x t from h); exact keyIs_str x t
section
variable {X:Cx}
theorem call_minQ (hu:X.A.units+1 < cLine):CallR X (.builtin "min") (fun xs H Q=>∃ (p:Addr) (ts:List (Addr × Rw4)),xs=[.ref p]∧SqL X.K H p (ts.map fun t=>V.ref t.1)∧X.calm=true∧ts≠[]∧(∀ t∈ts,H t.1=some (.tup ((rowK t.2).map kV))) ∧
  (∀ t∈ts,∀ u∈ts,Alike t.2.2 u.2.2)∧∀ t∈ts,(∀ u∈ts,t.2.1≤u.2.1)→Q (.ref t.1) H):=by
 intro pins s σ H xs us Q I r h
 obtain ⟨p,ts,rfl,hp,hc,hn,ht,al,q⟩:=h
 obtain ⟨u,rfl,ru⟩:=vals1 r
 cases ru
 obtain ⟨its,rv,pl,hz⟩:=I.list hp
 have hits:its=ts.map fun t=>Value.ref t.1:=by
  have:=refs_vals (ts:=ts.map (·.1)) (its:=its) (by rw [List.map_map]; exact rv)
  rw [this,List.map_map]; rfl
 subst hits
 have tup:∀ t∈ts,∃ items,IsTup s.heap t.1 items∧KeysAre items.toList (rowK t.2):=fun t htm=>by
  obtain ⟨_,zs,rz,tz⟩:=(show ObjOk X.prog X.w H s.heap t.1 (.tup ((rowK t.2).map kV)) from I.hok _ _ (ht t htm))
  exact ⟨_,tz,by simpa using keysAre_of rz⟩
 have len:0 < ts.length:=List.length_pos_iff.mpr hn
 have at_:∀ (i:Nat) (v:Value),(ts.map fun t=>Value.ref t.1).toArray[i]?=some v→∃ t,ts[i]?=some t∧v=.ref t.1:=fun i v e=>by
  rw [List.getElem?_toArray,List.getElem?_map] at e
  cases z:ts[i]? with
  | none=>rw [z] at e; cases e
  | some t=>rw [z] at e; exact ⟨t,rfl,(Option.some.inj e).symm⟩
 have gd:∀ (i:Nat) (t:Addr × Rw4),ts[i]?=some t→((ts.map (·.2)).getD i (0,[]))=t.2:=fun i t e=>by
  rw [List.getD_eq_getElem?_getD,List.getElem?_map,e]; rfl
 refine min_G (lt:=fun i j=>lexQ (rowK ((ts.map (·.2)).getD i (0,[]))) (rowK ((ts.map (·.2)).getD j (0,[])))) (I.ok.hd hc) pl.isList (by simpa using len) ?_ fun v h' tk hv hk=>?_
 ·intro i j vi vj s' Q' E' g hi hj hq
  obtain ⟨ti,e1,rfl⟩:=at_ i vi hi
  obtain ⟨tj,e2,rfl⟩:=at_ j vj hj
  dsimp only at hq
  rw [gd i ti e1,gd j tj e2] at hq
  obtain ⟨its1,⟨o1,a1,b1⟩,c1⟩:=tup ti (List.mem_of_getElem? e1)
  obtain ⟨its2,⟨o2,a2,b2⟩,c2⟩:=tup tj (List.mem_of_getElem? e2)
  exact lt_tupKeys (s:=s') ⟨o1,g _ _ a1,b1⟩ ⟨o2,g _ _ a2,b2⟩ c1 c2 (.cons rfl (al _ (List.mem_of_getElem? e1) _ (List.mem_of_getElem? e2))) (by show X.A.units+1 < cLine; exact hu) hq
 ·obtain ⟨b1,b2⟩:=bestQ (fun i=>(ts.map (·.2)).getD i (0,[])) ((ts.map fun t=>Value.ref t.1).toArray.size - 1)
  obtain ⟨t,e1,rfl⟩:=at_ _ v hv
  refine ⟨.ref t.1,H,I.kept (t':=tk) hk,rfl,q t (List.mem_of_getElem? e1) fun u hu'=>?_⟩
  obtain ⟨j,hj⟩:=List.mem_iff_getElem?.mp hu'
  have:=b2 j (by have:=(List.getElem?_eq_some_iff.mp hj).1; simp; omega)
  rw [gd j u hj,gd _ t e1] at this
  exact this
end
end L2
namespace L2
open PySem PySem.Spec PyProof.Rows
structure ICls (K:PySem.W.Frag) (C:Addr):Prop where
 cl:Cls K C
 ha:PySem.W.findIn K (.ref C) "__class__"=some (some (.builtin "object.__class__"))
 hn:PySem.W.specialIn K (.builtin "object.__class__") "__get__"=some (some (.builtin "getset_descriptor.__get__"))
 htk:PySem.W.takesIn K (.builtin "object.__class__")=some true
 hm:PySem.W.mroIn K C (.type "object")=some true
section
variable {X:Cx}
end
section
variable {X:Cx} {tg:Expr}
end
end L2
namespace L2
open PySem PySem.Spec PyProof.Rows PySem.W
section
variable {X:Cx} {k j:Nat} {m:Str} {ps:List Str} {sp:Sp} {pos apos:Pos} {e o:Expr} {es:List Expr} {t:TA} {ta:TE} {S:Addr→Prop}
end
section
variable {X:Cx} {g:Str} {G:Addr} {value:Expr} {b₀:Stmt} {suite:List Stmt} {apos gp hpos pos:Pos} {te:XK→TE} {ts:TS}
end
end L2
namespace L2
open PySem PySem.Spec PyProof.Rows PySem.W
structure FunD (K:PySem.W.Frag) (x qual:Str) (st:Stmt) (f:Addr) (fd:FuncData):Prop where
 ex:∃ (oc:Value) (od:Option Addr) (T:Addr) (kV doc pm:Value) (an:Option Addr) (cdv ct:Value) (osl:Array (Option Value)) (o:Obj) (n:Nat),
  fd=PySem.W.fnOf x qual (defArgs st) (defBody st) (defScope st) (.ref T) kV doc pm an cdv ct∧K.lookup f=some ⟨oc,od,.func fd,osl⟩∧PySem.W.codeIn K cdv qual=true∧K.lookup T=some o∧o.data=.seq #[.none] n
 kp:PySem.W.keepIn K (.ref f)=true
section
variable {P:Program} {w:World} {K:PySem.W.Frag} {mg:Str→Option Value} {base:Heap}
theorem FunD.ok {x qual:Str} {st:Stmt} {f:Addr} {fd:FuncData} {N ps:List Str} {k:Nat} {sp:Sp} (F:FunD K x qual st f fd) (S:FnScope N ps (defScope st)) (len:∀ vs H Q E,sp vs H Q E→vs.length=ps.length)
  (hbody:∀ (cdv:Value) (A:Around) (outer:List Env) (s:Shared) (H:Hp) (vs:List V) (Q:VK) (E:XK),Room k (A.deeper (envOfC qual (defScope st) s.heap.objs.size f cdv))→sp vs H Q E →
   ∃ t,PSs (cxOf CX0 P w K mg base N qual (defScope st) f cdv A outer s H E).nox (defBody st) t∧t { nx:=fun _ H'=>Q .non H',rt:=Q } (start N vs) H):FnOk P w K mg base CX0 (k+1) f fd ps sp:=by
 obtain ⟨oc,od,T,kV,doc,pm,an,cdv,ct,osl,o,n,rfl,lk,hcd,lT,dT⟩:=F.ex
 refine fn_of lk hcd S len fun A outer s H vs Q E hr hsp=>?_
 obtain ⟨t,h,q⟩:=hbody cdv A outer s H vs Q E hr hsp
 exact ⟨t,h.nox,q⟩
theorem FunD.binds {x qual:Str} {st:Stmt} {f:Addr} {fd:FuncData} {ps:List Str} {ds:List Value} (F:FunD K x qual st f fd)
  (h:∀ (T:Addr) (kV doc pm:Value) (an:Option Addr) (cdv ct:Value) (us:List Value),(us++ds).length=ps.length→∃ k:Option (Array Value)→Sem (List (Str × Value)),
   bindArgs (PySem.W.fnOf x qual (defArgs st) (defBody st) (defScope st) (.ref T) kV doc pm an cdv ct) ⟨us,[]⟩=seqItems? (.ref T) >>= k∧k (some #[.none])=pure (ps.zip (us++ds))):Binds K fd ps ds:=by
 obtain ⟨oc,od,T,kV,doc,pm,an,cdv,ct,osl,o,n,rfl,lk,hcd,lT,dT⟩:=F.ex
 intro s us X hl
 obtain ⟨k,h1,h2⟩:=h T kV doc pm an cdv ct us hl
 exact .of_defaults rfl (X _ _ lT) dT h1 h2
end
end L2
namespace L2
open PySem PySem.Spec PyProof.Rows PySem.W
structure MkOk0 (P:Program) (w:World) (K:PySem.W.Frag) (mg:Str→Option Value) (base:Heap) (k:Nat) (x:Str) (C:Addr) (ps:List Str) (sp:Sp) (dvs:List V):Prop where
 ex:∃ (f:Addr) (fd:FuncData) (ds:List Value),Mk K C f∧FnOk P w K mg base CX0 k f fd ps sp∧mg x=some (.ref C)∧Binds K fd ps ds∧Vals dvs ds
theorem pe_mk0 {X:Cx} {k j:Nat} {x:Str} {C:Addr} {ps:List Str} {sp:Sp} {p pos:Pos} {dvs:List V} (D:MkOk0 X.prog X.w X.K X.mg X.base k x C ps sp dvs) (hr:Room j X.A) (hj:k+1≤j:=by decide) (hg:Gl X x:=by rfl) (hdb:(x == ("__debug__":Str))=false:=by decide) :
  PE X (.Call (.Name x p) [] [] pos) (tMake C sp dvs E0 tNil):=by
 obtain ⟨f,fd,ds,M,F,hm,hb,hv⟩:=D.ex
 exact pe_make0 M F (hr.mono hj) hg hm hb hv pass0 hdb
end L2
namespace L2
open PySem PySem.Spec PyProof.Rows
section
variable {X:Cx} {elt tg iter:Expr} {scope:Scope} {pos:Pos} {wi:TI} {g:TG} {te:TE} {N:List Str} {fr:List (Option Nat)}
end
end L2
namespace L2
open PySem PySem.Spec PyProof.Rows PySem.W
section
variable {M:Model} {A:Around} {E:Value→Shared→Prop} {s:Shared} {e:Addr} {cls:Value} {d:Option Addr} {vs:Array Value} {sl:Array (Option Value)}
end
section
variable {M:Model} {A:Around} {E:Value→Shared→Prop} {s:Shared} {base:Heap} {env:Env} {outer:List Env} {L e:Addr} {cls:Value} {d:Option Addr} {vs:Array Value} {sl:Array (Option Value)} {Q:Unit→Shared→Prop}
end
end L2
namespace L2
open PySem PySem.Spec PyProof.Rows PySem.W
section
variable {X:Cx} {pins:List (Addr × Obj)} {σ:St} {H:Hp} {s:Shared} {x C T:Addr} {d:Option Addr} {h1 h2:Heap} {fl:Value} {tt:List Addr} {nw:HO}
end
end L2
namespace L2
open PySem PySem.Spec PyProof.Rows PySem.W
section
variable {X:Cx} {elt tg iter:Expr} {scope:Scope} {pos:Pos} {wi:TI} {g:TG} {te:TE} {N:List Str} {fr:List (Option Nat)}
end
section
variable {P:Program} {w:World} {K:PySem.W.Frag} {mg:Str→Option Value} {base:Heap} {N:List Str} {qual:Str} {scope:Scope} {f:Addr} {cd:Value} {A:Around} {outer:List Env} {s:Shared} {H:Hp} {E:XK} {Hs:Hp}
end
end L2
namespace L2
open PySem PySem.Spec PyProof.Rows PySem.W
def PXS (X:Cx) (st:Stmt) (t:XK→TS):Prop:=∀ (E:XK) (pins:List (Addr × Obj)) (s:Shared) (σ:St) (H:Hp) (D:Ends) (Ex:Value→Shared→Prop),Inv X pins σ H s→t E D σ H →
 (∀ x T C d H' s',Inv X pins σ H' s'→Flown H' x C d T→E (.ref x) d H'→Ex (.ref x) s')→wpAny (model X.prog X.w) X.A (exec st X.env) (SP X pins D) Ex s
def tExX (te:XK→TE):XK→TS:=fun E D σ H=>te E σ H (fun _ H1=>D.nx σ H1)
def tIfX (tc:TT) (t u:XK→TS):XK→TS:=fun E=>tIfS tc (t E) (u E)
def sTryI (K:Frag) (im:Nat) (G:Addr) (t:XK→TS) (ts:TS):TS:=fun D σ H=>∃ E₁:XK,t E₁ { nx:=D.nx,rt:=fun _ _=>False } σ H ∧
 ∀ x C d T T2 H',E₁ (.ref x) d H'→Flown H' x C d T→H' T2=none→T2≠x→mroIn K C (.ref G)=some true∧ts (goneD im D) (σ.set im (some (.ref x))) (thrown H' x C d T2)
section
variable {X:Cx} {i im:Nat} {n m g:Str} {G:Addr} {value c:Expr} {b₀ st su:Stmt} {suite:List Stmt} {np apos gp hpos pos:Pos} {te:XK→TE} {ts:TS} {t u:XK→TS} {tc:TT}
theorem pxs_expr (he:∀ E,PX X value (te E) E) (hsw:swapsWith value none apos.line X.env=pure false:=by rfl):PXS X (.Expr value apos) (tExX te):=by
 intro E pins s σ H D Ex I h hx
 exact wpAny_Expr_any (thn (he E pins s σ H _ _ I h hx) fun v s1 ⟨y,H1,I1,r1,q1⟩=>⟨σ,H1,I1,q1⟩) I.quiet hsw
theorem pxs_if (hc:PT X.nox c tc) (ha:PXS X st t) (hb:PXS X su u):PXS X (.If c [st] [su] pos) (tIfX tc t u):=by
 intro E pins s σ H D Ex I h hx
 refine wpAny_If (wpAny_mono (hc pins s σ H _ (I.wish _) h) (fun d s1 ⟨H1,I1,q1⟩=>?_) fun _ _ z=>False.elim z)
 have I1':Inv X pins σ H1 s1:=I1.unwish
 cases d with
 | true =>
  refine wpAny_execs_cons (thn (ha E pins s1 σ H1 D Ex I1' q1 hx) fun f s2 q=>?_)
  cases f with
  | next=>exact wpAny_execs_nil q
  | ret v=>exact q
  | brk=>exact q
  | cont=>exact q
 | false =>
  refine wpAny_execs_cons (thn (hb E pins s1 σ H1 D Ex I1' q1 hx) fun f s2 q=>?_)
  cases f with
  | next=>exact wpAny_execs_nil q
  | ret v=>exact q
  | brk=>exact q
  | cont=>exact q
theorem ps_tryas (hN:X.N.Nodup) (him:X.N[im]?=some m) (hm:X.env.scope.names.lookup m=some .local) (he:PXS X st t) (hgl:Gl X g) (hg:X.mg g=some (.ref G))
    (hG:PySem.W.excIn X.K G vErr "ValueError.__new__"=true) (hst:X.stack=X.env :: X.outer) (hfr:X.env.frame=some X.env.locals) (hs:∀ x,PSs (X.suite x) (b₀ :: suite) ts)
    (hdb:(g == ("__debug__":Str))=false:=by decide) :
    PS X (.Try [st] [.ExceptHandler (some (.Name g gp)) (some m) (b₀ :: suite) hpos] [] [] pos) (sTryI X.K im G t ts):=by
  intro pins s σ H D I ⟨E₁,h,hh⟩
  rw [arm_exec_Try]
  refine wpAny_bind (wpAny_standAt (wpAny_tryStmt_except ?_))
  refine wpAny_execs_cons (thn (he E₁ pins s σ H _ _ I h fun x T C d H' s' I' fl q=>?_) fun f s1 q=>?_)
  · refine note_flight I' hst hfr (.inr ⟨T,fl⟩) fun h' T2 hT2 nT2 I2=>?_
    obtain ⟨hsub,hts⟩:=hh x C d T T2 H' q fl hT2 nT2
    have fl2:Flown (thrown H' x C d T2) x C d T2:=⟨thrown_x,thrown_T nT2,nT2⟩
    obtain ⟨⟨vs,sl,e1,e2⟩,_⟩:=(show ObjOk X.prog X.w (thrown H' x C d T2) h' x (ExcT C d x T2) from I2.hok x _ fl2.1)
    obtain ⟨⟨o,tv,f1,f2,f3⟩,_⟩:=(show ObjOk X.prog X.w (thrown H' x C d T2) h' T2 (TbO T2) from I2.hok T2 _ fl2.2.1)
    refine wpAny_handleBy_cons (codeAny_handlers_test (ld_glob (X:=X.suite x) (I2.suite x) hgl hg (match_sub I2.kIn hG e1 hsub ?_) hdb)) (by intro z; cases z)
    show codeAny _ _ _ _ _
    refine codeAny_handlers_suite_as (flight_off e1 e2 f1 f2 (Array.getElem?_eq_some_iff.mp f3).1 fun h3 k3 t3=>?_)
    have same:upd (thrown H' x C d T2) T2 (TbO T2)=thrown H' x C d T2:=funext fun b=>by
      by_cases z:b=T2
      · rw [z,upd_same,thrown_T nT2]
      · rw [upd_ne z]
    have I3:Inv X pins σ (thrown H' x C d T2) { s' with heap:=h3 }:=by
      have:=I2.write (x:=T2) (e:=T2) (h':=h3) (o:=TbO T2) (t':=s'.toks) (by rw [fl2.2.1]; exact True.intro) (.inl rfl) (fun b u nb z=>(k3 b nb).trans z) (let ⟨o,_,e,_⟩:=t3; ⟨o,e⟩) (tbO_ok t3)
      rw [same] at this
      exact this
    refine store_ok (X:=X.suite x) (I3.suite x) hN him (.inl hm) (v:=.ref x) rfl (fun s4 I4=>?_) (.inr hm)
    refine wpAny_mono (hs x pins s4 _ _ (goneD im D) I4 hts) (fun fl s5 q5=>?_) fun _ _ z=>False.elim z
    show wpAny (model X.prog X.w) X.A (do bindName X.env m .none; unbindBehindTheSuite X.env m hpos) (fun _ s₃=>SP X pins D fl s₃) X.xe s5
    cases fl with
    | next=>obtain ⟨σ',H5,I5,q⟩:=q5; exact goes_ok (I5.unsuite (ok:=I.ok)) hN him hm fun s6 I6=>⟨_,H5,I6,q⟩
    | brk=>obtain ⟨σ',H5,I5,q⟩:=q5; exact goes_ok (I5.unsuite (ok:=I.ok)) hN him hm fun s6 I6=>⟨_,H5,I6,q⟩
    | cont=>obtain ⟨σ',H5,I5,q⟩:=q5; exact goes_ok (I5.unsuite (ok:=I.ok)) hN him hm fun s6 I6=>⟨_,H5,I6,q⟩
    | ret u=>obtain ⟨v,σ',H5,I5,r,q⟩:=q5; exact goes_ok (I5.unsuite (ok:=I.ok)) hN him hm fun s6 I6=>⟨v,_,H5,I6,r,q⟩
  · cases f with
    | next=>obtain ⟨σ',H',I',q⟩:=q; exact wpAny_execs_nil (wpAny_execs_nil ⟨σ',H',I',q⟩)
    | ret v=>obtain ⟨_,_,_,_,_,q⟩:=q; exact q.elim
    | brk=>obtain ⟨_,_,_,q⟩:=q; exact q.elim
    | cont=>obtain ⟨_,_,_,q⟩:=q; exact q.elim
theorem op_alt {f:Value→Value→Sem Value} {r1 r2:R2} (h1:OpR X f r1) (h2:OpR X f r2):OpR X f (fun x y H Q=>r1 x y H Q∨r2 x y H Q):=by
 intro pins s σ H x y v u Q I rx ry h
 rcases h with h | h
 ·exact h1 pins s σ H x y v u Q I rx ry h
 ·exact h2 pins s σ H x y v u Q I rx ry h
end
end L2
namespace L2
open PySem PySem.Spec PyProof.Rows PySem.W
section
variable {X:Cx}
end
end L2
namespace L2
open PySem PySem.Spec PyProof.Rows PySem.W
section
variable {X:Cx}
theorem call_isinN:CallR X (.builtin "isinstance") (fun xs H Q=>∃ C b,xs=[.non,.ref C]∧kitOne X.K (.type "NoneType") (.ref C)=some b∧Q (.bl b) H):=by
 intro pins s σ H xs us Q I r h
 obtain ⟨C,b,rfl,hk,q⟩:=h
 obtain ⟨v1,v2,rfl,r1,r2⟩:=vals2 r
 cases r2
 obtain ⟨ty,hl⟩:=tyS_of (K:=X.K) (H:=H) (x:=.non) (T:="NoneType") rfl
 exact isinst_ok I r1 ty hk fun tk=>⟨.bl b,H,I.tok tk,rfl,q⟩
theorem call_or {f:Value} {r1 r2:List V→Hp→VK→Prop} (h1:CallR X f r1) (h2:CallR X f r2):CallR X f (fun xs H Q=>r1 xs H Q∨r2 xs H Q):=by
 intro pins s σ H xs us Q I r h
 rcases h with h | h
 ·exact h1 pins s σ H xs us Q I r h
 ·exact h2 pins s σ H xs us Q I r h
theorem call_isinX2:CallR X (.builtin "isinstance") (fun xs H Q=>∃ a C t c1 c2 b1 b2,xs=[.ref a,.ref t]∧IsExc H a C∧XCls X.K C∧H t=some (.tup [.ref c1,.ref c2])∧kitOne X.K (.ref C) (.ref c1)=some b1∧kitOne X.K (.ref C) (.ref c2)=some b2∧Q (.bl (b1 || b2)) H):=by
 intro pins s σ H xs us Q I r h
 obtain ⟨a,C,t,c1,c2,b1,b2,rfl,he,hc,ht,k1,k2,q⟩:=h
 obtain ⟨v1,v2,rfl,r1,r2⟩:=vals2 r
 cases r1
 cases r2
 obtain ⟨its,rt,hp,_⟩:=I.tuple (SqT.of (K:=X.K) ht)
 obtain ⟨w1,w2,rfl,q1,q2⟩:=vals2 rt
 cases q1
 cases q2
 obtain ⟨⟨cls,dd,data,sl⟩,ho,ec,n,ed⟩:=hp
 simp only at ec ed
 subst ec ed
 refine kia_tup (kitx_exc hc) I.kIn (isexc_inst I he) ho ?_ (fun z=>nomatch z) fun tk=>⟨.bl (b1 || b2),H,I.tok tk,rfl,q⟩
 cases b1 <;> cases b2 <;> simp [kitAny,k1,k2]
theorem countP_eqU {x:V}:∀ {xs:List V} {us:List Value},Vals xs us→xs.all flatV=true→us.countP (eqU x)=xs.countP fun y=>eqV y x
 | _,_,.nil,_=>rfl
 | y :: xs,u :: us,.cons r t,f=>by
  rw [List.all_cons,Bool.and_eq_true] at f
  rw [List.countP_cons,List.countP_cons,eqU_of r f.1,countP_eqU t f.2]
theorem mt_count:MtR X "list.count" (fun x vs H Q=>∃ l xs y,x=.ref l∧vs=[y]∧H l=some (.lst xs)∧flatV y=true∧xs.all flatV=true∧Q (.int (xs.countP (fun z=>eqV z y):Nat)) H):=by
 intro pins s σ H x vs v us Q I rx rv h
 obtain ⟨l,xs,y,rfl,rfl,hH,fy,fs,q⟩:=h
 cases rx
 obtain ⟨u,rfl,ru⟩:=rv.one
 obtain ⟨z,its,n,r,hl,e⟩:=I.lstM hH
 refine call_meets F.slot_list_count ⟨_,e,rfl⟩ F.entry_list_count (F.args_list_count_2 _ _) (SeqAt.list_countAt l its.toArray n _ _ u (eqU y)) ⟨e,fun w hw=>mem_eqAt ru fy r fs w (by simpa using hw),?_⟩
 refine ⟨.int _,H,I.tok _,⟨_,rfl⟩,?_⟩
 rw [show its.toArray.toList=its from rfl,countP_eqU r fs]
 exact q
end
end L2
namespace L2
open PySem PySem.Spec PyProof.Rows PySem.W
theorem noneB {H H':Hp} (s:Same H H') {a:Addr} (h:H' a=none):H a=none:=by
 cases e:H a with
 | none=>rfl
 | some o=>rw [s _ _ e] at h; cases h
mutual
def DAt (H:Hp):D→V→Prop
 | .at u,v=>v=u∧flatV u=true
 | .tup ds,v=>∃ a xs,v=.ref a∧H a=some (.tup xs)∧DAts H ds xs
 | .lst ds,v=>∃ a xs,v=.ref a∧H a=some (.lst xs)∧DAts H ds xs
def DAts (H:Hp):Ds→List V→Prop
 | .nil,xs=>xs=[]
 | .cons d r,xs=>∃ x ys,xs=x :: ys∧DAt H d x∧DAts H r ys
end
mutual
theorem dat_same {H H':Hp} (s:Same H H'):∀ (d:D) {v:V},DAt H d v→DAt H' d v
 | .at u,v,h=>by rw [DAt] at h ⊢; exact h
 | .tup ds,v,h=>by
  rw [DAt] at h ⊢
  obtain ⟨a,xs,e,q,r⟩:=h
  exact ⟨a,xs,e,s _ _ q,dats_same s ds r⟩
 | .lst ds,v,h=>by
  rw [DAt] at h ⊢
  obtain ⟨a,xs,e,q,r⟩:=h
  exact ⟨a,xs,e,s _ _ q,dats_same s ds r⟩
theorem dats_same {H H':Hp} (s:Same H H'):∀ (ds:Ds) {xs:List V},DAts H ds xs→DAts H' ds xs
 | .nil,xs,h=>by rw [DAts] at h ⊢; exact h
 | .cons d r,xs,h=>by
  rw [DAts] at h ⊢
  obtain ⟨x,ys,e,p,q⟩:=h
  exact ⟨x,ys,e,dat_same s d p,dats_same s r q⟩
end
mutual
theorem dat_is {K:PySem.W.Frag} {H:Hp}:∀ (d:D) {v:V},DAt H d v→DIs K H d v
 | .at u,v,h=>by rw [DAt] at h; rw [DIs]; exact h
 | .tup ds,v,h=>by
  rw [DAt] at h
  rw [DIs]
  obtain ⟨a,xs,e,q,r⟩:=h
  exact ⟨a,xs,e,SqT.of q,dats_is ds r⟩
 | .lst ds,v,h=>by
  rw [DAt] at h
  rw [DIs]
  obtain ⟨a,xs,e,q,r⟩:=h
  exact ⟨a,xs,e,SqL.of q,dats_is ds r⟩
theorem dats_is {K:PySem.W.Frag} {H:Hp}:∀ (ds:Ds) {xs:List V},DAts H ds xs→DIss K H ds xs
 | .nil,xs,h=>by rw [DAts] at h; rw [DIss]; exact h
 | .cons d r,xs,h=>by
  rw [DAts] at h
  rw [DIss]
  obtain ⟨x,ys,e,p,q⟩:=h
  exact ⟨x,ys,e,dat_is d p,dats_is r q⟩
end
theorem dats_len {H:Hp}:∀ (ds:Ds) {xs:List V},DAts H ds xs→xs.length=ds.len
 | .nil,xs,h=>by rw [DAts] at h; rw [h]; rfl
 | .cons d r,xs,h=>by
  rw [DAts] at h
  obtain ⟨x,ys,rfl,p,q⟩:=h
  rw [List.length_cons,dats_len r q]; rfl
theorem dats_get {H:Hp}:∀ (ds:Ds) {xs:List V},DAts H ds xs→∀ {i:Nat} {v:V},xs[i]?=some v→DAt H (ds.get i) v
 | .nil,xs,h,i,v,e=>by rw [DAts] at h; rw [h] at e; cases e
 | .cons d r,xs,h,i,v,e=>by
  rw [DAts] at h
  obtain ⟨x,ys,rfl,p,q⟩:=h
  cases i with
  | zero=>cases e; exact p
  | succ i=>exact dats_get r q e
theorem dats_mem {H:Hp}:∀ (ds:Ds) {xs:List V},DAts H ds xs→∀ v∈xs,∃ i,i < ds.len∧DAt H (ds.get i) v:=fun ds xs h v hv=>by
 obtain ⟨i,hi,rfl⟩:=List.getElem_of_mem hv
 exact ⟨i,by rw [← dats_len ds h]; exact hi,dats_get ds h (List.getElem?_eq_getElem hi)⟩
def litC:Const→Option V
 | .none=>some .non
 | .bool b=>some (.bl b)
 | .int i=>some (.int i)
 | .str s=>some (.str s)
 | _=>none
def litEs (f:Expr→Option D):List Expr→Option Ds
 | []=>some .nil
 | e :: es=>(f e).bind fun d=>(litEs f es).map (.cons d)
def litE:Nat→Expr→Option D
 | 0,_=>none
 | _+1,.Constant c _ _=>(litC c).map .at
 | _+1,.UnaryOp .USub (.Constant (.int i) _ _) _=>some (.at (.int (-i)))
 | n+1,.Tuple es _ _=>if es.length≤64 then (litEs (litE n) es).map .tup else none
 | n+1,.List es _=>if es.length≤64 then (litEs (litE n) es).map .lst else none
 | _+1,_=>none
def tLit (d:D):TE:=fun _ H Q=>∀ v H',Same H H'→DAt H' d v→Q v H'
def tLits (ds:Ds):TA:=fun _ H Q=>∀ xs H',Same H H'→DAts H' ds xs→Q xs H'
theorem litEs_len {f:Expr→Option D}:∀ {es:List Expr} {ds:Ds},litEs f es=some ds→ds.len=es.length
 | [],ds,h=>by cases h; rfl
 | e :: es,ds,h=>by
  rw [litEs] at h
  obtain ⟨d,h1,h2⟩:=Option.bind_eq_some_iff.mp h
  obtain ⟨r,h3,rfl⟩:=Option.map_eq_some_iff.mp h2
  show r.len+1=_
  rw [litEs_len h3]; rfl
section
variable {X:Cx}
theorem lit_star {n:Nat} {e:Expr} {d:D} (h:litE n e=some d) (es:List Expr) (env:Env):starEach (e :: es) env=(false,eval e env) :: starEach es env:=by
 unfold litE at h
 split at h
 ·cases h
 ·rfl
 ·rfl
 ·rfl
 ·rfl
 ·cases h
theorem pa_litF {f:Expr→Option D} (hf:∀ e d,f e=some d→PE X e (tLit d)∧∀ (es:List Expr) (env:Env),starEach (e :: es) env=(false,eval e env) :: starEach es env):∀ {es:List Expr} {ds:Ds},litEs f es=some ds→PA X es (tLits ds)
 | [],ds,h=>by
  cases h
  intro pos pins s σ H Q I q
  exact pa_nil (X:=X) pos pins s σ H Q I (q [] H (Same.refl H) (by rw [DAts]))
 | e :: es,ds,h=>by
  rw [litEs] at h
  obtain ⟨d,h1,h2⟩:=Option.bind_eq_some_iff.mp h
  obtain ⟨r,h3,rfl⟩:=Option.map_eq_some_iff.mp h2
  obtain ⟨p,st⟩:=hf e d h1
  intro pos pins s σ H Q I q
  refine pa_cons p (pa_litF hf h3) (st es X.env) pos pins s σ H Q I ?_
  intro v H1 s1 d1 xs H2 s2 d2
  exact q (v :: xs) H2 (s1.trans s2) (by rw [DAts]; exact ⟨v,xs,rfl,dat_same s2 d d1,d2⟩)
theorem pe_lit:∀ (n:Nat) (e:Expr) (d:D),litE n e=some d→PE X e (tLit d)
 | 0,e,d,h=>by cases h
 | n+1,e,d,h=>by
  unfold litE at h
  split at h
  ·rename_i z; cases z
  ·rename_i c k p _
   obtain ⟨v,hv,rfl⟩:=Option.map_eq_some_iff.mp h
   intro pins s σ H Q I q
   have key:∀ u:V,flatV u=true→v=u→tC u σ H Q:=fun u fu e=>by
    subst e
    exact q v H (Same.refl H) (by rw [DAt]; exact ⟨rfl,fu⟩)
   cases c with
   | none=>cases hv; exact pe_non pins s σ H Q I (key _ rfl rfl)
   | bool b=>cases hv; exact pe_bl pins s σ H Q I (key _ rfl rfl)
   | int i=>cases hv; exact pe_int pins s σ H Q I (key _ rfl rfl)
   | str x=>cases hv; exact pe_str pins s σ H Q I (key _ rfl rfl)
   | _=>cases hv
  ·rename_i i k p p' _
   cases h
   intro pins s σ H Q I q
   refine pe_un un_neg pe_int pins s σ H Q I ?_
   exact ⟨i,rfl,q _ H (Same.refl H) (by rw [DAt]; exact ⟨rfl,rfl⟩)⟩
  ·rename_i m es x p z
   cases z
   split at h
   ·rename_i hl
    obtain ⟨ds,hd,rfl⟩:=Option.map_eq_some_iff.mp h
    intro pins s σ H Q I q
    refine pe_tup (pa_litF (fun e d h=>⟨pe_lit n e d h,lit_star h⟩) hd) pins s σ H Q I ?_
    intro xs H1 s1 d1
    refine ⟨Nat.le_trans (by rw [dats_len ds d1,litEs_len hd]; exact hl) (by rw [sizeLine_eq]; decide),fun t nt=>q _ _ (s1.trans (Same.new nt)) ?_⟩
    rw [DAt]
    exact ⟨t,xs,rfl,upd_same,dats_same (Same.new nt) ds d1⟩
   ·cases h
  ·rename_i m es p z
   cases z
   split at h
   ·rename_i hl
    obtain ⟨ds,hd,rfl⟩:=Option.map_eq_some_iff.mp h
    intro pins s σ H Q I q
    refine pe_lst (pa_litF (fun e d h=>⟨pe_lit n e d h,lit_star h⟩) hd) pins s σ H Q I ?_
    intro xs H1 s1 d1
    refine ⟨Nat.le_trans (by rw [dats_len ds d1,litEs_len hd]; exact hl) (by rw [sizeLine_eq]; decide),fun t nt=>q _ _ (s1.trans (Same.new nt)) ?_⟩
    rw [DAt]
    exact ⟨t,xs,rfl,upd_same,dats_same (Same.new nt) ds d1⟩
   ·cases h
  ·cases h
theorem op_in_seqK {K:PySem.W.Frag} (hK:X.K=K:=by rfl):OpR X (compareOp .In) (rIn K false):=by subst hK; exact op_in_seq
theorem op_notIn_seqK {K:PySem.W.Frag} (hK:X.K=K:=by rfl):OpR X (compareOp .NotIn) (rIn K true):=by subst hK; exact op_notIn_seq
def tLitL (ds:Ds):TE:=fun _ H Q=>∀ l xs H',Same H H'→H l=none→H' l=some (.lst xs)→DAts H' ds xs→Q (.ref l) H'
theorem pe_litL {n:Nat} {es:List Expr} {ds:Ds} {pos:Pos} (h:litEs (litE n) es=some ds) (hl:es.length≤64):PE X (.List es pos) (tLitL ds):=by
 intro pins s σ H Q I q
 refine pe_lst (pa_litF (fun e d h=>⟨pe_lit n e d h,lit_star h⟩) h) pins s σ H Q I ?_
 intro xs H1 s1 d1
 refine ⟨Nat.le_trans (by rw [dats_len ds d1,litEs_len h]; exact hl) (by rw [sizeLine_eq]; decide),fun t nt=>q t xs _ (s1.trans (Same.new nt)) (noneB s1 nt) upd_same (dats_same (Same.new nt) ds d1)⟩
end
end L2
namespace K66
open PySem L2
def top (i:Nat):Stmt:=PySem.Challenge.pw_glazebench_k66_orders_refused.main.body.getD i (.Pass ⟨0,0,0,0⟩)
abbrev s_NoSide_init:Stmt:=inClass (top 3) 0
abbrev s_TooMany_init:Stmt:=inClass (top 4) 0
abbrev s_NoNumber_init:Stmt:=inClass (top 5) 0
abbrev s_NoWant_init:Stmt:=inClass (top 6) 0
abbrev s_NoSheet_init:Stmt:=inClass (top 7) 0
abbrev s_NoSize_init:Stmt:=inClass (top 8) 0
abbrev s_NoPlan_init:Stmt:=inClass (top 9) 0
abbrev s_is_whole:Stmt:=top 12
abbrev s_is_side:Stmt:=top 13
abbrev s_check_sides:Stmt:=top 14
abbrev s_Whole_init:Stmt:=inClass (top 20) 0
abbrev s_Upright_init:Stmt:=inClass (top 21) 0
abbrev s_Level_init:Stmt:=inClass (top 22) 0
abbrev s_cut_from:Stmt:=top 26
abbrev s_is_want:Stmt:=top 32
abbrev s_check_wants:Stmt:=top 33
abbrev s_ways_to_lie:Stmt:=top 34
abbrev s_ways_held:Stmt:=top 35
abbrev s_is_alone:Stmt:=top 36
abbrev s_number_alone:Stmt:=top 37
abbrev s_all_parts:Stmt:=top 38
abbrev s_parts_with_least:Stmt:=top 39
abbrev s_cuts_to:Stmt:=top 40
abbrev s_least_height:Stmt:=top 41
abbrev s_heights_of_parts:Stmt:=top 42
abbrev s_stair:Stmt:=top 43
abbrev s_all_bits:Stmt:=top 44
abbrev s_stairs:Stmt:=top 45
abbrev s_cut_off:Stmt:=top 46
abbrev s_tree_alone:Stmt:=top 47
abbrev s_tree_for:Stmt:=top 48
abbrev s_stair_tree:Stmt:=top 49
abbrev s_is_sheet:Stmt:=top 52
abbrev s_check_sheets:Stmt:=top 53
abbrev s_heights_for:Stmt:=top 54
abbrev s_cheapest_sheets:Stmt:=top 55
abbrev s_first_sheets:Stmt:=top 56
abbrev s_glass_by_set:Stmt:=top 57
abbrev s_least_glass:Stmt:=top 58
abbrev s_check_served:Stmt:=top 59
abbrev s_plan:Stmt:=top 60
abbrev s__law_at:Stmt:=top 62
abbrev s__law_knead:Stmt:=top 63
abbrev s__law_bad_want:Stmt:=top 64
abbrev s__law_bad_sheet:Stmt:=top 65
abbrev s__law_caught:Stmt:=top 66
abbrev s__law_told:Stmt:=top 67
abbrev s__law_first:Stmt:=top 68
abbrev s__law_due:Stmt:=top 69
abbrev s__law_things:Stmt:=top 70
abbrev s_law:Stmt:=top 71
def upto (n:Nat):List Int:=(List.range n).map fun k:Nat=>1+(k:Int)
theorem upto_succ (n:Nat):upto (n+1)=upto n++[1+(n:Int)]:=by unfold upto; rw [List.range_succ,List.map_append]; rfl
theorem mem_upto {n:Nat} {z:Int}:z∈upto n↔1≤z∧z≤n:=by
 unfold upto
 rw [List.mem_map]
 constructor
 ·rintro ⟨k,hk,rfl⟩
  have:=List.mem_range.mp hk
  omega
 ·rintro ⟨a,b⟩
  exact ⟨(z - 1).toNat,List.mem_range.mpr (by omega),by omega⟩
theorem upto_len (n:Nat):(upto n).length=n:=by unfold upto; rw [List.length_map,List.length_range]
def isPart (b p:Int):Bool:=decide (Builtin.bitAnd p b=p)
def partsOf (b:Int):List Int:=(upto b.toNat).filter (isPart b)
def inL (b p:Int):Bool:=(Builtin.bitAnd p (Builtin.bitAnd b (-b)) != 0) && !decide (p=b)
def plist (b:Int):List Int:=(partsOf b).filter (inL b)
def alone (b:Int):Bool:=decide (Builtin.bitAnd b (b - 1)=0)
def rat (r:List Int) (i:Int):Int:=r.getD i.toNat 0
def mx (i j:Int):Int:=if j > i then j else i
theorem mx_l (i j:Int):i≤mx i j:=by unfold mx; split <;> omega
theorem mx_r (i j:Int):j≤mx i j:=by unfold mx; split <;> omega
def cutU (h:Int→List Int) (b w p a:Int):Int:=mx (rat (h p) a) (rat (h (b - p)) (w - a))
def cutP (h:Int→List Int) (b w p:Int):List Int:=(upto (w - 1).toNat).map (cutU h b w p)++[rat (h p) w+rat (h (b - p)) w]
def cutH (h:Int→List Int) (b w:Int):List Int:=(plist b).flatMap (cutP h b w)
abbrev Want:=Int × Int × Bool
def WOk (t:Want):Prop:=1≤t.1∧t.1≤12∧1≤t.2.1∧t.2.1≤12
def waysOf (t:Want):List (Int × Int):=if t.2.2=true then [(t.1,t.2.1),(t.2.1,t.1)] else [(t.1,t.2.1)]
def lows (t:Want) (w:Int):List Int:=((waysOf t).filter fun z=>decide (z.1≤w)).map (·.2)
def Low (ws:List Want) (h:Int→List Int) (b w z:Int):Prop :=
 (alone b=true→∃ t,ws[(((Builtin.Int.intBits b:Nat):Int) - 1).toNat]?=some t∧((lows t w=[]∧z=13)∨(z∈lows t w∧∀ y∈lows t w,z≤y))) ∧
 (alone b=false→∃ m,m∈cutH h b w∧(∀ y∈cutH h b w,m≤y)∧z=if m < 13 then m else 13)
def Row (ws:List Want) (h:Int→List Int) (p:Int):Prop:=rat (h p) 0=13∧∀ w,1≤w→w≤12→Low ws h p w (rat (h p) w)
theorem mem_plist {b p:Int} (h:p∈plist b):1≤p∧p < b:=by
 obtain ⟨h1,h2⟩:=List.mem_filter.mp h
 obtain ⟨h1,_⟩:=List.mem_filter.mp h1
 have:=mem_upto.mp h1
 unfold inL at h2
 rw [Bool.and_eq_true,Bool.not_eq_true',decide_eq_false_iff_not] at h2
 omega
theorem plist_len (b:Int):(plist b).length≤b.toNat:=by
 unfold plist partsOf
 exact Nat.le_trans (List.length_filter_le _ _) (Nat.le_trans (List.length_filter_le _ _) (Nat.le_of_eq (upto_len _)))
theorem flatMap_ext {α β:Type} {f g:α→List β}:∀ {l:List α},(∀ x∈l,f x=g x)→l.flatMap f=l.flatMap g
 | [],_=>rfl
 | x :: l,h=>by rw [List.flatMap_cons,List.flatMap_cons,h x (by simp),flatMap_ext fun y hy=>h y (by simp [hy])]
theorem cut_congr {h h':Int→List Int} {b w:Int} (e:∀ x,1≤x→x < b→h x=h' x):cutH h b w=cutH h' b w:=by
 unfold cutH
 refine flatMap_ext fun p hp=>?_
 obtain ⟨p1,p2⟩:=mem_plist hp
 have e1:=e p p1 p2
 have e2:=e (b - p) (by omega) (by omega)
 unfold cutP cutU
 rw [e1,e2]
theorem Low.congr {ws:List Want} {h h':Int→List Int} {b w z:Int} (l:Low ws h b w z) (e:∀ x,1≤x→x < b→h x=h' x):Low ws h' b w z :=
 ⟨l.1,fun a=>by rw [← cut_congr e]; exact l.2 a⟩
theorem at_rat {r:List Int} {i:Int} (h0:0≤i) (h1:i < r.length):atI (r.map V.int) i=some (.int (rat r i)):=by
 have hk:i.toNat < r.length:=by omega
 have hz:(r.map V.int)[i.toNat]?=some (.int (rat r i)):=by
  unfold rat
  rw [List.getElem?_map,List.getD_eq_getElem?_getD,List.getElem?_eq_getElem hk]; rfl
 have e:=atI_nat hz
 rw [Int.toNat_of_nonneg h0] at e
 exact e
theorem mem_cutH {h:Int→List Int} {b w y:Int} (hy:y∈cutH h b w):∃ p,p∈plist b∧((∃ a,1≤a∧a < w∧y=cutU h b w p a)∨y=rat (h p) w+rat (h (b - p)) w):=by
 obtain ⟨p,hp,hy⟩:=List.mem_flatMap.mp hy
 unfold cutP at hy
 refine ⟨p,hp,?_⟩
 rcases List.mem_append.mp hy with hy | hy
 ·obtain ⟨a,ha,rfl⟩:=List.mem_map.mp hy
  have:=mem_upto.mp ha
  exact .inl ⟨a,by omega,by omega,rfl⟩
 ·exact .inr (List.mem_singleton.mp hy)
theorem cutL_in {h:Int→List Int} {b w p:Int} (hp:p∈plist b):rat (h p) w+rat (h (b - p)) w∈cutH h b w :=
 List.mem_flatMap.mpr ⟨p,hp,List.mem_append_right _ (List.mem_singleton.mpr rfl)⟩
section
variable {ws:List Want} {h:Int→List Int} {N:Int}
end
theorem full_ok:∀ n:Nat,n < 7→partsOf (1 * 2^((n:Nat):Int).toNat - 1)=upto (2^n - 1):=by decide +kernel
def soleB (n:Nat) (b:Int):Bool:=(!alone b || (decide (0≤((Builtin.Int.intBits b:Nat):Int) - 1) && decide ((((Builtin.Int.intBits b:Nat):Int) - 1).toNat < n))) && (alone b || !(plist b).isEmpty)
theorem sole_ok:∀ n:Nat,n < 7→(upto (2^n - 1)).all (soleB n)=true:=by decide +kernel
theorem sole_of {n:Nat} {b:Int} (hn:n < 7) (b1:1≤b) (b2:b≤((2^n - 1:Nat):Int)):(alone b=true→0≤((Builtin.Int.intBits b:Nat):Int) - 1∧(((Builtin.Int.intBits b:Nat):Int) - 1).toNat < n)∧(alone b=false→plist b≠[]):=by
 have e:=List.all_eq_true.mp (sole_ok n hn) b (mem_upto.mpr ⟨b1,b2⟩)
 unfold soleB at e
 rw [Bool.and_eq_true,Bool.or_eq_true,Bool.or_eq_true,Bool.and_eq_true,Bool.not_eq_true',Bool.not_eq_true',decide_eq_true_eq,decide_eq_true_eq] at e
 refine ⟨fun a=>?_,fun a=>?_⟩
 ·rcases e.1 with z | z
  ·rw [a] at z; cases z
  ·exact z
 ·rcases e.2 with z | z
  ·rw [a] at z; cases z
  ·intro q; rw [q] at z; cases z
def isStep (r:List Int) (w:Int):Bool:=decide (rat r w < rat r (w - 1))
def stairOf (r:List Int):List (Int × Int):=((upto 12).filter (isStep r)).map fun w=>(w,rat r w)
theorem stair_len (r:List Int):(stairOf r).length≤12:=by
 unfold stairOf
 rw [List.length_map]
 exact Nat.le_trans (List.length_filter_le _ _) (Nat.le_of_eq (upto_len _))
theorem fold_min:∀ (l:List Int) (m:Int),(l.foldl (fun m y=>if y < m then y else m) m=m∨l.foldl (fun m y=>if y < m then y else m) m∈l)∧(l.foldl (fun m y=>if y < m then y else m) m≤m∧∀ y∈l,l.foldl (fun m y=>if y < m then y else m) m≤y)
 | [],m=>⟨.inl rfl,Int.le_refl _,fun y hy=>nomatch hy⟩
 | x :: l,m=>by
  obtain ⟨h1,h2,h3⟩:=fold_min l (if x < m then x else m)
  have e:(x :: l).foldl (fun m y=>if y < m then y else m) m=l.foldl (fun m y=>if y < m then y else m) (if x < m then x else m):=rfl
  rw [e]
  generalize l.foldl (fun m y=>if y < m then y else m) (if x < m then x else m)=r at h1 h2 h3
  refine ⟨?_,?_,fun y hy=>?_⟩
  ·rcases h1 with z | z
   ·by_cases c:x < m
    ·rw [if_pos c] at z; exact .inr (by rw [z]; simp)
    ·rw [if_neg c] at z; exact .inl z
   ·exact .inr (List.mem_cons_of_mem _ z)
  ·split at h2 <;> omega
  ·rcases List.mem_cons.mp hy with rfl | hy
   ·split at h2 <;> omega
   ·exact h3 y hy
def minO:List Int→Option Int
 | []=>none
 | x :: l=>some (l.foldl (fun m y=>if y < m then y else m) x)
theorem minO_mem {l:List Int} {m:Int} (h:minO l=some m):m∈l∧∀ y∈l,m≤y:=by
 cases l with
 | nil=>cases h
 | cons x l =>
  obtain ⟨h1,h2,h3⟩:=fold_min l x
  have e:l.foldl (fun m y=>if y < m then y else m) x=m:=Option.some.inj h
  rw [e] at h1 h2 h3
  refine ⟨?_,fun y hy=>?_⟩
  ·rcases h1 with z | z
   ·rw [z]; simp
   ·exact List.mem_cons_of_mem _ z
  ·rcases List.mem_cons.mp hy with rfl | hy
   ·exact h2
   ·exact h3 y hy
theorem minO_none {l:List Int} (h:minO l=none):l=[]:=by
 cases l with
 | nil=>rfl
 | cons x l=>cases h
theorem minO_of {l:List Int} {m:Int} (hm:m∈l) (le:∀ y∈l,m≤y):minO l=some m:=by
 cases e:minO l with
 | none=>rw [minO_none e] at hm; cases hm
 | some z =>
  obtain ⟨a,b⟩:=minO_mem e
  rw [Int.le_antisymm (b m hm) (le z a)]
theorem minO_le {l:List Int} {x:Int} (h:x∈l):∃ m,minO l=some m∧m≤x:=by
 cases e:minO l with
 | none=>rw [minO_none e] at h; cases h
 | some m=>exact ⟨m,rfl,(minO_mem e).2 x h⟩
def serves (r:List Int) (z:Int × Int):Bool:=decide (rat r z.1≤z.2)
def area (z:Int × Int):Int:=z.1 * z.2
def cost (r:List Int) (ss:List (Int × Int)):Option Int:=minO ((ss.filter (serves r)).map area)
def wayOf (co G:Int→Option Int) (b p:Int):Option (Int × Int) :=
 match co p with
 | none=>none
 | some c=>match G (b - p) with
  | none=>none
  | some g=>some (c+g,p)
def waysL (co G:Int→Option Int) (b:Int):List (Int × Int):=(plist b++[b]).filterMap (wayOf co G b)
def GlassP (co G:Int→Option Int) (n:Nat):Prop:=G 0=some 0∧∀ b:Int,1≤b→b≤n→G b=minO ((waysL co G b).map (·.1))
def SOk (z:Int × Int):Prop:=1≤z.1∧z.1≤12∧1≤z.2∧z.2≤12
theorem mem_ways {co G:Int→Option Int} {b y:Int}:y∈(waysL co G b).map (·.1)↔∃ p c g,p∈plist b++[b]∧co p=some c∧G (b - p)=some g∧y=c+g:=by
 unfold waysL
 rw [List.mem_map]
 constructor
 ·rintro ⟨z,hz,rfl⟩
  obtain ⟨p,hp,e⟩:=List.mem_filterMap.mp hz
  unfold wayOf at e
  cases ec:co p with
  | none=>rw [ec] at e; cases e
  | some c =>
   rw [ec] at e
   cases eg:G (b - p) with
   | none=>simp only [eg] at e; cases e
   | some g =>
    simp only [eg] at e
    have:=Option.some.inj e
    exact ⟨p,c,g,hp,ec,eg,by rw [← this]⟩
 ·rintro ⟨p,c,g,hp,ec,eg,rfl⟩
  refine ⟨(c+g,p),List.mem_filterMap.mpr ⟨p,hp,?_⟩,rfl⟩
  unfold wayOf
  rw [ec]
  simp only [eg]
def refs {α:Type} (ts:List (Addr × α)):List V:=ts.map fun t=>V.ref t.1
theorem refs_get {α:Type} {ts:List (Addr × α)} {i:Nat} {x:V} (h:(refs ts)[i]?=some x):∃ u,ts[i]?=some u∧x=.ref u.1:=by
 rw [refs,List.getElem?_map] at h
 cases e:ts[i]? with
 | none=>rw [e] at h; cases h
 | some u=>rw [e] at h; exact ⟨u,rfl,(Option.some.inj h).symm⟩
theorem refs_len {α:Type} (ts:List (Addr × α)):(refs ts).length=ts.length:=List.length_map ..
theorem ints_get {xs:List Int} {i:Nat} {x:V} (h:(xs.map V.int)[i]?=some x):∃ z,xs[i]?=some z∧x=.int z:=by
 rw [List.getElem?_map] at h
 cases e:xs[i]? with
 | none=>rw [e] at h; cases h
 | some z=>rw [e] at h; exact ⟨z,rfl,(Option.some.inj h).symm⟩
def TupL (H:Hp) (l:Addr) (zs:List (Int × Int)):Prop:=∃ ts:List (Addr × Int × Int),H l=some (.lst (refs ts))∧(∀ t∈ts,H t.1=some (.tup [.int t.2.1,.int t.2.2]))∧ts.map (·.2)=zs
theorem TupL.same {H H':Hp} {l:Addr} {zs:List (Int × Int)} (h:TupL H l zs) (s:Same H H'):TupL H' l zs :=
 let ⟨ts,a,b,c⟩:=h; ⟨ts,s _ _ a,fun t ht=>s _ _ (b t ht),c⟩
def WantsAt (H:Hp) (a:Addr) (ws:List Want):Prop:=∃ ts:List (Addr × Want),H a=some (.lst (refs ts))∧(∀ t∈ts,H t.1=some (.tup [.int t.2.1,.int t.2.2.1,.bl t.2.2.2]))∧ts.map (·.2)=ws
theorem WantsAt.same {H H':Hp} {a:Addr} {ws:List Want} (h:WantsAt H a ws) (s:Same H H'):WantsAt H' a ws :=
 let ⟨ts,a,b,c⟩:=h; ⟨ts,s _ _ a,fun t ht=>s _ _ (b t ht),c⟩
def kvN (ad:Int→Addr):Nat→List (Key × V)
 | 0=>[]
 | n+1=>putK (kvN ad n) (Sum.inl (1+(n:Int))) (.ref (ad (1+(n:Int))))
theorem kv_val (ad:Int→Addr):∀ (n:Nat) (q:Int),valV (kvN ad n) (Sum.inl q)=if 1≤q∧q≤n then some (.ref (ad q)) else none
 | 0,q=>by rw [if_neg (by omega)]; rfl
 | n+1,q=>by
  show valV (putK (kvN ad n) (Sum.inl (1+(n:Int))) (.ref (ad (1+(n:Int))))) (Sum.inl q)=_
  rw [valV_put]
  by_cases e:q=1+(n:Int)
  ·rw [if_pos (by rw [e]),if_pos (by omega),e]
  ·rw [if_neg (fun z=>e (Sum.inl.inj z)),kv_val ad n q]
   by_cases c:1≤q∧q≤n
   ·rw [if_pos c,if_pos (by omega)]
   ·rw [if_neg c,if_neg (by omega)]
theorem kv_congr {ad ad':Int→Addr}:∀ (n:Nat),(∀ q:Int,1≤q→q≤n→ad q=ad' q)→kvN ad n=kvN ad' n
 | 0,_=>rfl
 | n+1,h=>by
  show putK (kvN ad n) _ _=putK (kvN ad' n) _ _
  rw [kv_congr n fun q a b=>h q a (by omega),h (1+(n:Int)) (by omega) (by omega)]
theorem kv_eq (ad:Int→Addr):∀ (n:Nat),kvN ad n=(List.range n).map fun k:Nat=>((Sum.inl (1+(k:Int)):Key),V.ref (ad (1+(k:Int))))
 | 0=>rfl
 | n+1=>by
  have z:valV (kvN ad n) (Sum.inl (1+(n:Int)))=none:=by rw [kv_val,if_neg (by omega)]
  have e:((kvN ad n).any fun kv=>decide (kv.1=Sum.inl (1+(n:Int))))=false:=by rw [valV_any,z]; rfl
  show putK (kvN ad n) _ _=_
  unfold putK
  rw [e,if_neg Bool.false_ne_true,kv_eq ad n,List.range_succ,List.map_append]
  rfl
theorem kv_len (ad:Int→Addr) (n:Nat):(kvN ad n).length=n:=by rw [kv_eq,List.length_map,List.length_range]
theorem kv_get {ad:Int→Addr} {n i:Nat} {p:Key × V} (h:(kvN ad n)[i]?=some p):i < n∧p=(Sum.inl (1+(i:Int)),V.ref (ad (1+(i:Int)))):=by
 have hl:=(List.getElem?_eq_some_iff.mp h).1
 rw [kv_len] at hl
 rw [kv_eq,List.getElem?_map,List.getElem?_range hl] at h
 exact ⟨hl,(Option.some.inj h).symm⟩
def Tab (H:Hp) (d:Addr) (n:Nat) (ad:Int→Addr) (h:Int→List Int):Prop:=H d=some (.dK (kvN ad n))∧∀ p:Int,1≤p→p≤n→H (ad p)=some (.lst ((h p).map V.int))∧(h p).length=13
theorem Tab.same {H H':Hp} {d:Addr} {n:Nat} {ad:Int→Addr} {h:Int→List Int} (t:Tab H d n ad h) (s:Same H H'):Tab H' d n ad h:=⟨s _ _ t.1,fun p a b=>⟨s _ _ (t.2 p a b).1,(t.2 p a b).2⟩⟩
def TabS (H:Hp) (d:Addr) (n:Nat) (ad:Int→Addr) (st:Int→List (Int × Int)):Prop:=H d=some (.dK (kvN ad n))∧∀ p:Int,1≤p→p≤n→TupL H (ad p) (st p)∧(st p).length≤12
theorem TabS.same {H H':Hp} {d:Addr} {n:Nat} {ad:Int→Addr} {st:Int→List (Int × Int)} (t:TabS H d n ad st) (s:Same H H'):TabS H' d n ad st:=⟨s _ _ t.1,fun p a b=>⟨(t.2 p a b).1.same s,(t.2 p a b).2⟩⟩
theorem wasNone {H H':Hp} (s:Same H H') {a:Addr} (h:H' a=none):H a=none:=by
 cases q:H a with
 | none=>rfl
 | some o=>rw [s a o q] at h; cases h
def intsD:List Int→Ds
 | []=>.nil
 | i :: r=>.cons (.at (.int i)) (intsD r)
theorem intsD_is {K:PySem.W.Frag} {H:Hp}:∀ (ns:List Int),DIss K H (intsD ns) (ns.map V.int)
 | []=>by
  show DIss K H .nil []
  rw [DIss]
 | i :: r=>by
  show DIss K H (.cons (.at (.int i)) (intsD r)) (.int i :: r.map V.int)
  rw [DIss]
  exact ⟨_,_,rfl,by rw [DIs]; exact ⟨rfl,rfl⟩,intsD_is r⟩
theorem intsD_dep:∀ (ns:List Int),deps (intsD ns)=0
 | []=>by rw [intsD,deps]
 | i :: r=>by rw [intsD,deps,dep,intsD_dep r]; rfl
theorem intsD_nil:∀ (ns:List Int),deqs (intsD ns) .nil=decide (ns=[])
 | []=>by rw [intsD,deqs]; rfl
 | i :: r=>by rw [intsD,deqs] <;> simp
theorem intsL {K:PySem.W.Frag} {H:Hp} {a:Addr} {ns:List Int} (h:SqL K H a (ns.map V.int)):DIs K H (.lst (intsD ns)) (.ref a):=by
 rw [DIs]
 exact ⟨a,_,rfl,h,intsD_is _⟩
theorem nilL {K:PySem.W.Frag} {H:Hp} {a:Addr} (h:H a=some (.lst [])):DIs K H (.lst .nil) (.ref a):=by
 rw [DIs]
 exact ⟨a,[],rfl,SqL.of h,by rw [DIss]⟩
theorem intsL_dep (ns:List Int):dep (.lst (intsD ns))≤50:=by rw [dep,intsD_dep]; omega
theorem at_refs {α:Type} {ts:List (Addr × α)} {i:Int} {u:Addr × α} (h0:0≤i) (h:ts[i.toNat]?=some u):atI (refs ts) i=some (.ref u.1):=by
 have e:=atI_nat (xs:=refs ts) (j:=i.toNat) (v:=.ref u.1) (by rw [refs,List.getElem?_map,h]; rfl)
 rw [Int.toNat_of_nonneg h0] at e
 exact e
theorem pow_of {n:Nat} (h:n≤6):(1:Int) * 2^((n:Nat):Int).toNat=((2^n - 1:Nat):Int)+1∧2^n - 1≤63:=by
 have:∀ n:Nat,n≤6→(1:Int) * 2^((n:Nat):Int).toNat=((2^n - 1:Nat):Int)+1∧2^n - 1≤63:=by decide +kernel
 exact this n h
def gv:Option Int→V
 | none=>.non
 | some i=>.int i
def gkv (G:Int→Option Int):Nat→List (Key × V)
 | 0=>[(Sum.inl 0,gv (G 0))]
 | n+1=>putK (gkv G n) (Sum.inl (1+(n:Int))) (gv (G (1+(n:Int))))
theorem gk_val (G:Int→Option Int):∀ (n:Nat) (q:Int),valV (gkv G n) (Sum.inl q)=if 0≤q∧q≤n then some (gv (G q)) else none
 | 0,q=>by
  by_cases e:q=0
  ·rw [if_pos (by omega),e]; rfl
  ·rw [if_neg (by omega)]
   show ((([(Sum.inl 0,gv (G 0))]:List (Key × V)).find? fun kv=>decide (kv.1=Sum.inl q)).map (·.2))=none
   rw [List.find?_cons,decide_eq_false (fun z=>e (Sum.inl.inj z).symm)]; rfl
 | n+1,q=>by
  show valV (putK (gkv G n) (Sum.inl (1+(n:Int))) (gv (G (1+(n:Int))))) (Sum.inl q)=_
  rw [valV_put]
  by_cases e:q=1+(n:Int)
  ·rw [if_pos (by rw [e]),if_pos (by omega),e]
  ·rw [if_neg (fun z=>e (Sum.inl.inj z)),gk_val G n q]
   by_cases c:0≤q∧q≤n
   ·rw [if_pos c,if_pos (by omega)]
   ·rw [if_neg c,if_neg (by omega)]
theorem gk_congr {G G':Int→Option Int}:∀ (n:Nat),(∀ q:Int,0≤q→q≤n→G q=G' q)→gkv G n=gkv G' n
 | 0,h=>by
  show [(Sum.inl 0,gv (G 0))]=[(Sum.inl 0,gv (G' 0))]
  rw [h 0 (by omega) (by omega)]
 | n+1,h=>by
  show putK (gkv G n) _ _=putK (gkv G' n) _ _
  rw [gk_congr n fun q a b=>h q a (by omega),h (1+(n:Int)) (by omega) (by omega)]
theorem gk_new (G:Int→Option Int) (n:Nat) (v:V):putK (gkv G n) (Sum.inl (1+(n:Int))) v=gkv G n++[(Sum.inl (1+(n:Int)),v)]:=by
 have z:valV (gkv G n) (Sum.inl (1+(n:Int)))=none:=by rw [gk_val,if_neg (by omega)]
 have e:((gkv G n).any fun kv=>decide (kv.1=Sum.inl (1+(n:Int))))=false:=by rw [valV_any,z]; rfl
 unfold putK
 rw [e,if_neg Bool.false_ne_true]
theorem gk_eq (G:Int→Option Int):∀ (n:Nat),gkv G n=(List.range (n+1)).map fun k:Nat=>((Sum.inl (k:Int):Key),gv (G (k:Int)))
 | 0=>rfl
 | n+1=>by
  show putK (gkv G n) _ _=_
  rw [gk_new,gk_eq G n,List.range_succ (n:=n+1),List.map_append]
  show _++_=_++[((Sum.inl ((n+1:Nat):Int):Key),gv (G ((n+1:Nat):Int)))]
  rw [show ((n+1:Nat):Int)=1+(n:Int) from by omega]
theorem gk_len (G:Int→Option Int) (n:Nat):(gkv G n).length=n+1:=by rw [gk_eq,List.length_map,List.length_range]
def Chp (H:Hp) (c:Addr) (n:Nat) (co:Int→Option Int):Prop:=∃ kvs:List (Key × V),H c=some (.dK kvs)∧kvs.length≤n∧(∀ q:Int,q < 1∨(n:Int) < q→valV kvs (Sum.inl q)=none) ∧
 ∀ q:Int,1≤q→q≤n→(co q=none∧valV kvs (Sum.inl q)=none)∨∃ m a x,co q=some m∧valV kvs (Sum.inl q)=some (.ref a)∧H a=some (.tup [.int m,x])
theorem Chp.same {H H':Hp} {c:Addr} {n:Nat} {co:Int→Option Int} (h:Chp H c n co) (s:Same H H'):Chp H' c n co:=by
 obtain ⟨kvs,a,b,d,e⟩:=h
 refine ⟨kvs,s _ _ a,b,d,fun q q1 q2=>?_⟩
 rcases e q q1 q2 with z | ⟨m,a',x,z1,z2,z3⟩
 ·exact .inl z
 ·exact .inr ⟨m,a',x,z1,z2,s _ _ z3⟩
def ShOk (r:List Int) (ss:List (Int × Int)) (y:Int × Int):Prop:=∃ (k:Nat) (z:Int × Int),y.2=k∧ss[k]?=some z∧serves r z=true∧y.1=area z
def ChpS (H:Hp) (c:Addr) (n:Nat) (h:Int→List Int) (ss:List (Int × Int)):Prop:=∃ kvs:List (Key × V),H c=some (.dK kvs)∧kvs.length≤n∧(∀ q:Int,q < 1∨(n:Int) < q→valV kvs (Sum.inl q)=none) ∧
 ∀ q:Int,1≤q→q≤n→(cost (h q) ss=none∧valV kvs (Sum.inl q)=none)∨∃ (m:Int) (a:Addr) (y:Int),cost (h q) ss=some m∧valV kvs (Sum.inl q)=some (.ref a)∧H a=some (.tup [.int m,.int y])∧ShOk (h q) ss (m,y)
theorem ChpS.same {H H':Hp} {c:Addr} {n:Nat} {h:Int→List Int} {ss:List (Int × Int)} (x:ChpS H c n h ss) (s:Same H H'):ChpS H' c n h ss:=by
 obtain ⟨kvs,a,b,d,e⟩:=x
 refine ⟨kvs,s _ _ a,b,d,fun q q1 q2=>?_⟩
 rcases e q q1 q2 with z | ⟨m,a',x,z1,z2,z3,z4⟩
 ·exact .inl z
 ·exact .inr ⟨m,a',x,z1,z2,s _ _ z3,z4⟩
theorem ChpS.chp {H:Hp} {c:Addr} {n:Nat} {h:Int→List Int} {ss:List (Int × Int)} (x:ChpS H c n h ss):Chp H c n (fun q=>cost (h q) ss):=by
 obtain ⟨kvs,a,b,d,e⟩:=x
 refine ⟨kvs,a,b,d,fun q q1 q2=>?_⟩
 rcases e q q1 q2 with z | ⟨m,a',x,z1,z2,z3,z4⟩
 ·exact .inl z
 ·exact .inr ⟨m,a',_,z1,z2,z3⟩
inductive Tr where
 | whole (m:Option Int)
 | cut (u:Bool) (k:Int) (x y:Tr)
def wd:Bool→Str
 | true=>"upright"
 | false=>"level"
theorem wd_dec (u v:Bool):decide (V.str (wd u)=V.str (wd v))=(u == v):=by cases u <;> cases v <;> decide +kernel
def markV:Option Int→V
 | none=>.non
 | some i=>.int i
def bitB (m:Int) (i:Nat):Bool:=decide (Builtin.bitAnd (m / 2^i) 1=1)
def pc (b:Int):Nat:=((List.range 6).filter (bitB b)).length
def transB (b p:Int):Bool:=!isPart b p || (plist p).all fun q=>isPart b q && isPart b (p - q)
theorem trans_ok:(upto 63).all (fun b=>(upto 63).all (transB b))=true:=by decide +kernel
def halfB (p:Int):Bool:=(plist p).all fun q=>decide (pc q < pc p) && decide (pc (p - q) < pc p) && (List.range 6).all fun i=>!(bitB q i && bitB (p - q) i) && (!bitB q i || bitB p i) && (!bitB (p - q) i || bitB p i)
theorem half_ok:(upto 63).all halfB=true:=by decide +kernel
theorem plist_up {p q:Int} (h:q∈plist p):1≤q∧q < p∧1≤p - q:=by
 obtain ⟨a,b⟩:=mem_plist h
 exact ⟨a,b,by omega⟩
theorem part_trans {b p q:Int} (b1:1≤b) (b2:b≤63) (p1:1≤p) (p2:p≤63) (h:isPart b p=true) (hq:q∈plist p):isPart b q=true∧isPart b (p - q)=true:=by
 have t:=List.all_eq_true.mp (List.all_eq_true.mp trans_ok b (mem_upto.mpr ⟨b1,b2⟩)) p (mem_upto.mpr ⟨p1,p2⟩)
 unfold transB at t
 rw [h,Bool.not_true,Bool.false_or] at t
 have:=List.all_eq_true.mp t q hq
 rwa [Bool.and_eq_true] at this
theorem half_of {p q:Int} (p1:1≤p) (p2:p≤63) (hq:q∈plist p):pc q < pc p∧pc (p - q) < pc p∧∀ i,i < 6→(bitB q i=true→bitB (p - q) i=true→False)∧(bitB q i=true→bitB p i=true)∧(bitB (p - q) i=true→bitB p i=true):=by
 have t:=List.all_eq_true.mp (List.all_eq_true.mp half_ok p (mem_upto.mpr ⟨p1,p2⟩)) q hq
 simp only [Bool.and_eq_true,decide_eq_true_eq] at t
 obtain ⟨⟨a,b⟩,c⟩:=t
 refine ⟨a,b,fun i hi=>?_⟩
 have:=List.all_eq_true.mp c i (List.mem_range.mpr hi)
 revert this
 cases bitB q i <;> cases bitB (p - q) i <;> cases bitB p i <;> simp
def oneB (b:Int):Bool:=!alone b || (decide (1≤((Builtin.Int.intBits b:Nat):Int)) && decide (1 * 2^(((Builtin.Int.intBits b:Nat):Int) - 1).toNat=b) && decide ((((Builtin.Int.intBits b:Nat):Int) - 1).toNat < 6) && bitB b (((Builtin.Int.intBits b:Nat):Int) - 1).toNat)
theorem one_ok:(upto 63).all oneB=true:=by decide +kernel
def nOne (b:Int):Int:=((Builtin.Int.intBits b:Nat):Int) - 1
theorem one_of {b:Int} (b1:1≤b) (b2:b≤63) (h:alone b=true):0≤nOne b∧1 * 2^(nOne b).toNat=b∧(nOne b).toNat < 6∧bitB b (nOne b).toNat=true:=by
 have t:=List.all_eq_true.mp one_ok b (mem_upto.mpr ⟨b1,b2⟩)
 unfold oneB at t
 rw [h,Bool.not_true,Bool.false_or] at t
 simp only [Bool.and_eq_true,decide_eq_true_eq] at t
 obtain ⟨⟨⟨a,b⟩,c⟩,d⟩:=t
 exact ⟨by unfold nOne; omega,b,c,d⟩
theorem pc_small:∀ b:Nat,b < 64→pc b < 7:=by decide +kernel
theorem part_self:(upto 63).all (fun b=>isPart b b)=true:=by decide +kernel
theorem mem_partsOf {b p:Int}:p∈partsOf b↔(1≤p∧p≤b)∧isPart b p=true:=by
 unfold partsOf
 rw [List.mem_filter,mem_upto]
 constructor
 ·rintro ⟨⟨a,c⟩,d⟩; exact ⟨⟨a,by omega⟩,d⟩
 ·rintro ⟨⟨a,c⟩,d⟩; exact ⟨⟨a,by omega⟩,d⟩
theorem upto_sorted:∀ n:Nat,(upto n).Pairwise (· < ·)
 | 0=>.nil
 | n+1=>by
  rw [upto_succ,List.pairwise_append]
  refine ⟨upto_sorted n,List.pairwise_singleton _ _,fun a ha b hb=>?_⟩
  have:=mem_upto.mp ha
  rw [List.mem_singleton.mp hb]; omega
theorem parts_sorted (b:Int):(partsOf b).Pairwise (· < ·):=(upto_sorted _).filter _
theorem take_lt {ks:List Int} (h:ks.Pairwise (· < ·)) {i:Nat} {p q:Int} (hp:ks[i]?=some p):q∈ks.take i↔q∈ks∧q < p:=by
 obtain ⟨hi,rfl⟩:=List.getElem?_eq_some_iff.mp hp
 have pw:=List.pairwise_iff_getElem.mp h
 constructor
 ·intro hq
  obtain ⟨j,hj,rfl⟩:=List.mem_take_iff_getElem.mp hq
  exact ⟨List.getElem_mem _,pw j i (by omega) hi (by omega)⟩
 ·rintro ⟨hq,lt⟩
  obtain ⟨j,hj,rfl⟩:=List.getElem_of_mem hq
  refine List.mem_take_iff_getElem.mpr ⟨j,?_,rfl⟩
  rcases Nat.lt_trichotomy j i with z | z | z
  ·omega
  ·subst z; omega
  ·have:=pw i j hi hj z; omega
def cutQ (h:Int→List Int) (b w p:Int):List Rw4:=(upto (w - 1).toNat).map (fun a=>(cutU h b w p a,[Sum.inr (wd true),Sum.inl a,Sum.inl p]))++[(rat (h p) w+rat (h (b - p)) w,[Sum.inr (wd false),Sum.inl (rat (h p) w),Sum.inl p])]
def cutsF (h:Int→List Int) (b w:Int):List Rw4:=(plist b).flatMap (cutQ h b w)
theorem cutQ_fst (h:Int→List Int) (b w p:Int):(cutQ h b w p).map (·.1)=cutP h b w p:=by
 unfold cutQ cutP
 rw [List.map_append,List.map_map]; rfl
theorem cutsF_fst (h:Int→List Int) (b w:Int):(cutsF h b w).map (·.1)=cutH h b w:=by
 unfold cutsF cutH
 rw [List.map_flatMap]
 exact flatMap_ext fun p _=>cutQ_fst h b w p
theorem mem_cutsF {h:Int→List Int} {b w:Int} {r:Rw4} (hr:r∈cutsF h b w):∃ p,p∈plist b∧((∃ a,1≤a∧a < w∧r=(cutU h b w p a,[Sum.inr (wd true),Sum.inl a,Sum.inl p]))∨r=(rat (h p) w+rat (h (b - p)) w,[Sum.inr (wd false),Sum.inl (rat (h p) w),Sum.inl p])):=by
 obtain ⟨p,hp,hr⟩:=List.mem_flatMap.mp hr
 refine ⟨p,hp,?_⟩
 rcases List.mem_append.mp hr with hr | hr
 ·obtain ⟨a,ha,rfl⟩:=List.mem_map.mp hr
  obtain ⟨a1,a2⟩:=mem_upto.mp ha
  exact .inl ⟨a,a1,by omega,rfl⟩
 ·exact .inr (List.mem_singleton.mp hr)
theorem cutsF_alike {h:Int→List Int} {b w:Int} {r r':Rw4} (hr:r∈cutsF h b w) (hr':r'∈cutsF h b w):Alike r.2 r'.2:=by
 have k:∀ r:Rw4,r∈cutsF h b w→∃ x y z,r.2=[Sum.inr x,Sum.inl y,Sum.inl z]:=fun r hr=>by
  obtain ⟨p,_,⟨a,_,_,rfl⟩ | rfl⟩:=mem_cutsF hr
  ·exact ⟨_,_,_,rfl⟩
  ·exact ⟨_,_,_,rfl⟩
 obtain ⟨x,y,z,e⟩:=k r hr
 obtain ⟨x',y',z',e'⟩:=k r' hr'
 rw [e,e']
 exact .cons rfl (.cons rfl (.cons rfl .nil))
def offT (m:Int) (z:Int × Int) (w h:Int):Tr :=
 if z.1 < w then .cut true z.1 (if z.2 < h then .cut false z.2 (.whole (some m)) (.whole none) else .whole (some m)) (.whole none) else if z.2 < h then .cut false z.2 (.whole (some m)) (.whole none) else .whole (some m)
inductive Sv (ws:List Want):Tr→Int→Int→Int→Prop
 | one {b w h:Int} {t:Want} {z:Int × Int} (ha:alone b=true) (ht:ws[(nOne b).toNat]?=some t) (hz:z∈waysOf t) (hw:z.1≤w) (hh:z.2≤h):Sv ws (offT (nOne b) z w h) b w h
 | up {b p a w h:Int} {x y:Tr} (hp:p∈plist b) (a1:1≤a) (a2:a < w) (sx:Sv ws x p a h) (sy:Sv ws y (b - p) (w - a) h):Sv ws (.cut true a x y) b w h
 | lev {b p a w h:Int} {x y:Tr} (hp:p∈plist b) (a1:1≤a) (a2:a < h) (sx:Sv ws x p w a) (sy:Sv ws y (b - p) w (h - a)):Sv ws (.cut false a x y) b w h
theorem waysOf_ok {t:Want} {z:Int × Int} (ok:WOk t) (h:z∈waysOf t):1≤z.1∧1≤z.2∧((z.1=t.1∧z.2=t.2.1)∨(t.2.2=true∧z.1=t.2.1∧z.2=t.1)):=by
 obtain ⟨a,b,c,d⟩:=ok
 unfold waysOf at h
 by_cases e:t.2.2=true
 ·rw [if_pos e] at h
  simp only [List.mem_cons,List.not_mem_nil,or_false] at h
  rcases h with rfl | rfl
  ·exact ⟨a,c,.inl ⟨rfl,rfl⟩⟩
  ·exact ⟨c,a,.inr ⟨e,rfl,rfl⟩⟩
 ·rw [if_neg e] at h
  rw [List.mem_singleton.mp h]
  exact ⟨a,c,.inl ⟨rfl,rfl⟩⟩
theorem rowP_pos {ws:List Want} {h:Int→List Int} {B:Int} (ok:∀ t∈ws,WOk t) (B1:1≤B) (B2:B≤63) (rows:∀ p,1≤p→p≤B→isPart B p=true→Row ws h p):∀ (k:Nat) (p w:Int),p.toNat=k→1≤p→p≤B→isPart B p=true→1≤w→w≤12→1≤rat (h p) w:=by
 intro k
 induction k using Nat.strongRecOn with
 | ind k ih =>
  intro p w hk p1 p2 hp w1 w2
  obtain ⟨_,low⟩:=rows p p1 p2 hp
  obtain ⟨la,ln⟩:=low w w1 w2
  cases c:alone p with
  | true =>
   obtain ⟨t,ht,⟨_,e⟩ | ⟨hm,_⟩⟩:=la c
   ·omega
   ·unfold lows at hm
    obtain ⟨z,hz,e⟩:=List.mem_map.mp hm
    have:=(waysOf_ok (ok t (List.mem_of_getElem? ht)) (List.mem_filter.mp hz).1).2.1
    omega
  | false =>
   obtain ⟨m,hm,_,e⟩:=ln c
   have m1:1≤m:=by
    obtain ⟨q,hq,⟨a,a1,a2,rfl⟩ | rfl⟩:=mem_cutH hm
    ·obtain ⟨q1,q2,q3⟩:=plist_up hq
     have t:=part_trans B1 B2 p1 (by omega) hp hq
     have:=ih q.toNat (by omega) q a rfl q1 (by omega) t.1 a1 (by omega)
     have:=mx_l (rat (h q) a) (rat (h (p - q)) (w - a))
     unfold cutU
     omega
    ·obtain ⟨q1,q2,q3⟩:=plist_up hq
     have t:=part_trans B1 B2 p1 (by omega) hp hq
     have:=ih q.toNat (by omega) q w rfl q1 (by omega) t.1 w1 w2
     have:=ih (p - q).toNat (by omega) (p - q) w rfl q3 (by omega) t.2 w1 w2
     omega
   rw [e]
   split <;> omega
def wholeV:V→Bool
 | .int _=>true
 | _=>false
def sideV:V→Bool
 | .int i=>decide (1≤i) && decide (i≤12)
 | _=>false
def Ty (H:Hp) (v:V):Prop:=∃ T,tyS H v=some T
theorem tyS_same {H H':Hp} (s:Same H H') {v:V} {T:String} (h:tyS H v=some T):tyS H' v=some T:=by
 cases v with
 | ref a =>
  have h:tyO (H a)=some T:=h
  show tyO (H' a)=some T
  cases e:H a with
  | none=>rw [e] at h; cases h
  | some o=>rw [e] at h; rw [s a o e]; exact h
 | _=>exact h
theorem Ty.same {H H':Hp} (s:Same H H') {v:V} (h:Ty H v):Ty H' v:=let ⟨T,e⟩:=h; ⟨T,tyS_same s e⟩
theorem whole_eq {H:Hp} {v:V} {T:String} (h:tyS H v=some T):(isB T "int"=true→(!isB T "bool")=wholeV v)∧(isB T "int"=false→false=wholeV v):=by
 cases v with
 | non=>cases h; exact ⟨fun z=>absurd z (by decide),fun _=>rfl⟩
 | bl b=>cases h; exact ⟨fun _=>by show (!isB "bool" "bool")=false; decide,fun z=>absurd z (by decide)⟩
 | int i=>cases h; exact ⟨fun _=>by show (!isB "int" "bool")=true; decide,fun z=>absurd z (by decide)⟩
 | str x=>cases h; exact ⟨fun z=>absurd z (by decide),fun _=>rfl⟩
 | byt b=>cases h
 | flt b=>cases h
 | ty n=>cases h
 | ref a =>
  have key:T="list"∨T="tuple"∨T="dict":=by
   have h:tyO (H a)=some T:=h
   unfold tyO at h
   split at h <;> first | (cases h; simp) | cases h
  rcases key with rfl | rfl | rfl <;> exact ⟨fun z=>absurd z (by decide),fun _=>rfl⟩
theorem ty_tup {H:Hp} {a:Addr} {xs:List V} (h:H a=some (.tup xs)):tyS H (.ref a)=some "tuple":=by
 show tyO (H a)=some "tuple"
 rw [h]; rfl
theorem ty_lst {H:Hp} {a:Addr} {xs:List V} (h:H a=some (.lst xs)):tyS H (.ref a)=some "list":=by
 show tyO (H a)=some "list"
 rw [h]; rfl
theorem len1 {α:Type} {us:List α} (h:us.length=1):∃ a,us=[a]:=List.length_eq_one_iff.mp h
theorem len2 {α:Type} {us:List α} (h:us.length=2):∃ a b,us=[a,b]:=by
 cases us with
 | nil=>cases h
 | cons a r=>obtain ⟨b,rfl⟩:=len1 (Nat.succ.inj h); exact ⟨a,b,rfl⟩
theorem len3 {α:Type} {us:List α} (h:us.length=3):∃ a b c,us=[a,b,c]:=by
 cases us with
 | nil=>cases h
 | cons a r=>obtain ⟨b,c,rfl⟩:=len2 (Nat.succ.inj h); exact ⟨a,b,c,rfl⟩
theorem len4 {α:Type} {us:List α} (h:us.length=4):∃ a b c d,us=[a,b,c,d]:=by
 cases us with
 | nil=>cases h
 | cons a r=>obtain ⟨b,c,d,rfl⟩:=len3 (Nat.succ.inj h); exact ⟨a,b,c,d,rfl⟩
theorem len5 {α:Type} {us:List α} (h:us.length=5):∃ a b c d e,us=[a,b,c,d,e]:=by
 match us,h with
 | [a,b,c,d,e],_=>exact ⟨a,b,c,d,e,rfl⟩
inductive Rs
 | many (n:Int)
 | want (k:Int)
 | side (v:V)
 | number (v:V)
 | sheet (k:Int)
inductive Cl
 | M
 | A
 | I
 | N
 | D
 | S
 | P
deriving DecidableEq
def clA (cM cA cQ cN cD cS cP:Addr):Cl→Addr
 | .M=>cM
 | .A=>cA
 | .I=>cQ
 | .N=>cN
 | .D=>cD
 | .S=>cS
 | .P=>cP
def rsL:Rs→Cl
 | .many _=>.M
 | .want _=>.A
 | .side _=>.I
 | .number _=>.N
 | .sheet _=>.D
def rsN:Rs→Str
 | .many _=>"many"
 | .want _=>"place"
 | .side _=>"side"
 | .number _=>"number"
 | .sheet _=>"place"
def rsV:Rs→V
 | .many n=>.int n
 | .want k=>.int k
 | .side v=>v
 | .number v=>v
 | .sheet k=>.int k
def rsW:Rs→Str
 | .many _=>"many"
 | .want _=>"want"
 | .side _=>"side"
 | .number _=>"number"
 | .sheet _=>"sheet"
def RfR (cM cA cQ cN cD cS cP:Addr) (H:Hp) (E:XK) (r:Rs):Prop:=Rf H E (clA cM cA cQ cN cD cS cP (rsL r)) fun fs _=>fs=[(rsN r,rsV r)]
theorem rfr_u {cM cA cQ cN cD cS cP:Addr} {H H2:Hp} {E:XK} {r:Rs} (s:Same H H2) (h:RfR cM cA cQ cN cD cS cP H E r):RfR cM cA cQ cN cD cS cP H2 (XE H (RU H E)) r:=rf_u s h stb_eq
inductive Ths {α:Type} (R:Hp→V→α→Prop) (H:Hp):List V→List α→Prop
 | nil:Ths R H [] []
 | cons {v:V} {g:α} {xs:List V} {gs:List α}:R H v g→Ths R H xs gs→Ths R H (v :: xs) (g :: gs)
theorem Ths.len {α:Type} {R:Hp→V→α→Prop} {H:Hp} {xs:List V} {gs:List α} (h:Ths R H xs gs):xs.length=gs.length:=by
 induction h with
 | nil=>rfl
 | cons _ _ ih=>rw [List.length_cons,List.length_cons,ih]
theorem Ths.mono {α:Type} {R R':Hp→V→α→Prop} {H H':Hp} (m:∀ v g,R H v g→R' H' v g) {xs:List V} {gs:List α} (h:Ths R H xs gs):Ths R' H' xs gs:=by
 induction h with
 | nil=>exact .nil
 | cons a _ ih=>exact .cons (m _ _ a) ih
theorem Ths.get {α:Type} {R:Hp→V→α→Prop} {H:Hp} {xs:List V} {gs:List α} (h:Ths R H xs gs):∀ {i:Nat} {v:V},xs[i]?=some v→∃ g,gs[i]?=some g∧R H v g:=by
 induction h with
 | nil=>intro i v e; cases e
 | @cons v g xs gs a _ ih =>
  intro i u e
  cases i with
  | zero=>cases e; exact ⟨g,rfl,a⟩
  | succ i=>exact ih e
def wantB:List V→Bool
 | [a,b,.bl _]=>sideV a && sideV b
 | _=>false
def sheetB:List V→Bool
 | [a,b]=>sideV a && sideV b
 | _=>false
def Bad (B:List V→Bool) (H:Hp) (v:V):Prop:=(∃ a xs,v=.ref a∧H a=some (.tup xs)∧xs.length≤100∧(∀ x∈xs,Ty H x)∧B xs=false)∨∃ T,tyS H v=some T∧T≠"tuple"
theorem Bad.same {B:List V→Bool} {H H':Hp} {v:V} (s:Same H H') (h:Bad B H v):Bad B H' v:=by
 rcases h with ⟨a,xs,e,h1,hz,h2,h3⟩ | ⟨T,h1,h2⟩
 ·exact .inl ⟨a,xs,e,s _ _ h1,hz,fun x hx=>(h2 x hx).same s,h3⟩
 ·exact .inr ⟨T,tyS_same s h1,h2⟩
def WTh (H:Hp) (v:V):Option Want→Prop
 | some t=>∃ b,v=.ref b∧H b=some (.tup [.int t.1,.int t.2.1,.bl t.2.2])∧WOk t
 | none=>Bad wantB H v
def STh (H:Hp) (v:V):Option (Int × Int)→Prop
 | some z=>∃ b,v=.ref b∧H b=some (.tup [.int z.1,.int z.2])∧SOk z
 | none=>Bad sheetB H v
theorem WTh.same {H H':Hp} (s:Same H H') {v:V}:∀ {g:Option Want},WTh H v g→WTh H' v g
 | some t,⟨b,e,h,k⟩=>⟨b,e,s _ _ h,k⟩
 | none,h=>Bad.same s h
theorem STh.same {H H':Hp} (s:Same H H') {v:V}:∀ {g:Option (Int × Int)},STh H v g→STh H' v g
 | some t,⟨b,e,h,k⟩=>⟨b,e,s _ _ h,k⟩
 | none,h=>Bad.same s h
theorem side_of {x:Int} (h1:1≤x) (h2:x≤12):sideV (.int x)=true:=by
 show (decide (1≤x) && decide (x≤12))=true
 rw [decide_eq_true h1,decide_eq_true h2]; rfl
theorem WTh.two {H:Hp} {v:V}:∀ {g:Option Want},WTh H v g→(∃ a xs,v=.ref a∧H a=some (.tup xs)∧xs.length≤100∧(∀ x∈xs,Ty H x)∧wantB xs=g.isSome)∨∃ T,tyS H v=some T∧T≠"tuple"∧false=g.isSome
 | some t,⟨b,e,h,k⟩=>.inl ⟨b,_,e,h,by simp,fun x hx=>by
   simp only [List.mem_cons,List.not_mem_nil,or_false] at hx
   rcases hx with rfl | rfl | rfl <;> exact ⟨_,rfl⟩,by
   obtain ⟨a,b,c,d⟩:=k
   show (sideV (.int t.1) && sideV (.int t.2.1))=true
   rw [side_of a b,side_of c d]; rfl⟩
 | none,.inl ⟨a,xs,e,h,hz,ht,hb⟩=>.inl ⟨a,xs,e,h,hz,ht,hb⟩
 | none,.inr ⟨T,h,n⟩=>.inr ⟨T,h,n,rfl⟩
theorem STh.two {H:Hp} {v:V}:∀ {g:Option (Int × Int)},STh H v g→(∃ a xs,v=.ref a∧H a=some (.tup xs)∧xs.length≤100∧(∀ x∈xs,Ty H x)∧sheetB xs=g.isSome)∨∃ T,tyS H v=some T∧T≠"tuple"∧false=g.isSome
 | some t,⟨b,e,h,k⟩=>.inl ⟨b,_,e,h,by simp,fun x hx=>by
   simp only [List.mem_cons,List.not_mem_nil,or_false] at hx
   rcases hx with rfl | rfl <;> exact ⟨_,rfl⟩,by
   obtain ⟨a,b,c,d⟩:=k
   show (sideV (.int t.1) && sideV (.int t.2))=true
   rw [side_of a b,side_of c d]; rfl⟩
 | none,.inl ⟨a,xs,e,h,hz,ht,hb⟩=>.inl ⟨a,xs,e,h,hz,ht,hb⟩
 | none,.inr ⟨T,h,n⟩=>.inr ⟨T,h,n,rfl⟩
theorem goods {α:Type}:∀ gs:List (Option α),gs.findIdx? (·.isNone)=none→∃ ws:List α,gs=ws.map some
 | [],_=>⟨[],rfl⟩
 | none :: gs,h=>by rw [List.findIdx?_cons] at h; cases h
 | some t :: gs,h=>by
  rw [List.findIdx?_cons] at h
  obtain ⟨ws,rfl⟩:=goods gs (by simpa using h)
  exact ⟨t :: ws,rfl⟩
theorem wants_of {H:Hp} {xs:List V} {ws:List Want} (h:Ths WTh H xs (ws.map some)):∃ ts:List (Addr × Want),xs=refs ts∧(∀ t∈ts,H t.1=some (.tup [.int t.2.1,.int t.2.2.1,.bl t.2.2.2]))∧ts.map (·.2)=ws∧∀ t∈ws,WOk t:=by
 generalize hg:ws.map some=gs at h
 induction h generalizing ws with
 | nil =>
  cases ws with
  | nil=>exact ⟨[],rfl,(fun t ht=>nomatch ht),rfl,fun t ht=>nomatch ht⟩
  | cons w ws=>cases hg
 | @cons v g xs gs a h ih =>
  cases ws with
  | nil=>cases hg
  | cons w ws =>
   rw [List.map_cons] at hg
   obtain ⟨e1,e2⟩:=List.cons.inj hg
   subst e1
   obtain ⟨ts,e,p,q,r⟩:=ih e2
   obtain ⟨b,rfl,hb,wo⟩:=a
   refine ⟨(b,w) :: ts,by rw [e]; rfl,fun t ht=>?_,by rw [List.map_cons,q],fun t ht=>?_⟩
   ·rcases List.mem_cons.mp ht with rfl | ht
    ·exact hb
    ·exact p t ht
   ·rcases List.mem_cons.mp ht with rfl | ht
    ·exact wo
    ·exact r t ht
theorem sheets_of {H:Hp} {xs:List V} {ss:List (Int × Int)} (h:Ths STh H xs (ss.map some)):∃ ts:List (Addr × Int × Int),xs=refs ts∧(∀ t∈ts,H t.1=some (.tup [.int t.2.1,.int t.2.2]))∧ts.map (·.2)=ss∧∀ t∈ss,SOk t:=by
 generalize hg:ss.map some=gs at h
 induction h generalizing ss with
 | nil =>
  cases ss with
  | nil=>exact ⟨[],rfl,(fun t ht=>nomatch ht),rfl,fun t ht=>nomatch ht⟩
  | cons w ws=>cases hg
 | @cons v g xs gs a h ih =>
  cases ss with
  | nil=>cases hg
  | cons w ws =>
   rw [List.map_cons] at hg
   obtain ⟨e1,e2⟩:=List.cons.inj hg
   subst e1
   obtain ⟨ts,e,p,q,r⟩:=ih e2
   obtain ⟨b,rfl,hb,wo⟩:=a
   refine ⟨(b,w) :: ts,by rw [e]; rfl,fun t ht=>?_,by rw [List.map_cons,q],fun t ht=>?_⟩
   ·rcases List.mem_cons.mp ht with rfl | ht
    ·exact hb
    ·exact p t ht
   ·rcases List.mem_cons.mp ht with rfl | ht
    ·exact wo
    ·exact r t ht
def fst0 {α:Type} (gs:List (Option α)):Option Nat:=gs.findIdx? (·.isNone)
theorem fst0_some {α:Type} {gs:List (Option α)} {i:Nat} (h:gs[i]?=some none) (hl:∀ j,j < i→∃ t,gs[j]?=some (some t)):fst0 gs=some i:=by
 unfold fst0
 obtain ⟨hi,e⟩:=List.getElem?_eq_some_iff.mp h
 refine List.findIdx?_eq_some_iff_getElem.mpr ⟨hi,by rw [e]; rfl,fun j hj=>?_⟩
 obtain ⟨t,ht⟩:=hl j hj
 obtain ⟨hj',e'⟩:=List.getElem?_eq_some_iff.mp ht
 rw [e']; exact Bool.false_ne_true
theorem fst0_none {α:Type} {gs:List (Option α)} (hl:∀ j,j < gs.length→∃ t,gs[j]?=some (some t)):fst0 gs=none:=by
 unfold fst0
 refine List.findIdx?_eq_none_iff.mpr fun x hx=>?_
 obtain ⟨j,hj,rfl⟩:=List.getElem_of_mem hx
 obtain ⟨t,ht⟩:=hl j hj
 obtain ⟨hj',e'⟩:=List.getElem?_eq_some_iff.mp ht
 rw [e']; rfl
def dueW (gs:List (Option Want)):Option Rs:=if 6 < gs.length then some (.many gs.length) else (fst0 gs).map fun k:Nat=>Rs.want (k:Int)
def dueS (hs:List (Option (Int × Int))):Option Rs:=if hs.length < 1∨4 < hs.length then some (.many hs.length) else (fst0 hs).map fun k:Nat=>Rs.sheet (k:Int)
def dueP (gs:List (Option Want)) (hs:List (Option (Int × Int))):Option Rs:=(dueW gs).or (dueS hs)
def dueD (a b:V):Option Rs:=if sideV a then (if sideV b then none else some (.side b)) else some (.side a)
def numB (n:Nat):V→Bool
 | .int b=>decide (1≤b) && decide (b≤((2^n - 1:Nat):Int))
 | _=>false
def dueN (n:Nat) (b:V):Option Rs:=if numB n b then none else some (.number b)
def dueT (gs:List (Option Want)) (b v1 v2:V):Option Rs:=(dueW gs).or ((dueD v1 v2).or (dueN gs.length b))
theorem dueW_ok {gs:List (Option Want)} (h:dueW gs=none):∃ ws:List Want,gs=ws.map some∧ws.length≤6:=by
 unfold dueW at h
 by_cases c:6 < gs.length
 ·rw [if_pos c] at h; cases h
 ·rw [if_neg c] at h
  obtain ⟨ws,e⟩:=goods gs (Option.map_eq_none_iff.mp h)
  refine ⟨ws,e,?_⟩
  rw [e,List.length_map] at c; omega
theorem dueS_ok {gs:List (Option (Int × Int))} (h:dueS gs=none):∃ ss:List (Int × Int),gs=ss.map some∧1≤ss.length∧ss.length≤4:=by
 unfold dueS at h
 by_cases c:gs.length < 1∨4 < gs.length
 ·rw [if_pos c] at h; cases h
 ·rw [if_neg c] at h
  obtain ⟨ws,e⟩:=goods gs (Option.map_eq_none_iff.mp h)
  rw [e,List.length_map] at c
  exact ⟨ws,e,by omega,by omega⟩
theorem dueD_ok {a b:V} (h:dueD a b=none):∃ x y:Int,a=.int x∧b=.int y∧(1≤x∧x≤12)∧(1≤y∧y≤12):=by
 have g:∀ {v:V},sideV v=true→∃ x:Int,v=.int x∧1≤x∧x≤12:=fun {v} h=>by
  cases v with
  | int x =>
   have h:(decide (1≤x) && decide (x≤12))=true:=h
   simp only [Bool.and_eq_true,decide_eq_true_eq] at h
   exact ⟨x,rfl,h⟩
  | _=>cases h
 unfold dueD at h
 cases c1:sideV a with
 | false=>rw [c1] at h; cases h
 | true =>
  cases c2:sideV b with
  | false=>rw [c1,c2] at h; cases h
  | true =>
   obtain ⟨x,e1,k1⟩:=g c1
   obtain ⟨y,e2,k2⟩:=g c2
   exact ⟨x,y,e1,e2,k1,k2⟩
def sp_whole:Sp:=fun vs H Q _=>∃ v,vs=[v]∧Ty H v∧Q (.bl (wholeV v)) H
def sp_side:Sp:=fun vs H Q _=>∃ v,vs=[v]∧Ty H v∧Q (.bl (sideV v)) H
def sp_want:Sp:=fun vs H Q _=>∃ v g,vs=[v]∧WTh H v g∧Q (.bl g.isSome) H
def sp_sheet:Sp:=fun vs H Q _=>∃ v g,vs=[v]∧STh H v g∧Q (.bl g.isSome) H
def sp_check1 (cM cA cQ cN cD cS cP:Addr):Sp:=fun vs H Q E=>∃ (a:Addr) (xs:List V) (gs:List (Option Want)),vs=[.ref a]∧H a=some (.lst xs)∧Ths WTh H xs gs∧gs.length≤100∧(∀ r,dueW gs=some r→RfR cM cA cQ cN cD cS cP H E r)∧(dueW gs=none→∀ H',Same H H'→Q .non H')
def sp_csheets1 (cM cA cQ cN cD cS cP:Addr):Sp:=fun vs H Q E=>∃ (a:Addr) (xs:List V) (hs:List (Option (Int × Int))),vs=[.ref a]∧H a=some (.lst xs)∧Ths STh H xs hs∧hs.length≤100∧(∀ r,dueS hs=some r→RfR cM cA cQ cN cD cS cP H E r)∧(dueS hs=none→∀ H',Same H H'→Q .non H')
def sp_sides1 (cM cA cQ cN cD cS cP:Addr):Sp:=fun vs H Q E=>∃ a b:V,vs=[a,b]∧Ty H a∧Ty H b∧(∀ r,dueD a b=some r→RfR cM cA cQ cN cD cS cP H E r)∧(dueD a b=none→∀ H',Same H H'→Q .non H')
def sp_stairs1 (cM cA cQ cN cD cS cP:Addr):Sp:=fun vs H Q E=>∃ (a:Addr) (xs:List V) (gs:List (Option Want)),vs=[.ref a]∧H a=some (.lst xs)∧Ths WTh H xs gs∧gs.length≤100∧(∀ r,dueW gs=some r→RfR cM cA cQ cN cD cS cP H E r)∧(dueW gs=none→∀ v H',Same H H'→Q v H')
def sp_hfor1 (cM cA cQ cN cD cS cP:Addr):Sp:=fun vs H Q E=>∃ (a b:Addr) (xs ys:List V) (gs:List (Option Want)) (hs:List (Option (Int × Int))),vs=[.ref a,.ref b]∧H a=some (.lst xs)∧Ths WTh H xs gs∧gs.length≤100∧H b=some (.lst ys)∧Ths STh H ys hs∧hs.length≤100∧(∀ r,dueP gs hs=some r→RfR cM cA cQ cN cD cS cP H E r) ∧
 ∀ (ws:List Want) (ss:List (Int × Int)),gs=ws.map some→ws.length≤6→hs=ss.map some→1≤ss.length→ss.length≤4→∀ d ad h H',Same H H'→H d=none→Tab H' d (2^ws.length - 1) ad h→(∀ p:Int,1≤p→p≤((2^ws.length - 1:Nat):Int)→Row ws h p)→Q (.ref d) H'
def sp_lg1 (cM cA cQ cN cD cS cP:Addr):Sp:=fun vs H Q E=>∃ (a b:Addr) (xs ys:List V) (gs:List (Option Want)) (hs:List (Option (Int × Int))),vs=[.ref a,.ref b]∧H a=some (.lst xs)∧Ths WTh H xs gs∧gs.length≤100∧H b=some (.lst ys)∧Ths STh H ys hs∧hs.length≤100∧(∀ r,dueP gs hs=some r→RfR cM cA cQ cN cD cS cP H E r)∧(dueP gs hs=none→∀ v H',Same H H'→Q v H')
def sp_plan1 (cM cA cQ cN cD cS cP:Addr):Sp:=fun vs H Q E=>∃ (a b:Addr) (xs ys:List V) (gs:List (Option Want)) (hs:List (Option (Int × Int))),vs=[.ref a,.ref b]∧H a=some (.lst xs)∧Ths WTh H xs gs∧gs.length≤100∧H b=some (.lst ys)∧Ths STh H ys hs∧hs.length≤100∧(∀ r,dueP gs hs=some r→RfR cM cA cQ cN cD cS cP H E r)∧(dueP gs hs=none→(∀ v H',Same H H'→Q v H')∧Rf H E cP fun _ _=>True)
def sp_stree1 (cM cA cQ cN cD cS cP:Addr):Sp:=fun vs H Q E=>∃ (a:Addr) (xs:List V) (gs:List (Option Want)) (b v1 v2:V),vs=[.ref a,b,v1,v2]∧H a=some (.lst xs)∧Ths WTh H xs gs∧gs.length≤100∧Ty H b∧Ty H v1∧Ty H v2∧(∀ r,dueT gs b v1 v2=some r→RfR cM cA cQ cN cD cS cP H E r)∧(dueT gs b v1 v2=none→(∀ v H',Same H H'→Q v H')∧Rf H E cS fun _ _=>True)
theorem due_good {ws:List Want} {ss:List (Int × Int)} (few:ws.length≤6) (l1:1≤ss.length) (l2:ss.length≤4):dueP (ws.map some) (ss.map some)=none:=by
 have a:dueW (ws.map some)=none:=by
  unfold dueW
  rw [if_neg (by rw [List.length_map]; omega),fst0_none (fun j hj=>⟨_,by rw [List.getElem?_map,List.getElem?_eq_getElem (by rwa [List.length_map] at hj)]; rfl⟩)]; rfl
 have c:dueS (ss.map some)=none:=by
  unfold dueS
  rw [if_neg (by rw [List.length_map]; omega),fst0_none (fun j hj=>⟨_,by rw [List.getElem?_map,List.getElem?_eq_getElem (by rwa [List.length_map] at hj)]; rfl⟩)]; rfl
 unfold dueP
 rw [a,c]; rfl
theorem RfR.raise {cM cA cQ cN cD cS cP:Addr} {H H1 H2:Hp} {E:XK} {r:Rs} {y dx T:Addr} {fs:List (Str × V)} (h:RfR cM cA cQ cN cD cS cP H E r) (s1:Same H H1) (hy:H1 y=none) (s:Same H1 H2) (e:H2 y=some (ExcO (clA cM cA cQ cN cD cS cP (rsL r)) dx y)) (ed:H2 dx=some (ExcD dx fs)) (nd:dx≠y) (hT:H2 T=none) (p:fs=[(rsN r,rsV r)]):E (.ref y) (some dx) (thrown H2 y (clA cM cA cQ cN cD cS cP (rsL r)) (some dx) T):=Rf.raise h s1 hy s e ed nd hT p
def sp_ways:Sp:=fun vs H Q _=>∃ (a:Addr) (t:Want),vs=[.ref a]∧H a=some (.tup [.int t.1,.int t.2.1,.bl t.2.2])∧∀ l H',Same H H'→H l=none→TupL H' l (waysOf t)→Q (.ref l) H'
def sp_alone:Sp:=fun vs H Q _=>∃ b:Int,vs=[.int b]∧Q (.bl (alone b)) H
def sp_number:Sp:=fun vs H Q _=>∃ b:Int,vs=[.int b]∧Q (.int (((Builtin.Int.intBits b:Nat):Int) - 1)) H
def sp_parts:Sp:=fun vs H Q _=>∃ b:Int,vs=[.int b]∧0≤b∧b≤63∧∀ l H',Same H H'→H l=none→H' l=some (.lst ((partsOf b).map V.int))→Q (.ref l) H'
def sp_least:Sp:=fun vs H Q _=>∃ b:Int,vs=[.int b]∧0≤b∧b≤63∧∀ l H',Same H H'→H l=none→H' l=some (.lst ((plist b).map V.int))→Q (.ref l) H'
def sp_stair:Sp:=fun vs H Q _=>∃ (l:Addr) (r:List Int),vs=[.ref l]∧H l=some (.lst (r.map V.int))∧r.length=13∧∀ l' H',Same H H'→H l'=none→TupL H' l' (stairOf r)→Q (.ref l') H'
def sp_bits:Sp:=fun vs H Q _=>∃ (a:Addr) (xs:List V),vs=[.ref a]∧H a=some (.lst xs)∧xs.length≤6∧Q (.int (1 * 2^((xs.length:Nat):Int).toNat - 1)) H
def sp_at (K:PySem.W.Frag):Sp:=fun vs H Q _=>∃ (a:Addr) (ns:List Int) (k:Int),vs=[.ref a,.int k]∧SqL K H a (ns.map V.int)∧0≤k∧k < 1000∧∀ z H',Same H H'→Q (.int z) H'
def sp_knead:Sp:=fun vs H Q _=>∃ (n b:Int),vs=[.int n,.int b]∧0≤b∧b≤100∧∀ r,0≤r→Q (.int r) H
def sp_cheap:Sp:=fun vs H Q _=>∃ (d b:Addr) (ss:List (Int × Int)) (n:Nat) (ad:Int→Addr) (h:Int→List Int),vs=[.ref d,.ref b]∧Tab H d n ad h∧n≤63∧TupL H b ss∧ss.length≤4∧(∀ z∈ss,SOk z) ∧
 ∀ c H',SameX d H H'→Rd H' d (.dK (kvN ad n))→H c=none→ChpS H' c n h ss→Q (.ref c) H'
def sp_first:Sp:=fun vs H Q _=>∃ (c g:Addr) (n i n0:Nat) (co G:Int→Option Int),vs=[.ref c,.ref g,.int (1+(i:Int))]∧Chp H c n co∧n≤63∧i < n∧i≤n0∧H g=some (.dK (gkv G n0)) ∧
 ∀ l H',Same H H'→H l=none→TupL H' l (waysL co G (1+(i:Int)))→Q (.ref l) H'
def sp_glass:Sp:=fun vs H Q _=>∃ (c:Addr) (k:Nat) (co:Int→Option Int),vs=[.ref c,.int (1 * 2^((k:Nat):Int).toNat - 1)]∧k≤6∧Chp H c (2^k - 1) co ∧
 ∀ g G H',Same H H'→H g=none→H' g=some (.dK (gkv G (2^k - 1)))→GlassP co G (2^k - 1)→Q (.ref g) H'
structure Txt (mg:Str→Option Value) (t1 t2 t3 t4 t5 t6:Tok):Prop where
 z_isinstance:mg "isinstance"=none
 z_int:mg "int"=none
 z_bool:mg "bool"=none
 z_tuple:mg "tuple"=none
 z_len:mg "len"=none
 z_enumerate:mg "enumerate"=none
 z_range:mg "range"=none
 z_max:mg "max"=none
 z_min:mg "min"=none
 z_any:mg "any"=none
 z_list:mg "list"=none
 z_abs:mg "abs"=none
 g_LONGEST_SIDE:mg "LONGEST_SIDE"=some (.int 12 t1)
 g_MOST_WANTS:mg "MOST_WANTS"=some (.int 6 t2)
 g_TOO_HIGH:mg "TOO_HIGH"=some (.int 13 t3)
 g_UPRIGHT:mg "UPRIGHT"=some (.str "upright" t4)
 g_LEVEL:mg "LEVEL"=some (.str "level" t5)
 g_MOST_SHEETS:mg "MOST_SHEETS"=some (.int 4 t6)
theorem at3_0 {x0 x1 x2:V}:atI [x0,x1,x2] 0=some x0:=rfl
theorem at3_1 {x0 x1 x2:V}:atI [x0,x1,x2] 1=some x1:=rfl
theorem at3_2 {x0 x1 x2:V}:atI [x0,x1,x2] 2=some x2:=rfl
theorem at2_0 {x0 x1:V}:atI [x0,x1] 0=some x0:=rfl
theorem at2_1 {x0 x1:V}:atI [x0,x1] 1=some x1:=rfl
theorem pow18:CPow 10 18:=⟨by decide,by decide,by decide⟩
theorem divL {j:Int} (z:Int) (h:0 < j) (h2:j < 18446744073709551616):CDivL z j:=⟨h,Nat.lt_trans (log2_lt_of (k:=64) (by decide) (by omega)) (by decide)⟩
theorem mul64 {a b:Int} (h1:-18446744073709551616 < a) (h2:a < 18446744073709551616) (h3:-18446744073709551616 < b) (h4:b < 18446744073709551616):IntMulOk a b:=by
 have c:(2:Nat)^128=340282366920938463463374607431768211456:=by decide +kernel
 refine mulOk_of ?_ ?_ <;> rw [c] <;> omega
theorem atI_in {L:List V} {i:Int} (h0:0≤i) (h1:i < L.length):∃ v,atI L i=some v∧v∈L:=by
 have h:i.toNat < L.length:=by omega
 have e:=atI_nat (List.getElem?_eq_getElem h)
 rw [Int.toNat_of_nonneg h0] at e
 exact ⟨_,e,List.getElem_mem h⟩
theorem at_ints {ns:List Int} {k:Int} (h0:0≤k) (h1:k < (ns.length:Int)):∃ z,atI (ns.map V.int) k=some (.int z):=⟨_,at_rat h0 h1⟩
section
variable {P:Program} {w:World} {K:PySem.W.Frag} {mg:Str→Option Value} {base:Heap} {t1 t2 t3 t4 t5 t6:Tok} {cT cW cU cL cG cS cN cD cA cM cP cQ:Addr}
def cutC (cU cL:Addr) (u:Bool):Addr:=if u then cU else cL
abbrev wF (m:V):List (Str × V):=putF "mark" m []
abbrev cF (k:Int) (vx vy:V):List (Str × V):=putF "other" vy (putF "first" vx (putF "at" (.int k) []))
def Obj (cW cU cL:Addr) (H:Hp):Tr→V→Prop
 | .whole m,v=>∃ a dx,v=.ref a∧H a=some (.ins cW dx (wF (markV m)))
 | .cut u k x y,v=>∃ a dx vx vy,v=.ref a∧H a=some (.ins (cutC cU cL u) dx (cF k vx vy))∧Obj cW cU cL H x vx∧Obj cW cU cL H y vy
theorem Obj.same {H H':Hp} (s:Same H H'):∀ {t:Tr} {v:V},Obj cW cU cL H t v→Obj cW cU cL H' t v
 | .whole m,v,h=>by
  rw [Obj] at h ⊢
  obtain ⟨a,dx,e,h⟩:=h
  exact ⟨a,dx,e,s _ _ h⟩
 | .cut u k x y,v,h=>by
  rw [Obj] at h ⊢
  obtain ⟨a,dx,vx,vy,e,h,h1,h2⟩:=h
  exact ⟨a,dx,vx,vy,e,s _ _ h,Obj.same s h1,Obj.same s h2⟩
structure RT (mg:Str→Option Value) (K:PySem.W.Frag) (cT cW cU cL:Addr):Prop where
 g_Tree:mg "Tree"=some (.ref cT)
 g_Whole:mg "Whole"=some (.ref cW)
 g_Upright:mg "Upright"=some (.ref cU)
 g_Level:mg "Level"=some (.ref cL)
 iW:ICls K cW
 iC:∀ u,ICls K (cutC cU cL u)
 n_mark:NoAttr K cW "mark"
 n_at:∀ u,NoAttr K (cutC cU cL u) "at"
 n_first:∀ u,NoAttr K (cutC cU cL u) "first"
 n_other:∀ u,NoAttr K (cutC cU cL u) "other"
 kWW:PySem.W.kitOne K (.ref cW) (.ref cW)=some true
 kWC:∀ u,PySem.W.kitOne K (.ref cW) (.ref (cutC cU cL u))=some false
 kCW:∀ u,PySem.W.kitOne K (.ref (cutC cU cL u)) (.ref cW)=some false
 kCC:∀ u v,PySem.W.kitOne K (.ref (cutC cU cL u)) (.ref (cutC cU cL v))=some (u == v)
 kWT:PySem.W.kitOne K (.ref cW) (.ref cT)=some true
 kCT:∀ u,PySem.W.kitOne K (.ref (cutC cU cL u)) (.ref cT)=some true
def sp_iW (C:Addr):Sp:=fun vs H Q _=>∃ (a dx:Addr) (m:V),vs=[.ref a,m]∧H a=some (.ins C dx [])∧Q .non (upd H a (.ins C dx (wF m)))
def sp_iC (C:Addr):Sp:=fun vs H Q _=>∃ (a dx:Addr) (k:Int) (vx vy:V),vs=[.ref a,.int k,vx,vy]∧H a=some (.ins C dx [])∧∀ H',SameX a H H'→H' a=some (.ins C dx (cF k vx vy))→Q .non H'
theorem S_Whole_init:FnScope ["self","mark"] ["self","mark"] (defScope s_Whole_init):=⟨rfl,rfl,rfl,by decide +kernel,rfl,by decide +kernel,by decide +kernel⟩
theorem ok_Whole_init {f:Addr} {fd:FuncData} (F:FunD K "__init__" "Whole.__init__" s_Whole_init f fd) (R:RT mg K cT cW cU cL):FnOk P w K mg base CX0 1 f fd ["self","mark"] (sp_iW cW):=by
 have S:=S_Whole_init
 refine F.ok S (fun vs H Q E h=>?_) (fun cdv A outer s H vs Q E hr h=>?_)
 ·obtain ⟨a,dx,m,rfl,_⟩:=h; rfl
 ·obtain ⟨a,dx,m,rfl,ha,q⟩:=h
  refine ⟨_,(pss_one (ps_fld (pv 0) (pv 1) rfl)),?_⟩
  exact ⟨_,rfl,_,rfl,a,cW,dx,_,rfl,ha,R.iW.cl,R.n_mark,(by show 0 < 1000; decide),q⟩
theorem S_Upright_init:FnScope ["self","at","first","other"] ["self","at","first","other"] (defScope s_Upright_init):=⟨rfl,rfl,rfl,by decide +kernel,rfl,by decide +kernel,by decide +kernel⟩
theorem ok_Upright_init {f:Addr} {fd:FuncData} (F:Fun K "__init__" "Upright.__init__" s_Upright_init f fd) (R:RT mg K cT cW cU cL):FnOk P w K mg base CX0 1 f fd ["self","at","first","other"] (sp_iC cU):=by
 have S:=S_Upright_init
 refine F.ok S (fun vs H Q E h=>?_) (fun cdv A outer s H vs Q E hr h=>?_)
 ·obtain ⟨a,dx,k,vx,vy,rfl,_⟩:=h; rfl
 ·obtain ⟨a,dx,k,vx,vy,rfl,ha,q⟩:=h
  refine ⟨_,(pss_cons (ps_fld (pv 0) (pv 1) rfl)
   (pss_cons (ps_fld (pv 0) (pv 2) rfl)
   (pss_one (ps_fld (pv 0) (pv 3) rfl)))),?_⟩
  refine ⟨_,rfl,_,rfl,a,cU,dx,_,rfl,ha,(R.iC true).cl,R.n_at true,(by show 0 < 1000; decide),?_⟩
  refine ⟨_,rfl,_,rfl,a,cU,dx,_,rfl,upd_same,(R.iC true).cl,R.n_first true,(by show 1 < 1000; decide),?_⟩
  refine ⟨_,rfl,_,rfl,a,cU,dx,_,rfl,upd_same,(R.iC true).cl,R.n_other true,(by show 2 < 1000; decide),?_⟩
  exact q _ ((SameX.upd.trans SameX.upd).trans SameX.upd) upd_same
theorem S_Level_init:FnScope ["self","at","first","other"] ["self","at","first","other"] (defScope s_Level_init):=⟨rfl,rfl,rfl,by decide +kernel,rfl,by decide +kernel,by decide +kernel⟩
theorem ok_Level_init {f:Addr} {fd:FuncData} (F:Fun K "__init__" "Level.__init__" s_Level_init f fd) (R:RT mg K cT cW cU cL):FnOk P w K mg base CX0 1 f fd ["self","at","first","other"] (sp_iC cL):=by
 have S:=S_Level_init
 refine F.ok S (fun vs H Q E h=>?_) (fun cdv A outer s H vs Q E hr h=>?_)
 ·obtain ⟨a,dx,k,vx,vy,rfl,_⟩:=h; rfl
 ·obtain ⟨a,dx,k,vx,vy,rfl,ha,q⟩:=h
  refine ⟨_,(pss_cons (ps_fld (pv 0) (pv 1) rfl)
   (pss_cons (ps_fld (pv 0) (pv 2) rfl)
   (pss_one (ps_fld (pv 0) (pv 3) rfl)))),?_⟩
  refine ⟨_,rfl,_,rfl,a,cL,dx,_,rfl,ha,(R.iC false).cl,R.n_at false,(by show 0 < 1000; decide),?_⟩
  refine ⟨_,rfl,_,rfl,a,cL,dx,_,rfl,upd_same,(R.iC false).cl,R.n_first false,(by show 1 < 1000; decide),?_⟩
  refine ⟨_,rfl,_,rfl,a,cL,dx,_,rfl,upd_same,(R.iC false).cl,R.n_other false,(by show 2 < 1000; decide),?_⟩
  exact q _ ((SameX.upd.trans SameX.upd).trans SameX.upd) upd_same
theorem made_same {H:Hp} {x dx:Addr} {o1 o2:HO} (hx:H x=none) (hd:H dx=none):Same H (upd (upd H dx o1) x o2):=fun b o e=>by
 rw [upd_ne (ne_of_none e hx),upd_ne (ne_of_none e hd)]; exact e
theorem fW (m:V):(wF m).lookup ("mark":Str)=some m:=by rw [lookup_putF,if_pos rfl]
structure TabG (H:Hp) (d:Addr) (ok:Int→Prop) (ad:Int→Addr) (h:Int→List Int):Prop where
 dic:∃ kvs,Rd H d (.dK kvs)∧∀ p,ok p→valV kvs (Sum.inl p)=some (.ref (ad p))
 row:∀ p,ok p→H (ad p)=some (.lst ((h p).map V.int))∧(h p).length=13
theorem TabG.same {H H':Hp} {d:Addr} {ok:Int→Prop} {ad:Int→Addr} {h:Int→List Int} (t:TabG H d ok ad h) (s:Same H H'):TabG H' d ok ad h:=by
 obtain ⟨⟨kvs,e,v⟩,r⟩:=t
 exact ⟨⟨kvs,(by rcases e with e | ⟨ob,e⟩; exact .inl (s _ _ e); exact .inr ⟨ob,s _ _ e⟩),v⟩,fun p hp=>⟨s _ _ (r p hp).1,(r p hp).2⟩⟩
theorem TabG.get {H:Hp} {d:Addr} {ok:Int→Prop} {ad:Int→Addr} {h:Int→List Int} (t:TabG H d ok ad h) {p:Int} (hp:ok p):DGet H d (.int p) (some (.ref (ad p))):=by
 obtain ⟨⟨kvs,e,v⟩,r⟩:=t
 exact .inl ⟨kvs,Sum.inl p,e,rfl,(v p hp).symm⟩
def kvL (ad:Int→Addr) (ks:List Int):List (Key × V):=ks.map fun p=>(Sum.inl p,V.ref (ad p))
theorem kvL_val (ad:Int→Addr):∀ (ks:List Int) (q:Int),valV (kvL ad ks) (Sum.inl q)=if q∈ks then some (.ref (ad q)) else none
 | [],q=>rfl
 | k :: ks,q=>by
  have ih:=kvL_val ad ks q
  unfold valV kvL at ih ⊢
  rw [List.map_cons,List.find?_cons]
  by_cases e:k=q
  ·subst e
   rw [decide_eq_true rfl,if_pos List.mem_cons_self]; rfl
  ·have n:¬ (Sum.inl k:Key)=Sum.inl q:=fun z=>e (Sum.inl.inj z)
   rw [decide_eq_false n]
   show Option.map _ _=_
   rw [ih]
   by_cases m:q∈ks
   ·rw [if_pos m,if_pos (List.mem_cons_of_mem _ m)]
   ·rw [if_neg m,if_neg (fun z=>by rcases List.mem_cons.mp z with z | z; exact e z.symm; exact m z)]
theorem kvL_put {ad:Int→Addr} {ks:List Int} {p:Int} {r:Addr} (h:p ∉ ks):putK (kvL ad ks) (Sum.inl p) (.ref r)=kvL (fun z=>if z=p then r else ad z) (ks++[p]):=by
 rw [putK_new _ (by rw [kvL_val,if_neg h])]
 unfold kvL
 rw [List.map_append,List.map_singleton]
 have e1:(fun z:Int=>if z=p then r else ad z) p=r:=if_pos rfl
 rw [e1]
 refine congrArg (·++[((Sum.inl p:Key),V.ref r)]) (List.map_congr_left fun q hq=>?_)
 have e2:(fun z:Int=>if z=p then r else ad z) q=ad q:=if_neg fun z=>h (by rw [← z]; exact hq)
 rw [e2]
theorem kvL_len (ad:Int→Addr) (ks:List Int):(kvL ad ks).length=ks.length:=List.length_map _
theorem kvL_upto (ad:Int→Addr) (n:Nat):kvL ad (upto n)=kvN ad n:=by
 rw [kv_eq]
 unfold kvL upto
 rw [List.map_map]; rfl
def CutsQ (H:Hp) (ts:List (Addr × Rw4)):Prop:=∀ t∈ts,H t.1=some (.tup ((rowK t.2).map kV))
def sp_cuts:Sp:=fun vs H Q _=>∃ (d:Addr) (b w:Int) (ok:Int→Prop) (ad:Int→Addr) (h:Int→List Int),vs=[.ref d,.int b,.int w]∧TabG H d ok ad h∧1≤b∧b≤63∧(∀ q∈plist b,ok q∧ok (b - q))∧1≤w∧w≤12 ∧
 ∀ l ts H',Same H H'→H l=none→H' l=some (.lst (refs ts))→CutsQ H' ts→ts.map (·.2)=cutsF h b w→ts.length≤1000→Q (.ref l) H'
def sp_low:Sp:=fun vs H Q _=>∃ (a d:Addr) (ws:List Want) (b w:Int) (ok:Int→Prop) (ad:Int→Addr) (h:Int→List Int),vs=[.ref a,.ref d,.int b,.int w]∧WantsAt H a ws∧TabG H d ok ad h∧1≤b∧b≤63∧(∀ q∈plist b,ok q∧ok (b - q)) ∧
 (alone b=true→0≤((Builtin.Int.intBits b:Nat):Int) - 1∧(((Builtin.Int.intBits b:Nat):Int) - 1).toNat < ws.length)∧(alone b=false→plist b≠[])∧1≤w∧w≤12∧∀ z H',Same H H'→Low ws h b w z→Q (.int z) H'
def sp_heights:Sp:=fun vs H Q _=>∃ (a:Addr) (ws:List Want) (b:Int),vs=[.ref a,.int b]∧WantsAt H a ws∧ws.length≤6∧0≤b∧b≤((2^ws.length - 1:Nat):Int) ∧
 ∀ d ad h H',Same H H'→H d=none→H' d=some (.dK (kvL ad (partsOf b)))→(∀ p∈partsOf b,H' (ad p)=some (.lst ((h p).map V.int))∧(h p).length=13)→(∀ p∈partsOf b,Row ws h p)→Q (.ref d) H'
def heldW (t:Want) (w h:Int):List (Int × Int):=(waysOf t).filter fun z=>decide (z.1≤w) && decide (z.2≤h)
def sp_wheld:Sp:=fun vs H Q _=>∃ (a:Addr) (t:Want) (w h:Int),vs=[.ref a,.int w,.int h]∧H a=some (.tup [.int t.1,.int t.2.1,.bl t.2.2])∧∀ l H',Same H H'→H l=none→TupL H' l (heldW t w h)→Q (.ref l) H'
def sp_off (cW cU cL:Addr):Sp:=fun vs H Q _=>∃ (m:Int) (a:Addr) (z:Int × Int) (w h:Int),vs=[.int m,.ref a,.int w,.int h]∧H a=some (.tup [.int z.1,.int z.2])∧∀ v H',Same H H'→Obj cW cU cL H' (offT m z w h) v→Q v H'
def sp_talone (cW cU cL:Addr):Sp:=fun vs H Q _=>∃ (a:Addr) (ws:List Want) (m:Int) (t:Want) (w h:Int),vs=[.ref a,.int m,.int w,.int h]∧WantsAt H a ws∧0≤m∧ws[m.toNat]?=some t∧heldW t w h≠[]∧∀ v z H',Same H H'→z∈waysOf t→z.1≤w→z.2≤h→Obj cW cU cL H' (offT m z w h) v→Q v H'
def okB (B:Int) (p:Int):Prop:=1≤p∧p≤B∧isPart B p=true
def sp_tree (cW cU cL:Addr) (n:Nat):Sp:=fun vs H Q _=>∃ (a d:Addr) (ws:List Want) (B b w hh:Int) (ad:Int→Addr) (h:Int→List Int),vs=[.ref a,.ref d,.int b,.int w,.int hh]∧WantsAt H a ws∧ws.length≤6∧(∀ t∈ws,WOk t)∧TabG H d (okB B) ad h∧1≤B∧B≤((2^ws.length - 1:Nat):Int)∧okB B b∧pc b < n ∧
 (1≤w∧w≤12)∧(1≤hh∧hh≤12)∧(∀ p,okB B p→Row ws h p)∧rat (h b) w≤hh∧∀ v t H',Same H H'→Obj cW cU cL H' t v→Sv ws t b w hh→Q v H'
theorem tree0 {cW cU cL:Addr} {vs:List V} {H:Hp} {Q:VK} {E:XK}:¬ sp_tree cW cU cL 0 vs H Q E:=by
 rintro ⟨a,d,ws,B,b,w,hh,ad,h,_,_,_,_,_,_,_,_,z,_⟩
 omega
def sp_cutfrom (cW cU cL:Addr):Sp:=fun vs H Q _=>∃ (u:Bool) (k:Int) (v1 v2:V) (y1 y2:Tr),vs=[.str (wd u),.int k,v1,v2]∧Obj cW cU cL H y1 v1∧Obj cW cU cL H y2 v2∧∀ v' H',Same H H'→Obj cW cU cL H' (.cut u k y1 y2) v'→Q v' H'
theorem S_cut_from:FnScope ["word","at","first","other"] ["word","at","first","other"] (defScope s_cut_from):=⟨rfl,rfl,rfl,by decide +kernel,rfl,by decide +kernel,by decide +kernel⟩
theorem ok_cut_from {f:Addr} {fd:FuncData} (F:Fun K "cut_from" "cut_from" s_cut_from f fd) (T:Txt mg t1 t2 t3 t4 t5 t6) (K_Upright:MkOk P w K mg base 1 "Upright" cU ["self","at","first","other"] (sp_iC cU)) (K_Level:MkOk P w K mg base 1 "Level" cL ["self","at","first","other"] (sp_iC cL)) :
  FnOk P w K mg base CX0 3 f fd ["word","at","first","other"] (sp_cutfrom cW cU cL):=by
 have S:=S_cut_from
 refine F.ok S (fun vs H Q E h=>?_) (fun cdv A outer s H vs Q E hr h=>?_)
 ·obtain ⟨u,k,v1,v2,y1,y2,rfl,_⟩:=h; rfl
 ·obtain ⟨u,k,v1,v2,y1,y2,rfl,o1,o2,q⟩:=h
  refine ⟨_,(pss_cons (ps_if (pt_cmpR op_eq (pv 0) (pe_glob (v:=.str "upright") rfl T.g_UPRIGHT ⟨_,rfl⟩) (nomark _)) (pss_one (ps_ret (pe_mk K_Upright hr (pa_cons (pv 1) (pa_cons (pv 2) (pa_cons (pv 3) pa_nil)))))) pss_nil)
   (pss_one (ps_ret (pe_mk K_Level hr (pa_cons (pv 1) (pa_cons (pv 2) (pa_cons (pv 3) pa_nil))))))),?_⟩
  cases u with
  | true =>
   refine ⟨_,rfl,rfl,_,rfl,iteP (wd_dec true true) ⟨_,rfl,_,rfl,_,rfl,fun x dx nx ndx nex=>⟨x,dx,k,v1,v2,rfl,upd_same,fun H3 s3 e3=>⟨rfl,?_⟩⟩⟩⟩
   have s4:Same H H3:=fun b o e=>s3 b o (ne_of_none e nx) (made_same nx ndx b o e)
   exact q _ _ s4 (by rw [Obj]; exact ⟨x,dx,v1,v2,rfl,e3,o1.same s4,o2.same s4⟩)
  | false =>
   refine ⟨_,rfl,rfl,_,rfl,iteN (wd_dec false true) ⟨_,rfl,_,rfl,_,rfl,fun x dx nx ndx nex=>⟨x,dx,k,v1,v2,rfl,upd_same,fun H3 s3 e3=>⟨rfl,?_⟩⟩⟩⟩
   have s4:Same H H3:=fun b o e=>s3 b o (ne_of_none e nx) (made_same nx ndx b o e)
   exact q _ _ s4 (by rw [Obj]; exact ⟨x,dx,v1,v2,rfl,e3,o1.same s4,o2.same s4⟩)
theorem S_is_whole:FnScope ["thing"] ["thing"] (defScope s_is_whole):=⟨rfl,rfl,rfl,by decide +kernel,rfl,by decide +kernel,by decide +kernel⟩
theorem isB_not {T:String} (h:T≠"tuple"):isB T "tuple"=false:=by
 unfold isB
 rw [decide_eq_false h]
 simp
theorem decN {n m:Nat}:(!decide (V.int (n:Int)=V.int (m:Int)))=true→n≠m:=fun h e=>by
 subst e
 have:decide (V.int (n:Int)=V.int (n:Int))=true:=decI.mpr rfl
 rw [this] at h; cases h
theorem decN' {n m:Nat}:(!decide (V.int (n:Int)=V.int (m:Int)))=false→n=m:=fun h=>by
 have e:decide (V.int (n:Int)=V.int (m:Int))=true:=by
  cases z:decide (V.int (n:Int)=V.int (m:Int)) with
  | true=>rfl
  | false=>rw [z] at h; cases h
 have:=decI.mp e
 omega
theorem want_no {xs:List V} (h:xs.length≠3):wantB xs=false:=by
 unfold wantB
 split
 ·exact absurd rfl h
 ·rfl
theorem sheet_no {xs:List V} (h:xs.length≠2):sheetB xs=false:=by
 unfold sheetB
 split
 ·exact absurd rfl h
 ·rfl
theorem isB_bool {H:Hp} {v:V} {T:String} (h:tyS H v=some T) (a b:V) (ha:sideV a=true) (hb:sideV b=true):isB T "bool"=wantB [a,b,v]:=by
 cases v with
 | bl c =>
  cases h
  show isB "bool" "bool"=(sideV a && sideV b)
  rw [ha,hb]; decide
 | ref x =>
  have key:T="list"∨T="tuple"∨T="dict":=by
   have h:tyO (H x)=some T:=h
   unfold tyO at h
   split at h <;> first | (cases h; simp) | cases h
  rcases key with rfl | rfl | rfl
  ·exact (by decide:isB "list" "bool"=false)
  ·exact (by decide:isB "tuple" "bool"=false)
  ·exact (by decide:isB "dict" "bool"=false)
 | non=>cases h; exact (by decide:isB "NoneType" "bool"=false)
 | int i=>cases h; exact (by decide:isB "int" "bool"=false)
 | str x=>cases h; exact (by decide:isB "str" "bool"=false)
 | byt b=>cases h
 | flt b=>cases h
 | ty n=>cases h
theorem ok_is_whole {f:Addr} {fd:FuncData} (F:Fun K "is_whole" "is_whole" s_is_whole f fd) (T:Txt mg t1 t2 t3 t4 t5 t6):FnOk P w K mg base CX0 1 f fd ["thing"] sp_whole:=by
 have S:=S_is_whole
 refine F.ok S (fun vs H Q E h=>?_) (fun cdv A outer s H vs Q E hr h=>?_)
 ·obtain ⟨v,rfl,_⟩:=h; rfl
 ·obtain ⟨v,rfl,⟨T',hT⟩,q⟩:=h
  refine ⟨_,(pss_one (ps_ret (pe_and (pe_callB call_isin rfl T.z_isinstance rfl (pa_cons (pv 0) (pa_cons (pe_bltn (v:=.ty "int") rfl T.z_int rfl rfl) pa_nil))) (pe_one (pe_not (pe_callB call_isin rfl T.z_isinstance rfl (pa_cons (pv 0) (pa_cons (pe_bltn (v:=.ty "bool") rfl T.z_bool rfl rfl) pa_nil)))))))),?_⟩
  refine ⟨v,rfl,v,T',"int",rfl,hT,.inl rfl,_,rfl,ite3 (fun h=>?_) (fun h=>?_)⟩
  ·refine ⟨v,rfl,v,T',"bool",rfl,hT,.inr (.inl rfl),_,rfl,?_⟩
   rw [(whole_eq hT).1 h]; exact q
  ·show Q (.bl false) H
   rw [(whole_eq hT).2 h]; exact q
theorem S_is_side:FnScope ["thing"] ["thing"] (defScope s_is_side):=⟨rfl,rfl,rfl,by decide +kernel,rfl,by decide +kernel,by decide +kernel⟩
theorem ok_is_side {f:Addr} {fd:FuncData} (F:Fun K "is_side" "is_side" s_is_side f fd) (T:Txt mg t1 t2 t3 t4 t5 t6) (D_is_whole:DefOk P w K mg base 1 "is_whole" ["thing"] sp_whole):FnOk P w K mg base CX0 2 f fd ["thing"] sp_side:=by
 have S:=S_is_side
 refine F.ok S (fun vs H Q E h=>?_) (fun cdv A outer s H vs Q E hr h=>?_)
 ·obtain ⟨v,rfl,_⟩:=h; rfl
 ·obtain ⟨v,rfl,hv,q⟩:=h
  refine ⟨_,(pss_one (ps_ret (pe_and (pe_fn D_is_whole hr (pa_cons (pv 0) pa_nil)) (pe_one (pe_chain op_le op_le pe_int (pv 0) (pe_glob (v:=.int 12) rfl T.g_LONGEST_SIDE ⟨_,rfl⟩)))))),?_⟩
  refine ⟨v,rfl,v,rfl,hv,_,rfl,ite3 (fun h=>?_) (fun h=>?_)⟩
  ·obtain ⟨i,rfl⟩:∃ i,v=.int i:=by cases v <;> first | exact ⟨_,rfl⟩ | cases h
   refine ⟨_,rfl,_,_,rfl,rfl,_,rfl,ite3 (fun h1=>?_) (fun h1=>?_)⟩
   ·refine ⟨_,_,rfl,rfl,?_⟩
    have e:sideV (.int i)=decide (i≤12):=by
     show (decide (1≤i) && decide (i≤12))=_
     rw [h1]; rfl
    show Q (.bl (decide (i≤12))) H
    rw [← e]; exact q
   ·have e:sideV (.int i)=false:=by
     show (decide (1≤i) && decide (i≤12))=_
     rw [h1]; rfl
    show Q (.bl false) H
    rw [← e]; exact q
  ·have e:sideV v=false:=by cases v <;> first | rfl | cases h
   show Q (.bl false) H
   rw [← e]; exact q
theorem S_is_want:FnScope ["thing"] ["thing"] (defScope s_is_want):=⟨rfl,rfl,rfl,by decide +kernel,rfl,by decide +kernel,by decide +kernel⟩
theorem ok_is_want {f:Addr} {fd:FuncData} (F:Fun K "is_want" "is_want" s_is_want f fd) (T:Txt mg t1 t2 t3 t4 t5 t6) (D_is_side:DefOk P w K mg base 2 "is_side" ["thing"] sp_side):FnOk P w K mg base CX0 3 f fd ["thing"] sp_want:=by
 have S:=S_is_want
 refine F.ok S (fun vs H Q E h=>?_) (fun cdv A outer s H vs Q E hr h=>?_)
 ·obtain ⟨v,g,rfl,_⟩:=h; rfl
 ·obtain ⟨v,g,rfl,hv,q⟩:=h
  refine ⟨_,(pss_cons (ps_if (PW.pt (pw_or (pt_not (pt_val (pe_callB call_isin rfl T.z_isinstance rfl (pa_cons (pv 0) (pa_cons (pe_bltn (v:=.ty "tuple") rfl T.z_tuple rfl rfl) pa_nil))))) (pw_or1 (pt_cmpR op_ne (pe_callB call_len_seq rfl T.z_len rfl (pa_cons (pv 0) pa_nil)) pe_int (nomark _))))) (pss_one (ps_ret pe_bl)) pss_nil)
   (pss_one (ps_ret (pe_and (pe_fn D_is_side hr (pa_cons (pe_ix ix_tup (pv 0) pe_int (fun _ _=>rfl)) pa_nil)) (pe_and (pe_fn D_is_side hr (pa_cons (pe_ix ix_tup (pv 0) pe_int (fun _ _=>rfl)) pa_nil)) (pe_one (pe_callB call_isin rfl T.z_isinstance rfl (pa_cons (pe_ix ix_tup (pv 0) pe_int (fun _ _=>rfl)) (pa_cons (pe_bltn (v:=.ty "bool") rfl T.z_bool rfl rfl) pa_nil))))))))),?_⟩
  rcases hv.two with ⟨a,xs,rfl,ha,hz,ht,hb⟩ | ⟨T',hT,hne,hb⟩
  ·rw [← hb] at q
   refine ⟨_,rfl,.ref a,"tuple","tuple",rfl,ty_tup ha,.inr (.inr (.inl rfl)),_,rfl,iteN (by rw [isB_tt]; rfl) ?_⟩
   refine ⟨_,rfl,a,_,rfl,.inr (SqT.of ha),rfl,_,rfl,ite3 (fun h=>?_) (fun h=>?_)⟩
   ·show Q (.bl false) H
    rw [want_no (decN (m:=3) h)] at q; exact q
   ·obtain ⟨x,y,z,rfl⟩:=len3 (decN' (m:=3) h)
    simp only [List.mem_cons,List.not_mem_nil,or_false,forall_eq_or_imp,forall_eq] at ht
    obtain ⟨tx,ty,tz⟩:=ht
    refine ⟨_,rfl,a,_,_,_,rfl,rfl,SqT.of ha,at3_0,x,rfl,tx,_,rfl,ite3 (fun h1=>?_) (fun h1=>?_)⟩
    ·refine ⟨_,rfl,a,_,_,_,rfl,rfl,SqT.of ha,at3_1,y,rfl,ty,_,rfl,ite3 (fun h2=>?_) (fun h2=>?_)⟩
     ·obtain ⟨Tz,hTz⟩:=tz
      refine ⟨_,rfl,a,_,_,_,rfl,rfl,SqT.of ha,at3_2,z,Tz,"bool",rfl,hTz,.inr (.inl rfl),?_⟩
      rw [isB_bool hTz x y h1 h2]; exact q
     ·have e:wantB [x,y,z]=false:=by
       unfold wantB
       split
       ·rename_i w1 w2 w3 e0; cases e0; rw [h2,Bool.and_false]
       ·rfl
      show Q (.bl false) H
      rw [e] at q; exact q
    ·have e:wantB [x,y,z]=false:=by
      unfold wantB
      split
      ·rename_i w1 w2 w3 e0; cases e0; rw [h1,Bool.false_and]
      ·rfl
     show Q (.bl false) H
     rw [e] at q; exact q
  ·rw [← hb] at q
   exact ⟨_,rfl,_,T',"tuple",rfl,hT,.inr (.inr (.inl rfl)),_,rfl,iteP (by rw [isB_not hne]; rfl) (iteT q)⟩
theorem S_check_wants:FnScope ["wants","place","want"] ["wants"] (defScope s_check_wants):=⟨rfl,rfl,rfl,by decide +kernel,rfl,by decide +kernel,by decide +kernel⟩
theorem ok_check_wants {f:Addr} {fd:FuncData} (F:Fun K "check_wants" "check_wants" s_check_wants f fd) (T:Txt mg t1 t2 t3 t4 t5 t6) (X_TooMany:XMkOk P w K mg base 1 "TooMany" cM ["self","many"] ["many"]) (X_NoWant:XMkOk P w K mg base 1 "NoWant" cA ["self","place"] ["place"]) (D_is_want:DefOk P w K mg base 3 "is_want" ["thing"] sp_want) :
  FnOk P w K mg base (CX1 P w) 4 f fd ["wants"] (sp_check1 cM cA cQ cN cD cS cP):=by
 have S:=S_check_wants
 refine F.okx S (fun vs H Q E h=>?_) (fun cdv A outer s H vs Q E hr h=>?_)
 ·obtain ⟨a,xs,gs,rfl,_⟩:=h; rfl
 ·obtain ⟨a,xs,gs,rfl,ha,th,few,r,q⟩:=h
  have hl:=th.len
  refine ⟨_,(pss_cons (ps_if (pt_cmpR op_gt (pe_callB call_len_seq rfl T.z_len rfl (pa_cons (pv 0) pa_nil)) (pe_glob (v:=.int 6) rfl T.g_MOST_WANTS ⟨_,rfl⟩) (nomark _)) (pss_one (ps_raise xeok_cx X_TooMany hr (pa_cons (pe_callB call_len_seq rfl T.z_len rfl (pa_cons (pv 0) pa_nil)) pa_nil))) pss_nil)
   (pss_one (ps_for own_cx rfl (pi_enum rfl T.z_enumerate (pa_cons (pv 0) pa_nil)) (pg_tup rfl (pgs_cons (pg_name (i:=1) S.nd rfl (Or.inl rfl)) (pgs_cons (pg_name (i:=2) S.nd rfl (Or.inl rfl)) pgs_nil))) (pss_one (ps_if (pt_not (pt_val (pe_fn D_is_want hr (pa_cons (pv 2) pa_nil)))) (pss_one (ps_raise xeok_cx X_NoWant hr (pa_cons (pv 1) pa_nil))) pss_nil))))),?_⟩
  refine ⟨_,rfl,a,_,rfl,.inl (SqL.of ha),_,_,rfl,rfl,_,rfl,ite3 (fun c=>?_) (fun c=>?_)⟩
  ·have c:(6:Int) < (xs.length:Int):=of_decide_eq_true c
   have c2:6 < gs.length:=by omega
   have rr:RfR cM cA cQ cN cD cS cP H E (.many gs.length):=r _ (by unfold dueW; rw [if_pos c2])
   exact ⟨_,rfl,a,_,rfl,.inl (SqL.of ha),rfl,fun y dx T H2 hy s2 e ed nd hT nT=>rr.raise (Same.refl H) hy s2 e ed nd hT (by rw [hl]; rfl)⟩
  ·have c:¬ (6:Int) < (xs.length:Int):=of_decide_eq_false c
   have c2:¬ 6 < gs.length:=by omega
   have ed:dueW gs=(fst0 gs).map fun k:Nat=>Rs.want (k:Int):=by unfold dueW; rw [if_neg c2]
   refine ⟨_,rfl,a,rfl,⟨_,SqL.of ha⟩,for_enum (K:=K) (a:=a) (xs:=xs) (fun i σ H'=>(∃ x y,σ=[some (.ref a),x,y])∧Same H H'∧∀ j,j < i→∃ t,gs[j]?=some (some t)) ⟨⟨none,none,rfl⟩,Same.refl H,fun j hj=>absurd hj (Nat.not_lt_zero _)⟩ (fun i σ H' _ hp=>SqL.of (hp.2.1 _ _ ha)) ?_ ?_⟩
   ·rintro i x σ H1 t hx ⟨⟨x0,y0,rfl⟩,s1,all⟩ nt
    obtain ⟨g,hg,wt⟩:=th.get hx
    have s2:Same H1 (upd H1 t (.tup [.int i,x])):=Same.new nt
    refine ⟨t,_,rfl,SqT.of upd_same,rfl,_,_,rfl,_,_,rfl,rfl,_,rfl,x,g,rfl,wt.same (s1.trans s2),_,rfl,?_⟩
    cases g with
    | some t =>
     refine iteF ⟨⟨_,_,rfl⟩,s1.trans s2,fun j hj=>?_⟩
     rcases Nat.lt_or_ge j i with z | z
     ·exact all j z
     ·obtain rfl:j=i:=by omega
      exact ⟨t,hg⟩
    | none =>
     have rr:RfR cM cA cQ cN cD cS cP H E (.want i):=r _ (by rw [ed,fst0_some hg all]; rfl)
     exact iteT ⟨_,rfl,rfl,fun y dx T H2 hy s3 e ed nd hT nT=>rr.raise (s1.trans s2) hy s3 e ed nd hT rfl⟩
   ·rintro σ H1 ⟨_,s1,all⟩
    exact q (by rw [ed,fst0_none (fun j hj=>all j (by omega))]; rfl) H1 s1
theorem S_check_sides:FnScope ["width","height","side"] ["width","height"] (defScope s_check_sides):=⟨rfl,rfl,rfl,by decide +kernel,rfl,by decide +kernel,by decide +kernel⟩
theorem ok_check_sides {f:Addr} {fd:FuncData} (F:Fun K "check_sides" "check_sides" s_check_sides f fd) (X_NoSide:XMkOk P w K mg base 1 "NoSide" cQ ["self","side"] ["side"]) (D_is_side:DefOk P w K mg base 2 "is_side" ["thing"] sp_side) :
  FnOk P w K mg base (CX1 P w) 3 f fd ["width","height"] (sp_sides1 cM cA cQ cN cD cS cP):=by
 have S:=S_check_sides
 refine F.okx S (fun vs H Q E h=>?_) (fun cdv A outer s H vs Q E hr h=>?_)
 ·obtain ⟨a,p,rfl,_⟩:=h; rfl
 ·obtain ⟨a,b,rfl,ta,tb,r,q⟩:=h
  have r1:sideV a=false→RfR cM cA cQ cN cD cS cP H E (.side a):=fun c=>r _ (by unfold dueD; rw [c]; rfl)
  have r2:sideV a=true→sideV b=false→RfR cM cA cQ cN cD cS cP H E (.side b):=fun c d=>r _ (by unfold dueD; rw [c,d]; rfl)
  refine ⟨_,(pss_one (ps_for own_cx rfl (pi_tup (pe_tup (pa_cons (pv 0) (pa_cons (pv 1) pa_nil)))) (pg_name (i:=2) S.nd rfl (Or.inl rfl)) (pss_one (ps_if (pt_not (pt_val (pe_fn D_is_side hr (pa_cons (pv 2) pa_nil)))) (pss_one (ps_raise xeok_cx X_NoSide hr (pa_cons (pv 2) pa_nil))) pss_nil)))),?_⟩
  refine ⟨_,rfl,_,rfl,lenOk 2,fun t ht=>⟨t,rfl,⟨_,SqT.of upd_same⟩,for_tup (K:=K) (a:=t) (xs:=[a,b]) (fun i σ H'=>(∃ y,σ=[some a,some b,y])∧H'=upd H t (.tup [a,b])∧(0 < i→sideV a=true)∧(1 < i→sideV b=true)) ⟨⟨none,rfl⟩,rfl,(fun z=>absurd z (by decide)),fun z=>absurd z (by decide)⟩ (fun i σ H' _ hp=>by rw [hp.2.1]; exact SqT.of upd_same) ?_ ?_⟩⟩
  ·rintro i x σ H' hx ⟨⟨y,rfl⟩,rfl,h0,h1⟩
   have s1:Same H (upd H t (.tup [a,b])):=Same.new ht
   match i,hx with
   | 0,hx =>
    cases hx
    refine ⟨_,rfl,a,rfl,ta.same s1,_,rfl,ite3 (fun hb=>?_) fun hb=>?_⟩
    ·have hb:sideV a=false:=by simpa using hb
     exact ⟨_,rfl,rfl,fun y dx T H2 hy s2 e ed nd hT nT=>(r1 hb).raise s1 hy s2 e ed nd hT rfl⟩
    ·exact ⟨⟨_,rfl⟩,rfl,fun _=>by simpa using hb,fun z=>absurd z (by omega)⟩
   | 1,hx =>
    cases hx
    refine ⟨_,rfl,b,rfl,tb.same s1,_,rfl,ite3 (fun hb=>?_) fun hb=>?_⟩
    ·have hb:sideV b=false:=by simpa using hb
     exact ⟨_,rfl,rfl,fun y dx T H2 hy s2 e ed nd hT nT=>(r2 (h0 (by omega)) hb).raise s1 hy s2 e ed nd hT rfl⟩
    ·exact ⟨⟨_,rfl⟩,rfl,fun _=>h0 (by omega),fun _=>by simpa using hb⟩
   | i+2,hx=>cases hx
  ·rintro σ H' ⟨⟨y,rfl⟩,rfl,h0,h1⟩
   exact q (by unfold dueD; rw [h0 (by show 0 < 2; decide),h1 (by show 1 < 2; decide)]; rfl) _ (Same.new ht)
theorem S_ways_to_lie:FnScope ["want"] ["want"] (defScope s_ways_to_lie):=⟨rfl,rfl,rfl,by decide +kernel,rfl,by decide +kernel,by decide +kernel⟩
theorem ok_ways_to_lie {f:Addr} {fd:FuncData} (F:Fun K "ways_to_lie" "ways_to_lie" s_ways_to_lie f fd):FnOk P w K mg base CX0 1 f fd ["want"] sp_ways:=by
 have S:=S_ways_to_lie
 refine F.ok S (fun vs H Q E h=>?_) (fun cdv A outer s H vs Q E hr h=>?_)
 ·obtain ⟨a,t,rfl,_⟩:=h; rfl
 ·obtain ⟨a,t,rfl,ha,q⟩:=h
  refine ⟨_,(pss_cons (ps_if (pt_truth (pe_ix ix_tup (pv 0) pe_int (fun _ _=>rfl)) (fun _=>rfl)) (pss_one (ps_ret (pe_lst (pa_cons (pe_tup (pa_cons (pe_ix ix_tup (pv 0) pe_int (fun _ _=>rfl)) (pa_cons (pe_ix ix_tup (pv 0) pe_int (fun _ _=>rfl)) pa_nil))) (pa_cons (pe_tup (pa_cons (pe_ix ix_tup (pv 0) pe_int (fun _ _=>rfl)) (pa_cons (pe_ix ix_tup (pv 0) pe_int (fun _ _=>rfl)) pa_nil))) pa_nil))))) pss_nil)
   (pss_one (ps_ret (pe_lst (pa_cons (pe_tup (pa_cons (pe_ix ix_tup (pv 0) pe_int (fun _ _=>rfl)) (pa_cons (pe_ix ix_tup (pv 0) pe_int (fun _ _=>rfl)) pa_nil))) pa_nil))))),?_⟩
  refine ⟨_,rfl,a,_,_,_,rfl,rfl,SqT.of ha,at3_2,_,rfl,ite3 (fun h=>?_) (fun h=>?_)⟩
  ·refine ⟨_,rfl,a,_,_,_,rfl,rfl,SqT.of ha,at3_0,_,rfl,a,_,_,_,rfl,rfl,SqT.of ha,at3_1,lenOk 2,fun p hp=>?_⟩
   have s1:Same H (upd H p (.tup [.int t.1,.int t.2.1])):=Same.new hp
   refine ⟨_,rfl,a,_,_,_,rfl,rfl,SqT.of (s1 _ _ ha),at3_1,_,rfl,a,_,_,_,rfl,rfl,SqT.of (s1 _ _ ha),at3_0,lenOk 2,fun p' hp'=>⟨lenOk 2,fun l hl=>?_⟩⟩
   have s2:Same (upd H p (.tup [.int t.1,.int t.2.1])) (upd (upd H p (.tup [.int t.1,.int t.2.1])) p' (.tup [.int t.2.1,.int t.1])):=Same.new hp'
   have s3:Same (upd (upd H p (.tup [.int t.1,.int t.2.1])) p' (.tup [.int t.2.1,.int t.1])) (upd (upd (upd H p (.tup [.int t.1,.int t.2.1])) p' (.tup [.int t.2.1,.int t.1])) l (.lst [.ref p,.ref p'])):=Same.new hl
   refine q l _ (s1.trans (s2.trans s3)) (wasNone (s1.trans s2) hl) ⟨[(p,t.1,t.2.1),(p',t.2.1,t.1)],upd_same,fun u hu=>?_,?_⟩
   ·simp only [List.mem_cons,List.not_mem_nil,or_false] at hu
    rcases hu with rfl | rfl
    ·exact s3 _ _ (s2 _ _ upd_same)
    ·exact s3 _ _ upd_same
   ·unfold waysOf; rw [if_pos h]; rfl
  ·refine ⟨_,rfl,a,_,_,_,rfl,rfl,SqT.of ha,at3_0,_,rfl,a,_,_,_,rfl,rfl,SqT.of ha,at3_1,lenOk 2,fun p hp=>⟨lenOk 1,fun l hl=>?_⟩⟩
   have s1:Same H (upd H p (.tup [.int t.1,.int t.2.1])):=Same.new hp
   have s3:Same (upd H p (.tup [.int t.1,.int t.2.1])) (upd (upd H p (.tup [.int t.1,.int t.2.1])) l (.lst [.ref p])):=Same.new hl
   refine q l _ (s1.trans s3) (wasNone s1 hl) ⟨[(p,t.1,t.2.1)],upd_same,fun u hu=>?_,?_⟩
   ·rw [List.mem_singleton.mp hu]
    exact s3 _ _ upd_same
   ·unfold waysOf; rw [if_neg (by rw [h]; exact Bool.false_ne_true)]; rfl
theorem S_is_alone:FnScope ["bits"] ["bits"] (defScope s_is_alone):=⟨rfl,rfl,rfl,by decide +kernel,rfl,by decide +kernel,by decide +kernel⟩
theorem dec_eq {i j:Int}:decide (V.int i=V.int j)=decide (i=j):=by
 by_cases h:i=j
 ·rw [decide_eq_true h,decide_eq_true (congrArg V.int h)]
 ·rw [decide_eq_false h,decide_eq_false (fun z=>h (V.int.inj z))]
theorem ok_is_alone {f:Addr} {fd:FuncData} (F:Fun K "is_alone" "is_alone" s_is_alone f fd):FnOk P w K mg base CX0 1 f fd ["bits"] sp_alone:=by
 have S:=S_is_alone
 refine F.ok S (fun vs H Q E h=>?_) (fun cdv A outer s H vs Q E hr h=>?_)
 ·obtain ⟨b,rfl,_⟩:=h; rfl
 ·obtain ⟨b,rfl,q⟩:=h
  refine ⟨_,(pss_one (ps_ret (pe_cmpR op_eq (pe_op op_and (pv 0) (pe_op op_sub (pv 0) pe_int)) pe_int (nomark _)))),?_⟩
  refine ⟨_,rfl,_,rfl,_,_,rfl,rfl,_,_,rfl,rfl,rfl,?_⟩
  rw [dec_eq]
  exact q
theorem S_number_alone:FnScope ["bits"] ["bits"] (defScope s_number_alone):=⟨rfl,rfl,rfl,by decide +kernel,rfl,by decide +kernel,by decide +kernel⟩
theorem ok_number_alone {f:Addr} {fd:FuncData} (F:Fun K "number_alone" "number_alone" s_number_alone f fd):FnOk P w K mg base CX0 1 f fd ["bits"] sp_number:=by
 have S:=S_number_alone
 refine F.ok S (fun vs H Q E h=>?_) (fun cdv A outer s H vs Q E hr h=>?_)
 ·obtain ⟨b,rfl,_⟩:=h; rfl
 ·obtain ⟨b,rfl,q⟩:=h
  refine ⟨_,(pss_one (ps_ret (pe_op op_sub (pe_bm0 PySem.F.plainAttrs_int PySem.F.slot_int_bit_length PySem.F.type_int_bit_length mt_bits (pv 0)) pe_int))),?_⟩
  exact ⟨_,rfl,rfl,b,rfl,rfl,_,_,rfl,rfl,q⟩
theorem S_all_parts:FnScope ["bits"] ["bits"] (defScope s_all_parts):=⟨rfl,rfl,rfl,by decide +kernel,rfl,by decide +kernel,by decide +kernel⟩
theorem filt_yes {f:Int→Bool} {n:Nat} (h:f (1+(n:Int))=true):(upto (n+1)).filter f=(upto n).filter f++[1+(n:Int)]:=by
 rw [upto_succ,List.filter_append,List.filter_cons,if_pos h]; rfl
theorem filt_no {f:Int→Bool} {n:Nat} (h:f (1+(n:Int))=false):(upto (n+1)).filter f=(upto n).filter f:=by
 rw [upto_succ,List.filter_append,List.filter_cons,if_neg (by rw [h]; exact Bool.false_ne_true)]; exact List.append_nil _
theorem ok_all_parts {f:Addr} {fd:FuncData} (F:Fun K "all_parts" "all_parts" s_all_parts f fd) (T:Txt mg t1 t2 t3 t4 t5 t6):FnOk P w K mg base CX0 1 f fd ["bits"] sp_parts:=by
 have S:=S_all_parts
 refine F.ok S (fun vs H Q E h=>?_) (fun cdv A outer s H vs Q E hr h=>?_)
 ·obtain ⟨b,rfl,_⟩:=h; rfl
 ·obtain ⟨b,rfl,b0,b1,q⟩:=h
  refine ⟨_,(pss_one (ps_ret (pe_compF rfl (pi_range2 rfl T.z_range (pa_cons pe_int (pa_cons (pe_op op_add (pv 0) pe_int) pa_nil))) (fun _ _ _ _ _=>(pg_name (i:=0) (show List.Nodup (["part","bits"]:List Str) from by decide +kernel) rfl (Or.inl rfl))) (fun _ _ _ _ _=>(pt_cmpR op_eq (pe_op op_and (pv 0) (pv 1)) (pv 0) (nomark _))) (fun _ _ _ _ _=>(pv 0)) (N:=["part","bits"]) (fr:=[none,some 0])))),?_⟩
  have e0:(b+1 - 1).toNat=b.toNat:=by rw [show b+1 - 1=b from by omega]
  refine ⟨_,rfl,_,_,rfl,rfl,1,b+1,rfl,⟨by omega,by omega,by omega,by omega⟩,fun acc hacc=>comp_rangeF (lo:=1) (n:=(b+1 - 1).toNat) (fun i zs σ H'=>(∃ y,σ=[y,some (.int b)])∧Same H H'∧zs=((upto i).filter (isPart b)).map V.int) ⟨⟨none,rfl⟩,Same.new hacc,rfl⟩ ?_ ?_⟩
  ·rintro i zs σ H1 hi hl ha ⟨⟨y,rfl⟩,s1,hz⟩
   have sz:(b+1 - 1).toNat≤sizeLine:=Nat.le_of_lt (small1000 (by omega))
   cases c:isPart b (1+(i:Int)) with
   | true =>
    refine ⟨_,rfl,_,rfl,_,_,rfl,rfl,_,rfl,rfl,true,by rw [dec_eq]; exact congrArg V.bl c,_,rfl,fNx.mk sz hi hl ha ⟨⟨_,rfl⟩,fun d o e=>by rw [upd_ne (ne_of_none e hacc)]; exact s1 d o e,?_⟩⟩
    rw [filt_yes c,List.map_append,hz]; rfl
   | false =>
    refine ⟨_,rfl,_,rfl,_,_,rfl,rfl,_,rfl,rfl,false,by rw [dec_eq]; exact congrArg V.bl c,fSk.mk hi hl ha ⟨⟨_,rfl⟩,s1,?_⟩⟩
    rw [filt_no c,hz]
  ·rintro zs σ H1 hl ha ⟨_,s1,hz⟩
   rw [e0] at hz
   exact q acc H1 s1 hacc (by rw [ha,hz]; rfl)
theorem S_parts_with_least:FnScope ["bits","least"] ["bits"] (defScope s_parts_with_least):=⟨rfl,rfl,rfl,by decide +kernel,rfl,by decide +kernel,by decide +kernel⟩
theorem ok_parts_with_least {f:Addr} {fd:FuncData} (F:Fun K "parts_with_least" "parts_with_least" s_parts_with_least f fd) (D_all_parts:DefOk P w K mg base 1 "all_parts" ["bits"] sp_parts):FnOk P w K mg base CX0 2 f fd ["bits"] sp_least:=by
 have S:=S_parts_with_least
 refine F.ok S (fun vs H Q E h=>?_) (fun cdv A outer s H vs Q E hr h=>?_)
 ·obtain ⟨b,rfl,_⟩:=h; rfl
 ·obtain ⟨b,rfl,b0,b1,q⟩:=h
  refine ⟨_,(pss_cons (ps_set (i:=1) S.nd rfl (Or.inr rfl) (pe_op op_and (pv 0) (pe_un un_neg (pv 0))))
   (pss_one (ps_ret (pe_compF rfl (pi_list (pe_fn D_all_parts hr (pa_cons (pv 0) pa_nil))) (fun _ _ _ _ _=>(pg_name (i:=0) (show List.Nodup (["part","least","bits"]:List Str) from by decide +kernel) rfl (Or.inl rfl))) (fun _ _ _ _ _=>(PW.pt (pw_and (pt_int (pe_op op_and (pv 0) (pv 1))) (pw_and1 (pt_cmpR op_ne (pv 0) (pv 2) (nomark _)))))) (fun _ _ _ _ _=>(pv 0)) (N:=["part","least","bits"]) (fr:=[none,some 1,some 0]))))),?_⟩
  refine ⟨_,rfl,_,rfl,_,rfl,_,_,rfl,rfl,_,rfl,b,rfl,b0,b1,fun l H1 s1 nl hl=>?_⟩
  have sz:((partsOf b).map V.int).length≤sizeLine:=by
   have:=List.length_filter_le (isPart b) (upto b.toNat)
   rw [upto_len] at this
   rw [List.length_map]
   exact Nat.le_of_lt (small1000 (by unfold partsOf; omega))
  refine ⟨l,rfl,⟨_,SqL.of hl⟩,fun acc hacc=>comp_listF (K:=K) (a:=l) (ys:=(partsOf b).map V.int) (fun i zs σ H'=>(∃ y,σ=[y,some (.int (Builtin.bitAnd b (-b))),some (.int b)])∧Same H1 H'∧zs=(((partsOf b).take i).filter (inL b)).map V.int) ⟨⟨none,rfl⟩,Same.new hacc,rfl⟩ (fun i zs σ H' _ _ hp=>SqL.of (hp.2.1 _ _ hl)) ?_ ?_⟩
  ·rintro i x zs σ H2 hx hi hl' ha ⟨⟨y,rfl⟩,s2,hz⟩
   obtain ⟨p,hp,rfl⟩:=ints_get hx
   have tk1:(partsOf b).take (i+1)=(partsOf b).take i++[p]:=by rw [List.take_succ,hp]; rfl
   have yes:inL b p=true→fNx acc ((partsOf b).map V.int).length (fun i zs σ H'=>(∃ y,σ=[y,some (.int (Builtin.bitAnd b (-b))),some (.int b)])∧Same H1 H'∧zs=(((partsOf b).take i).filter (inL b)).map V.int) i [some (.int p),some (.int (Builtin.bitAnd b (-b))),some (.int b)] (.int p) H2:=fun c =>
    fNx.mk sz hi hl' ha ⟨⟨_,rfl⟩,fun d o e=>by rw [upd_ne (ne_of_none e hacc)]; exact s2 d o e,by rw [tk1,List.filter_append,List.filter_cons,if_pos c,List.map_append,hz]; rfl⟩
   have no:inL b p=false→fSk acc ((partsOf b).map V.int).length (fun i zs σ H'=>(∃ y,σ=[y,some (.int (Builtin.bitAnd b (-b))),some (.int b)])∧Same H1 H'∧zs=(((partsOf b).take i).filter (inL b)).map V.int) i [some (.int p),some (.int (Builtin.bitAnd b (-b))),some (.int b)] H2:=fun c =>
    fSk.mk hi hl' ha ⟨⟨_,rfl⟩,s2,by rw [tk1,List.filter_append,List.filter_cons,if_neg (by rw [c]; exact Bool.false_ne_true),hz]; exact congrArg (List.map V.int) (List.append_nil _).symm⟩
   refine ⟨_,rfl,_,rfl,_,_,rfl,rfl,_,rfl,ite3 (fun c1=>?_) (fun c1=>no (by unfold inL; rw [c1]; rfl))⟩
   cases c2:decide (p=b) with
   | true=>exact ⟨_,rfl,_,rfl,rfl,false,by rw [dec_eq,c2]; rfl,no (by unfold inL; rw [c1,c2]; rfl)⟩
   | false=>exact ⟨_,rfl,_,rfl,rfl,true,by rw [dec_eq,c2]; rfl,_,rfl,yes (by unfold inL; rw [c1,c2]; rfl)⟩
  ·rintro zs σ H2 hl' ha ⟨_,s2,hz⟩
   rw [List.length_map,List.take_length] at hz
   exact q acc H2 (s1.trans s2) (wasNone s1 hacc) (by rw [ha,hz]; rfl)
theorem S_cuts_to:FnScope ["heights","bits","width","found","part","one","other"] ["heights","bits","width"] (defScope s_cuts_to):=⟨rfl,rfl,rfl,by decide +kernel,rfl,by decide +kernel,by decide +kernel⟩
def cI (H1:Hp) (acc:Addr) (st:St) (g:Int→Rw4) (j:Nat) (zs:List V) (σ:St) (H':Hp):Prop :=
 (∃ y,σ=y :: st)∧Same H1 H'∧∃ us:List (Addr × Rw4),zs=refs us∧(∀ t∈us,H' t.1=some (.tup ((rowK t.2).map kV))∧t.1≠acc)∧us.map (·.2)=(upto j).map g
theorem cI.next {H1 H2:Hp} {acc t:Addr} {st:St} {g:Int→Rw4} {j n:Nat} {zs:List V} {σ:St} {y:Option V} (c:cI H1 acc st g j zs σ H2) (na:H1 acc=none) (ha:H2 acc=some (.lst zs)) (hn:n≤12) (hj:j < n) (hz:zs.length=j) (nt:H2 t=none) :
  cNx acc n (cI H1 acc st g) j (y :: st) (.ref t) (upd H2 t (.tup ((rowK (g (1+(j:Int)))).map kV))):=by
 obtain ⟨_,s1,us,rfl,h1,h2⟩:=c
 have nt':t≠acc:=fun z=>by rw [z,ha] at nt; cases nt
 have s2:Same H2 (upd H2 t (.tup ((rowK (g (1+(j:Int)))).map kV))):=Same.new nt
 refine cNx.mk (Nat.le_of_lt (small1000 (by omega))) hj hz (s2 _ _ ha) ⟨⟨_,rfl⟩,fun b o e=>?_,us++[(t,g (1+(j:Int)))],?_,fun u hu=>?_,?_⟩
 ·rw [upd_ne (ne_of_none e na)]
  exact s2 _ _ (s1 b o e)
 ·rw [refs,refs,List.map_append]; rfl
 ·rcases List.mem_append.mp hu with hu | hu
  ·obtain ⟨e,n⟩:=h1 u hu
   exact ⟨by rw [upd_ne n]; exact s2 _ _ e,n⟩
  ·rw [List.mem_singleton.mp hu]
   exact ⟨by rw [upd_ne nt']; exact upd_same,nt'⟩
 ·rw [List.map_append,h2,upto_succ,List.map_append]; rfl
def gU (h:Int→List Int) (b w p:Int) (a:Int):Rw4:=(cutU h b w p a,[Sum.inr (wd true),Sum.inl a,Sum.inl p])
theorem ok_cuts_to {f:Addr} {fd:FuncData} (F:Fun K "cuts_to" "cuts_to" s_cuts_to f fd) (T:Txt mg t1 t2 t3 t4 t5 t6) (D_parts_with_least:DefOk P w K mg base 2 "parts_with_least" ["bits"] sp_least):FnOk P w K mg base CX0 3 f fd ["heights","bits","width"] sp_cuts:=by
 have S:=S_cuts_to
 refine F.ok S (fun vs H Q E h=>?_) (fun cdv A outer s H vs Q E hr h=>?_)
 ·obtain ⟨d,b,w,okk,ad,h,rfl,_⟩:=h; rfl
 ·obtain ⟨d,b,w,okk,ad,h,rfl,tab,b1,b2,bn,w1,w2,q⟩:=h
  have hu:=hu_of hr
  refine ⟨_,(pss_cons (ps_set (i:=3) S.nd rfl (Or.inl rfl) (pe_lst pa_nil))
   (pss_cons (ps_for PassesOwn.never rfl (pi_list (pe_fn D_parts_with_least hr (pa_cons (pv 1) pa_nil))) (pg_name (i:=4) S.nd rfl (Or.inr rfl)) (pss_cons (ps_set (i:=5) S.nd rfl (Or.inr rfl) (pe_dget hu (pv 0) (pv 4) (fun _ _=>rfl)))
   (pss_cons (ps_set (i:=6) S.nd rfl (Or.inr rfl) (pe_dget hu (pv 0) (pe_op op_sub (pv 1) (pv 4)) (fun _ _=>rfl)))
   (pss_cons (ps_expr (pe_bm PySem.F.plainAttrs_list PySem.F.slot_list_extend PySem.F.type_list_extend mt_extend (pv 3) (pa_cons (pe_comp rfl (pi_range2 rfl T.z_range (pa_cons pe_int (pa_cons (pv 2) pa_nil))) (fun _ _ _ _ _=>(pg_name (i:=0) (show List.Nodup (["at","part","one","other","width"]:List Str) from by decide +kernel) rfl (Or.inl rfl))) (fun _ _ _ _ _=>(pe_tup (pa_cons (pe_callB (call_max2 rfl) rfl T.z_max rfl (pa_cons (pe_ix (ix_listK (K:=K)) (pv 2) (pv 0) (fun _ _=>rfl)) (pa_cons (pe_ix (ix_listK (K:=K)) (pv 3) (pe_op op_sub (pv 4) (pv 0)) (fun _ _=>rfl)) pa_nil))) (pa_cons (pe_glob (v:=.str "upright") rfl T.g_UPRIGHT ⟨_,rfl⟩) (pa_cons (pv 0) (pa_cons (pv 1) pa_nil)))))) (N:=["at","part","one","other","width"]) (fr:=[none,some 4,some 5,some 6,some 2])) pa_nil)))
   (pss_one (ps_expr (pe_bm PySem.F.plainAttrs_list PySem.F.slot_list_append PySem.F.type_list_append mt_append (pv 3) (pa_cons (pe_tup (pa_cons (pe_op op_add (pe_ix ix_list (pv 5) (pv 2) (fun _ _=>rfl)) (pe_ix ix_list (pv 6) (pv 2) (fun _ _=>rfl))) (pa_cons (pe_glob (v:=.str "level") rfl T.g_LEVEL ⟨_,rfl⟩) (pa_cons (pe_ix ix_list (pv 5) (pv 2) (fun _ _=>rfl)) (pa_cons (pv 4) pa_nil))))) pa_nil))))))))
   (pss_one (ps_ret (pv 3))))),?_⟩
  refine ⟨lenOk 0,fun l hl=>⟨_,rfl,b,rfl,by omega,b2,fun pl H1 s1 npl hpl=>?_⟩⟩
  have s01:Same H H1:=fun c o e=>s1 c o ((Same.new (o:=.lst []) hl) c o e)
  have hl1:H1 l=some (.lst []):=s1 _ _ upd_same
  have nlp:pl≠l:=fun z=>by rw [z,upd_same] at npl; cases npl
  have pll:=plist_len b
  refine ⟨pl,rfl,⟨_,SqL.of hpl⟩,for_list (K:=K) (a:=pl) (xs:=(plist b).map V.int) (fun i σ H'=>(∃ x y z,σ=[some (.ref d),some (.int b),some (.int w),some (.ref l),x,y,z])∧SameX l H1 H'∧∃ ts:List (Addr × Rw4),H' l=some (.lst (refs ts))∧CutsQ H' ts∧ts.map (·.2)=((plist b).take i).flatMap (cutQ h b w)∧ts.length≤12 * i)
   ⟨⟨none,none,none,rfl⟩,SameX.refl,[],hl1,(fun t ht=>nomatch ht),rfl,Nat.le_refl _⟩ (fun i σ H' _ hp=>SqL.of (hp.2.1 _ _ nlp hpl)) ?_ ?_⟩
  ·rintro i x σ H2 hx ⟨⟨x0,y0,z0,rfl⟩,s2,ts,hl2,hc,hts,few⟩
   obtain ⟨p,hp,rfl⟩:=ints_get hx
   obtain ⟨p1,p2⟩:=mem_plist (List.mem_of_getElem? hp)
   obtain ⟨k1,k2⟩:=bn p (List.mem_of_getElem? hp)
   have hi:i < (plist b).length:=(List.getElem?_eq_some_iff.mp hp).1
   have s02:Same H H2:=s2.same s01 hl
   have tb:=tab.same s02
   obtain ⟨r1,l1⟩:=tb.row p k1
   obtain ⟨r2,l2⟩:=tb.row (b - p) k2
   refine ⟨_,rfl,_,rfl,d,_,rfl,tb.get k1,_,rfl,_,rfl,_,rfl,_,_,rfl,rfl,d,_,rfl,tb.get k2,?_⟩
   refine ⟨_,rfl,.inl ⟨rfl,_,SqL.of hl2⟩,_,rfl,1,w,rfl,⟨by omega,by omega,by omega,by omega⟩,fun acc na=>comp_range (lo:=1) (n:=(w - 1).toNat) (cI H2 acc [some (.int p),some (.ref (ad p)),some (.ref (ad (b - p))),some (.int w)] (gU h b w p)) ⟨⟨none,rfl⟩,Same.new na,[],rfl,(fun t ht=>nomatch ht),rfl⟩ ?_ ?_⟩
   ·rintro j zs σ H3 hj hz ha c
    obtain ⟨⟨y,rfl⟩,s3,_⟩:=id c
    have a1:=at_rat (r:=h p) (i:=1+(j:Int)) (by omega) (by omega)
    have a2:=at_rat (r:=h (b - p)) (i:=w - (1+(j:Int))) (by omega) (by omega)
    exact ⟨_,rfl,_,rfl,ad p,_,_,_,rfl,rfl,SqL.of (s3 _ _ r1),a1,_,rfl,_,rfl,_,rfl,_,_,rfl,rfl,ad (b - p),_,_,_,rfl,rfl,SqL.of (s3 _ _ r2),a2,_,_,rfl,_,rfl,_,rfl,lenOk 4,fun t nt=>c.next na ha (by omega) hj hz nt⟩
   ·rintro zs σ H3 hz ha ⟨_,s3,us,rfl,hus,hm⟩
    have la:l≠acc:=fun z=>by rw [z,na] at hl2; cases hl2
    have ul:us.length=(w - 1).toNat:=by rw [← hz,refs_len]
    have hl3:=s3 _ _ hl2
    refine ⟨l,acc,_,_,rfl,rfl,hl3,ha,Nat.le_of_lt (small1000 (by rw [refs_len,refs_len]; omega)),?_⟩
    have s4:SameX l H2 (upd H3 l (.lst (refs ts++refs us))):=fun c o nc e=>by rw [upd_ne nc]; exact s3 c o e
    have hl4:(upd H3 l (.lst (refs ts++refs us))) l=some (.lst (refs (ts++us))):=by rw [upd_same,refs,refs,refs,List.map_append]
    have c4:CutsQ (upd H3 l (.lst (refs ts++refs us))) (ts++us):=fun t ht=>by
     rcases List.mem_append.mp ht with ht | ht
     ·have e:=hc t ht
      exact s4 _ _ (fun q=>by rw [q,hl2] at e; cases e) e
     ·obtain ⟨e,_⟩:=hus t ht
      rw [upd_ne (fun q=>by rw [q,hl3] at e; cases e)]; exact e
    generalize upd H3 l (.lst (refs ts++refs us))=H4 at s4 hl4 c4 ⊢
    have nl1:ad p≠l:=ne_of_none (tab.row p k1).1 hl
    have nl2:ad (b - p)≠l:=ne_of_none (tab.row (b - p) k2).1 hl
    have r1':=s4 _ _ nl1 r1
    have r2':=s4 _ _ nl2 r2
    have a1:=at_rat (r:=h p) (i:=w) (by omega) (by omega)
    have a2:=at_rat (r:=h (b - p)) (i:=w) (by omega) (by omega)
    refine ⟨_,rfl,.inl ⟨rfl,_,SqL.of hl4⟩,_,rfl,_,rfl,ad p,_,_,_,rfl,rfl,SqL.of r1',a1,_,rfl,_,rfl,ad (b - p),_,_,_,rfl,rfl,SqL.of r2',a2,_,_,rfl,rfl,_,rfl,_,rfl,ad p,_,_,_,rfl,rfl,SqL.of r1',a1,_,rfl,lenOk 4,fun t nt=>?_⟩
    have tl:t≠l:=fun q=>by rw [q,hl4] at nt; cases nt
    have s5:Same H4 (upd H4 t (.tup [.int (rat (h p) w+rat (h (b - p)) w),.str "level",.int (rat (h p) w),.int p])):=Same.new nt
    refine ⟨l,_,_,rfl,rfl,s5 _ _ hl4,small1000 (by rw [refs_len,List.length_append]; omega),⟨_,_,_,rfl⟩,fun c o nc e=>?_,ts++us++[(t,(rat (h p) w+rat (h (b - p)) w,[Sum.inr (wd false),Sum.inl (rat (h p) w),Sum.inl p]))],?_,fun u hu=>?_,?_,?_⟩
    ·rw [upd_ne nc]
     exact s5 _ _ (s4 c o nc (s2 c o nc e))
    ·rw [upd_same]
     exact congrArg (fun z=>some (HO.lst z)) (by simp [refs])
    ·rcases List.mem_append.mp hu with hu | hu
     ·have e:=c4 u hu
      rw [upd_ne (fun q=>by rw [q,hl4] at e; cases e)]; exact s5 _ _ e
     ·rw [List.mem_singleton.mp hu,upd_ne tl]
      exact upd_same
    ·have tk1:(plist b).take (i+1)=(plist b).take i++[p]:=by rw [List.take_succ,hp]; rfl
     rw [tk1,List.flatMap_append,List.map_append,List.map_append,hts,hm]
     show _=_++(cutQ h b w p++[])
     rw [List.append_nil,List.append_assoc]
     rfl
    ·rw [List.length_append,List.length_append,List.length_singleton]
     omega
  ·rintro σ H2 ⟨⟨x0,y0,z0,rfl⟩,s2,ts,hl2,hc,hts,few⟩
   rw [List.length_map,List.take_length] at hts
   rw [List.length_map] at few
   exact ⟨_,rfl,q l ts H2 (s2.same s01 hl) hl hl2 hc hts (by omega)⟩
theorem S_least_height:FnScope ["wants","heights","bits","width","ways"] ["wants","heights","bits","width"] (defScope s_least_height):=⟨rfl,rfl,rfl,by decide +kernel,rfl,by decide +kernel,by decide +kernel⟩
theorem ok_least_height {f:Addr} {fd:FuncData} (F:Fun K "least_height" "least_height" s_least_height f fd) (T:Txt mg t1 t2 t3 t4 t5 t6) (D_is_alone:DefOk P w K mg base 1 "is_alone" ["bits"] sp_alone) (D_number_alone:DefOk P w K mg base 1 "number_alone" ["bits"] sp_number) (D_ways_to_lie:DefOk P w K mg base 1 "ways_to_lie" ["want"] sp_ways) (D_cuts_to:DefOk P w K mg base 3 "cuts_to" ["heights","bits","width"] sp_cuts):FnOk P w K mg base CX0 4 f fd ["wants","heights","bits","width"] sp_low:=by
 have S:=S_least_height
 refine F.ok S (fun vs H Q E h=>?_) (fun cdv A outer s H vs Q E hr h=>?_)
 ·obtain ⟨a,d,ws,b,w,okk,ad,h,rfl,_⟩:=h; rfl
 ·obtain ⟨a,d,ws,b,w,okk,ad,h,rfl,hw,tab,b1,b2,bn,al,nal,w1,w2,q⟩:=h
  refine ⟨_,(pss_cons (ps_if (pt_val (pe_fn D_is_alone hr (pa_cons (pv 2) pa_nil))) (pss_cons (ps_set (i:=4) S.nd rfl (Or.inl rfl) (pe_fn D_ways_to_lie hr (pa_cons (pe_ix ix_list (pv 0) (pe_fn D_number_alone hr (pa_cons (pv 2) pa_nil)) (fun _ _=>rfl)) pa_nil)))
   (pss_one (ps_ret (pe_minD rfl rfl T.z_min (pa_cons (pe_compF rfl (pi_list (pv 4)) (fun _ _ _ _ _=>(pg_tupK (K:=K) (n:=2) rfl (pgs_cons (pg_name (i:=0) (show List.Nodup (["wide","high","width"]:List Str) from by decide +kernel) rfl (Or.inl rfl)) (pgs_cons (pg_name (i:=1) (show List.Nodup (["wide","high","width"]:List Str) from by decide +kernel) rfl (Or.inl rfl)) pgs_nil)))) (fun _ _ _ _ _=>(pt_cmpR op_le (pv 0) (pv 2) (nomark _))) (fun _ _ _ _ _=>(pv 1)) (N:=["wide","high","width"]) (fr:=[none,none,some 3])) pa_nil) (pe_glob (v:=.int 13) rfl T.g_TOO_HIGH ⟨_,rfl⟩))))) pss_nil)
   (pss_one (ps_ret (pe_callB (call_min2 rfl) rfl T.z_min rfl (pa_cons (pe_glob (v:=.int 13) rfl T.g_TOO_HIGH ⟨_,rfl⟩) (pa_cons (pe_callB call_min1 rfl T.z_min rfl (pa_cons (pe_comp rfl (pi_list (pe_fn D_cuts_to hr (pa_cons (pv 1) (pa_cons (pv 2) (pa_cons (pv 3) pa_nil))))) (fun _ _ _ _ _=>(pg_name (i:=0) (show List.Nodup (["cut"]:List Str) from by decide +kernel) rfl (Or.inl rfl))) (fun _ _ _ _ _=>(pe_ix (ix_tupK (K:=K)) (pv 0) pe_int (fun _ _=>rfl))) (N:=["cut"]) (fr:=[none])) pa_nil)) pa_nil)))))),?_⟩
  refine ⟨_,rfl,b,rfl,_,rfl,ite3 (fun c=>?_) (fun c=>?_)⟩
  ·obtain ⟨g0,g1⟩:=al c
   obtain ⟨ts,ha,ht,rfl⟩:=hw
   rw [List.length_map] at g1
   have hg:ts[(((Builtin.Int.intBits b:Nat):Int) - 1).toNat]?=some ts[(((Builtin.Int.intBits b:Nat):Int) - 1).toNat]:=List.getElem?_eq_getElem g1
   generalize ts[(((Builtin.Int.intBits b:Nat):Int) - 1).toNat]=u at hg
   have hat:atI (refs ts) (((Builtin.Int.intBits b:Nat):Int) - 1)=some (.ref u.1):=by
    have e:=atI_nat (xs:=refs ts) (j:=(((Builtin.Int.intBits b:Nat):Int) - 1).toNat) (v:=.ref u.1) (by rw [refs,List.getElem?_map,hg]; rfl)
    rw [Int.toNat_of_nonneg g0] at e
    exact e
   have hgw:(ts.map (·.2))[(((Builtin.Int.intBits b:Nat):Int) - 1).toNat]?=some u.2:=by rw [List.getElem?_map,hg]; rfl
   refine ⟨_,rfl,_,rfl,b,rfl,a,_,_,_,rfl,rfl,SqL.of ha,hat,u.1,u.2,rfl,ht u (List.mem_of_getElem? hg),fun l H1 s1 nl hl=>?_⟩
   obtain ⟨us,e1,e2,e3⟩:=hl
   have sz:(refs us).length≤sizeLine:=by
    have z:us.length=(waysOf u.2).length:=by rw [← e3,List.length_map]
    have z2:(waysOf u.2).length≤2:=by unfold waysOf; split <;> simp
    exact Nat.le_of_lt (small1000 (by rw [refs_len]; omega))
   refine ⟨_,rfl,l,rfl,⟨_,SqL.of e1⟩,fun acc na=>comp_listF (K:=K) (a:=l) (ys:=refs us) (fun i zs σ H'=>(∃ x y,σ=[x,y,some (.int w)])∧Same H1 H'∧zs=((((waysOf u.2).take i).filter fun z=>decide (z.1≤w)).map (·.2)).map V.int) ⟨⟨none,none,rfl⟩,Same.new na,rfl⟩ (fun i zs σ H' _ _ hp=>SqL.of (hp.2.1 _ _ e1)) ?_ ?_⟩
   ·rintro i x zs σ H2 hx hi hl' ha' ⟨⟨x0,y0,rfl⟩,s2,hz⟩
    obtain ⟨v,hv,rfl⟩:=refs_get hx
    have hv2:=s2 _ _ (e2 v (List.mem_of_getElem? hv))
    have tk1:(waysOf u.2).take (i+1)=(waysOf u.2).take i++[v.2]:=by rw [← e3,List.take_succ,List.getElem?_map,hv]; rfl
    cases c2:decide (v.2.1≤w) with
    | true =>
     refine ⟨v.1,_,rfl,SqT.of hv2,rfl,_,_,rfl,_,_,rfl,rfl,_,rfl,_,rfl,_,_,rfl,rfl,true,congrArg V.bl c2,_,rfl,fNx.mk sz hi hl' ha' ⟨⟨_,_,rfl⟩,fun d o e=>by rw [upd_ne (ne_of_none e na)]; exact s2 d o e,?_⟩⟩
     rw [tk1,List.filter_append,List.filter_cons,if_pos c2,List.map_append,List.map_append,hz]; rfl
    | false =>
     refine ⟨v.1,_,rfl,SqT.of hv2,rfl,_,_,rfl,_,_,rfl,rfl,_,rfl,_,rfl,_,_,rfl,rfl,false,congrArg V.bl c2,fSk.mk hi hl' ha' ⟨⟨_,_,rfl⟩,s2,?_⟩⟩
     rw [tk1,List.filter_append,List.filter_cons,if_neg (by rw [c2]; exact Bool.false_ne_true),List.map_append,hz]
     simp
   ·rintro zs σ H2 hl' ha' ⟨_,s2,hz⟩
    have z:(refs us).length=(waysOf u.2).length:=by rw [refs_len,← e3,List.length_map]
    rw [z,List.take_length] at hz
    refine ⟨acc,lows u.2 w,rfl,SqL.of (by rw [ha',hz]; rfl),fun e=>q 13 H2 (s1.trans s2) ⟨fun _=>⟨u.2,hgw,.inl ⟨e,rfl⟩⟩,fun z=>?_⟩,fun m hm hle=>q m H2 (s1.trans s2) ⟨fun _=>⟨u.2,hgw,.inr ⟨hm,hle⟩⟩,fun z=>?_⟩⟩
    ·rw [c] at z; cases z
    ·rw [c] at z; cases z
  ·refine ⟨_,rfl,_,rfl,_,rfl,d,b,w,okk,ad,h,rfl,tab,b1,b2,bn,w1,w2,fun l ts H1 s1 nl hl hc hts few=>?_⟩
   have sz:(refs ts).length≤sizeLine:=Nat.le_of_lt (Nat.lt_of_le_of_lt (by rw [refs_len]; exact few) (by decide:1000 < sizeLine))
   refine ⟨l,rfl,⟨_,SqL.of hl⟩,fun acc na=>comp_list (K:=K) (a:=l) (ys:=refs ts) (fun i zs σ H'=>(∃ x,σ=[x])∧Same H1 H'∧zs=((ts.take i).map (·.2.1)).map V.int) ⟨⟨none,rfl⟩,Same.new na,rfl⟩ (fun i zs σ H' _ _ hp=>SqL.of (hp.2.1 _ _ hl)) ?_ ?_⟩
   ·rintro i x zs σ H2 hx hi hl' ha' ⟨⟨x0,rfl⟩,s2,hz⟩
    obtain ⟨v,hv,rfl⟩:=refs_get hx
    have e:=hc v (List.mem_of_getElem? hv)
    refine ⟨_,rfl,v.1,_,_,_,rfl,rfl,SqT.of (s2 _ _ e),atI_nat (j:=0) rfl,cNx.mk sz hi hl' ha' ⟨⟨_,rfl⟩,fun d o e=>by rw [upd_ne (ne_of_none e na)]; exact s2 d o e,?_⟩⟩
    rw [List.take_succ,hv,List.map_append,List.map_append,hz]; rfl
   ·rintro zs σ H2 hl' ha' ⟨_,s2,hz⟩
    have hts1:ts.map (·.2.1)=cutH h b w:=by rw [← cutsF_fst,← hts,List.map_map]; rfl
    rw [refs_len,List.take_length,hts1] at hz
    have ne:cutH h b w≠[]:=fun z=>by
     cases e:plist b with
     | nil=>exact nal c e
     | cons p r =>
      have:=cutL_in (h:=h) (w:=w) (show p∈plist b from by rw [e]; simp)
      rw [z] at this
      cases this
    refine ⟨acc,cutH h b w,rfl,SqL.of (by rw [ha',hz]),rfl,ne,fun m hm hle=>⟨13,m,rfl,?_⟩⟩
    exact q _ H2 (s1.trans s2) ⟨fun z=>(by rw [c] at z; cases z),fun _=>⟨m,hm,hle,rfl⟩⟩
theorem S_heights_of_parts:FnScope ["wants","bits","heights","part","least"] ["wants","bits"] (defScope s_heights_of_parts):=⟨rfl,rfl,rfl,by decide +kernel,rfl,by decide +kernel,by decide +kernel⟩
theorem rat_cons {z:Int} {r:List Int} {k:Nat}:rat (z :: r) (1+(k:Int))=r.getD k 0:=by
 unfold rat
 rw [show (1+(k:Int)).toNat=k+1 from by omega]
 rfl
theorem getD_snoc {r:List Int} {z:Int} {k:Nat}:(r++[z]).getD k 0=if k < r.length then r.getD k 0 else if k=r.length then z else 0:=by
 rw [List.getD_eq_getElem?_getD,List.getD_eq_getElem?_getD,List.getElem?_append]
 by_cases h:k < r.length
 ·rw [if_pos h,if_pos h]
 ·rw [if_neg h,if_neg h]
  by_cases e:k=r.length
  ·rw [if_pos e,e,Nat.sub_self]; rfl
  ·rw [if_neg e,List.getElem?_eq_none (by simp; omega)]; rfl
theorem ok_heights_of_parts {f:Addr} {fd:FuncData} (F:Fun K "heights_of_parts" "heights_of_parts" s_heights_of_parts f fd) (T:Txt mg t1 t2 t3 t4 t5 t6) (D_all_parts:DefOk P w K mg base 1 "all_parts" ["bits"] sp_parts) (D_least_height:DefOk P w K mg base 4 "least_height" ["wants","heights","bits","width"] sp_low):FnOk P w K mg base CX0 5 f fd ["wants","bits"] sp_heights:=by
 have S:=S_heights_of_parts
 refine F.ok S (fun vs H Q E h=>?_) (fun cdv A outer s H vs Q E hr h=>?_)
 ·obtain ⟨a,ws,b,rfl,_⟩:=h; rfl
 ·obtain ⟨a,ws,b,rfl,hw,few,hb0,hb1,q⟩:=h
  have hu:=hu_of hr
  have hb2:2^ws.length - 1≤63:=by
   have:∀ n:Nat,n≤6→2^n - 1≤63:=by decide +kernel
   exact this _ few
  have sole:=fun b=>sole_of (n:=ws.length) (b:=b) (by omega)
  generalize 2^ws.length - 1=n at hb1 hb2 sole
  have srt:=parts_sorted b
  have memk:∀ {p:Int},p∈partsOf b→1≤p∧p≤b∧isPart b p=true:=fun {p} hp=>by
   obtain ⟨⟨a,c⟩,d⟩:=mem_partsOf.mp hp
   exact ⟨a,c,d⟩
  have lenk:(partsOf b).length≤63:=by
   have:=List.length_filter_le (isPart b) (upto b.toNat)
   rw [upto_len] at this
   unfold partsOf
   omega
  have step:∀ {i:Nat} {p:Int},(partsOf b)[i]?=some p→∀ q∈plist p,q∈(partsOf b).take i∧p - q∈(partsOf b).take i:=fun {i p} hp q hq=>by
   obtain ⟨a1,a2,a3⟩:=memk (List.mem_of_getElem? hp)
   obtain ⟨q1,q2,q3⟩:=plist_up hq
   obtain ⟨t1,t2⟩:=part_trans (b:=b) (by omega) (by omega) a1 (by omega) a3 hq
   exact ⟨(take_lt srt hp).mpr ⟨mem_partsOf.mpr ⟨⟨q1,by omega⟩,t1⟩,q2⟩,(take_lt srt hp).mpr ⟨mem_partsOf.mpr ⟨⟨q3,by omega⟩,t2⟩,by omega⟩⟩
  refine ⟨_,(pss_cons (ps_set (i:=2) S.nd rfl (Or.inr rfl) pe_dnewK)
   (pss_cons (ps_for PassesOwn.never rfl (pi_list (pe_fn D_all_parts hr (pa_cons (pv 1) pa_nil))) (pg_name (i:=3) S.nd rfl (Or.inr rfl)) (pss_cons (ps_setComp rfl (pg_name (i:=4) S.nd rfl (Or.inl rfl)) (pi_range2 rfl T.z_range (pa_cons pe_int (pa_cons (pe_op op_add (pe_glob (v:=.int 12) rfl T.g_LONGEST_SIDE ⟨_,rfl⟩) pe_int) pa_nil))) (fun _ _ _ _ _=>(pg_name (i:=0) (show List.Nodup (["width","wants","heights","part"]:List Str) from by decide +kernel) rfl (Or.inl rfl))) (fun _ _ _ _ _=>(pe_fn D_least_height hr (pa_cons (pv 1) (pa_cons (pv 2) (pa_cons (pv 3) (pa_cons (pv 0) pa_nil)))))) (N:=["width","wants","heights","part"]) (fr:=[none,some 0,some 2,some 3]))
   (pss_one (ps_dput hu (pv 2) (pv 3) (pe_op op_cat (pe_lst (pa_cons (pe_glob (v:=.int 13) rfl T.g_TOO_HIGH ⟨_,rfl⟩) pa_nil)) (pv 4)) rfl))))
   (pss_one (ps_ret (pv 2))))),?_⟩
  refine fun d nd=>⟨_,rfl,b,rfl,hb0,by omega,fun pl H1 s1 npl hpl=>?_⟩
  have s01:Same H H1:=fun c o e=>s1 c o ((Same.new (o:=.dK []) nd) c o e)
  have hd1:H1 d=some (.dK []):=s1 _ _ upd_same
  have ndp:pl≠d:=fun z=>by rw [z,upd_same] at npl; cases npl
  refine ⟨pl,rfl,⟨_,SqL.of hpl⟩,for_list (K:=K) (a:=pl) (xs:=(partsOf b).map V.int) (fun i σ H'=>(∃ x y,σ=[some (.ref a),some (.int b),some (.ref d),x,y])∧SameX d H1 H'∧∃ ad h,H' d=some (.dK (kvL ad ((partsOf b).take i)))∧(∀ p∈(partsOf b).take i,H' (ad p)=some (.lst ((h p).map V.int))∧(h p).length=13)∧∀ p∈(partsOf b).take i,Row ws h p)
   ⟨⟨none,none,rfl⟩,SameX.refl,(fun _=>0),(fun _=>[]),hd1,(fun p hp=>nomatch hp),(fun p hp=>nomatch hp)⟩ (fun i σ H' _ hp=>SqL.of (hp.2.1 _ _ ndp hpl)) ?_ ?_⟩
  ·rintro i x σ H2 hx ⟨⟨x0,y0,rfl⟩,s2,ad,h,hd2,row2,rows⟩
   obtain ⟨p,hp,rfl⟩:=ints_get hx
   obtain ⟨p1,p2,p3⟩:=memk (List.mem_of_getElem? hp)
   have tk:(partsOf b).take (i+1)=(partsOf b).take i++[p]:=by rw [List.take_succ,hp]; rfl
   have lti:∀ q∈(partsOf b).take i,q < p:=fun q hq=>((take_lt srt hp).mp hq).2
   have npk:p ∉ (partsOf b).take i:=fun z=>absurd (lti p z) (Int.lt_irrefl p)
   have s02:Same H H2:=s2.same s01 nd
   have tab:TabG H2 d (fun q=>q∈(partsOf b).take i) ad h:=⟨⟨_,.inl hd2,fun q hq=>by rw [kvL_val,if_pos hq]⟩,row2⟩
   obtain ⟨so1,so2⟩:=sole p p1 (by omega)
   refine ⟨_,_,rfl,rfl,1,13,rfl,⟨by omega,by omega,by omega,by omega⟩,fun acc na=>comp_range (lo:=1) (n:=((13:Int) - 1).toNat) (fun j zs σ H'=>(∃ y,σ=[y,some (.ref a),some (.ref d),some (.int p)])∧Same H2 H'∧∃ rs:List Int,zs=rs.map V.int∧∀ k,k < j→Low ws h p (1+(k:Int)) (rs.getD k 0)) ⟨⟨none,rfl⟩,Same.new na,[],rfl,fun k hk=>by omega⟩ ?_ ?_⟩
   ·rintro j zs σ H3 hj hz ha ⟨⟨y,rfl⟩,s3,rs,rfl,low⟩
    have hj:j < 12:=hj
    rw [List.length_map] at hz
    refine ⟨_,rfl,_,rfl,_,rfl,_,rfl,a,d,ws,p,1+(j:Int),_,ad,h,rfl,hw.same (s02.trans s3),tab.same s3,p1,by omega,step hp,so1,so2,by omega,by omega,fun z H4 s4 lo=>?_⟩
    refine cNx.mk (by decide) hj (by rw [List.length_map]; exact hz) (s4 _ _ ha) ⟨⟨_,rfl⟩,fun c o e=>by rw [upd_ne (ne_of_none e na)]; exact s4 _ _ (s3 c o e),rs++[z],by rw [List.map_append]; rfl,fun k hk=>?_⟩
    rw [getD_snoc,hz]
    by_cases e:k < j
    ·rw [if_pos e]; exact low k e
    ·have e:k=j:=by omega
     rw [if_neg (by omega),if_pos e,e]; exact lo
   ·rintro zs σ H3 hz ha ⟨_,s3,rs,rfl,low⟩
    rw [List.length_map] at hz
    have hz:rs.length=12:=hz
    refine ⟨lenOk 1,fun q1 nq=>?_⟩
    have s4:Same H3 (upd H3 q1 (.lst [.int 13])):=Same.new nq
    refine ⟨_,rfl,q1,acc,_,_,rfl,rfl,upd_same,s4 _ _ ha,Nat.le_of_lt (small1000 (by rw [List.length_map,hz]; decide)),fun r nr=>?_⟩
    have s5:Same (upd H3 q1 (.lst [.int 13])) (upd (upd H3 q1 (.lst [.int 13])) r (.lst ([.int 13]++rs.map V.int))):=Same.new nr
    have e5:(upd (upd H3 q1 (.lst [.int 13])) r (.lst ([.int 13]++rs.map V.int))) r=some (.lst ((13 :: rs).map V.int)):=upd_same
    have s25:Same H2 (upd (upd H3 q1 (.lst [.int 13])) r (.lst ([.int 13]++rs.map V.int))):=s3.trans (s4.trans s5)
    generalize upd (upd H3 q1 (.lst [.int 13])) r (.lst ([.int 13]++rs.map V.int))=H5 at e5 s25 ⊢
    clear s4 s5
    have hd5:=s25 _ _ hd2
    have rd:r≠d:=fun z=>by rw [z,hd5] at e5; cases e5
    refine ⟨_,rfl,_,rfl,d,_,rfl,DPut.k (k:=Sum.inl p) hd5 (small1000 (by rw [kvL_len,List.length_take]; omega)),⟨_,_,rfl⟩,fun c o nc e=>?_,fun z=>if z=p then r else ad z,fun z=>if z=p then 13 :: rs else h z,?_,fun q hq=>?_,fun q hq=>?_⟩
    ·rw [upd_ne nc]
     exact s25 _ _ (s2 c o nc e)
    ·rw [upd_same,tk,kvL_put npk]
    ·show (upd H5 d _) (if q=p then r else ad q)=some (.lst ((if q=p then 13 :: rs else h q).map V.int))∧(if q=p then 13 :: rs else h q).length=13
     by_cases e:q=p
     ·rw [if_pos e,if_pos e,upd_ne rd]
      exact ⟨e5,by rw [List.length_cons,hz]⟩
     ·rw [tk] at hq
      have hq:q∈(partsOf b).take i:=by
       rcases List.mem_append.mp hq with z | z
       ·exact z
       ·exact absurd (List.mem_singleton.mp z) e
      obtain ⟨o1,o2⟩:=row2 q hq
      have o1:=s25 _ _ o1
      rw [if_neg e,if_neg e,upd_ne (fun z=>by rw [z,hd5] at o1; cases o1)]
      exact ⟨o1,o2⟩
    ·have same:∀ x,1≤x→x < p→h x=(fun z=>if z=p then 13 :: rs else h z) x:=fun x _ x2=>by
      show h x=if x=p then 13 :: rs else h x
      rw [if_neg (by omega)]
     by_cases e:q=p
     ·subst e
      have er:(fun z=>if z=q then 13 :: rs else h z) q=13 :: rs:=if_pos rfl
      refine ⟨by rw [er]; rfl,fun w w1 w2=>?_⟩
      have lo:=low (w - 1).toNat (by show (w - 1).toNat < 12; omega)
      rw [← rat_cons (z:=13),show 1+((w - 1).toNat:Int)=w from by omega] at lo
      rw [er]
      exact lo.congr same
     ·rw [tk] at hq
      have hq:q∈(partsOf b).take i:=by
       rcases List.mem_append.mp hq with z | z
       ·exact z
       ·exact absurd (List.mem_singleton.mp z) e
      have lt:=lti q hq
      obtain ⟨o1,o2⟩:=rows q hq
      have er:(fun z=>if z=p then 13 :: rs else h z) q=h q:=if_neg e
      refine ⟨by rw [er]; exact o1,fun w w1 w2=>?_⟩
      rw [er]
      exact (o2 w w1 w2).congr fun x x1 x2=>same x x1 (by omega)
  ·rintro σ H2 ⟨⟨x0,y0,rfl⟩,s2,ad,h,hd2,row2,rows⟩
   rw [List.length_map,List.take_length] at hd2 row2 rows
   exact ⟨_,rfl,q d ad h H2 (s2.same s01 nd) nd hd2 row2 rows⟩
theorem S_stair:FnScope ["least"] ["least"] (defScope s_stair):=⟨rfl,rfl,rfl,by decide +kernel,rfl,by decide +kernel,by decide +kernel⟩
theorem ok_stair {f:Addr} {fd:FuncData} (F:Fun K "stair" "stair" s_stair f fd) (T:Txt mg t1 t2 t3 t4 t5 t6):FnOk P w K mg base CX0 1 f fd ["least"] sp_stair:=by
 have S:=S_stair
 refine F.ok S (fun vs H Q E h=>?_) (fun cdv A outer s H vs Q E hr h=>?_)
 ·obtain ⟨l,r,rfl,_⟩:=h; rfl
 ·obtain ⟨l,r,rfl,hl,hlen,q⟩:=h
  refine ⟨_,(pss_one (ps_ret (pe_compF rfl (pi_range2 rfl T.z_range (pa_cons pe_int (pa_cons (pe_op op_add (pe_glob (v:=.int 12) rfl T.g_LONGEST_SIDE ⟨_,rfl⟩) pe_int) pa_nil))) (fun _ _ _ _ _=>(pg_name (i:=0) (show List.Nodup (["width","least"]:List Str) from by decide +kernel) rfl (Or.inl rfl))) (fun _ _ _ _ _=>(pt_cmpR op_lt (pe_ix (ix_listK (K:=K)) (pv 1) (pv 0) (fun _ _=>rfl)) (pe_ix (ix_listK (K:=K)) (pv 1) (pe_op op_sub (pv 0) pe_int) (fun _ _=>rfl)) (nomark _))) (fun _ _ _ _ _=>(pe_tup (pa_cons (pv 0) (pa_cons (pe_ix (ix_listK (K:=K)) (pv 1) (pv 0) (fun _ _=>rfl)) pa_nil)))) (N:=["width","least"]) (fr:=[none,some 0])))),?_⟩
  refine ⟨_,_,rfl,rfl,1,13,rfl,⟨by omega,by omega,by omega,by omega⟩,fun acc na=>comp_rangeF (lo:=1) (n:=((13:Int) - 1).toNat) (fun i zs σ H'=>(∃ y,σ=[y,some (.ref l)])∧Same H H'∧∃ us:List (Addr × Int × Int),zs=refs us∧(∀ t∈us,H' t.1=some (.tup [.int t.2.1,.int t.2.2])∧t.1≠acc)∧us.map (·.2)=((upto i).filter (isStep r)).map fun w=>(w,rat r w)) ⟨⟨none,rfl⟩,Same.new na,[],rfl,(fun t ht=>nomatch ht),rfl⟩ ?_ ?_⟩
  ·rintro i zs σ H1 hi hz ha ⟨⟨y,rfl⟩,s1,us,rfl,hus,hm⟩
   have hi:i < 12:=hi
   have a1:=at_rat (r:=r) (i:=1+(i:Int)) (by omega) (by omega)
   have a2:=at_rat (r:=r) (i:=1+(i:Int) - 1) (by omega) (by omega)
   cases c:isStep r (1+(i:Int)) with
   | true =>
    refine ⟨_,rfl,_,rfl,l,_,_,_,rfl,rfl,SqL.of (s1 _ _ hl),a1,_,rfl,_,rfl,_,_,rfl,rfl,l,_,_,_,rfl,rfl,SqL.of (s1 _ _ hl),a2,_,_,rfl,rfl,true,congrArg V.bl c,?_⟩
    refine ⟨_,rfl,_,rfl,_,rfl,l,_,_,_,rfl,rfl,SqL.of (s1 _ _ hl),a1,lenOk 2,fun t nt=>?_⟩
    have nt':t≠acc:=fun z=>by rw [z,ha] at nt; cases nt
    have s2:Same H1 (upd H1 t (.tup [.int (1+(i:Int)),.int (rat r (1+(i:Int)))])):=Same.new nt
    refine fNx.mk (by decide) hi hz (s2 _ _ ha) ⟨⟨_,rfl⟩,fun d o e=>by rw [upd_ne (ne_of_none e na)]; exact s2 _ _ (s1 d o e),us++[(t,1+(i:Int),rat r (1+(i:Int)))],by rw [refs,refs,List.map_append]; rfl,fun u hu=>?_,?_⟩
    ·rcases List.mem_append.mp hu with hu | hu
     ·obtain ⟨e,n⟩:=hus u hu
      exact ⟨by rw [upd_ne n]; exact s2 _ _ e,n⟩
     ·rw [List.mem_singleton.mp hu]
      exact ⟨by rw [upd_ne nt']; exact upd_same,nt'⟩
    ·rw [filt_yes c,List.map_append,List.map_append,hm]; rfl
   | false =>
    refine ⟨_,rfl,_,rfl,l,_,_,_,rfl,rfl,SqL.of (s1 _ _ hl),a1,_,rfl,_,rfl,_,_,rfl,rfl,l,_,_,_,rfl,rfl,SqL.of (s1 _ _ hl),a2,_,_,rfl,rfl,false,congrArg V.bl c,fSk.mk hi hz ha ⟨⟨_,rfl⟩,s1,us,rfl,hus,by rw [filt_no c,hm]⟩⟩
  ·rintro zs σ H1 hz ha ⟨_,s1,us,rfl,hus,hm⟩
   exact q acc H1 s1 na ⟨us,ha,fun t ht=>(hus t ht).1,hm⟩
theorem S_all_bits:FnScope ["wants"] ["wants"] (defScope s_all_bits):=⟨rfl,rfl,rfl,by decide +kernel,rfl,by decide +kernel,by decide +kernel⟩
theorem ok_all_bits {f:Addr} {fd:FuncData} (F:Fun K "all_bits" "all_bits" s_all_bits f fd) (T:Txt mg t1 t2 t3 t4 t5 t6):FnOk P w K mg base CX0 1 f fd ["wants"] sp_bits:=by
 have S:=S_all_bits
 refine F.ok S (fun vs H Q E h=>?_) (fun cdv A outer s H vs Q E hr h=>?_)
 ·obtain ⟨a,xs,rfl,_⟩:=h; rfl
 ·obtain ⟨a,xs,rfl,ha,few,q⟩:=h
  refine ⟨_,(pss_one (ps_ret (pe_op op_sub (pe_op op_shl pe_int (pe_callB call_len_seq rfl T.z_len rfl (pa_cons (pv 0) pa_nil))) pe_int))),?_⟩
  exact ⟨_,rfl,a,_,rfl,.inl (SqL.of ha),_,_,rfl,rfl,⟨by omega,by omega,by decide⟩,_,_,rfl,rfl,q⟩
theorem S_stairs:FnScope ["wants","found","bits","least"] ["wants"] (defScope s_stairs):=⟨rfl,rfl,rfl,by decide +kernel,rfl,by decide +kernel,by decide +kernel⟩
theorem ok_stairs {f:Addr} {fd:FuncData} (F:Fun K "stairs" "stairs" s_stairs f fd) (D_check_wants:DefOkX P w K mg base 4 "check_wants" ["wants"] (sp_check1 cM cA cQ cN cD cS cP)) (D_all_bits:DefOk P w K mg base 1 "all_bits" ["wants"] sp_bits) (D_heights_of_parts:DefOk P w K mg base 5 "heights_of_parts" ["wants","bits"] sp_heights) (D_stair:DefOk P w K mg base 1 "stair" ["least"] sp_stair):FnOk P w K mg base (CX1 P w) 6 f fd ["wants"] (sp_stairs1 cM cA cQ cN cD cS cP):=by
 have S:=S_stairs
 refine F.okx S (fun vs H Q E h=>?_) (fun cdv A outer s H vs Q E hr h=>?_)
 ·obtain ⟨a,xs,gs,rfl,_⟩:=h; rfl
 ·obtain ⟨a,xs,gs,rfl,hxs,th,lg,rr,qq⟩:=h
  have hu:=hu_of hr
  refine ⟨_,(pss_cons (ps_expr (pe_fnx D_check_wants hr (pass_x xeok_cx (pass_u (H:=H) (E:=E))) (pa_cons (pv 0) pa_nil)))
   (pss_cons (ps_set (i:=1) S.nd rfl (Or.inl rfl) pe_dnewK)
   (pss_cons (ps_for own_cx rfl (pi_items (pe_fn D_heights_of_parts hr (pa_cons (pv 0) (pa_cons (pe_fn D_all_bits hr (pa_cons (pv 0) pa_nil)) pa_nil)))) (pg_tup rfl (pgs_cons (pg_name (i:=2) S.nd rfl (Or.inl rfl)) (pgs_cons (pg_name (i:=3) S.nd rfl (Or.inl rfl)) pgs_nil))) (pss_one (ps_dput hu (pv 1) (pv 2) (pe_fn D_stair hr (pa_cons (pv 3) pa_nil)) rfl)))
   (pss_one (ps_ret (pv 1)))))),?_⟩
  refine ⟨_,rfl,a,xs,gs,rfl,hxs,th,lg,fun r hr'=>rfr_u (Same.refl H) (rr r hr'),fun dn H1 s1=>fun fd' nf=>?_⟩
  obtain ⟨ws,rfl,few⟩:=dueW_ok dn
  obtain ⟨us,rfl,u1,u2,ok⟩:=wants_of th
  have hw:WantsAt H a ws:=⟨us,hxs,u1,u2⟩
  have q:=qq dn
  have s2:Same H1 (upd H1 fd' (.dK [])):=Same.new nf
  have hw2:=hw.same (s1.trans s2)
  obtain ⟨ts,ha,ht,hts⟩:=id hw2
  have tl:(refs ts).length=ws.length:=by rw [refs_len,← hts,List.length_map]
  have hb:(0:Int)≤1 * 2^((ws.length:Nat):Int).toNat - 1∧1 * 2^((ws.length:Nat):Int).toNat - 1≤((2^ws.length - 1:Nat):Int):=by
   have:∀ n:Nat,n≤6→(0:Int)≤1 * 2^((n:Nat):Int).toNat - 1∧1 * 2^((n:Nat):Int).toNat - 1≤((2^n - 1:Nat):Int):=by decide +kernel
   exact this _ few
  refine ⟨_,rfl,_,rfl,a,refs ts,rfl,ha,by omega,a,ws,1 * 2^((ws.length:Nat):Int).toNat - 1,by rw [tl]; rfl,hw2,few,hb.1,hb.2,fun d ad h H3 s3 nd hd3 row3 rows3=>?_⟩
  rw [full_ok ws.length (by omega)] at hd3 row3 rows3
  rw [kvL_upto] at hd3
  have tab:Tab H3 d (2^ws.length - 1) ad h:=⟨hd3,fun p p1 p2=>row3 p (mem_upto.mpr ⟨p1,p2⟩)⟩
  have rows:∀ p:Int,1≤p→p≤((2^ws.length - 1:Nat):Int)→Row ws h p:=fun p p1 p2=>rows3 p (mem_upto.mpr ⟨p1,p2⟩)
  have hn:2^ws.length - 1≤63:=by
   have:∀ n:Nat,n≤6→2^n - 1≤63:=by decide +kernel
   exact this _ (by omega)
  generalize 2^ws.length - 1=n at tab rows hn
  have ef:H3 fd'=some (.dK []):=s3 _ _ upd_same
  have ndf:d≠fd':=fun z=>by rw [z,upd_same] at nd; cases nd
  have s13:Same H1 H3:=s2.trans s3
  refine ⟨d,_,rfl,tab.1,fun ob=>for_items (a:=d) (ob:=ob) (kvs:=kvN ad n) (fun i σ H'=>(∃ x y,σ=[some (.ref a),some (.ref fd'),x,y])∧SameX fd' (upd H3 d (.frz ob (.dK (kvN ad n)))) H'∧∃ ad',TabS H' fd' i ad' (fun p=>stairOf (h p)))
   ⟨⟨none,none,rfl⟩,SameX.refl,(fun _=>0),⟨by rw [upd_ne (Ne.symm ndf)]; exact ef,fun p a b=>by omega⟩⟩ (fun i σ H' _ hp=>hp.2.1 _ _ ndf upd_same) ?_ ?_⟩
  ·rintro i p σ H4 t hp ⟨⟨x0,y0,rfl⟩,s4,ad',tabS⟩ nt
   obtain ⟨hi,rfl⟩:=kv_get hp
   obtain ⟨r1,r2⟩:=tab.2 (1+(i:Int)) (by omega) (by omega)
   have nrd:ad (1+(i:Int))≠d:=fun z=>by rw [z,tab.1] at r1; cases r1
   have nrf:ad (1+(i:Int))≠fd':=fun z=>by rw [z,ef] at r1; cases r1
   have r4:=s4 _ _ nrf (show (upd H3 d (.frz ob (.dK (kvN ad n)))) (ad (1+(i:Int)))=_ from by rw [upd_ne nrd]; exact r1)
   have s5:Same H4 (upd H4 t (.tup [kV (Sum.inl (1+(i:Int))),.ref (ad (1+(i:Int)))])):=Same.new nt
   refine ⟨t,_,rfl,SqT.of upd_same,rfl,_,_,rfl,_,_,rfl,rfl,?_⟩
   generalize upd H4 t (.tup [kV (Sum.inl (1+(i:Int))),.ref (ad (1+(i:Int)))])=H5 at s5 ⊢
   refine ⟨_,rfl,ad (1+(i:Int)),h (1+(i:Int)),rfl,s5 _ _ r4,r2,fun l' H6 s6 nl hl=>?_⟩
   have tab6:=tabS.same (s5.trans s6)
   have nlf:l'≠fd':=fun z=>by
    have:=s5 _ _ tabS.1
    rw [z,this] at nl; cases nl
   refine ⟨_,rfl,_,rfl,fd',_,rfl,DPut.k (k:=Sum.inl (1+(i:Int))) tab6.1 (small1000 (by rw [kv_len]; omega)),⟨_,_,rfl⟩,fun c o nc e=>?_,fun z=>if z=1+(i:Int) then l' else ad' z,?_,fun p p1 p2=>?_⟩
   ·rw [upd_ne nc]
    exact s6 _ _ (s5 _ _ (s4 c o nc e))
   ·rw [upd_same]
    show some (HO.dK (putK (kvN ad' i) (Sum.inl (1+(i:Int))) (.ref l')))=some (HO.dK (putK (kvN (fun z=>if z=1+(i:Int) then l' else ad' z) i) (Sum.inl (1+(i:Int))) (.ref (if 1+(i:Int)=1+(i:Int) then l' else ad' (1+(i:Int))))))
    rw [if_pos rfl,kv_congr (ad:=ad') (ad':=fun z=>if z=1+(i:Int) then l' else ad' z) i fun p p1 p2=>by rw [if_neg (by omega)]]
   ·have off:∀ {x:Addr} {zs:List (Int × Int)},TupL H6 x zs→x≠fd'→TupL (upd H6 fd' (.dK (putK (kvN ad' i) (Sum.inl (1+(i:Int))) (.ref l')))) x zs:=fun {x zs} tl nx=>by
     obtain ⟨us,e1,e2,e3⟩:=tl
     exact ⟨us,by rw [upd_ne nx]; exact e1,fun u hu=>by rw [upd_ne (fun z=>by have:=e2 u hu; rw [z,tab6.1] at this; cases this)]; exact e2 u hu,e3⟩
    show TupL (upd H6 fd' _) (if p=1+(i:Int) then l' else ad' p) (stairOf (h p))∧(stairOf (h p)).length≤12
    refine ⟨?_,stair_len _⟩
    by_cases e:p=1+(i:Int)
    ·rw [if_pos e,e]
     exact off hl nlf
    ·rw [if_neg e]
     have o1:=(tab6.2 p p1 (by omega)).1
     refine off o1 fun z=>?_
     obtain ⟨us,e1,_⟩:=o1
     rw [z,tab6.1] at e1; cases e1
  ·rintro σ H4 ⟨⟨x0,y0,rfl⟩,s4,ad',tabS⟩
   rw [kv_len] at tabS
   refine ⟨_,rfl,q _ H4 (s1.trans fun c o e=>?_)⟩
   have ncf:c≠fd':=ne_of_none e nf
   have ncd:c≠d:=fun z=>by
    have:=s2 _ _ e
    rw [z,nd] at this; cases this
   exact s4 c o ncf (by rw [upd_ne ncd]; exact s13 c o e)
theorem S_is_sheet:FnScope ["thing"] ["thing"] (defScope s_is_sheet):=⟨rfl,rfl,rfl,by decide +kernel,rfl,by decide +kernel,by decide +kernel⟩
theorem ok_is_sheet {f:Addr} {fd:FuncData} (F:Fun K "is_sheet" "is_sheet" s_is_sheet f fd) (T:Txt mg t1 t2 t3 t4 t5 t6) (D_is_side:DefOk P w K mg base 2 "is_side" ["thing"] sp_side):FnOk P w K mg base CX0 3 f fd ["thing"] sp_sheet:=by
 have S:=S_is_sheet
 refine F.ok S (fun vs H Q E h=>?_) (fun cdv A outer s H vs Q E hr h=>?_)
 ·obtain ⟨v,g,rfl,_⟩:=h; rfl
 ·obtain ⟨v,g,rfl,hv,q⟩:=h
  refine ⟨_,(pss_cons (ps_if (PW.pt (pw_or (pt_not (pt_val (pe_callB call_isin rfl T.z_isinstance rfl (pa_cons (pv 0) (pa_cons (pe_bltn (v:=.ty "tuple") rfl T.z_tuple rfl rfl) pa_nil))))) (pw_or1 (pt_cmpR op_ne (pe_callB call_len_seq rfl T.z_len rfl (pa_cons (pv 0) pa_nil)) pe_int (nomark _))))) (pss_one (ps_ret pe_bl)) pss_nil)
   (pss_one (ps_ret (pe_and (pe_fn D_is_side hr (pa_cons (pe_ix ix_tup (pv 0) pe_int (fun _ _=>rfl)) pa_nil)) (pe_one (pe_fn D_is_side hr (pa_cons (pe_ix ix_tup (pv 0) pe_int (fun _ _=>rfl)) pa_nil))))))),?_⟩
  rcases hv.two with ⟨a,xs,rfl,ha,hz,ht,hb⟩ | ⟨T',hT,hne,hb⟩
  ·rw [← hb] at q
   refine ⟨_,rfl,.ref a,"tuple","tuple",rfl,ty_tup ha,.inr (.inr (.inl rfl)),_,rfl,iteN (by rw [isB_tt]; rfl) ?_⟩
   refine ⟨_,rfl,a,_,rfl,.inr (SqT.of ha),rfl,_,rfl,ite3 (fun h=>?_) (fun h=>?_)⟩
   ·show Q (.bl false) H
    rw [sheet_no (decN (m:=2) h)] at q; exact q
   ·obtain ⟨x,y,rfl⟩:=len2 (decN' (m:=2) h)
    simp only [List.mem_cons,List.not_mem_nil,or_false,forall_eq_or_imp,forall_eq] at ht
    obtain ⟨tx,ty⟩:=ht
    have q:Q (.bl (sideV x && sideV y)) H:=q
    refine ⟨_,rfl,a,_,_,_,rfl,rfl,SqT.of ha,at2_0,x,rfl,tx,_,rfl,ite3 (fun h1=>?_) (fun h1=>?_)⟩
    ·refine ⟨_,rfl,a,_,_,_,rfl,rfl,SqT.of ha,at2_1,y,rfl,ty,?_⟩
     rw [h1] at q; exact q
    ·show Q (.bl false) H
     rw [h1] at q; exact q
  ·rw [← hb] at q
   exact ⟨_,rfl,_,T',"tuple",rfl,hT,.inr (.inr (.inl rfl)),_,rfl,iteP (by rw [isB_not hne]; rfl) (iteT q)⟩
theorem S_check_sheets:FnScope ["sheets","place","sheet"] ["sheets"] (defScope s_check_sheets):=⟨rfl,rfl,rfl,by decide +kernel,rfl,by decide +kernel,by decide +kernel⟩
theorem ok_check_sheets {f:Addr} {fd:FuncData} (F:Fun K "check_sheets" "check_sheets" s_check_sheets f fd) (T:Txt mg t1 t2 t3 t4 t5 t6) (X_TooMany:XMkOk P w K mg base 1 "TooMany" cM ["self","many"] ["many"]) (X_NoSheet:XMkOk P w K mg base 1 "NoSheet" cD ["self","place"] ["place"]) (D_is_sheet:DefOk P w K mg base 3 "is_sheet" ["thing"] sp_sheet) :
  FnOk P w K mg base (CX1 P w) 4 f fd ["sheets"] (sp_csheets1 cM cA cQ cN cD cS cP):=by
 have S:=S_check_sheets
 refine F.okx S (fun vs H Q E h=>?_) (fun cdv A outer s H vs Q E hr h=>?_)
 ·obtain ⟨a,xs,gs,rfl,_⟩:=h; rfl
 ·obtain ⟨a,xs,gs,rfl,ha,th,few,r,q⟩:=h
  have hl:=th.len
  refine ⟨_,(pss_cons (ps_if (pt_not (pt_chain op_le op_le pe_int (pe_callB call_len_seq rfl T.z_len rfl (pa_cons (pv 0) pa_nil)) (pe_glob (v:=.int 4) rfl T.g_MOST_SHEETS ⟨_,rfl⟩))) (pss_one (ps_raise xeok_cx X_TooMany hr (pa_cons (pe_callB call_len_seq rfl T.z_len rfl (pa_cons (pv 0) pa_nil)) pa_nil))) pss_nil)
   (pss_one (ps_for own_cx rfl (pi_enum rfl T.z_enumerate (pa_cons (pv 0) pa_nil)) (pg_tup rfl (pgs_cons (pg_name (i:=1) S.nd rfl (Or.inl rfl)) (pgs_cons (pg_name (i:=2) S.nd rfl (Or.inl rfl)) pgs_nil))) (pss_one (ps_if (pt_not (pt_val (pe_fn D_is_sheet hr (pa_cons (pv 2) pa_nil)))) (pss_one (ps_raise xeok_cx X_NoSheet hr (pa_cons (pv 1) pa_nil))) pss_nil))))),?_⟩
  have bad:(gs.length < 1∨4 < gs.length)→∀ y dx T H2,H y=none→Same H H2→H2 y=some (ExcO cM dx y)→H2 dx=some (ExcD dx ((["many"]:List Str).zip [V.int xs.length]))→dx≠y→H2 T=none→T≠y→E (.ref y) (some dx) (thrown H2 y cM (some dx) T):=fun c2 y dx T H2 hy s2 e ed nd hT nT=>by
   have rr:RfR cM cA cQ cN cD cS cP H E (.many gs.length):=r _ (by unfold dueS; rw [if_pos c2])
   exact rr.raise (Same.refl H) hy s2 e ed nd hT (by rw [hl]; rfl)
  refine ⟨_,rfl,a,_,rfl,.inl (SqL.of ha),_,_,rfl,rfl,_,rfl,ite3 (fun c=>?_) (fun c=>?_)⟩
  ·have c:(1:Int)≤(xs.length:Int):=of_decide_eq_true c
   refine ⟨_,_,rfl,rfl,_,rfl,ite3 (fun c1=>?_) (fun c1=>?_)⟩
   ·have c1:¬ (xs.length:Int)≤4:=by
     intro z
     have c1:(!decide ((xs.length:Int)≤4))=true:=c1
     rw [decide_eq_true z] at c1; cases c1
    exact ⟨_,rfl,a,_,rfl,.inl (SqL.of ha),rfl,bad (.inr (by omega))⟩
   ·have c1:(xs.length:Int)≤4:=by
     have c1:(!decide ((xs.length:Int)≤4))=false:=c1
     by_cases z:(xs.length:Int)≤4
     ·exact z
     ·rw [decide_eq_false z] at c1; cases c1
    have ed:dueS gs=(fst0 gs).map fun k:Nat=>Rs.sheet (k:Int):=by unfold dueS; rw [if_neg (by omega)]
    refine ⟨_,rfl,a,rfl,⟨_,SqL.of ha⟩,for_enum (K:=K) (a:=a) (xs:=xs) (fun i σ H'=>(∃ x y,σ=[some (.ref a),x,y])∧Same H H'∧∀ j,j < i→∃ t,gs[j]?=some (some t)) ⟨⟨none,none,rfl⟩,Same.refl H,fun j hj=>absurd hj (Nat.not_lt_zero _)⟩ (fun i σ H' _ hp=>SqL.of (hp.2.1 _ _ ha)) ?_ ?_⟩
    ·rintro i x σ H1 t hx ⟨⟨x0,y0,rfl⟩,s1,all⟩ nt
     obtain ⟨g,hg,wt⟩:=th.get hx
     have s2:Same H1 (upd H1 t (.tup [.int i,x])):=Same.new nt
     refine ⟨t,_,rfl,SqT.of upd_same,rfl,_,_,rfl,_,_,rfl,rfl,_,rfl,x,g,rfl,wt.same (s1.trans s2),_,rfl,?_⟩
     cases g with
     | some t =>
      refine iteF ⟨⟨_,_,rfl⟩,s1.trans s2,fun j hj=>?_⟩
      rcases Nat.lt_or_ge j i with z | z
      ·exact all j z
      ·obtain rfl:j=i:=by omega
       exact ⟨t,hg⟩
     | none =>
      have rr:RfR cM cA cQ cN cD cS cP H E (.sheet i):=r _ (by rw [ed,fst0_some hg all]; rfl)
      exact iteT ⟨_,rfl,rfl,fun y dx T H2 hy s3 e ed nd hT nT=>rr.raise (s1.trans s2) hy s3 e ed nd hT rfl⟩
    ·rintro σ H1 ⟨_,s1,all⟩
     exact q (by rw [ed,fst0_none (fun j hj=>all j (by omega))]; rfl) H1 s1
  ·have c:¬ (1:Int)≤(xs.length:Int):=of_decide_eq_false c
   exact ⟨_,rfl,iteT ⟨_,rfl,a,_,rfl,.inl (SqL.of ha),rfl,bad (.inl (by omega))⟩⟩
theorem S_heights_for:FnScope ["wants","sheets"] ["wants","sheets"] (defScope s_heights_for):=⟨rfl,rfl,rfl,by decide +kernel,rfl,by decide +kernel,by decide +kernel⟩
theorem ok_heights_for {f:Addr} {fd:FuncData} (F:Fun K "heights_for" "heights_for" s_heights_for f fd) (D_check_wants:DefOkX P w K mg base 4 "check_wants" ["wants"] (sp_check1 cM cA cQ cN cD cS cP)) (D_check_sheets:DefOkX P w K mg base 4 "check_sheets" ["sheets"] (sp_csheets1 cM cA cQ cN cD cS cP)) (D_all_bits:DefOk P w K mg base 1 "all_bits" ["wants"] sp_bits) (D_heights_of_parts:DefOk P w K mg base 5 "heights_of_parts" ["wants","bits"] sp_heights):FnOk P w K mg base (CX1 P w) 6 f fd ["wants","sheets"] (sp_hfor1 cM cA cQ cN cD cS cP):=by
 have S:=S_heights_for
 refine F.okx S (fun vs H Q E h=>?_) (fun cdv A outer s H vs Q E hr h=>?_)
 ·obtain ⟨a,b,xs,ys,gs,hs,rfl,_⟩:=h; rfl
 ·obtain ⟨a,b,xs,ys,gs,hs,rfl,hxs,th,lg,hys,sh,lh,rr,qq⟩:=h
  refine ⟨_,(pss_cons (ps_expr (pe_fnx D_check_wants hr (pass_x xeok_cx (pass_u (H:=H) (E:=E))) (pa_cons (pv 0) pa_nil)))
   (pss_cons (ps_expr (pe_fnx D_check_sheets hr (pass_x xeok_cx (pass_u (H:=H) (E:=E))) (pa_cons (pv 1) pa_nil)))
   (pss_one (ps_ret (pe_fn D_heights_of_parts hr (pa_cons (pv 0) (pa_cons (pe_fn D_all_bits hr (pa_cons (pv 0) pa_nil)) pa_nil))))))),?_⟩
  refine ⟨_,rfl,a,xs,gs,rfl,hxs,th,lg,fun r hr'=>rfr_u (Same.refl H) (rr r (by unfold dueP; rw [hr']; rfl)),fun dn H1 s1=>?_⟩
  refine ⟨_,rfl,b,ys,hs,rfl,s1 _ _ hys,sh.mono (fun v g k=>k.same s1),lh,fun r hr'=>rfr_u s1 (rr r (by unfold dueP; rw [dn,hr']; rfl)),fun dn' H2 s2=>?_⟩
  obtain ⟨ws,rfl,few⟩:=dueW_ok dn
  obtain ⟨ss,rfl,l1,l2⟩:=dueS_ok dn'
  obtain ⟨us,rfl,u1,u2,ok⟩:=wants_of th
  have hw:WantsAt H a ws:=⟨us,hxs,u1,u2⟩
  have q:=qq ws ss rfl few rfl l1 l2
  have hw2:=hw.same (s1.trans s2)
  obtain ⟨ts,ha,ht,hts⟩:=id hw2
  have tl:(refs ts).length=ws.length:=by rw [refs_len,← hts,List.length_map]
  have hb:(0:Int)≤1 * 2^((ws.length:Nat):Int).toNat - 1∧1 * 2^((ws.length:Nat):Int).toNat - 1≤((2^ws.length - 1:Nat):Int):=by
   have:∀ n:Nat,n≤6→(0:Int)≤1 * 2^((n:Nat):Int).toNat - 1∧1 * 2^((n:Nat):Int).toNat - 1≤((2^n - 1:Nat):Int):=by decide +kernel
   exact this _ few
  refine ⟨_,rfl,_,rfl,a,refs ts,rfl,ha,by omega,a,ws,1 * 2^((ws.length:Nat):Int).toNat - 1,by rw [tl]; rfl,hw2,few,hb.1,hb.2,fun d ad h H3 s3 nd hd3 row3 rows3=>?_⟩
  rw [full_ok ws.length (by omega)] at hd3 row3 rows3
  rw [kvL_upto] at hd3
  exact q d ad h H3 (s1.trans (s2.trans s3)) (wasNone (s1.trans s2) nd) ⟨hd3,fun p p1 p2=>row3 p (mem_upto.mpr ⟨p1,p2⟩)⟩ fun p p1 p2=>rows3 p (mem_upto.mpr ⟨p1,p2⟩)
theorem S_cheapest_sheets:FnScope ["heights","sheets","cheapest","bits","least","large"] ["heights","sheets"] (defScope s_cheapest_sheets):=⟨rfl,rfl,rfl,by decide +kernel,rfl,by decide +kernel,by decide +kernel⟩
theorem ChpS.put {H:Hp} {c:Addr} {i:Nat} {h:Int→List Int} {ss:List (Int × Int)} {kvs:List (Key × V)} {t:Addr} {m x:Int} (hl:kvs.length≤i) (h0:∀ q:Int,q < 1∨(i:Int) < q→valV kvs (Sum.inl q)=none)
  (h1:∀ q:Int,1≤q→q≤i→(cost (h q) ss=none∧valV kvs (Sum.inl q)=none)∨∃ (m:Int) (a:Addr) (y:Int),cost (h q) ss=some m∧valV kvs (Sum.inl q)=some (.ref a)∧H a=some (.tup [.int m,.int y])∧ShOk (h q) ss (m,y)) (hc:H c=some (.dK kvs)) (e:cost (h (1+(i:Int))) ss=some m) (ht:H t=some (.tup [.int m,.int x])) (sh:ShOk (h (1+(i:Int))) ss (m,x)) :
  ChpS (upd H c (.dK (putK kvs (Sum.inl (1+(i:Int))) (.ref t)))) c (i+1) h ss:=by
 have off:∀ {a:Addr} {xs:List V},H a=some (.tup xs)→(upd H c (.dK (putK kvs (Sum.inl (1+(i:Int))) (.ref t)))) a=some (.tup xs):=fun {a xs} e=>by rw [upd_ne (fun z=>by rw [z,hc] at e; cases e)]; exact e
 refine ⟨_,upd_same,?_,fun q hq=>?_,fun q q1 q2=>?_⟩
 ·have z:valV kvs (Sum.inl (1+(i:Int)))=none:=h0 _ (.inr (by omega))
  have e:(kvs.any fun kv=>decide (kv.1=Sum.inl (1+(i:Int))))=false:=by rw [valV_any,z]; rfl
  unfold putK
  rw [e,if_neg Bool.false_ne_true,List.length_append,List.length_singleton]
  omega
 ·rw [valV_put,if_neg (fun z=>by have:=Sum.inl.inj z; omega)]
  exact h0 q (by omega)
 ·rw [valV_put]
  by_cases eq:q=1+(i:Int)
  ·rw [if_pos (by rw [eq]),eq]
   exact .inr ⟨m,t,x,e,rfl,off ht,sh⟩
  ·rw [if_neg (fun z=>eq (Sum.inl.inj z))]
   rcases h1 q q1 (by omega) with z | ⟨m',a',x',z1,z2,z3,z4⟩
   ·exact .inl z
   ·exact .inr ⟨m',a',x',z1,z2,off z3,z4⟩
theorem ok_cheapest_sheets {f:Addr} {fd:FuncData} (F:Fun K "cheapest_sheets" "cheapest_sheets" s_cheapest_sheets f fd) (T:Txt mg t1 t2 t3 t4 t5 t6):FnOk P w K mg base CX0 1 f fd ["heights","sheets"] sp_cheap:=by
 have S:=S_cheapest_sheets
 refine F.ok S (fun vs H Q E h=>?_) (fun cdv A outer s H vs Q E hr h=>?_)
 ·obtain ⟨d,b,ss,n,ad,h,rfl,_⟩:=h; rfl
 ·obtain ⟨d,b,ss,n,ad,h,rfl,tab,hn,tb,l2,so,q⟩:=h
  have hu:=hu_of hr
  refine ⟨_,(pss_cons (ps_set (i:=2) S.nd rfl (Or.inl rfl) pe_dnewK)
   (pss_cons (ps_for PassesOwn.never rfl (pi_items (pv 0)) (pg_tup rfl (pgs_cons (pg_name (i:=3) S.nd rfl (Or.inl rfl)) (pgs_cons (pg_name (i:=4) S.nd rfl (Or.inr rfl)) pgs_nil))) (pss_cons (ps_setCompF rfl (pg_name (i:=5) S.nd rfl (Or.inl rfl)) (pi_enum rfl T.z_enumerate (pa_cons (pv 1) pa_nil)) (fun _ _ _ _ _=>(pg_tupK (K:=K) (n:=2) rfl (pgs_cons (pg_name (i:=0) (show List.Nodup (["number","size","least"]:List Str) from by decide +kernel) rfl (Or.inl rfl)) (pgs_cons (pg_name (i:=1) (show List.Nodup (["number","size","least"]:List Str) from by decide +kernel) rfl (Or.inl rfl)) pgs_nil)))) (fun _ _ _ _ _=>(pt_cmpR op_le (pe_ix (ix_listK (K:=K)) (pv 2) (pe_ix (ix_tupK (K:=K)) (pv 1) pe_int (fun _ _=>rfl)) (fun _ _=>rfl)) (pe_ix (ix_tupK (K:=K)) (pv 1) pe_int (fun _ _=>rfl)) (nomark _))) (fun _ _ _ _ _=>(pe_tup (pa_cons (pe_op op_mulL (pe_ix (ix_tupK (K:=K)) (pv 1) pe_int (fun _ _=>rfl)) (pe_ix (ix_tupK (K:=K)) (pv 1) pe_int (fun _ _=>rfl))) (pa_cons (pv 0) pa_nil)))) (N:=["number","size","least"]) (fr:=[none,none,some 4]))
   (pss_one (ps_if (pt_truth (pv 5) (fun _=>rfl)) (pss_one (ps_dput hu (pv 2) (pv 3) (pe_callB (call_minT hu) rfl T.z_min rfl (pa_cons (pv 5) pa_nil)) rfl)) pss_nil))))
   (pss_one (ps_ret (pv 2))))),?_⟩
  refine fun c nc=>?_
  have s1:Same H (upd H c (.dK [])):=Same.new nc
  have ec:(upd H c (.dK [])) c=some (.dK []):=upd_same
  have ncd:d≠c:=ne_of_none tab.1 nc
  have tab1:=tab.same s1
  obtain ⟨ts,hb,ht,rfl⟩:=tb.same s1
  rw [List.length_map] at l2
  generalize upd H c (.dK [])=H1 at s1 ec tab1 hb ht ⊢
  refine ⟨_,rfl,d,_,rfl,tab1.1,fun ob=>for_items (a:=d) (ob:=ob) (kvs:=kvN ad n) (fun i σ H'=>(∃ x y z,σ=[some (.ref d),some (.ref b),some (.ref c),x,y,z])∧SameX c (upd H1 d (.frz ob (.dK (kvN ad n)))) H'∧ChpS H' c i h (ts.map (·.2)))
   ⟨⟨none,none,none,rfl⟩,SameX.refl,[],by rw [upd_ne (Ne.symm ncd)]; exact ec,Nat.le_refl _,fun q _=>rfl,fun q a b=>by omega⟩ (fun i σ H' _ hp=>hp.2.1 _ _ ncd upd_same) ?_ ?_⟩
  ·rintro i p σ H4 t hp ⟨⟨x0,y0,z0,rfl⟩,s4,chp⟩ nt
   obtain ⟨hi,rfl⟩:=kv_get hp
   obtain ⟨r1,r2⟩:=tab1.2 (1+(i:Int)) (by omega) (by omega)
   have keep:∀ {x:Addr} {o:HO},H1 x=some o→(∀ kvs,o≠.dK kvs)→H4 x=some o:=fun {x o} e no=>s4 _ _ (fun z=>by rw [z,ec] at e; exact no _ (Option.some.inj e).symm) (by rw [upd_ne (fun z=>by rw [z,tab1.1] at e; exact no _ (Option.some.inj e).symm)]; exact e)
   have s5:Same H4 (upd H4 t (.tup [kV (Sum.inl (1+(i:Int))),.ref (ad (1+(i:Int)))])):=Same.new nt
   refine ⟨t,_,rfl,SqT.of upd_same,rfl,_,_,rfl,_,_,rfl,rfl,?_⟩
   generalize upd H4 t (.tup [kV (Sum.inl (1+(i:Int))),.ref (ad (1+(i:Int)))])=H5 at s5 ⊢
   have r5:=s5 _ _ (keep r1 (fun kvs z=>nomatch z))
   have hb5:=s5 _ _ (keep hb (fun kvs z=>nomatch z))
   have ht5:=fun u hu'=>s5 _ _ (keep (ht u hu') (fun kvs z=>nomatch z))
   have chp5:=chp.same s5
   have sz:(refs ts).length≤sizeLine:=Nat.le_of_lt (small1000 (by rw [refs_len]; omega))
   refine ⟨_,rfl,b,rfl,⟨_,SqL.of hb5⟩,fun acc na=>comp_enumF (K:=K) (a:=b) (ys:=refs ts) (fun j zs σ H'=>(∃ y0 y1,σ=[y0,y1,some (.ref (ad (1+(i:Int))))])∧Same H5 H'∧∃ us:List (Addr × Int × Int),zs=refs us∧(∀ u∈us,(H' u.1=some (.tup [.int u.2.1,.int u.2.2])∧ShOk (h (1+(i:Int))) (ts.map (·.2)) u.2)∧u.1≠acc)∧us.map (·.2.1)=(((ts.map (·.2)).take j).filter (serves (h (1+(i:Int))))).map area)
    ⟨⟨none,none,rfl⟩,Same.new na,[],rfl,(fun u hu'=>nomatch hu'),rfl⟩ (fun j zs σ H' _ _ hp=>SqL.of (hp.2.1 _ _ hb5)) ?_ ?_⟩
   ·rintro j x t2 zs σ H6 hx hj hl ha ⟨⟨y0,y1,rfl⟩,s6,us,rfl,hus,hm⟩ nt2
    obtain ⟨u,hu',rfl⟩:=refs_get hx
    have um:=List.mem_of_getElem? hu'
    obtain ⟨g1,g2,g3,g4⟩:=so u.2 (List.mem_map.mpr ⟨u,um,rfl⟩)
    have s7:Same H6 (upd H6 t2 (.tup [.int j,.ref u.1])):=Same.new nt2
    have ha7:=s7 _ _ ha
    refine ⟨t2,_,rfl,SqT.of upd_same,rfl,_,_,rfl,_,_,rfl,rfl,?_⟩
    generalize upd H6 t2 (.tup [.int j,.ref u.1])=H7 at s7 ha7 ⊢
    have u7:=s7 _ _ (s6 _ _ (ht5 u um))
    have r7:=s7 _ _ (s6 _ _ r5)
    have a1:=at_rat (r:=h (1+(i:Int))) (i:=u.2.1) (by omega) (by omega)
    have tk1:(ts.map (·.2)).take (j+1)=(ts.map (·.2)).take j++[u.2]:=by rw [List.take_succ,List.getElem?_map,hu']; rfl
    have hus7:∀ v∈us,(H7 v.1=some (.tup [.int v.2.1,.int v.2.2])∧ShOk (h (1+(i:Int))) (ts.map (·.2)) v.2)∧v.1≠acc:=fun v hv=>⟨⟨s7 _ _ (hus v hv).1.1,(hus v hv).1.2⟩,(hus v hv).2⟩
    cases c2:serves (h (1+(i:Int))) u.2 with
    | true =>
     refine ⟨_,rfl,_,rfl,u.1,_,_,_,rfl,rfl,SqT.of u7,at2_0,ad (1+(i:Int)),_,_,_,rfl,rfl,SqL.of r7,a1,_,rfl,u.1,_,_,_,rfl,rfl,SqT.of u7,at2_1,_,_,rfl,rfl,true,congrArg V.bl c2,?_⟩
     refine ⟨_,rfl,u.1,_,_,_,rfl,rfl,SqT.of u7,at2_0,_,rfl,u.1,_,_,_,rfl,rfl,SqT.of u7,at2_1,_,_,rfl,rfl,mul64 (by omega) (by omega) (by omega) (by omega),_,rfl,lenOk 2,fun t3 nt3=>?_⟩
     have nta:t3≠acc:=fun z=>by rw [z,ha7] at nt3; cases nt3
     have s8:Same H7 (upd H7 t3 (.tup [.int (u.2.1 * u.2.2),.int j])):=Same.new nt3
     refine fNx.mk sz hj hl (s8 _ _ ha7) ⟨⟨_,_,rfl⟩,fun x o e=>by rw [upd_ne (ne_of_none e na)]; exact s8 _ _ (s7 _ _ (s6 x o e)),us++[(t3,u.2.1 * u.2.2,(j:Int))],by rw [refs,refs,List.map_append]; rfl,fun v hv=>?_,?_⟩
     ·rcases List.mem_append.mp hv with hv | hv
      ·exact ⟨⟨by rw [upd_ne (hus7 v hv).2]; exact s8 _ _ (hus7 v hv).1.1,(hus7 v hv).1.2⟩,(hus7 v hv).2⟩
      ·rw [List.mem_singleton.mp hv]
       exact ⟨⟨by rw [upd_ne nta]; exact upd_same,j,u.2,rfl,by rw [List.getElem?_map,hu']; rfl,c2,rfl⟩,nta⟩
     ·rw [tk1,List.filter_append,List.filter_cons,if_pos c2,List.map_append,List.map_append,hm]; rfl
    | false =>
     refine ⟨_,rfl,_,rfl,u.1,_,_,_,rfl,rfl,SqT.of u7,at2_0,ad (1+(i:Int)),_,_,_,rfl,rfl,SqL.of r7,a1,_,rfl,u.1,_,_,_,rfl,rfl,SqT.of u7,at2_1,_,_,rfl,rfl,false,congrArg V.bl c2,fSk.mk hj hl ha7 ⟨⟨_,_,rfl⟩,s6.trans s7,us,rfl,hus7,?_⟩⟩
     rw [tk1,List.filter_append,List.filter_cons,if_neg (by rw [c2]; exact Bool.false_ne_true),List.map_append,hm]
     simp
   ·rintro zs σ H6 hl ha ⟨_,s6,us,rfl,hus,hm⟩
    rw [refs_len,← List.length_map (f:=(·.2)) (as:=ts),List.take_length] at hm
    have chp6:=chp5.same s6
    obtain ⟨kvs,c1,c2,c3,c4⟩:=id chp6
    have s46:Same H4 H6:=s5.trans s6
    have stay:SameX c (upd H1 d (.frz ob (.dK (kvN ad n)))) H6:=fun x o nx e=>s46 _ _ (s4 x o nx e)
    refine ⟨_,rfl,_,.inl ⟨_,SqL.of ha,rfl⟩,?_⟩
    cases us with
    | nil =>
     refine iteN rfl ⟨⟨_,_,_,rfl⟩,stay,kvs,c1,by omega,fun q hq=>c3 q (by omega),fun q q1 q2=>?_⟩
     by_cases e:q=1+(i:Int)
     ·refine .inl ⟨?_,c3 q (by omega)⟩
      show cost (h q) (ts.map (·.2))=none
      unfold cost
      rw [e,← hm]; rfl
     ·exact c4 q q1 (by omega)
    | cons u0 us =>
     refine iteP rfl ⟨_,rfl,acc,u0 :: us,rfl,SqL.of ha,rfl,(fun z=>nomatch z),fun u hu'=>(hus u hu').1.1,fun u hu' least=>?_⟩
     have e:cost (h (1+(i:Int))) (ts.map (·.2))=some u.2.1:=by
      unfold cost
      rw [← hm]
      refine minO_of (List.mem_map.mpr ⟨u,hu',rfl⟩) fun y hy=>?_
      obtain ⟨v,hv,rfl⟩:=List.mem_map.mp hy
      exact least v hv
     exact ⟨_,rfl,_,rfl,c,_,rfl,DPut.k (k:=Sum.inl (1+(i:Int))) c1 (small1000 (by omega)),⟨_,_,_,rfl⟩,fun x o nx e=>by rw [upd_ne nx]; exact stay x o nx e,ChpS.put c2 c3 c4 c1 e (hus u hu').1.1 (hus u hu').1.2⟩
  ·rintro σ H4 ⟨⟨x0,y0,z0,rfl⟩,s4,chp⟩
   rw [kv_len] at chp
   exact ⟨_,rfl,q c H4 (fun x o nx e=>s4 x o (ne_of_none e nc) (by rw [upd_ne nx]; exact s1 x o e)) (.inr ⟨ob,s4 _ _ ncd upd_same⟩) nc chp⟩
theorem S_first_sheets:FnScope ["cheapest","glass","bits","parts"] ["cheapest","glass","bits"] (defScope s_first_sheets):=⟨rfl,rfl,rfl,by decide +kernel,rfl,by decide +kernel,by decide +kernel⟩
theorem S_glass_by_set:FnScope ["cheapest","bits","glass","part","ways"] ["cheapest","bits"] (defScope s_glass_by_set):=⟨rfl,rfl,rfl,by decide +kernel,rfl,by decide +kernel,by decide +kernel⟩
theorem S_least_glass:FnScope ["wants","sheets","heights"] ["wants","sheets"] (defScope s_least_glass):=⟨rfl,rfl,rfl,by decide +kernel,rfl,by decide +kernel,by decide +kernel⟩
theorem Chp.is {H:Hp} {c:Addr} {n:Nat} {co:Int→Option Int} (h:Chp H c n co):∃ kvs:List (Key × V),H c=some (.dK kvs)∧∀ q:Int,1≤q→q≤n→(valV kvs (Sum.inl q)).isSome=(co q).isSome∧∀ m,co q=some m→∃ a x,valV kvs (Sum.inl q)=some (.ref a)∧H a=some (.tup [.int m,x]):=by
 obtain ⟨kvs,a,_,_,e⟩:=h
 refine ⟨kvs,a,fun q q1 q2=>?_⟩
 rcases e q q1 q2 with ⟨z1,z2⟩ | ⟨m,a',x,z1,z2,z3⟩
 ·rw [z1,z2]
  exact ⟨rfl,fun m hm=>nomatch hm⟩
 ·rw [z1,z2]
  exact ⟨rfl,fun m' hm=>by cases hm; exact ⟨a',x,rfl,z3⟩⟩
theorem filt_ways {co G:Int→Option Int} {b:Int}:∀ l:List Int,(l.filter fun p=>(co p).isSome).filterMap (wayOf co G b)=l.filterMap (wayOf co G b)
 | []=>rfl
 | p :: l=>by
  cases e:co p with
  | none =>
   have w0:wayOf co G b p=none:=by unfold wayOf; rw [e]
   rw [List.filter_cons,if_neg (by rw [e]; exact Bool.false_ne_true),filt_ways l,List.filterMap_cons,w0]
  | some c =>
   rw [List.filter_cons,if_pos (by rw [e]; rfl),List.filterMap_cons,List.filterMap_cons,filt_ways l]
theorem way_some {co G:Int→Option Int} {b p c g:Int} (e:co p=some c) (e2:G (b - p)=some g):wayOf co G b p=some (c+g,p):=by unfold wayOf; rw [e]; simp only [e2]
theorem way_none {co G:Int→Option Int} {b p c:Int} (e:co p=some c) (e2:G (b - p)=none):wayOf co G b p=none:=by unfold wayOf; rw [e]; simp only [e2]
theorem in_parts {b p:Int} (b1:1≤b) (h:p∈plist b++[b]):1≤p∧p≤b:=by
 rcases List.mem_append.mp h with h | h
 ·have:=mem_plist h; omega
 ·rw [List.mem_singleton.mp h]; omega
theorem filterMap_ext {α β:Type} {f g:α→Option β}:∀ {l:List α},(∀ x∈l,f x=g x)→l.filterMap f=l.filterMap g
 | [],_=>rfl
 | x :: l,h=>by rw [List.filterMap_cons,List.filterMap_cons,h x (by simp),filterMap_ext fun y hy=>h y (by simp [hy])]
theorem ways_congr {co G G':Int→Option Int} {b:Int} (b1:1≤b) (h:∀ x,0≤x→x < b→G x=G' x):waysL co G b=waysL co G' b:=by
 unfold waysL
 refine filterMap_ext fun p hp=>?_
 obtain ⟨p1,p2⟩:=in_parts b1 hp
 unfold wayOf
 rw [h (b - p) (by omega) (by omega)]
theorem ok_first_sheets {f:Addr} {fd:FuncData} (F:Fun K "first_sheets" "first_sheets" s_first_sheets f fd) (D_parts_with_least:DefOk P w K mg base 2 "parts_with_least" ["bits"] sp_least):FnOk P w K mg base CX0 3 f fd ["cheapest","glass","bits"] sp_first:=by
 have S:=S_first_sheets
 refine F.ok S (fun vs H Q E h=>?_) (fun cdv A outer s H vs Q E hr h=>?_)
 ·obtain ⟨c,g,n,i,n0,co,G,rfl,_⟩:=h; rfl
 ·obtain ⟨c,g,n,i,n0,co,G,rfl,chp,hn,hi,hi0,hg,q⟩:=h
  have hu:=hu_of hr
  have b1:(1:Int)≤1+(i:Int):=by omega
  have bn:1+(i:Int)≤n:=by omega
  have bi:1+(i:Int) - 1≤(i:Int):=by omega
  generalize hbe:1+(i:Int)=b at b1 bn bi q ⊢
  refine ⟨_,(pss_cons (ps_setCompF rfl (pg_name (i:=3) S.nd rfl (Or.inl rfl)) (pi_list (pe_op op_cat (pe_fn D_parts_with_least hr (pa_cons (pv 2) pa_nil)) (pe_lst (pa_cons (pv 2) pa_nil)))) (fun _ _ _ _ _=>(pg_name (i:=0) (show List.Nodup (["part","cheapest"]:List Str) from by decide +kernel) rfl (Or.inl rfl))) (fun _ _ _ _ _=>(pt_cmp (pc_din hu (pv 0) (pv 1)))) (fun _ _ _ _ _=>(pv 0)) (N:=["part","cheapest"]) (fr:=[none,some 0]))
   (pss_one (ps_ret (pe_compF rfl (pi_list (pv 3)) (fun _ _ _ _ _=>(pg_name (i:=0) (show List.Nodup (["part","glass","cheapest","bits"]:List Str) from by decide +kernel) rfl (Or.inl rfl))) (fun _ _ _ _ _=>(pt_cmpR op_notN (pe_dget hu (pv 1) (pe_op op_sub (pv 3) (pv 0)) (fun _ _=>rfl)) pe_non (nomark _))) (fun _ _ _ _ _=>(pe_tup (pa_cons (pe_op op_add (pe_ix (ix_tupK (K:=K)) (pe_dget hu (pv 2) (pv 0) (fun _ _=>rfl)) pe_int (fun _ _=>rfl)) (pe_dget hu (pv 1) (pe_op op_sub (pv 3) (pv 0)) (fun _ _=>rfl))) (pa_cons (pv 0) pa_nil)))) (N:=["part","glass","cheapest","bits"]) (fr:=[none,some 1,some 0,some 2]))))),?_⟩
  refine ⟨_,rfl,b,rfl,by omega,by omega,fun pl H1 s1 npl hpl=>?_⟩
  refine ⟨_,rfl,lenOk 1,fun l1 nl1=>?_⟩
  have s2:Same H1 (upd H1 l1 (.lst [.int b])):=Same.new nl1
  have e2:(upd H1 l1 (.lst [.int b])) l1=some (.lst [.int b]):=upd_same
  generalize upd H1 l1 (.lst [.int b])=H2 at s2 e2 ⊢
  have pll:=plist_len b
  refine ⟨pl,l1,_,_,rfl,rfl,s2 _ _ hpl,e2,Nat.le_of_lt (small1000 (by rw [List.length_map,List.length_singleton]; omega)),fun r nr=>?_⟩
  have s3:Same H2 (upd H2 r (.lst ((plist b).map V.int++[.int b]))):=Same.new nr
  have e3:(upd H2 r (.lst ((plist b).map V.int++[.int b]))) r=some (.lst ((plist b++[b]).map V.int)):=by rw [upd_same,List.map_append]; rfl
  generalize upd H2 r (.lst ((plist b).map V.int++[.int b]))=H3 at s3 e3 ⊢
  have s03:Same H H3:=s1.trans (s2.trans s3)
  obtain ⟨kvs,c1,c2⟩:=(chp.same s03).is
  have sz:((plist b++[b]).map V.int).length≤sizeLine:=Nat.le_of_lt (small1000 (by rw [List.length_map,List.length_append,List.length_singleton]; omega))
  refine ⟨r,rfl,⟨_,SqL.of e3⟩,fun acc na=>comp_listF (K:=K) (a:=r) (ys:=(plist b++[b]).map V.int) (fun j zs σ H'=>(∃ y,σ=[y,some (.ref c)])∧Same H3 H'∧zs=(((plist b++[b]).take j).filter fun p=>(co p).isSome).map V.int) ⟨⟨none,rfl⟩,Same.new na,rfl⟩ (fun j zs σ H' _ _ hp=>SqL.of (hp.2.1 _ _ e3)) ?_ ?_⟩
  ·rintro j x zs σ H4 hx hj hl ha ⟨⟨y,rfl⟩,s4,hz⟩
   obtain ⟨p,hp,rfl⟩:=ints_get hx
   obtain ⟨p1,p2⟩:=in_parts b1 (List.mem_of_getElem? hp)
   have tk1:(plist b++[b]).take (j+1)=(plist b++[b]).take j++[p]:=by rw [List.take_succ,hp]; rfl
   have is:=(c2 p p1 (by omega)).1
   cases e:(co p).isSome with
   | true =>
    refine ⟨_,rfl,_,rfl,c,_,rfl,DGet.k (k:=Sum.inl p) (s4 _ _ c1),true,congrArg V.bl (is.trans e),_,rfl,fNx.mk sz hj hl ha ⟨⟨_,rfl⟩,fun d o h=>by rw [upd_ne (ne_of_none h na)]; exact s4 d o h,?_⟩⟩
    rw [tk1,List.filter_append,List.filter_cons,if_pos e,List.map_append,hz]; rfl
   | false =>
    refine ⟨_,rfl,_,rfl,c,_,rfl,DGet.k (k:=Sum.inl p) (s4 _ _ c1),false,congrArg V.bl (is.trans e),fSk.mk hj hl ha ⟨⟨_,rfl⟩,s4,?_⟩⟩
    rw [tk1,List.filter_append,List.filter_cons,if_neg (by rw [e]; exact Bool.false_ne_true),hz]
    exact congrArg (List.map V.int) (List.append_nil _).symm
  ·rintro zs σ H4 hl ha ⟨_,s4,hz⟩
   rw [List.length_map,List.take_length] at hz
   subst hz
   have hpe:∀ p∈(plist b++[b]).filter (fun p=>(co p).isSome),p∈plist b++[b]∧(co p).isSome=true:=fun p hp=>List.mem_filter.mp hp
   have hle:((plist b++[b]).filter fun p=>(co p).isSome).length≤64:=Nat.le_trans (List.length_filter_le _ _) (by rw [List.length_append,List.length_singleton]; omega)
   have fw:=filt_ways (co:=co) (G:=G) (b:=b) (plist b++[b])
   generalize ((plist b++[b]).filter fun p=>(co p).isSome)=ps at ha hpe hle fw ⊢
   have s04:Same H H4:=s03.trans s4
   have sz2:(ps.map V.int).length≤sizeLine:=Nat.le_of_lt (small1000 (by rw [List.length_map]; omega))
   refine ⟨_,rfl,acc,rfl,⟨_,SqL.of ha⟩,fun acc2 na2=>comp_listF (K:=K) (a:=acc) (ys:=ps.map V.int) (fun j zs σ H'=>(∃ y,σ=[y,some (.ref g),some (.ref c),some (.int b)])∧Same H4 H'∧∃ us:List (Addr × Int × Int),zs=refs us∧(∀ u∈us,H' u.1=some (.tup [.int u.2.1,.int u.2.2])∧u.1≠acc2)∧us.map (·.2)=(ps.take j).filterMap (wayOf co G b))
    ⟨⟨none,rfl⟩,Same.new na2,[],rfl,(fun u hu'=>nomatch hu'),rfl⟩ (fun j zs σ H' _ _ hp=>SqL.of (hp.2.1 _ _ ha)) ?_ ?_⟩
   ·rintro j x zs σ H5 hx hj hl5 ha5 ⟨⟨y,rfl⟩,s5,us,rfl,hus,hm⟩
    obtain ⟨p,hp,rfl⟩:=ints_get hx
    obtain ⟨pm,pi⟩:=hpe p (List.mem_of_getElem? hp)
    obtain ⟨p1,p2⟩:=in_parts b1 pm
    obtain ⟨m,em⟩:=Option.isSome_iff_exists.mp pi
    have tk1:ps.take (j+1)=ps.take j++[p]:=by rw [List.take_succ,hp]; rfl
    have dg:DGet H5 g (.int (b - p)) (some (gv (G (b - p)))):=by
     have:=DGet.k (k:=Sum.inl (b - p)) (s5 _ _ (s04 _ _ hg))
     rw [gk_val,if_pos (by omega)] at this
     exact this
    cases eg:G (b - p) with
    | none =>
     rw [eg] at dg
     refine ⟨_,rfl,_,rfl,_,rfl,_,_,rfl,rfl,g,_,rfl,dg,rfl,false,rfl,fSk.mk hj hl5 ha5 ⟨⟨_,rfl⟩,s5,us,rfl,hus,?_⟩⟩
     rw [tk1,List.filterMap_append,List.filterMap_cons,way_none em eg,hm]
     exact (List.append_nil _).symm
    | some gg =>
     rw [eg] at dg
     obtain ⟨a,x,v1,v2⟩:=(c2 p p1 (by omega)).2 m em
     have dc:DGet H5 c (.int p) (some (.ref a)):=by
      have:=DGet.k (k:=Sum.inl p) (s5 _ _ (s4 _ _ c1))
      rw [v1] at this
      exact this
     refine ⟨_,rfl,_,rfl,_,rfl,_,_,rfl,rfl,g,_,rfl,dg,rfl,true,rfl,?_⟩
     refine ⟨_,rfl,_,rfl,c,_,rfl,dc,a,_,_,_,rfl,rfl,SqT.of (s5 _ _ (s4 _ _ v2)),at2_0,_,rfl,_,rfl,_,rfl,_,_,rfl,rfl,g,_,rfl,dg,_,_,rfl,rfl,_,rfl,lenOk 2,fun t nt=>?_⟩
     have nta:t≠acc2:=fun z=>by rw [z,ha5] at nt; cases nt
     have s6:Same H5 (upd H5 t (.tup [.int (m+gg),.int p])):=Same.new nt
     refine fNx.mk sz2 hj hl5 (s6 _ _ ha5) ⟨⟨_,rfl⟩,fun d o h=>by rw [upd_ne (ne_of_none h na2)]; exact s6 _ _ (s5 d o h),us++[(t,m+gg,p)],by rw [refs,refs,List.map_append]; rfl,fun u hu'=>?_,?_⟩
     ·rcases List.mem_append.mp hu' with hu' | hu'
      ·obtain ⟨e,n⟩:=hus u hu'
       exact ⟨by rw [upd_ne n]; exact s6 _ _ e,n⟩
      ·rw [List.mem_singleton.mp hu']
       exact ⟨by rw [upd_ne nta]; exact upd_same,nta⟩
     ·rw [tk1,List.filterMap_append,List.filterMap_cons,way_some em eg,List.map_append,hm]; rfl
   ·rintro zs σ H5 hl5 ha5 ⟨_,s5,us,rfl,hus,hm⟩
    rw [List.length_map,List.take_length,fw] at hm
    exact q acc2 H5 (s04.trans s5) (wasNone s04 na2) ⟨us,ha5,fun u hu'=>(hus u hu').1,hm⟩
theorem ok_glass_by_set {f:Addr} {fd:FuncData} (F:Fun K "glass_by_set" "glass_by_set" s_glass_by_set f fd) (T:Txt mg t1 t2 t3 t4 t5 t6) (D_all_parts:DefOk P w K mg base 1 "all_parts" ["bits"] sp_parts) (D_first_sheets:DefOk P w K mg base 3 "first_sheets" ["cheapest","glass","bits"] sp_first):FnOk P w K mg base CX0 4 f fd ["cheapest","bits"] sp_glass:=by
 have S:=S_glass_by_set
 refine F.ok S (fun vs H Q E h=>?_) (fun cdv A outer s H vs Q E hr h=>?_)
 ·obtain ⟨c,k,co,rfl,_⟩:=h; rfl
 ·obtain ⟨c,k,co,rfl,hk,chp,q⟩:=h
  have hu:=hu_of hr
  have full:=full_ok k (by omega)
  have hb:0≤(1 * 2^((k:Nat):Int).toNat - 1:Int)∧1 * 2^((k:Nat):Int).toNat - 1≤(63:Int)∧2^k - 1≤63:=by
   have:∀ n:Nat,n≤6→0≤(1 * 2^((n:Nat):Int).toNat - 1:Int)∧1 * 2^((n:Nat):Int).toNat - 1≤(63:Int)∧2^n - 1≤63:=by decide +kernel
   exact this _ hk
  obtain ⟨hb0,hb1,hb2⟩:=hb
  generalize 2^k - 1=n at full hb2 chp q
  generalize (1 * 2^((k:Nat):Int).toNat - 1:Int)=b at full hb0 hb1
  refine ⟨_,(pss_cons (ps_set (i:=2) S.nd rfl (Or.inl rfl) (pe_disp (pps_cons pe_int pe_int pps_nil) rfl rfl (by decide) (by decide)))
   (pss_cons (ps_for PassesOwn.never rfl (pi_list (pe_fn D_all_parts hr (pa_cons (pv 1) pa_nil))) (pg_name (i:=3) S.nd rfl (Or.inl rfl)) (pss_cons (ps_set (i:=4) S.nd rfl (Or.inl rfl) (pe_fn D_first_sheets hr (pa_cons (pv 0) (pa_cons (pv 2) (pa_cons (pv 3) pa_nil)))))
   (pss_one (ps_dput hu (pv 2) (pv 3) (pe_ifExp (pt_truth (pv 4) (fun _=>rfl)) (pe_ix ix_tup (pe_callB (call_minT hu) rfl T.z_min rfl (pa_cons (pv 4) pa_nil)) pe_int (fun _ _=>rfl)) pe_non) rfl))))
   (pss_one (ps_ret (pv 2))))),?_⟩
  refine fun g ng=>⟨upd_same,[(Sum.inl 0,.int 0)],rfl,by decide,?_⟩
  have s1:Same H (upd (upd H g (.dK [])) g (.dK (mergeK [] [(Sum.inl 0,.int 0)]))):=fun x o e=>by rw [upd_ne (ne_of_none e ng),upd_ne (ne_of_none e ng)]; exact e
  have eg:(upd (upd H g (.dK [])) g (.dK (mergeK [] [(Sum.inl 0,.int 0)]))) g=some (.dK (gkv (fun _=>some 0) 0)):=upd_same
  generalize upd (upd H g (.dK [])) g (.dK (mergeK [] [(Sum.inl 0,.int 0)]))=H1 at s1 eg ⊢
  refine ⟨_,rfl,b,rfl,hb0,hb1,fun pl H2 s2 npl hpl=>?_⟩
  rw [full] at hpl
  have ngp:pl≠g:=fun z=>by rw [z,eg] at npl; cases npl
  have chp2:=chp.same (s1.trans s2)
  have off:∀ {H':Hp},SameX g H2 H'→H' g≠none→Chp H' c n co:=fun {H'} sx hx=>by
   obtain ⟨kvs,a1,a2,a3,a4⟩:=chp
   have st:Same H H':=sx.same (s1.trans s2) ng
   exact Chp.same ⟨kvs,a1,a2,a3,a4⟩ st
  refine ⟨pl,rfl,⟨_,SqL.of hpl⟩,for_list (K:=K) (a:=pl) (xs:=(upto n).map V.int) (fun i σ H'=>(∃ x y,σ=[some (.ref c),some (.int b),some (.ref g),x,y])∧SameX g H2 H'∧∃ G,H' g=some (.dK (gkv G i))∧GlassP co G i)
   ⟨⟨none,none,rfl⟩,SameX.refl,(fun _=>some 0),s2 _ _ eg,rfl,fun x x1 x2=>by omega⟩ (fun i σ H' _ hp=>SqL.of (hp.2.1 _ _ ngp hpl)) ?_ ?_⟩
  ·rintro i x σ H3 hx ⟨⟨x0,y0,rfl⟩,s3,G,hg,gp⟩
   obtain ⟨p,hp,rfl⟩:=ints_get hx
   have hi:i < n:=by
    have:=(List.getElem?_eq_some_iff.mp hp).1
    rw [upto_len] at this
    exact this
   have ep:p=1+(i:Int):=by
    unfold upto at hp
    rw [List.getElem?_map,List.getElem?_range hi] at hp
    exact (Option.some.inj hp).symm
   subst ep
   refine ⟨_,rfl,_,rfl,_,rfl,c,g,n,i,i,co,G,rfl,off s3 (by rw [hg]; exact fun z=>nomatch z),hb2,hi,Nat.le_refl _,hg,fun l H4 s4 nl tl=>?_⟩
   have hg4:=s4 _ _ hg
   have stepv:∀ v:Option Int,v=minO ((waysL co G (1+(i:Int))).map (·.1))→(∃ x y,[some (V.ref c),some (.int b),some (.ref g),some (.int (1+(i:Int))),some (.ref l)]=[some (V.ref c),some (.int b),some (.ref g),x,y])∧SameX g H2 (upd H4 g (.dK (putK (gkv G i) (Sum.inl (1+(i:Int))) (gv v))))∧∃ G',(upd H4 g (.dK (putK (gkv G i) (Sum.inl (1+(i:Int))) (gv v)))) g=some (.dK (gkv G' (i+1)))∧GlassP co G' (i+1):=fun v hv=>by
    refine ⟨⟨_,_,rfl⟩,fun x o nx e=>by rw [upd_ne nx]; exact s4 _ _ (s3 x o nx e),fun z=>if z=1+(i:Int) then v else G z,?_,?_,fun z z1 z2=>?_⟩
    ·rw [upd_same]
     show some (HO.dK (putK (gkv G i) (Sum.inl (1+(i:Int))) (gv v)))=some (HO.dK (putK (gkv (fun z=>if z=1+(i:Int) then v else G z) i) (Sum.inl (1+(i:Int))) (gv (if 1+(i:Int)=1+(i:Int) then v else G (1+(i:Int))))))
     rw [if_pos rfl,gk_congr (G:=G) (G':=fun z=>if z=1+(i:Int) then v else G z) i fun x x1 x2=>by rw [if_neg (by omega)]]
    ·show (if (0:Int)=1+(i:Int) then v else G 0)=some 0
     rw [if_neg (by omega)]; exact gp.1
    ·have wc:waysL co G z=waysL co (fun z=>if z=1+(i:Int) then v else G z) z:=ways_congr z1 fun x x1 x2=>by
      show G x=if x=1+(i:Int) then v else G x
      rw [if_neg (by omega)]
     rw [← wc]
     show (if z=1+(i:Int) then v else G z)=_
     by_cases e:z=1+(i:Int)
     ·rw [if_pos e,e]; exact hv
     ·rw [if_neg e]; exact gp.2 z z1 (by omega)
   have room:(gkv G i).length < sizeLine:=small1000 (by rw [gk_len]; omega)
   obtain ⟨ts,e1,e2,e3⟩:=tl
   refine ⟨_,rfl,_,.inl ⟨_,SqL.of e1,rfl⟩,?_⟩
   cases ts with
   | nil =>
    exact iteN rfl ⟨_,rfl,_,rfl,g,_,rfl,DPut.k (k:=Sum.inl (1+(i:Int))) hg4 room,stepv none (by rw [← e3]; rfl)⟩
   | cons u0 us =>
    refine iteP rfl ⟨_,rfl,l,u0 :: us,rfl,SqL.of e1,rfl,(fun z=>nomatch z),e2,fun u hu' least=>⟨u.1,_,_,_,rfl,rfl,SqT.of (e2 u hu'),at2_0,_,rfl,_,rfl,g,_,rfl,DPut.k (k:=Sum.inl (1+(i:Int))) hg4 room,stepv (some u.2.1) ?_⟩⟩
    refine (minO_of (List.mem_map.mpr ⟨u.2,by rw [← e3]; exact List.mem_map.mpr ⟨u,hu',rfl⟩,rfl⟩) fun y hy=>?_).symm
    obtain ⟨z,hz,rfl⟩:=List.mem_map.mp hy
    rw [← e3] at hz
    obtain ⟨v,hv,rfl⟩:=List.mem_map.mp hz
    exact least v hv
  ·rintro σ H3 ⟨⟨x0,y0,rfl⟩,s3,G,hg,gp⟩
   rw [List.length_map,upto_len] at hg gp
   exact ⟨_,rfl,q g G H3 (s3.same (s1.trans s2) ng) ng hg gp⟩
theorem ok_least_glass {f:Addr} {fd:FuncData} (F:Fun K "least_glass" "least_glass" s_least_glass f fd) (D_all_bits:DefOk P w K mg base 1 "all_bits" ["wants"] sp_bits) (D_heights_for:DefOkX P w K mg base 6 "heights_for" ["wants","sheets"] (sp_hfor1 cM cA cQ cN cD cS cP)) (D_cheapest_sheets:DefOk P w K mg base 1 "cheapest_sheets" ["heights","sheets"] sp_cheap) (D_glass_by_set:DefOk P w K mg base 4 "glass_by_set" ["cheapest","bits"] sp_glass):FnOk P w K mg base (CX1 P w) 7 f fd ["wants","sheets"] (sp_lg1 cM cA cQ cN cD cS cP):=by
 have S:=S_least_glass
 refine F.okx S (fun vs H Q E h=>?_) (fun cdv A outer s H vs Q E hr h=>?_)
 ·obtain ⟨a,b,xs,ys,gs,hs,rfl,_⟩:=h; rfl
 ·obtain ⟨a,b,xs,ys,gs,hs,rfl,hxs,th,lg,hys,sh,lh,rr,qq⟩:=h
  refine ⟨_,(pss_cons (ps_set (i:=2) S.nd rfl (Or.inl rfl) (pe_fnx D_heights_for hr (pass_x xeok_cx (pass_u (H:=H) (E:=E))) (pa_cons (pv 0) (pa_cons (pv 1) pa_nil))))
   (pss_one (ps_ret (pe_fn D_glass_by_set hr (pa_cons (pe_fn D_cheapest_sheets hr (pa_cons (pv 2) (pa_cons (pv 1) pa_nil))) (pa_cons (pe_fn D_all_bits hr (pa_cons (pv 0) pa_nil)) pa_nil)))))),?_⟩
  refine ⟨_,rfl,_,rfl,a,b,xs,ys,gs,hs,rfl,hxs,th,lg,hys,sh,lh,fun r hr'=>rfr_u (Same.refl H) (rr r hr'),fun ws ss eg few eh l1 l2=>?_⟩
  subst eg eh
  obtain ⟨us,rfl,u1,u2,ok⟩:=wants_of th
  have hw:WantsAt H a ws:=⟨us,hxs,u1,u2⟩
  obtain ⟨zs,rfl,z1,z2,so⟩:=sheets_of sh
  have tb:TupL H b ss:=⟨zs,hys,z1,z2⟩
  have dn:dueP (ws.map some) (ss.map some)=none:=due_good few l1 l2
  intro d ad h H1 s1 nd tab rows
  have hn:=(pow_of (n:=ws.length) (by omega)).2
  refine ⟨_,rfl,_,rfl,d,b,ss,_,ad,h,rfl,tab,hn,tb.same s1,l2,so,fun c H2 s2 rd2 nc chp=>?_⟩
  have s02:Same H H2:=s2.same s1 nd
  obtain ⟨ts,ha,ht,hts⟩:=id (hw.same s02)
  have tl:(refs ts).length=ws.length:=by rw [refs_len,← hts,List.length_map]
  exact ⟨_,rfl,a,refs ts,rfl,ha,by omega,c,ws.length,_,by rw [tl]; rfl,by omega,chp.chp,fun g G H3 s3 ng hg gp=>qq dn _ H3 (s02.trans s3)⟩
theorem S_law_at:FnScope ["_law_script","_law_k","_law_cell"] ["_law_script","_law_k"] (defScope s__law_at):=⟨rfl,rfl,rfl,by decide +kernel,rfl,by decide +kernel,by decide +kernel⟩
theorem ok_law_at {f:Addr} {fd:FuncData} (F:Fun K "_law_at" "_law_at" s__law_at f fd) (T:Txt mg t1 t2 t3 t4 t5 t6):FnOk P w K mg base CX0 1 f fd ["_law_script","_law_k"] (sp_at K):=by
 have S:=S_law_at
 refine F.ok S (fun vs H Q E h=>?_) (fun cdv A outer s H vs Q E hr h=>?_)
 ·obtain ⟨a,ns,k,rfl,_⟩:=h; rfl
 ·obtain ⟨a,ns,k,rfl,hS,hk0,hk1,q⟩:=h
  refine ⟨_,(pss_cons (ps_if (pt_cmpR op_lt (pv 1) (pe_callB call_len_seq rfl T.z_len rfl (pa_cons (pv 0) pa_nil)) (nomark _)) (pss_one (ps_ret (pe_ix ix_list (pv 0) (pv 1) (fun _ _=>rfl)))) pss_nil)
   (pss_cons (ps_set (i:=2) S.nd rfl (Or.inl rfl) pe_int)
   (pss_cons (ps_if (pt_cmpR (op_neD hr) (pv 0) (pe_lst pa_nil) (nomark _)) (pss_one (ps_set (i:=2) S.nd rfl (Or.inl rfl) (pe_ix ix_list (pv 0) (pe_op op_mod (pv 1) (pe_callB call_len_seq rfl T.z_len rfl (pa_cons (pv 0) pa_nil))) (fun _ _=>rfl)))) pss_nil)
   (pss_one (ps_ret (pe_op op_mod (pe_op op_mulL (pe_op op_add (pe_op op_add (pe_op op_mod (pv 2) pe_int) (pe_op op_mulL pe_int (pv 1))) pe_int) pe_int) pe_int)))))),?_⟩
  have fin:∀ z:Int,IntMulOk (z % 1000003+104729 * k+13) 48271:=fun z=>by
   have a:=Int.emod_nonneg z (b:=1000003) (by decide)
   have b:=Int.emod_lt_of_pos z (b:=1000003) (by decide)
   exact mul64 (by omega) (by omega) (by decide) (by decide)
  refine ⟨_,rfl,_,rfl,a,_,rfl,.inl hS,_,_,rfl,rfl,_,rfl,ite3 (fun h=>?_) (fun h=>?_)⟩
  ·have h':=of_decide_eq_true h
   rw [List.length_map] at h'
   obtain ⟨z,hz⟩:=at_ints hk0 h'
   exact ⟨_,rfl,_,rfl,a,_,_,_,rfl,rfl,hS,hz,q _ H (Same.refl H)⟩
  ·refine ⟨_,rfl,lenOk 0,fun e he=>?_⟩
   have s1:Same H (upd H e (.lst [])):=Same.new he
   have e1:(upd H e (.lst [])) e=some (.lst []):=upd_same
   generalize upd H e (.lst [])=H1 at s1 e1 ⊢
   refine ⟨_,_,intsL (s1.seq hS),nilL e1,⟨_,rfl⟩,⟨_,rfl⟩,intsL_dep _,_,rfl,ite3 (fun h1=>?_) (fun h1=>?_)⟩
   ·rw [if_pos rfl,deq,intsD_nil] at h1
    have hne:ns≠[]:=fun z=>by rw [decide_eq_true z] at h1; cases h1
    have hpos:0 < ns.length:=List.length_pos_iff.mpr hne
    obtain ⟨z,hz⟩:=at_ints (ns:=ns) (k:=k % (((ns.map V.int).length:Nat):Int)) (Int.emod_nonneg _ (by rw [List.length_map]; omega)) (by rw [List.length_map]; exact Int.emod_lt_of_pos _ (by omega))
    refine ⟨_,rfl,_,rfl,_,rfl,a,_,rfl,.inl (s1.seq hS),_,_,rfl,rfl,(by rw [List.length_map]; omega),a,_,_,_,rfl,rfl,s1.seq hS,hz,?_⟩
    exact ⟨_,rfl,_,_,rfl,rfl,(show (0:Int) < 1000003 from by decide),_,rfl,_,_,rfl,rfl,mul64 (by decide) (by decide) (by omega) (by omega),_,_,rfl,rfl,_,_,rfl,rfl,_,_,rfl,rfl,fin _,_,_,rfl,rfl,(show (0:Int) < 2147483647 from by decide),q _ H1 s1⟩
   ·exact ⟨_,rfl,_,_,rfl,rfl,(show (0:Int) < 1000003 from by decide),_,rfl,_,_,rfl,rfl,mul64 (by decide) (by decide) (by omega) (by omega),_,_,rfl,rfl,_,_,rfl,rfl,_,_,rfl,rfl,fin _,_,_,rfl,rfl,(show (0:Int) < 2147483647 from by decide),q _ H1 s1⟩
theorem S_law_knead:FnScope ["_law_number","_law_by","_law_digits","_law_k","_law_found"] ["_law_number","_law_by"] (defScope s__law_knead):=⟨rfl,rfl,rfl,by decide +kernel,rfl,by decide +kernel,by decide +kernel⟩
theorem ok_law_knead {f:Addr} {fd:FuncData} (F:Fun K "_law_knead" "_law_knead" s__law_knead f fd) (T:Txt mg t1 t2 t3 t4 t5 t6):FnOk P w K mg base CX0 1 f fd ["_law_number","_law_by"] sp_knead:=by
 have S:=S_law_knead
 refine F.ok S (fun vs H Q E h=>?_) (fun cdv A outer s H vs Q E hr h=>?_)
 ·obtain ⟨n,b,rfl,_⟩:=h; rfl
 ·obtain ⟨n,b,rfl,b0,b1,q⟩:=h
  obtain ⟨tt,htt,fin⟩:∃ rd,PSs (cxOf CX0 P w K mg base ["_law_number","_law_by","_law_digits","_law_k","_law_found"] "_law_knead" (defScope s__law_knead) f cdv A outer s H E).nox ((defBody s__law_knead).drop 2) rd ∧
    ∀ (d:Int) (x3:Option V),0≤d→rd { nx:=fun _ H'=>Q .non H',rt:=Q } [some (.int n),some (.int b),some (.int d),x3,none] H:=by
   refine ⟨_,(pss_cons (ps_if (pt_cmpR op_gt (pv 2) pe_int (nomark _)) (pss_one (ps_ret (pe_op op_mod (pv 2) pe_int))) pss_nil)
   (pss_cons (ps_set (i:=0) S.nd rfl (Or.inl rfl) (pe_op op_add (pe_op op_mod (pv 0) pe_int) (pe_op op_mulL pe_int (pv 1))))
   (pss_cons (ps_set (i:=4) S.nd rfl (Or.inl rfl) (pe_op op_add pe_int (pv 1)))
   (pss_cons (ps_for PassesOwn.never rfl (pi_range1 rfl T.z_range (pa_cons pe_int pa_nil)) (pg_name (i:=3) S.nd rfl (Or.inl rfl)) (pss_cons (ps_set (i:=4) S.nd rfl (Or.inl rfl) (pe_op op_mod (pe_op op_mulL (pe_op op_add (pe_op op_mulL (pv 4) pe_int) (pv 0)) (pe_op op_add (pe_op op_mod (pv 0) pe_int) pe_int)) pe_int))
   (pss_one (ps_set (i:=0) S.nd rfl (Or.inl rfl) (pe_op op_add (pe_op op_add (pe_op op_fdivL (pv 0) pe_int) (pe_op op_mod (pv 4) pe_int)) (pv 3))))))
   (pss_one (ps_ret (pv 4))))))),?_⟩
   intro d x3 d0
   refine ⟨_,rfl,_,_,rfl,rfl,_,rfl,ite3 (fun h=>?_) (fun h=>?_)⟩
   ·exact ⟨_,rfl,_,_,rfl,rfl,(show (0:Int) < 1000000000 from by decide),q _ (Int.emod_nonneg _ (by decide))⟩
   ·have a:=Int.emod_nonneg n (b:=900001) (by decide)
    have c:=Int.emod_lt_of_pos n (b:=900001) (by decide)
    refine ⟨_,rfl,_,_,rfl,rfl,(show (0:Int) < 900001 from by decide),_,rfl,_,_,rfl,rfl,mul64 (by decide) (by decide) (by omega) (by omega),_,_,rfl,rfl,_,rfl,_,_,rfl,rfl,3,rfl,by decide,by decide,?_⟩
    refine for_range (lo:=0) (n:=(3:Int).toNat) (fun i σ H'=>H'=H∧∃ N F x2 x3,σ=[some (.int N),some (.int b),x2,x3,some (.int F)]∧0≤N∧N≤1000000∧0≤F∧F≤715827883) ⟨rfl,_,_,_,_,rfl,by omega,by omega,by omega,by omega⟩ ?_ ?_
    ·rintro i σ H' hi ⟨rfl,N,F,x2,x3,rfl,n0,n1,f0,f1⟩
     have hi3:i < 3:=hi
     have m0:=Int.emod_nonneg N (b:=8887) (by decide)
     have m1:=Int.emod_lt_of_pos N (b:=8887) (by decide)
     refine ⟨_,rfl,_,_,rfl,rfl,mul64 (by omega) (by omega) (by decide) (by decide),_,rfl,_,_,rfl,rfl,_,rfl,_,_,rfl,rfl,(show (0:Int) < 8887 from by decide),_,_,rfl,rfl,_,_,rfl,rfl,mul64 (by omega) (by omega) (by omega) (by omega),_,_,rfl,rfl,(show (0:Int) < 715827883 from by decide),?_⟩
     have g0:=Int.emod_nonneg ((F * 8191+N) * (N % 8887+5501)) (b:=715827883) (by decide)
     have g1:=Int.emod_lt_of_pos ((F * 8191+N) * (N % 8887+5501)) (b:=715827883) (by decide)
     generalize (F * 8191+N) * (N % 8887+5501) % 715827883=F' at g0 g1 ⊢
     refine ⟨_,rfl,_,_,rfl,rfl,divL _ (by decide) (by decide),_,rfl,_,_,rfl,rfl,(show (0:Int) < 1013 from by decide),_,_,rfl,rfl,_,rfl,_,_,rfl,rfl,rfl,_,_,_,_,rfl,?_,?_,by omega,by omega⟩
     ·omega
     ·omega
    ·rintro σ H' ⟨rfl,N,F,x2,x3,rfl,n0,n1,f0,f1⟩
     exact ⟨_,rfl,q _ f0⟩
  refine ⟨_,(pss_cons (ps_set (i:=2) S.nd rfl (Or.inl rfl) pe_int)
   (pss_cons (ps_if (PW.pt (pw_or (pt_cmpR op_lt (pv 0) pe_int (nomark _)) (pw_or1 (pt_cmpR op_ge (pv 0) (pe_op op_pow pe_int pe_int) (nomark _))))) (pss_cons (ps_set (i:=2) S.nd rfl (Or.inl rfl) (pe_callB call_abs rfl T.z_abs rfl (pa_cons (pv 0) pa_nil)))
   (pss_one (ps_for PassesOwn.never rfl (pi_range1 rfl T.z_range (pa_cons (pv 1) pa_nil)) (pg_name (i:=3) S.nd rfl (Or.inl rfl)) (pss_one (ps_set (i:=2) S.nd rfl (Or.inl rfl) (pe_op op_fdivL (pv 2) pe_int)))))) pss_nil)
   htt)),?_⟩
  have loop:∀ (d:Int),0≤d→(if d < 0 then -d else d)=d:=fun d h=>by rw [if_neg (by omega)]
  refine ⟨_,rfl,_,_,rfl,rfl,_,rfl,ite3 (fun h=>?_) (fun h=>?_)⟩
  ·refine iteT ⟨_,rfl,_,rfl,_,rfl,b,rfl,by omega,by omega,for_range (lo:=0) (n:=b.toNat) (fun i σ H'=>H'=H∧∃ d x3,σ=[some (.int n),some (.int b),some (.int d),x3,none]∧0≤d) ⟨rfl,_,_,rfl,by split <;> omega⟩ ?_ ?_⟩
   ·rintro i σ H' hi ⟨rfl,d,x3,rfl,d0⟩
    exact ⟨_,rfl,_,_,rfl,rfl,divL _ (by decide) (by decide),rfl,_,_,rfl,by omega⟩
   ·rintro σ H' ⟨rfl,d,x3,rfl,d0⟩
    exact fin d x3 d0
  ·refine ⟨_,rfl,_,_,rfl,rfl,pow18,_,_,rfl,rfl,_,rfl,ite3 (fun h1=>?_) (fun h1=>fin 0 none (by omega))⟩
   refine ⟨_,rfl,_,rfl,_,rfl,b,rfl,by omega,by omega,for_range (lo:=0) (n:=b.toNat) (fun i σ H'=>H'=H∧∃ d x3,σ=[some (.int n),some (.int b),some (.int d),x3,none]∧0≤d) ⟨rfl,_,_,rfl,by split <;> omega⟩ ?_ ?_⟩
   ·rintro i σ H' hi ⟨rfl,d,x3,rfl,d0⟩
    exact ⟨_,rfl,_,_,rfl,rfl,divL _ (by decide) (by decide),rfl,_,_,rfl,by omega⟩
   ·rintro σ H' ⟨rfl,d,x3,rfl,d0⟩
    exact fin d x3 d0
theorem S_ways_held:FnScope ["want","width","height"] ["want","width","height"] (defScope s_ways_held):=⟨rfl,rfl,rfl,by decide +kernel,rfl,by decide +kernel,by decide +kernel⟩
theorem waysOf_len (t:Want):(waysOf t).length≤2:=by unfold waysOf; split <;> simp
theorem ok_ways_held {f:Addr} {fd:FuncData} (F:Fun K "ways_held" "ways_held" s_ways_held f fd) (D_ways_to_lie:DefOk P w K mg base 1 "ways_to_lie" ["want"] sp_ways):FnOk P w K mg base CX0 2 f fd ["want","width","height"] sp_wheld:=by
 have S:=S_ways_held
 refine F.ok S (fun vs H Q E h=>?_) (fun cdv A outer s H vs Q E hr h=>?_)
 ·obtain ⟨a,t,w,h,rfl,_⟩:=h; rfl
 ·obtain ⟨a,t,ww,hh,rfl,ha,q⟩:=h
  refine ⟨_,(pss_one (ps_ret (pe_compF rfl (pi_list (pe_fn D_ways_to_lie hr (pa_cons (pv 0) pa_nil))) (fun _ _ _ _ _=>(pg_name (i:=0) (show List.Nodup (["size","width","height"]:List Str) from by decide +kernel) rfl (Or.inl rfl))) (fun _ _ _ _ _=>(PW.pt (pw_and (pt_cmpR op_le (pe_ix (ix_tupK (K:=K)) (pv 0) pe_int (fun _ _=>rfl)) (pv 1) (nomark _)) (pw_and1 (pt_cmpR op_le (pe_ix (ix_tupK (K:=K)) (pv 0) pe_int (fun _ _=>rfl)) (pv 2) (nomark _)))))) (fun _ _ _ _ _=>(pv 0)) (N:=["size","width","height"]) (fr:=[none,some 1,some 2])))),?_⟩
  refine ⟨_,rfl,a,t,rfl,ha,fun l H1 s1 nl hl=>?_⟩
  obtain ⟨us,e1,e2,e3⟩:=hl
  have ul:us.length=(waysOf t).length:=by rw [← e3,List.length_map]
  have sz:(refs us).length≤sizeLine:=Nat.le_of_lt (small1000 (by rw [refs_len]; have:=waysOf_len t; omega))
  refine ⟨l,rfl,⟨_,SqL.of e1⟩,fun acc na=>comp_listF (K:=K) (a:=l) (ys:=refs us) (fun i zs σ H'=>(∃ x,σ=[x,some (.int ww),some (.int hh)])∧Same H1 H'∧∃ vs:List (Addr × Int × Int),zs=refs vs∧(∀ v∈vs,v∈us)∧vs.map (·.2)=((waysOf t).take i).filter fun z=>decide (z.1≤ww) && decide (z.2≤hh))
   ⟨⟨none,rfl⟩,Same.new na,[],rfl,(fun v hv=>nomatch hv),rfl⟩ (fun i zs σ H' _ _ hp=>SqL.of (hp.2.1 _ _ e1)) ?_ ?_⟩
  ·rintro i x zs σ H2 hx hi hl' ha' ⟨⟨x0,rfl⟩,s2,vs,rfl,hvs,hm⟩
   obtain ⟨v,hv,rfl⟩:=refs_get hx
   have hv2:=s2 _ _ (e2 v (List.mem_of_getElem? hv))
   have tk1:(waysOf t).take (i+1)=(waysOf t).take i++[v.2]:=by rw [← e3,List.take_succ,List.getElem?_map,hv]; rfl
   refine ⟨_,rfl,v.1,_,_,_,rfl,rfl,SqT.of hv2,at2_0,_,rfl,_,_,rfl,rfl,_,rfl,ite3 (fun c1=>?_) (fun c1=>?_)⟩
   ·refine ⟨_,rfl,v.1,_,_,_,rfl,rfl,SqT.of hv2,at2_1,_,rfl,_,_,rfl,rfl,?_⟩
    cases c2:decide (v.2.2≤hh) with
    | true =>
     refine ⟨true,congrArg V.bl c2,_,rfl,fNx.mk sz hi hl' ha' ⟨⟨_,rfl⟩,fun d o e=>by rw [upd_ne (ne_of_none e na)]; exact s2 d o e,vs++[v],by rw [refs,refs,List.map_append]; rfl,fun u hu=>?_,?_⟩⟩
     ·rcases List.mem_append.mp hu with hu | hu
      ·exact hvs u hu
      ·rw [List.mem_singleton.mp hu]; exact List.mem_of_getElem? hv
     ·rw [tk1,List.filter_append,List.filter_cons,if_pos (by rw [c1,c2]; rfl),List.map_append,hm]; rfl
    | false =>
     refine ⟨false,congrArg V.bl c2,fSk.mk hi hl' ha' ⟨⟨_,rfl⟩,s2,vs,rfl,hvs,?_⟩⟩
     rw [tk1,List.filter_append,List.filter_cons,if_neg (by rw [c2,Bool.and_false]; exact Bool.false_ne_true),hm]
     simp
   ·refine fSk.mk hi hl' ha' ⟨⟨_,rfl⟩,s2,vs,rfl,hvs,?_⟩
    rw [tk1,List.filter_append,List.filter_cons,if_neg (by rw [c1,Bool.false_and]; exact Bool.false_ne_true),hm]
    simp
  ·rintro zs σ H2 hl' ha' ⟨_,s2,vs,rfl,hvs,hm⟩
   rw [refs_len,ul,List.take_length] at hm
   exact q acc H2 (s1.trans s2) (wasNone s1 na) ⟨vs,ha',fun v hv=>s2 _ _ (e2 v (hvs v hv)),hm⟩
abbrev N_off:List Str:=["mark","size","width","height","tree"]
theorem S_cut_off:FnScope N_off ["mark","size","width","height"] (defScope s_cut_off):=⟨rfl,rfl,rfl,by decide +kernel,rfl,by decide +kernel,by decide +kernel⟩
def off1 (m:Int) (z:Int × Int) (h:Int):Tr:=if z.2 < h then .cut false z.2 (.whole (some m)) (.whole none) else .whole (some m)
theorem offT_eq (m:Int) (z:Int × Int) (w h:Int):offT m z w h=if z.1 < w then .cut true z.1 (off1 m z h) (.whole none) else off1 m z h:=rfl
theorem made_w {H:Hp} {x dx:Addr} {m:V} (nx:H x=none) (ndx:H dx=none):Same H (upd (upd (upd H dx (.own x)) x (.ins cW dx [])) x (.ins cW dx (wF m))):=fun b o e=>by rw [upd_ne (ne_of_none e nx)]; exact made_same nx ndx b o e
theorem ok_cut_off {f:Addr} {fd:FuncData} (F:Fun K "cut_off" "cut_off" s_cut_off f fd) (K_Whole:MkOk P w K mg base 1 "Whole" cW ["self","mark"] (sp_iW cW)) (K0_Whole:MkOk0 P w K mg base 1 "Whole" cW ["self","mark"] (sp_iW cW) [.non])
  (K_Upright:MkOk P w K mg base 1 "Upright" cU ["self","at","first","other"] (sp_iC cU)) (K_Level:MkOk P w K mg base 1 "Level" cL ["self","at","first","other"] (sp_iC cL)):FnOk P w K mg base CX0 3 f fd ["mark","size","width","height"] (sp_off cW cU cL):=by
 have S:=S_cut_off
 refine F.ok S (fun vs H Q E h=>?_) (fun cdv A outer s H vs Q E hr h=>?_)
 ·obtain ⟨m,a,z,w,h,rfl,_⟩:=h; rfl
 ·obtain ⟨m,a,z,ww,hh,rfl,ha,q⟩:=h
  obtain ⟨tB,hB,kB⟩:∃ rd,PSs (cxOf CX0 P w K mg base N_off "cut_off" (defScope s_cut_off) f cdv A outer s H E).nox ((defBody s_cut_off).drop 2) rd∧∀ (v:V) (H2:Hp),Same H H2→Obj cW cU cL H2 (off1 m z hh) v→rd { nx:=fun _ H'=>Q .non H',rt:=Q } [some (.int m),some (.ref a),some (.int ww),some (.int hh),some v] H2:=by
   refine ⟨_,(pss_cons (ps_if (pt_cmpR op_lt (pe_ix ix_tup (pv 1) pe_int (fun _ _=>rfl)) (pv 2) (nomark _)) (pss_one (ps_set (i:=4) S.nd rfl (Or.inl rfl) (pe_mk K_Upright hr (pa_cons (pe_ix ix_tup (pv 1) pe_int (fun _ _=>rfl)) (pa_cons (pv 4) (pa_cons (pe_mk0 K0_Whole hr) pa_nil)))))) pss_nil)
   (pss_one (ps_ret (pv 4)))),?_⟩
   intro v H2 s2 o2
   have ha2:=s2 _ _ ha
   refine ⟨_,rfl,a,_,_,_,rfl,rfl,SqT.of ha2,at2_0,_,rfl,_,_,rfl,rfl,_,rfl,ite3 (fun c=>?_) (fun c=>?_)⟩
   ·have c:=of_decide_eq_true c
    refine ⟨_,rfl,a,_,_,_,rfl,rfl,SqT.of ha2,at2_0,_,rfl,fun x dx nx ndx nex=>⟨x,dx,_,rfl,upd_same,rfl,?_⟩⟩
    have s3:Same H2 (upd (upd (upd H2 dx (.own x)) x (.ins cW dx [])) x (.ins cW dx (wF .non))):=made_w nx ndx
    have o3:Obj cW cU cL (upd (upd (upd H2 dx (.own x)) x (.ins cW dx [])) x (.ins cW dx (wF .non))) (.whole none) (.ref x):=by rw [Obj]; exact ⟨x,dx,rfl,upd_same⟩
    generalize upd (upd (upd H2 dx (.own x)) x (.ins cW dx [])) x (.ins cW dx (wF .non))=H3 at s3 o3 ⊢
    refine fun y dy ny ndy ney=>⟨y,dy,z.1,v,.ref x,rfl,upd_same,fun H4 s4 e4=>⟨rfl,?_⟩⟩
    have s34:Same H3 H4:=fun b o e=>s4 b o (ne_of_none e ny) (made_same ny ndy b o e)
    refine ⟨_,rfl,q _ _ (s2.trans (s3.trans s34)) ?_⟩
    rw [offT_eq,if_pos c,Obj]
    exact ⟨y,dy,v,.ref x,rfl,e4,(o2.same s3).same s34,o3.same s34⟩
   ·have c:=of_decide_eq_false c
    refine ⟨_,rfl,q _ _ s2 ?_⟩
    rw [offT_eq,if_neg c]
    exact o2
  refine ⟨_,(pss_cons (ps_set (i:=4) S.nd rfl (Or.inl rfl) (pe_mk K_Whole hr (pa_cons (pv 0) pa_nil)))
   (pss_cons (ps_if (pt_cmpR op_lt (pe_ix ix_tup (pv 1) pe_int (fun _ _=>rfl)) (pv 3) (nomark _)) (pss_one (ps_set (i:=4) S.nd rfl (Or.inl rfl) (pe_mk K_Level hr (pa_cons (pe_ix ix_tup (pv 1) pe_int (fun _ _=>rfl)) (pa_cons (pv 4) (pa_cons (pe_mk0 K0_Whole hr) pa_nil)))))) pss_nil)
   hB)),?_⟩
  refine ⟨_,rfl,fun x dx nx ndx nex=>⟨x,dx,_,rfl,upd_same,rfl,?_⟩⟩
  have s1:Same H (upd (upd (upd H dx (.own x)) x (.ins cW dx [])) x (.ins cW dx (wF (.int m)))):=made_w nx ndx
  have o1:Obj cW cU cL (upd (upd (upd H dx (.own x)) x (.ins cW dx [])) x (.ins cW dx (wF (.int m)))) (.whole (some m)) (.ref x):=by rw [Obj]; exact ⟨x,dx,rfl,upd_same⟩
  generalize upd (upd (upd H dx (.own x)) x (.ins cW dx [])) x (.ins cW dx (wF (.int m)))=H1 at s1 o1 ⊢
  have ha1:=s1 _ _ ha
  refine ⟨_,rfl,a,_,_,_,rfl,rfl,SqT.of ha1,at2_1,_,rfl,_,_,rfl,rfl,_,rfl,ite3 (fun c=>?_) (fun c=>?_)⟩
  ·have c:=of_decide_eq_true c
   refine ⟨_,rfl,a,_,_,_,rfl,rfl,SqT.of ha1,at2_1,_,rfl,fun y dy ny ndy ney=>⟨y,dy,_,rfl,upd_same,rfl,?_⟩⟩
   have s3:Same H1 (upd (upd (upd H1 dy (.own y)) y (.ins cW dy [])) y (.ins cW dy (wF .non))):=made_w ny ndy
   have o3:Obj cW cU cL (upd (upd (upd H1 dy (.own y)) y (.ins cW dy [])) y (.ins cW dy (wF .non))) (.whole none) (.ref y):=by rw [Obj]; exact ⟨y,dy,rfl,upd_same⟩
   generalize upd (upd (upd H1 dy (.own y)) y (.ins cW dy [])) y (.ins cW dy (wF .non))=H3 at s3 o3 ⊢
   refine fun u du nu ndu neu=>⟨u,du,z.2,.ref x,.ref y,rfl,upd_same,fun H4 s4 e4=>⟨rfl,?_⟩⟩
   have s34:Same H3 H4:=fun b o e=>s4 b o (ne_of_none e nu) (made_same nu ndu b o e)
   refine kB _ H4 (s1.trans (s3.trans s34)) ?_
   unfold off1
   rw [if_pos c,Obj]
   exact ⟨u,du,.ref x,.ref y,rfl,e4,(o1.same s3).same s34,o3.same s34⟩
  ·have c:=of_decide_eq_false c
   refine kB _ H1 s1 ?_
   unfold off1
   rw [if_neg c]
   exact o1
theorem S_tree_alone:FnScope ["wants","number","width","height","held"] ["wants","number","width","height"] (defScope s_tree_alone):=⟨rfl,rfl,rfl,by decide +kernel,rfl,by decide +kernel,by decide +kernel⟩
theorem ok_tree_alone {f:Addr} {fd:FuncData} (F:Fun K "tree_alone" "tree_alone" s_tree_alone f fd) (D_ways_held:DefOk P w K mg base 2 "ways_held" ["want","width","height"] sp_wheld) (D_cut_off:DefOk P w K mg base 3 "cut_off" ["mark","size","width","height"] (sp_off cW cU cL)):FnOk P w K mg base CX0 4 f fd ["wants","number","width","height"] (sp_talone cW cU cL):=by
 have S:=S_tree_alone
 refine F.ok S (fun vs H Q E h=>?_) (fun cdv A outer s H vs Q E hr h=>?_)
 ·obtain ⟨a,ws,m,t,w,h,rfl,_⟩:=h; rfl
 ·obtain ⟨a,ws,m,t,ww,hh,rfl,⟨ts,ha,ht,rfl⟩,m0,hm,ne,q⟩:=h
  rw [List.getElem?_map] at hm
  obtain ⟨u,hu',rfl⟩:=Option.map_eq_some_iff.mp hm
  have hat:atI (refs ts) m=some (.ref u.1):=by
   have e:=atI_nat (xs:=refs ts) (j:=m.toNat) (v:=.ref u.1) (by rw [refs,List.getElem?_map,hu']; rfl)
   rw [Int.toNat_of_nonneg m0] at e
   exact e
  refine ⟨_,(pss_cons (ps_set (i:=4) S.nd rfl (Or.inl rfl) (pe_fn D_ways_held hr (pa_cons (pe_ix ix_list (pv 0) (pv 1) (fun _ _=>rfl)) (pa_cons (pv 2) (pa_cons (pv 3) pa_nil)))))
   (pss_one (ps_ret (pe_fn D_cut_off hr (pa_cons (pv 1) (pa_cons (pe_ix ix_list (pv 4) pe_int (fun _ _=>rfl)) (pa_cons (pv 2) (pa_cons (pv 3) pa_nil)))))))),?_⟩
  refine ⟨_,rfl,_,rfl,a,_,_,_,rfl,rfl,SqL.of ha,hat,_,rfl,_,rfl,u.1,u.2,ww,hh,rfl,ht u (List.mem_of_getElem? hu'),fun l H1 s1 nl hl=>?_⟩
  obtain ⟨vs,e1,e2,e3⟩:=hl
  cases vs with
  | nil=>exact absurd (show heldW u.2 ww hh=[] from e3.symm) ne
  | cons z r =>
   have hz:z.2∈heldW u.2 ww hh:=by rw [← e3]; exact List.mem_cons_self
   unfold heldW at hz
   obtain ⟨z1,z2⟩:=List.mem_filter.mp hz
   rw [Bool.and_eq_true,decide_eq_true_eq,decide_eq_true_eq] at z2
   exact ⟨_,rfl,_,rfl,l,_,_,_,rfl,rfl,SqL.of e1,atI_nat (j:=0) rfl,_,rfl,_,rfl,m,z.1,z.2,ww,hh,rfl,e2 z List.mem_cons_self,fun v H2 s2 o=>q v z.2 H2 (s1.trans s2) z1 z2.1 z2.2 o⟩
theorem S_tree_for:FnScope ["wants","heights","bits","width","height","cut","word","at","part","first","other"] ["wants","heights","bits","width","height"] (defScope s_tree_for):=⟨rfl,rfl,rfl,by decide +kernel,rfl,by decide +kernel,by decide +kernel⟩
theorem at1 {x0 x1 x2 x3:V}:atI [x0,x1,x2,x3] 1=some x1:=rfl
theorem at2 {x0 x1 x2 x3:V}:atI [x0,x1,x2,x3] 2=some x2:=rfl
theorem at3 {x0 x1 x2 x3:V}:atI [x0,x1,x2,x3] 3=some x3:=rfl
theorem pow31 {n:Nat} (h:n≤6):2^n - 1≤63:=by
 have:∀ n:Nat,n≤6→2^n - 1≤63:=by decide +kernel
 exact this n h
theorem ok_tree_for {f:Addr} {fd:FuncData} {n:Nat} (F:Fun K "tree_for" "tree_for" s_tree_for f fd) (T:Txt mg t1 t2 t3 t4 t5 t6) (D_is_alone:DefOk P w K mg base 1 "is_alone" ["bits"] sp_alone) (D_number_alone:DefOk P w K mg base 1 "number_alone" ["bits"] sp_number) (D_tree_alone:DefOk P w K mg base 4 "tree_alone" ["wants","number","width","height"] (sp_talone cW cU cL))
  (D_cuts_to:DefOk P w K mg base 3 "cuts_to" ["heights","bits","width"] sp_cuts) (D_cut_from:DefOk P w K mg base 3 "cut_from" ["word","at","first","other"] (sp_cutfrom cW cU cL)) (D_tree_for:DefOk P w K mg base (n+4) "tree_for" ["wants","heights","bits","width","height"] (sp_tree cW cU cL n)) :
  FnOk P w K mg base CX0 (n+5) f fd ["wants","heights","bits","width","height"] (sp_tree cW cU cL (n+1)):=by
 have S:=S_tree_for
 refine F.ok S (fun vs H Q E h=>?_) (fun cdv A outer s H vs Q E hr h=>?_)
 ·obtain ⟨a,d,ws,B,b,w,hh,ad,h,rfl,_⟩:=h; rfl
 ·obtain ⟨a,d,ws,B,b,ww,hh,ad,h,rfl,hw,few,ok,tab,B1,B2,okb,hpc,bw,bh,rows,on,q⟩:=h
  have hu:=hu_of hr
  have B3:=pow31 few
  obtain ⟨b1,b2,b3⟩:=id okb
  obtain ⟨la,ln⟩:=(rows b okb).2 ww bw.1 bw.2
  refine ⟨_,(pss_cons (ps_if (pt_val (pe_fn D_is_alone hr (pa_cons (pv 2) pa_nil) (by omega))) (pss_one (ps_ret (pe_fn D_tree_alone hr (pa_cons (pv 0) (pa_cons (pe_fn D_number_alone hr (pa_cons (pv 2) pa_nil) (by omega)) (pa_cons (pv 3) (pa_cons (pv 4) pa_nil)))) (by omega)))) pss_nil)
   (pss_cons (ps_set (i:=5) S.nd rfl (Or.inl rfl) (pe_callB (call_minQ hu) rfl T.z_min rfl (pa_cons (pe_fn D_cuts_to hr (pa_cons (pv 1) (pa_cons (pv 2) (pa_cons (pv 3) pa_nil))) (by omega)) pa_nil)))
   (pss_cons (ps_set (i:=6) S.nd rfl (Or.inl rfl) (pe_ix ix_tup (pv 5) pe_int (fun _ _=>rfl)))
   (pss_cons (ps_set (i:=7) S.nd rfl (Or.inl rfl) (pe_ix ix_tup (pv 5) pe_int (fun _ _=>rfl)))
   (pss_cons (ps_set (i:=8) S.nd rfl (Or.inl rfl) (pe_ix ix_tup (pv 5) pe_int (fun _ _=>rfl)))
   (pss_cons (ps_if (pt_cmpR op_eq (pv 6) (pe_glob (v:=.str "upright") rfl T.g_UPRIGHT ⟨_,rfl⟩) (nomark _)) (pss_cons (ps_set (i:=9) S.nd rfl (Or.inl rfl) (pe_fn D_tree_for hr (pa_cons (pv 0) (pa_cons (pv 1) (pa_cons (pv 8) (pa_cons (pv 7) (pa_cons (pv 4) pa_nil))))) (by omega)))
   (pss_one (ps_set (i:=10) S.nd rfl (Or.inl rfl) (pe_fn D_tree_for hr (pa_cons (pv 0) (pa_cons (pv 1) (pa_cons (pe_op op_sub (pv 2) (pv 8)) (pa_cons (pe_op op_sub (pv 3) (pv 7)) (pa_cons (pv 4) pa_nil))))) (by omega))))) (pss_cons (ps_set (i:=9) S.nd rfl (Or.inl rfl) (pe_fn D_tree_for hr (pa_cons (pv 0) (pa_cons (pv 1) (pa_cons (pv 8) (pa_cons (pv 3) (pa_cons (pv 7) pa_nil))))) (by omega)))
   (pss_one (ps_set (i:=10) S.nd rfl (Or.inl rfl) (pe_fn D_tree_for hr (pa_cons (pv 0) (pa_cons (pv 1) (pa_cons (pe_op op_sub (pv 2) (pv 8)) (pa_cons (pv 3) (pa_cons (pe_op op_sub (pv 4) (pv 7)) pa_nil))))) (by omega))))))
   (pss_one (ps_ret (pe_fn D_cut_from hr (pa_cons (pv 6) (pa_cons (pv 7) (pa_cons (pv 9) (pa_cons (pv 10) pa_nil)))) (by omega)))))))))),?_⟩
  refine ⟨_,rfl,b,rfl,_,rfl,ite3 (fun c=>?_) (fun c=>?_)⟩
  ·obtain ⟨o1,o2,o3,o4⟩:=one_of b1 (by omega) c
   obtain ⟨t,ht,alt⟩:=la c
   have ht:ws[(nOne b).toNat]?=some t:=ht
   have ne:heldW t ww hh≠[]:=by
    rcases alt with ⟨_,e⟩ | ⟨hm,_⟩
    ·omega
    ·unfold lows at hm
     obtain ⟨z,hz,e⟩:=List.mem_map.mp hm
     obtain ⟨z1,z2⟩:=List.mem_filter.mp hz
     intro e0
     have:z∈heldW t ww hh:=by
      unfold heldW
      refine List.mem_filter.mpr ⟨z1,?_⟩
      rw [z2,Bool.true_and]
      exact decide_eq_true (by omega)
     rw [e0] at this
     cases this
   exact ⟨_,rfl,_,rfl,b,rfl,_,rfl,_,rfl,a,ws,nOne b,t,ww,hh,rfl,hw,o1,ht,ne,fun v z H' s' z1 z2 z3 o=>q v _ H' s' o (Sv.one c ht z1 z2 z3)⟩
  ·obtain ⟨m,hm,hmin,em⟩:=ln c
   have hmh:m≤hh:=by
    by_cases z:m < 13
    ·rw [if_pos z] at em; omega
    ·rw [if_neg z] at em; omega
   have pl:∀ q∈plist b,okB B q∧okB B (b - q):=fun q hq=>by
    obtain ⟨q1,q2,q3⟩:=plist_up hq
    obtain ⟨t1,t2⟩:=part_trans (b:=B) B1 (by omega) b1 (by omega) b3 hq
    exact ⟨⟨q1,by omega,t1⟩,⟨q3,by omega,t2⟩⟩
   refine ⟨_,rfl,_,rfl,_,rfl,d,b,ww,okB B,ad,h,rfl,tab,b1,by omega,pl,bw.1,bw.2,fun l ts H1 s1 nl hl hc hts few'=>?_⟩
   have mem:∀ t∈ts,t.2∈cutsF h b ww:=fun t ht=>by rw [← hts]; exact List.mem_map.mpr ⟨t,ht,rfl⟩
   have hfst:ts.map (·.2.1)=cutH h b ww:=by rw [← cutsF_fst,← hts,List.map_map]; rfl
   have ne:ts≠[]:=fun z=>by rw [z] at hfst; rw [← hfst] at hm; cases hm
   refine ⟨l,ts,rfl,SqL.of hl,rfl,ne,hc,fun t ht u hu'=>cutsF_alike (mem t ht) (mem u hu'),fun t ht least=>?_⟩
   have hcm:t.2.1≤m:=by
    rw [← hfst] at hm
    obtain ⟨u,hu',rfl⟩:=List.mem_map.mp hm
    exact least u hu'
   have htc:=hc t ht
   have hw1:=hw.same s1
   have tab1:=tab.same s1
   obtain ⟨p,hp,⟨at_,a1,a2,e⟩ | e⟩:=mem_cutsF (mem t ht)
   ·rw [e] at htc hcm
    have htc:H1 t.1=some (.tup [.int (cutU h b ww p at_),.str (wd true),.int at_,.int p]):=htc
    have hcm:cutU h b ww p at_≤m:=hcm
    unfold cutU at hcm
    obtain ⟨k1,k2⟩:=pl p hp
    obtain ⟨c1,c2,_⟩:=half_of b1 (by omega) hp
    have x1:=mx_l (rat (h p) at_) (rat (h (b - p)) (ww - at_))
    have x2:=mx_r (rat (h p) at_) (rat (h (b - p)) (ww - at_))
    refine ⟨_,rfl,t.1,_,_,_,rfl,rfl,SqT.of htc,at1,_,rfl,t.1,_,_,_,rfl,rfl,SqT.of htc,at2,_,rfl,t.1,_,_,_,rfl,rfl,SqT.of htc,at3,?_⟩
    refine ⟨_,rfl,rfl,_,rfl,iteP (wd_dec true true) ?_⟩
    refine ⟨_,rfl,_,rfl,_,rfl,_,rfl,_,rfl,a,d,ws,B,p,at_,hh,ad,h,rfl,hw1,few,ok,tab1,B1,B2,k1,by omega,⟨by omega,by omega⟩,bh,rows,by omega,fun v1 y1 H2 s2 o1 sv1=>?_⟩
    refine ⟨_,rfl,_,rfl,_,rfl,_,rfl,_,_,rfl,rfl,_,rfl,_,rfl,_,_,rfl,rfl,_,rfl,a,d,ws,B,b - p,ww - at_,hh,ad,h,rfl,hw1.same s2,few,ok,tab1.same s2,B1,B2,k2,by omega,⟨by omega,by omega⟩,bh,rows,by omega,fun v2 y2 H3 s3 o2 sv2=>?_⟩
    exact ⟨_,rfl,_,rfl,_,rfl,_,rfl,true,at_,v1,v2,y1,y2,rfl,o1.same s3,o2,fun v' H' s' o=>q v' _ H' (s1.trans (s2.trans (s3.trans s'))) o (Sv.up hp a1 a2 sv1 sv2)⟩
   ·rw [e] at htc hcm
    have htc:H1 t.1=some (.tup [.int (rat (h p) ww+rat (h (b - p)) ww),.str (wd false),.int (rat (h p) ww),.int p]):=htc
    have hcm:rat (h p) ww+rat (h (b - p)) ww≤m:=hcm
    obtain ⟨k1,k2⟩:=pl p hp
    obtain ⟨c1,c2,_⟩:=half_of b1 (by omega) hp
    have rp:=fun x (hx:okB B x)=>rowP_pos ok B1 (by omega) (fun p p1 p2 p3=>rows p ⟨p1,p2,p3⟩) x.toNat x ww rfl hx.1 hx.2.1 hx.2.2 bw.1 bw.2
    have r1:=rp p k1
    have r2:=rp (b - p) k2
    refine ⟨_,rfl,t.1,_,_,_,rfl,rfl,SqT.of htc,at1,_,rfl,t.1,_,_,_,rfl,rfl,SqT.of htc,at2,_,rfl,t.1,_,_,_,rfl,rfl,SqT.of htc,at3,?_⟩
    refine ⟨_,rfl,rfl,_,rfl,iteN (wd_dec false true) ?_⟩
    refine ⟨_,rfl,_,rfl,_,rfl,_,rfl,_,rfl,a,d,ws,B,p,ww,rat (h p) ww,ad,h,rfl,hw1,few,ok,tab1,B1,B2,k1,by omega,bw,⟨by omega,by omega⟩,rows,Int.le_refl _,fun v1 y1 H2 s2 o1 sv1=>?_⟩
    refine ⟨_,rfl,_,rfl,_,rfl,_,rfl,_,_,rfl,rfl,_,rfl,_,rfl,_,rfl,_,_,rfl,rfl,a,d,ws,B,b - p,ww,hh - rat (h p) ww,ad,h,rfl,hw1.same s2,few,ok,tab1.same s2,B1,B2,k2,by omega,bw,⟨by omega,by omega⟩,rows,by omega,fun v2 y2 H3 s3 o2 sv2=>?_⟩
    exact ⟨_,rfl,_,rfl,_,rfl,_,rfl,false,rat (h p) ww,v1,v2,y1,y2,rfl,o1.same s3,o2,fun v' H' s' o=>q v' _ H' (s1.trans (s2.trans (s3.trans s'))) o (Sv.lev hp r1 (by omega) sv1 sv2)⟩
theorem part_selfB {b:Int} (b1:1≤b) (b2:b≤63):isPart b b=true:=List.all_eq_true.mp part_self b (mem_upto.mpr ⟨b1,b2⟩)
def leastB (b:Int):Bool:=(List.range 6).any fun i=>decide ((1:Int) * 2^i∈plist b++[b]) && (plist (1 * 2^i)).isEmpty
theorem least_ok:(upto 63).all leastB=true:=by decide +kernel
theorem glass_all {co G:Int→Option Int} {n m:Nat} (hm:n=2^m - 1) (m5:m≤6) (g:GlassP co G n) (h:∀ i:Nat,i < m→co (1 * 2^i)≠none):∀ (k:Nat) (b:Int),b.toNat=k→0≤b→b≤n→∃ z,G b=some z:=by
 have n31:n≤63:=by rw [hm]; exact pow31 m5
 intro k
 induction k using Nat.strongRecOn with
 | ind k ih =>
  intro b hk b0 b2
  by_cases e:b=0
  ·exact ⟨0,by rw [e]; exact g.1⟩
  ·have t:=List.all_eq_true.mp least_ok b (mem_upto.mpr ⟨by omega,by omega⟩)
   unfold leastB at t
   rw [List.any_eq_true] at t
   obtain ⟨i,hi,t⟩:=t
   rw [Bool.and_eq_true,decide_eq_true_eq] at t
   obtain ⟨p1,p2⟩:=in_parts (by omega) t.1
   have im:i < m:=by
    have hi5:=List.mem_range.mp hi
    have:∀ i:Nat,i < 6→∀ m:Nat,m≤6→(1:Int) * 2^i≤((2^m - 1:Nat):Int)→i < m:=by decide +kernel
    exact this i hi5 m m5 (by rw [← hm]; omega)
   cases ec:co (1 * 2^i) with
   | none=>exact absurd ec (h i im)
   | some c =>
    obtain ⟨y,hy⟩:=ih (b - 1 * 2^i).toNat (by omega) (b - 1 * 2^i) rfl (by omega) (by omega)
    rw [g.2 b (by omega) b2]
    obtain ⟨z,hz,_⟩:=minO_le (mem_ways.mpr ⟨_,c,y,t.1,ec,hy,rfl⟩)
    exact ⟨z,hz⟩
abbrev PRow:=Nat × Tr × Int
inductive Pl (ws:List Want) (ss:List (Int × Int)) (B:Int):List PRow→Int→Int→Prop
 | nil:Pl ws ss B [] B 0
 | snoc {D:List PRow} {b g p:Int} {k:Nat} {x:Tr} {z:Int × Int} (h:Pl ws ss B D b g) (b1:1≤b) (hp:p∈plist b++[b]) (hz:ss[k]?=some z) (sv:Sv ws x p z.1 z.2):Pl ws ss B (D++[(k,x,p)]) (b - p) (g+area z)
def lo5 (b:Int):Int:=(((List.range 6).find? (bitB b)).getD 9:Nat)
def stepB (B b:Int):Bool:=!isPart B b || (plist b++[b]).all fun p=>isPart B (b - p) && decide (Builtin.bitAnd p (B - b)=0) && decide (Builtin.bitOr (B - b) p=B - (b - p)) && decide (1≤p) && decide (p≤b) && isPart B p && decide (lo5 p=lo5 b) && (decide (b - p=0) || decide (lo5 b < lo5 (b - p))) && decide (lo5 b < 9)
theorem step_ok:(upto 63).all (fun B=>(upto 63).all (stepB B))=true:=by decide +kernel
theorem step_of {B b p:Int} (B1:1≤B) (B2:B≤63) (b1:1≤b) (b2:b≤63) (h:isPart B b=true) (hp:p∈plist b++[b]):isPart B (b - p)=true∧Builtin.bitAnd p (B - b)=0∧Builtin.bitOr (B - b) p=B - (b - p)∧1≤p∧p≤b∧isPart B p=true∧lo5 p=lo5 b∧(b - p=0∨lo5 b < lo5 (b - p))∧lo5 b < 9:=by
 have t:=List.all_eq_true.mp (List.all_eq_true.mp step_ok B (mem_upto.mpr ⟨B1,B2⟩)) b (mem_upto.mpr ⟨b1,b2⟩)
 unfold stepB at t
 rw [h,Bool.not_true,Bool.false_or] at t
 have:=List.all_eq_true.mp t p hp
 simp only [Bool.and_eq_true,Bool.or_eq_true,decide_eq_true_eq] at this
 obtain ⟨⟨⟨⟨⟨⟨⟨⟨a,b⟩,c⟩,d⟩,e⟩,f⟩,g⟩,h⟩,i⟩:=this
 exact ⟨a,b,c,d,e,f,g,h,i⟩
theorem Pl.ok {ws:List Want} {ss:List (Int × Int)} {B:Int} (B1:1≤B) (B2:B≤63) {D:List PRow} {b g:Int} (h:Pl ws ss B D b g):0≤b∧b≤B∧isPart B b=true∧D.length+b.toNat≤B.toNat:=by
 induction h with
 | nil=>exact ⟨by omega,Int.le_refl _,part_selfB B1 B2,by show 0+B.toNat≤B.toNat; omega⟩
 | @snoc D b g p k x z h b1 hp hz sv ih =>
  obtain ⟨i1,i2,i3,i4⟩:=ih
  obtain ⟨s1,_,_,s4,s5,_⟩:=step_of B1 B2 b1 (by omega) i3 hp
  refine ⟨by omega,by omega,s1,?_⟩
  rw [List.length_append,List.length_singleton]
  omega
theorem full_part:∀ n:Nat,n≤6→(upto (2^n - 1)).all (fun p=>isPart ((2^n - 1:Nat):Int) p)=true:=by decide +kernel
def sp_served (cP:Addr):Sp:=fun vs H Q E=>∃ (a c:Addr) (ws:List Want) (n:Nat) (co:Int→Option Int),vs=[.ref a,.ref c]∧WantsAt H a ws∧ws.length≤6∧Chp H c n co∧n=2^ws.length - 1 ∧
 ((∀ i:Nat,i < ws.length→co (1 * 2^i)≠none)→∀ H',Same H H'→Q .non H')∧∀ i:Nat,i < ws.length→(∀ j:Nat,j < i→co (1 * 2^j)≠none)→co (1 * 2^i)=none→Rf H E cP fun fs _=>fs=[(("want":Str),.int i)]
def RwAt (cW cU cL:Addr) (H:Hp) (r:PRow) (v:V):Prop:=∃ t u,v=.ref t∧H t=some (.tup [.int r.1,u])∧Obj cW cU cL H r.2.1 u
inductive RwsAt (cW cU cL:Addr) (H:Hp):List PRow→List V→Prop
 | nil:RwsAt cW cU cL H [] []
 | snoc {D:List PRow} {xs:List V} {r:PRow} {v:V}:RwsAt cW cU cL H D xs→RwAt cW cU cL H r v→RwsAt cW cU cL H (D++[r]) (xs++[v])
theorem RwAt.kp {H H':Hp} {r:PRow} {v:V} (s:∀ b o,H b=some o→(∀ xs,o≠.lst xs)→H' b=some o) (h:RwAt cW cU cL H r v):RwAt cW cU cL H' r v:=by
 obtain ⟨t,u,e,ht,ho⟩:=h
 refine ⟨t,u,e,s _ _ ht (fun xs z=>by cases z),?_⟩
 generalize r.2.1=x at ho
 clear e ht
 induction x generalizing u with
 | whole m=>rw [Obj] at ho ⊢; obtain ⟨a,dx,e,h⟩:=ho; exact ⟨a,dx,e,s _ _ h (fun xs z=>by cases z)⟩
 | cut w k x y ihx ihy=>rw [Obj] at ho ⊢; obtain ⟨a,dx,vx,vy,e,h,h1,h2⟩:=ho; exact ⟨a,dx,vx,vy,e,s _ _ h (fun xs z=>by cases z),ihx _ h1,ihy _ h2⟩
theorem RwsAt.kp {H H':Hp} (s:∀ b o,H b=some o→(∀ xs,o≠.lst xs)→H' b=some o) {D:List PRow} {xs:List V} (h:RwsAt cW cU cL H D xs):RwsAt cW cU cL H' D xs:=by
 induction h with
 | nil=>exact .nil
 | snoc _ r ih=>exact .snoc ih (r.kp s)
theorem RwsAt.len {H:Hp} {D:List PRow} {xs:List V} (h:RwsAt cW cU cL H D xs):xs.length=D.length:=by
 induction h with
 | nil=>rfl
 | snoc _ _ ih=>rw [List.length_append,List.length_append,ih]; rfl
theorem S_check_served:FnScope ["wants","cheapest","number"] ["wants","cheapest"] (defScope s_check_served):=⟨rfl,rfl,rfl,by decide +kernel,rfl,by decide +kernel,by decide +kernel⟩
theorem pow_lt {i m:Nat} (hm:m≤6) (h:i < m):(1:Int)≤1 * 2^i∧(1:Int) * 2^i≤((2^m - 1:Nat):Int):=by
 have:∀ m:Nat,m≤6→∀ i:Nat,i < m→(1:Int)≤1 * 2^i∧(1:Int) * 2^i≤((2^m - 1:Nat):Int):=by decide +kernel
 exact this m hm i h
theorem ok_check_served {f:Addr} {fd:FuncData} (F:Fun K "check_served" "check_served" s_check_served f fd) (T:Txt mg t1 t2 t3 t4 t5 t6) (X_NoPlan:XMkOk P w K mg base 1 "NoPlan" cP ["self","want"] ["want"]):FnOk P w K mg base (CX1 P w) 3 f fd ["wants","cheapest"] (sp_served cP):=by
 have S:=S_check_served
 refine F.okx S (fun vs H Q E h=>?_) (fun cdv A outer s H vs Q E hr h=>?_)
 ·obtain ⟨a,c,ws,n,co,rfl,_⟩:=h; rfl
 ·obtain ⟨a,c,ws,n,co,rfl,⟨ts,ha,ht,hts⟩,few,chp,hn,q,r⟩:=h
  have hu:=hu_of hr
  have tl:(refs ts).length=ws.length:=by rw [refs_len,← hts,List.length_map]
  obtain ⟨kvs,c1,c2⟩:=chp.is
  refine ⟨_,(pss_one (ps_for own_cx rfl (pi_range1 rfl T.z_range (pa_cons (pe_callB call_len_seq rfl T.z_len rfl (pa_cons (pv 0) pa_nil)) pa_nil)) (pg_name (i:=2) S.nd rfl (Or.inl rfl)) (pss_one (ps_if (pt_cmp (pc_dnotin hu (pe_op op_shl pe_int (pv 2)) (pv 1))) (pss_one (ps_raise xeok_cx X_NoPlan hr (pa_cons (pv 2) pa_nil))) pss_nil)))),?_⟩
  refine ⟨_,rfl,a,_,rfl,.inl (SqL.of ha),_,rfl,by rw [tl]; omega,by rw [tl]; omega,?_⟩
  rw [tl,Int.toNat_natCast]
  refine for_range (lo:=0) (n:=ws.length) (fun i σ H'=>(∃ y,σ=[some (.ref a),some (.ref c),y])∧Same H H'∧∀ j:Nat,j < i→co (1 * 2^j)≠none) ⟨⟨none,rfl⟩,Same.refl _,fun j hj=>absurd hj (Nat.not_lt_zero _)⟩ ?_ ?_
  ·rintro i σ H1 hi ⟨⟨y,rfl⟩,s1,all⟩
   rw [Int.zero_add]
   obtain ⟨p1,p2⟩:=pow_lt few hi
   obtain ⟨is,_⟩:=c2 (1 * 2^i) p1 (by rw [hn]; exact p2)
   refine ⟨_,rfl,_,_,rfl,rfl,⟨by omega,by omega,by omega⟩,_,rfl,c,_,rfl,DGet.k (k:=Sum.inl (1 * 2^((i:Nat):Int).toNat)) (s1 _ _ c1),_,rfl,?_⟩
   rw [Int.toNat_natCast,is]
   cases ec:co (1 * 2^i) with
   | none=>exact iteP rfl ⟨_,rfl,rfl,fun y dx T H3 hy s3 e ed nd hT nT=>(r i hi all ec).raise s1 hy s3 e ed nd hT rfl⟩
   | some m =>
    refine iteN rfl ⟨⟨_,rfl⟩,s1,fun j hj=>?_⟩
    rcases Nat.lt_or_ge j i with h | h
    ·exact all j h
    ·rw [show j=i by omega,ec]; exact fun z=>nomatch z
  ·rintro σ H1 ⟨_,s1,all⟩
   exact q all H1 s1
theorem cost_some {r:List Int} {ss:List (Int × Int)} {m y:Int} (h:ShOk r ss (m,y)):∃ (k:Nat) (z:Int × Int),y=k∧ss[k]?=some z∧rat r z.1≤z.2∧m=area z:=by
 obtain ⟨k,z,e1,e2,e3,e4⟩:=h
 exact ⟨k,z,e1,e2,of_decide_eq_true e3,e4⟩
abbrev N_plan:List Str:=["wants","sheets","heights","cheapest","bits","glass","told","part","number","size"]
theorem S_plan:FnScope N_plan ["wants","sheets"] (defScope s_plan):=⟨rfl,rfl,rfl,by decide +kernel,rfl,by decide +kernel,by decide +kernel⟩
def muP:St→Nat
 | [_,_,_,_,some (.int b),_,_,_,_,_]=>b.toNat
 | _=>0
theorem stb_tt:Stb fun _ _=>True:=fun _ _ _ _ _ _ _ _ _=>trivial
theorem rf_w {H:Hp} {E:XK} {C:Addr} {P:List (Str × V)→Hp→Prop} (r:Rf H E C fun _ _=>True):Rf H E C P:=fun x d fs H' a b c _=>r x d fs H' a b c trivial
theorem ok_plan {f:Addr} {fd:FuncData} (F:Fun K "plan" "plan" s_plan f fd) (T:Txt mg t1 t2 t3 t4 t5 t6) (D_heights_for:DefOkX P w K mg base 6 "heights_for" ["wants","sheets"] (sp_hfor1 cM cA cQ cN cD cS cP)) (D_cheapest_sheets:DefOk P w K mg base 1 "cheapest_sheets" ["heights","sheets"] sp_cheap) (D_check_served:DefOkX P w K mg base 3 "check_served" ["wants","cheapest"] (sp_served cP))
  (D_all_bits:DefOk P w K mg base 1 "all_bits" ["wants"] sp_bits) (D_glass_by_set:DefOk P w K mg base 4 "glass_by_set" ["cheapest","bits"] sp_glass) (D_first_sheets:DefOk P w K mg base 3 "first_sheets" ["cheapest","glass","bits"] sp_first) (D_tree_for:DefOk P w K mg base 11 "tree_for" ["wants","heights","bits","width","height"] (sp_tree cW cU cL 7)) :
  FnOk P w K mg base (CX1 P w) 12 f fd ["wants","sheets"] (sp_plan1 cM cA cQ cN cD cS cP):=by
 have S:=S_plan
 refine F.okx S (fun vs H Q E h=>?_) (fun cdv A outer s H vs Q E hr h=>?_)
 ·obtain ⟨a,b,xs,ys,gs,hs,rfl,_⟩:=h; rfl
 ·obtain ⟨a,b0,xs,ys,gs,hs,rfl,hxs,th,lg,hys,sh,lh,rr,qq⟩:=h
  have hu:=hu_of hr
  refine ⟨_,(pss_cons (ps_set (i:=2) S.nd rfl (Or.inl rfl) (pe_fnx D_heights_for hr (pass_x xeok_cx (pass_u (H:=H) (E:=E))) (pa_cons (pv 0) (pa_cons (pv 1) pa_nil))))
   (pss_cons (ps_set (i:=3) S.nd rfl (Or.inl rfl) (pe_fn D_cheapest_sheets hr (pa_cons (pv 2) (pa_cons (pv 1) pa_nil))))
   (pss_cons (ps_expr (pe_fnx D_check_served hr (pass_x xeok_cx (pass_u (H:=H) (E:=E))) (pa_cons (pv 0) (pa_cons (pv 3) pa_nil))))
   (pss_cons (ps_set (i:=4) S.nd rfl (Or.inl rfl) (pe_fn D_all_bits hr (pa_cons (pv 0) pa_nil)))
   (pss_cons (ps_set (i:=5) S.nd rfl (Or.inl rfl) (pe_fn D_glass_by_set hr (pa_cons (pv 3) (pa_cons (pv 4) pa_nil))))
   (pss_cons (ps_set (i:=6) S.nd rfl (Or.inl rfl) (pe_lst pa_nil))
   (pss_cons (ps_while own_cx (pt_cmpR op_gt (pv 4) pe_int (nomark _)) (pss_cons (ps_set (i:=7) S.nd rfl (Or.inl rfl) (pe_ix ix_tup (pe_callB (call_minT hu) rfl T.z_min rfl (pa_cons (pe_fn D_first_sheets hr (pa_cons (pv 3) (pa_cons (pv 5) (pa_cons (pv 4) pa_nil)))) pa_nil)) pe_int (fun _ _=>rfl)))
   (pss_cons (ps_set (i:=8) S.nd rfl (Or.inl rfl) (pe_ix ix_tup (pe_dget hu (pv 3) (pv 7) (fun _ _=>rfl)) pe_int (fun _ _=>rfl)))
   (pss_cons (ps_set (i:=9) S.nd rfl (Or.inl rfl) (pe_ix ix_list (pv 1) (pv 8) (fun _ _=>rfl)))
   (pss_cons (ps_expr (pe_bm PySem.F.plainAttrs_list PySem.F.slot_list_append PySem.F.type_list_append mt_append (pv 6) (pa_cons (pe_tup (pa_cons (pv 8) (pa_cons (pe_fn D_tree_for hr (pa_cons (pv 0) (pa_cons (pv 2) (pa_cons (pv 7) (pa_cons (pe_ix ix_tup (pv 9) pe_int (fun _ _=>rfl)) (pa_cons (pe_ix ix_tup (pv 9) pe_int (fun _ _=>rfl)) pa_nil)))))) pa_nil))) pa_nil)))
   (pss_one (ps_aug (i:=4) S.nd rfl (Or.inl rfl) (pv 7) ip_sub)))))))
   (pss_one (ps_ret (pv 6)))))))))),?_⟩
  refine ⟨_,rfl,_,rfl,a,b0,xs,ys,gs,hs,rfl,hxs,th,lg,hys,sh,lh,fun r hr'=>rfr_u (Same.refl H) (rr r hr'),fun ws ss eg few eh l1 l2=>?_⟩
  subst eg eh
  obtain ⟨us,rfl,u1,u2,ok⟩:=wants_of th
  have hw:WantsAt H a ws:=⟨us,hxs,u1,u2⟩
  obtain ⟨zs,rfl,z1,z2,so⟩:=sheets_of sh
  have tb:TupL H b0 ss:=⟨zs,hys,z1,z2⟩
  have dn:dueP (ws.map some) (ss.map some)=none:=due_good few l1 l2
  intro d ad h H1 s1 nd tab rows
  obtain ⟨n,hn⟩:∃ n:Nat,n=2^ws.length - 1:=⟨_,rfl⟩
  have n31:n≤63:=by rw [hn]; exact pow31 few
  obtain ⟨qT,qR⟩:=qq dn
  rw [← hn] at tab rows
  refine ⟨_,rfl,_,rfl,d,b0,ss,n,ad,h,rfl,tab,by omega,tb.same s1,l2,so,fun c H2 s2 rd2 nc chp=>?_⟩
  have s02:Same H H2:=s2.same s1 nd
  have full:∀ p:Int,1≤p→p≤(n:Int)→isPart (n:Int) p=true:=fun p p1 p2=>by
   have:=List.all_eq_true.mp (full_part ws.length few) p (mem_upto.mpr ⟨p1,by rw [← hn]; exact p2⟩)
   rw [← hn] at this
   exact this
  have okB':∀ p:Int,1≤p→p≤(n:Int)→okB n p:=fun p p1 p2=>⟨p1,p2,full p p1 p2⟩
  have tabg:TabG H2 d (okB n) ad h:=by
   refine ⟨⟨_,rd2,fun p hp=>by rw [kv_val,if_pos ⟨hp.1,hp.2.1⟩]⟩,fun p hp=>?_⟩
   obtain ⟨r1,r2⟩:=tab.2 p hp.1 hp.2.1
   exact ⟨s2 _ _ (fun z=>by rw [z,tab.1] at r1; cases r1) r1,r2⟩
  refine ⟨_,rfl,_,rfl,a,c,ws,n,_,rfl,hw.same s02,few,chp.chp,hn,fun all H3 s3=>?_,fun i hi al ec=>rf_w (rf_u s02 qR stb_tt)⟩
  have s03:=s02.trans s3
  have hw3:=hw.same s03
  have tabg3:=tabg.same s3
  have chp3:=chp.same s3
  have tb3:=tb.same s03
  obtain ⟨ts,ha,ht,hts⟩:=id hw3
  have tl:(refs ts).length=ws.length:=by rw [refs_len,← hts,List.length_map]
  refine ⟨_,rfl,a,refs ts,rfl,ha,by omega,?_⟩
  refine ⟨_,rfl,_,rfl,c,ws.length,_,by rw [tl]; rfl,by omega,by rw [← hn]; exact chp3.chp,fun g G' H4 s4 ng hg gp'=>?_⟩
  rw [← hn] at hg gp'
  obtain ⟨G,rfl⟩:∃ G,G=G':=⟨_,rfl⟩
  have gp:=gp'
  refine ⟨lenOk 0,fun l nl=>?_⟩
  have s5:Same H4 (upd H4 l (.lst [])):=Same.new nl
  have hl5:(upd H4 l (.lst [])) l=some (.lst []):=upd_same
  have nl0:H l=none:=wasNone (s03.trans s4) nl
  generalize upd H4 l (.lst [])=H5 at s5 hl5 ⊢
  have bits:((1:Int) * 2^(((refs ts).length:Nat):Int).toNat - 1)=(n:Int):=by
   rw [tl]
   have:∀ m:Nat,m≤6→(1:Int) * 2^((m:Nat):Int).toNat - 1=((2^m - 1:Nat):Int):=by decide +kernel
   rw [this _ few,← hn]
  have s04:=s03.trans s4
  have wt4:=hw.same s04
  have tg4:=tabg3.same s4
  have ch4:=chp3.same s4
  have tb4:=tb.same s04
  obtain ⟨TT,hTT⟩:=glass_all hn few gp all (n:Int).toNat (n:Int) rfl (by omega) (Int.le_refl _)
  refine while_by (fun σ H'=>∃ (b:Int) (xs:List V) (D:List PRow) (g0:Int) (x7 x8 x9:Option V),σ=[some (.ref a),some (.ref b0),some (.ref d),some (.ref c),some (.int b),some (.ref g),some (.ref l),x7,x8,x9]∧SameX l H5 H'∧H' l=some (.lst xs)∧RwsAt cW cU cL H' D xs∧Pl ws ss n D b g0∧0≤b∧b≤n∧∃ gr,G b=some gr∧g0+gr=TT)
   (fun σ _=>muP σ) ⟨n,[],[],0,none,none,none,by rw [bits]; rfl,SameX.refl,hl5,.nil,.nil,by omega,Int.le_refl _,TT,hTT,by omega⟩ ?_ ?_
  ·rintro σ H6 ⟨b,xs,D,g0,x7,x8,x9,rfl,s6,hl6,rw6,pl,b0',b2,gr,hgr,sum⟩
   have s46:Same H4 H6:=fun x o e=>s6 x o (ne_of_none e nl) (s5 x o e)
   refine ⟨_,rfl,_,_,rfl,rfl,_,rfl,ite3 (fun c0=>?_) (fun c0=>?_)⟩
   ·have c0:=of_decide_eq_true c0
    obtain ⟨i,rfl⟩:∃ i:Nat,b=1+(i:Int):=⟨(b - 1).toNat,by omega⟩
    have b1:1≤1+(i:Int):=by omega
    refine ⟨_,rfl,_,rfl,_,rfl,c,g,n,i,n,_,G,rfl,(ch4.same s46).chp,by omega,by omega,by omega,s46 _ _ hg,fun lw H7 s7 nlw tw=>?_⟩
    obtain ⟨us,e1,e2,e3⟩:=tw
    have gb:=gp.2 (1+(i:Int)) b1 b2
    rw [hgr] at gb
    have ne:us≠[]:=fun z=>by
     rw [z] at e3
     rw [← e3] at gb
     cases gb
    refine ⟨lw,us,rfl,SqL.of e1,rfl,ne,e2,fun u hu' least=>⟨u.1,_,_,_,rfl,rfl,SqT.of (e2 u hu'),at2_1,?_⟩⟩
    have um:u.2∈waysL (fun q=>cost (h q) ss) G (1+(i:Int)):=by rw [← e3]; exact List.mem_map.mpr ⟨u,hu',rfl⟩
    obtain ⟨p,hp,hway⟩:=List.mem_filterMap.mp (show u.2∈(plist (1+(i:Int))++[1+(i:Int)]).filterMap _ from um)
    unfold wayOf at hway
    cases ec:cost (h p) ss with
    | none=>simp only [ec] at hway; cases hway
    | some cst =>
     simp only [ec] at hway
     cases eg:G (1+(i:Int) - p) with
     | none=>simp only [eg] at hway; cases hway
     | some g' =>
      simp only [eg] at hway
      have eu:u.2=(cst+g',p):=(Option.some.inj hway).symm
      have hmin:minO ((waysL (fun q=>cost (h q) ss) G (1+(i:Int))).map (·.1))=some u.2.1:=minO_of (List.mem_map.mpr ⟨u.2,um,rfl⟩) fun y hy=>by
       obtain ⟨z,hz,rfl⟩:=List.mem_map.mp hy
       rw [← e3] at hz
       obtain ⟨v,hv,rfl⟩:=List.mem_map.mp hz
       exact least v hv
      rw [hmin] at gb
      have egr:gr=cst+g':=by
       rw [eu] at gb
       exact Option.some.inj gb
      have n1:(1:Int)≤n:=by omega
      obtain ⟨f1,f2,f3,f4,f5,f6,_⟩:=step_of n1 (by omega) b1 (by omega) (full _ b1 b2) hp
      have eu2:u.2.2=p:=by rw [eu]
      rw [eu2]
      have s47:=s46.trans s7
      obtain ⟨kvs,k1,k2,k3,k4⟩:=ch4.same s47
      rcases k4 p f4 (by omega) with ⟨z,_⟩ | ⟨m,a',y,z1,z2,z3,z4⟩
      ·rw [ec] at z; cases z
      obtain ⟨k,z,rfl,hz,hrat,earea⟩:=cost_some z4
      have em:m=cst:=by rw [ec] at z1; exact (Option.some.inj z1).symm
      have dg:DGet H7 c (.int p) (some (.ref a')):=.inl ⟨kvs,Sum.inl p,.inl k1,rfl,z2.symm⟩
      refine ⟨_,rfl,_,rfl,c,_,rfl,dg,a',_,_,_,rfl,rfl,SqT.of z3,at2_1,?_⟩
      obtain ⟨ts7,t1,t2,t3⟩:=tb4.same s47
      have hzt:=hz
      rw [← t3,List.getElem?_map] at hzt
      obtain ⟨v,hv,rfl⟩:=Option.map_eq_some_iff.mp hzt
      have hvs:=t2 v (List.mem_of_getElem? hv)
      obtain ⟨o1,o2,o3,o4⟩:=so v.2 (List.mem_of_getElem? hz)
      refine ⟨_,rfl,_,rfl,b0,_,_,_,rfl,rfl,SqL.of t1,at_refs (by omega) (by rw [Int.toNat_natCast]; exact hv),?_⟩
      have hl7:=s7 _ _ hl6
      refine ⟨_,rfl,.inl ⟨rfl,_,SqL.of hl7⟩,_,rfl,_,rfl,_,rfl,_,rfl,_,rfl,v.1,_,_,_,rfl,rfl,SqT.of hvs,at2_0,_,rfl,v.1,_,_,_,rfl,rfl,SqT.of hvs,at2_1,a,d,ws,n,p,v.2.1,v.2.2,ad,h,rfl,wt4.same s47,few,ok,tg4.same s47,n1,by rw [← hn]; exact Int.le_refl _,⟨f4,by omega,f6⟩,?_,⟨o1,o2⟩,⟨o3,o4⟩,fun q hq=>rows q hq.1 hq.2.1,hrat,fun w x H8 s8 o sv=>⟨lenOk 2,fun t nt=>?_⟩⟩
      ·have:=pc_small p.toNat (by omega)
       rw [Int.toNat_of_nonneg (by omega)] at this
       exact this
      have s9:=Same.new (o:=.tup [.int (k:Int),w]) nt
      have hl8:=s8 _ _ hl7
      have xl:=rw6.len
      have dl:=(pl.ok n1 (by omega)).2.2.2
      refine ⟨l,_,_,rfl,rfl,s9 _ _ hl8,small1000 (by omega),?_⟩
      refine ⟨_,rfl,_,rfl,_,_,rfl,rfl,⟨1+(i:Int) - p,_,D++[(k,x,p)],g0+area v.2,_,_,_,rfl,?_,upd_same,?_,.snoc pl b1 hp hz sv,by omega,by omega,g',eg,by omega⟩,?_⟩
      ·exact ((s6.trans (s7.trans (s8.trans s9)).x).trans SameX.upd)
      ·have kp:∀ (b:Addr) (o:HO),(upd H8 t (.tup [.int (k:Int),w])) b=some o→(∀ xs,o≠.lst xs)→(upd (upd H8 t (.tup [.int (k:Int),w])) l (.lst (xs++[.ref t]))) b=some o:=fun b o e no=>by rw [upd_ne (ne_of e (s9 _ _ hl8) (no _))]; exact e
       refine .snoc ((rw6.kp fun b o e _=>s9 _ _ (s8 _ _ (s7 _ _ e))).kp kp) (RwAt.kp kp ⟨t,w,rfl,upd_same,o.same s9⟩)
      ·show (1+(i:Int) - p).toNat < (1+(i:Int)).toNat
       omega
   ·have c0:=of_decide_eq_false c0
    have eb:b=0:=by omega
    subst eb
    have:gr=0:=by rw [gp.1] at hgr; exact (Option.some.inj hgr).symm
    exact ⟨_,rfl,qT _ H6 (s6.same (s04.trans s5) nl0)⟩
  ·intro σ H6 Q1 Q2 hq hc
   obtain ⟨v,e1,i,j,e2,e3,k,e4,q⟩:=hc
   exact ⟨v,e1,i,j,e2,e3,k,e4,hq _ _ q⟩
theorem S_stair_tree:FnScope ["wants","bits","width","height","heights"] ["wants","bits","width","height"] (defScope s_stair_tree):=⟨rfl,rfl,rfl,by decide +kernel,rfl,by decide +kernel,by decide +kernel⟩
theorem ok_stair_tree {f:Addr} {fd:FuncData} (F:Fun K "stair_tree" "stair_tree" s_stair_tree f fd) (X_NoNumber:XMkOk P w K mg base 1 "NoNumber" cN ["self","number"] ["number"]) (X_NoSize:XMkOk P w K mg base 1 "NoSize" cS ["self","size"] ["size"]) (D_is_whole:DefOk P w K mg base 1 "is_whole" ["thing"] sp_whole)
  (D_check_wants:DefOkX P w K mg base 4 "check_wants" ["wants"] (sp_check1 cM cA cQ cN cD cS cP)) (D_check_sides:DefOkX P w K mg base 3 "check_sides" ["width","height"] (sp_sides1 cM cA cQ cN cD cS cP)) (D_all_bits:DefOk P w K mg base 1 "all_bits" ["wants"] sp_bits) (D_heights_of_parts:DefOk P w K mg base 5 "heights_of_parts" ["wants","bits"] sp_heights)
  (D_tree_for:DefOk P w K mg base 11 "tree_for" ["wants","heights","bits","width","height"] (sp_tree cW cU cL 7)):FnOk P w K mg base (CX1 P w) 12 f fd ["wants","bits","width","height"] (sp_stree1 cM cA cQ cN cD cS cP):=by
 have S:=S_stair_tree
 refine F.okx S (fun vs H Q E h=>?_) (fun cdv A outer s H vs Q E hr h=>?_)
 ·obtain ⟨a,xs,gs,b,v1,v2,rfl,_⟩:=h; rfl
 ·obtain ⟨a,xs,gs,b0,v1,v2,rfl,hxs,th,lg,tb,t1,t2,rr,qq⟩:=h
  have hu:=hu_of hr
  refine ⟨_,(pss_cons (ps_expr (pe_fnx D_check_wants hr (pass_x xeok_cx (pass_u (H:=H) (E:=E))) (pa_cons (pv 0) pa_nil)))
   (pss_cons (ps_expr (pe_fnx D_check_sides hr (pass_x xeok_cx (pass_u (H:=H) (E:=E))) (pa_cons (pv 2) (pa_cons (pv 3) pa_nil))))
   (pss_cons (ps_if (PW.pt (pw_or (pt_not (pt_val (pe_fn D_is_whole hr (pa_cons (pv 1) pa_nil)))) (pw_or1 (pt_not (pt_chain op_le op_le pe_int (pv 1) (pe_fn D_all_bits hr (pa_cons (pv 0) pa_nil))))))) (pss_one (ps_raise xeok_cx X_NoNumber hr (pa_cons (pv 1) pa_nil))) pss_nil)
   (pss_cons (ps_set (i:=4) S.nd rfl (Or.inl rfl) (pe_fn D_heights_of_parts hr (pa_cons (pv 0) (pa_cons (pv 1) pa_nil))))
   (pss_cons (ps_if (pt_cmpR op_gt (pe_ix ix_list (pe_dget hu (pv 4) (pv 1) (fun _ _=>rfl)) (pv 2) (fun _ _=>rfl)) (pv 3) (nomark _)) (pss_one (ps_raise xeok_cx X_NoSize hr (pa_cons (pe_tup (pa_cons (pv 2) (pa_cons (pv 3) pa_nil))) pa_nil))) pss_nil)
   (pss_one (ps_ret (pe_fn D_tree_for hr (pa_cons (pv 0) (pa_cons (pv 4) (pa_cons (pv 1) (pa_cons (pv 2) (pa_cons (pv 3) pa_nil))))))))))))),?_⟩
  refine ⟨_,rfl,a,xs,gs,rfl,hxs,th,lg,fun r hr'=>rfr_u (Same.refl H) (rr r (by unfold dueT; rw [hr']; rfl)),fun dn H1 s1=>?_⟩
  refine ⟨_,rfl,_,rfl,v1,v2,rfl,t1.same s1,t2.same s1,fun r hr'=>rfr_u s1 (rr r (by unfold dueT; rw [dn,hr']; rfl)),fun dd H2 s2=>?_⟩
  have s12:=s1.trans s2
  obtain ⟨ww,hh,rfl,rfl,bw,bh⟩:=dueD_ok dd
  obtain ⟨ws,rfl,few⟩:=dueW_ok dn
  have eT:dueT (ws.map some) b0 (.int ww) (.int hh)=dueN ws.length b0:=by
   unfold dueT
   rw [dn,dd,List.length_map]; rfl
  obtain ⟨us,rfl,u1,u2,ok⟩:=wants_of th
  have hw:WantsAt H a ws:=⟨us,hxs,u1,u2⟩
  have hw2:=hw.same s12
  obtain ⟨ts,ha,ht,hts⟩:=id hw2
  have tl:(refs ts).length=ws.length:=by rw [refs_len,← hts,List.length_map]
  have bits:(1:Int) * 2^(((refs ts).length:Nat):Int).toNat - 1=((2^ws.length - 1:Nat):Int):=by
   rw [tl]
   have:∀ m:Nat,m≤6→(1:Int) * 2^((m:Nat):Int).toNat - 1=((2^m - 1:Nat):Int):=by decide +kernel
   exact this _ few
  have B3:=pow31 few
  have bad:numB ws.length b0=false→∀ y dx T H3,H2 y=none→Same H2 H3→H3 y=some (ExcO cN dx y)→H3 dx=some (ExcD dx ((["number"]:List Str).zip [b0]))→dx≠y→H3 T=none→T≠y→E (.ref y) (some dx) (thrown H3 y cN (some dx) T):=fun c2 y dx T H3 hy s3 e ed nd hT nT=>by
   have r1:RfR cM cA cQ cN cD cS cP H E (.number b0):=rr _ (by rw [eT]; unfold dueN; rw [c2]; rfl)
   exact r1.raise s12 hy s3 e ed nd hT rfl
  refine ⟨_,rfl,b0,rfl,tb.same s12,_,rfl,ite3 (fun c=>?_) (fun c=>?_)⟩
  ·have c:wholeV b0=false:=by simpa using c
   have nb:numB ws.length b0=false:=by cases b0 <;> first | rfl | cases c
   exact ⟨_,rfl,rfl,bad nb⟩
  ·have c:wholeV b0=true:=by simpa using c
   obtain ⟨b,rfl⟩:∃ b:Int,b0=.int b:=by cases b0 <;> first | exact ⟨_,rfl⟩ | cases c
   have nB:numB ws.length (.int b)=(decide (1≤b) && decide (b≤((2^ws.length - 1:Nat):Int))):=rfl
   refine ⟨_,rfl,_,_,rfl,rfl,_,rfl,ite3 (fun b1=>?_) (fun b1=>?_)⟩
   ·refine ⟨_,rfl,a,_,rfl,ha,by omega,?_⟩
    rw [bits]
    refine ⟨_,_,rfl,rfl,_,rfl,ite3 (fun b2=>?_) (fun b2=>?_)⟩
    ·have b2:decide (b≤((2^ws.length - 1:Nat):Int))=false:=by simpa using b2
     exact ⟨_,rfl,rfl,bad (by rw [nB,b2,Bool.and_false])⟩
    ·have b2:decide (b≤((2^ws.length - 1:Nat):Int))=true:=by simpa using b2
     obtain ⟨qT,qR⟩:=qq (by rw [eT]; unfold dueN; rw [nB,b1,b2]; rfl)
     have b1:1≤b:=of_decide_eq_true b1
     have b2:b≤((2^ws.length - 1:Nat):Int):=of_decide_eq_true b2
     refine ⟨_,rfl,_,rfl,a,ws,b,rfl,hw2,few,by omega,b2,fun d ad h H3 s3 nd hd3 row3 rows3=>?_⟩
     have okb:okB b b:=⟨b1,Int.le_refl _,part_selfB b1 (by omega)⟩
     have mem:∀ p,okB b p→p∈partsOf b:=fun p hp=>mem_partsOf.mpr ⟨⟨hp.1,hp.2.1⟩,hp.2.2⟩
     have tab:TabG H3 d (okB b) ad h:=⟨⟨_,.inl hd3,fun p hp=>by rw [kvL_val,if_pos (mem p hp)]⟩,fun p hp=>row3 p (mem p hp)⟩
     obtain ⟨r1,r2⟩:=tab.row b okb
     have s03:=s12.trans s3
     refine ⟨_,rfl,_,rfl,d,_,rfl,tab.get okb,_,rfl,ad b,_,_,_,rfl,rfl,SqL.of r1,at_rat (r:=h b) (i:=ww) (by omega) (by omega),_,rfl,_,_,rfl,rfl,_,rfl,ite3 (fun c=>?_) (fun c=>?_)⟩
     ·refine ⟨_,rfl,_,rfl,lenOk 2,fun t nt=>⟨rfl,fun y dx T H5 hy s5 e ed nd hT nT=>qR.raise (s03.trans (Same.new nt)) hy s5 e ed nd hT trivial⟩⟩
     ·have c:¬ hh < rat (h b) ww:=of_decide_eq_false c
      have hpc:pc b < 7:=by
       have:=pc_small b.toNat (by omega)
       rw [Int.toNat_of_nonneg (by omega)] at this
       exact this
      exact ⟨_,rfl,_,rfl,_,rfl,_,rfl,_,rfl,a,d,ws,b,b,ww,hh,ad,h,rfl,hw.same s03,few,ok,tab,b1,b2,okb,hpc,bw,bh,fun p hp=>rows3 p (mem p hp),by omega,fun v t H' s' o sv=>qT v H' (s03.trans s')⟩
   ·exact ⟨_,rfl,iteT ⟨_,rfl,rfl,bad (by rw [nB,b1,Bool.false_and])⟩⟩
def dsW1:Ds:=.cons (.tup (.cons (.at (.int 0)) (.cons (.at (.int 3)) (.cons (.at (.bl true)) .nil)))) (.cons (.tup (.cons (.at (.int 3)) (.cons (.at (.int 0)) (.cons (.at (.bl false)) .nil)))) (.cons (.tup (.cons (.at (.int 13)) (.cons (.at (.int 1)) (.cons (.at (.bl true)) .nil)))) (.cons (.tup (.cons (.at (.int 1)) (.cons (.at (.int 13)) (.cons (.at (.bl false)) .nil)))) (.cons (.tup (.cons (.at (.int (-1))) (.cons (.at (.int 2)) (.cons (.at (.bl true)) .nil)))) (.cons (.tup (.cons (.at (.bl true)) (.cons (.at (.int 2)) (.cons (.at (.bl false)) .nil)))) .nil)))))
def dsW2:Ds:=.cons (.tup (.cons (.at (.int 2)) (.cons (.at (.bl true)) (.cons (.at (.bl false)) .nil)))) (.cons (.tup (.cons (.at (.int 2)) (.cons (.at (.int 3)) (.cons (.at (.int 1)) .nil)))) (.cons (.tup (.cons (.at (.int 2)) (.cons (.at (.int 3)) (.cons (.at (.int 0)) .nil)))) (.cons (.tup (.cons (.at (.int 2)) (.cons (.at (.int 3)) (.cons (.at .non) .nil)))) (.cons (.tup (.cons (.at (.int 2)) (.cons (.at (.int 3)) .nil))) (.cons (.tup (.cons (.at (.int 2)) (.cons (.at (.int 3)) (.cons (.at (.bl true)) (.cons (.at (.bl true)) .nil))))) .nil)))))
def dsW3:Ds:=.cons (.lst (.cons (.at (.int 2)) (.cons (.at (.int 3)) (.cons (.at (.bl true)) .nil)))) (.cons (.at .non) (.cons (.at (.int 5)) (.cons (.at (.str "2 3")) (.cons (.tup (.nil)) (.cons (.tup (.cons (.at (.str "2")) (.cons (.at (.int 3)) (.cons (.at (.bl true)) .nil)))) .nil)))))
def dsS:Ds:=.cons (.tup (.cons (.at (.int 0)) (.cons (.at (.int 3)) .nil))) (.cons (.tup (.cons (.at (.int 3)) (.cons (.at (.int 13)) .nil))) (.cons (.tup (.cons (.at (.bl true)) (.cons (.at (.int 2)) .nil))) (.cons (.tup (.cons (.at (.int 2)) .nil)) (.cons (.tup (.cons (.at (.int 2)) (.cons (.at (.int 3)) (.cons (.at (.int 4)) .nil)))) (.cons (.lst (.cons (.at (.int 2)) (.cons (.at (.int 3)) .nil))) (.cons (.at .non) (.cons (.tup (.cons (.at (.str "2")) (.cons (.at (.int 3)) .nil))) .nil)))))))
def dsMenu:Ds:=.cons (.at (.int 0)) (.cons (.at (.int 13)) (.cons (.at .non) (.cons (.at (.str "3")) (.cons (.at (.int 4)) (.cons (.at (.int 5)) (.cons (.at (.int 12)) (.cons (.at (.int 1)) (.cons (.at (.int 6)) (.cons (.at (.int 2)) (.cons (.at (.bl true)) (.cons (.at (.int 7)) .nil)))))))))))
def dsBits:Ds:=.cons (.at .non) (.cons (.at (.bl true)) (.cons (.at (.str "1")) (.cons (.lst (.cons (.at (.int 1)) .nil)) (.cons (.tup (.cons (.at (.int 1)) .nil)) (.cons (.at (.bl false)) .nil)))))
def dNo:D:=.lst (.cons (.at (.int 0)) (.cons (.at (.int 13)) (.cons (.at .non) (.cons (.at (.str "3")) .nil))))
def sp_law (K:PySem.W.Frag):Sp:=fun vs H Q _=>∃ (a:Addr) (ns:List Int),vs=[.ref a]∧SqL K H a (ns.map V.int)∧ns.length≤63∧∀ H',Q (.bl true) H'
structure RG (mg:Str→Option Value) (K:PySem.W.Frag) (cG cM cA cQ cN cD cS cP:Addr):Prop where
 g_GlassError:mg "GlassError"=some (.ref cG)
 g_TooMany:mg "TooMany"=some (.ref cM)
 g_NoWant:mg "NoWant"=some (.ref cA)
 g_NoSide:mg "NoSide"=some (.ref cQ)
 g_NoNumber:mg "NoNumber"=some (.ref cN)
 g_NoSheet:mg "NoSheet"=some (.ref cD)
 g_NoSize:mg "NoSize"=some (.ref cS)
 g_NoPlan:mg "NoPlan"=some (.ref cP)
 x_GlassError:PySem.W.excIn K cG vErr "ValueError.__new__"=true
 m:∀ c,PySem.W.mroIn K (clA cM cA cQ cN cD cS cP c) (.ref cG)=some true
 cl:∀ c,XCls K (clA cM cA cQ cN cD cS cP c)
 kx:∀ x y,PySem.W.kitOne K (.ref (clA cM cA cQ cN cD cS cP x)) (.ref (clA cM cA cQ cN cD cS cP y))=some (decide (x=y))
 kn:∀ y,PySem.W.kitOne K (.type "NoneType") (.ref (clA cM cA cQ cN cD cS cP y))=some false
 na:∀ r:Rs,NoAttr K (clA cM cA cQ cN cD cS cP (rsL r)) (rsN r)
theorem ty_flat {H:Hp} {v:V} (h:flatV v=true):Ty H v:=by cases v <;> first | exact ⟨_,rfl⟩ | cases h
def flatDs:Ds→Option (List V)
 | .nil=>some []
 | .cons (.at v) r=>(flatDs r).map (v :: ·)
 | _=>none
theorem flats {H:Hp}:∀ (ds:Ds) {xs ys:List V},flatDs ds=some ys→DAts H ds xs→xs=ys∧∀ x∈xs,Ty H x
 | .nil,xs,ys,h,e=>by
  cases h
  rw [DAts] at e
  subst e
  exact ⟨rfl,fun x hx=>nomatch hx⟩
 | .cons (.at v) r,xs,ys,h,e=>by
  rw [flatDs] at h
  obtain ⟨zs,hz,rfl⟩:=Option.map_eq_some_iff.mp h
  rw [DAts] at e
  obtain ⟨x,us,rfl,p,q⟩:=e
  rw [DAt] at p
  obtain ⟨rfl,fl⟩:=p
  obtain ⟨rfl,t⟩:=flats r hz q
  refine ⟨rfl,fun y hy=>?_⟩
  rcases List.mem_cons.mp hy with rfl | hy
  ·exact ty_flat fl
  ·exact t y hy
 | .cons (.tup _) _,xs,ys,h,e=>by cases h
 | .cons (.lst _) _,xs,ys,h,e=>by cases h
def badD (B:List V→Bool):D→Bool
 | .at _=>true
 | .lst _=>true
 | .tup ds=>match flatDs ds with
  | some xs=>!B xs && decide (xs.length≤100)
  | none=>false
theorem bad_of {B:List V→Bool} {H:Hp}:∀ {d:D} {v:V},DAt H d v→badD B d=true→Bad B H v
 | .at u,v,h,_=>by
  rw [DAt] at h
  obtain ⟨rfl,fl⟩:=h
  cases v with
  | non=>exact .inr ⟨"NoneType",rfl,by decide⟩
  | bl b=>exact .inr ⟨"bool",rfl,by decide⟩
  | int b=>exact .inr ⟨"int",rfl,by decide⟩
  | str b=>exact .inr ⟨"str",rfl,by decide⟩
  | _=>cases fl
 | .lst ds,v,h,_=>by
  rw [DAt] at h
  obtain ⟨a,xs,rfl,e,_⟩:=h
  exact .inr ⟨"list",ty_lst e,by decide⟩
 | .tup ds,v,h,b=>by
  rw [DAt] at h
  obtain ⟨a,xs,rfl,e,da⟩:=h
  have b:(match flatDs ds with
   | some xs=>!B xs && decide (xs.length≤100)
   | none=>false)=true:=b
  split at b
  ·rename_i ys hy
   obtain ⟨rfl,t⟩:=flats ds hy da
   rw [Bool.and_eq_true,decide_eq_true_eq] at b
   exact .inl ⟨a,xs,rfl,e,b.2,t,by simpa using b.1⟩
  ·cases b
theorem bads {B:List V→Bool} {H:Hp} {ds:Ds} {xs:List V} (h:DAts H ds xs) (b:∀ i,i < ds.len→badD B (ds.get i)=true):∀ v∈xs,Bad B H v:=fun v hv=>by
 obtain ⟨i,hi,da⟩:=dats_mem ds h v hv
 exact bad_of da (b i hi)
def sp_bw:Sp:=fun vs H Q _=>∃ n:Int,vs=[.int n]∧∀ v H',Same H H'→Bad wantB H' v→Q v H'
def sp_bs:Sp:=fun vs H Q _=>∃ n:Int,vs=[.int n]∧∀ v H',Same H H'→Bad sheetB H' v→Q v H'
theorem stW0:∃ (p1 p2 p3:Pos) (es_dsW1:List Expr),(defBody s__law_bad_want)=.Assign [(.Name "_law_some" p1)] (.List es_dsW1 p2) p3 :: (defBody s__law_bad_want).drop 1∧litEs (litE 4) es_dsW1=some dsW1∧es_dsW1.length≤64:=⟨_,_,_,_,rfl,by kernel_rfl,by decide +kernel⟩
theorem stW1:∃ (p1 p2 p3 p4 p5:Pos) (es_dsW2:List Expr),(defBody s__law_bad_want).drop 1=.Assign [(.Name "_law_some" p1)] (.BinOp (.Name "_law_some" p2) .Add (.List es_dsW2 p3) p4) p5 :: (defBody s__law_bad_want).drop 2∧litEs (litE 4) es_dsW2=some dsW2∧es_dsW2.length≤64:=⟨_,_,_,_,_,_,rfl,by kernel_rfl,by decide +kernel⟩
theorem stW2:∃ (p1 p2 p3 p4 p5:Pos) (es_dsW3:List Expr),(defBody s__law_bad_want).drop 2=.Assign [(.Name "_law_some" p1)] (.BinOp (.Name "_law_some" p2) .Add (.List es_dsW3 p3) p4) p5 :: (defBody s__law_bad_want).drop 3∧litEs (litE 4) es_dsW3=some dsW3∧es_dsW3.length≤64:=⟨_,_,_,_,_,_,rfl,by kernel_rfl,by decide +kernel⟩
theorem stW3:∃ (p1 p2 p3 p4 p5 p6:Pos) (k1:Nat),(defBody s__law_bad_want).drop 3=.Return (some (.Subscript (.Name "_law_some" p1) (.BinOp (.Name "_law_number" p2) .Mod (.Constant (.int 18) k1 p3) p4) p5)) p6 :: []:=⟨_,_,_,_,_,_,_,rfl⟩
theorem stS0:∃ (p1 p2 p3 p4 p5 p6:Pos) (k1:Nat) (es_dsS:List Expr),(defBody s__law_bad_sheet)=.Return (some (.Subscript (.List es_dsS p1) (.BinOp (.Name "_law_number" p2) .Mod (.Constant (.int 8) k1 p3) p4) p5)) p6 :: []∧litEs (litE 4) es_dsS=some dsS∧es_dsS.length≤64:=⟨_,_,_,_,_,_,_,_,rfl,by kernel_rfl,by decide +kernel⟩
theorem stL3:∃ (p1 p2 p3 p4 p5 p6 p7 p8 p9 p10 p11:Pos) (k1 k2:Nat),(defBody s_law).drop 3=.Assign [(.Name "_law_odd_want" p1)] (.Call (.Name "_law_bad_want" p2) [(.Call (.Name "_law_knead" p3) [(.Call (.Name "_law_at" p4) [(.Name "_law_script" p5),(.Constant (.int 1) k1 p6)] [] p7),(.Constant (.int 2) k2 p8)] [] p9)] [] p10) p11 :: (defBody s_law).drop 4:=⟨_,_,_,_,_,_,_,_,_,_,_,_,_,rfl⟩
theorem stL4:∃ (p1 p2 p3 p4 p5 p6 p7 p8 p9 p10 p11 p12 p13 p14 p15 p16 p17 p18 p19 p20:Pos) (k1 k2 k3 k4 k5 k6 k7:Nat),(defBody s_law).drop 4=.Assign [(.Tuple [(.Name "_law_wants" p1),(.Name "_law_bad" p2)] k1 p3)] (.Call (.Name "_law_things" p4) [(.Call (.Name "_law_at" p5) [(.Name "_law_script" p6),(.Constant (.int 2) k2 p7)] [] p8),(.Constant (.int 3) k3 p9),(.Name "_law_many" p10),(.Constant (.int 6) k4 p11),(.Tuple [(.Compare (.BinOp (.Name "_law_number" p12) .Mod (.Constant (.int 3) k5 p13) p14) [.Eq] [(.Constant (.int 0) k6 p15)] p16)] k7 p17),(.Name "_law_odd_want" p18)] [] p19) p20 :: (defBody s_law).drop 5:=⟨_,_,_,_,_,_,_,_,_,_,_,_,_,_,_,_,_,_,_,_,_,_,_,_,_,_,_,rfl⟩
theorem stL5:∃ (p1 p2 p3 p4 p5 p6 p7 p8 p9 p10 p11:Pos) (k1 k2:Nat),(defBody s_law).drop 5=.Assign [(.Name "_law_odd_sheet" p1)] (.Call (.Name "_law_bad_sheet" p2) [(.Call (.Name "_law_knead" p3) [(.Call (.Name "_law_at" p4) [(.Name "_law_script" p5),(.Constant (.int 1) k1 p6)] [] p7),(.Constant (.int 4) k2 p8)] [] p9)] [] p10) p11 :: (defBody s_law).drop 6:=⟨_,_,_,_,_,_,_,_,_,_,_,_,_,rfl⟩
theorem stL6:∃ (p1 p2 p3 p4 p5 p6 p7 p8 p9 p10 p11 p12 p13 p14 p15 p16 p17 p18 p19 p20 p21 p22 p23:Pos) (k1 k2 k3 k4 k5 k6 k7 k8:Nat),(defBody s_law).drop 6=.Assign [(.Tuple [(.Name "_law_sheets" p1),(.Name "_law_odd" p2)] k1 p3)] (.Call (.Name "_law_things" p4) [(.Call (.Name "_law_at" p5) [(.Name "_law_script" p6),(.Constant (.int 3) k2 p7)] [] p8),(.Constant (.int 5) k3 p9),(.BinOp (.Call (.Name "_law_knead" p10) [(.Call (.Name "_law_at" p11) [(.Name "_law_script" p12),(.Constant (.int 4) k4 p13)] [] p14),(.Constant (.int 6) k5 p15)] [] p16) .Mod (.Constant (.int 6) k6 p17) p18),(.Constant (.int 12) k7 p19),(.Tuple [] k8 p20),(.Name "_law_odd_sheet" p21)] [] p22) p23 :: (defBody s_law).drop 7:=⟨_,_,_,_,_,_,_,_,_,_,_,_,_,_,_,_,_,_,_,_,_,_,_,_,_,_,_,_,_,_,_,rfl⟩
theorem stL7:∃ (p1 p2 p3 p4 p5 p6 p7 p8 p9 p10 p11 p12 p13 p14 p15 p16 p17 p18 p19 p20:Pos) (k1 k2 k3 k4 k5 k6:Nat),(defBody s_law).drop 7=.Assign [(.Name "_law_bits" p1)] (.BinOp (.BinOp (.Call (.Name "_law_knead" p2) [(.Call (.Name "_law_at" p3) [(.Name "_law_script" p4),(.Constant (.int 4) k1 p5)] [] p6),(.Constant (.int 7) k2 p7)] [] p8) .Mod (.BinOp (.BinOp (.Constant (.int 1) k3 p9) .LShift (.Call (.Name "min" p10) [(.Name "_law_many" p11),(.Constant (.int 6) k4 p12)] [] p13) p14) .Add (.Constant (.int 3) k5 p15) p16) p17) .Sub (.Constant (.int 1) k6 p18) p19) p20 :: (defBody s_law).drop 8:=⟨_,_,_,_,_,_,_,_,_,_,_,_,_,_,_,_,_,_,_,_,_,_,_,_,_,_,rfl⟩
theorem stL8:∃ (p1 p2 p3 p4 p5 p6 p7 p8 p9:Pos) (k1 k2:Nat),(defBody s_law).drop 8=.Assign [(.Name "_law_side" p1)] (.Call (.Name "_law_knead" p2) [(.Call (.Name "_law_at" p3) [(.Name "_law_script" p4),(.Constant (.int 5) k1 p5)] [] p6),(.Constant (.int 8) k2 p7)] [] p8) p9 :: (defBody s_law).drop 9:=⟨_,_,_,_,_,_,_,_,_,_,_,rfl⟩
theorem stL9:∃ (p1 p2 p3:Pos) (es_dsMenu:List Expr),(defBody s_law).drop 9=.Assign [(.Name "_law_menu" p1)] (.List es_dsMenu p2) p3 :: (defBody s_law).drop 10∧litEs (litE 4) es_dsMenu=some dsMenu∧es_dsMenu.length≤64:=⟨_,_,_,_,rfl,by kernel_rfl,by decide +kernel⟩
theorem stL10:∃ (p1 p2 p3 p4 p5 p6 p7 p8 p9 p10 p11 p12 p13 p14 p15:Pos) (k1 k2 k3 k4:Nat),(defBody s_law).drop 10=.Assign [(.Name "_law_sides" p1)] (.Tuple [(.Subscript (.Name "_law_menu" p2) (.BinOp (.Name "_law_side" p3) .Mod (.Constant (.int 12) k1 p4) p5) p6),(.Subscript (.Name "_law_menu" p7) (.BinOp (.BinOp (.Name "_law_side" p8) .FloorDiv (.Constant (.int 12) k2 p9) p10) .Mod (.Constant (.int 12) k3 p11) p12) p13)] k4 p14) p15 :: (defBody s_law).drop 11:=⟨_,_,_,_,_,_,_,_,_,_,_,_,_,_,_,_,_,_,_,rfl⟩
theorem stL11:∃ (p1 p2 p3 p4 p5 p6 p7 p8 p9 p10 p11 p12 p13 p14 p15 p16 p17:Pos) (k1 k2 k3 k4 k5:Nat) (es_dsBits:List Expr),(defBody s_law).drop 11=.If (.Compare (.BinOp (.BinOp (.Name "_law_side" p1) .FloorDiv (.Constant (.int 1000) k1 p2) p3) .Mod (.Constant (.int 4) k2 p4) p5) [.Eq] [(.Constant (.int 0) k3 p6)] p7) [.Assign [(.Name "_law_bits" p8)] (.Subscript (.List es_dsBits p9) (.BinOp (.BinOp (.Name "_law_side" p10) .FloorDiv (.Constant (.int 4000) k4 p11) p12) .Mod (.Constant (.int 6) k5 p13) p14) p15) p16] [] p17 :: (defBody s_law).drop 12∧litEs (litE 4) es_dsBits=some dsBits∧es_dsBits.length≤64:=⟨_,_,_,_,_,_,_,_,_,_,_,_,_,_,_,_,_,_,_,_,_,_,_,rfl,by kernel_rfl,by decide +kernel⟩
theorem S_law_bad_want:FnScope ["_law_number","_law_some"] ["_law_number"] (defScope s__law_bad_want):=⟨rfl,rfl,rfl,by decide +kernel,rfl,by decide +kernel,by decide +kernel⟩
theorem S_law_bad_sheet:FnScope ["_law_number"] ["_law_number"] (defScope s__law_bad_sheet):=⟨rfl,rfl,rfl,by decide +kernel,rfl,by decide +kernel,by decide +kernel⟩
theorem ok_law_bad_want {f:Addr} {fd:FuncData} (F:Fun K "_law_bad_want" "_law_bad_want" s__law_bad_want f fd):FnOk P w K mg base CX0 1 f fd ["_law_number"] sp_bw:=by
 have S:=S_law_bad_want
 refine F.ok S (fun vs H Q E h=>?_) (fun cdv A outer s H vs Q E hr h=>?_)
 ·obtain ⟨n,rfl,_⟩:=h; rfl
 ·obtain ⟨n,rfl,q⟩:=h
  obtain ⟨p1,p2,p3,es_dsW1,heq_stW0,he_dsW1,hl_dsW1⟩:=stW0
  obtain ⟨p1,p2,p3,p4,p5,es_dsW2,heq_stW1,he_dsW2,hl_dsW2⟩:=stW1
  obtain ⟨p1,p2,p3,p4,p5,es_dsW3,heq_stW2,he_dsW3,hl_dsW3⟩:=stW2
  obtain ⟨p1,p2,p3,p4,p5,p6,k1,heq_stW3⟩:=stW3
  rw [heq_stW0,heq_stW1,heq_stW2,heq_stW3]
  refine ⟨_,(pss_cons (ps_set (i:=1) S.nd rfl (Or.inl rfl) (pe_litL (n:=4) (ds:=dsW1) he_dsW1 hl_dsW1))
   (pss_cons (ps_set (i:=1) S.nd rfl (Or.inl rfl) (pe_op op_cat (pv 1) (pe_litL (n:=4) (ds:=dsW2) he_dsW2 hl_dsW2)))
   (pss_cons (ps_set (i:=1) S.nd rfl (Or.inl rfl) (pe_op op_cat (pv 1) (pe_litL (n:=4) (ds:=dsW3) he_dsW3 hl_dsW3)))
   (pss_one (ps_ret (pe_ix ix_list (pv 1) (pe_op op_mod (pv 0) pe_int) (fun _ _=>rfl))))))),?_⟩
  intro l1 x1 H1 s1 n1 h1 d1
  have e1:x1.length=6:=dats_len _ d1
  refine ⟨_,rfl,fun l2 x2 H2 s2 n2 h2 d2=>⟨l1,l2,x1,x2,rfl,rfl,s2 _ _ h1,h2,?_,fun p np=>?_⟩⟩
  ·rw [e1,dats_len _ d2,sizeLine_eq]; decide
  have e2:x2.length=6:=dats_len _ d2
  have s3:Same H2 (upd H2 p (.lst (x1++x2))):=Same.new np
  have h3:(upd H2 p (.lst (x1++x2))) p=some (.lst (x1++x2)):=upd_same
  generalize upd H2 p (.lst (x1++x2))=H3 at s3 h3 ⊢
  refine ⟨_,rfl,fun l4 x4 H4 s4 n4 h4 d4=>⟨p,l4,_,x4,rfl,rfl,s4 _ _ h3,h4,?_,fun p5 np5=>?_⟩⟩
  ·rw [List.length_append,e1,e2,dats_len _ d4,sizeLine_eq]; decide
  have e4:x4.length=6:=dats_len _ d4
  have s5:Same H4 (upd H4 p5 (.lst (x1++x2++x4))):=Same.new np5
  have h5:(upd H4 p5 (.lst (x1++x2++x4))) p5=some (.lst (x1++x2++x4)):=upd_same
  generalize upd H4 p5 (.lst (x1++x2++x4))=H5 at s5 h5 ⊢
  have m0:=Int.emod_nonneg n (b:=18) (by decide)
  have m1:=Int.emod_lt_of_pos n (b:=18) (by decide)
  obtain ⟨v,hv,mv⟩:=atI_in (L:=x1++x2++x4) m0 (by rw [List.length_append,List.length_append,e1,e2,e4]; exact m1)
  have s35:=s3.trans (s4.trans s5)
  refine ⟨_,rfl,_,rfl,_,_,rfl,rfl,(show (0:Int) < 18 from by decide),p5,_,_,v,rfl,rfl,SqL.of h5,hv,q v H5 (s1.trans (s2.trans s35)) ?_⟩
  rcases List.mem_append.mp mv with mv | mv
  ·rcases List.mem_append.mp mv with mv | mv
   ·exact (bads d1 (by decide +kernel) v mv).same (s2.trans s35)
   ·exact (bads d2 (by decide +kernel) v mv).same s35
  ·exact (bads d4 (by decide +kernel) v mv).same s5
theorem ok_law_bad_sheet {f:Addr} {fd:FuncData} (F:Fun K "_law_bad_sheet" "_law_bad_sheet" s__law_bad_sheet f fd):FnOk P w K mg base CX0 1 f fd ["_law_number"] sp_bs:=by
 have S:=S_law_bad_sheet
 refine F.ok S (fun vs H Q E h=>?_) (fun cdv A outer s H vs Q E hr h=>?_)
 ·obtain ⟨n,rfl,_⟩:=h; rfl
 ·obtain ⟨n,rfl,q⟩:=h
  obtain ⟨p1,p2,p3,p4,p5,p6,k1,es_dsS,heq_stS0,he_dsS,hl_dsS⟩:=stS0
  rw [heq_stS0]
  refine ⟨_,(pss_one (ps_ret (pe_ix ix_list (pe_litL (n:=4) (ds:=dsS) he_dsS hl_dsS) (pe_op op_mod (pv 0) pe_int) (fun _ _=>rfl)))),?_⟩
  intro l1 x1 H1 s1 n1 h1 d1
  have e1:x1.length=8:=dats_len _ d1
  have m0:=Int.emod_nonneg n (b:=8) (by decide)
  have m1:=Int.emod_lt_of_pos n (b:=8) (by decide)
  obtain ⟨v,hv,mv⟩:=atI_in (L:=x1) m0 (by rw [e1]; exact m1)
  exact ⟨_,rfl,_,_,rfl,rfl,(show (0:Int) < 8 from by decide),l1,_,_,v,rfl,rfl,SqL.of h1,hv,q v H1 s1 (bads d1 (by decide +kernel) v mv)⟩
def dueC (which:Int) (gs:List (Option Want)) (b0 v1 v2:V) (hs:List (Option (Int × Int))):Option Rs:=if which=0 then dueW gs else if which=1 then dueT gs b0 v1 v2 else dueP gs hs
def Carry (cM cA cQ cN cD cS cP:Addr) (H:Hp) (v:V):Option Cl→Prop
 | none=>v=.non
 | some c=>∃ x,v=.ref x∧IsExc H x (clA cM cA cQ cN cD cS cP c)
def sp_caught (cM cA cQ cN cD cS cP:Addr):Sp:=fun vs H Q _=>∃ (which:Int) (a sd b:Addr) (b0 v1 v2:V) (xs ys:List V) (gs:List (Option Want)) (hs:List (Option (Int × Int))),vs=[.int which,.ref a,b0,.ref sd,.ref b]∧H a=some (.lst xs)∧Ths WTh H xs gs∧gs.length≤100∧Ty H b0∧H sd=some (.tup [v1,v2])∧Ty H v1∧Ty H v2 ∧
 H b=some (.lst ys)∧Ths STh H ys hs∧hs.length≤100 ∧
 (∀ r,dueC which gs b0 v1 v2 hs=some r→∀ x dx H',Same H H'→XAt H' (clA cM cA cQ cN cD cS cP (rsL r)) dx x→H' dx=some (ExcD dx [(rsN r,rsV r)])→Q (.ref x) H') ∧
 (dueC which gs b0 v1 v2 hs=none→∀ v o H',Same H H'→Carry cM cA cQ cN cD cS cP H' v o→(o=none∨o=some .S∨o=some .P)→Q v H')
abbrev N_caught:List Str:=["_law_which","_law_wants","_law_bits","_law_sides","_law_sheets","_law_caught_here","e"]
theorem S_law_caught:FnScope N_caught ["_law_which","_law_wants","_law_bits","_law_sides","_law_sheets"] (defScope s__law_caught):=⟨rfl,rfl,rfl,by decide +kernel,rfl,by decide +kernel,by decide +kernel⟩
def XC (cM cA cQ cN cD cS cP:Addr) (due:Option Rs):Addr→List (Str × V)→Hp→Prop:=fun C fs _=>(∃ r,due=some r∧C=clA cM cA cQ cN cD cS cP (rsL r)∧fs=[(rsN r,rsV r)])∨(due=none∧((C=cS)∨C=cP))
theorem ok_law_caught {f:Addr} {fd:FuncData} (F:Fun K "_law_caught" "_law_caught" s__law_caught f fd) (R:RG mg K cG cM cA cQ cN cD cS cP) (D_stairs:DefOkX P w K mg base 6 "stairs" ["wants"] (sp_stairs1 cM cA cQ cN cD cS cP)) (D_stair_tree:DefOkX P w K mg base 12 "stair_tree" ["wants","bits","width","height"] (sp_stree1 cM cA cQ cN cD cS cP))
  (D_least_glass:DefOkX P w K mg base 7 "least_glass" ["wants","sheets"] (sp_lg1 cM cA cQ cN cD cS cP)) (D_plan:DefOkX P w K mg base 12 "plan" ["wants","sheets"] (sp_plan1 cM cA cQ cN cD cS cP)):FnOk P w K mg base CX0 13 f fd ["_law_which","_law_wants","_law_bits","_law_sides","_law_sheets"] (sp_caught cM cA cQ cN cD cS cP):=by
 have S:=S_law_caught
 refine F.ok S (fun vs H Q E h=>?_) (fun cdv A outer s H vs Q E hr h=>?_)
 ·obtain ⟨which,a,sd,b,b0,v1,v2,xs,ys,gs,hs,rfl,_⟩:=h; rfl
 ·obtain ⟨which,a,sd,b,b0,v1,v2,xs,ys,gs,hs,rfl,ha,th,lg,tb,hsd,tv1,tv2,hb,sh,lh,qR,qN⟩:=h
  refine ⟨_,(pss_cons (ps_set (i:=5) S.nd rfl (Or.inl rfl) pe_non)
   (pss_cons (ps_tryas (im:=6) S.nd rfl rfl (pxs_if (pt_cmpR op_eq (pv 0) pe_int (nomark _)) (pxs_expr (fun _=>px_fn D_stairs hr (pa_cons (pv 1) pa_nil))) (pxs_if (pt_cmpR op_eq (pv 0) pe_int (nomark _)) (pxs_expr (fun _=>px_fn D_stair_tree hr (pa_cons (pv 1) (pa_cons (pv 2) (pa_cons (pe_ix ix_tup (pv 3) pe_int (fun _ _=>rfl)) (pa_cons (pe_ix ix_tup (pv 3) pe_int (fun _ _=>rfl)) pa_nil)))))) (pxs_if (pt_cmpR op_eq (pv 0) pe_int (nomark _)) (pxs_expr (fun _=>px_fn D_least_glass hr (pa_cons (pv 1) (pa_cons (pv 4) pa_nil)))) (pxs_expr (fun _=>px_fn D_plan hr (pa_cons (pv 1) (pa_cons (pv 4) pa_nil))))))) rfl R.g_GlassError R.x_GlassError rfl rfl (fun _=>(pss_one (ps_set (i:=5) S.nd rfl (Or.inl rfl) (pv 6)))))
   (pss_one (ps_ret (pv 5))))),?_⟩
  have rf:∀ r,dueC which gs b0 v1 v2 hs=some r→RfR cM cA cQ cN cD cS cP H (XE H (XC cM cA cQ cN cD cS cP (dueC which gs b0 v1 v2 hs))) r:=fun r e=>XE.rf fun fs H' e'=>.inl ⟨r,e,rfl,e'⟩
  have rN:dueC which gs b0 v1 v2 hs=none→∀ C,(C=cS∨C=cP)→Rf H (XE H (XC cM cA cQ cN cD cS cP (dueC which gs b0 v1 v2 hs))) C fun _ _=>True:=fun e C hC=>XE.rf fun fs H' e'=>.inr ⟨e,hC⟩
  have qn:dueC which gs b0 v1 v2 hs=none→∀ H',Same H H'→Q .non H':=fun e H' s'=>qN e .non none H' s' rfl (.inl rfl)
  refine ⟨XE H (XC cM cA cQ cN cD cS cP (dueC which gs b0 v1 v2 hs)),?_,?_⟩
  ·refine ⟨_,rfl,rfl,_,rfl,ite3 (fun c=>?_) (fun c=>?_)⟩
   ·have c:which=0:=decI.mp c
    have e:dueC which gs b0 v1 v2 hs=dueW gs:=by unfold dueC; rw [if_pos c]
    rw [e] at rf qn ⊢
    exact ⟨_,rfl,a,xs,gs,rfl,ha,th,lg,rf,fun dn v H' s'=>⟨_,rfl,qn dn H' s'⟩⟩
   ·have c:¬ which=0:=fun z=>by rw [decI.mpr z] at c; cases c
    refine ⟨_,rfl,rfl,_,rfl,ite3 (fun c1=>?_) (fun c1=>?_)⟩
    ·have c1:which=1:=decI.mp c1
     have e:dueC which gs b0 v1 v2 hs=dueT gs b0 v1 v2:=by unfold dueC; rw [if_neg c,if_pos c1]
     rw [e] at rf qn rN ⊢
     exact ⟨_,rfl,_,rfl,_,rfl,sd,_,_,_,rfl,rfl,SqT.of hsd,at2_0,_,rfl,sd,_,_,_,rfl,rfl,SqT.of hsd,at2_1,a,xs,gs,b0,v1,v2,rfl,ha,th,lg,tb,tv1,tv2,rf,fun dn=>⟨fun v H' s'=>⟨_,rfl,qn dn H' s'⟩,rN dn cS (.inl rfl)⟩⟩
    ·have c1:¬ which=1:=fun z=>by rw [decI.mpr z] at c1; cases c1
     have e:dueC which gs b0 v1 v2 hs=dueP gs hs:=by unfold dueC; rw [if_neg c,if_neg c1]
     rw [e] at rf qn rN ⊢
     refine ⟨_,rfl,rfl,_,rfl,ite3 (fun c2=>?_) (fun c2=>?_)⟩
     ·exact ⟨_,rfl,_,rfl,a,b,xs,ys,gs,hs,rfl,ha,th,lg,hb,sh,lh,rf,fun dn v H' s'=>⟨_,rfl,qn dn H' s'⟩⟩
     ·exact ⟨_,rfl,_,rfl,a,b,xs,ys,gs,hs,rfl,ha,th,lg,hb,sh,lh,rf,fun dn=>⟨fun v H' s'=>⟨_,rfl,qn dn H' s'⟩,rN dn cP (.inr rfl)⟩⟩
  ·rintro x C' d0 T0 T2 H' ⟨x',C2,dx2,fs,ev,rfl,hx,s34,xr,cc⟩ fl hT2 nT2
   obtain rfl:x=x':=Value.ref.inj ev
   obtain ⟨rfl,xr',s5⟩:=xr_on hx s34 xr fl hT2
   obtain ⟨⟨dx',ed,nd,hdx⟩,T3,hxT⟩:=xr'
   cases ed
   generalize thrown H' x C2 (some dx2) T2=H5 at hdx hxT s5 ⊢
   rcases cc with ⟨r,er,rfl,rfl⟩ | ⟨er,hC⟩
   ·exact ⟨R.m _,_,rfl,_,rfl,qR r er x dx2 H5 s5 (.inr ⟨T3,hxT⟩) hdx⟩
   ·have he:IsExc H5 x C2:=.inl ⟨dx2,_,.inr ⟨T3,hxT⟩,hdx⟩
    rcases hC with rfl | rfl
    ·exact ⟨R.m .S,_,rfl,_,rfl,qN er _ (some .S) H5 s5 ⟨x,rfl,he⟩ (.inr (.inl rfl))⟩
    ·exact ⟨R.m .P,_,rfl,_,rfl,qN er _ (some .P) H5 s5 ⟨x,rfl,he⟩ (.inr (.inr rfl))⟩
def sp_told (cM cA cQ cN cD cS cP:Addr):Sp:=fun vs H Q _=>∃ v,vs=[v]∧((∃ o,Carry cM cA cQ cN cD cS cP H v o∧(o=none∨o=some .S∨o=some .P)∧∀ H',Same H H'→Q .non H') ∨
 ∃ x dx r,v=.ref x∧XAt H (clA cM cA cQ cN cD cS cP (rsL r)) dx x∧H dx=some (ExcD dx [(rsN r,rsV r)])∧∀ t H',Same H H'→H' t=some (.tup [.str (rsW r),rsV r])→Q (.ref t) H')
def flag (o:Option Cl) (y:Cl):V:=.bl (decide (o=some y))
theorem flag_some (c y:Cl):flag (some c) y=.bl (decide (c=y)):=by
 unfold flag
 congr 1
 cases c <;> cases y <;> rfl
theorem lookup1 {f:Str} {v:V}:([(f,v)]:List (Str × V)).lookup f=some v:=by simp [List.lookup]
theorem S_law_told:FnScope ["_law_caught_here","_law_flags"] ["_law_caught_here"] (defScope s__law_told):=⟨rfl,rfl,rfl,by decide +kernel,rfl,by decide +kernel,by decide +kernel⟩
theorem ok_law_told {f:Addr} {fd:FuncData} (F:Fun K "_law_told" "_law_told" s__law_told f fd) (T:Txt mg t1 t2 t3 t4 t5 t6) (R:RG mg K cG cM cA cQ cN cD cS cP):FnOk P w K mg base CX0 1 f fd ["_law_caught_here"] (sp_told cM cA cQ cN cD cS cP):=by
 have S:=S_law_told
 refine F.ok S (fun vs H Q E h=>?_) (fun cdv A outer s H vs Q E hr h=>?_)
 ·obtain ⟨v,rfl,_⟩:=h; rfl
 ·obtain ⟨v,rfl,h⟩:=h
  obtain ⟨tt,htt,fin⟩:∃ rd,PSs (cxOf CX0 P w K mg base ["_law_caught_here","_law_flags"] "_law_told" (defScope s__law_told) f cdv A outer s H E).nox ((defBody s__law_told).drop 2) rd ∧
    ∀ (o:Option Cl) (l:Addr) (H2:Hp),Same H H2→Carry cM cA cQ cN cD cS cP H2 v o→H2 l=some (.lst [flag o .M,flag o .A,flag o .I,flag o .N,flag o .D]) →
     ((∃ r x dx,o=some (rsL r)∧v=.ref x∧XAt H2 (clA cM cA cQ cN cD cS cP (rsL r)) dx x∧H2 dx=some (ExcD dx [(rsN r,rsV r)])∧∀ t H',Same H2 H'→H' t=some (.tup [.str (rsW r),rsV r])→Q (.ref t) H')∨((o=none∨o=some .S∨o=some .P)∧∀ H',Same H2 H'→Q .non H')) →
     rd { nx:=fun _ H'=>Q .non H',rt:=Q } [some v,some (.ref l)] H2:=by
   refine ⟨_,(pss_cons (ps_if (PW.pt (pw_or (pt_cmpR op_isN (pv 0) pe_non (nomark _)) (pw_or1 (PW.pt (pw_and (pt_val (pe_callB call_isinX2 rfl T.z_isinstance rfl (pa_cons (pv 0) (pa_cons (pe_tup (pa_cons (pe_glob (v:=.ref (cS)) rfl R.g_NoSize rfl) (pa_cons (pe_glob (v:=.ref (cP)) rfl R.g_NoPlan rfl) pa_nil))) pa_nil)))) (pw_and1 (pt_cmpR op_notIn_seq pe_bl (pv 1) rfl))))))) (pss_one (ps_ret pe_non)) pss_nil)
   (pss_cons (ps_if (PW.pt (pw_or (pt_cmpR op_ne (pe_bm PySem.F.plainAttrs_list PySem.F.slot_list_count PySem.F.type_list_count mt_count (pv 1) (pa_cons pe_bl pa_nil)) pe_int (nomark _)) (pw_or1 (pt_val (pe_callB call_isinX2 rfl T.z_isinstance rfl (pa_cons (pv 0) (pa_cons (pe_tup (pa_cons (pe_glob (v:=.ref (cS)) rfl R.g_NoSize rfl) (pa_cons (pe_glob (v:=.ref (cP)) rfl R.g_NoPlan rfl) pa_nil))) pa_nil))))))) (pss_one (ps_ret pe_str)) pss_nil)
   (pss_cons (ps_if (pt_truth (pe_ix ix_list (pv 1) pe_int (fun _ _=>rfl)) (fun _=>rfl)) (pss_one (ps_ret (pe_tup (pa_cons pe_str (pa_cons (pe_xfld (pv 0) rfl) pa_nil))))) pss_nil)
   (pss_cons (ps_if (pt_truth (pe_ix ix_list (pv 1) pe_int (fun _ _=>rfl)) (fun _=>rfl)) (pss_one (ps_ret (pe_tup (pa_cons pe_str (pa_cons (pe_xfld (pv 0) rfl) pa_nil))))) pss_nil)
   (pss_cons (ps_if (pt_truth (pe_ix ix_list (pv 1) pe_int (fun _ _=>rfl)) (fun _=>rfl)) (pss_one (ps_ret (pe_tup (pa_cons pe_str (pa_cons (pe_xfld (pv 0) rfl) pa_nil))))) pss_nil)
   (pss_cons (ps_if (pt_truth (pe_ix ix_list (pv 1) pe_int (fun _ _=>rfl)) (fun _=>rfl)) (pss_one (ps_ret (pe_tup (pa_cons pe_str (pa_cons (pe_xfld (pv 0) rfl) pa_nil))))) pss_nil)
   (pss_one (ps_ret (pe_tup (pa_cons pe_str (pa_cons (pe_xfld (pv 0) rfl) pa_nil))))))))))),?_⟩
   intro o l H2 s2 ca hl alt
   rcases alt with ⟨r,x,dx,rfl,rfl,xa,hdx,q⟩ | ⟨alt,q⟩
   ·have he:IsExc H2 x (clA cM cA cQ cN cD cS cP (rsL r)):=.inl ⟨dx,_,xa,hdx⟩
    refine ⟨_,rfl,rfl,_,rfl,iteN rfl ?_⟩
    refine ⟨_,rfl,lenOk 2,fun t nt=>⟨x,_,t,cS,cP,_,_,rfl,he.same (Same.new nt),R.cl _,upd_same,R.kx _ .S,R.kx _ .P,_,rfl,iteN ?_ ?_⟩⟩
    ·cases r <;> rfl
    have s3:Same H2 (upd H2 t (.tup [.ref cS,.ref cP])):=Same.new nt
    generalize upd H2 t (.tup [.ref cS,.ref cP])=H3 at s3 ⊢
    have hl3:=s3 _ _ hl
    refine ⟨_,rfl,.inl ⟨rfl,_,SqL.of hl3⟩,l,_,_,rfl,rfl,hl3,rfl,rfl,rfl,_,rfl,iteN ?_ ?_⟩
    ·cases r <;> rfl
    refine ⟨_,rfl,lenOk 2,fun t nt=>⟨x,_,t,cS,cP,_,_,rfl,(he.same s3).same (Same.new nt),R.cl _,upd_same,R.kx _ .S,R.kx _ .P,_,rfl,iteN ?_ ?_⟩⟩
    ·cases r <;> rfl
    have s4:Same H3 (upd H3 t (.tup [.ref cS,.ref cP])):=Same.new nt
    generalize upd H3 t (.tup [.ref cS,.ref cP])=H4 at s4 ⊢
    have hl4:=s4 _ _ hl3
    have s24:=s3.trans s4
    have xa4:=xa.same s24
    have hdx4:=s24 _ _ hdx
    have na:=R.na r
    have cl:=R.cl (rsL r)
    cases r with
    | many z=>exact ⟨_,rfl,l,_,_,_,rfl,rfl,SqL.of hl4,atI_nat (j:=0) rfl,_,rfl,iteP rfl ⟨_,rfl,x,_,dx,_,_,rfl,xa4,hdx4,cl,na,lookup1,lenOk 2,fun t nt=>q t _ (s24.trans (Same.new nt)) upd_same⟩⟩
    | want z=>exact ⟨_,rfl,l,_,_,_,rfl,rfl,SqL.of hl4,atI_nat (j:=0) rfl,_,rfl,iteN rfl ⟨_,rfl,l,_,_,_,rfl,rfl,SqL.of hl4,atI_nat (j:=1) rfl,_,rfl,iteP rfl ⟨_,rfl,x,_,dx,_,_,rfl,xa4,hdx4,cl,na,lookup1,lenOk 2,fun t nt=>q t _ (s24.trans (Same.new nt)) upd_same⟩⟩⟩
    | side z=>exact ⟨_,rfl,l,_,_,_,rfl,rfl,SqL.of hl4,atI_nat (j:=0) rfl,_,rfl,iteN rfl ⟨_,rfl,l,_,_,_,rfl,rfl,SqL.of hl4,atI_nat (j:=1) rfl,_,rfl,iteN rfl ⟨_,rfl,l,_,_,_,rfl,rfl,SqL.of hl4,atI_nat (j:=2) rfl,_,rfl,iteP rfl ⟨_,rfl,x,_,dx,_,_,rfl,xa4,hdx4,cl,na,lookup1,lenOk 2,fun t nt=>q t _ (s24.trans (Same.new nt)) upd_same⟩⟩⟩⟩
    | number z=>exact ⟨_,rfl,l,_,_,_,rfl,rfl,SqL.of hl4,atI_nat (j:=0) rfl,_,rfl,iteN rfl ⟨_,rfl,l,_,_,_,rfl,rfl,SqL.of hl4,atI_nat (j:=1) rfl,_,rfl,iteN rfl ⟨_,rfl,l,_,_,_,rfl,rfl,SqL.of hl4,atI_nat (j:=2) rfl,_,rfl,iteN rfl ⟨_,rfl,l,_,_,_,rfl,rfl,SqL.of hl4,atI_nat (j:=3) rfl,_,rfl,iteP rfl ⟨_,rfl,x,_,dx,_,_,rfl,xa4,hdx4,cl,na,lookup1,lenOk 2,fun t nt=>q t _ (s24.trans (Same.new nt)) upd_same⟩⟩⟩⟩⟩
    | sheet z=>exact ⟨_,rfl,l,_,_,_,rfl,rfl,SqL.of hl4,atI_nat (j:=0) rfl,_,rfl,iteN rfl ⟨_,rfl,l,_,_,_,rfl,rfl,SqL.of hl4,atI_nat (j:=1) rfl,_,rfl,iteN rfl ⟨_,rfl,l,_,_,_,rfl,rfl,SqL.of hl4,atI_nat (j:=2) rfl,_,rfl,iteN rfl ⟨_,rfl,l,_,_,_,rfl,rfl,SqL.of hl4,atI_nat (j:=3) rfl,_,rfl,iteN rfl ⟨_,rfl,x,_,dx,_,_,rfl,xa4,hdx4,cl,na,lookup1,lenOk 2,fun t nt=>q t _ (s24.trans (Same.new nt)) upd_same⟩⟩⟩⟩⟩
   ·cases o with
    | none =>
     have ca:v=.non:=ca
     subst ca
     exact ⟨_,rfl,rfl,_,rfl,iteP rfl (iteT (q H2 (Same.refl H2)))⟩
    | some c =>
     obtain ⟨x,rfl,he⟩:=ca
     have hc:c=.S∨c=.P:=by
      rcases alt with h | h | h
      ·cases h
      ·cases h; exact .inl rfl
      ·cases h; exact .inr rfl
     refine ⟨_,rfl,rfl,_,rfl,iteN rfl ?_⟩
     refine ⟨_,rfl,lenOk 2,fun t nt=>⟨x,_,t,cS,cP,_,_,rfl,he.same (Same.new nt),R.cl _,upd_same,R.kx _ .S,R.kx _ .P,_,rfl,iteP ?_ ?_⟩⟩
     ·rcases hc with rfl | rfl <;> rfl
     have s3:Same H2 (upd H2 t (.tup [.ref cS,.ref cP])):=Same.new nt
     generalize upd H2 t (.tup [.ref cS,.ref cP])=H3 at s3 ⊢
     have hl3:=s3 _ _ hl
     refine ⟨_,rfl,l,_,rfl,.inl (SqL.of hl3),rfl,rfl,_,rfl,iteP ?_ (q H3 s3)⟩
     rcases hc with rfl | rfl <;> decide +kernel
  refine ⟨_,(pss_cons (ps_set (i:=1) S.nd rfl (Or.inl rfl) (pe_lst (pa_cons (pe_callB (call_or call_isinN call_isinX) rfl T.z_isinstance rfl (pa_cons (pv 0) (pa_cons (pe_glob (v:=.ref (cM)) rfl R.g_TooMany rfl) pa_nil))) (pa_cons (pe_callB (call_or call_isinN call_isinX) rfl T.z_isinstance rfl (pa_cons (pv 0) (pa_cons (pe_glob (v:=.ref (cA)) rfl R.g_NoWant rfl) pa_nil))) (pa_cons (pe_callB (call_or call_isinN call_isinX) rfl T.z_isinstance rfl (pa_cons (pv 0) (pa_cons (pe_glob (v:=.ref (cQ)) rfl R.g_NoSide rfl) pa_nil))) pa_nil)))))
   (pss_cons (ps_set (i:=1) S.nd rfl (Or.inl rfl) (pe_op op_cat (pv 1) (pe_lst (pa_cons (pe_callB (call_or call_isinN call_isinX) rfl T.z_isinstance rfl (pa_cons (pv 0) (pa_cons (pe_glob (v:=.ref (cN)) rfl R.g_NoNumber rfl) pa_nil))) (pa_cons (pe_callB (call_or call_isinN call_isinX) rfl T.z_isinstance rfl (pa_cons (pv 0) (pa_cons (pe_glob (v:=.ref (cD)) rfl R.g_NoSheet rfl) pa_nil))) pa_nil)))))
   htt)),?_⟩
  obtain ⟨o,ca,alt⟩:∃ o,Carry cM cA cQ cN cD cS cP H v o∧∀ H2,Same H H2→((∃ r x dx,o=some (rsL r)∧v=.ref x∧XAt H2 (clA cM cA cQ cN cD cS cP (rsL r)) dx x∧H2 dx=some (ExcD dx [(rsN r,rsV r)])∧∀ t H',Same H2 H'→H' t=some (.tup [.str (rsW r),rsV r])→Q (.ref t) H')∨((o=none∨o=some .S∨o=some .P)∧∀ H',Same H2 H'→Q .non H')):=by
   rcases h with ⟨o,ca,ho,q⟩ | ⟨x,dx,r,rfl,xa,hdx,q⟩
   ·exact ⟨o,ca,fun H2 s2=>.inr ⟨ho,fun H' s'=>q H' (s2.trans s')⟩⟩
   ·exact ⟨some (rsL r),⟨x,rfl,.inl ⟨dx,_,xa,hdx⟩⟩,fun H2 s2=>.inl ⟨r,x,dx,rfl,rfl,xa.same s2,s2 _ _ hdx,fun t H' s'=>q t H' (s2.trans s')⟩⟩
  cases o with
  | none =>
   have ca:v=.non:=ca
   subst ca
   refine ⟨_,rfl,.inl ⟨_,false,rfl,R.kn .M,⟨_,rfl,.inl ⟨_,false,rfl,R.kn .A,⟨_,rfl,.inl ⟨_,false,rfl,R.kn .I,⟨lenOk 3,fun l nl=>?_⟩⟩⟩⟩⟩⟩⟩
   have s1:Same H (upd H l (.lst [V.bl false,V.bl false,V.bl false])):=Same.new nl
   have hl1:(upd H l (.lst [V.bl false,V.bl false,V.bl false])) l=some (.lst [V.bl false,V.bl false,V.bl false]):=upd_same
   generalize upd H l (.lst [V.bl false,V.bl false,V.bl false])=H1 at s1 hl1 ⊢
   refine ⟨_,rfl,_,rfl,.inl ⟨_,false,rfl,R.kn .N,⟨_,rfl,.inl ⟨_,false,rfl,R.kn .D,⟨lenOk 2,fun l2 nl2=>?_⟩⟩⟩⟩⟩
   have s2:Same H1 (upd H1 l2 (.lst [V.bl false,V.bl false])):=Same.new nl2
   refine ⟨l,l2,_,_,rfl,rfl,s2 _ _ hl1,upd_same,(show 3+2≤sizeLine from by rw [sizeLine_eq]; decide),fun p np=>?_⟩
   have s3:=s1.trans (s2.trans (Same.new (o:=.lst ([V.bl false,V.bl false,V.bl false]++[V.bl false,V.bl false])) np))
   exact fin none p _ s3 rfl upd_same (alt _ s3)
  | some c =>
   obtain ⟨x,rfl,he⟩:=ca
   refine ⟨_,rfl,.inr ⟨x,_,_,.ref cM,decide (c=.M),rfl,he,R.cl c,rfl,(fun _ z=>z),R.kx c .M,⟨_,rfl,.inr ⟨x,_,_,.ref cA,decide (c=.A),rfl,he,R.cl c,rfl,(fun _ z=>z),R.kx c .A,⟨_,rfl,.inr ⟨x,_,_,.ref cQ,decide (c=.I),rfl,he,R.cl c,rfl,(fun _ z=>z),R.kx c .I,⟨lenOk 3,fun l nl=>?_⟩⟩⟩⟩⟩⟩⟩
   have s1:Same H (upd H l (.lst [V.bl (decide (c=.M)),V.bl (decide (c=.A)),V.bl (decide (c=.I))])):=Same.new nl
   have hl1:(upd H l (.lst [V.bl (decide (c=.M)),V.bl (decide (c=.A)),V.bl (decide (c=.I))])) l=some (.lst [V.bl (decide (c=.M)),V.bl (decide (c=.A)),V.bl (decide (c=.I))]):=upd_same
   generalize upd H l (.lst [V.bl (decide (c=.M)),V.bl (decide (c=.A)),V.bl (decide (c=.I))])=H1 at s1 hl1 ⊢
   have he1:=he.same s1
   refine ⟨_,rfl,_,rfl,.inr ⟨x,_,_,.ref cN,decide (c=.N),rfl,he1,R.cl c,rfl,(fun _ z=>z),R.kx c .N,⟨_,rfl,.inr ⟨x,_,_,.ref cD,decide (c=.D),rfl,he1,R.cl c,rfl,(fun _ z=>z),R.kx c .D,⟨lenOk 2,fun l2 nl2=>?_⟩⟩⟩⟩⟩
   have s2:Same H1 (upd H1 l2 (.lst [V.bl (decide (c=.N)),V.bl (decide (c=.D))])):=Same.new nl2
   refine ⟨l,l2,_,_,rfl,rfl,s2 _ _ hl1,upd_same,(show 3+2≤sizeLine from by rw [sizeLine_eq]; decide),fun p np=>?_⟩
   have s3:=s1.trans (s2.trans (Same.new (o:=.lst ([V.bl (decide (c=.M)),V.bl (decide (c=.A)),V.bl (decide (c=.I))]++[V.bl (decide (c=.N)),V.bl (decide (c=.D))])) np))
   exact fin (some c) p _ s3 ⟨x,rfl,he.same s3⟩ (by rw [flag_some,flag_some,flag_some,flag_some,flag_some]; exact upd_same) (alt _ s3)
def optV:Option Nat→V
 | none=>.non
 | some k=>.int k
def sp_ffirst:Sp:=fun vs H Q _=>∃ (l b:Addr) (xs:List V) (ks:List Int) (o:Option Nat),vs=[.ref l,.ref b]∧H l=some (.lst xs)∧xs.length≤100∧H b=some (.lst (ks.map V.int))∧(o=none→∀ k:Nat,k < xs.length→(k:Int) ∉ ks)∧(∀ k,o=some k→k < xs.length∧(k:Int)∈ks∧∀ j:Nat,j < k→(j:Int) ∉ ks) ∧
 ∀ H',Same H H'→Q (optV o) H'
theorem inV_ints {x:Int}:∀ {ks:List Int},inV (.int x) (ks.map V.int)=decide (x∈ks)
 | []=>rfl
 | k :: ks=>by
  have ih:=inV_ints (x:=x) (ks:=ks)
  unfold inV at ih ⊢
  rw [List.map_cons,List.any_cons,ih]
  show (k == x || decide (x∈ks))=_
  rw [Bool.eq_iff_iff,Bool.or_eq_true,beq_iff_eq,decide_eq_true_eq,decide_eq_true_eq,List.mem_cons]
  constructor
  ·rintro (h | h)
   ·exact .inl h.symm
   ·exact .inr h
  ·rintro (h | h)
   ·exact .inl h.symm
   ·exact .inr h
theorem flat_ints:∀ (ks:List Int),(ks.map V.int).all flatV=true
 | []=>rfl
 | k :: ks=>by rw [List.map_cons,List.all_cons,flat_ints ks]; rfl
def badK (ks:List Int) (i:Nat):List Int:=((List.range i).filter fun k:Nat=>decide ((k:Int)∈ks)).map fun k:Nat=>(k:Int)
theorem badK_yes {ks:List Int} {i:Nat} (h:decide ((i:Int)∈ks)=true):badK ks (i+1)=badK ks i++[(i:Int)]:=by
 unfold badK
 rw [List.range_succ,List.filter_append,List.filter_cons,if_pos h,List.map_append]; rfl
theorem badK_no {ks:List Int} {i:Nat} (h:decide ((i:Int)∈ks)=false):badK ks (i+1)=badK ks i:=by
 unfold badK
 rw [List.range_succ,List.filter_append,List.filter_cons,if_neg (by rw [h]; exact Bool.false_ne_true),List.filter_nil,List.append_nil]
theorem badK_fst {ks:List Int} {n:Nat} {o:Option Nat} (o1:o=none→∀ k:Nat,k < n→(k:Int) ∉ ks) (o2:∀ k,o=some k→k < n∧(k:Int)∈ks∧∀ j:Nat,j < k→(j:Int) ∉ ks):(o=none∧badK ks n=[])∨∃ k:Nat,o=some k∧(badK ks n)[0]?=some (k:Int):=by
 have nil:∀ m:Nat,(∀ j:Nat,j < m→(j:Int) ∉ ks)→badK ks m=[]:=fun m=>by
  induction m with
  | zero=>intro _; rfl
  | succ m ih =>
   intro h
   rw [badK_no (decide_eq_false (h m (by omega)))]
   exact ih fun j hj=>h j (by omega)
 cases o with
 | none=>exact .inl ⟨rfl,nil n (o1 rfl)⟩
 | some k =>
  obtain ⟨k1,k2,k3⟩:=o2 k rfl
  refine .inr ⟨k,rfl,?_⟩
  have:∀ d:Nat,(badK ks (k+1+d))[0]?=some (k:Int):=fun d=>by
   induction d with
   | zero=>rw [Nat.add_zero,badK_yes (decide_eq_true k2),nil k k3]; rfl
   | succ d ih =>
    rw [← Nat.add_assoc]
    cases c:decide (((k+1+d:Nat):Int)∈ks) with
    | true =>
     rw [badK_yes c]
     have hl:0 < (badK ks (k+1+d)).length:=(List.getElem?_eq_some_iff.mp ih).1
     rw [List.getElem?_append_left hl]; exact ih
    | false=>rw [badK_no c]; exact ih
  have e:=this (n - (k+1))
  rwa [show k+1+(n - (k+1))=n by omega] at e
theorem S_law_first:FnScope ["_law_things_here","_law_bad","_law_places"] ["_law_things_here","_law_bad"] (defScope s__law_first):=⟨rfl,rfl,rfl,by decide +kernel,rfl,by decide +kernel,by decide +kernel⟩
theorem ok_law_first {f:Addr} {fd:FuncData} (F:Fun K "_law_first" "_law_first" s__law_first f fd) (T:Txt mg t1 t2 t3 t4 t5 t6):FnOk P w K mg base CX0 1 f fd ["_law_things_here","_law_bad"] sp_ffirst:=by
 have S:=S_law_first
 refine F.ok S (fun vs H Q E h=>?_) (fun cdv A outer s H vs Q E hr h=>?_)
 ·obtain ⟨l,b,xs,ks,o,rfl,_⟩:=h; rfl
 ·obtain ⟨l,b,xs,ks,o,rfl,hl,few,hb,o1,o2,q⟩:=h
  refine ⟨_,(pss_cons (ps_setCompF rfl (pg_name (i:=2) S.nd rfl (Or.inl rfl)) (pi_range1 rfl T.z_range (pa_cons (pe_callB call_len_seq rfl T.z_len rfl (pa_cons (pv 0) pa_nil)) pa_nil)) (fun _ _ _ _ _=>(pg_name (i:=0) (show List.Nodup (["_law_k","_law_bad"]:List Str) from by decide +kernel) rfl (Or.inl rfl))) (fun _ _ _ _ _=>(pt_cmpR (op_in_seqK (K:=K)) (pv 0) (pv 1) rfl)) (fun _ _ _ _ _=>(pv 0)) (N:=["_law_k","_law_bad"]) (fr:=[none,some 1]))
   (pss_one (ps_ret (pe_ifExp (pt_cmpR (op_neD hr) (pv 2) (pe_lst pa_nil) (nomark _)) (pe_ix ix_list (pv 2) pe_int (fun _ _=>rfl)) pe_non)))),?_⟩
  refine ⟨_,rfl,l,_,rfl,.inl (SqL.of hl),_,rfl,by omega,by omega,fun acc na=>?_⟩
  rw [Int.toNat_natCast]
  refine comp_rangeF (lo:=0) (n:=xs.length) (fun i zs σ H'=>(∃ x,σ=[x,some (.ref b)])∧Same H H'∧zs=(badK ks i).map V.int) ⟨⟨none,rfl⟩,Same.new na,rfl⟩ ?_ ?_
  ·rintro i zs σ H1 hi hl1 ha1 ⟨⟨x,rfl⟩,s1,hz⟩
   rw [Int.zero_add]
   have hb1:=s1 _ _ hb
   refine ⟨_,rfl,_,rfl,b,_,rfl,.inl (SqL.of hb1),rfl,flat_ints ks,?_⟩
   rw [if_neg Bool.false_ne_true,inV_ints]
   cases c:decide ((i:Int)∈ks) with
   | true =>
    refine ⟨true,rfl,_,rfl,fNx.mk (Nat.le_of_lt (small1000 (by omega))) hi hl1 ha1 ⟨⟨_,rfl⟩,fun d o e=>by rw [upd_ne (ne_of_none e na)]; exact s1 d o e,?_⟩⟩
    rw [hz,badK_yes c,List.map_append]; rfl
   | false =>
    refine ⟨false,rfl,fSk.mk hi hl1 ha1 ⟨⟨_,rfl⟩,s1,?_⟩⟩
    rw [hz,badK_no c]
  ·rintro zs σ H1 hl1 ha1 ⟨_,s1,hz⟩
   subst hz
   refine ⟨_,rfl,lenOk 0,fun e he=>?_⟩
   have s2:Same H1 (upd H1 e (.lst [])):=Same.new he
   have e2:(upd H1 e (.lst [])) e=some (.lst []):=upd_same
   generalize upd H1 e (.lst [])=H2 at s2 e2 ⊢
   have ha2:=s2 _ _ ha1
   refine ⟨_,_,intsL (SqL.of ha2),nilL e2,⟨_,rfl⟩,⟨_,rfl⟩,intsL_dep _,_,rfl,?_⟩
   rw [if_pos rfl,deq,intsD_nil]
   rcases badK_fst o1 o2 with ⟨rfl,e⟩ | ⟨k,rfl,e⟩
   ·exact iteN (by rw [e]; rfl) (q H2 (s1.trans s2))
   ·have ne:badK ks xs.length≠[]:=fun z=>by rw [z] at e; cases e
    exact iteP (by rw [decide_eq_false ne]; rfl) ⟨_,rfl,acc,_,_,_,rfl,rfl,SqL.of ha2,atI_nat (j:=0) (v:=.int k) (by rw [List.getElem?_map,e]; rfl),q H2 (s1.trans s2)⟩
def DueV (H:Hp) (v:V):Option Rs→Prop
 | none=>v=.non
 | some r=>∃ t,v=.ref t∧H t=some (.tup [.str (rsW r),rsV r])
def isBl:V→Bool
 | .bl _=>true
 | _=>false
def noL:List V:=[.int 0,.int 13,.non,.str "3"]
def SdOk (v:V):Prop:=flatV v=true∧(inV v noL || isBl v)=!sideV v
def BadAt {α:Type} (gs:List (Option α)) (ks:List Int):Prop:=∀ k:Nat,gs[k]?=some none↔k < gs.length∧(k:Int)∈ks
theorem BadAt.o1 {α:Type} {gs:List (Option α)} {ks:List Int} (h:BadAt gs ks):fst0 gs=none→∀ k:Nat,k < gs.length→(k:Int) ∉ ks:=fun e k hk hm=>by
 unfold fst0 at e
 have:=List.findIdx?_eq_none_iff.mp e none (List.mem_of_getElem? ((h k).mpr ⟨hk,hm⟩))
 cases this
theorem BadAt.o2 {α:Type} {gs:List (Option α)} {ks:List Int} (h:BadAt gs ks):∀ k,fst0 gs=some k→k < gs.length∧(k:Int)∈ks∧∀ j:Nat,j < k→(j:Int) ∉ ks:=fun k e=>by
 unfold fst0 at e
 obtain ⟨hk,p,q⟩:=List.findIdx?_eq_some_iff_getElem.mp e
 have h1:gs[k]?=some none:=by
  rw [List.getElem?_eq_getElem hk]
  cases c:gs[k] with
  | none=>rfl
  | some t=>rw [c] at p; cases p
 refine ⟨hk,((h k).mp h1).2,fun j hj hm=>?_⟩
 have h2:=(h j).mpr ⟨by omega,hm⟩
 obtain ⟨hj',e'⟩:=List.getElem?_eq_some_iff.mp h2
 exact q j hj (by rw [e']; rfl)
theorem dueC_W {which:Int} {gs:List (Option Want)} {b0 v1 v2:V} {hs:List (Option (Int × Int))} {r:Rs} (h:dueW gs=some r):dueC which gs b0 v1 v2 hs=some r:=by
 unfold dueC dueT dueP
 rw [h]
 split
 ·rfl
 ·split <;> rfl
theorem isBl_of {H:Hp} {v:V} {T:String} (h:tyS H v=some T):isB T "bool"=isBl v:=by
 cases v with
 | bl c=>cases h; exact (by decide:isB "bool" "bool"=true)
 | ref x =>
  have key:T="list"∨T="tuple"∨T="dict":=by
   have h:tyO (H x)=some T:=h
   unfold tyO at h
   split at h <;> first | (cases h; simp) | cases h
  rcases key with rfl | rfl | rfl
  ·exact (by decide:isB "list" "bool"=false)
  ·exact (by decide:isB "tuple" "bool"=false)
  ·exact (by decide:isB "dict" "bool"=false)
 | non=>cases h; exact (by decide:isB "NoneType" "bool"=false)
 | int i=>cases h; exact (by decide:isB "int" "bool"=false)
 | str x=>cases h; exact (by decide:isB "str" "bool"=false)
 | byt b=>cases h
 | flt b=>cases h
 | ty n=>cases h
theorem dno_at {H:Hp} {v:V} (h:DAt H dNo v):∃ p,v=.ref p∧H p=some (.lst noL):=by
 unfold dNo at h
 rw [DAt] at h
 obtain ⟨a,xs,rfl,e,d⟩:=h
 obtain ⟨rfl,_⟩:=flats _ (ys:=noL) rfl d
 exact ⟨a,rfl,e⟩
def sp_due (K:PySem.W.Frag):Sp:=fun vs H Q _=>∃ (which:Int) (a kb sd b ob:Addr) (b0 v1 v2:V) (xs ys:List V) (gs:List (Option Want)) (hs:List (Option (Int × Int))) (ks os:List Int),vs=[.int which,.ref a,.ref kb,b0,.ref sd,.ref b,.ref ob]∧H a=some (.lst xs)∧xs.length=gs.length∧gs.length≤100∧H kb=some (.lst (ks.map V.int))∧BadAt gs ks ∧
 Ty H b0∧H sd=some (.tup [v1,v2])∧SdOk v1∧SdOk v2∧H b=some (.lst ys)∧ys.length=hs.length∧hs.length≤100∧H ob=some (.lst (os.map V.int))∧BadAt hs os∧∀ v H',Same H H'→DueV H' v (dueC which gs b0 v1 v2 hs)→Q v H'
abbrev N_due:List Str:=["_law_which","_law_wants","_law_bad","_law_bits","_law_sides","_law_sheets","_law_odd","_law_side"]
theorem S_law_due:FnScope N_due ["_law_which","_law_wants","_law_bad","_law_bits","_law_sides","_law_sheets","_law_odd"] (defScope s__law_due):=⟨rfl,rfl,rfl,by decide +kernel,rfl,by decide +kernel,by decide +kernel⟩
theorem ok_law_due {f:Addr} {fd:FuncData} (F:Fun K "_law_due" "_law_due" s__law_due f fd) (T:Txt mg t1 t2 t3 t4 t5 t6) (D__law_first:DefOk P w K mg base 1 "_law_first" ["_law_things_here","_law_bad"] sp_ffirst):FnOk P w K mg base CX0 2 f fd ["_law_which","_law_wants","_law_bad","_law_bits","_law_sides","_law_sheets","_law_odd"] (sp_due K):=by
 have S:=S_law_due
 refine F.ok S (fun vs H Q E h=>?_) (fun cdv A outer s H vs Q E hr h=>?_)
 ·obtain ⟨which,a,kb,sd,b,ob,b0,v1,v2,xs,ys,gs,hs,ks,os,rfl,_⟩:=h; rfl
 ·obtain ⟨which,a,kb,sd,b,ob,b0,v1,v2,xs,ys,gs,hs,ks,os,rfl,ha,el,lg,hkb,bad,tb,hsd,sv1,sv2,hb,eh,lh,hob,odd,q⟩:=h
  refine ⟨_,(pss_cons (ps_if (pt_cmpR op_gt (pe_callB call_len_seq rfl T.z_len rfl (pa_cons (pv 1) pa_nil)) pe_int (nomark _)) (pss_one (ps_ret (pe_tup (pa_cons pe_str (pa_cons (pe_callB call_len_seq rfl T.z_len rfl (pa_cons (pv 1) pa_nil)) pa_nil))))) pss_nil)
   (pss_cons (ps_if (pt_cmpR op_notN (pe_fn D__law_first hr (pa_cons (pv 1) (pa_cons (pv 2) pa_nil))) pe_non (nomark _)) (pss_one (ps_ret (pe_tup (pa_cons pe_str (pa_cons (pe_fn D__law_first hr (pa_cons (pv 1) (pa_cons (pv 2) pa_nil))) pa_nil))))) pss_nil)
   (pss_cons (ps_if (pt_cmpR op_eq (pv 0) pe_int (nomark _)) (pss_one (ps_ret pe_non)) pss_nil)
   (pss_cons (ps_if (pt_cmpR op_eq (pv 0) pe_int (nomark _)) (pss_cons (ps_for PassesOwn.never rfl (pi_tup (pv 4)) (pg_name (i:=7) S.nd rfl (Or.inl rfl)) (pss_one (ps_if (PW.pt (pw_or (pt_cmpR op_in_seq (pv 7) (pe_lit 4 _ dNo rfl) rfl) (pw_or1 (pt_val (pe_callB call_isin rfl T.z_isinstance rfl (pa_cons (pv 7) (pa_cons (pe_bltn (v:=.ty "bool") rfl T.z_bool rfl rfl) pa_nil))))))) (pss_one (ps_ret (pe_tup (pa_cons pe_str (pa_cons (pv 7) pa_nil))))) pss_nil)))
   (pss_cons (ps_if (PW.pt (pw_or (pt_not (pt_val (pe_callB call_isin rfl T.z_isinstance rfl (pa_cons (pv 3) (pa_cons (pe_bltn (v:=.ty "int") rfl T.z_int rfl rfl) pa_nil))))) (pw_or (pt_val (pe_callB call_isin rfl T.z_isinstance rfl (pa_cons (pv 3) (pa_cons (pe_bltn (v:=.ty "bool") rfl T.z_bool rfl rfl) pa_nil)))) (pw_or (pt_cmpR op_lt (pv 3) pe_int (nomark _)) (pw_or1 (pt_cmpR op_ge (pv 3) (pe_op op_shl pe_int (pe_callB call_len_seq rfl T.z_len rfl (pa_cons (pv 1) pa_nil))) (nomark _))))))) (pss_one (ps_ret (pe_tup (pa_cons pe_str (pa_cons (pv 3) pa_nil))))) pss_nil)
   (pss_one (ps_ret pe_non)))) pss_nil)
   (pss_cons (ps_if (PW.pt (pw_or (pt_cmpR op_lt (pe_callB call_len_seq rfl T.z_len rfl (pa_cons (pv 5) pa_nil)) pe_int (nomark _)) (pw_or1 (pt_cmpR op_gt (pe_callB call_len_seq rfl T.z_len rfl (pa_cons (pv 5) pa_nil)) pe_int (nomark _))))) (pss_one (ps_ret (pe_tup (pa_cons pe_str (pa_cons (pe_callB call_len_seq rfl T.z_len rfl (pa_cons (pv 5) pa_nil)) pa_nil))))) pss_nil)
   (pss_cons (ps_if (pt_cmpR op_notN (pe_fn D__law_first hr (pa_cons (pv 5) (pa_cons (pv 6) pa_nil))) pe_non (nomark _)) (pss_one (ps_ret (pe_tup (pa_cons pe_str (pa_cons (pe_fn D__law_first hr (pa_cons (pv 5) (pa_cons (pv 6) pa_nil))) pa_nil))))) pss_nil)
   (pss_one (ps_ret pe_non)))))))),?_⟩
  have many:∀ {n:Nat} {t:Addr} {H1:Hp},dueC which gs b0 v1 v2 hs=some (.many n)→Same H H1→H1 t=none→Q (.ref t) (upd H1 t (.tup [.str "many",.int n])):=fun {n t H1} e s1 nt=>q _ _ (s1.trans (Same.new nt)) (by rw [e]; exact ⟨t,rfl,upd_same⟩)
  refine ⟨_,rfl,a,_,rfl,.inl (SqL.of ha),_,_,rfl,rfl,_,rfl,ite3 (fun c=>?_) (fun c=>?_)⟩
  ·have c:(6:Int) < (xs.length:Int):=of_decide_eq_true c
   have e:dueC which gs b0 v1 v2 hs=some (.many gs.length):=dueC_W (by unfold dueW; rw [if_pos (by omega)])
   exact ⟨_,rfl,a,_,rfl,.inl (SqL.of ha),lenOk 2,fun t nt=>by rw [el]; exact many e (Same.refl H) nt⟩
  have c:¬ (6:Int) < (xs.length:Int):=of_decide_eq_false c
  have eW:dueW gs=(fst0 gs).map fun k:Nat=>Rs.want (k:Int):=by unfold dueW; rw [if_neg (by omega)]
  have o1:=bad.o1
  have o2:=bad.o2
  rw [← el] at o1 o2
  refine ⟨_,rfl,_,rfl,a,kb,xs,ks,fst0 gs,rfl,ha,by omega,hkb,o1,o2,fun H1 s1=>⟨rfl,_,rfl,?_⟩⟩
  cases e0:fst0 gs with
  | some k =>
   rw [e0] at eW o1 o2
   refine iteP rfl ⟨_,rfl,_,rfl,a,kb,xs,ks,some k,rfl,s1 _ _ ha,by omega,s1 _ _ hkb,o1,o2,fun H2 s2=>⟨lenOk 2,fun t nt=>q _ _ (s1.trans (s2.trans (Same.new nt))) ?_⟩⟩
   rw [dueC_W eW]
   exact ⟨t,rfl,upd_same⟩
  | none =>
   rw [e0] at eW
   have eW:dueW gs=none:=eW
   refine iteN rfl ?_
   refine ⟨_,rfl,rfl,_,rfl,ite3 (fun c0=>?_) (fun c0=>?_)⟩
   ·have c0:which=0:=decI.mp c0
    refine q _ _ s1 ?_
    unfold dueC
    rw [if_pos c0,eW]; rfl
   have c0:¬ which=0:=fun z=>by rw [decI.mpr z] at c0; cases c0
   refine ⟨_,rfl,rfl,_,rfl,ite3 (fun c1=>?_) (fun c1=>?_)⟩
   ·have c1:which=1:=decI.mp c1
    have eT:dueC which gs b0 v1 v2 hs=(dueD v1 v2).or (dueN gs.length b0):=by
     unfold dueC dueT
     rw [if_neg c0,if_pos c1,eW]; rfl
    rw [eT] at q
    have side:∀ {x:V} {t:Addr} {H2:Hp},dueD v1 v2=some (.side x)→Same H H2→H2 t=none→Q (.ref t) (upd H2 t (.tup [.str "side",x])):=fun {x t H2} e s2 nt=>q _ _ (s2.trans (Same.new nt)) (by rw [e]; exact ⟨t,rfl,upd_same⟩)
    refine ⟨_,rfl,sd,rfl,⟨_,SqT.of (s1 _ _ hsd)⟩,for_tup (K:=K) (a:=sd) (xs:=[v1,v2]) (fun i σ H'=>(∃ y,σ=[some (.int which),some (.ref a),some (.ref kb),some b0,some (.ref sd),some (.ref b),some (.ref ob),y])∧Same H H'∧(0 < i→sideV v1=true)∧(1 < i→sideV v2=true)) ⟨⟨none,rfl⟩,s1,(fun z=>absurd z (by decide)),fun z=>absurd z (by decide)⟩ (fun i σ H' _ hp=>SqT.of (hp.2.1 _ _ hsd)) ?_ ?_⟩
    ·rintro i x σ H2 hx ⟨⟨y,rfl⟩,s2,h0,h1⟩
     obtain ⟨sx,due,good⟩:SdOk x∧(sideV x=false→dueD v1 v2=some (.side x))∧(sideV x=true→(0 < i+1→sideV v1=true)∧(1 < i+1→sideV v2=true)):=by
      match i,hx with
      | 0,hx =>
       cases hx
       exact ⟨sv1,fun z=>by unfold dueD; rw [z]; rfl,fun z=>⟨fun _=>z,fun k=>absurd k (by omega)⟩⟩
      | 1,hx =>
       cases hx
       have z0:=h0 (by omega)
       exact ⟨sv2,fun z=>by unfold dueD; rw [z0,z]; rfl,fun z=>⟨fun _=>z0,fun _=>z⟩⟩
      | i+2,hx=>cases hx
     refine ⟨_,rfl,fun lv H3 s3 d3=>?_⟩
     obtain ⟨p,rfl,hp⟩:=dno_at d3
     have s23:=s2.trans s3
     obtain ⟨Tx,hTx⟩:Ty H3 x:=ty_flat sx.1
     have sx2:=sx.2
     refine ⟨p,_,rfl,.inl (SqL.of hp),sx.1,rfl,_,rfl,?_⟩
     rw [if_neg Bool.false_ne_true]
     refine ite3 (fun c2=>?_) (fun c2=>?_)
     ·rw [c2,Bool.true_or] at sx2
      exact iteT ⟨_,rfl,lenOk 2,fun t nt=>side (due (by simpa using sx2.symm)) s23 nt⟩
     ·rw [c2,Bool.false_or] at sx2
      refine ⟨_,rfl,x,Tx,"bool",rfl,hTx,.inr (.inl rfl),_,rfl,?_⟩
      rw [isBl_of hTx,sx2]
      refine ite3 (fun c3=>?_) (fun c3=>?_)
      ·exact ⟨_,rfl,lenOk 2,fun t nt=>side (due (by simpa using c3)) s23 nt⟩
      ·obtain ⟨g0,g1⟩:=good (by simpa using c3)
       exact ⟨⟨_,rfl⟩,s23,g0,g1⟩
    ·rintro σ H2 ⟨⟨y,rfl⟩,s2,h0,h1⟩
     have eD:dueD v1 v2=none:=by unfold dueD; rw [h0 (by show 0 < 2; decide),h1 (by show 1 < 2; decide)]; rfl
     rw [eD] at q
     have q:∀ v H',Same H H'→DueV H' v (dueN gs.length b0)→Q v H':=q
     obtain ⟨Tb,hTb⟩:=tb.same s2
     have num:∀ {t:Addr},numB gs.length b0=false→H2 t=none→Q (.ref t) (upd H2 t (.tup [.str "number",b0])):=fun {t} e nt=>q _ _ (s2.trans (Same.new nt)) (by unfold dueN; rw [e]; exact ⟨t,rfl,upd_same⟩)
     have nw:wholeV b0=false→numB gs.length b0=false:=fun z=>by cases b0 <;> first | rfl | cases z
     obtain ⟨w1,w2⟩:=whole_eq hTb
     refine ⟨_,rfl,b0,Tb,"int",rfl,hTb,.inl rfl,_,rfl,ite3 (fun c2=>?_) (fun c2=>?_)⟩
     ·have c2:isB Tb "int"=false:=by simpa using c2
      exact iteT ⟨_,rfl,lenOk 2,fun t nt=>num (nw (w2 c2).symm) nt⟩
     have c2:isB Tb "int"=true:=by simpa using c2
     refine ⟨_,rfl,b0,Tb,"bool",rfl,hTb,.inr (.inl rfl),_,rfl,ite3 (fun c3=>?_) (fun c3=>?_)⟩
     ·exact iteT ⟨_,rfl,lenOk 2,fun t nt=>num (nw (by rw [← w1 c2,c3]; rfl)) nt⟩
     obtain ⟨bb,rfl⟩:∃ bb:Int,b0=.int bb:=by
      have z:=w1 c2
      rw [c3] at z
      cases b0 <;> first | exact ⟨_,rfl⟩ | cases z
     have nB:numB gs.length (.int bb)=(decide (1≤bb) && decide (bb≤((2^gs.length - 1:Nat):Int))):=rfl
     have pw:(1:Int) * 2^((xs.length:Nat):Int).toNat=((2^gs.length - 1:Nat):Int)+1:=by
      rw [el]
      have:∀ m:Nat,m≤6→(1:Int) * 2^((m:Nat):Int).toNat=((2^m - 1:Nat):Int)+1:=by decide +kernel
      exact this _ (by omega)
     refine ⟨_,rfl,_,_,rfl,rfl,_,rfl,ite3 (fun c4=>?_) (fun c4=>?_)⟩
     ·have c4:bb < 1:=of_decide_eq_true c4
      exact iteT ⟨_,rfl,lenOk 2,fun t nt=>num (by rw [nB,decide_eq_false (by omega)]; rfl) nt⟩
     have c4:¬ bb < 1:=of_decide_eq_false c4
     refine ⟨_,rfl,_,rfl,a,_,rfl,.inl (SqL.of (s2 _ _ ha)),_,_,rfl,rfl,⟨by omega,by omega,by decide⟩,_,_,rfl,rfl,_,rfl,ite3 (fun c5=>?_) (fun c5=>?_)⟩
     ·have c5:(1:Int) * 2^((xs.length:Nat):Int).toNat≤bb:=of_decide_eq_true c5
      rw [pw] at c5
      exact ⟨_,rfl,lenOk 2,fun t nt=>num (by rw [nB,decide_eq_false (p:=bb≤_) (by omega),Bool.and_false]) nt⟩
     ·have c5:¬ (1:Int) * 2^((xs.length:Nat):Int).toNat≤bb:=of_decide_eq_false c5
      rw [pw] at c5
      refine q _ _ s2 ?_
      unfold dueN
      rw [nB,decide_eq_true (by omega),decide_eq_true (by omega)]; rfl
   ·have c1:¬ which=1:=fun z=>by rw [decI.mpr z] at c1; cases c1
    have eP:dueC which gs b0 v1 v2 hs=dueS hs:=by
     unfold dueC dueP
     rw [if_neg c0,if_neg c1,eW]; rfl
    have bad2:(hs.length < 1∨4 < hs.length)→∀ t,H1 t=none→Q (.ref t) (upd H1 t (.tup [.str "many",.int ys.length])):=fun z t nt=>by
     rw [eh]; exact many (by rw [eP]; unfold dueS; rw [if_pos z]) s1 nt
    have hb1:=s1 _ _ hb
    refine ⟨_,rfl,b,_,rfl,.inl (SqL.of hb1),_,_,rfl,rfl,_,rfl,ite3 (fun c2=>?_) (fun c2=>?_)⟩
    ·have c2:(ys.length:Int) < 1:=of_decide_eq_true c2
     exact iteT ⟨_,rfl,b,_,rfl,.inl (SqL.of hb1),lenOk 2,fun t nt=>bad2 (.inl (by omega)) t nt⟩
    have c2:¬ (ys.length:Int) < 1:=of_decide_eq_false c2
    refine ⟨_,rfl,b,_,rfl,.inl (SqL.of hb1),_,_,rfl,rfl,_,rfl,ite3 (fun c3=>?_) (fun c3=>?_)⟩
    ·have c3:(4:Int) < (ys.length:Int):=of_decide_eq_true c3
     exact ⟨_,rfl,b,_,rfl,.inl (SqL.of hb1),lenOk 2,fun t nt=>bad2 (.inr (by omega)) t nt⟩
    have c3:¬ (4:Int) < (ys.length:Int):=of_decide_eq_false c3
    have eS:dueS hs=(fst0 hs).map fun k:Nat=>Rs.sheet (k:Int):=by unfold dueS; rw [if_neg (by omega)]
    have p1:=odd.o1
    have p2:=odd.o2
    rw [← eh] at p1 p2
    refine ⟨_,rfl,_,rfl,b,ob,ys,os,fst0 hs,rfl,hb1,by omega,s1 _ _ hob,p1,p2,fun H2 s2=>⟨rfl,_,rfl,?_⟩⟩
    have s12:=s1.trans s2
    cases e1:fst0 hs with
    | some k =>
     rw [e1] at eS p1 p2
     refine iteP rfl ⟨_,rfl,_,rfl,b,ob,ys,os,some k,rfl,s12 _ _ hb,by omega,s12 _ _ hob,p1,p2,fun H3 s3=>⟨lenOk 2,fun t nt=>q _ _ (s12.trans (s3.trans (Same.new nt))) ?_⟩⟩
     rw [eP,eS]
     exact ⟨t,rfl,upd_same⟩
    | none =>
     rw [e1] at eS
     refine iteN rfl (q _ _ s12 ?_)
     rw [eP,eS]; rfl
def clL:List Cl:=[.M,.A,.I,.N,.D,.S,.P]
theorem clL_all (c:Cl):c∈clL:=by cases c <;> decide
def kitC (K:PySem.W.Frag) (cM cA cQ cN cD cS cP:Addr):Bool:=clL.all (fun x=>clL.all fun y=>PySem.W.kitOne K (.ref (clA cM cA cQ cN cD cS cP x)) (.ref (clA cM cA cQ cN cD cS cP y)) == some (decide (x=y))) && clL.all fun y=>PySem.W.kitOne K (.type "NoneType") (.ref (clA cM cA cQ cN cD cS cP y)) == some false
theorem kitC_of {K:PySem.W.Frag} {cM cA cQ cN cD cS cP:Addr} (h:kitC K cM cA cQ cN cD cS cP=true):(∀ x y,PySem.W.kitOne K (.ref (clA cM cA cQ cN cD cS cP x)) (.ref (clA cM cA cQ cN cD cS cP y))=some (decide (x=y)))∧∀ y,PySem.W.kitOne K (.type "NoneType") (.ref (clA cM cA cQ cN cD cS cP y))=some false:=by
 unfold kitC at h
 rw [Bool.and_eq_true,List.all_eq_true,List.all_eq_true] at h
 exact ⟨fun x y=>beq_iff_eq.mp (List.all_eq_true.mp (h.1 x (clL_all x)) y (clL_all y)),fun y=>beq_iff_eq.mp (h.2 y (clL_all y))⟩
theorem rg_of {mg:Str→Option Value} {K:PySem.W.Frag} {cG cM cA cQ cN cD cS cP:Addr} (h:kitC K cM cA cQ cN cD cS cP=true) (gG:mg "GlassError"=some (.ref cG)) (gM:mg "TooMany"=some (.ref cM)) (gA:mg "NoWant"=some (.ref cA)) (gQ:mg "NoSide"=some (.ref cQ)) (gN:mg "NoNumber"=some (.ref cN)) (gD:mg "NoSheet"=some (.ref cD)) (gS:mg "NoSize"=some (.ref cS)) (gP:mg "NoPlan"=some (.ref cP)) (xG:PySem.W.excIn K cG vErr "ValueError.__new__"=true)
  (m:∀ c,PySem.W.mroIn K (clA cM cA cQ cN cD cS cP c) (.ref cG)=some true) (cl:∀ c,XCls K (clA cM cA cQ cN cD cS cP c)) (na:∀ r:Rs,NoAttr K (clA cM cA cQ cN cD cS cP (rsL r)) (rsN r)):RG mg K cG cM cA cQ cN cD cS cP :=
 ⟨gG,gM,gA,gQ,gN,gD,gS,gP,xG,m,cl,(kitC_of h).1,(kitC_of h).2,na⟩
def GoodT (H:Hp) (fh:Int) (sv:List V) (v:V):Prop:=∃ a p q,v=.ref a∧H a=some (.tup (.int p :: .int q :: sv))∧(1≤p∧p≤fh)∧(1≤q∧q≤fh)
theorem GoodT.same {H H':Hp} {fh:Int} {sv:List V} {v:V} (s:Same H H') (h:GoodT H fh sv v):GoodT H' fh sv v:=by
 obtain ⟨a,p,q,e,h,k⟩:=h
 exact ⟨a,p,q,e,s _ _ h,k⟩
def ThAt (H:Hp) (fh:Int) (sv:List V) (bad:V) (xs:List V) (ks:List Int):Prop:=∀ (i:Nat) v,xs[i]?=some v→((i:Int)∈ks∧v=bad)∨((i:Int) ∉ ks∧GoodT H fh sv v)
def sp_things:Sp:=fun vs H Q _=>∃ (c by_ many fh:Int) (sc:Addr) (sv:List V) (bad:V),vs=[.int c,.int by_,.int many,.int fh,.ref sc,bad]∧0≤by_∧by_≤100∧0≤many∧many≤7∧1≤fh∧fh≤12∧H sc=some (.tup sv)∧sv.length≤1 ∧
 ∀ t l b xs ks H',Same H H'→H' t=some (.tup [.ref l,.ref b])→H l=none→H b=none→H' l=some (.lst xs)→H' b=some (.lst (ks.map V.int))→(xs.length:Int)=many→ThAt H' fh sv bad xs ks→Q (.ref t) H'
theorem GoodT.updL {H:Hp} {fh:Int} {sv:List V} {v:V} {l:Addr} {xs ys:List V} (hl:H l=some (.lst xs)) (h:GoodT H fh sv v):GoodT (upd H l (.lst ys)) fh sv v:=by
 obtain ⟨a,p,q,e,h,k⟩:=h
 exact ⟨a,p,q,e,by rw [upd_ne (ne_of h hl (by intro z; cases z))]; exact h,k⟩
theorem ThAt.updL {H:Hp} {fh:Int} {sv:List V} {bad:V} {xs:List V} {ks:List Int} {l:Addr} {us ys:List V} (hl:H l=some (.lst us)) (h:ThAt H fh sv bad xs ks):ThAt (upd H l (.lst ys)) fh sv bad xs ks:=fun i v e=>by
 rcases h i v e with z | ⟨z1,z2⟩
 ·exact .inl z
 ·exact .inr ⟨z1,z2.updL hl⟩
theorem ThAt.same {H H':Hp} {fh:Int} {sv:List V} {bad:V} {xs:List V} {ks:List Int} (s:Same H H') (h:ThAt H fh sv bad xs ks):ThAt H' fh sv bad xs ks:=fun i v e=>by
 rcases h i v e with z | ⟨z1,z2⟩
 ·exact .inl z
 ·exact .inr ⟨z1,z2.same s⟩
theorem ThAt.put {H:Hp} {fh:Int} {sv:List V} {bad:V} {xs:List V} {ks:List Int} (h:ThAt H fh sv bad xs ks) (j:Nat):ThAt H fh sv bad (xs.set j bad) (ks++[(j:Int)]):=fun i v e=>by
 by_cases c:i=j
 ·subst c
  refine .inl ⟨List.mem_append_right _ (List.mem_singleton.mpr rfl),?_⟩
  rw [List.getElem?_set] at e
  rw [if_pos rfl] at e
  split at e
  ·exact (Option.some.inj e).symm
  ·cases e
 ·rw [List.getElem?_set_ne (Ne.symm c)] at e
  rcases h i v e with ⟨z1,z2⟩ | ⟨z1,z2⟩
  ·exact .inl ⟨List.mem_append_left _ z1,z2⟩
  ·refine .inr ⟨fun m=>?_,z2⟩
   rcases List.mem_append.mp m with m | m
   ·exact z1 m
   ·have:=List.mem_singleton.mp m
    omega
theorem ixN_of {n:Nat} {i:Int} (h0:0≤i) (h1:i < n):ixN n i=some i.toNat:=by
 unfold ixN
 rw [if_pos h0,if_pos h1]
theorem S_law_things:FnScope ["_law_cell","_law_by","_law_many","_law_first_here","_law_second","_law_bad_one","_law_number","_law_things_here","_law_k","_law_size","_law_bad","_law_at_here"] ["_law_cell","_law_by","_law_many","_law_first_here","_law_second","_law_bad_one"] (defScope s__law_things):=⟨rfl,rfl,rfl,by decide +kernel,rfl,by decide +kernel,by decide +kernel⟩
theorem ok_law_things {f:Addr} {fd:FuncData} (F:Fun K "_law_things" "_law_things" s__law_things f fd) (T:Txt mg t1 t2 t3 t4 t5 t6) (D__law_knead:DefOk P w K mg base 1 "_law_knead" ["_law_number","_law_by"] sp_knead):FnOk P w K mg base CX0 2 f fd ["_law_cell","_law_by","_law_many","_law_first_here","_law_second","_law_bad_one"] sp_things:=by
 have S:=S_law_things
 refine F.ok S (fun vs H Q E h=>?_) (fun cdv A outer s H vs Q E hr h=>?_)
 ·obtain ⟨c,by_,many,fh,sc,sv,bad,rfl,_⟩:=h; rfl
 ·obtain ⟨c,by_,many,fh,sc,sv,bad,rfl,b0,b1,m0,m7,f1,f12,hsc,lsv,q⟩:=h
  refine ⟨_,(pss_cons (ps_set (i:=6) S.nd rfl (Or.inl rfl) (pe_fn D__law_knead hr (pa_cons (pv 0) (pa_cons (pv 1) pa_nil))))
   (pss_cons (ps_set (i:=7) S.nd rfl (Or.inl rfl) (pe_lst pa_nil))
   (pss_cons (ps_for PassesOwn.never rfl (pi_range1 rfl T.z_range (pa_cons (pv 2) pa_nil)) (pg_name (i:=8) S.nd rfl (Or.inl rfl)) (pss_cons (ps_set (i:=9) S.nd rfl (Or.inl rfl) (pe_tup (pa_cons (pe_op op_add pe_int (pe_op op_mod (pe_op op_add (pv 6) (pe_op op_mulL (pv 8) (pv 8))) (pv 3))) (pa_cons (pe_op op_add pe_int (pe_op op_mod (pe_op op_add (pe_op op_fdivL (pv 6) pe_int) (pe_op op_mulL pe_int (pv 8))) (pv 3))) pa_nil))))
   (pss_one (ps_expr (pe_bm PySem.F.plainAttrs_list PySem.F.slot_list_append PySem.F.type_list_append mt_append (pv 7) (pa_cons (pe_op op_catT (pv 9) (pv 4)) pa_nil))))))
   (pss_cons (ps_set (i:=10) S.nd rfl (Or.inl rfl) (pe_lst pa_nil))
   (pss_cons (ps_for PassesOwn.never rfl (pi_range1 rfl T.z_range (pa_cons (pe_op op_mod (pe_op op_fdivL (pv 6) pe_int) pe_int) pa_nil)) (pg_name (i:=8) S.nd rfl (Or.inl rfl)) (pss_one (ps_if (pt_cmpR op_gt (pv 2) pe_int (nomark _)) (pss_cons (ps_set (i:=11) S.nd rfl (Or.inl rfl) (pe_op op_mod (pe_op op_add (pe_op op_fdivL (pv 6) pe_int) (pe_op op_mulL pe_int (pv 8))) (pv 2)))
   (pss_cons (ps_expr (pe_bm PySem.F.plainAttrs_list PySem.F.slot_list_append PySem.F.type_list_append mt_append (pv 10) (pa_cons (pv 11) pa_nil)))
   (pss_one (ps_asg (pv 5) (pg_sub (pv 7) (pv 11) set_list))))) pss_nil)))
   (pss_one (ps_ret (pe_tup (pa_cons (pv 7) (pa_cons (pv 10) pa_nil)))))))))),?_⟩
  refine ⟨_,rfl,_,rfl,c,by_,rfl,b0,b1,fun n n0=>?_⟩
  refine ⟨lenOk 0,fun l nl=>?_⟩
  have s1:Same H (upd H l (.lst [])):=Same.new nl
  have hl1:(upd H l (.lst [])) l=some (.lst []):=upd_same
  generalize upd H l (.lst [])=H1 at s1 hl1 ⊢
  refine ⟨_,rfl,many,rfl,by omega,by omega,?_⟩
  obtain ⟨mm,rfl⟩:∃ mm:Nat,many=mm:=⟨many.toNat,by omega⟩
  rw [Int.toNat_natCast]
  refine for_range (lo:=0) (n:=mm) (fun i σ H'=>(∃ y z,σ=[some (.int c),some (.int by_),some (.int mm),some (.int fh),some (.ref sc),some bad,some (.int n),some (.ref l),y,z,none,none])∧SameX l H1 H'∧∃ xs,H' l=some (.lst xs)∧xs.length=i∧∀ v∈xs,GoodT H' fh sv v) ⟨⟨none,none,rfl⟩,SameX.refl,[],hl1,rfl,fun v hv=>nomatch hv⟩ ?_ ?_
  ·rintro i σ H2 hi ⟨⟨y,z,rfl⟩,s2,xs,hl2,xl,good⟩
   rw [Int.zero_add]
   have ii:(i:Int) < 8:=by omega
   refine ⟨_,rfl,_,rfl,_,rfl,_,_,rfl,rfl,mul64 (by omega) (by omega) (by omega) (by omega),_,_,rfl,rfl,_,rfl,_,_,rfl,rfl,(by omega),_,_,rfl,rfl,_,rfl,_,_,rfl,rfl,divL _ (by decide) (by decide),_,rfl,_,_,rfl,rfl,mul64 (by omega) (by omega) (by omega) (by omega),_,_,rfl,rfl,_,rfl,_,_,rfl,rfl,(by omega),_,_,rfl,rfl,lenOk 2,fun t nt=>?_⟩
   have a1:=Int.emod_nonneg (n+(i:Int) * i) (b:=fh) (by omega)
   have a2:=Int.emod_lt_of_pos (n+(i:Int) * i) (b:=fh) (by omega)
   have a3:=Int.emod_nonneg (n / 50+3 * (i:Int)) (b:=fh) (by omega)
   have a4:=Int.emod_lt_of_pos (n / 50+3 * (i:Int)) (b:=fh) (by omega)
   generalize (n+(i:Int) * i) % fh=p1 at a1 a2 ⊢
   generalize (n / 50+3 * (i:Int)) % fh=p2 at a3 a4 ⊢
   have s3:Same H2 (upd H2 t (.tup [.int (1+p1),.int (1+p2)])):=Same.new nt
   have ht3:(upd H2 t (.tup [.int (1+p1),.int (1+p2)])) t=some (.tup [.int (1+p1),.int (1+p2)]):=upd_same
   generalize upd H2 t (.tup [.int (1+p1),.int (1+p2)])=H3 at s3 ht3 ⊢
   have hl3:=s3 _ _ hl2
   have nsl:sc≠l:=ne_of_none (by exact hsc) nl
   have hsc3:H3 sc=some (.tup sv):=s3 _ _ (s2 _ _ nsl (s1 _ _ hsc))
   have key:∀ (u:Addr) (H4:Hp),Same H3 H4→H4 u=some (.tup (.int (1+p1) :: .int (1+p2) :: sv))→SameX l H1 (upd H4 l (.lst (xs++[.ref u])))∧∃ ys,(upd H4 l (.lst (xs++[.ref u]))) l=some (.lst ys)∧ys.length=i+1∧∀ v∈ys,GoodT (upd H4 l (.lst (xs++[.ref u]))) fh sv v:=fun u H4 s4 hu=>by
    have hl4:=s4 _ _ hl3
    refine ⟨(s2.trans (s3.trans s4).x).trans SameX.upd,_,upd_same,by rw [List.length_append,xl]; rfl,fun v hv=>?_⟩
    refine GoodT.updL hl4 ?_
    rcases List.mem_append.mp hv with hv | hv
    ·exact (good v hv).same (s3.trans s4)
    ·rw [List.mem_singleton.mp hv]
     exact ⟨u,_,_,rfl,hu,⟨by omega,by omega⟩,⟨by omega,by omega⟩⟩
   refine ⟨_,rfl,.inl ⟨rfl,_,SqL.of hl3⟩,_,rfl,_,rfl,t,sc,_,sv,rfl,rfl,SqT.of ht3,SqT.of hsc3,(fun z=>nomatch z),Nat.le_of_lt (small1000 (by show 2+sv.length≤1000; omega)),fun e=>?_,fun e p np=>?_⟩
   ·subst e
    exact ⟨l,_,_,rfl,rfl,hl3,small1000 (by omega),⟨_,_,rfl⟩,key t H3 (Same.refl H3) ht3⟩
   ·have s4:Same H3 (upd H3 p (.tup ([.int (1+p1),.int (1+p2)]++sv))):=Same.new np
    exact ⟨l,_,_,rfl,rfl,s4 _ _ hl3,small1000 (by omega),⟨_,_,rfl⟩,key p _ s4 upd_same⟩
  ·rintro σ H2 ⟨⟨y,z,rfl⟩,s2,xs,hl2,xl,good⟩
   refine ⟨lenOk 0,fun b nb=>?_⟩
   have s3:Same H2 (upd H2 b (.lst [])):=Same.new nb
   have hb3:(upd H2 b (.lst [])) b=some (.lst (([]:List Int).map V.int)):=upd_same
   generalize upd H2 b (.lst [])=H3 at s3 hb3 ⊢
   have nlb:l≠b:=ne_of_none hl2 nb
   have s02:Same H H2:=s2.same s1 nl
   have nb0:H b=none:=wasNone s02 nb
   have th3:ThAt H3 fh sv bad xs []:=fun i v e=>.inr ⟨(fun m=>nomatch m),(good v (List.mem_of_getElem? e)).same s3⟩
   have m0':=Int.emod_nonneg (n / 1000) (b:=3) (by decide)
   have m1':=Int.emod_lt_of_pos (n / 1000) (b:=3) (by decide)
   refine ⟨_,rfl,_,_,rfl,rfl,divL _ (by decide) (by decide),_,_,rfl,rfl,(show (0:Int) < 3 from by decide),_,rfl,by omega,by omega,?_⟩
   obtain ⟨tm,htm⟩:∃ tm:Nat,tm=(n / 1000 % 3).toNat:=⟨_,rfl⟩
   rw [← htm]
   refine for_range (lo:=0) (n:=tm) (fun i σ H'=>(∃ y z w,σ=[some (.int c),some (.int by_),some (.int mm),some (.int fh),some (.ref sc),some bad,some (.int n),some (.ref l),y,z,some (.ref b),w])∧(∀ x o,x≠l→x≠b→H3 x=some o→H' x=some o)∧∃ (xs:List V) (ks:List Int),H' l=some (.lst xs)∧H' b=some (.lst (ks.map V.int))∧xs.length=mm∧ks.length≤i∧ThAt H' fh sv bad xs ks) ⟨⟨_,_,_,rfl⟩,(fun x o _ _ e=>e),xs,[],s3 _ _ hl2,hb3,xl,Nat.le_refl _,th3⟩ ?_ ?_
   ·rintro i σ H4 hi ⟨⟨y,z,w,rfl⟩,s4,xs4,ks,hl4,hb4,xl4,kl4,th4⟩
    rw [Int.zero_add]
    have ii:(i:Int) < 3:=by omega
    refine ⟨_,rfl,_,_,rfl,rfl,_,rfl,ite3 (fun c0=>?_) (fun c0=>?_)⟩
    ·have c0:(0:Int) < (mm:Int):=of_decide_eq_true c0
     refine ⟨_,rfl,_,_,rfl,rfl,divL _ (by decide) (by decide),_,rfl,_,_,rfl,rfl,mul64 (by omega) (by omega) (by omega) (by omega),_,_,rfl,rfl,_,rfl,_,_,rfl,rfl,c0,?_⟩
     have e1:=Int.emod_nonneg (n / 3000+5 * (i:Int)) (b:=(mm:Int)) (by omega)
     have e2:=Int.emod_lt_of_pos (n / 3000+5 * (i:Int)) (b:=(mm:Int)) c0
     refine ⟨_,rfl,.inl ⟨rfl,_,SqL.of hb4⟩,_,rfl,b,_,_,rfl,rfl,hb4,small1000 (by rw [List.length_map]; omega),?_⟩
     refine ⟨_,rfl,_,rfl,_,rfl,l,xs4,((n / 3000+5 * (i:Int)) % (mm:Int)),((n / 3000+5 * (i:Int)) % (mm:Int)).toNat,rfl,rfl,by rw [upd_ne nlb]; exact hl4,ixN_of e1 (by omega),?_⟩
     have hl5:(upd H4 b (.lst (ks.map V.int++[.int ((n / 3000+5 * (i:Int)) % (mm:Int))]))) l=some (.lst xs4):=by rw [upd_ne nlb]; exact hl4
     refine ⟨⟨_,_,_,rfl⟩,fun x o n1 n2 e=>by rw [upd_ne n1,upd_ne n2]; exact s4 x o n1 n2 e,_,ks++[((n / 3000+5 * (i:Int)) % (mm:Int))],upd_same,by rw [upd_ne (Ne.symm nlb),upd_same,List.map_append]; rfl,by rw [List.length_set]; exact xl4,by rw [List.length_append]; show ks.length+1≤i+1; omega,?_⟩
     have:=(ThAt.updL (ys:=xs4.set ((n / 3000+5 * (i:Int)) % (mm:Int)).toNat bad) hl5 (ThAt.updL (ys:=ks.map V.int++[.int ((n / 3000+5 * (i:Int)) % (mm:Int))]) hb4 th4)).put ((n / 3000+5 * (i:Int)) % (mm:Int)).toNat
     rw [Int.toNat_of_nonneg e1] at this
     exact this
    ·exact ⟨⟨_,_,_,rfl⟩,s4,xs4,ks,hl4,hb4,xl4,by omega,th4⟩
   ·rintro σ H4 ⟨⟨y,z,w,rfl⟩,s4,xs4,ks,hl4,hb4,xl4,kl4,th4⟩
    have s04:Same H H4:=fun x o e=>s4 x o (ne_of_none e nl) (ne_of_none e nb0) (s3 _ _ (s02 _ _ e))
    refine ⟨_,rfl,_,rfl,lenOk 2,fun t nt=>q t l b xs4 ks _ (s04.trans (Same.new nt)) upd_same nl nb0 (Same.new nt _ _ hl4) (Same.new nt _ _ hb4) (by omega) (th4.same (Same.new nt))⟩
theorem dat_ty {H:Hp}:∀ {d:D} {v:V},DAt H d v→Ty H v
 | .at u,v,h=>by rw [DAt] at h; obtain ⟨rfl,f⟩:=h; exact ty_flat f
 | .tup ds,v,h=>by rw [DAt] at h; obtain ⟨a,xs,rfl,e,_⟩:=h; exact ⟨_,ty_tup e⟩
 | .lst ds,v,h=>by rw [DAt] at h; obtain ⟨a,xs,rfl,e,_⟩:=h; exact ⟨_,ty_lst e⟩
theorem ths_off {α:Type} {R:Hp→V→Option α→Prop} {H:Hp} {ks:List Int}:∀ (xs:List V) (off:Nat),(∀ (i:Nat) v,xs[i]?=some v→∃ g,R H v g∧(g=none↔((off+i:Nat):Int)∈ks))→∃ gs,Ths R H xs gs∧∀ k:Nat,gs[k]?=some none↔k < gs.length∧((off+k:Nat):Int)∈ks
 | [],off,_=>⟨[],.nil,fun k=>⟨fun z=>(nomatch z),fun z=>absurd z.1 (Nat.not_lt_zero _)⟩⟩
 | x :: xs,off,h=>by
  obtain ⟨g,r,e⟩:=h 0 x rfl
  obtain ⟨gs,t,b⟩:=ths_off xs (off+1) fun i v hv=>by
   obtain ⟨g,r,e⟩:=h (i+1) v hv
   exact ⟨g,r,by rw [e,show off+(i+1)=off+1+i by omega]⟩
  refine ⟨g :: gs,.cons r t,fun k=>?_⟩
  cases k with
  | zero =>
   rw [List.getElem?_cons_zero]
   constructor
   ·intro z
    exact ⟨Nat.zero_lt_succ _,e.mp (Option.some.inj z)⟩
   ·intro z
    rw [e.mpr z.2]
  | succ k =>
   rw [List.getElem?_cons_succ,b k,List.length_cons,show off+(k+1)=off+1+k by omega]
   constructor
   ·rintro ⟨z1,z2⟩; exact ⟨by omega,z2⟩
   ·rintro ⟨z1,z2⟩; exact ⟨by omega,z2⟩
theorem ths_of {α:Type} {R:Hp→V→Option α→Prop} {H:Hp} {ks:List Int} {xs:List V} (h:∀ (i:Nat) v,xs[i]?=some v→∃ g,R H v g∧(g=none↔(i:Int)∈ks)):∃ gs,Ths R H xs gs∧BadAt gs ks:=by
 obtain ⟨gs,t,b⟩:=ths_off xs 0 fun i v hv=>by rw [Nat.zero_add]; exact h i v hv
 exact ⟨gs,t,fun k=>by have:=b k; rwa [Nat.zero_add] at this⟩
theorem want_ths {H:Hp} {bad:V} {x:Bool} {xs:List V} {ks:List Int} (hb:Bad wantB H bad) (h:ThAt H 6 [.bl x] bad xs ks):∃ gs,Ths WTh H xs gs∧BadAt gs ks:=ths_of fun i v hv=>by
 rcases h i v hv with ⟨m,rfl⟩ | ⟨m,a,p,q,e,ha,p1,q1⟩
 ·exact ⟨none,hb,fun _=>m,fun _=>rfl⟩
 ·exact ⟨some (p,q,x),⟨a,e,ha,by show 1≤p; omega,by show p≤12; omega,by show 1≤q; omega,by show q≤12; omega⟩,fun z=>(nomatch z),fun z=>absurd z m⟩
theorem sheet_ths {H:Hp} {bad:V} {xs:List V} {ks:List Int} (hb:Bad sheetB H bad) (h:ThAt H 12 [] bad xs ks):∃ gs,Ths STh H xs gs∧BadAt gs ks:=ths_of fun i v hv=>by
 rcases h i v hv with ⟨m,rfl⟩ | ⟨m,a,p,q,e,ha,p1,q1⟩
 ·exact ⟨none,hb,fun _=>m,fun _=>rfl⟩
 ·exact ⟨some (p,q),⟨a,e,ha,by show 1≤p; omega,by show p≤12; omega,by show 1≤q; omega,by show q≤12; omega⟩,fun z=>(nomatch z),fun z=>absurd z m⟩
theorem ths_all {H:Hp}:∀ (zs:List V),(∀ v∈zs,∃ t,WTh H v (some t))→∃ ws:List Want,Ths WTh H zs (ws.map some)
 | [],_=>⟨[],.nil⟩
 | z :: zs,h=>by
  obtain ⟨t,ht⟩:=h z List.mem_cons_self
  obtain ⟨ws,hw⟩:=ths_all zs fun v hv=>h v (List.mem_cons_of_mem _ hv)
  exact ⟨t :: ws,.cons ht hw⟩
structure Mid (H:Hp) (a kb sd b ob:Addr) (xs ys:List V) (gs:List (Option Want)) (hs:List (Option (Int × Int))) (ks os:List Int) (b0 v1 v2:V) (db:D):Prop where
 a1:H a=some (.lst xs)
 th:Ths WTh H xs gs
 few:xs.length≤7
 kb1:H kb=some (.lst (ks.map V.int))
 bad:BadAt gs ks
 sd1:H sd=some (.tup [v1,v2])
 sv1:SdOk v1
 sv2:SdOk v2
 b1:H b=some (.lst ys)
 sh:Ths STh H ys hs
 fewS:ys.length≤7
 ob1:H ob=some (.lst (os.map V.int))
 odd:BadAt hs os
 db1:DAt H db b0
 dd:dep db≤5
theorem Mid.same {H H':Hp} {a kb sd b ob:Addr} {xs ys:List V} {gs:List (Option Want)} {hs:List (Option (Int × Int))} {ks os:List Int} {b0 v1 v2:V} {db:D} (m:Mid H a kb sd b ob xs ys gs hs ks os b0 v1 v2 db) (s:Same H H'):Mid H' a kb sd b ob xs ys gs hs ks os b0 v1 v2 db :=
 ⟨s _ _ m.a1,m.th.mono fun v g k=>k.same s,m.few,s _ _ m.kb1,m.bad,s _ _ m.sd1,m.sv1,m.sv2,s _ _ m.b1,m.sh.mono (fun v g k=>k.same s),m.fewS,s _ _ m.ob1,m.odd,dat_same s db m.db1,m.dd⟩
theorem due_val {which:Int} {gs:List (Option Want)} {b0 v1 v2:V} {hs:List (Option (Int × Int))} {r:Rs} (h:dueC which gs b0 v1 v2 hs=some r):(∃ z:Int,rsV r=.int z)∨rsV r=v1∨rsV r=v2∨rsV r=b0:=by
 have W:∀ {r},dueW gs=some r→∃ z:Int,rsV r=.int z:=fun {r} h=>by
  unfold dueW at h
  split at h
  ·cases h; exact ⟨_,rfl⟩
  ·obtain ⟨k,_,rfl⟩:=Option.map_eq_some_iff.mp h; exact ⟨_,rfl⟩
 have S:∀ {r},dueS hs=some r→∃ z:Int,rsV r=.int z:=fun {r} h=>by
  unfold dueS at h
  split at h
  ·cases h; exact ⟨_,rfl⟩
  ·obtain ⟨k,_,rfl⟩:=Option.map_eq_some_iff.mp h; exact ⟨_,rfl⟩
 unfold dueC at h
 split at h
 ·exact .inl (W h)
 ·split at h
  ·unfold dueT at h
   rcases Option.or_eq_some_iff.mp h with h | ⟨_,h⟩
   ·exact .inl (W h)
   ·rcases Option.or_eq_some_iff.mp h with h | ⟨_,h⟩
    ·unfold dueD at h
     split at h
     ·split at h
      ·cases h
      ·cases h; exact .inr (.inr (.inl rfl))
     ·cases h; exact .inr (.inl rfl)
    ·unfold dueN at h
     split at h
     ·cases h
     ·cases h; exact .inr (.inr (.inr rfl))
  ·unfold dueP at h
   rcases Option.or_eq_some_iff.mp h with h | ⟨_,h⟩
   ·exact .inl (W h)
   ·exact .inl (S h)
theorem due_dat {H:Hp} {which:Int} {gs:List (Option Want)} {b0 v1 v2:V} {hs:List (Option (Int × Int))} {r:Rs} {db:D} (h:dueC which gs b0 v1 v2 hs=some r) (s1:SdOk v1) (s2:SdOk v2) (hd:DAt H db b0) (dd:dep db≤5):∃ d,DAt H d (rsV r)∧dep d≤5:=by
 have fl:∀ v:V,flatV v=true→∃ d,DAt H d v∧dep d≤5:=fun v fv=>⟨.at v,by rw [DAt]; exact ⟨rfl,fv⟩,by rw [dep]; omega⟩
 rcases due_val h with ⟨z,e⟩ | e | e | e
 ·rw [e]; exact fl _ rfl
 ·rw [e]; exact fl _ s1.1
 ·rw [e]; exact fl _ s2.1
 ·rw [e]; exact ⟨db,hd,dd⟩
def menuL:List V:=[.int 0,.int 13,.non,.str "3",.int 4,.int 5,.int 12,.int 1,.int 6,.int 2,.bl true,.int 7]
theorem menu_ok:∀ v∈menuL,flatV v=true∧(inV v noL || isBl v)=!sideV v:=by
 intro v hv
 simp only [menuL,List.mem_cons,List.not_mem_nil,or_false] at hv
 rcases hv with rfl | rfl | rfl | rfl | rfl | rfl | rfl | rfl | rfl | rfl | rfl | rfl <;> exact ⟨rfl,by decide +kernel⟩
theorem bits_dep:∀ i,i < 6→dep (dsBits.get i)≤5:=by
 intro i hi
 match i,hi with
 | 0,_=>decide +kernel
 | 1,_=>decide +kernel
 | 2,_=>decide +kernel
 | 3,_=>decide +kernel
 | 4,_=>decide +kernel
 | 5,_=>decide +kernel
theorem cut3 (xs:List V):(cutV xs none (some 3)).length≤3:=by
 unfold cutV
 rw [List.length_take]
 have:HT.sIx xs.length xs.length (some 3)=min 3 xs.length:=HT.sIx_nat _ _ 3
 omega
abbrev N_law:List Str:=["_law_script","_law_number","_law_many","_law_odd_want","_law_wants","_law_bad","_law_odd_sheet","_law_sheets","_law_odd","_law_bits","_law_side","_law_menu","_law_sides","_law_k","_law_which","_law_found","_law_good"]
theorem S_law:FnScope N_law ["_law_script"] (defScope s_law):=⟨rfl,rfl,rfl,by decide +kernel,rfl,by decide +kernel,by decide +kernel⟩
theorem ok_lawD {f:Addr} {cdv:Value} {A:Around} {outer:List Env} {s:Shared} {H:Hp} {E:XK} (hr:Room 13 (A.deeper (PyProof.Rows.envOfC "law" (defScope s_law) s.heap.objs.size f cdv))) (T:Txt mg t1 t2 t3 t4 t5 t6) {Q:VK} (k:∀ H',Q (.bl true) H') (D__law_caught:DefOk P w K mg base 13 "_law_caught" ["_law_which","_law_wants","_law_bits","_law_sides","_law_sheets"] (sp_caught cM cA cQ cN cD cS cP)) (D__law_told:DefOk P w K mg base 1 "_law_told" ["_law_caught_here"] (sp_told cM cA cQ cN cD cS cP)) :
  ∃ rd,PSs (cxOf CX0 P w K mg base N_law "law" (defScope s_law) f cdv A outer s H E).nox ((defBody s_law).drop 13) rd ∧
   ∀ (a kb sd b ob:Addr) (xs ys:List V) (gs:List (Option Want)) (hs:List (Option (Int × Int))) (ks os:List Int) (b0 v1 v2:V) (db:D) (x0 x1 x2 x3 x6 x9 x10 x11 x13 x14 x15 x16:Option V) (H1:Hp),Mid H1 a kb sd b ob xs ys gs hs ks os b0 v1 v2 db →
    rd { nx:=fun _ H'=>Q .non H',rt:=Q } [x0,x1,x2,x3,some (.ref a),some (.ref kb),x6,some (.ref b),some (.ref ob),x9,x10,x11,some (.ref sd),x13,x14,x15,x16] H1:=by
 have S:=S_law
 refine ⟨_,(pss_cons (ps_set (i:=16) S.nd rfl (Or.inl rfl) (pe_slice sl_list (pe_compF rfl (pi_range1 rfl T.z_range (pa_cons (pe_callB call_len_seq rfl T.z_len rfl (pa_cons (pv 4) pa_nil)) pa_nil)) (fun _ _ _ _ _=>(pg_name (i:=0) (show List.Nodup (["_law_k","_law_wants","_law_bad"]:List Str) from by decide +kernel) rfl (Or.inl rfl))) (fun _ _ _ _ _=>(pt_cmpR (op_notIn_seqK (K:=K)) (pv 0) (pv 2) rfl)) (fun _ _ _ _ _=>(pe_ix (ix_listK (K:=K)) (pv 1) (pv 0) (fun _ _=>rfl))) (N:=["_law_k","_law_wants","_law_bad"]) (fr:=[none,some 4,some 5])) po_none (po_some pe_int)))
   (pss_one (ps_ret (pe_cmpR op_isN (pe_fn D__law_told hr (pa_cons (pe_fn D__law_caught hr (pa_cons pe_int (pa_cons (pv 16) (pa_cons pe_int (pa_cons (pv 12) (pa_cons (pv 7) pa_nil)))))) pa_nil)) pe_non (nomark _))))),?_⟩
 intro a kb sd b ob xs ys gs hs ks os b0 v1 v2 db x0 x1 x2 x3 x6 x9 x10 x11 x13 x14 x15 x16 H1 m
 have a1:=m.a1
 have few:=m.few
 have el:=m.th.len
 refine ⟨_,rfl,a,_,rfl,.inl (SqL.of a1),_,rfl,by omega,by omega,fun acc na=>?_⟩
 rw [Int.toNat_natCast]
 refine comp_rangeF (lo:=0) (n:=xs.length) (fun i zs σ H'=>(∃ x,σ=[x,some (.ref a),some (.ref kb)])∧Same H1 H'∧∀ v∈zs,∃ t,WTh H1 v (some t)) ⟨⟨none,rfl⟩,Same.new na,fun v hv=>nomatch hv⟩ ?_ ?_
 ·rintro i zs σ H2 hi hl2 ha2 ⟨⟨x,rfl⟩,s2,hz⟩
  rw [Int.zero_add]
  refine ⟨_,rfl,_,rfl,kb,_,rfl,.inl (SqL.of (s2 _ _ m.kb1)),rfl,flat_ints ks,?_⟩
  rw [if_pos rfl,inV_ints]
  cases c:decide ((i:Int)∈ks) with
  | true=>exact ⟨false,rfl,fSk.mk hi hl2 ha2 ⟨⟨_,rfl⟩,s2,hz⟩⟩
  | false =>
   have hv:xs[i]?=some xs[i]:=List.getElem?_eq_getElem hi
   obtain ⟨g,hg,wt⟩:=m.th.get hv
   have gn:∃ t,g=some t:=by
    cases g with
    | some t=>exact ⟨t,rfl⟩
    | none=>exact absurd ((m.bad i).mp hg).2 (of_decide_eq_false c)
   obtain ⟨t,rfl⟩:=gn
   refine ⟨true,rfl,_,rfl,_,rfl,a,_,_,_,rfl,rfl,SqL.of (s2 _ _ a1),atI_nat hv,fNx.mk (Nat.le_of_lt (small1000 (by omega))) hi hl2 ha2 ⟨⟨_,rfl⟩,fun d o e=>by rw [upd_ne (ne_of_none e na)]; exact s2 d o e,fun v hv'=>?_⟩⟩
   rcases List.mem_append.mp hv' with hv' | hv'
   ·exact hz v hv'
   ·rw [List.mem_singleton.mp hv']; exact ⟨t,wt⟩
 ·rintro zs σ H2 hl2 ha2 ⟨_,s2,hz⟩
  refine ⟨3,rfl,acc,zs,rfl,SqL.of ha2,fun g ng=>?_⟩
  obtain ⟨ws,th⟩:=ths_all (H:=H1) (cutV zs none (some 3)) fun v hv=>hz v (by unfold cutV at hv; exact List.mem_of_mem_drop (List.mem_of_mem_take hv))
  have s3:Same H2 (upd H2 g (.lst (cutV zs none (some 3)))):=Same.new ng
  have hg3:(upd H2 g (.lst (cutV zs none (some 3)))) g=some (.lst (cutV zs none (some 3))):=upd_same
  generalize upd H2 g (.lst (cutV zs none (some 3)))=H3 at s3 hg3 ⊢
  have s13:=s2.trans s3
  have m3:=m.same s13
  have th3:Ths WTh H3 (cutV zs none (some 3)) (ws.map some):=th.mono fun v g k=>k.same s13
  have wl:ws.length≤3:=by
   have:=th3.len
   rw [List.length_map] at this
   have:=cut3 zs
   omega
  have dn:dueW (ws.map some)=none:=by
   unfold dueW
   rw [if_neg (by rw [List.length_map]; omega),fst0_none (fun j hj=>⟨_,by rw [List.getElem?_map,List.getElem?_eq_getElem (by rwa [List.length_map] at hj)]; rfl⟩)]; rfl
  have dc:∀ b0 v1 v2 hs,dueC 0 (ws.map some) b0 v1 v2 hs=none:=fun b0 v1 v2 hs=>by unfold dueC; rw [if_pos rfl,dn]
  refine ⟨_,rfl,_,rfl,_,rfl,0,g,sd,b,.int 0,v1,v2,_,ys,ws.map some,hs,rfl,hg3,th3,by rw [List.length_map]; omega,⟨_,rfl⟩,m3.sd1,ty_flat m.sv1.1,ty_flat m.sv2.1,m3.b1,m3.sh,by have:=m3.sh.len; have:=m.fewS; omega,fun r er=>?_,fun _ v o H4 s4 ca alt=>?_⟩
  ·rw [dc] at er; cases er
  ·exact ⟨v,rfl,.inl ⟨o,ca,alt,fun H5 s5=>⟨rfl,k H5⟩⟩⟩
theorem ok_lawC {f:Addr} {cdv:Value} {A:Around} {outer:List Env} {s:Shared} {H:Hp} {E:XK} (hr:Room 13 (A.deeper (PyProof.Rows.envOfC "law" (defScope s_law) s.heap.objs.size f cdv))) (T:Txt mg t1 t2 t3 t4 t5 t6) {Q:VK} (k:∀ H',Q (.bl true) H') (D__law_caught:DefOk P w K mg base 13 "_law_caught" ["_law_which","_law_wants","_law_bits","_law_sides","_law_sheets"] (sp_caught cM cA cQ cN cD cS cP)) (D__law_told:DefOk P w K mg base 1 "_law_told" ["_law_caught_here"] (sp_told cM cA cQ cN cD cS cP)) (D__law_due:DefOk P w K mg base 2 "_law_due" ["_law_which","_law_wants","_law_bad","_law_bits","_law_sides","_law_sheets","_law_odd"] (sp_due K)) :
  ∃ rd,PSs (cxOf CX0 P w K mg base N_law "law" (defScope s_law) f cdv A outer s H E).nox ((defBody s_law).drop 12) rd ∧
   ∀ (a kb sd b ob:Addr) (xs ys:List V) (gs:List (Option Want)) (hs:List (Option (Int × Int))) (ks os:List Int) (b0 v1 v2:V) (db:D) (x0 x1 x2 x3 x6 x11 x13 x14 x15 x16:Option V) (sdn:Int) (H1:Hp),Mid H1 a kb sd b ob xs ys gs hs ks os b0 v1 v2 db →
    rd { nx:=fun _ H'=>Q .non H',rt:=Q } [x0,x1,x2,x3,some (.ref a),some (.ref kb),x6,some (.ref b),some (.ref ob),some b0,some (.int sdn),x11,some (.ref sd),x13,x14,x15,x16] H1:=by
 have S:=S_law
 obtain ⟨tD,hD,kD⟩:=ok_lawD (outer:=outer) (H:=H) (E:=E) hr T k D__law_caught D__law_told
 refine ⟨_,(pss_cons (ps_for PassesOwn.never rfl (pi_range1 rfl T.z_range (pa_cons pe_int pa_nil)) (pg_name (i:=13) S.nd rfl (Or.inl rfl)) (pss_cons (ps_set (i:=14) S.nd rfl (Or.inl rfl) (pe_op op_mod (pe_op op_add (pe_op op_add (pe_op op_fdivL (pv 10) pe_int) (pv 13)) (pe_op op_mulL (pv 13) (pe_op op_mod (pe_op op_fdivL (pv 10) pe_int) pe_int))) pe_int))
   (pss_cons (ps_set (i:=15) S.nd rfl (Or.inl rfl) (pe_fn D__law_told hr (pa_cons (pe_fn D__law_caught hr (pa_cons (pv 14) (pa_cons (pe_callTy call_list_of rfl T.z_list rfl (pa_cons (pv 4) pa_nil)) (pa_cons (pv 9) (pa_cons (pv 12) (pa_cons (pe_callTy call_list_of rfl T.z_list rfl (pa_cons (pv 7) pa_nil)) pa_nil)))))) pa_nil)))
   (pss_one (ps_if (pt_cmpR (op_alt op_ne (op_neD hr)) (pv 15) (pe_fn D__law_due hr (pa_cons (pv 14) (pa_cons (pv 4) (pa_cons (pv 5) (pa_cons (pv 9) (pa_cons (pv 12) (pa_cons (pv 7) (pa_cons (pv 8) pa_nil)))))))) (nomark _)) (pss_one (ps_ret pe_bl)) pss_nil)))))
   hD),?_⟩
 intro a kb sd b ob xs ys gs hs ks os b0 v1 v2 db x0 x1 x2 x3 x6 x11 x13 x14 x15 x16 sdn H1 m
 refine ⟨2,rfl,by decide,by decide,for_range (lo:=0) (n:=2) (fun i σ H'=>(∃ x13 x14 x15,σ=[x0,x1,x2,x3,some (.ref a),some (.ref kb),x6,some (.ref b),some (.ref ob),some b0,some (.int sdn),x11,some (.ref sd),x13,x14,x15,x16])∧Same H1 H') ⟨⟨_,_,_,rfl⟩,Same.refl H1⟩ ?_ ?_⟩
 ·rintro i σ H2 hi ⟨⟨x13,x14,x15,rfl⟩,s2⟩
  rw [Int.zero_add]
  have e1:=Int.emod_nonneg (sdn / 256) (b:=3) (by decide)
  have e2:=Int.emod_lt_of_pos (sdn / 256) (b:=3) (by decide)
  have m2:=m.same s2
  refine ⟨_,rfl,_,_,rfl,rfl,divL _ (by decide) (by decide),_,rfl,_,_,rfl,rfl,_,rfl,_,rfl,_,_,rfl,rfl,divL _ (by decide) (by decide),_,_,rfl,rfl,(show (0:Int) < 3 from by decide),_,_,rfl,rfl,mul64 (by omega) (by omega) (by omega) (by omega),_,_,rfl,rfl,_,_,rfl,rfl,(show (0:Int) < 4 from by decide),?_⟩
  obtain ⟨which,ew⟩:∃ which:Int,which=((sdn / 64+(i:Int)+(i:Int) * (sdn / 256 % 3)) % 4):=⟨_,rfl⟩
  refine ⟨_,rfl,_,rfl,a,xs,rfl,.inl (SqL.of m2.a1),fun l nl=>?_⟩
  have s3:Same H2 (upd H2 l (.lst xs)):=Same.new nl
  have hl3:(upd H2 l (.lst xs)) l=some (.lst xs):=upd_same
  generalize upd H2 l (.lst xs)=H3 at s3 hl3 ⊢
  have m3:=m2.same s3
  refine ⟨_,rfl,_,rfl,_,rfl,b,ys,rfl,.inl (SqL.of m3.b1),fun l' nl'=>?_⟩
  have s4:Same H3 (upd H3 l' (.lst ys)):=Same.new nl'
  have hl4:(upd H3 l' (.lst ys)) l'=some (.lst ys):=upd_same
  generalize upd H3 l' (.lst ys)=H4 at s4 hl4 ⊢
  have m4:=m3.same s4
  have few:=m.few
  have fewS:=m.fewS
  have e3:=m.th.len
  have e4:=m.sh.len
  refine ⟨_,l,sd,l',b0,v1,v2,xs,ys,gs,hs,rfl,s4 _ _ hl3,m4.th,by omega,dat_ty m4.db1,m4.sd1,ty_flat m.sv1.1,ty_flat m.sv2.1,hl4,m4.sh,by omega,fun r er x dx H5 s5 xa hdx=>?_,fun er v o H5 s5 ca alt=>?_⟩
  ·refine ⟨_,rfl,.inr ⟨x,dx,r,rfl,xa,hdx,fun t H6 s6 ht=>?_⟩⟩
   have s46:=s5.trans s6
   have m6:=m4.same s46
   refine ⟨_,rfl,_,rfl,_,rfl,_,rfl,_,rfl,_,rfl,_,rfl,_,rfl,_,a,kb,sd,b,ob,b0,v1,v2,xs,ys,gs,hs,ks,os,rfl,m6.a1,e3,by omega,m6.kb1,m.bad,dat_ty m6.db1,m6.sd1,m.sv1,m.sv2,m6.b1,e4,by omega,m6.ob1,m.odd,fun v H7 s7 dv=>?_⟩
   rw [er] at dv
   obtain ⟨t',rfl,ht'⟩:=dv
   obtain ⟨d,hd,dd⟩:=due_dat er m.sv1 m.sv2 (m6.same s7).db1 m.dd
   have D1:∀ {t:Addr},H7 t=some (.tup [.str (rsW r),rsV r])→DIs K H7 (.tup (.cons (.at (.str (rsW r))) (.cons d .nil))) (.ref t):=fun {t} h=>dat_is _ (by
    rw [DAt]
    refine ⟨t,_,rfl,h,?_⟩
    rw [DAts]
    refine ⟨_,_,rfl,by rw [DAt]; exact ⟨rfl,rfl⟩,?_⟩
    rw [DAts]
    refine ⟨_,_,rfl,hd,by rw [DAts]⟩)
   refine .inr ⟨_,_,D1 (s7 _ _ ht),D1 ht',⟨_,rfl⟩,⟨_,rfl⟩,by rw [dep,deps,deps,deps,dep]; omega,_,rfl,iteN (by rw [if_pos rfl,deq_refl _ (D1 ht')]; rfl) ⟨⟨_,_,_,rfl⟩,s2.trans (s3.trans (s4.trans (s46.trans s7)))⟩⟩
  ·refine ⟨v,rfl,.inl ⟨o,ca,alt,fun H6 s6=>?_⟩⟩
   have s46:=s5.trans s6
   have m6:=m4.same s46
   refine ⟨_,rfl,_,rfl,_,rfl,_,rfl,_,rfl,_,rfl,_,rfl,_,rfl,_,a,kb,sd,b,ob,b0,v1,v2,xs,ys,gs,hs,ks,os,rfl,m6.a1,e3,by omega,m6.kb1,m.bad,dat_ty m6.db1,m6.sd1,m.sv1,m.sv2,m6.b1,e4,by omega,m6.ob1,m.odd,fun v H7 s7 dv=>?_⟩
   rw [er] at dv
   have dv:v=.non:=dv
   subst dv
   exact .inl ⟨rfl,_,rfl,iteN rfl ⟨⟨_,_,_,rfl⟩,s2.trans (s3.trans (s4.trans (s46.trans s7)))⟩⟩
 ·rintro σ H2 ⟨⟨x13,x14,x15,rfl⟩,s2⟩
  exact kD a kb sd b ob xs ys gs hs ks os b0 v1 v2 db _ _ _ _ _ _ _ _ _ _ _ _ H2 (m.same s2)
structure Pre (H:Hp) (a kb b ob:Addr) (xs ys:List V) (gs:List (Option Want)) (hs:List (Option (Int × Int))) (ks os:List Int):Prop where
 a1:H a=some (.lst xs)
 th:Ths WTh H xs gs
 few:xs.length≤7
 kb1:H kb=some (.lst (ks.map V.int))
 bad:BadAt gs ks
 b1:H b=some (.lst ys)
 sh:Ths STh H ys hs
 fewS:ys.length≤7
 ob1:H ob=some (.lst (os.map V.int))
 odd:BadAt hs os
theorem Pre.mid {H H':Hp} {a kb sd b ob:Addr} {xs ys:List V} {gs:List (Option Want)} {hs:List (Option (Int × Int))} {ks os:List Int} {b0 v1 v2:V} {db:D} (m:Pre H a kb b ob xs ys gs hs ks os) (s:Same H H') (sd1:H' sd=some (.tup [v1,v2])) (s1:SdOk v1) (s2:SdOk v2) (hd:DAt H' db b0) (dd:dep db≤5):Mid H' a kb sd b ob xs ys gs hs ks os b0 v1 v2 db :=
 ⟨s _ _ m.a1,m.th.mono fun v g k=>k.same s,m.few,s _ _ m.kb1,m.bad,sd1,s1,s2,s _ _ m.b1,m.sh.mono (fun v g k=>k.same s),m.fewS,s _ _ m.ob1,m.odd,hd,dd⟩
theorem ok_lawB {f:Addr} {cdv:Value} {A:Around} {outer:List Env} {s:Shared} {H:Hp} {E:XK} (hr:Room 13 (A.deeper (PyProof.Rows.envOfC "law" (defScope s_law) s.heap.objs.size f cdv))) (T:Txt mg t1 t2 t3 t4 t5 t6) {Q:VK} (k:∀ H',Q (.bl true) H') (D__law_caught:DefOk P w K mg base 13 "_law_caught" ["_law_which","_law_wants","_law_bits","_law_sides","_law_sheets"] (sp_caught cM cA cQ cN cD cS cP)) (D__law_told:DefOk P w K mg base 1 "_law_told" ["_law_caught_here"] (sp_told cM cA cQ cN cD cS cP)) (D__law_due:DefOk P w K mg base 2 "_law_due" ["_law_which","_law_wants","_law_bad","_law_bits","_law_sides","_law_sheets","_law_odd"] (sp_due K)) :
  ∃ rd,PSs (cxOf CX0 P w K mg base N_law "law" (defScope s_law) f cdv A outer s H E).nox ((defBody s_law).drop 9) rd ∧
   ∀ (a kb b ob:Addr) (xs ys:List V) (gs:List (Option Want)) (hs:List (Option (Int × Int))) (ks os:List Int) (x0 x1 x2 x3 x6 x11 x12 x13 x14 x15 x16:Option V) (bits sdn:Int) (H1:Hp),Pre H1 a kb b ob xs ys gs hs ks os →
    rd { nx:=fun _ H'=>Q .non H',rt:=Q } [x0,x1,x2,x3,some (.ref a),some (.ref kb),x6,some (.ref b),some (.ref ob),some (.int bits),some (.int sdn),x11,x12,x13,x14,x15,x16] H1:=by
 have S:=S_law
 obtain ⟨tC,hC,kC⟩:=ok_lawC (outer:=outer) (H:=H) (E:=E) hr T k D__law_caught D__law_told D__law_due
 obtain ⟨p1,p2,p3,es_dsMenu,heq_stL9,he_dsMenu,hl_dsMenu⟩:=stL9
 obtain ⟨p1,p2,p3,p4,p5,p6,p7,p8,p9,p10,p11,p12,p13,p14,p15,k1,k2,k3,k4,heq_stL10⟩:=stL10
 obtain ⟨p1,p2,p3,p4,p5,p6,p7,p8,p9,p10,p11,p12,p13,p14,p15,p16,p17,k1,k2,k3,k4,k5,es_dsBits,heq_stL11,he_dsBits,hl_dsBits⟩:=stL11
 rw [heq_stL9,heq_stL10,heq_stL11]
 refine ⟨_,(pss_cons (ps_set (i:=11) S.nd rfl (Or.inl rfl) (pe_litL (n:=4) (ds:=dsMenu) he_dsMenu hl_dsMenu))
   (pss_cons (ps_set (i:=12) S.nd rfl (Or.inl rfl) (pe_tup (pa_cons (pe_ix ix_list (pv 11) (pe_op op_mod (pv 10) pe_int) (fun _ _=>rfl)) (pa_cons (pe_ix ix_list (pv 11) (pe_op op_mod (pe_op op_fdivL (pv 10) pe_int) pe_int) (fun _ _=>rfl)) pa_nil))))
   (pss_cons (ps_if (pt_cmpR op_eq (pe_op op_mod (pe_op op_fdivL (pv 10) pe_int) pe_int) pe_int (nomark _)) (pss_one (ps_set (i:=9) S.nd rfl (Or.inl rfl) (pe_ix ix_list (pe_litL (n:=4) (ds:=dsBits) he_dsBits hl_dsBits) (pe_op op_mod (pe_op op_fdivL (pv 10) pe_int) pe_int) (fun _ _=>rfl)))) pss_nil)
   hC))),?_⟩
 intro a kb b ob xs ys gs hs ks os x0 x1 x2 x3 x6 x11 x12 x13 x14 x15 x16 bits sdn H1 m lm xm H2 s2 nm hm dm
 obtain ⟨rfl,_⟩:=flats _ (ys:=menuL) rfl dm
 obtain ⟨v1,hv1,m1⟩:=atI_in (L:=menuL) (i:=sdn % 12) (Int.emod_nonneg _ (by decide)) (Int.emod_lt_of_pos _ (by decide))
 obtain ⟨v2,hv2,m2⟩:=atI_in (L:=menuL) (i:=sdn / 12 % 12) (Int.emod_nonneg _ (by decide)) (Int.emod_lt_of_pos _ (by decide))
 refine ⟨_,rfl,_,rfl,_,_,rfl,rfl,(show (0:Int) < 12 from by decide),lm,_,_,v1,rfl,rfl,SqL.of hm,hv1,_,rfl,_,rfl,_,_,rfl,rfl,divL _ (by decide) (by decide),_,_,rfl,rfl,(show (0:Int) < 12 from by decide),lm,_,_,v2,rfl,rfl,SqL.of hm,hv2,lenOk 2,fun sd nsd=>?_⟩
 have s3:Same H2 (upd H2 sd (.tup [v1,v2])):=Same.new nsd
 have hsd:(upd H2 sd (.tup [v1,v2])) sd=some (.tup [v1,v2]):=upd_same
 generalize upd H2 sd (.tup [v1,v2])=H3 at s3 hsd ⊢
 have s13:=s2.trans s3
 refine ⟨_,rfl,_,_,rfl,rfl,divL _ (by decide) (by decide),_,_,rfl,rfl,(show (0:Int) < 4 from by decide),rfl,_,rfl,ite3 (fun c=>?_) (fun c=>?_)⟩
 ·intro lb xb H4 s4 nb hb db
  have e4:xb.length=6:=dats_len _ db
  obtain ⟨v,hv,mv⟩:=atI_in (L:=xb) (i:=sdn / 4000 % 6) (Int.emod_nonneg _ (by decide)) (by rw [e4]; exact Int.emod_lt_of_pos _ (by decide))
  obtain ⟨i,hi,da⟩:=dats_mem _ db v mv
  refine ⟨_,rfl,_,_,rfl,rfl,divL _ (by decide) (by decide),_,_,rfl,rfl,(show (0:Int) < 6 from by decide),lb,_,_,v,rfl,rfl,SqL.of hb,hv,?_⟩
  exact kC a kb sd b ob xs ys gs hs ks os v v1 v2 _ _ _ _ _ _ _ _ _ _ _ sdn H4 (m.mid (s13.trans s4) (s4 _ _ hsd) (menu_ok _ m1) (menu_ok _ m2) da (bits_dep i hi))
 ·exact kC a kb sd b ob xs ys gs hs ks os (.int bits) v1 v2 (.at (.int bits)) _ _ _ _ _ _ _ _ _ _ sdn H3 (m.mid s13 hsd (menu_ok _ m1) (menu_ok _ m2) (by rw [DAt]; exact ⟨rfl,rfl⟩) (by rw [dep]; omega))
theorem ok_lawA {f:Addr} {cdv:Value} {A:Around} {outer:List Env} {s:Shared} {H:Hp} {E:XK} (hr:Room 13 (A.deeper (PyProof.Rows.envOfC "law" (defScope s_law) s.heap.objs.size f cdv))) (T:Txt mg t1 t2 t3 t4 t5 t6) {Q:VK} (k:∀ H',Q (.bl true) H') (D__law_caught:DefOk P w K mg base 13 "_law_caught" ["_law_which","_law_wants","_law_bits","_law_sides","_law_sheets"] (sp_caught cM cA cQ cN cD cS cP)) (D__law_told:DefOk P w K mg base 1 "_law_told" ["_law_caught_here"] (sp_told cM cA cQ cN cD cS cP)) (D__law_due:DefOk P w K mg base 2 "_law_due" ["_law_which","_law_wants","_law_bad","_law_bits","_law_sides","_law_sheets","_law_odd"] (sp_due K)) (D__law_at:DefOk P w K mg base 1 "_law_at" ["_law_script","_law_k"] (sp_at K)) (D__law_knead:DefOk P w K mg base 1 "_law_knead" ["_law_number","_law_by"] sp_knead) (D__law_bad_want:DefOk P w K mg base 1 "_law_bad_want" ["_law_number"] sp_bw) (D__law_bad_sheet:DefOk P w K mg base 1 "_law_bad_sheet" ["_law_number"] sp_bs) (D__law_things:DefOk P w K mg base 2 "_law_things" ["_law_cell","_law_by","_law_many","_law_first_here","_law_second","_law_bad_one"] sp_things) :
  ∃ rd,PSs (cxOf CX0 P w K mg base N_law "law" (defScope s_law) f cdv A outer s H E).nox ((defBody s_law).drop 3) rd ∧
   ∀ (a0:Addr) (ns:List Int) (n many:Int) (H1:Hp),SqL K H1 a0 (ns.map V.int)→0≤many→many≤7 →
    rd { nx:=fun _ H'=>Q .non H',rt:=Q } [some (.ref a0),some (.int n),some (.int many),none,none,none,none,none,none,none,none,none,none,none,none,none,none] H1:=by
 have S:=S_law
 obtain ⟨tB,hB,kB⟩:=ok_lawB (outer:=outer) (H:=H) (E:=E) hr T k D__law_caught D__law_told D__law_due
 obtain ⟨p1,p2,p3,p4,p5,p6,p7,p8,p9,p10,p11,k1,k2,heq_stL3⟩:=stL3
 obtain ⟨p1,p2,p3,p4,p5,p6,p7,p8,p9,p10,p11,p12,p13,p14,p15,p16,p17,p18,p19,p20,k1,k2,k3,k4,k5,k6,k7,heq_stL4⟩:=stL4
 obtain ⟨p1,p2,p3,p4,p5,p6,p7,p8,p9,p10,p11,k1,k2,heq_stL5⟩:=stL5
 obtain ⟨p1,p2,p3,p4,p5,p6,p7,p8,p9,p10,p11,p12,p13,p14,p15,p16,p17,p18,p19,p20,p21,p22,p23,k1,k2,k3,k4,k5,k6,k7,k8,heq_stL6⟩:=stL6
 obtain ⟨p1,p2,p3,p4,p5,p6,p7,p8,p9,p10,p11,p12,p13,p14,p15,p16,p17,p18,p19,p20,k1,k2,k3,k4,k5,k6,heq_stL7⟩:=stL7
 obtain ⟨p1,p2,p3,p4,p5,p6,p7,p8,p9,k1,k2,heq_stL8⟩:=stL8
 rw [heq_stL3,heq_stL4,heq_stL5,heq_stL6,heq_stL7,heq_stL8]
 generalize (defBody s_law).drop 9=R9 at hB ⊢
 refine ⟨_,(pss_cons (ps_set (i:=3) S.nd rfl (Or.inl rfl) (pe_fn D__law_bad_want hr (pa_cons (pe_fn D__law_knead hr (pa_cons (pe_fn D__law_at hr (pa_cons (pv 0) (pa_cons pe_int pa_nil))) (pa_cons pe_int pa_nil))) pa_nil)))
   (pss_cons (ps_asg (pe_fn D__law_things hr (pa_cons (pe_fn D__law_at hr (pa_cons (pv 0) (pa_cons pe_int pa_nil))) (pa_cons pe_int (pa_cons (pv 2) (pa_cons pe_int (pa_cons (pe_tup (pa_cons (pe_cmpR op_eq (pe_op op_mod (pv 1) pe_int) pe_int (nomark _)) pa_nil)) (pa_cons (pv 3) pa_nil))))))) (pg_tup rfl (pgs_cons (pg_name (i:=4) S.nd rfl (Or.inr rfl)) (pgs_cons (pg_name (i:=5) S.nd rfl (Or.inr rfl)) pgs_nil))))
   (pss_cons (ps_set (i:=6) S.nd rfl (Or.inl rfl) (pe_fn D__law_bad_sheet hr (pa_cons (pe_fn D__law_knead hr (pa_cons (pe_fn D__law_at hr (pa_cons (pv 0) (pa_cons pe_int pa_nil))) (pa_cons pe_int pa_nil))) pa_nil)))
   (pss_cons (ps_asg (pe_fn D__law_things hr (pa_cons (pe_fn D__law_at hr (pa_cons (pv 0) (pa_cons pe_int pa_nil))) (pa_cons pe_int (pa_cons (pe_op op_mod (pe_fn D__law_knead hr (pa_cons (pe_fn D__law_at hr (pa_cons (pv 0) (pa_cons pe_int pa_nil))) (pa_cons pe_int pa_nil))) pe_int) (pa_cons pe_int (pa_cons (pe_tup pa_nil) (pa_cons (pv 6) pa_nil))))))) (pg_tup rfl (pgs_cons (pg_name (i:=7) S.nd rfl (Or.inl rfl)) (pgs_cons (pg_name (i:=8) S.nd rfl (Or.inl rfl)) pgs_nil))))
   (pss_cons (ps_set (i:=9) S.nd rfl (Or.inl rfl) (pe_op op_sub (pe_op op_mod (pe_fn D__law_knead hr (pa_cons (pe_fn D__law_at hr (pa_cons (pv 0) (pa_cons pe_int pa_nil))) (pa_cons pe_int pa_nil))) (pe_op op_add (pe_op op_shl pe_int (pe_callB (call_min2 rfl) rfl T.z_min rfl (pa_cons (pv 2) (pa_cons pe_int pa_nil)))) pe_int)) pe_int))
   (pss_cons (ps_set (i:=10) S.nd rfl (Or.inl rfl) (pe_fn D__law_knead hr (pa_cons (pe_fn D__law_at hr (pa_cons (pv 0) (pa_cons pe_int pa_nil))) (pa_cons pe_int pa_nil))))
   hB)))))),?_⟩
 intro a0 ns n many H1 hS m0 m7
 refine ⟨_,rfl,a0,ns,1,rfl,hS,by decide,by decide,fun z1 H2 s2=>⟨z1,2,rfl,by decide,by decide,fun r1 r10=>⟨r1,rfl,fun ow H3 s3 bw=>?_⟩⟩⟩
 have s13:=s2.trans s3
 refine ⟨_,rfl,a0,ns,2,rfl,s13.seq hS,by decide,by decide,fun z2 H4 s4=>⟨_,rfl,_,rfl,_,_,rfl,rfl,(show (0:Int) < 3 from by decide),rfl,lenOk 1,fun t nt=>⟨_,rfl,z2,3,many,6,t,_,ow,rfl,by decide,by decide,m0,m7,by decide,by decide,upd_same,Nat.le_refl 1,fun tt a kb xs ks H5 s5 htt na nkb ha hkb xl th=>?_⟩⟩⟩
 have s45:Same H4 H5:=(Same.new nt).trans s5
 have s15:=s13.trans (s4.trans s45)
 obtain ⟨gs,thW,bad⟩:=want_ths (bw.same (s4.trans s45)) th
 refine ⟨tt,_,rfl,SqT.of htt,rfl,_,_,rfl,_,_,rfl,rfl,?_⟩
 refine ⟨_,rfl,a0,ns,1,rfl,s15.seq hS,by decide,by decide,fun z3 H6 s6=>⟨z3,4,rfl,by decide,by decide,fun r2 r20=>⟨r2,rfl,fun os' H7 s7 bs=>?_⟩⟩⟩
 have s57:=s6.trans s7
 have s17:=s15.trans s57
 refine ⟨_,rfl,a0,ns,3,rfl,s17.seq hS,by decide,by decide,fun z4 H8 s8=>⟨_,rfl,a0,ns,4,rfl,(s17.trans s8).seq hS,by decide,by decide,fun z5 H9 s9=>⟨z5,6,rfl,by decide,by decide,fun r3 r30=>⟨_,_,rfl,rfl,(show (0:Int) < 6 from by decide),lenOk 0,fun t9 nt9=>⟨_,rfl,z4,5,r3 % 6,12,t9,[],os',rfl,by decide,by decide,Int.emod_nonneg _ (by decide),by have:=Int.emod_lt_of_pos r3 (b:=6) (by decide); omega,by decide,by decide,upd_same,by decide,fun tu b ob ys os H10 s10 htu nb nob hb hob yl th'=>?_⟩⟩⟩⟩⟩
 have s910:Same H9 H10:=(Same.new nt9).trans s10
 have s710:=s8.trans (s9.trans s910)
 obtain ⟨hs,thS,odd⟩:=sheet_ths (bs.same s710) th'
 refine ⟨tu,_,rfl,SqT.of htu,rfl,_,_,rfl,_,_,rfl,rfl,?_⟩
 have s110:=s17.trans s710
 have s510:=s57.trans s710
 refine ⟨_,rfl,a0,ns,4,rfl,s110.seq hS,by decide,by decide,fun z6 H11 s11=>⟨z6,7,rfl,by decide,by decide,fun r4 r40=>⟨_,rfl,many,6,rfl,_,_,rfl,rfl,⟨by split <;> omega,by split <;> omega,by decide⟩,_,_,rfl,rfl,_,_,rfl,rfl,?_,_,_,rfl,rfl,?_⟩⟩⟩
 ·have:=two_pow_nn (if (6:Int) < many then (6:Int) else many).toNat
  show (0:Int) < 1 * 2^(if (6:Int) < many then (6:Int) else many).toNat+3
  omega
 have s111:=s110.trans s11
 refine ⟨_,rfl,a0,ns,5,rfl,s111.seq hS,by decide,by decide,fun z7 H12 s12=>⟨z7,8,rfl,by decide,by decide,fun r5 r50=>?_⟩⟩
 have s512:=s510.trans (s11.trans s12)
 have s1012:=s11.trans s12
 have yl6:=Int.emod_lt_of_pos r3 (b:=6) (by decide)
 exact kB a kb b ob xs ys gs hs ks os _ _ _ _ _ _ _ _ _ _ _ _ r5 H12 ⟨s512 _ _ ha,thW.mono (fun v g k=>k.same s512),by omega,s512 _ _ hkb,bad,s1012 _ _ hb,thS.mono (fun v g k=>k.same s1012),by omega,s1012 _ _ hob,odd⟩
theorem ok_law {f:Addr} {fd:FuncData} (F:Fun K "law" "law" s_law f fd) (T:Txt mg t1 t2 t3 t4 t5 t6) (D__law_caught:DefOk P w K mg base 13 "_law_caught" ["_law_which","_law_wants","_law_bits","_law_sides","_law_sheets"] (sp_caught cM cA cQ cN cD cS cP)) (D__law_told:DefOk P w K mg base 1 "_law_told" ["_law_caught_here"] (sp_told cM cA cQ cN cD cS cP)) (D__law_due:DefOk P w K mg base 2 "_law_due" ["_law_which","_law_wants","_law_bad","_law_bits","_law_sides","_law_sheets","_law_odd"] (sp_due K)) (D__law_at:DefOk P w K mg base 1 "_law_at" ["_law_script","_law_k"] (sp_at K)) (D__law_knead:DefOk P w K mg base 1 "_law_knead" ["_law_number","_law_by"] sp_knead) (D__law_bad_want:DefOk P w K mg base 1 "_law_bad_want" ["_law_number"] sp_bw) (D__law_bad_sheet:DefOk P w K mg base 1 "_law_bad_sheet" ["_law_number"] sp_bs) (D__law_things:DefOk P w K mg base 2 "_law_things" ["_law_cell","_law_by","_law_many","_law_first_here","_law_second","_law_bad_one"] sp_things):FnOk P w K mg base CX0 14 f fd ["_law_script"] (sp_law K):=by
 have S:=S_law
 refine F.ok S (fun vs H Q E h=>?_) (fun cdv A outer s H vs Q E hr h=>?_)
 ·obtain ⟨a,ns,rfl,_⟩:=h; rfl
 ·obtain ⟨a0,ns,rfl,hS,few,q⟩:=h
  obtain ⟨tA,hA,kA⟩:=ok_lawA (outer:=outer) (s:=s) (H:=H) (E:=E) hr T q D__law_caught D__law_told D__law_due D__law_at D__law_knead D__law_bad_want D__law_bad_sheet D__law_things
  refine ⟨_,(pss_cons (ps_set (i:=1) S.nd rfl (Or.inl rfl) (pe_fn D__law_knead hr (pa_cons (pe_fn D__law_at hr (pa_cons (pv 0) (pa_cons pe_int pa_nil))) (pa_cons pe_int pa_nil))))
   (pss_cons (ps_set (i:=2) S.nd rfl (Or.inl rfl) (pe_ix ix_list (pe_lst (pa_cons (pe_op op_mod (pe_op op_fdivL (pv 1) pe_int) pe_int) (pa_cons (pe_op op_mod (pe_op op_fdivL (pv 1) pe_int) pe_int) (pa_cons pe_int (pa_cons pe_int pa_nil))))) (pe_op op_mod (pv 1) pe_int) (fun _ _=>rfl)))
   (pss_cons (ps_if (PW.pt (pw_and (pt_cmpR op_eq (pe_op op_mod (pv 1) pe_int) pe_int (nomark _)) (pw_and1 (pt_cmpR op_gt (pe_op op_mod (pe_op op_fdivL (pv 1) pe_int) pe_int) pe_int (nomark _))))) (pss_one (ps_set (i:=2) S.nd rfl (Or.inl rfl) pe_int)) pss_nil)
   hA))),?_⟩
  refine ⟨_,rfl,a0,ns,0,rfl,hS,by decide,by decide,fun z0 H1 s1=>⟨z0,1,rfl,by decide,by decide,fun n n0=>?_⟩⟩
  have e1:=Int.emod_nonneg (n / 7) (b:=4) (by decide)
  have e2:=Int.emod_lt_of_pos (n / 7) (b:=4) (by decide)
  obtain ⟨v,hv,mv⟩:=atI_in (L:=[V.int (n / 7 % 4),V.int (n / 7 % 4),V.int 6,V.int 7]) (i:=n % 4) (Int.emod_nonneg _ (by decide)) (Int.emod_lt_of_pos _ (by decide))
  obtain ⟨many,rfl,m0,m7⟩:∃ many:Int,v=.int many∧0≤many∧many≤7:=by
   simp only [List.mem_cons,List.not_mem_nil,or_false] at mv
   rcases mv with rfl | rfl | rfl | rfl
   ·exact ⟨_,rfl,e1,by omega⟩
   ·exact ⟨_,rfl,e1,by omega⟩
   ·exact ⟨_,rfl,by decide,by decide⟩
   ·exact ⟨_,rfl,by decide,by decide⟩
  refine ⟨_,rfl,_,_,rfl,rfl,divL _ (by decide) (by decide),_,_,rfl,rfl,(show (0:Int) < 4 from by decide),_,rfl,_,_,rfl,rfl,divL _ (by decide) (by decide),_,_,rfl,rfl,(show (0:Int) < 4 from by decide),lenOk 4,fun l nl=>⟨_,rfl,_,_,rfl,rfl,(show (0:Int) < 4 from by decide),l,_,_,_,rfl,rfl,SqL.of upd_same,hv,?_⟩⟩
  have s2:=s1.trans (Same.new (o:=.lst [V.int (n / 7 % 4),V.int (n / 7 % 4),V.int 6,V.int 7]) nl)
  refine ⟨_,rfl,_,_,rfl,rfl,(show (0:Int) < 4 from by decide),rfl,_,rfl,ite3 (fun c=>?_) (fun c=>?_)⟩
  ·refine ⟨_,rfl,_,_,rfl,rfl,divL _ (by decide) (by decide),_,_,rfl,rfl,(show (0:Int) < 4 from by decide),_,_,rfl,rfl,_,rfl,ite3 (fun c=>?_) (fun c=>?_)⟩
   ·exact kA a0 ns n 3 _ (s2.seq hS) (by decide) (by decide)
   ·exact kA a0 ns n many _ (s2.seq hS) m0 m7
  ·exact iteF (kA a0 ns n many _ (s2.seq hS) m0 m7)
theorem xfin {H H1:Hp} {Q:VK} {x d:Addr} {o1 o2:HO} {E1:HO} (hx:H x=some E1) (hd:H d=none):(upd (upd H d o1) x o2) x=some o2∧(upd (upd H d o1) x o2) d=some o1∧∀ a o,a≠x→H a=some o→(upd (upd H d o1) x o2) a=some o :=
 ⟨upd_same,by rw [upd_ne (Ne.symm (ne_of_none hx hd)),upd_same],fun a o ne e=>by rw [upd_ne ne,upd_ne (ne_of_none e hd)]; exact e⟩
theorem S_NoSide_init:FnScope ["self","side"] ["self","side"] (defScope s_NoSide_init):=⟨rfl,rfl,rfl,by decide +kernel,rfl,by decide +kernel,by decide +kernel⟩
theorem ok_NoSide_init {f:Addr} {fd:FuncData} (F:Fun K "__init__" "NoSide.__init__" s_NoSide_init f fd) (xc:XCls K cQ) (xn:NoAttr K cQ "side"):FnOk P w K mg base CX0 1 f fd ["self","side"] (sp_x cQ ["side"]):=by
 have S:=S_NoSide_init
 refine F.ok S (fun vs H Q E h=>?_) (fun cdv A outer s H vs Q E hr h=>?_)
 ·obtain ⟨x,ws,rfl,hl,_⟩:=h; rw [List.length_cons,hl]; rfl
 ·obtain ⟨x,ws,rfl,hl,hx,q⟩:=h
  obtain ⟨v0,rfl⟩:=len1 hl
  refine ⟨_,(pss_one (ps_xfld (pv 0) (pv 1) rfl)),?_⟩
  refine ⟨_,rfl,_,rfl,x,cQ,rfl,xc,xn,.inl ⟨hx,fun d hd=>?_⟩⟩
  obtain ⟨e1,e2,e3⟩:=xfin (H1:=H) (Q:=Q) (o1:=ExcD d [("side",v0)]) (o2:=ExcO cQ d x) hx hd
  exact q d _ hd e1 e2 e3
theorem S_TooMany_init:FnScope ["self","many"] ["self","many"] (defScope s_TooMany_init):=⟨rfl,rfl,rfl,by decide +kernel,rfl,by decide +kernel,by decide +kernel⟩
theorem ok_TooMany_init {f:Addr} {fd:FuncData} (F:Fun K "__init__" "TooMany.__init__" s_TooMany_init f fd) (xc:XCls K cM) (xn:NoAttr K cM "many"):FnOk P w K mg base CX0 1 f fd ["self","many"] (sp_x cM ["many"]):=by
 have S:=S_TooMany_init
 refine F.ok S (fun vs H Q E h=>?_) (fun cdv A outer s H vs Q E hr h=>?_)
 ·obtain ⟨x,ws,rfl,hl,_⟩:=h; rw [List.length_cons,hl]; rfl
 ·obtain ⟨x,ws,rfl,hl,hx,q⟩:=h
  obtain ⟨v0,rfl⟩:=len1 hl
  refine ⟨_,(pss_one (ps_xfld (pv 0) (pv 1) rfl)),?_⟩
  refine ⟨_,rfl,_,rfl,x,cM,rfl,xc,xn,.inl ⟨hx,fun d hd=>?_⟩⟩
  obtain ⟨e1,e2,e3⟩:=xfin (H1:=H) (Q:=Q) (o1:=ExcD d [("many",v0)]) (o2:=ExcO cM d x) hx hd
  exact q d _ hd e1 e2 e3
theorem S_NoNumber_init:FnScope ["self","number"] ["self","number"] (defScope s_NoNumber_init):=⟨rfl,rfl,rfl,by decide +kernel,rfl,by decide +kernel,by decide +kernel⟩
theorem ok_NoNumber_init {f:Addr} {fd:FuncData} (F:Fun K "__init__" "NoNumber.__init__" s_NoNumber_init f fd) (xc:XCls K cN) (xn:NoAttr K cN "number"):FnOk P w K mg base CX0 1 f fd ["self","number"] (sp_x cN ["number"]):=by
 have S:=S_NoNumber_init
 refine F.ok S (fun vs H Q E h=>?_) (fun cdv A outer s H vs Q E hr h=>?_)
 ·obtain ⟨x,ws,rfl,hl,_⟩:=h; rw [List.length_cons,hl]; rfl
 ·obtain ⟨x,ws,rfl,hl,hx,q⟩:=h
  obtain ⟨v0,rfl⟩:=len1 hl
  refine ⟨_,(pss_one (ps_xfld (pv 0) (pv 1) rfl)),?_⟩
  refine ⟨_,rfl,_,rfl,x,cN,rfl,xc,xn,.inl ⟨hx,fun d hd=>?_⟩⟩
  obtain ⟨e1,e2,e3⟩:=xfin (H1:=H) (Q:=Q) (o1:=ExcD d [("number",v0)]) (o2:=ExcO cN d x) hx hd
  exact q d _ hd e1 e2 e3
theorem S_NoWant_init:FnScope ["self","place"] ["self","place"] (defScope s_NoWant_init):=⟨rfl,rfl,rfl,by decide +kernel,rfl,by decide +kernel,by decide +kernel⟩
theorem ok_NoWant_init {f:Addr} {fd:FuncData} (F:Fun K "__init__" "NoWant.__init__" s_NoWant_init f fd) (xc:XCls K cA) (xn:NoAttr K cA "place"):FnOk P w K mg base CX0 1 f fd ["self","place"] (sp_x cA ["place"]):=by
 have S:=S_NoWant_init
 refine F.ok S (fun vs H Q E h=>?_) (fun cdv A outer s H vs Q E hr h=>?_)
 ·obtain ⟨x,ws,rfl,hl,_⟩:=h; rw [List.length_cons,hl]; rfl
 ·obtain ⟨x,ws,rfl,hl,hx,q⟩:=h
  obtain ⟨v0,rfl⟩:=len1 hl
  refine ⟨_,(pss_one (ps_xfld (pv 0) (pv 1) rfl)),?_⟩
  refine ⟨_,rfl,_,rfl,x,cA,rfl,xc,xn,.inl ⟨hx,fun d hd=>?_⟩⟩
  obtain ⟨e1,e2,e3⟩:=xfin (H1:=H) (Q:=Q) (o1:=ExcD d [("place",v0)]) (o2:=ExcO cA d x) hx hd
  exact q d _ hd e1 e2 e3
theorem S_NoSheet_init:FnScope ["self","place"] ["self","place"] (defScope s_NoSheet_init):=⟨rfl,rfl,rfl,by decide +kernel,rfl,by decide +kernel,by decide +kernel⟩
theorem ok_NoSheet_init {f:Addr} {fd:FuncData} (F:Fun K "__init__" "NoSheet.__init__" s_NoSheet_init f fd) (xc:XCls K cD) (xn:NoAttr K cD "place"):FnOk P w K mg base CX0 1 f fd ["self","place"] (sp_x cD ["place"]):=by
 have S:=S_NoSheet_init
 refine F.ok S (fun vs H Q E h=>?_) (fun cdv A outer s H vs Q E hr h=>?_)
 ·obtain ⟨x,ws,rfl,hl,_⟩:=h; rw [List.length_cons,hl]; rfl
 ·obtain ⟨x,ws,rfl,hl,hx,q⟩:=h
  obtain ⟨v0,rfl⟩:=len1 hl
  refine ⟨_,(pss_one (ps_xfld (pv 0) (pv 1) rfl)),?_⟩
  refine ⟨_,rfl,_,rfl,x,cD,rfl,xc,xn,.inl ⟨hx,fun d hd=>?_⟩⟩
  obtain ⟨e1,e2,e3⟩:=xfin (H1:=H) (Q:=Q) (o1:=ExcD d [("place",v0)]) (o2:=ExcO cD d x) hx hd
  exact q d _ hd e1 e2 e3
theorem S_NoSize_init:FnScope ["self","size"] ["self","size"] (defScope s_NoSize_init):=⟨rfl,rfl,rfl,by decide +kernel,rfl,by decide +kernel,by decide +kernel⟩
theorem ok_NoSize_init {f:Addr} {fd:FuncData} (F:Fun K "__init__" "NoSize.__init__" s_NoSize_init f fd) (xc:XCls K cS) (xn:NoAttr K cS "size"):FnOk P w K mg base CX0 1 f fd ["self","size"] (sp_x cS ["size"]):=by
 have S:=S_NoSize_init
 refine F.ok S (fun vs H Q E h=>?_) (fun cdv A outer s H vs Q E hr h=>?_)
 ·obtain ⟨x,ws,rfl,hl,_⟩:=h; rw [List.length_cons,hl]; rfl
 ·obtain ⟨x,ws,rfl,hl,hx,q⟩:=h
  obtain ⟨v0,rfl⟩:=len1 hl
  refine ⟨_,(pss_one (ps_xfld (pv 0) (pv 1) rfl)),?_⟩
  refine ⟨_,rfl,_,rfl,x,cS,rfl,xc,xn,.inl ⟨hx,fun d hd=>?_⟩⟩
  obtain ⟨e1,e2,e3⟩:=xfin (H1:=H) (Q:=Q) (o1:=ExcD d [("size",v0)]) (o2:=ExcO cS d x) hx hd
  exact q d _ hd e1 e2 e3
theorem S_NoPlan_init:FnScope ["self","want"] ["self","want"] (defScope s_NoPlan_init):=⟨rfl,rfl,rfl,by decide +kernel,rfl,by decide +kernel,by decide +kernel⟩
theorem ok_NoPlan_init {f:Addr} {fd:FuncData} (F:Fun K "__init__" "NoPlan.__init__" s_NoPlan_init f fd) (xc:XCls K cP) (xn:NoAttr K cP "want"):FnOk P w K mg base CX0 1 f fd ["self","want"] (sp_x cP ["want"]):=by
 have S:=S_NoPlan_init
 refine F.ok S (fun vs H Q E h=>?_) (fun cdv A outer s H vs Q E hr h=>?_)
 ·obtain ⟨x,ws,rfl,hl,_⟩:=h; rw [List.length_cons,hl]; rfl
 ·obtain ⟨x,ws,rfl,hl,hx,q⟩:=h
  obtain ⟨v0,rfl⟩:=len1 hl
  refine ⟨_,(pss_one (ps_xfld (pv 0) (pv 1) rfl)),?_⟩
  refine ⟨_,rfl,_,rfl,x,cP,rfl,xc,xn,.inl ⟨hx,fun d hd=>?_⟩⟩
  obtain ⟨e1,e2,e3⟩:=xfin (H1:=H) (Q:=Q) (o1:=ExcD d [("want",v0)]) (o2:=ExcO cP d x) hx hd
  exact q d _ hd e1 e2 e3
def icB (K:PySem.W.Frag) (C:Addr):Bool:=PySem.W.plainGet K C Str.empty && (PySem.W.hasDictIn K C && (PySem.W.plainOver K C && ((PySem.W.findIn K (.ref C) "__setattr__" == some (some (.builtin "object.__setattr__"))) && ((PySem.W.findIn K (.ref C) "__class__" == some (some (.builtin "object.__class__"))) &&
 ((PySem.W.specialIn K (.builtin "object.__class__") "__get__" == some (some (.builtin "getset_descriptor.__get__"))) && ((PySem.W.takesIn K (.builtin "object.__class__") == some true) && ((PySem.W.mroIn K C (.type "object") == some true) && (PySem.W.makesIn K C && PySem.W.keepIn K (.ref C)))))))))
theorem icB_of {C:Addr} (h:icB K C=true):ICls K C∧PySem.W.makesIn K C=true∧PySem.W.keepIn K (.ref C)=true:=by
 unfold icB at h
 simp only [Bool.and_eq_true,beq_iff_eq] at h
 obtain ⟨a,b,c,d,e,f,g,i,j,l⟩:=h
 exact ⟨⟨⟨a,b,c,d⟩,e,f,g,i⟩,j,l⟩
def kitB (K:PySem.W.Frag) (cT cW cU cL:Addr):Bool:=([(cW,"mark"),(cU,"at"),(cU,"first"),(cU,"other"),(cL,"at"),(cL,"first"),(cL,"other")]:List (Addr × Str)).all (fun p=>PySem.W.findIn K (.ref p.1) p.2 == some none) &&
 ([(cW,cW,true),(cW,cU,false),(cW,cL,false),(cU,cW,false),(cL,cW,false),(cU,cU,true),(cU,cL,false),(cL,cU,false),(cL,cL,true),(cW,cT,true),(cU,cT,true),(cL,cT,true)]:List (Addr × Addr × Bool)).all (fun p=>PySem.W.kitOne K (.ref p.1) (.ref p.2.1) == some p.2.2)
theorem rt_of (h:kitB K cT cW cU cL=true) (iW:ICls K cW) (iU:ICls K cU) (iL:ICls K cL) (gT:mg "Tree"=some (.ref cT)) (gW:mg "Whole"=some (.ref cW)) (gU:mg "Upright"=some (.ref cU)) (gL:mg "Level"=some (.ref cL)):RT mg K cT cW cU cL:=by
 unfold kitB at h
 rw [Bool.and_eq_true,List.all_eq_true,List.all_eq_true] at h
 obtain ⟨h1,h2⟩:=h
 have f1:∀ p∈([(cW,"mark"),(cU,"at"),(cU,"first"),(cU,"other"),(cL,"at"),(cL,"first"),(cL,"other")]:List (Addr × Str)),PySem.W.findIn K (.ref p.1) p.2=some none:=fun p hp=>beq_iff_eq.mp (h1 p hp)
 have f2:∀ p∈([(cW,cW,true),(cW,cU,false),(cW,cL,false),(cU,cW,false),(cL,cW,false),(cU,cU,true),(cU,cL,false),(cL,cU,false),(cL,cL,true),(cW,cT,true),(cU,cT,true),(cL,cT,true)]:List (Addr × Addr × Bool)),PySem.W.kitOne K (.ref p.1) (.ref p.2.1)=some p.2.2:=fun p hp=>beq_iff_eq.mp (h2 p hp)
 simp only [List.forall_mem_cons,List.not_mem_nil,false_implies,implies_true,and_true] at f1 f2
 obtain ⟨a1,a2,a3,a4,a5,a6,a7⟩:=f1
 obtain ⟨k1,k2,k3,k4,k5,k6,k7,k8,k9,k10,k11,k12⟩:=f2
 refine ⟨gT,gW,gU,gL,iW,?_,a1,?_,?_,?_,k1,?_,?_,?_,k10,?_⟩
 ·intro u; cases u; exact iL; exact iU
 ·intro u; cases u; exact a5; exact a2
 ·intro u; cases u; exact a6; exact a3
 ·intro u; cases u; exact a7; exact a4
 ·intro u; cases u; exact k3; exact k2
 ·intro u; cases u; exact k5; exact k4
 ·intro u v; cases u <;> cases v; exact k9; exact k8; exact k7; exact k6
 ·intro u; cases u; exact k12; exact k11
theorem lone_of {us:List Value} {d:Value} (h:(us++[d]).length=2):∃ u,us=[u]:=by
 rw [List.length_append,List.length_singleton] at h
 exact len1 (by omega)
end
theorem len6 {α:Type} {us:List α} (h:us.length=6):∃ a b c d e f,us=[a,b,c,d,e,f]:=by
 match us,h with
 | [a,b,c,d,e,f],_=>exact ⟨a,b,c,d,e,f,rfl⟩
theorem len7 {α:Type} {us:List α} (h:us.length=7):∃ a b c d e f g,us=[a,b,c,d,e,f,g]:=by
 match us,h with
 | [a,b,c,d,e,f,g],_=>exact ⟨a,b,c,d,e,f,g,rfl⟩
theorem fn_none {P:Program} {w:World} {K:PySem.W.Frag} {mg:Str→Option Value} {base:Heap} {f:Addr} {fd:FuncData} {x qual:Str} {st:Stmt} {N ps:List Str} {k:Nat} {sp:Sp} (F:Fun K x qual st f fd) (S:FnScope N ps (defScope st)) (h:∀ vs H Q E,¬ sp vs H Q E):FnOk P w K mg base CX0 (k+1) f fd ps sp :=
 F.ok S (fun vs H Q E z=>absurd z (h vs H Q E)) (fun cdv A outer s H vs Q E hr z=>absurd z (h vs H Q E))
theorem all_mk {l:PySem.W.OpenLaw} {w:World} {K:PySem.W.Frag} {h:Heap} {mg:Str→Option Value} {fa:Addr} (X:K.In h) (G:h.Ns mainGlobals mg) (hfa:mg "law"=some (.ref fa))
  {cT:Addr} (aT:PySem.W.nsIn K mainGlobals "Tree"=some (some (.ref cT)))
  {cW:Addr} (aC_cW:PySem.W.nsIn K mainGlobals "Whole"=some (some (.ref cW))) (ic_cW:icB K cW=true)
  {f_cW:Addr} {od_cW an_cW:Option Addr} {sl_cW:Array (Option Value)} {oc_cW kV_cW dc_cW pm_cW cd_cW ct_cW:Value} {T_cW:Addr} {to_cW:Value} {td_cW:Option Addr} {ts_cW:Array (Option Value)} {ti_cW:Array Value} {tn_cW:Nat} (a_cWcW:PySem.W.findIn K (.ref cW) "__init__"=some (some (.ref f_cW))) (i_cW:PySem.W.isFn K (.ref f_cW)=true) (l_cW:K.lookup f_cW=some ⟨oc_cW,od_cW,.func (PySem.W.fnOf "__init__" "Whole.__init__" (defArgs s_Whole_init) (defBody s_Whole_init) (defScope s_Whole_init) (.ref T_cW) kV_cW dc_cW pm_cW an_cW cd_cW ct_cW),sl_cW⟩) (cc_cW:PySem.W.codeIn K cd_cW "Whole.__init__"=true) (k_cW:PySem.W.keepIn K (.ref f_cW)=true) (lT_cW:K.lookup T_cW=some ⟨to_cW,td_cW,.seq ti_cW tn_cW,ts_cW⟩) (eT_cW:ti_cW=#[.none])
  {cU:Addr} (aC_cU:PySem.W.nsIn K mainGlobals "Upright"=some (some (.ref cU))) (ic_cU:icB K cU=true)
  {f_cU:Addr} {od_cU an_cU:Option Addr} {sl_cU:Array (Option Value)} {oc_cU kV_cU dc_cU pm_cU cd_cU ct_cU:Value} (a_cUcU:PySem.W.findIn K (.ref cU) "__init__"=some (some (.ref f_cU))) (i_cU:PySem.W.isFn K (.ref f_cU)=true) (l_cU:K.lookup f_cU=some ⟨oc_cU,od_cU,.func (PySem.W.fnOf "__init__" "Upright.__init__" (defArgs s_Upright_init) (defBody s_Upright_init) (defScope s_Upright_init) .none kV_cU dc_cU pm_cU an_cU cd_cU ct_cU),sl_cU⟩) (cc_cU:PySem.W.codeIn K cd_cU "Upright.__init__"=true) (k_cU:PySem.W.keepIn K (.ref f_cU)=true)
  {cL:Addr} (aC_cL:PySem.W.nsIn K mainGlobals "Level"=some (some (.ref cL))) (ic_cL:icB K cL=true)
  {f_cL:Addr} {od_cL an_cL:Option Addr} {sl_cL:Array (Option Value)} {oc_cL kV_cL dc_cL pm_cL cd_cL ct_cL:Value} (a_cLcL:PySem.W.findIn K (.ref cL) "__init__"=some (some (.ref f_cL))) (i_cL:PySem.W.isFn K (.ref f_cL)=true) (l_cL:K.lookup f_cL=some ⟨oc_cL,od_cL,.func (PySem.W.fnOf "__init__" "Level.__init__" (defArgs s_Level_init) (defBody s_Level_init) (defScope s_Level_init) .none kV_cL dc_cL pm_cL an_cL cd_cL ct_cL),sl_cL⟩) (cc_cL:PySem.W.codeIn K cd_cL "Level.__init__"=true) (k_cL:PySem.W.keepIn K (.ref f_cL)=true)
  (kit:kitB K cT cW cU cL=true)
  {cG:Addr} (aG:PySem.W.nsIn K mainGlobals "GlassError"=some (some (.ref cG))) (eG:PySem.W.excIn K cG vErr "ValueError.__new__"=true)
  {cQ:Addr} (aC_cQ:PySem.W.nsIn K mainGlobals "NoSide"=some (some (.ref cQ))) (kC_cQ:PySem.W.keepIn K (.ref cQ)=true) (nC_cQ:PySem.W.findIn K (.ref cQ) "side"=some none)
  {f_cQ:Addr} {od_cQ an_cQ:Option Addr} {sl_cQ:Array (Option Value)} {oc_cQ kV_cQ dc_cQ pm_cQ cd_cQ ct_cQ:Value} (a_cQcQ:PySem.W.findIn K (.ref cQ) "__init__"=some (some (.ref f_cQ))) (i_cQ:PySem.W.isFn K (.ref f_cQ)=true) (l_cQ:K.lookup f_cQ=some ⟨oc_cQ,od_cQ,.func (PySem.W.fnOf "__init__" "NoSide.__init__" (defArgs s_NoSide_init) (defBody s_NoSide_init) (defScope s_NoSide_init) .none kV_cQ dc_cQ pm_cQ an_cQ cd_cQ ct_cQ),sl_cQ⟩) (cc_cQ:PySem.W.codeIn K cd_cQ "NoSide.__init__"=true) (k_cQ:PySem.W.keepIn K (.ref f_cQ)=true)
  (ei_cQ:excInI K cQ f_cQ=true) (xc_cQ:xclsB K cQ=true) (xm_cQ:PySem.W.mroIn K cQ (.ref cG)=some true)
  {cM:Addr} (aC_cM:PySem.W.nsIn K mainGlobals "TooMany"=some (some (.ref cM))) (kC_cM:PySem.W.keepIn K (.ref cM)=true) (nC_cM:PySem.W.findIn K (.ref cM) "many"=some none)
  {f_cM:Addr} {od_cM an_cM:Option Addr} {sl_cM:Array (Option Value)} {oc_cM kV_cM dc_cM pm_cM cd_cM ct_cM:Value} (a_cMcM:PySem.W.findIn K (.ref cM) "__init__"=some (some (.ref f_cM))) (i_cM:PySem.W.isFn K (.ref f_cM)=true) (l_cM:K.lookup f_cM=some ⟨oc_cM,od_cM,.func (PySem.W.fnOf "__init__" "TooMany.__init__" (defArgs s_TooMany_init) (defBody s_TooMany_init) (defScope s_TooMany_init) .none kV_cM dc_cM pm_cM an_cM cd_cM ct_cM),sl_cM⟩) (cc_cM:PySem.W.codeIn K cd_cM "TooMany.__init__"=true) (k_cM:PySem.W.keepIn K (.ref f_cM)=true)
  (ei_cM:excInI K cM f_cM=true) (xc_cM:xclsB K cM=true) (xm_cM:PySem.W.mroIn K cM (.ref cG)=some true)
  {cN:Addr} (aC_cN:PySem.W.nsIn K mainGlobals "NoNumber"=some (some (.ref cN))) (kC_cN:PySem.W.keepIn K (.ref cN)=true) (nC_cN:PySem.W.findIn K (.ref cN) "number"=some none)
  {f_cN:Addr} {od_cN an_cN:Option Addr} {sl_cN:Array (Option Value)} {oc_cN kV_cN dc_cN pm_cN cd_cN ct_cN:Value} (a_cNcN:PySem.W.findIn K (.ref cN) "__init__"=some (some (.ref f_cN))) (i_cN:PySem.W.isFn K (.ref f_cN)=true) (l_cN:K.lookup f_cN=some ⟨oc_cN,od_cN,.func (PySem.W.fnOf "__init__" "NoNumber.__init__" (defArgs s_NoNumber_init) (defBody s_NoNumber_init) (defScope s_NoNumber_init) .none kV_cN dc_cN pm_cN an_cN cd_cN ct_cN),sl_cN⟩) (cc_cN:PySem.W.codeIn K cd_cN "NoNumber.__init__"=true) (k_cN:PySem.W.keepIn K (.ref f_cN)=true)
  (ei_cN:excInI K cN f_cN=true) (xc_cN:xclsB K cN=true) (xm_cN:PySem.W.mroIn K cN (.ref cG)=some true)
  {cA:Addr} (aC_cA:PySem.W.nsIn K mainGlobals "NoWant"=some (some (.ref cA))) (kC_cA:PySem.W.keepIn K (.ref cA)=true) (nC_cA:PySem.W.findIn K (.ref cA) "place"=some none)
  {f_cA:Addr} {od_cA an_cA:Option Addr} {sl_cA:Array (Option Value)} {oc_cA kV_cA dc_cA pm_cA cd_cA ct_cA:Value} (a_cAcA:PySem.W.findIn K (.ref cA) "__init__"=some (some (.ref f_cA))) (i_cA:PySem.W.isFn K (.ref f_cA)=true) (l_cA:K.lookup f_cA=some ⟨oc_cA,od_cA,.func (PySem.W.fnOf "__init__" "NoWant.__init__" (defArgs s_NoWant_init) (defBody s_NoWant_init) (defScope s_NoWant_init) .none kV_cA dc_cA pm_cA an_cA cd_cA ct_cA),sl_cA⟩) (cc_cA:PySem.W.codeIn K cd_cA "NoWant.__init__"=true) (k_cA:PySem.W.keepIn K (.ref f_cA)=true)
  (ei_cA:excInI K cA f_cA=true) (xc_cA:xclsB K cA=true) (xm_cA:PySem.W.mroIn K cA (.ref cG)=some true)
  {cD:Addr} (aC_cD:PySem.W.nsIn K mainGlobals "NoSheet"=some (some (.ref cD))) (kC_cD:PySem.W.keepIn K (.ref cD)=true) (nC_cD:PySem.W.findIn K (.ref cD) "place"=some none)
  {f_cD:Addr} {od_cD an_cD:Option Addr} {sl_cD:Array (Option Value)} {oc_cD kV_cD dc_cD pm_cD cd_cD ct_cD:Value} (a_cDcD:PySem.W.findIn K (.ref cD) "__init__"=some (some (.ref f_cD))) (i_cD:PySem.W.isFn K (.ref f_cD)=true) (l_cD:K.lookup f_cD=some ⟨oc_cD,od_cD,.func (PySem.W.fnOf "__init__" "NoSheet.__init__" (defArgs s_NoSheet_init) (defBody s_NoSheet_init) (defScope s_NoSheet_init) .none kV_cD dc_cD pm_cD an_cD cd_cD ct_cD),sl_cD⟩) (cc_cD:PySem.W.codeIn K cd_cD "NoSheet.__init__"=true) (k_cD:PySem.W.keepIn K (.ref f_cD)=true)
  (ei_cD:excInI K cD f_cD=true) (xc_cD:xclsB K cD=true) (xm_cD:PySem.W.mroIn K cD (.ref cG)=some true)
  {cS:Addr} (aC_cS:PySem.W.nsIn K mainGlobals "NoSize"=some (some (.ref cS))) (kC_cS:PySem.W.keepIn K (.ref cS)=true) (nC_cS:PySem.W.findIn K (.ref cS) "size"=some none)
  {f_cS:Addr} {od_cS an_cS:Option Addr} {sl_cS:Array (Option Value)} {oc_cS kV_cS dc_cS pm_cS cd_cS ct_cS:Value} (a_cScS:PySem.W.findIn K (.ref cS) "__init__"=some (some (.ref f_cS))) (i_cS:PySem.W.isFn K (.ref f_cS)=true) (l_cS:K.lookup f_cS=some ⟨oc_cS,od_cS,.func (PySem.W.fnOf "__init__" "NoSize.__init__" (defArgs s_NoSize_init) (defBody s_NoSize_init) (defScope s_NoSize_init) .none kV_cS dc_cS pm_cS an_cS cd_cS ct_cS),sl_cS⟩) (cc_cS:PySem.W.codeIn K cd_cS "NoSize.__init__"=true) (k_cS:PySem.W.keepIn K (.ref f_cS)=true)
  (ei_cS:excInI K cS f_cS=true) (xc_cS:xclsB K cS=true) (xm_cS:PySem.W.mroIn K cS (.ref cG)=some true)
  {cP:Addr} (aC_cP:PySem.W.nsIn K mainGlobals "NoPlan"=some (some (.ref cP))) (kC_cP:PySem.W.keepIn K (.ref cP)=true) (nC_cP:PySem.W.findIn K (.ref cP) "want"=some none)
  {f_cP:Addr} {od_cP an_cP:Option Addr} {sl_cP:Array (Option Value)} {oc_cP kV_cP dc_cP pm_cP cd_cP ct_cP:Value} (a_cPcP:PySem.W.findIn K (.ref cP) "__init__"=some (some (.ref f_cP))) (i_cP:PySem.W.isFn K (.ref f_cP)=true) (l_cP:K.lookup f_cP=some ⟨oc_cP,od_cP,.func (PySem.W.fnOf "__init__" "NoPlan.__init__" (defArgs s_NoPlan_init) (defBody s_NoPlan_init) (defScope s_NoPlan_init) .none kV_cP dc_cP pm_cP an_cP cd_cP ct_cP),sl_cP⟩) (cc_cP:PySem.W.codeIn K cd_cP "NoPlan.__init__"=true) (k_cP:PySem.W.keepIn K (.ref f_cP)=true)
  (ei_cP:excInI K cP f_cP=true) (xc_cP:xclsB K cP=true) (xm_cP:PySem.W.mroIn K cP (.ref cG)=some true)
  (ktC:kitC K cM cA cQ cN cD cS cP=true)
  {f0:Addr} {od0 an0:Option Addr} {sl0:Array (Option Value)} {oc0 kV0 dc0 pm0 cd0 ct0:Value} (a0:PySem.W.nsIn K mainGlobals "is_whole"=some (some (.ref f0))) (l0:K.lookup f0=some ⟨oc0,od0,.func (PySem.W.fnOf "is_whole" "is_whole" (defArgs s_is_whole) (defBody s_is_whole) (defScope s_is_whole) .none kV0 dc0 pm0 an0 cd0 ct0),sl0⟩) (cc0:PySem.W.codeIn K cd0 "is_whole"=true) (k0:PySem.W.keepIn K (.ref f0)=true)
  {f1:Addr} {od1 an1:Option Addr} {sl1:Array (Option Value)} {oc1 kV1 dc1 pm1 cd1 ct1:Value} (a1:PySem.W.nsIn K mainGlobals "is_side"=some (some (.ref f1))) (l1:K.lookup f1=some ⟨oc1,od1,.func (PySem.W.fnOf "is_side" "is_side" (defArgs s_is_side) (defBody s_is_side) (defScope s_is_side) .none kV1 dc1 pm1 an1 cd1 ct1),sl1⟩) (cc1:PySem.W.codeIn K cd1 "is_side"=true) (k1:PySem.W.keepIn K (.ref f1)=true)
  {f2:Addr} {od2 an2:Option Addr} {sl2:Array (Option Value)} {oc2 kV2 dc2 pm2 cd2 ct2:Value} (a2:PySem.W.nsIn K mainGlobals "check_sides"=some (some (.ref f2))) (l2:K.lookup f2=some ⟨oc2,od2,.func (PySem.W.fnOf "check_sides" "check_sides" (defArgs s_check_sides) (defBody s_check_sides) (defScope s_check_sides) .none kV2 dc2 pm2 an2 cd2 ct2),sl2⟩) (cc2:PySem.W.codeIn K cd2 "check_sides"=true) (k2:PySem.W.keepIn K (.ref f2)=true)
  {f3:Addr} {od3 an3:Option Addr} {sl3:Array (Option Value)} {oc3 kV3 dc3 pm3 cd3 ct3:Value} (a3:PySem.W.nsIn K mainGlobals "cut_from"=some (some (.ref f3))) (l3:K.lookup f3=some ⟨oc3,od3,.func (PySem.W.fnOf "cut_from" "cut_from" (defArgs s_cut_from) (defBody s_cut_from) (defScope s_cut_from) .none kV3 dc3 pm3 an3 cd3 ct3),sl3⟩) (cc3:PySem.W.codeIn K cd3 "cut_from"=true) (k3:PySem.W.keepIn K (.ref f3)=true)
  {f4:Addr} {od4 an4:Option Addr} {sl4:Array (Option Value)} {oc4 kV4 dc4 pm4 cd4 ct4:Value} (a4:PySem.W.nsIn K mainGlobals "is_want"=some (some (.ref f4))) (l4:K.lookup f4=some ⟨oc4,od4,.func (PySem.W.fnOf "is_want" "is_want" (defArgs s_is_want) (defBody s_is_want) (defScope s_is_want) .none kV4 dc4 pm4 an4 cd4 ct4),sl4⟩) (cc4:PySem.W.codeIn K cd4 "is_want"=true) (k4:PySem.W.keepIn K (.ref f4)=true)
  {f5:Addr} {od5 an5:Option Addr} {sl5:Array (Option Value)} {oc5 kV5 dc5 pm5 cd5 ct5:Value} (a5:PySem.W.nsIn K mainGlobals "check_wants"=some (some (.ref f5))) (l5:K.lookup f5=some ⟨oc5,od5,.func (PySem.W.fnOf "check_wants" "check_wants" (defArgs s_check_wants) (defBody s_check_wants) (defScope s_check_wants) .none kV5 dc5 pm5 an5 cd5 ct5),sl5⟩) (cc5:PySem.W.codeIn K cd5 "check_wants"=true) (k5:PySem.W.keepIn K (.ref f5)=true)
  {f6:Addr} {od6 an6:Option Addr} {sl6:Array (Option Value)} {oc6 kV6 dc6 pm6 cd6 ct6:Value} (a6:PySem.W.nsIn K mainGlobals "ways_to_lie"=some (some (.ref f6))) (l6:K.lookup f6=some ⟨oc6,od6,.func (PySem.W.fnOf "ways_to_lie" "ways_to_lie" (defArgs s_ways_to_lie) (defBody s_ways_to_lie) (defScope s_ways_to_lie) .none kV6 dc6 pm6 an6 cd6 ct6),sl6⟩) (cc6:PySem.W.codeIn K cd6 "ways_to_lie"=true) (k6:PySem.W.keepIn K (.ref f6)=true)
  {f7:Addr} {od7 an7:Option Addr} {sl7:Array (Option Value)} {oc7 kV7 dc7 pm7 cd7 ct7:Value} (a7:PySem.W.nsIn K mainGlobals "ways_held"=some (some (.ref f7))) (l7:K.lookup f7=some ⟨oc7,od7,.func (PySem.W.fnOf "ways_held" "ways_held" (defArgs s_ways_held) (defBody s_ways_held) (defScope s_ways_held) .none kV7 dc7 pm7 an7 cd7 ct7),sl7⟩) (cc7:PySem.W.codeIn K cd7 "ways_held"=true) (k7:PySem.W.keepIn K (.ref f7)=true)
  {f8:Addr} {od8 an8:Option Addr} {sl8:Array (Option Value)} {oc8 kV8 dc8 pm8 cd8 ct8:Value} (a8:PySem.W.nsIn K mainGlobals "is_alone"=some (some (.ref f8))) (l8:K.lookup f8=some ⟨oc8,od8,.func (PySem.W.fnOf "is_alone" "is_alone" (defArgs s_is_alone) (defBody s_is_alone) (defScope s_is_alone) .none kV8 dc8 pm8 an8 cd8 ct8),sl8⟩) (cc8:PySem.W.codeIn K cd8 "is_alone"=true) (k8:PySem.W.keepIn K (.ref f8)=true)
  {f9:Addr} {od9 an9:Option Addr} {sl9:Array (Option Value)} {oc9 kV9 dc9 pm9 cd9 ct9:Value} (a9:PySem.W.nsIn K mainGlobals "number_alone"=some (some (.ref f9))) (l9:K.lookup f9=some ⟨oc9,od9,.func (PySem.W.fnOf "number_alone" "number_alone" (defArgs s_number_alone) (defBody s_number_alone) (defScope s_number_alone) .none kV9 dc9 pm9 an9 cd9 ct9),sl9⟩) (cc9:PySem.W.codeIn K cd9 "number_alone"=true) (k9:PySem.W.keepIn K (.ref f9)=true)
  {f10:Addr} {od10 an10:Option Addr} {sl10:Array (Option Value)} {oc10 kV10 dc10 pm10 cd10 ct10:Value} (a10:PySem.W.nsIn K mainGlobals "all_parts"=some (some (.ref f10))) (l10:K.lookup f10=some ⟨oc10,od10,.func (PySem.W.fnOf "all_parts" "all_parts" (defArgs s_all_parts) (defBody s_all_parts) (defScope s_all_parts) .none kV10 dc10 pm10 an10 cd10 ct10),sl10⟩) (cc10:PySem.W.codeIn K cd10 "all_parts"=true) (k10:PySem.W.keepIn K (.ref f10)=true)
  {f11:Addr} {od11 an11:Option Addr} {sl11:Array (Option Value)} {oc11 kV11 dc11 pm11 cd11 ct11:Value} (a11:PySem.W.nsIn K mainGlobals "parts_with_least"=some (some (.ref f11))) (l11:K.lookup f11=some ⟨oc11,od11,.func (PySem.W.fnOf "parts_with_least" "parts_with_least" (defArgs s_parts_with_least) (defBody s_parts_with_least) (defScope s_parts_with_least) .none kV11 dc11 pm11 an11 cd11 ct11),sl11⟩) (cc11:PySem.W.codeIn K cd11 "parts_with_least"=true) (k11:PySem.W.keepIn K (.ref f11)=true)
  {f12:Addr} {od12 an12:Option Addr} {sl12:Array (Option Value)} {oc12 kV12 dc12 pm12 cd12 ct12:Value} (a12:PySem.W.nsIn K mainGlobals "cuts_to"=some (some (.ref f12))) (l12:K.lookup f12=some ⟨oc12,od12,.func (PySem.W.fnOf "cuts_to" "cuts_to" (defArgs s_cuts_to) (defBody s_cuts_to) (defScope s_cuts_to) .none kV12 dc12 pm12 an12 cd12 ct12),sl12⟩) (cc12:PySem.W.codeIn K cd12 "cuts_to"=true) (k12:PySem.W.keepIn K (.ref f12)=true)
  {f13:Addr} {od13 an13:Option Addr} {sl13:Array (Option Value)} {oc13 kV13 dc13 pm13 cd13 ct13:Value} (a13:PySem.W.nsIn K mainGlobals "least_height"=some (some (.ref f13))) (l13:K.lookup f13=some ⟨oc13,od13,.func (PySem.W.fnOf "least_height" "least_height" (defArgs s_least_height) (defBody s_least_height) (defScope s_least_height) .none kV13 dc13 pm13 an13 cd13 ct13),sl13⟩) (cc13:PySem.W.codeIn K cd13 "least_height"=true) (k13:PySem.W.keepIn K (.ref f13)=true)
  {f14:Addr} {od14 an14:Option Addr} {sl14:Array (Option Value)} {oc14 kV14 dc14 pm14 cd14 ct14:Value} (a14:PySem.W.nsIn K mainGlobals "heights_of_parts"=some (some (.ref f14))) (l14:K.lookup f14=some ⟨oc14,od14,.func (PySem.W.fnOf "heights_of_parts" "heights_of_parts" (defArgs s_heights_of_parts) (defBody s_heights_of_parts) (defScope s_heights_of_parts) .none kV14 dc14 pm14 an14 cd14 ct14),sl14⟩) (cc14:PySem.W.codeIn K cd14 "heights_of_parts"=true) (k14:PySem.W.keepIn K (.ref f14)=true)
  {f15:Addr} {od15 an15:Option Addr} {sl15:Array (Option Value)} {oc15 kV15 dc15 pm15 cd15 ct15:Value} (a15:PySem.W.nsIn K mainGlobals "stair"=some (some (.ref f15))) (l15:K.lookup f15=some ⟨oc15,od15,.func (PySem.W.fnOf "stair" "stair" (defArgs s_stair) (defBody s_stair) (defScope s_stair) .none kV15 dc15 pm15 an15 cd15 ct15),sl15⟩) (cc15:PySem.W.codeIn K cd15 "stair"=true) (k15:PySem.W.keepIn K (.ref f15)=true)
  {f16:Addr} {od16 an16:Option Addr} {sl16:Array (Option Value)} {oc16 kV16 dc16 pm16 cd16 ct16:Value} (a16:PySem.W.nsIn K mainGlobals "all_bits"=some (some (.ref f16))) (l16:K.lookup f16=some ⟨oc16,od16,.func (PySem.W.fnOf "all_bits" "all_bits" (defArgs s_all_bits) (defBody s_all_bits) (defScope s_all_bits) .none kV16 dc16 pm16 an16 cd16 ct16),sl16⟩) (cc16:PySem.W.codeIn K cd16 "all_bits"=true) (k16:PySem.W.keepIn K (.ref f16)=true)
  {f17:Addr} {od17 an17:Option Addr} {sl17:Array (Option Value)} {oc17 kV17 dc17 pm17 cd17 ct17:Value} (a17:PySem.W.nsIn K mainGlobals "stairs"=some (some (.ref f17))) (l17:K.lookup f17=some ⟨oc17,od17,.func (PySem.W.fnOf "stairs" "stairs" (defArgs s_stairs) (defBody s_stairs) (defScope s_stairs) .none kV17 dc17 pm17 an17 cd17 ct17),sl17⟩) (cc17:PySem.W.codeIn K cd17 "stairs"=true) (k17:PySem.W.keepIn K (.ref f17)=true)
  {f18:Addr} {od18 an18:Option Addr} {sl18:Array (Option Value)} {oc18 kV18 dc18 pm18 cd18 ct18:Value} (a18:PySem.W.nsIn K mainGlobals "cut_off"=some (some (.ref f18))) (l18:K.lookup f18=some ⟨oc18,od18,.func (PySem.W.fnOf "cut_off" "cut_off" (defArgs s_cut_off) (defBody s_cut_off) (defScope s_cut_off) .none kV18 dc18 pm18 an18 cd18 ct18),sl18⟩) (cc18:PySem.W.codeIn K cd18 "cut_off"=true) (k18:PySem.W.keepIn K (.ref f18)=true)
  {f19:Addr} {od19 an19:Option Addr} {sl19:Array (Option Value)} {oc19 kV19 dc19 pm19 cd19 ct19:Value} (a19:PySem.W.nsIn K mainGlobals "tree_alone"=some (some (.ref f19))) (l19:K.lookup f19=some ⟨oc19,od19,.func (PySem.W.fnOf "tree_alone" "tree_alone" (defArgs s_tree_alone) (defBody s_tree_alone) (defScope s_tree_alone) .none kV19 dc19 pm19 an19 cd19 ct19),sl19⟩) (cc19:PySem.W.codeIn K cd19 "tree_alone"=true) (k19:PySem.W.keepIn K (.ref f19)=true)
  {f20:Addr} {od20 an20:Option Addr} {sl20:Array (Option Value)} {oc20 kV20 dc20 pm20 cd20 ct20:Value} (a20:PySem.W.nsIn K mainGlobals "tree_for"=some (some (.ref f20))) (l20:K.lookup f20=some ⟨oc20,od20,.func (PySem.W.fnOf "tree_for" "tree_for" (defArgs s_tree_for) (defBody s_tree_for) (defScope s_tree_for) .none kV20 dc20 pm20 an20 cd20 ct20),sl20⟩) (cc20:PySem.W.codeIn K cd20 "tree_for"=true) (k20:PySem.W.keepIn K (.ref f20)=true)
  {f21:Addr} {od21 an21:Option Addr} {sl21:Array (Option Value)} {oc21 kV21 dc21 pm21 cd21 ct21:Value} (a21:PySem.W.nsIn K mainGlobals "stair_tree"=some (some (.ref f21))) (l21:K.lookup f21=some ⟨oc21,od21,.func (PySem.W.fnOf "stair_tree" "stair_tree" (defArgs s_stair_tree) (defBody s_stair_tree) (defScope s_stair_tree) .none kV21 dc21 pm21 an21 cd21 ct21),sl21⟩) (cc21:PySem.W.codeIn K cd21 "stair_tree"=true) (k21:PySem.W.keepIn K (.ref f21)=true)
  {f22:Addr} {od22 an22:Option Addr} {sl22:Array (Option Value)} {oc22 kV22 dc22 pm22 cd22 ct22:Value} (a22:PySem.W.nsIn K mainGlobals "is_sheet"=some (some (.ref f22))) (l22:K.lookup f22=some ⟨oc22,od22,.func (PySem.W.fnOf "is_sheet" "is_sheet" (defArgs s_is_sheet) (defBody s_is_sheet) (defScope s_is_sheet) .none kV22 dc22 pm22 an22 cd22 ct22),sl22⟩) (cc22:PySem.W.codeIn K cd22 "is_sheet"=true) (k22:PySem.W.keepIn K (.ref f22)=true)
  {f23:Addr} {od23 an23:Option Addr} {sl23:Array (Option Value)} {oc23 kV23 dc23 pm23 cd23 ct23:Value} (a23:PySem.W.nsIn K mainGlobals "check_sheets"=some (some (.ref f23))) (l23:K.lookup f23=some ⟨oc23,od23,.func (PySem.W.fnOf "check_sheets" "check_sheets" (defArgs s_check_sheets) (defBody s_check_sheets) (defScope s_check_sheets) .none kV23 dc23 pm23 an23 cd23 ct23),sl23⟩) (cc23:PySem.W.codeIn K cd23 "check_sheets"=true) (k23:PySem.W.keepIn K (.ref f23)=true)
  {f24:Addr} {od24 an24:Option Addr} {sl24:Array (Option Value)} {oc24 kV24 dc24 pm24 cd24 ct24:Value} (a24:PySem.W.nsIn K mainGlobals "heights_for"=some (some (.ref f24))) (l24:K.lookup f24=some ⟨oc24,od24,.func (PySem.W.fnOf "heights_for" "heights_for" (defArgs s_heights_for) (defBody s_heights_for) (defScope s_heights_for) .none kV24 dc24 pm24 an24 cd24 ct24),sl24⟩) (cc24:PySem.W.codeIn K cd24 "heights_for"=true) (k24:PySem.W.keepIn K (.ref f24)=true)
  {f25:Addr} {od25 an25:Option Addr} {sl25:Array (Option Value)} {oc25 kV25 dc25 pm25 cd25 ct25:Value} (a25:PySem.W.nsIn K mainGlobals "cheapest_sheets"=some (some (.ref f25))) (l25:K.lookup f25=some ⟨oc25,od25,.func (PySem.W.fnOf "cheapest_sheets" "cheapest_sheets" (defArgs s_cheapest_sheets) (defBody s_cheapest_sheets) (defScope s_cheapest_sheets) .none kV25 dc25 pm25 an25 cd25 ct25),sl25⟩) (cc25:PySem.W.codeIn K cd25 "cheapest_sheets"=true) (k25:PySem.W.keepIn K (.ref f25)=true)
  {f26:Addr} {od26 an26:Option Addr} {sl26:Array (Option Value)} {oc26 kV26 dc26 pm26 cd26 ct26:Value} (a26:PySem.W.nsIn K mainGlobals "first_sheets"=some (some (.ref f26))) (l26:K.lookup f26=some ⟨oc26,od26,.func (PySem.W.fnOf "first_sheets" "first_sheets" (defArgs s_first_sheets) (defBody s_first_sheets) (defScope s_first_sheets) .none kV26 dc26 pm26 an26 cd26 ct26),sl26⟩) (cc26:PySem.W.codeIn K cd26 "first_sheets"=true) (k26:PySem.W.keepIn K (.ref f26)=true)
  {f27:Addr} {od27 an27:Option Addr} {sl27:Array (Option Value)} {oc27 kV27 dc27 pm27 cd27 ct27:Value} (a27:PySem.W.nsIn K mainGlobals "glass_by_set"=some (some (.ref f27))) (l27:K.lookup f27=some ⟨oc27,od27,.func (PySem.W.fnOf "glass_by_set" "glass_by_set" (defArgs s_glass_by_set) (defBody s_glass_by_set) (defScope s_glass_by_set) .none kV27 dc27 pm27 an27 cd27 ct27),sl27⟩) (cc27:PySem.W.codeIn K cd27 "glass_by_set"=true) (k27:PySem.W.keepIn K (.ref f27)=true)
  {f28:Addr} {od28 an28:Option Addr} {sl28:Array (Option Value)} {oc28 kV28 dc28 pm28 cd28 ct28:Value} (a28:PySem.W.nsIn K mainGlobals "least_glass"=some (some (.ref f28))) (l28:K.lookup f28=some ⟨oc28,od28,.func (PySem.W.fnOf "least_glass" "least_glass" (defArgs s_least_glass) (defBody s_least_glass) (defScope s_least_glass) .none kV28 dc28 pm28 an28 cd28 ct28),sl28⟩) (cc28:PySem.W.codeIn K cd28 "least_glass"=true) (k28:PySem.W.keepIn K (.ref f28)=true)
  {f29:Addr} {od29 an29:Option Addr} {sl29:Array (Option Value)} {oc29 kV29 dc29 pm29 cd29 ct29:Value} (a29:PySem.W.nsIn K mainGlobals "check_served"=some (some (.ref f29))) (l29:K.lookup f29=some ⟨oc29,od29,.func (PySem.W.fnOf "check_served" "check_served" (defArgs s_check_served) (defBody s_check_served) (defScope s_check_served) .none kV29 dc29 pm29 an29 cd29 ct29),sl29⟩) (cc29:PySem.W.codeIn K cd29 "check_served"=true) (k29:PySem.W.keepIn K (.ref f29)=true)
  {f30:Addr} {od30 an30:Option Addr} {sl30:Array (Option Value)} {oc30 kV30 dc30 pm30 cd30 ct30:Value} (a30:PySem.W.nsIn K mainGlobals "plan"=some (some (.ref f30))) (l30:K.lookup f30=some ⟨oc30,od30,.func (PySem.W.fnOf "plan" "plan" (defArgs s_plan) (defBody s_plan) (defScope s_plan) .none kV30 dc30 pm30 an30 cd30 ct30),sl30⟩) (cc30:PySem.W.codeIn K cd30 "plan"=true) (k30:PySem.W.keepIn K (.ref f30)=true)
  {f31:Addr} {od31 an31:Option Addr} {sl31:Array (Option Value)} {oc31 kV31 dc31 pm31 cd31 ct31:Value} (a31:PySem.W.nsIn K mainGlobals "_law_at"=some (some (.ref f31))) (l31:K.lookup f31=some ⟨oc31,od31,.func (PySem.W.fnOf "_law_at" "_law_at" (defArgs s__law_at) (defBody s__law_at) (defScope s__law_at) .none kV31 dc31 pm31 an31 cd31 ct31),sl31⟩) (cc31:PySem.W.codeIn K cd31 "_law_at"=true) (k31:PySem.W.keepIn K (.ref f31)=true)
  {f32:Addr} {od32 an32:Option Addr} {sl32:Array (Option Value)} {oc32 kV32 dc32 pm32 cd32 ct32:Value} (a32:PySem.W.nsIn K mainGlobals "_law_knead"=some (some (.ref f32))) (l32:K.lookup f32=some ⟨oc32,od32,.func (PySem.W.fnOf "_law_knead" "_law_knead" (defArgs s__law_knead) (defBody s__law_knead) (defScope s__law_knead) .none kV32 dc32 pm32 an32 cd32 ct32),sl32⟩) (cc32:PySem.W.codeIn K cd32 "_law_knead"=true) (k32:PySem.W.keepIn K (.ref f32)=true)
  {f33:Addr} {od33 an33:Option Addr} {sl33:Array (Option Value)} {oc33 kV33 dc33 pm33 cd33 ct33:Value} (a33:PySem.W.nsIn K mainGlobals "_law_bad_want"=some (some (.ref f33))) (l33:K.lookup f33=some ⟨oc33,od33,.func (PySem.W.fnOf "_law_bad_want" "_law_bad_want" (defArgs s__law_bad_want) (defBody s__law_bad_want) (defScope s__law_bad_want) .none kV33 dc33 pm33 an33 cd33 ct33),sl33⟩) (cc33:PySem.W.codeIn K cd33 "_law_bad_want"=true) (k33:PySem.W.keepIn K (.ref f33)=true)
  {f34:Addr} {od34 an34:Option Addr} {sl34:Array (Option Value)} {oc34 kV34 dc34 pm34 cd34 ct34:Value} (a34:PySem.W.nsIn K mainGlobals "_law_bad_sheet"=some (some (.ref f34))) (l34:K.lookup f34=some ⟨oc34,od34,.func (PySem.W.fnOf "_law_bad_sheet" "_law_bad_sheet" (defArgs s__law_bad_sheet) (defBody s__law_bad_sheet) (defScope s__law_bad_sheet) .none kV34 dc34 pm34 an34 cd34 ct34),sl34⟩) (cc34:PySem.W.codeIn K cd34 "_law_bad_sheet"=true) (k34:PySem.W.keepIn K (.ref f34)=true)
  {f35:Addr} {od35 an35:Option Addr} {sl35:Array (Option Value)} {oc35 kV35 dc35 pm35 cd35 ct35:Value} (a35:PySem.W.nsIn K mainGlobals "_law_caught"=some (some (.ref f35))) (l35:K.lookup f35=some ⟨oc35,od35,.func (PySem.W.fnOf "_law_caught" "_law_caught" (defArgs s__law_caught) (defBody s__law_caught) (defScope s__law_caught) .none kV35 dc35 pm35 an35 cd35 ct35),sl35⟩) (cc35:PySem.W.codeIn K cd35 "_law_caught"=true) (k35:PySem.W.keepIn K (.ref f35)=true)
  {f36:Addr} {od36 an36:Option Addr} {sl36:Array (Option Value)} {oc36 kV36 dc36 pm36 cd36 ct36:Value} (a36:PySem.W.nsIn K mainGlobals "_law_told"=some (some (.ref f36))) (l36:K.lookup f36=some ⟨oc36,od36,.func (PySem.W.fnOf "_law_told" "_law_told" (defArgs s__law_told) (defBody s__law_told) (defScope s__law_told) .none kV36 dc36 pm36 an36 cd36 ct36),sl36⟩) (cc36:PySem.W.codeIn K cd36 "_law_told"=true) (k36:PySem.W.keepIn K (.ref f36)=true)
  {f37:Addr} {od37 an37:Option Addr} {sl37:Array (Option Value)} {oc37 kV37 dc37 pm37 cd37 ct37:Value} (a37:PySem.W.nsIn K mainGlobals "_law_first"=some (some (.ref f37))) (l37:K.lookup f37=some ⟨oc37,od37,.func (PySem.W.fnOf "_law_first" "_law_first" (defArgs s__law_first) (defBody s__law_first) (defScope s__law_first) .none kV37 dc37 pm37 an37 cd37 ct37),sl37⟩) (cc37:PySem.W.codeIn K cd37 "_law_first"=true) (k37:PySem.W.keepIn K (.ref f37)=true)
  {f38:Addr} {od38 an38:Option Addr} {sl38:Array (Option Value)} {oc38 kV38 dc38 pm38 cd38 ct38:Value} (a38:PySem.W.nsIn K mainGlobals "_law_due"=some (some (.ref f38))) (l38:K.lookup f38=some ⟨oc38,od38,.func (PySem.W.fnOf "_law_due" "_law_due" (defArgs s__law_due) (defBody s__law_due) (defScope s__law_due) .none kV38 dc38 pm38 an38 cd38 ct38),sl38⟩) (cc38:PySem.W.codeIn K cd38 "_law_due"=true) (k38:PySem.W.keepIn K (.ref f38)=true)
  {f39:Addr} {od39 an39:Option Addr} {sl39:Array (Option Value)} {oc39 kV39 dc39 pm39 cd39 ct39:Value} (a39:PySem.W.nsIn K mainGlobals "_law_things"=some (some (.ref f39))) (l39:K.lookup f39=some ⟨oc39,od39,.func (PySem.W.fnOf "_law_things" "_law_things" (defArgs s__law_things) (defBody s__law_things) (defScope s__law_things) .none kV39 dc39 pm39 an39 cd39 ct39),sl39⟩) (cc39:PySem.W.codeIn K cd39 "_law_things"=true) (k39:PySem.W.keepIn K (.ref f39)=true)
  {f40:Addr} {od40 an40:Option Addr} {sl40:Array (Option Value)} {oc40 kV40 dc40 pm40 cd40 ct40:Value} (a40:PySem.W.nsIn K mainGlobals "law"=some (some (.ref f40))) (l40:K.lookup f40=some ⟨oc40,od40,.func (PySem.W.fnOf "law" "law" (defArgs s_law) (defBody s_law) (defScope s_law) .none kV40 dc40 pm40 an40 cd40 ct40),sl40⟩) (cc40:PySem.W.codeIn K cd40 "law"=true) (k40:PySem.W.keepIn K (.ref f40)=true)
  (z0:PySem.W.nsIn K mainGlobals "isinstance"=some none)
  (z1:PySem.W.nsIn K mainGlobals "int"=some none)
  (z2:PySem.W.nsIn K mainGlobals "bool"=some none)
  (z3:PySem.W.nsIn K mainGlobals "tuple"=some none)
  (z4:PySem.W.nsIn K mainGlobals "len"=some none)
  (z5:PySem.W.nsIn K mainGlobals "enumerate"=some none)
  (z6:PySem.W.nsIn K mainGlobals "range"=some none)
  (z7:PySem.W.nsIn K mainGlobals "max"=some none)
  (z8:PySem.W.nsIn K mainGlobals "min"=some none)
  (z9:PySem.W.nsIn K mainGlobals "any"=some none)
  (z10:PySem.W.nsIn K mainGlobals "list"=some none)
  (z11:PySem.W.nsIn K mainGlobals "abs"=some none)
  {tk0:Tok} (g0:PySem.W.nsIn K mainGlobals "LONGEST_SIDE"=some (some (.int 12 tk0)))
  {tk1:Tok} (g1:PySem.W.nsIn K mainGlobals "MOST_WANTS"=some (some (.int 6 tk1)))
  {tk2:Tok} (g2:PySem.W.nsIn K mainGlobals "TOO_HIGH"=some (some (.int 13 tk2)))
  {tk3:Tok} (g3:PySem.W.nsIn K mainGlobals "UPRIGHT"=some (some (.str "upright" tk3)))
  {tk4:Tok} (g4:PySem.W.nsIn K mainGlobals "LEVEL"=some (some (.str "level" tk4)))
  {tk5:Tok} (g5:PySem.W.nsIn K mainGlobals "MOST_SHEETS"=some (some (.int 4 tk5)))
  : ∃ fd:FuncData,(∀ (s:Shared) (v:Value),BindsTo s fd ⟨[v],[]⟩ [("_law_script",v)])∧∀ base:Heap,K.In base→base.Ns mainGlobals mg→FnOk l.prog w K mg base CX0 14 fa fd ["_law_script"] (sp_law K):=by
 have e:=hfa.symm.trans (PySem.W.mg_of X G a40)
 cases e
 have T:Txt mg tk0 tk1 tk2 tk3 tk4 tk5:=⟨PySem.W.mg_none_of X G z0,PySem.W.mg_none_of X G z1,PySem.W.mg_none_of X G z2,PySem.W.mg_none_of X G z3,PySem.W.mg_none_of X G z4,PySem.W.mg_none_of X G z5,PySem.W.mg_none_of X G z6,PySem.W.mg_none_of X G z7,PySem.W.mg_none_of X G z8,PySem.W.mg_none_of X G z9,PySem.W.mg_none_of X G z10,PySem.W.mg_none_of X G z11,PySem.W.mg_of X G g0,PySem.W.mg_of X G g1,PySem.W.mg_of X G g2,PySem.W.mg_of X G g3,PySem.W.mg_of X G g4,PySem.W.mg_of X G g5⟩
 obtain ⟨I_cW,mk_cW,kc_cW⟩:=icB_of ic_cW
 obtain ⟨I_cU,mk_cU,kc_cU⟩:=icB_of ic_cU
 obtain ⟨I_cL,mk_cL,kc_cL⟩:=icB_of ic_cL
 have R0:RT mg K cT cW cU cL:=rt_of kit I_cW I_cU I_cL (PySem.W.mg_of X G aT) (PySem.W.mg_of X G aC_cW) (PySem.W.mg_of X G aC_cU) (PySem.W.mg_of X G aC_cL)
 have RG0:RG mg K cG cM cA cQ cN cD cS cP:=rg_of ktC (PySem.W.mg_of X G aG) (PySem.W.mg_of X G aC_cM) (PySem.W.mg_of X G aC_cA) (PySem.W.mg_of X G aC_cQ) (PySem.W.mg_of X G aC_cN) (PySem.W.mg_of X G aC_cD) (PySem.W.mg_of X G aC_cS) (PySem.W.mg_of X G aC_cP) eG (fun c=>by cases c; exact xm_cM; exact xm_cA; exact xm_cQ; exact xm_cN; exact xm_cD; exact xm_cS; exact xm_cP) (fun c=>by cases c; exact XCls.of xc_cM; exact XCls.of xc_cA; exact XCls.of xc_cQ; exact XCls.of xc_cN; exact XCls.of xc_cD; exact XCls.of xc_cS; exact XCls.of xc_cP) (fun r=>by cases r; exact nC_cM; exact nC_cA; exact nC_cQ; exact nC_cN; exact nC_cD)
 have F_cW:FunD K "__init__" "Whole.__init__" s_Whole_init f_cW _:=⟨⟨_,_,_,_,_,_,_,_,_,_,_,tn_cW,rfl,l_cW,cc_cW,lT_cW,by rw [eT_cW]⟩,k_cW⟩
 have b_cW:=F_cW.binds (ps:=["self","mark"]) (ds:=[]) fun _ _ _ _ _ _ _ us hl=>by obtain ⟨u0,u1,rfl⟩:=len2 ((List.append_nil us) ▸ hl); exact ⟨_,rfl,rfl⟩
 have b0_cW:=F_cW.binds (ps:=["self","mark"]) (ds:=[.none]) fun _ _ _ _ _ _ _ us hl=>by obtain ⟨u,rfl⟩:=lone_of hl; exact ⟨_,rfl,rfl⟩
 have F_cU:=fun_mk (st:=s_Upright_init) l_cU cc_cU k_cU
 have b_cU:=F_cU.binds (ps:=["self","at","first","other"]) fun _ _ _ _ _ _ us hl=>by obtain ⟨u0,u1,u2,u3,rfl⟩:=len4 hl; rfl
 have F_cL:=fun_mk (st:=s_Level_init) l_cL cc_cL k_cL
 have b_cL:=F_cL.binds (ps:=["self","at","first","other"]) fun _ _ _ _ _ _ us hl=>by obtain ⟨u0,u1,u2,u3,rfl⟩:=len4 hl; rfl
 have F_cQ:=fun_mk (st:=s_NoSide_init) l_cQ cc_cQ k_cQ
 have b_cQ:=F_cQ.binds (ps:=["self","side"]) fun _ _ _ _ _ _ us hl=>by obtain ⟨u0,u1,rfl⟩:=len2 hl; rfl
 have F_cM:=fun_mk (st:=s_TooMany_init) l_cM cc_cM k_cM
 have b_cM:=F_cM.binds (ps:=["self","many"]) fun _ _ _ _ _ _ us hl=>by obtain ⟨u0,u1,rfl⟩:=len2 hl; rfl
 have F_cN:=fun_mk (st:=s_NoNumber_init) l_cN cc_cN k_cN
 have b_cN:=F_cN.binds (ps:=["self","number"]) fun _ _ _ _ _ _ us hl=>by obtain ⟨u0,u1,rfl⟩:=len2 hl; rfl
 have F_cA:=fun_mk (st:=s_NoWant_init) l_cA cc_cA k_cA
 have b_cA:=F_cA.binds (ps:=["self","place"]) fun _ _ _ _ _ _ us hl=>by obtain ⟨u0,u1,rfl⟩:=len2 hl; rfl
 have F_cD:=fun_mk (st:=s_NoSheet_init) l_cD cc_cD k_cD
 have b_cD:=F_cD.binds (ps:=["self","place"]) fun _ _ _ _ _ _ us hl=>by obtain ⟨u0,u1,rfl⟩:=len2 hl; rfl
 have F_cS:=fun_mk (st:=s_NoSize_init) l_cS cc_cS k_cS
 have b_cS:=F_cS.binds (ps:=["self","size"]) fun _ _ _ _ _ _ us hl=>by obtain ⟨u0,u1,rfl⟩:=len2 hl; rfl
 have F_cP:=fun_mk (st:=s_NoPlan_init) l_cP cc_cP k_cP
 have b_cP:=F_cP.binds (ps:=["self","want"]) fun _ _ _ _ _ _ us hl=>by obtain ⟨u0,u1,rfl⟩:=len2 hl; rfl
 have F0:=fun_mk (st:=s_is_whole) l0 cc0 k0
 have b0:=F0.binds (ps:=["thing"]) fun _ _ _ _ _ _ us hl=>by obtain ⟨u0,rfl⟩:=len1 hl; rfl
 have F1:=fun_mk (st:=s_is_side) l1 cc1 k1
 have b1:=F1.binds (ps:=["thing"]) fun _ _ _ _ _ _ us hl=>by obtain ⟨u0,rfl⟩:=len1 hl; rfl
 have F2:=fun_mk (st:=s_check_sides) l2 cc2 k2
 have b2:=F2.binds (ps:=["width","height"]) fun _ _ _ _ _ _ us hl=>by obtain ⟨u0,u1,rfl⟩:=len2 hl; rfl
 have F3:=fun_mk (st:=s_cut_from) l3 cc3 k3
 have b3:=F3.binds (ps:=["word","at","first","other"]) fun _ _ _ _ _ _ us hl=>by obtain ⟨u0,u1,u2,u3,rfl⟩:=len4 hl; rfl
 have F4:=fun_mk (st:=s_is_want) l4 cc4 k4
 have b4:=F4.binds (ps:=["thing"]) fun _ _ _ _ _ _ us hl=>by obtain ⟨u0,rfl⟩:=len1 hl; rfl
 have F5:=fun_mk (st:=s_check_wants) l5 cc5 k5
 have b5:=F5.binds (ps:=["wants"]) fun _ _ _ _ _ _ us hl=>by obtain ⟨u0,rfl⟩:=len1 hl; rfl
 have F6:=fun_mk (st:=s_ways_to_lie) l6 cc6 k6
 have b6:=F6.binds (ps:=["want"]) fun _ _ _ _ _ _ us hl=>by obtain ⟨u0,rfl⟩:=len1 hl; rfl
 have F7:=fun_mk (st:=s_ways_held) l7 cc7 k7
 have b7:=F7.binds (ps:=["want","width","height"]) fun _ _ _ _ _ _ us hl=>by obtain ⟨u0,u1,u2,rfl⟩:=len3 hl; rfl
 have F8:=fun_mk (st:=s_is_alone) l8 cc8 k8
 have b8:=F8.binds (ps:=["bits"]) fun _ _ _ _ _ _ us hl=>by obtain ⟨u0,rfl⟩:=len1 hl; rfl
 have F9:=fun_mk (st:=s_number_alone) l9 cc9 k9
 have b9:=F9.binds (ps:=["bits"]) fun _ _ _ _ _ _ us hl=>by obtain ⟨u0,rfl⟩:=len1 hl; rfl
 have F10:=fun_mk (st:=s_all_parts) l10 cc10 k10
 have b10:=F10.binds (ps:=["bits"]) fun _ _ _ _ _ _ us hl=>by obtain ⟨u0,rfl⟩:=len1 hl; rfl
 have F11:=fun_mk (st:=s_parts_with_least) l11 cc11 k11
 have b11:=F11.binds (ps:=["bits"]) fun _ _ _ _ _ _ us hl=>by obtain ⟨u0,rfl⟩:=len1 hl; rfl
 have F12:=fun_mk (st:=s_cuts_to) l12 cc12 k12
 have b12:=F12.binds (ps:=["heights","bits","width"]) fun _ _ _ _ _ _ us hl=>by obtain ⟨u0,u1,u2,rfl⟩:=len3 hl; rfl
 have F13:=fun_mk (st:=s_least_height) l13 cc13 k13
 have b13:=F13.binds (ps:=["wants","heights","bits","width"]) fun _ _ _ _ _ _ us hl=>by obtain ⟨u0,u1,u2,u3,rfl⟩:=len4 hl; rfl
 have F14:=fun_mk (st:=s_heights_of_parts) l14 cc14 k14
 have b14:=F14.binds (ps:=["wants","bits"]) fun _ _ _ _ _ _ us hl=>by obtain ⟨u0,u1,rfl⟩:=len2 hl; rfl
 have F15:=fun_mk (st:=s_stair) l15 cc15 k15
 have b15:=F15.binds (ps:=["least"]) fun _ _ _ _ _ _ us hl=>by obtain ⟨u0,rfl⟩:=len1 hl; rfl
 have F16:=fun_mk (st:=s_all_bits) l16 cc16 k16
 have b16:=F16.binds (ps:=["wants"]) fun _ _ _ _ _ _ us hl=>by obtain ⟨u0,rfl⟩:=len1 hl; rfl
 have F17:=fun_mk (st:=s_stairs) l17 cc17 k17
 have b17:=F17.binds (ps:=["wants"]) fun _ _ _ _ _ _ us hl=>by obtain ⟨u0,rfl⟩:=len1 hl; rfl
 have F18:=fun_mk (st:=s_cut_off) l18 cc18 k18
 have b18:=F18.binds (ps:=["mark","size","width","height"]) fun _ _ _ _ _ _ us hl=>by obtain ⟨u0,u1,u2,u3,rfl⟩:=len4 hl; rfl
 have F19:=fun_mk (st:=s_tree_alone) l19 cc19 k19
 have b19:=F19.binds (ps:=["wants","number","width","height"]) fun _ _ _ _ _ _ us hl=>by obtain ⟨u0,u1,u2,u3,rfl⟩:=len4 hl; rfl
 have F20:=fun_mk (st:=s_tree_for) l20 cc20 k20
 have b20:=F20.binds (ps:=["wants","heights","bits","width","height"]) fun _ _ _ _ _ _ us hl=>by obtain ⟨u0,u1,u2,u3,u4,rfl⟩:=len5 hl; rfl
 have F21:=fun_mk (st:=s_stair_tree) l21 cc21 k21
 have b21:=F21.binds (ps:=["wants","bits","width","height"]) fun _ _ _ _ _ _ us hl=>by obtain ⟨u0,u1,u2,u3,rfl⟩:=len4 hl; rfl
 have F22:=fun_mk (st:=s_is_sheet) l22 cc22 k22
 have b22:=F22.binds (ps:=["thing"]) fun _ _ _ _ _ _ us hl=>by obtain ⟨u0,rfl⟩:=len1 hl; rfl
 have F23:=fun_mk (st:=s_check_sheets) l23 cc23 k23
 have b23:=F23.binds (ps:=["sheets"]) fun _ _ _ _ _ _ us hl=>by obtain ⟨u0,rfl⟩:=len1 hl; rfl
 have F24:=fun_mk (st:=s_heights_for) l24 cc24 k24
 have b24:=F24.binds (ps:=["wants","sheets"]) fun _ _ _ _ _ _ us hl=>by obtain ⟨u0,u1,rfl⟩:=len2 hl; rfl
 have F25:=fun_mk (st:=s_cheapest_sheets) l25 cc25 k25
 have b25:=F25.binds (ps:=["heights","sheets"]) fun _ _ _ _ _ _ us hl=>by obtain ⟨u0,u1,rfl⟩:=len2 hl; rfl
 have F26:=fun_mk (st:=s_first_sheets) l26 cc26 k26
 have b26:=F26.binds (ps:=["cheapest","glass","bits"]) fun _ _ _ _ _ _ us hl=>by obtain ⟨u0,u1,u2,rfl⟩:=len3 hl; rfl
 have F27:=fun_mk (st:=s_glass_by_set) l27 cc27 k27
 have b27:=F27.binds (ps:=["cheapest","bits"]) fun _ _ _ _ _ _ us hl=>by obtain ⟨u0,u1,rfl⟩:=len2 hl; rfl
 have F28:=fun_mk (st:=s_least_glass) l28 cc28 k28
 have b28:=F28.binds (ps:=["wants","sheets"]) fun _ _ _ _ _ _ us hl=>by obtain ⟨u0,u1,rfl⟩:=len2 hl; rfl
 have F29:=fun_mk (st:=s_check_served) l29 cc29 k29
 have b29:=F29.binds (ps:=["wants","cheapest"]) fun _ _ _ _ _ _ us hl=>by obtain ⟨u0,u1,rfl⟩:=len2 hl; rfl
 have F30:=fun_mk (st:=s_plan) l30 cc30 k30
 have b30:=F30.binds (ps:=["wants","sheets"]) fun _ _ _ _ _ _ us hl=>by obtain ⟨u0,u1,rfl⟩:=len2 hl; rfl
 have F31:=fun_mk (st:=s__law_at) l31 cc31 k31
 have b31:=F31.binds (ps:=["_law_script","_law_k"]) fun _ _ _ _ _ _ us hl=>by obtain ⟨u0,u1,rfl⟩:=len2 hl; rfl
 have F32:=fun_mk (st:=s__law_knead) l32 cc32 k32
 have b32:=F32.binds (ps:=["_law_number","_law_by"]) fun _ _ _ _ _ _ us hl=>by obtain ⟨u0,u1,rfl⟩:=len2 hl; rfl
 have F33:=fun_mk (st:=s__law_bad_want) l33 cc33 k33
 have b33:=F33.binds (ps:=["_law_number"]) fun _ _ _ _ _ _ us hl=>by obtain ⟨u0,rfl⟩:=len1 hl; rfl
 have F34:=fun_mk (st:=s__law_bad_sheet) l34 cc34 k34
 have b34:=F34.binds (ps:=["_law_number"]) fun _ _ _ _ _ _ us hl=>by obtain ⟨u0,rfl⟩:=len1 hl; rfl
 have F35:=fun_mk (st:=s__law_caught) l35 cc35 k35
 have b35:=F35.binds (ps:=["_law_which","_law_wants","_law_bits","_law_sides","_law_sheets"]) fun _ _ _ _ _ _ us hl=>by obtain ⟨u0,u1,u2,u3,u4,rfl⟩:=len5 hl; rfl
 have F36:=fun_mk (st:=s__law_told) l36 cc36 k36
 have b36:=F36.binds (ps:=["_law_caught_here"]) fun _ _ _ _ _ _ us hl=>by obtain ⟨u0,rfl⟩:=len1 hl; rfl
 have F37:=fun_mk (st:=s__law_first) l37 cc37 k37
 have b37:=F37.binds (ps:=["_law_things_here","_law_bad"]) fun _ _ _ _ _ _ us hl=>by obtain ⟨u0,u1,rfl⟩:=len2 hl; rfl
 have F38:=fun_mk (st:=s__law_due) l38 cc38 k38
 have b38:=F38.binds (ps:=["_law_which","_law_wants","_law_bad","_law_bits","_law_sides","_law_sheets","_law_odd"]) fun _ _ _ _ _ _ us hl=>by obtain ⟨u0,u1,u2,u3,u4,u5,u6,rfl⟩:=len7 hl; rfl
 have F39:=fun_mk (st:=s__law_things) l39 cc39 k39
 have b39:=F39.binds (ps:=["_law_cell","_law_by","_law_many","_law_first_here","_law_second","_law_bad_one"]) fun _ _ _ _ _ _ us hl=>by obtain ⟨u0,u1,u2,u3,u4,u5,rfl⟩:=len6 hl; rfl
 have F40:=fun_mk (st:=s_law) l40 cc40 k40
 refine ⟨PySem.W.fnOf "law" "law" (defArgs s_law) (defBody s_law) (defScope s_law) .none kV40 dc40 pm40 an40 cd40 ct40,fun s v=>.of_eq rfl,fun base _ _=>?_⟩
 have K_Whole:MkOk l.prog w K mg base 1 "Whole" cW ["self","mark"] (sp_iW cW):=⟨_,_,⟨mk_cW,a_cWcW,i_cW,kc_cW⟩,ok_Whole_init F_cW R0,PySem.W.mg_of X G aC_cW,b_cW⟩
 have K0_Whole:MkOk0 l.prog w K mg base 1 "Whole" cW ["self","mark"] (sp_iW cW) [.non]:=⟨_,_,_,⟨mk_cW,a_cWcW,i_cW,kc_cW⟩,ok_Whole_init F_cW R0,PySem.W.mg_of X G aC_cW,b0_cW,.cons rfl .nil⟩
 have K_Upright:MkOk l.prog w K mg base 1 "Upright" cU ["self","at","first","other"] (sp_iC cU):=⟨_,_,⟨mk_cU,a_cUcU,i_cU,kc_cU⟩,ok_Upright_init F_cU R0,PySem.W.mg_of X G aC_cU,b_cU⟩
 have K_Level:MkOk l.prog w K mg base 1 "Level" cL ["self","at","first","other"] (sp_iC cL):=⟨_,_,⟨mk_cL,a_cLcL,i_cL,kc_cL⟩,ok_Level_init F_cL R0,PySem.W.mg_of X G aC_cL,b_cL⟩
 have X_NoSide:XMkOk l.prog w K mg base 1 "NoSide" cQ ["self","side"] ["side"]:=⟨by decide,f_cQ,_,⟨XCls.of xc_cQ,ei_cQ,kC_cQ,i_cQ⟩,ok_NoSide_init F_cQ (XCls.of xc_cQ) nC_cQ,PySem.W.mg_of X G aC_cQ,b_cQ⟩
 have X_TooMany:XMkOk l.prog w K mg base 1 "TooMany" cM ["self","many"] ["many"]:=⟨by decide,f_cM,_,⟨XCls.of xc_cM,ei_cM,kC_cM,i_cM⟩,ok_TooMany_init F_cM (XCls.of xc_cM) nC_cM,PySem.W.mg_of X G aC_cM,b_cM⟩
 have X_NoNumber:XMkOk l.prog w K mg base 1 "NoNumber" cN ["self","number"] ["number"]:=⟨by decide,f_cN,_,⟨XCls.of xc_cN,ei_cN,kC_cN,i_cN⟩,ok_NoNumber_init F_cN (XCls.of xc_cN) nC_cN,PySem.W.mg_of X G aC_cN,b_cN⟩
 have X_NoWant:XMkOk l.prog w K mg base 1 "NoWant" cA ["self","place"] ["place"]:=⟨by decide,f_cA,_,⟨XCls.of xc_cA,ei_cA,kC_cA,i_cA⟩,ok_NoWant_init F_cA (XCls.of xc_cA) nC_cA,PySem.W.mg_of X G aC_cA,b_cA⟩
 have X_NoSheet:XMkOk l.prog w K mg base 1 "NoSheet" cD ["self","place"] ["place"]:=⟨by decide,f_cD,_,⟨XCls.of xc_cD,ei_cD,kC_cD,i_cD⟩,ok_NoSheet_init F_cD (XCls.of xc_cD) nC_cD,PySem.W.mg_of X G aC_cD,b_cD⟩
 have X_NoSize:XMkOk l.prog w K mg base 1 "NoSize" cS ["self","size"] ["size"]:=⟨by decide,f_cS,_,⟨XCls.of xc_cS,ei_cS,kC_cS,i_cS⟩,ok_NoSize_init F_cS (XCls.of xc_cS) nC_cS,PySem.W.mg_of X G aC_cS,b_cS⟩
 have X_NoPlan:XMkOk l.prog w K mg base 1 "NoPlan" cP ["self","want"] ["want"]:=⟨by decide,f_cP,_,⟨XCls.of xc_cP,ei_cP,kC_cP,i_cP⟩,ok_NoPlan_init F_cP (XCls.of xc_cP) nC_cP,PySem.W.mg_of X G aC_cP,b_cP⟩
 have D_is_whole:DefOk l.prog w K mg base 1 "is_whole" ["thing"] sp_whole:=⟨_,_,ok_is_whole F0 T,PySem.W.mg_of X G a0,k0,b0⟩
 have D_is_side:DefOk l.prog w K mg base 2 "is_side" ["thing"] sp_side:=⟨_,_,ok_is_side F1 T D_is_whole,PySem.W.mg_of X G a1,k1,b1⟩
 have D_check_sides:DefOkX l.prog w K mg base 3 "check_sides" ["width","height"] (sp_sides1 cM cA cQ cN cD cS cP):=⟨_,_,ok_check_sides F2 X_NoSide D_is_side,PySem.W.mg_of X G a2,k2,b2⟩
 have D_cut_from:DefOk l.prog w K mg base 3 "cut_from" ["word","at","first","other"] (sp_cutfrom cW cU cL):=⟨_,_,ok_cut_from F3 T K_Upright K_Level,PySem.W.mg_of X G a3,k3,b3⟩
 have D_is_want:DefOk l.prog w K mg base 3 "is_want" ["thing"] sp_want:=⟨_,_,ok_is_want F4 T D_is_side,PySem.W.mg_of X G a4,k4,b4⟩
 have D_check_wants:DefOkX l.prog w K mg base 4 "check_wants" ["wants"] (sp_check1 cM cA cQ cN cD cS cP):=⟨_,_,ok_check_wants F5 T X_TooMany X_NoWant D_is_want,PySem.W.mg_of X G a5,k5,b5⟩
 have D_ways_to_lie:DefOk l.prog w K mg base 1 "ways_to_lie" ["want"] sp_ways:=⟨_,_,ok_ways_to_lie F6,PySem.W.mg_of X G a6,k6,b6⟩
 have D_ways_held:DefOk l.prog w K mg base 2 "ways_held" ["want","width","height"] sp_wheld:=⟨_,_,ok_ways_held F7 D_ways_to_lie,PySem.W.mg_of X G a7,k7,b7⟩
 have D_is_alone:DefOk l.prog w K mg base 1 "is_alone" ["bits"] sp_alone:=⟨_,_,ok_is_alone F8,PySem.W.mg_of X G a8,k8,b8⟩
 have D_number_alone:DefOk l.prog w K mg base 1 "number_alone" ["bits"] sp_number:=⟨_,_,ok_number_alone F9,PySem.W.mg_of X G a9,k9,b9⟩
 have D_all_parts:DefOk l.prog w K mg base 1 "all_parts" ["bits"] sp_parts:=⟨_,_,ok_all_parts F10 T,PySem.W.mg_of X G a10,k10,b10⟩
 have D_parts_with_least:DefOk l.prog w K mg base 2 "parts_with_least" ["bits"] sp_least:=⟨_,_,ok_parts_with_least F11 D_all_parts,PySem.W.mg_of X G a11,k11,b11⟩
 have D_cuts_to:DefOk l.prog w K mg base 3 "cuts_to" ["heights","bits","width"] sp_cuts:=⟨_,_,ok_cuts_to F12 T D_parts_with_least,PySem.W.mg_of X G a12,k12,b12⟩
 have D_least_height:DefOk l.prog w K mg base 4 "least_height" ["wants","heights","bits","width"] sp_low:=⟨_,_,ok_least_height F13 T D_is_alone D_number_alone D_ways_to_lie D_cuts_to,PySem.W.mg_of X G a13,k13,b13⟩
 have D_heights_of_parts:DefOk l.prog w K mg base 5 "heights_of_parts" ["wants","bits"] sp_heights:=⟨_,_,ok_heights_of_parts F14 T D_all_parts D_least_height,PySem.W.mg_of X G a14,k14,b14⟩
 have D_stair:DefOk l.prog w K mg base 1 "stair" ["least"] sp_stair:=⟨_,_,ok_stair F15 T,PySem.W.mg_of X G a15,k15,b15⟩
 have D_all_bits:DefOk l.prog w K mg base 1 "all_bits" ["wants"] sp_bits:=⟨_,_,ok_all_bits F16 T,PySem.W.mg_of X G a16,k16,b16⟩
 have D_stairs:DefOkX l.prog w K mg base 6 "stairs" ["wants"] (sp_stairs1 cM cA cQ cN cD cS cP):=⟨_,_,ok_stairs F17 D_check_wants D_all_bits D_heights_of_parts D_stair,PySem.W.mg_of X G a17,k17,b17⟩
 have D_cut_off:DefOk l.prog w K mg base 3 "cut_off" ["mark","size","width","height"] (sp_off cW cU cL):=⟨_,_,ok_cut_off F18 K_Whole K0_Whole K_Upright K_Level,PySem.W.mg_of X G a18,k18,b18⟩
 have D_tree_alone:DefOk l.prog w K mg base 4 "tree_alone" ["wants","number","width","height"] (sp_talone cW cU cL):=⟨_,_,ok_tree_alone F19 D_ways_held D_cut_off,PySem.W.mg_of X G a19,k19,b19⟩
 have A_tree_for:∀ n:Nat,DefOk l.prog w K mg base (n+4) "tree_for" ["wants","heights","bits","width","height"] (sp_tree cW cU cL n):=fun n=>by
  induction n with
  | zero=>exact ⟨_,_,fn_none F20 S_tree_for (fun _ _ _ _=>tree0),PySem.W.mg_of X G a20,k20,b20⟩
  | succ n ih=>exact ⟨_,_,ok_tree_for F20 T D_is_alone D_number_alone D_tree_alone D_cuts_to D_cut_from ih,PySem.W.mg_of X G a20,k20,b20⟩
 have D_tree_for:=A_tree_for 7
 have D_stair_tree:DefOkX l.prog w K mg base 12 "stair_tree" ["wants","bits","width","height"] (sp_stree1 cM cA cQ cN cD cS cP):=⟨_,_,ok_stair_tree F21 X_NoNumber X_NoSize D_is_whole D_check_wants D_check_sides D_all_bits D_heights_of_parts D_tree_for,PySem.W.mg_of X G a21,k21,b21⟩
 have D_is_sheet:DefOk l.prog w K mg base 3 "is_sheet" ["thing"] sp_sheet:=⟨_,_,ok_is_sheet F22 T D_is_side,PySem.W.mg_of X G a22,k22,b22⟩
 have D_check_sheets:DefOkX l.prog w K mg base 4 "check_sheets" ["sheets"] (sp_csheets1 cM cA cQ cN cD cS cP):=⟨_,_,ok_check_sheets F23 T X_TooMany X_NoSheet D_is_sheet,PySem.W.mg_of X G a23,k23,b23⟩
 have D_heights_for:DefOkX l.prog w K mg base 6 "heights_for" ["wants","sheets"] (sp_hfor1 cM cA cQ cN cD cS cP):=⟨_,_,ok_heights_for F24 D_check_wants D_check_sheets D_all_bits D_heights_of_parts,PySem.W.mg_of X G a24,k24,b24⟩
 have D_cheapest_sheets:DefOk l.prog w K mg base 1 "cheapest_sheets" ["heights","sheets"] sp_cheap:=⟨_,_,ok_cheapest_sheets F25 T,PySem.W.mg_of X G a25,k25,b25⟩
 have D_first_sheets:DefOk l.prog w K mg base 3 "first_sheets" ["cheapest","glass","bits"] sp_first:=⟨_,_,ok_first_sheets F26 D_parts_with_least,PySem.W.mg_of X G a26,k26,b26⟩
 have D_glass_by_set:DefOk l.prog w K mg base 4 "glass_by_set" ["cheapest","bits"] sp_glass:=⟨_,_,ok_glass_by_set F27 T D_all_parts D_first_sheets,PySem.W.mg_of X G a27,k27,b27⟩
 have D_least_glass:DefOkX l.prog w K mg base 7 "least_glass" ["wants","sheets"] (sp_lg1 cM cA cQ cN cD cS cP):=⟨_,_,ok_least_glass F28 D_all_bits D_heights_for D_cheapest_sheets D_glass_by_set,PySem.W.mg_of X G a28,k28,b28⟩
 have D_check_served:DefOkX l.prog w K mg base 3 "check_served" ["wants","cheapest"] (sp_served cP):=⟨_,_,ok_check_served F29 T X_NoPlan,PySem.W.mg_of X G a29,k29,b29⟩
 have D_plan:DefOkX l.prog w K mg base 12 "plan" ["wants","sheets"] (sp_plan1 cM cA cQ cN cD cS cP):=⟨_,_,ok_plan F30 T D_heights_for D_cheapest_sheets D_check_served D_all_bits D_glass_by_set D_first_sheets D_tree_for,PySem.W.mg_of X G a30,k30,b30⟩
 have D__law_at:DefOk l.prog w K mg base 1 "_law_at" ["_law_script","_law_k"] (sp_at K):=⟨_,_,ok_law_at F31 T,PySem.W.mg_of X G a31,k31,b31⟩
 have D__law_knead:DefOk l.prog w K mg base 1 "_law_knead" ["_law_number","_law_by"] sp_knead:=⟨_,_,ok_law_knead F32 T,PySem.W.mg_of X G a32,k32,b32⟩
 have D__law_bad_want:DefOk l.prog w K mg base 1 "_law_bad_want" ["_law_number"] sp_bw:=⟨_,_,ok_law_bad_want F33,PySem.W.mg_of X G a33,k33,b33⟩
 have D__law_bad_sheet:DefOk l.prog w K mg base 1 "_law_bad_sheet" ["_law_number"] sp_bs:=⟨_,_,ok_law_bad_sheet F34,PySem.W.mg_of X G a34,k34,b34⟩
 have D__law_caught:DefOk l.prog w K mg base 13 "_law_caught" ["_law_which","_law_wants","_law_bits","_law_sides","_law_sheets"] (sp_caught cM cA cQ cN cD cS cP):=⟨_,_,ok_law_caught F35 RG0 D_stairs D_stair_tree D_least_glass D_plan,PySem.W.mg_of X G a35,k35,b35⟩
 have D__law_told:DefOk l.prog w K mg base 1 "_law_told" ["_law_caught_here"] (sp_told cM cA cQ cN cD cS cP):=⟨_,_,ok_law_told F36 T RG0,PySem.W.mg_of X G a36,k36,b36⟩
 have D__law_first:DefOk l.prog w K mg base 1 "_law_first" ["_law_things_here","_law_bad"] sp_ffirst:=⟨_,_,ok_law_first F37 T,PySem.W.mg_of X G a37,k37,b37⟩
 have D__law_due:DefOk l.prog w K mg base 2 "_law_due" ["_law_which","_law_wants","_law_bad","_law_bits","_law_sides","_law_sheets","_law_odd"] (sp_due K):=⟨_,_,ok_law_due F38 T D__law_first,PySem.W.mg_of X G a38,k38,b38⟩
 have D__law_things:DefOk l.prog w K mg base 2 "_law_things" ["_law_cell","_law_by","_law_many","_law_first_here","_law_second","_law_bad_one"] sp_things:=⟨_,_,ok_law_things F39 T D__law_knead,PySem.W.mg_of X G a39,k39,b39⟩
 exact ok_law F40 T D__law_caught D__law_told D__law_due D__law_at D__law_knead D__law_bad_want D__law_bad_sheet D__law_things
theorem walk {l:PySem.W.OpenLaw} {q:Program} {loose:List Str} {XP:(Str→Option Value)→Heap→Prop} {YP:World→Heap→Prop} {d:DefRec} {K:Params→PySem.W.Frag} (hn:l.most=some 63) (hdf:d.params.defaults=[])
  (hY:∀ (w:World) (h:Heap),YP w h→(K w.params).In h)
  (F:∀ (w:World) (mg:Str→Option Value) (fa:Addr) (h:Heap),(K w.params).In h→h.Ns mainGlobals mg→mg d.name=some (.ref fa) →
   ∃ fd:FuncData,(∀ (s:Shared) (u:Value),BindsTo s fd ⟨[u],[]⟩ [("_law_script",u)])∧∀ base:Heap,(K w.params).In base→base.Ns mainGlobals mg→FnOk l.prog w (K w.params) mg base CX0 14 fa fd ["_law_script"] (sp_law (K w.params))) :
  PySem.W.WalkO q loose XP YP l.row.toRowW d [] (fun f vs=>PySem.call f vs) :=
 L2.walk_of (n:=63) (k:=14) (x:="_law_script") (CX:=fun _=>CX0) (sp:=fun w=>sp_law (K w.params)) hn (by decide) hdf ⟨rfl,by decide,by decide⟩ hY F (fun _ _ a ns hl _ hS=>⟨a,ns,rfl,hS,hl,fun _=>rfl⟩) fun _ _ _ _ _ z=>z
end K66
open PySem PySem.W PyProof.Rows
set_option maxRecDepth 100000 in
set_option maxHeartbeats 0 in
theorem PySem.Challenge.cw_glazebench_k66_orders_refused_holds : PySem.Challenge.rw_glazebench_k66_orders_refused.Holds := by
 refine KH.prep fun said => ?_
 have fx : ∀ s, KH.Xp PySem.Challenge.pw_glazebench_k66_orders_refused s = true → XL (KH.qv PySem.Challenge.pw_glazebench_k66_orders_refused) [] (s.heap.nsMap mainGlobals) s.heap := fun s e => xl_of s (Bool.and_eq_true_iff.mp e).1
 have fr : ∀ s, KH.Xp PySem.Challenge.pw_glazebench_k66_orders_refused s = true → RecFacts (RowW.records (OpenRow.toRowW PySem.Challenge.rw_glazebench_k66_orders_refused.row)) s.heap := fun s e => recFacts_of (Bool.and_eq_true_iff.mp e).2
 refine holds_open (XP := XL (KH.qv PySem.Challenge.pw_glazebench_k66_orders_refused) []) KH.left (kHook KH.KK KH.kas KH.kas_is).of (kHook KH.KK KH.kas KH.kas_is).keeps fx XL.keeps (by rfl) (by rfl) (by rfl) fr (by rfl) said (by decide +kernel) ?hb ?hw ?hc
 case hb => exact ⟨rfl,rfl, rfl,rfl, rfl, by decide +kernel⟩
 case hw => w_witness2
 case hc =>
  k_fill
  refine K66.walk (l := PySem.Challenge.rw_glazebench_k66_orders_refused) rfl rfl (fun w h Y => PySem.W.kIn_of Y) ?F
  case F =>
   intro w mg fa h KX G hmg
   refine' K66.all_mk KX G hmg ?my_aT ?my_aC_cW ?my_ic_cW ?my_a_cWcW ?my_i_cW ?my_l_cW ?my_cc_cW ?my_k_cW ?my_lT_cW ?my_eT_cW ?my_aC_cU ?my_ic_cU ?my_a_cUcU ?my_i_cU ?my_l_cU ?my_cc_cU ?my_k_cU ?my_aC_cL ?my_ic_cL ?my_a_cLcL ?my_i_cL ?my_l_cL ?my_cc_cL ?my_k_cL ?my_kit ?my_aG ?my_eG ?my_aC_cQ ?my_kC_cQ ?my_nC_cQ ?my_a_cQcQ ?my_i_cQ ?my_l_cQ ?my_cc_cQ ?my_k_cQ ?my_ei_cQ ?my_xc_cQ ?my_xm_cQ ?my_aC_cM ?my_kC_cM ?my_nC_cM ?my_a_cMcM ?my_i_cM ?my_l_cM ?my_cc_cM ?my_k_cM ?my_ei_cM ?my_xc_cM ?my_xm_cM ?my_aC_cN ?my_kC_cN ?my_nC_cN ?my_a_cNcN ?my_i_cN ?my_l_cN ?my_cc_cN ?my_k_cN ?my_ei_cN ?my_xc_cN ?my_xm_cN ?my_aC_cA ?my_kC_cA ?my_nC_cA ?my_a_cAcA ?my_i_cA ?my_l_cA ?my_cc_cA ?my_k_cA ?my_ei_cA ?my_xc_cA ?my_xm_cA ?my_aC_cD ?my_kC_cD ?my_nC_cD ?my_a_cDcD ?my_i_cD ?my_l_cD ?my_cc_cD ?my_k_cD ?my_ei_cD ?my_xc_cD ?my_xm_cD ?my_aC_cS ?my_kC_cS ?my_nC_cS ?my_a_cScS ?my_i_cS ?my_l_cS ?my_cc_cS ?my_k_cS ?my_ei_cS ?my_xc_cS ?my_xm_cS ?my_aC_cP ?my_kC_cP ?my_nC_cP ?my_a_cPcP ?my_i_cP ?my_l_cP ?my_cc_cP ?my_k_cP ?my_ei_cP ?my_xc_cP ?my_xm_cP ?my_ktC ?my_a0 ?my_l0 ?my_cc0 ?my_k0 ?my_a1 ?my_l1 ?my_cc1 ?my_k1 ?my_a2 ?my_l2 ?my_cc2 ?my_k2 ?my_a3 ?my_l3 ?my_cc3 ?my_k3 ?my_a4 ?my_l4 ?my_cc4 ?my_k4 ?my_a5 ?my_l5 ?my_cc5 ?my_k5 ?my_a6 ?my_l6 ?my_cc6 ?my_k6 ?my_a7 ?my_l7 ?my_cc7 ?my_k7 ?my_a8 ?my_l8 ?my_cc8 ?my_k8 ?my_a9 ?my_l9 ?my_cc9 ?my_k9 ?my_a10 ?my_l10 ?my_cc10 ?my_k10 ?my_a11 ?my_l11 ?my_cc11 ?my_k11 ?my_a12 ?my_l12 ?my_cc12 ?my_k12 ?my_a13 ?my_l13 ?my_cc13 ?my_k13 ?my_a14 ?my_l14 ?my_cc14 ?my_k14 ?my_a15 ?my_l15 ?my_cc15 ?my_k15 ?my_a16 ?my_l16 ?my_cc16 ?my_k16 ?my_a17 ?my_l17 ?my_cc17 ?my_k17 ?my_a18 ?my_l18 ?my_cc18 ?my_k18 ?my_a19 ?my_l19 ?my_cc19 ?my_k19 ?my_a20 ?my_l20 ?my_cc20 ?my_k20 ?my_a21 ?my_l21 ?my_cc21 ?my_k21 ?my_a22 ?my_l22 ?my_cc22 ?my_k22 ?my_a23 ?my_l23 ?my_cc23 ?my_k23 ?my_a24 ?my_l24 ?my_cc24 ?my_k24 ?my_a25 ?my_l25 ?my_cc25 ?my_k25 ?my_a26 ?my_l26 ?my_cc26 ?my_k26 ?my_a27 ?my_l27 ?my_cc27 ?my_k27 ?my_a28 ?my_l28 ?my_cc28 ?my_k28 ?my_a29 ?my_l29 ?my_cc29 ?my_k29 ?my_a30 ?my_l30 ?my_cc30 ?my_k30 ?my_a31 ?my_l31 ?my_cc31 ?my_k31 ?my_a32 ?my_l32 ?my_cc32 ?my_k32 ?my_a33 ?my_l33 ?my_cc33 ?my_k33 ?my_a34 ?my_l34 ?my_cc34 ?my_k34 ?my_a35 ?my_l35 ?my_cc35 ?my_k35 ?my_a36 ?my_l36 ?my_cc36 ?my_k36 ?my_a37 ?my_l37 ?my_cc37 ?my_k37 ?my_a38 ?my_l38 ?my_cc38 ?my_k38 ?my_a39 ?my_l39 ?my_cc39 ?my_k39 ?my_a40 ?my_l40 ?my_cc40 ?my_k40 ?my_z0 ?my_z1 ?my_z2 ?my_z3 ?my_z4 ?my_z5 ?my_z6 ?my_z7 ?my_z8 ?my_z9 ?my_z10 ?my_z11 ?my_g0 ?my_g1 ?my_g2 ?my_g3 ?my_g4 ?my_g5
   (case my_aT => k_is); (case my_aC_cW => k_is); (case my_a_cWcW => k_is); (case my_i_cW => k_is); (case my_l_cW => k_is); (case my_cc_cW => k_is); (case my_k_cW => k_is); (case my_lT_cW => k_is)
   (case my_aC_cU => k_is); (case my_a_cUcU => k_is); (case my_i_cU => k_is); (case my_l_cU => k_is); (case my_cc_cU => k_is); (case my_k_cU => k_is); (case my_aC_cL => k_is); (case my_a_cLcL => k_is)
   (case my_i_cL => k_is); (case my_l_cL => k_is); (case my_cc_cL => k_is); (case my_k_cL => k_is); (case my_aG => k_is); (case my_aC_cQ => k_is); (case my_kC_cQ => k_is); (case my_nC_cQ => k_is)
   (case my_a_cQcQ => k_is); (case my_i_cQ => k_is); (case my_l_cQ => k_is); (case my_cc_cQ => k_is); (case my_k_cQ => k_is); (case my_xm_cQ => k_is); (case my_aC_cM => k_is); (case my_kC_cM => k_is)
   (case my_nC_cM => k_is); (case my_a_cMcM => k_is); (case my_i_cM => k_is); (case my_l_cM => k_is); (case my_cc_cM => k_is); (case my_k_cM => k_is); (case my_xm_cM => k_is); (case my_aC_cN => k_is)
   (case my_kC_cN => k_is); (case my_nC_cN => k_is); (case my_a_cNcN => k_is); (case my_i_cN => k_is); (case my_l_cN => k_is); (case my_cc_cN => k_is); (case my_k_cN => k_is); (case my_xm_cN => k_is)
   (case my_aC_cA => k_is); (case my_kC_cA => k_is); (case my_nC_cA => k_is); (case my_a_cAcA => k_is); (case my_i_cA => k_is); (case my_l_cA => k_is); (case my_cc_cA => k_is); (case my_k_cA => k_is)
   (case my_xm_cA => k_is); (case my_aC_cD => k_is); (case my_kC_cD => k_is); (case my_nC_cD => k_is); (case my_a_cDcD => k_is); (case my_i_cD => k_is); (case my_l_cD => k_is); (case my_cc_cD => k_is)
   (case my_k_cD => k_is); (case my_xm_cD => k_is); (case my_aC_cS => k_is); (case my_kC_cS => k_is); (case my_nC_cS => k_is); (case my_a_cScS => k_is); (case my_i_cS => k_is); (case my_l_cS => k_is)
   (case my_cc_cS => k_is); (case my_k_cS => k_is); (case my_xm_cS => k_is); (case my_aC_cP => k_is); (case my_kC_cP => k_is); (case my_nC_cP => k_is); (case my_a_cPcP => k_is); (case my_i_cP => k_is)
   (case my_l_cP => k_is); (case my_cc_cP => k_is); (case my_k_cP => k_is); (case my_xm_cP => k_is); (case my_a0 => k_is); (case my_l0 => k_is); (case my_cc0 => k_is); (case my_k0 => k_is)
   (case my_a1 => k_is); (case my_l1 => k_is); (case my_cc1 => k_is); (case my_k1 => k_is); (case my_a2 => k_is); (case my_l2 => k_is); (case my_cc2 => k_is); (case my_k2 => k_is)
   (case my_a3 => k_is); (case my_l3 => k_is); (case my_cc3 => k_is); (case my_k3 => k_is); (case my_a4 => k_is); (case my_l4 => k_is); (case my_cc4 => k_is); (case my_k4 => k_is)
   (case my_a5 => k_is); (case my_l5 => k_is); (case my_cc5 => k_is); (case my_k5 => k_is); (case my_a6 => k_is); (case my_l6 => k_is); (case my_cc6 => k_is); (case my_k6 => k_is)
   (case my_a7 => k_is); (case my_l7 => k_is); (case my_cc7 => k_is); (case my_k7 => k_is); (case my_a8 => k_is); (case my_l8 => k_is); (case my_cc8 => k_is); (case my_k8 => k_is)
   (case my_a9 => k_is); (case my_l9 => k_is); (case my_cc9 => k_is); (case my_k9 => k_is); (case my_a10 => k_is); (case my_l10 => k_is); (case my_cc10 => k_is); (case my_k10 => k_is)
   (case my_a11 => k_is); (case my_l11 => k_is); (case my_cc11 => k_is); (case my_k11 => k_is); (case my_a12 => k_is); (case my_l12 => k_is); (case my_cc12 => k_is); (case my_k12 => k_is)
   (case my_a13 => k_is); (case my_l13 => k_is); (case my_cc13 => k_is); (case my_k13 => k_is); (case my_a14 => k_is); (case my_l14 => k_is); (case my_cc14 => k_is); (case my_k14 => k_is)
   (case my_a15 => k_is); (case my_l15 => k_is); (case my_cc15 => k_is); (case my_k15 => k_is); (case my_a16 => k_is); (case my_l16 => k_is); (case my_cc16 => k_is); (case my_k16 => k_is)
   (case my_a17 => k_is); (case my_l17 => k_is); (case my_cc17 => k_is); (case my_k17 => k_is); (case my_a18 => k_is); (case my_l18 => k_is); (case my_cc18 => k_is); (case my_k18 => k_is)
   (case my_a19 => k_is); (case my_l19 => k_is); (case my_cc19 => k_is); (case my_k19 => k_is); (case my_a20 => k_is); (case my_l20 => k_is); (case my_cc20 => k_is); (case my_k20 => k_is)
   (case my_a21 => k_is); (case my_l21 => k_is); (case my_cc21 => k_is); (case my_k21 => k_is); (case my_a22 => k_is); (case my_l22 => k_is); (case my_cc22 => k_is); (case my_k22 => k_is)
   (case my_a23 => k_is); (case my_l23 => k_is); (case my_cc23 => k_is); (case my_k23 => k_is); (case my_a24 => k_is); (case my_l24 => k_is); (case my_cc24 => k_is); (case my_k24 => k_is)
   (case my_a25 => k_is); (case my_l25 => k_is); (case my_cc25 => k_is); (case my_k25 => k_is); (case my_a26 => k_is); (case my_l26 => k_is); (case my_cc26 => k_is); (case my_k26 => k_is)
   (case my_a27 => k_is); (case my_l27 => k_is); (case my_cc27 => k_is); (case my_k27 => k_is); (case my_a28 => k_is); (case my_l28 => k_is); (case my_cc28 => k_is); (case my_k28 => k_is)
   (case my_a29 => k_is); (case my_l29 => k_is); (case my_cc29 => k_is); (case my_k29 => k_is); (case my_a30 => k_is); (case my_l30 => k_is); (case my_cc30 => k_is); (case my_k30 => k_is)
   (case my_a31 => k_is); (case my_l31 => k_is); (case my_cc31 => k_is); (case my_k31 => k_is); (case my_a32 => k_is); (case my_l32 => k_is); (case my_cc32 => k_is); (case my_k32 => k_is)
   (case my_a33 => k_is); (case my_l33 => k_is); (case my_cc33 => k_is); (case my_k33 => k_is); (case my_a34 => k_is); (case my_l34 => k_is); (case my_cc34 => k_is); (case my_k34 => k_is)
   (case my_a35 => k_is); (case my_l35 => k_is); (case my_cc35 => k_is); (case my_k35 => k_is); (case my_a36 => k_is); (case my_l36 => k_is); (case my_cc36 => k_is); (case my_k36 => k_is)
   (case my_a37 => k_is); (case my_l37 => k_is); (case my_cc37 => k_is); (case my_k37 => k_is); (case my_a38 => k_is); (case my_l38 => k_is); (case my_cc38 => k_is); (case my_k38 => k_is)
   (case my_a39 => k_is); (case my_l39 => k_is); (case my_cc39 => k_is); (case my_k39 => k_is); (case my_a40 => k_is); (case my_l40 => k_is); (case my_cc40 => k_is); (case my_k40 => k_is)
   (case my_z0 => k_is); (case my_z1 => k_is); (case my_z2 => k_is); (case my_z3 => k_is); (case my_z4 => k_is); (case my_z5 => k_is); (case my_z6 => k_is); (case my_z7 => k_is)
   (case my_z8 => k_is); (case my_z9 => k_is); (case my_z10 => k_is); (case my_z11 => k_is); (case my_g0 => k_is); (case my_g1 => k_is); (case my_g2 => k_is); (case my_g3 => k_is)
   (case my_g4 => k_is); (case my_g5 => k_is); (case my_eT_cW => rfl); (case my_ic_cW => kernel_rfl); (case my_ic_cU => kernel_rfl); (case my_ic_cL => kernel_rfl); (case my_kit => kernel_rfl); (case my_eG => kernel_rfl)
   (case my_ei_cQ => kernel_rfl); (case my_xc_cQ => kernel_rfl); (case my_ei_cM => kernel_rfl); (case my_xc_cM => kernel_rfl); (case my_ei_cN => kernel_rfl); (case my_xc_cN => kernel_rfl); (case my_ei_cA => kernel_rfl); (case my_xc_cA => kernel_rfl)
   (case my_ei_cD => kernel_rfl); (case my_xc_cD => kernel_rfl); (case my_ei_cS => kernel_rfl); (case my_xc_cS => kernel_rfl); (case my_ei_cP => kernel_rfl); (case my_xc_cP => kernel_rfl); (case my_ktC => kernel_rfl)
