import PyProof.Rows.All
import Wide.All
import OpenK.AllK
import Wide.FinOn
import Lean
import PyProof.EqAt
import PyProof.EqKinds
import PyProof.TupleCall
import PyProof.Rows.SortRuns
import PyProof.NeKinds
import PyProof.ExcAttrAll.ValueError
import PyProof.StationsW
import PyProof.PassesOwn
import PyProof.RulesAs
import PyProof.NsDelKeeps
import PyProof.CompMap
import PyProof.DictItems
import KE.KPairComp
import KE.KMinKey
import KE.KDictList
import KE.KDictOf
import KE.KEqDict
import PyProof.DictIter
import PyProof.DictWalks
import PyProof.Rows.DictUnroll
import KE.KRevIter
import KE.KLam
import KE.KSortKey
import KE.KSortTup
import PyProof.Rows.StrJoin2
import PyProof.Rows.StrNews
import PyProof.StrLawsTight
import PyProof.StrWalks
import PyProof.StrBlockH
import KE.KIntText
import KE.LcSums
import KE.KNest
import PySem.Challenge.RW_glazebench_k70_a_pane_cut
set_option Elab.async false
set_option linter.all false
set_option maxRecDepth 100000
namespace L2
open PySem PySem.Spec PyProof.Rows
abbrev Key:=Sum Int Str
def keyIs:Key→Value→Bool
 | .inl k,v=>Value.isInt k v
 | .inr x,v=>Value.isStrOf x v
def keyH (w:World):Key→Int
 | .inl k=>hashInt k
 | .inr x=>hashStr w x
theorem Zbc:∀ {k:Key} {v:Value},keyIs k v=true→(∃ i t,k=Sum.inl i∧v=Value.int i t)∨(∃ x t,k=Sum.inr x∧v=Value.str x t)
 | .inl i,v,h=>by
  obtain ⟨t,e⟩:=Value.isInt_shape (k:=i) (v:=v) h
  exact .inl ⟨i,t,rfl,e⟩
 | .inr x,v,h=>by
  obtain ⟨t,e⟩:=Value.isStrOf_shape (x:=x) (v:=v) h
  exact .inr ⟨x,t,rfl,e⟩
theorem keyIs_int (i:Int) (t:Tok):keyIs (.inl i) (.int i t)=true:=by simp [keyIs,Value.isInt]
theorem keyIs_str (x:Str) (t:Tok):keyIs (.inr x) (.str x t)=true:=by simp [keyIs,Value.isStrOf]
theorem key_ll (a b:Int):decide ((Sum.inl a:Key)=Sum.inl b)=(a == b):=by
 by_cases e:a=b
 ·subst e; simp
 ·have h:¬ (Sum.inl a:Key)=Sum.inl b:=fun q=>e (Sum.inl.inj q)
  rw [decide_eq_false h]
  exact (beq_eq_false_iff_ne.mpr e).symm
theorem key_rr (a b:Str):decide ((Sum.inr a:Key)=Sum.inr b)=decide (a=b):=by
 by_cases e:a=b
 ·subst e; simp
 ·have h:¬ (Sum.inr a:Key)=Sum.inr b:=fun q=>e (Sum.inr.inj q)
  rw [decide_eq_false h,decide_eq_false e]
theorem key_lr (a:Int) (b:Str):decide ((Sum.inl a:Key)=Sum.inr b)=false:=decide_eq_false (fun q=>nomatch q)
theorem key_rl (a:Str) (b:Int):decide ((Sum.inr a:Key)=Sum.inl b)=false:=decide_eq_false (fun q=>nomatch q)
def Zbn (prog:Program) (w:World):PySem.KeyKind prog w Key where
 is:=keyIs
 hash:=keyH w
 inj:=fun v a b ha hb=>by
  rcases Zbc ha with ⟨i,t,rfl,rfl⟩ | ⟨x,t,rfl,rfl⟩
  ·rcases Zbc hb with ⟨j,u,rfl,e⟩ | ⟨y,u,rfl,e⟩
   ·injection e with e1 _; rw [e1]
   ·exact nomatch e
  ·rcases Zbc hb with ⟨j,u,rfl,e⟩ | ⟨y,u,rfl,e⟩
   ·exact nomatch e
   ·injection e with e1 _; rw [e1]
 byValue:=fun k v h=>by
  rcases Zbc h with ⟨i,t,rfl,rfl⟩ | ⟨x,t,rfl,rfl⟩ <;> rfl
 pyHash:=fun hv h=>by
  rcases Zbc hv with ⟨i,t,rfl,rfl⟩ | ⟨x,t,rfl,rfl⟩
  ·exact wpAny_pyHash_int h
  ·exact wpAny_pyHash_str h
 eqBool:=fun hu hv h=>by
  rcases Zbc hu with ⟨i,t,rfl,rfl⟩ | ⟨x,t,rfl,rfl⟩
  ·rcases Zbc hv with ⟨j,u,rfl,rfl⟩ | ⟨y,u,rfl,rfl⟩
   ·rw [key_ll] at h; exact wpAny_eqBool_int h
   ·rw [key_lr] at h; exact SeqAt.EqAt.int_str i t y u _ _ _ _ h
  ·rcases Zbc hv with ⟨j,u,rfl,rfl⟩ | ⟨y,u,rfl,rfl⟩
   ·rw [key_rl] at h; exact SeqAt.EqAt.str_int x t j u _ _ _ _ h
   ·rw [key_rr] at h; exact wpAny_eqBool_str h
 «strs»:=fun k x t v h=>by
  rcases Zbc h with ⟨i,u,rfl,e⟩ | ⟨y,u,rfl,e⟩
  ·exact nomatch e
  ·injection e with e1 _
   subst e1
   cases v <;> rfl
theorem Zj7 (prog:Program) (w:World) (i:Int) (t:Tok):(Zbn prog w).is (.inl i) (.int i t)=true:=keyIs_int i t
theorem Zj6 (prog:Program) (w:World) (x:Str) (t:Tok):(Zbn prog w).is (.inr x) (.str x t)=true:=keyIs_str x t
end L2
namespace L2
open PySem PySem.Spec PyProof.Rows
inductive V where
 | non | bl (b:Bool) | int (i:Int) | str (x:Str) | byt (b:Array UInt8) | flt (b:UInt64) | ref (a:Addr) | ty (n:String)
 deriving DecidableEq
def RelV:V→Value→Prop
 | .non,u=>u=Value.none
 | .bl b,u=>u=Value.bool b
 | .int i,u=>∃ t,u=Value.int i t
 | .str x,u=>∃ t,u=Value.str x t
 | .byt b,u=>∃ t,u=Value.bytes b t
 | .flt b,u=>∃ t,u=Value.float b t
 | .ref a,u=>u=Value.ref a
 | .ty n,u=>u=Value.type n
abbrev Vals:List V→List Value→Prop:=Paired RelV
theorem Vals.length {xs:List V} {us:List Value} (r:Vals xs us):xs.length=us.length:=Paired.length r
theorem Vals.get:∀ {xs:List V} {us:List Value} {i:Nat} {x:V},Vals xs us→xs[i]?=some x→∃ u,us[i]?=some u∧RelV x u
 | _,_,_,_,.nil,e=>by simp at e
 | _,_,0,_,.cons r _,e=>by simp at e; subst e; exact ⟨_,rfl,r⟩
 | _,_,i+1,x,.cons _ t,e=>by
  obtain ⟨u,h1,h2⟩:=Vals.get (i:=i) (x:=x) t (by simpa using e)
  exact ⟨u,by simpa using h1,h2⟩
theorem Vals.append:∀ {xs ys:List V} {us ws:List Value},Vals xs us→Vals ys ws→Vals (xs++ys) (us++ws)
 | _,_,_,_,.nil,s=>s
 | _,_,_,_,.cons r t,s=>.cons r (Vals.append t s)
theorem Vals.take:∀ {xs:List V} {us:List Value} (n:Nat),Vals xs us→Vals (xs.take n) (us.take n)
 | _,_,0,_=>.nil
 | _,_,_+1,.nil=>.nil
 | _,_,n+1,.cons r t=>.cons r (Vals.take n t)
theorem Vals.drop:∀ {xs:List V} {us:List Value} (n:Nat),Vals xs us→Vals (xs.drop n) (us.drop n)
 | _,_,0,r=>r
 | _,_,_+1,.nil=>.nil
 | _,_,n+1,.cons _ t=>Vals.drop n t
def RelO:Option V→Option Value→Prop
 | some v,some u=>RelV v u
 | none,none=>True
 | _,_=>False
def KV {κ:Type}:List (κ × V)→List (κ × Value)→Prop:=Paired fun (p:κ × V) (q:κ × Value)=>p.1=q.1∧RelV p.2 q.2
def kV:Key→V
 | .inl i=>.int i
 | .inr x=>.str x
inductive HO where
 | lst (xs:List V)
 | tup (xs:List V)
 | dK (kvs:List (Key × V)) | dT (kvs:List (List Key × V))
 | set (S:Int→Bool) (n:Nat)
 | ins (C dx:Addr) (fs:List (Str × V))
 | own (x:Addr)
 | xd (fs:List (Str × V))
 | met (f x:Addr)
 | rng (lo hi:Int)
 | frz (o:Obj) (u:HO)
 | tbl (ps:Array Value)
 | ext (φ:Heap→Prop)
abbrev Hp:=Addr→Option HO
def upd (H:Hp) (a:Addr) (o:HO):Hp:=fun b=>if b=a then some o else H b
theorem upd_same {H:Hp} {a:Addr} {o:HO}:upd H a o a=some o:=by unfold upd; rw [if_pos rfl]
theorem Zag {H:Hp} {a b:Addr} {o:HO} (h:b≠a):upd H a o b=H b:=by unfold upd; rw [if_neg h]
theorem ne_of {H:Hp} {a b:Addr} {o u:HO} (h:H a=some o) (h':H b=some u) (d:o≠u):a≠b:=by
 intro e; subst e; rw [h] at h'; exact d (Option.some.inj h')
theorem Zad {H:Hp} {a b:Addr} {o:HO} (h:H a=some o) (h':H b=none):a≠b:=by
 intro e; subst e; rw [h] at h'; cases h'
section
variable (P:Program) (w:World)
def ObjOk (H:Hp) (h:Heap) (a:Addr):HO→Prop
 | .lst xs=>xs.length≤sizeLine∧∃ (its:List Value) (n:Nat),Vals xs its∧h.get? a=some { cls:=.type "list",data:=.seq its.toArray n }
 | .tup xs=>xs.length≤sizeLine∧∃ its:List Value,Vals xs its∧IsTup h a its.toArray
 | .dK kvs=>kvs.length≤sizeLine∧(a == sysModules)=false∧∃ vs,KV kvs vs∧h.DictOf (Zbn P w) a vs
 | .dT kvs=>kvs.length≤sizeLine∧(a == sysModules)=false∧∃ xs:List (List Key × Addr × Value),
   Paired (fun (p:List Key × V) (q:List Key × Addr × Value)=>p.1=q.1∧H q.2.1=some (.tup (p.1.map kV))∧RelV p.2 q.2.2) kvs xs ∧
   ∃ o es ep,h.get? a=some o∧o.ExactDict∧o.data=.dict es ep∧es.toList=xs.map (entryOfKey (tupleKind (Zbn P w)))∧(xs.map (·.1)).Nodup
 | .set S n=>h.SetOf (intKind P w) a S n
 | .ins C dx fs=>H dx=some (.own a)∧fs.length≤1000∧dx≠a∧h.get? a=some (PySem.W.instObj C dx) ∧
   ∃ mA,h.Ns1 dx mA∧(∀ f,RelO (fs.lookup f) (mA f))∧PySem.Within mA (fs.map (·.1))
 | .own _=>∃ o,h.get? a=some o
 | .xd fs=>∃ mA,h.Ns1 a mA∧∀ f,RelO (fs.lookup f) (mA f)
 | .rng lo hi=>∃ t u v,h.get? a=some { cls:=.type "range",data:=.fields #[.int lo t,.int hi u,.int 1 v] }
 | .frz o u=>h.get? a=some o∧ObjOk H h a u
 | .tbl ps=>h.get? a=some { cls:=.none,data:=.fields ps }
 | .met f x=>h.get? a=some (PySem.W.methodObj (.ref f) (.ref x))
 | .ext φ=>φ h∧(∃ o,h.get? a=some o)∧∀ h1 h2:Heap,φ h1→(∀ o,h1.get? a=some o→h2.get? a=some o)→φ h2
def HOk (H:Hp) (h:Heap):Prop:=∀ a o,H a=some o→ObjOk P w H h a o
end
section
variable {P:Program} {w:World} {H H':Hp} {h h':Heap} {a:Addr} {o:HO}
theorem ObjOk.lt (x:ObjOk P w H h a o):a < h.objs.size:=by
 cases o with
 | lst xs=>obtain ⟨_,_,_,_,e⟩:=x; exact Heap.lt_size e
 | tup xs=>obtain ⟨_,_,_,p⟩:=x; exact p.lt
 | dK kvs=>obtain ⟨_,_,_,_,o,_,_,e,_⟩:=x; exact Heap.lt_size e
 | dT kvs=>obtain ⟨_,_,_,_,o,_,_,e,_⟩:=x; exact Heap.lt_size e
 | set S n=>obtain ⟨o,_,_,_,e,_⟩:=x; exact Heap.lt_size e
 | ins C dx fs=>obtain ⟨_,_,_,e,_⟩:=x; exact Heap.lt_size e
 | own y=>obtain ⟨_,e⟩:=x; exact Heap.lt_size e
 | xd fs=>obtain ⟨_,⟨_,_,_,e,_⟩,_⟩:=x; exact Heap.lt_size e
 | rng lo hi=>obtain ⟨_,_,_,e⟩:=x; exact Heap.lt_size e
 | frz ob u=>obtain ⟨e,_⟩:=x; exact Heap.lt_size e
 | tbl ps=>exact Heap.lt_size (show h.get? a=some _ from x)
 | met f y=>exact Heap.lt_size (show h.get? a=some _ from x)
 | ext φ=>obtain ⟨_,⟨_,e⟩,_⟩:=x; exact Heap.lt_size e
theorem Paired.mapP {α β:Type} {F G:α→β→Prop}:∀ {l₁:List α} {l₂:List β},Paired F l₁ l₂→(∀ a b,F a b→G a b)→Paired G l₁ l₂
 | _,_,.nil,_=>.nil
 | _,_,.cons r t,f=>.cons (f _ _ r) (Paired.mapP t f)
theorem ObjOk.stay (x:ObjOk P w H h a o) (k:∀ b u,(b=a∨H b=some (.own a))→h.get? b=some u→h'.get? b=some u)
  (ho:∀ b,H b=some (.own a)→H' b=some (.own a)) (ht:∀ b xs,H b=some (.tup xs)→H' b=some (.tup xs)):ObjOk P w H' h' a o:=by
 induction o with
 | lst xs=>obtain ⟨z,its,n,r,e⟩:=x; exact ⟨z,its,n,r,k _ _ (.inl rfl) e⟩
 | tup xs=>obtain ⟨z,its,r,ob,e,c⟩:=x; exact ⟨z,its,r,ob,k _ _ (.inl rfl) e,c⟩
 | dK kvs=>obtain ⟨z,y,vs,r,ob,es,ep,e,c⟩:=x; exact ⟨z,y,vs,r,ob,es,ep,k _ _ (.inl rfl) e,c⟩
 | dT kvs =>
  obtain ⟨z,y,xs,r,ob,es,ep,e,c⟩:=x
  exact ⟨z,y,xs,Paired.mapP r fun p q z=>⟨z.1,ht _ _ z.2.1,z.2.2⟩,ob,es,ep,k _ _ (.inl rfl) e,c⟩
 | set S n=>obtain ⟨ob,es,ep,t,e,c⟩:=x; exact ⟨ob,es,ep,t,k _ _ (.inl rfl) e,c⟩
 | ins C dx fs =>
  obtain ⟨d,z,ne,e,mA,⟨od,es,ep,e2,c⟩,r⟩:=x
  exact ⟨ho _ d,z,ne,k _ _ (.inl rfl) e,mA,⟨od,es,ep,k _ _ (.inr d) e2,c⟩,r⟩
 | own y=>obtain ⟨ob,e⟩:=x; exact ⟨ob,k _ _ (.inl rfl) e⟩
 | xd fs=>obtain ⟨mA,⟨od,es,ep,e,c⟩,r⟩:=x; exact ⟨mA,⟨od,es,ep,k _ _ (.inl rfl) e,c⟩,r⟩
 | rng lo hi=>obtain ⟨t,u,v,e⟩:=x; exact ⟨t,u,v,k _ _ (.inl rfl) e⟩
 | frz ob u ih=>obtain ⟨e,q⟩:=x; exact ⟨k _ _ (.inl rfl) e,ih q⟩
 | tbl ps =>
  have e:h.get? a=some { cls:=.none,data:=.fields ps }:=x
  show h'.get? a=some { cls:=.none,data:=.fields ps }
  exact k a _ (.inl rfl) e
 | met f y =>
  have e:h.get? a=some (PySem.W.methodObj (.ref f) (.ref y)):=x
  show h'.get? a=some (PySem.W.methodObj (.ref f) (.ref y))
  exact k a _ (.inl rfl) e
 | ext φ=>obtain ⟨p,⟨o,e⟩,st⟩:=x; exact ⟨st _ _ p fun o q=>k _ _ (.inl rfl) q,⟨o,k _ _ (.inl rfl) e⟩,st⟩
theorem HOk.lt (x:HOk P w H h) (e:H a=some o):a < h.objs.size:=(x a o e).lt
theorem HOk.fresh (x:HOk P w H h) (e:h.objs.size≤a):H a=none:=by
 cases q:H a with
 | none=>rfl
 | some u=>exact absurd (Nat.lt_of_lt_of_le (x.lt q) e) (Nat.lt_irrefl _)
theorem HOk.kept (x:HOk P w H h) (k:∀ b u,h.get? b=some u→h'.get? b=some u):HOk P w H h':=fun a o e =>
 (x a o e).stay (fun b u _ q=>k b u q) (fun _ q=>q) fun _ _ q=>q
theorem HOk.laid (x:HOk P w H h) (k:∀ b u,h.get? b=some u→h'.get? b=some u) (hp:h.objs.size≤a) (new:ObjOk P w (upd H a o) h' a o):HOk P w (upd H a o) h':=fun b u e=>by
 have hn:=x.fresh hp
 by_cases hb:b=a
 ·subst hb; rw [upd_same] at e; cases e; exact new
 ·rw [Zag hb] at e
  exact (x b u e).stay (fun c v _ q=>k c v q) (fun c q=>by rw [Zag (Zad q hn)]; exact q) fun c xs q=>by rw [Zag (Zad q hn)]; exact q
end
def Rd (H:Hp) (a:Addr) (u:HO):Prop:=H a=some u∨∃ o,H a=some (.frz o u)
theorem Rd.ok {P:Program} {w:World} {H:Hp} {h:Heap} {a:Addr} {u:HO} (r:Rd H a u) (x:HOk P w H h):ObjOk P w H h a u:=by
 rcases r with r | ⟨o,r⟩
 ·exact x a u r
 ·obtain ⟨_,q⟩:=x a _ r
  exact q
def Mut:Option HO→Prop
 | some (.lst _)=>True
 | some (.dK _)=>True
 | some (.dT _)=>True
 | some (.set _ _)=>True
 | some (.ins _ _ _)=>True
 | some (.ext _)=>True
 | _=>False
section
variable {P:Program} {w:World} {H:Hp} {h h':Heap} {x e:Addr} {o':HO}
theorem HOk.write (ok:HOk P w H h) (mu:Mut (H x)) (he:e=x∨H e=some (.own x)) (k:∀ b u,b≠e→h.get? b=some u→h'.get? b=some u) (heo:∃ u,h'.get? e=some u)
  (new:ObjOk P w (upd H x o') h' x o'):HOk P w (upd H x o') h':=fun b u q=>by
 have nown:∀ c y,H c=some (.own y)→c≠x:=fun c y r z=>by subst z; rw [r] at mu; exact mu
 have ntup:∀ c xs,H c=some (.tup xs)→c≠x:=fun c xs r z=>by subst z; rw [r] at mu; exact mu
 by_cases hb:b=x
 ·subst hb; rw [upd_same] at q; cases q; exact new
 ·rw [Zag hb] at q
  by_cases hbe:b=e
  ·have q':H b=some (.own x):=by
    rcases he with z | z
    ·exact absurd (hbe.trans z) hb
    ·rw [hbe]; exact z
   rw [q] at q'; cases q'
   obtain ⟨v,hv⟩:=heo
   exact ⟨v,by rw [hbe]; exact hv⟩
  ·refine (ok b u q).stay (fun c v hc r=>k c v ?_ r) (fun c r=>by rw [Zag (nown c b r)]; exact r) fun c xs r=>by rw [Zag (ntup c xs r)]; exact r
   rcases hc with rfl | hc
   ·exact hbe
   ·rintro rfl
    rcases he with z | z
    ·exact nown c b hc z
    ·rw [hc] at z; cases z; exact hb rfl
end
structure Un (fs ex:List Addr) (H H':Hp) (h h':Heap):Prop where
 keep:∀ b o,h.get? b=some o→H b=none→b ∉ fs→b ∉ ex→h'.get? b=some o
 slot:∀ b o,h.get? b=some o→H b=none→b∈fs→b ∉ ex→∃ sl,h'.get? b=some { o with slots:=sl }
 free:∀ b o,h.get? b=some o→H b=none→b ∉ ex→H' b=none
 there:∀ b o,h.get? b=some o→b ∉ ex→∃ o',h'.get? b=some o'
 tups:∀ b xs,H b=some (.tup xs)→H' b=some (.tup xs)
 frzs:∀ b o u,H b=some (.frz o u)→H' b=some (.frz o u)
 tbls:∀ b ps,H b=some (.tbl ps)→∃ more,H' b=some (.tbl (ps++more))
section
variable {fs fs' ex ex':List Addr} {H H1 H2:Hp} {h h1 h2 h':Heap} {a x e:Addr} {o:HO}
theorem Un.any (u:Un fs ex H H1 h h1) {b:Addr} {ob:Obj} (q:h.get? b=some ob) (n:H b=none) (hx:b ∉ ex):∃ sl,h1.get? b=some { ob with slots:=sl }:=by
 by_cases hb:b∈fs
 ·exact u.slot b ob q n hb hx
 ·exact ⟨ob.slots,u.keep b ob q n hb hx⟩
theorem Un.kept (k:∀ b u,h.get? b=some u→h'.get? b=some u):Un fs ex H H h h' :=
 ⟨fun b ob q _ _ _=>k b ob q,fun b ob q _ _ _=>⟨ob.slots,k b ob q⟩,fun _ _ _ n _=>n,fun b ob q _=>⟨ob,k b ob q⟩,fun _ _ q=>q,fun _ _ _ q=>q,fun _ ps q=>⟨#[],by rw [q]; simp⟩⟩
theorem Un.refl:Un fs ex H H h h:=Un.kept fun _ _ q=>q
theorem Un.laid (k:∀ b u,h.get? b=some u→h'.get? b=some u) (hp:h.objs.size≤a) (hn:H a=none):Un fs ex H (upd H a o) h h' where
 keep:=fun b u q _ _ _=>k b u q
 slot:=fun b u q _ _ _=>⟨u.slots,k b u q⟩
 free:=fun b u q n _=>by rw [Zag (Nat.ne_of_lt (Nat.lt_of_lt_of_le (Heap.lt_size q) hp))]; exact n
 there:=fun b u q _=>⟨u,k b u q⟩
 tups:=fun b xs q=>by rw [Zag (Zad q hn)]; exact q
 frzs:=fun b u xs q=>by rw [Zag (Zad q hn)]; exact q
 tbls:=fun b ps q=>⟨#[],by rw [Zag (Zad q hn),q]; simp⟩
theorem Un.write (mu:Mut (H x)) (he:e=x∨H e=some (.own x)) (k:∀ b u,b≠e→h.get? b=some u→h'.get? b=some u) (heo:∃ u,h'.get? e=some u):Un fs ex H (upd H x o) h h':=by
 have hx:∀ b,H b=none→b≠x:=fun b n z=>by subst z; rw [n] at mu; exact mu
 have hb:∀ b,H b=none→b≠e:=fun b n z=>by
  subst z
  rcases he with r | r
  ·exact hx b n r
  ·rw [n] at r; cases r
 have hm:∀ b u,H b=some u→¬ Mut (some u)→b≠x:=fun b u q nm z=>by subst z; rw [q] at mu; exact nm mu
 refine ⟨fun b u q n _ _=>k b u (hb b n) q,fun b u q n _ _=>⟨u.slots,k b u (hb b n) q⟩,fun b u q n _=>by rw [Zag (hx b n)]; exact n,fun b u q _=>?_,
  fun b xs q=>by rw [Zag (hm b _ q fun z=>z)]; exact q,fun b u xs q=>by rw [Zag (hm b _ q fun z=>z)]; exact q,fun b ps q=>⟨#[],by rw [Zag (hm b _ q fun z=>z),q]; simp⟩⟩
 by_cases hbe:b=e
 ·subst hbe; exact heo
 ·exact ⟨u,k b u hbe q⟩
end
def trk (h:Heap) (H:Hp):List Addr:=(List.range h.objs.size).filter fun a=>(H a).isSome
def hidT (h:Heap) (H:Hp):Heap:=PySem.W.hideAll h (trk h H)
theorem Zit (h:Heap) (H:Hp):(hidT h H).objs.size=h.objs.size:=PySem.W.hideAll_size _ _
theorem hidT_get {h:Heap} {H:Hp} {b:Addr} {o:Obj} (e:h.get? b=some o) (n:H b=none):(hidT h H).get? b=some o :=
 PySem.W.hideAll_get _ e fun hm=>by
  have q:(H b).isSome=true:=(List.mem_filter.mp hm).2
  rw [n] at q; simp at q
theorem of_hidT {h:Heap} {H:Hp} {b:Addr} {o:Obj} (e:(hidT h H).get? b=some o):h.get? b=some o∧H b=none:=by
 have e':h.get? b=some o:=PySem.W.of_hideAll (trk h H) e
 refine ⟨e',?_⟩
 cases q:H b with
 | none=>rfl
 | some x =>
  have hm:b∈trk h H:=List.mem_filter.mpr ⟨List.mem_range.mpr (Heap.lt_size e'),by simp [q]⟩
  have z:(hidT h H).get? b=none:=PySem.W.hideAll_none (trk h H) hm
  rw [z] at e; cases e
def allNews (g h:Heap) (L:Addr):List (Addr × Obj):=(List.range h.objs.size).filterMap fun a=>if a=L∨(g.get? a).isSome=true then none else (h.get? a).map fun o=>(a,o)
def rest (g h:Heap) (L d:Addr):List (Addr × Obj):=(allNews g h L).filter fun p=>decide (p.1≠d)
end L2
namespace L2
open PySem PySem.Spec PyProof.Rows
structure Mod (K:PySem.W.Frag) (mg:Str→Option Value) (base:Heap):Prop where
 kin:K.In base
 glob:base.Ns mainGlobals mg
 blt:∃ mb,base.Ns builtinsNs mb∧∀ x:Str,x≠"__name__"→mb x=bootBuiltins x
 nolimit:base.NoLimit
structure Cx where
 prog:Program
 w:World
 K:PySem.W.Frag
 mg:Str→Option Value
 base:Heap
 A:Around
 N:List Str
 s₀:Shared
 H₀:Hp
 env:Env
 outer:List Env
 stack:List Env
 ex:List Addr
 fn:Str→Bool
 calm:Bool
 pn:List (Addr × Obj)
 xe:Value→Shared→Prop
def frs (l:List Env):List Addr:=l.filterMap (·.frame)
abbrev Cx.fs (X:Cx):List Addr:=frs X.outer
def Vis (sc:Scope) (x:Str):Prop:=sc.names.lookup x=some .local∨sc.names.lookup x=some .cell∨sc.names.lookup x=some .free
def Loc (sc:Scope) (x:Str):Prop:=sc.names.lookup x=some .local∨sc.names.lookup x=some .cell
def Look (env:Env) (h:Heap) (m:Str→Option Value) (x:Str) (u:Value):Prop :=
 (env.kindOf x=some .local∧m x=some u)∨((env.kindOf x=some .cell∨env.kindOf x=some .free)∧∃ c,env.cells.lookup x=some c∧h.IsCell c (some u))
structure Cx.Ok (X:Cx):Prop where
 mod:Mod X.K X.mg X.base
 kind:X.env.scope.kind=.function
 glob:X.env.globals=mainGlobals
 blt:X.env.builtins=builtinsNs
 above:X.s₀.heap.objs.size≤X.env.locals
 inj:∀ x y c,X.env.cells.lookup x=some c→X.env.cells.lookup y=some c→x=y
 has:∀ x,(X.env.kindOf x=some .cell∨X.env.kindOf x=some .free)→∃ c,X.env.cells.lookup x=some c
 cab:∀ x c,X.fn x=true→X.env.cells.lookup x=some c→X.s₀.heap.objs.size≤c
 hd:X.calm=true→X.A.handled=none
 frames:X.A.frames=some X.stack
 stk:X.stack=X.outer∨(X.stack=X.env :: X.outer∧X.env.frame=some X.env.locals)
 exf:∀ b∈X.ex,b≠X.env.locals∧∀ x c,X.env.cells.lookup x=some c→c≠b
 bs:∀ b o,X.base.get? b=some o→X.s₀.heap.get? b=some o∧X.H₀ b=none
 bsz:X.base.objs.size≤X.s₀.heap.objs.size
 noex:∀ b o,X.base.get? b=some o→b ∉ X.ex
 exfs:∀ b∈X.ex,b ∉ X.fs
 funs:X.s₀.heap.FunFrames X.base X.outer
 frf:∀ b∈X.fs,X.H₀ b=none
structure Inv (X:Cx) (pins:List (Addr × Obj)) (σ:List (Option V)) (H:Hp) (s:Shared):Prop where
 ok:X.Ok
 os:s.os=X.s₀.os
 bare:AllBare s.gens
 base:Un X.fs X.ex X.H₀ H X.s₀.heap s.heap
 loc:∃ m,s.heap.Ns X.env.locals m∧∀ (i:Nat) (x:Str) (v:V),X.N[i]?=some x→σ[i]?=some (some v)→Vis X.env.scope x→∃ u,RelV v u∧Look X.env s.heap m x u
 cell:∀ x c,X.env.cells.lookup x=some c→∃ v,s.heap.IsCell c v
 free:H X.env.locals=none
 freeC:∀ x c,X.env.cells.lookup x=some c→H c=none
 pin:∀ p∈X.pn++pins,s.heap.get? p.1=some p.2∧H p.1=none∧p.1≠X.env.locals∧p.1 ∉ X.fs∧∀ v,p.2.data≠.cell v
 hok:HOk X.prog X.w H s.heap
 len:σ.length=X.N.length
section
variable {X:Cx} {pins:List (Addr × Obj)} {σ:List (Option V)} {H H':Hp} {s:Shared} {h':Heap}
theorem Cx.Ok.nofr (ok:X.Ok) {b:Addr} {o:Obj} (e:X.base.get? b=some o):b ∉ X.fs:=fun hb=>by
 have:=(ok.funs.mem hb).1
 rw [e] at this; cases this
theorem Inv.bs (I:Inv X pins σ H s):∀ b o,X.base.get? b=some o→s.heap.get? b=some o∧H b=none:=fun b o e =>
 ⟨I.base.keep b o (I.ok.bs b o e).1 (I.ok.bs b o e).2 (I.ok.nofr e) (I.ok.noex b o e),I.base.free b o (I.ok.bs b o e).1 (I.ok.bs b o e).2 (I.ok.noex b o e)⟩
theorem Inv.bk (I:Inv X pins σ H s):∀ b o,X.base.get? b=some o→s.heap.get? b=some o:=fun b o e=>(I.bs b o e).1
theorem Inv.mod (I:Inv X pins σ H s):Mod X.K X.mg X.base:=I.ok.mod
theorem Inv.kIn (I:Inv X pins σ H s):X.K.In s.heap:=I.ok.mod.kin.keeps I.bk
theorem Inv.lt (I:Inv X pins σ H s):X.env.locals < s.heap.objs.size:=let ⟨_,hn,_⟩:=I.loc; hn.lt
theorem Inv.sz (I:Inv X pins σ H s):X.s₀.heap.objs.size≤s.heap.objs.size:=Nat.le_trans I.ok.above (Nat.le_of_lt I.lt)
theorem Inv.nofs (I:Inv X pins σ H s) {a:Addr} (h:s.heap.objs.size≤a):a ∉ X.fs:=fun hb=>by
 obtain ⟨_,o,ho,_⟩:=I.ok.funs.mem hb
 exact absurd (Nat.lt_of_lt_of_le (Heap.lt_size ho) (Nat.le_trans I.sz h)) (Nat.lt_irrefl _)
theorem Inv.cne (I:Inv X pins σ H s):∀ x c,X.env.cells.lookup x=some c→c≠X.env.locals:=fun x c e z=>by
 obtain ⟨v,o,ho,hd⟩:=I.cell x c e
 obtain ⟨m,⟨o',es,ep,ho',hd',_⟩,_⟩:=I.loc
 rw [z,ho'] at ho; cases ho; rw [hd'] at hd; cases hd
theorem Inv.funs (I:Inv X pins σ H s):s.heap.FunFrames X.base X.outer:=by
 have all:∀ (l:List Env),(∀ b∈frs l,b∈X.fs)→X.s₀.heap.FunFrames X.base l→s.heap.FunFrames X.base l:=by
  intro l
  induction l with
  | nil=>intro _ _; trivial
  | cons env r ih =>
   intro hs hl
   obtain ⟨hk,⟨L,o,hf,hn,ho,hd⟩,hr⟩:=hl
   have hL:L∈X.fs:=hs L (by unfold frs; rw [List.filterMap_cons,hf]; exact List.mem_cons_self)
   obtain ⟨sl,e⟩:=I.base.slot L o ho (I.ok.frf L hL) hL fun z=>I.ok.exfs L z hL
   exact ⟨hk,⟨L,_,hf,hn,e,hd⟩,ih (fun b hb=>hs b (by unfold frs; rw [List.filterMap_cons,hf]; exact List.mem_cons_of_mem _ hb)) hr⟩
 exact all X.outer (fun _ hb=>hb) I.ok.funs
theorem Inv.stack (I:Inv X pins σ H s):s.heap.FunFrames X.base X.stack:=by
 rcases I.ok.stk with e | ⟨e,hf⟩
 ·rw [e]; exact I.funs
 ·rw [e]
  obtain ⟨m,hn,_⟩:=I.loc
  refine .cons (by rw [I.ok.kind]; decide) hf hn ?_ I.funs
  exact Heap.get?_none_of_le (Nat.le_trans I.ok.bsz I.ok.above)
theorem Inv.stkSub (I:Inv X pins σ H s):∀ b∈frs X.stack,b∈X.env.locals :: X.fs:=fun b hb=>by
 rcases I.ok.stk with e | ⟨e,hf⟩
 ·rw [e] at hb; exact List.mem_cons_of_mem _ hb
 ·rw [e] at hb
  unfold frs at hb
  rw [List.filterMap_cons,hf] at hb
  exact hb
theorem Inv.stkFree (I:Inv X pins σ H s):∀ b∈frs X.stack,H b=none:=fun b hb=>by
 rcases List.mem_cons.mp (I.stkSub b hb) with e | hb
 ·rw [e]; exact I.free
 ·obtain ⟨_,o,ho,_⟩:=I.ok.funs.mem hb
  exact I.base.free b o ho (I.ok.frf b hb) fun z=>I.ok.exfs b z hb
theorem Inv.step {g':Array GenState} {t':Nat} {d':Drawn} {ch:List Addr} (I:Inv X pins σ H s)
  (hch:∀ b∈ch,(b∈X.ex∨X.s₀.heap.objs.size≤b)∧b≠X.env.locals∧(∀ x c,X.env.cells.lookup x=some c→c≠b)∧∀ p∈X.pn++pins,p.1≠b)
  (keep:∀ b o,b≠X.env.locals→b ∉ X.fs→b ∉ ch→s.heap.get? b=some o→H b=none→h'.get? b=some o)
  (slot:∀ b o,b≠X.env.locals→b∈X.fs→b ∉ ch→s.heap.get? b=some o→H b=none→∃ sl,h'.get? b=some { o with slots:=sl }) (free:∀ b o,b ∉ ch→s.heap.get? b=some o→H b=none→H' b=none)
  (there:∀ b o,b ∉ ch→s.heap.get? b=some o→∃ o',h'.get? b=some o')
  (tups:∀ b xs,H b=some (.tup xs)→H' b=some (.tup xs)) (frzs:∀ b o u,H b=some (.frz o u)→H' b=some (.frz o u)) (tbls:∀ b ps,H b=some (.tbl ps)→∃ more,H' b=some (.tbl (ps++more)))
  (ns:∀ m,s.heap.Ns X.env.locals m→h'.Ns X.env.locals m) (hok:HOk X.prog X.w H' h') (hg:AllBare g') :
  Inv X pins σ H' { s with heap:=h',gens:=g',drawn:=d',toks:=t' }:=by
 have neL:∀ b o,X.s₀.heap.get? b=some o→b≠X.env.locals:=fun b o e=>Nat.ne_of_lt (Nat.lt_of_lt_of_le (Heap.lt_size e) I.ok.above)
 have neC:∀ b o,X.s₀.heap.get? b=some o→b ∉ X.ex→b ∉ ch:=fun b o e hx hb=>by
  rcases (hch b hb).1 with z | z
  ·exact hx z
  ·exact absurd (Nat.lt_of_lt_of_le (Heap.lt_size e) z) (Nat.lt_irrefl _)
 have cellK:∀ x c,X.env.cells.lookup x=some c→∀ v,s.heap.IsCell c v→h'.IsCell c v:=fun x c e v ⟨o,ho,hd⟩=>by
  have nch:c ∉ ch:=fun z=>(hch c z).2.2.1 x c e rfl
  by_cases hc:c∈X.fs
  ·obtain ⟨sl,q⟩:=slot c o (I.cne x c e) hc nch ho (I.freeC x c e)
   exact ⟨_,q,hd⟩
  ·exact ⟨o,keep c o (I.cne x c e) hc nch ho (I.freeC x c e),hd⟩
 refine ⟨I.ok,I.os,hg,⟨fun b o e n hb hx=>?_,fun b o e n hb hx=>?_,fun b o e n hx=>?_,fun b o e hx=>?_,fun b xs e=>tups b xs (I.base.tups b xs e),fun b o xs e=>frzs b o xs (I.base.frzs b o xs e),fun b ps e=>?_⟩,?_,fun x c e=>?_,?_,fun x c e=>?_,fun p hp=>?_,hok,I.len⟩
 ·exact keep b o (neL b o e) hb (neC b o e hx) (I.base.keep b o e n hb hx) (I.base.free b o e n hx)
 ·obtain ⟨sl,e1⟩:=I.base.slot b o e n hb hx
  obtain ⟨sl',e2⟩:=slot b _ (neL b o e) hb (neC b o e hx) e1 (I.base.free b o e n hx)
  exact ⟨sl',e2⟩
 ·obtain ⟨o',e1⟩:=I.base.there b o e hx
  exact free b o' (neC b o e hx) e1 (I.base.free b o e n hx)
 ·obtain ⟨o',e1⟩:=I.base.there b o e hx
  exact there b o' (neC b o e hx) e1
 ·obtain ⟨m1,e1⟩:=I.base.tbls b ps e
  obtain ⟨m2,e2⟩:=tbls b _ e1
  exact ⟨m1++m2,by rw [e2,Array.append_assoc]⟩
 ·obtain ⟨m,hn,hl⟩:=I.loc
  refine ⟨m,ns m hn,fun i x v e1 e2 e3=>?_⟩
  obtain ⟨u,r,l⟩:=hl i x v e1 e2 e3
  refine ⟨u,r,?_⟩
  rcases l with l | ⟨k,c,e,z⟩
  ·exact .inl l
  ·exact .inr ⟨k,c,e,cellK x c e _ z⟩
 ·obtain ⟨v,z⟩:=I.cell x c e
  exact ⟨v,cellK x c e v z⟩
 ·obtain ⟨m,⟨o,_,_,ho,_⟩,_⟩:=I.loc
  exact free _ o (fun z=>(hch _ z).2.1 rfl) ho I.free
 ·obtain ⟨v,o,ho,hd⟩:=I.cell x c e
  exact free c o (fun z=>(hch c z).2.2.1 x c e rfl) ho (I.freeC x c e)
 ·obtain ⟨e,n,ne,nf,d⟩:=I.pin p hp
  have nch:p.1 ∉ ch:=fun z=>(hch p.1 z).2.2.2 p hp rfl
  exact ⟨keep p.1 p.2 ne nf nch e n,free p.1 p.2 nch e n,ne,nf,d⟩
theorem Inv.un {t':Nat} (I:Inv X pins σ H s) (u:Un X.fs [] H H' s.heap h') (hok:HOk X.prog X.w H' h'):Inv X pins σ H' { s with heap:=h',toks:=t' }:=by
 obtain ⟨m,⟨o,es,ep,ho,r⟩,_⟩:=id I.loc
 obtain ⟨sl,hL⟩:=u.any ho I.free (by simp)
 exact I.step (g':=s.gens) (d':=s.drawn) (ch:=[]) (fun _ z=>nomatch z) (fun b o _ hb _ e n=>u.keep b o e n hb (by simp)) (fun b o _ hb _ e n=>u.slot b o e n hb (by simp)) (fun b o _ e n=>u.free b o e n (by simp)) (fun b o _ e=>u.there b o e (by simp)) u.tups u.frzs u.tbls (fun m' hm=>by
  obtain ⟨o',es',ep',ho',r'⟩:=hm
  rw [ho] at ho'; cases ho'
  exact ⟨_,es',ep',hL,r'⟩) hok I.bare
theorem Inv.call {g':Array GenState} {t':Nat} {d':Drawn} {ch:List Addr} (I:Inv X pins σ H s) (u:Un (frs X.stack) ch H H' s.heap h') (hok:HOk X.prog X.w H' h') (hg:AllBare g')
  (hch:∀ b∈ch,(b∈X.ex∨X.s₀.heap.objs.size≤b)∧b≠X.env.locals∧(∀ x c,X.env.cells.lookup x=some c→c≠b)∧∀ p∈X.pn++pins,p.1≠b) :
  Inv X pins σ H' { s with heap:=h',gens:=g',drawn:=d',toks:=t' }:=by
 obtain ⟨m,⟨o,es,ep,ho,r⟩,_⟩:=id I.loc
 obtain ⟨sl,hL⟩:=u.any ho I.free fun z=>(hch _ z).2.1 rfl
 exact I.step (ch:=ch) hch (fun b o hL hb hc e n=>u.keep b o e n (fun z=>(List.mem_cons.mp (I.stkSub b z)).elim hL hb) hc) (fun b o _ _ hc e n=>u.any e n hc) (fun b o hc e n=>u.free b o e n hc) (fun b o hc e=>u.there b o e hc) u.tups u.frzs u.tbls (fun m' hm=>by
  obtain ⟨o',es',ep',ho',r'⟩:=hm
  rw [ho] at ho'; cases ho'
  exact ⟨_,es',ep',hL,r'⟩) hok hg
theorem Inv.turned {t':Nat} {it:Addr} (I:Inv X pins σ H s) (k:∀ b o,b≠it→s.heap.get? b=some o→h'.get? b=some o) (hn:H it=none) (hL:it≠X.env.locals)
  (h1:it∈X.ex∨X.s₀.heap.objs.size≤it) (h2:∀ x c,X.env.cells.lookup x=some c→c≠it) (h3:∀ p∈X.pn++pins,p.1≠it):Inv X pins σ H { s with heap:=h',toks:=t' }:=by
 have nit:∀ b u,H b=some u→b≠it:=fun b u e z=>by rw [z,hn] at e; cases e
 refine I.step (g':=s.gens) (d':=s.drawn) (ch:=[it]) (fun b hb=>?_) (fun b o _ _ hc e _=>k b o (fun z=>hc (by simp [z])) e) (fun b o _ _ hc e _=>⟨o.slots,k b o (fun z=>hc (by simp [z])) e⟩) (fun _ _ _ _ n=>n)
  (fun b o hc e=>⟨o,k b o (fun z=>hc (by simp [z])) e⟩) (fun _ _ e=>e) (fun _ _ _ e=>e) (fun b ps e=>⟨#[],by rw [e]; simp⟩) (fun m hm=>?_) (fun b u e=>?_) I.bare
 ·have e:b=it:=by simpa using hb
  subst e
  exact ⟨h1,hL,h2,h3⟩
 ·obtain ⟨o,es,ep,ho,r⟩:=hm
  exact ⟨o,es,ep,k _ o (Ne.symm hL) ho,r⟩
 ·refine (I.hok b u e).stay (fun c v hc q=>k c v ?_ q) (fun _ q=>q) fun _ _ q=>q
  rcases hc with z | z
  ·rw [z]; exact nit b u e
  ·exact nit c _ z
theorem Inv.tok (I:Inv X pins σ H s) (t:Nat):Inv X pins σ H { s with toks:=t }:=I.un (h':=s.heap) (t':=t) Un.refl I.hok
theorem Inv.kept {t':Nat} (I:Inv X pins σ H s) (k:∀ b u,s.heap.get? b=some u→h'.get? b=some u):Inv X pins σ H { s with heap:=h',toks:=t' }:=I.un (Un.kept k) (I.hok.kept k)
theorem Inv.laid {a:Addr} {o:HO} {t':Nat} (I:Inv X pins σ H s) (k:∀ b u,s.heap.get? b=some u→h'.get? b=some u) (hp:s.heap.objs.size≤a) (new:ObjOk X.prog X.w (upd H a o) h' a o) :
  Inv X pins σ (upd H a o) { s with heap:=h',toks:=t' }:=I.un (Un.laid k hp (I.hok.fresh hp)) (I.hok.laid k hp new)
theorem Inv.write {x e:Addr} {o:HO} {t':Nat} (I:Inv X pins σ H s) (mu:Mut (H x)) (he:e=x∨H e=some (.own x)) (k:∀ b u,b≠e→s.heap.get? b=some u→h'.get? b=some u) (heo:∃ u,h'.get? e=some u)
  (new:ObjOk X.prog X.w (upd H x o) h' x o):Inv X pins σ (upd H x o) { s with heap:=h',toks:=t' }:=I.un (Un.write mu he k heo) (I.hok.write mu he k heo new)
theorem Inv.pins_of {pins':List (Addr × Obj)} (I:Inv X pins σ H s) (h:∀ p∈pins',s.heap.get? p.1=some p.2∧H p.1=none∧p.1≠X.env.locals∧p.1 ∉ X.fs∧∀ v,p.2.data≠.cell v):Inv X pins' σ H s :=
 ⟨I.ok,I.os,I.bare,I.base,I.loc,I.cell,I.free,I.freeC,fun p hp=>(List.mem_append.mp hp).elim (fun z=>I.pin p (List.mem_append_left _ z)) (h p),I.hok,I.len⟩
theorem Zhk {N:List Str} (hN:N.Nodup) {i j:Nat} {x:Str} (a:N[i]?=some x) (b:N[j]?=some x):i=j:=by
 obtain ⟨h1,e1⟩:=List.getElem?_eq_some_iff.mp a
 obtain ⟨h2,e2⟩:=List.getElem?_eq_some_iff.mp b
 exact (List.getElem_inj hN).mp (e1.trans e2.symm)
theorem store_ok2 {M:Model} {A:Around} {E:Value→Shared→Prop} {i:Nat} {x:Str} {v:V} {u:Value} {Q:Unit→Shared→Prop} (I:Inv X pins σ H s) (hN:X.N.Nodup) (hi:X.N[i]?=some x) (hx:Loc X.env.scope x) (r:RelV v u)
  (h:∀ s',Inv X pins (σ.set i (some v)) H s'→(∃ a,Heap.SameBut a s.heap s'.heap∧(a=X.env.locals∨X.env.cells.lookup x=some a))→Q () s') (hf:X.fn x=true∨X.env.scope.names.lookup x=some .local:=by first | exact .inl rfl | exact .inr rfl | assumption):wpAny M A (storeName X.env x u) Q E s:=by
 obtain ⟨m,hn,hl⟩:=id I.loc
 have hcls:(X.env.scope.kind == .class || (X.env.scope.kind == .module && X.env.locals != X.env.globals))=false:=by rw [I.ok.kind]; rfl
 have hiσ:i < σ.length:=by rw [I.len]; exact (List.getElem?_eq_some_iff.mp hi).1
 have cne:=I.cne
 have tracked:∀ {a:Addr} {h':Heap},(∃ o,s.heap.get? a=some o∧H a=none)→Heap.SameBut a s.heap h'→HOk X.prog X.w H h':=fun {a h'} ha hs b ob e=>by
  obtain ⟨_,_,hfree⟩:=ha
  refine (I.hok b ob e).stay (fun c w' hc q=>(hs.2 c ?_).trans q) (fun _ q=>q) fun _ _ q=>q
  rintro rfl
  rcases hc with rfl | hc
  ·rw [hfree] at e; cases e
  ·rw [hfree] at hc; cases hc
 rcases hx with hk | hk
 ·refine wpAny_storeName_local hk hn (fun h' hn' hs=>?_) hcls
  obtain ⟨oL,_,_,hoL,_⟩:=id hn
  refine h _ ⟨I.ok,I.os,I.bare,⟨fun b o e n hb hx=>?_,fun b o e n hb hx=>?_,I.base.free,fun b o e hx=>?_,I.base.tups,I.base.frzs,I.base.tbls⟩,⟨_,hn',fun j y v' e1 e2 e3=>?_⟩,fun y c e=>?_,I.free,I.freeC,fun p hp=>?_,tracked ⟨oL,hoL,I.free⟩ hs,by simpa using I.len⟩ ⟨_,hs,.inl rfl⟩
  ·exact (hs.2 b (Nat.ne_of_lt (Nat.lt_of_lt_of_le (Heap.lt_size e) I.ok.above))).trans (I.base.keep b o e n hb hx)
  ·obtain ⟨sl,e1⟩:=I.base.slot b o e n hb hx
   exact ⟨sl,(hs.2 b (Nat.ne_of_lt (Nat.lt_of_lt_of_le (Heap.lt_size e) I.ok.above))).trans e1⟩
  ·obtain ⟨o',e1⟩:=I.base.there b o e hx
   exact ⟨o',(hs.2 b (Nat.ne_of_lt (Nat.lt_of_lt_of_le (Heap.lt_size e) I.ok.above))).trans e1⟩
  ·by_cases hj:j=i
   ·subst hj
    rw [hi] at e1; cases e1
    rw [List.getElem?_set_self hiσ] at e2
    cases e2
    exact ⟨u,r,.inl ⟨hk,by simp⟩⟩
   ·rw [List.getElem?_set_ne (Ne.symm hj)] at e2
    obtain ⟨u',r',q⟩:=hl j y v' e1 e2 e3
    refine ⟨u',r',?_⟩
    rcases q with ⟨k,e⟩ | ⟨k,c,e,z⟩
    ·refine .inl ⟨k,?_⟩
     have:y≠x:=fun e=>hj (Zhk hN e1 (e ▸ hi))
     simp [this,e]
    ·exact .inr ⟨k,c,e,z.sameBut hs (cne y c e)⟩
  ·obtain ⟨w',z⟩:=I.cell y c e
   exact ⟨w',z.sameBut hs (cne y c e)⟩
  ·obtain ⟨e,n,ne,nf,d⟩:=I.pin p hp
   exact ⟨(hs.2 p.1 ne).trans e,n,ne,nf,d⟩
 ·have hfn:X.fn x=true:=by
   rcases hf with z | z
   ·exact z
   ·rw [z] at hk; cases hk
  obtain ⟨c,hc⟩:=I.ok.has x (.inl hk)
  obtain ⟨w',z⟩:=I.cell x c hc
  refine wpAny_storeName_cell I.ok.kind hk hc z (fun h' hc' hs=>?_)
  obtain ⟨oc,hoc,hocd⟩:=id z
  refine h { s with heap:=h' } ⟨I.ok,I.os,I.bare,⟨fun b o e n hb hx=>?_,fun b o e n hb hx=>?_,I.base.free,fun b o e hx=>?_,I.base.tups,I.base.frzs,I.base.tbls⟩,⟨m,hn.sameBut hs (Ne.symm (cne x c hc)),fun j y v' e1 e2 e3=>?_⟩,fun y c' e=>?_,I.free,I.freeC,fun p hp=>?_,tracked ⟨oc,hoc,I.freeC x c hc⟩ hs,by simpa using I.len⟩ ⟨c,hs,.inr hc⟩
  ·exact (hs.2 b (Nat.ne_of_lt (Nat.lt_of_lt_of_le (Heap.lt_size e) (I.ok.cab x c hfn hc)))).trans (I.base.keep b o e n hb hx)
  ·obtain ⟨sl,e1⟩:=I.base.slot b o e n hb hx
   exact ⟨sl,(hs.2 b (Nat.ne_of_lt (Nat.lt_of_lt_of_le (Heap.lt_size e) (I.ok.cab x c hfn hc)))).trans e1⟩
  ·obtain ⟨o',e1⟩:=I.base.there b o e hx
   exact ⟨o',(hs.2 b (Nat.ne_of_lt (Nat.lt_of_lt_of_le (Heap.lt_size e) (I.ok.cab x c hfn hc)))).trans e1⟩
  ·by_cases hj:j=i
   ·subst hj
    rw [hi] at e1; cases e1
    rw [List.getElem?_set_self hiσ] at e2
    cases e2
    exact ⟨u,r,.inr ⟨.inl hk,c,hc,hc'⟩⟩
   ·rw [List.getElem?_set_ne (Ne.symm hj)] at e2
    obtain ⟨u',r',q⟩:=hl j y v' e1 e2 e3
    refine ⟨u',r',?_⟩
    rcases q with q | ⟨k,c',e,z'⟩
    ·exact .inl q
    ·refine .inr ⟨k,c',e,z'.sameBut hs ?_⟩
     rintro rfl
     exact hj (Zhk hN e1 (I.ok.inj _ _ _ e hc ▸ hi))
  ·by_cases hcc:c'=c
   ·subst hcc; exact ⟨_,hc'⟩
   ·obtain ⟨w2,z2⟩:=I.cell y c' e
    exact ⟨w2,z2.sameBut hs hcc⟩
  ·obtain ⟨e,n,ne,nf,d⟩:=I.pin p hp
   refine ⟨(hs.2 p.1 ?_).trans e,n,ne,nf,d⟩
   intro q
   rw [q,hoc] at e
   have q':oc=p.2:=Option.some.inj e
   exact d w' (by rw [← q']; exact hocd)
theorem Ze1 {M:Model} {A:Around} {E:Value→Shared→Prop} {i:Nat} {x:Str} {v:V} {u:Value} {Q:Unit→Shared→Prop} (I:Inv X pins σ H s) (hN:X.N.Nodup) (hi:X.N[i]?=some x) (hx:Loc X.env.scope x) (r:RelV v u)
  (h:∀ s',Inv X pins (σ.set i (some v)) H s'→Q () s') (hf:X.fn x=true∨X.env.scope.names.lookup x=some .local:=by first | exact .inl rfl | exact .inr rfl | assumption):wpAny M A (storeName X.env x u) Q E s :=
 store_ok2 I hN hi hx r (fun s' I' _=>h s' I') hf
theorem Inv.call' {s':Shared} {ch:List Addr} (I:Inv X pins σ H s) (ho:s'.os=s.os) (u:Un (frs X.stack) ch H H' s.heap s'.heap) (hok:HOk X.prog X.w H' s'.heap) (hg:AllBare s'.gens)
  (hch:∀ b∈ch,(b∈X.ex∨X.s₀.heap.objs.size≤b)∧b≠X.env.locals∧(∀ x c,X.env.cells.lookup x=some c→c≠b)∧∀ p∈X.pn++pins,p.1≠b):Inv X pins σ H' s':=by
 obtain ⟨h',g',d',t',o'⟩:=s'
 have e:o'=s.os:=ho
 subst e
 exact I.call (g':=g') (t':=t') (d':=d') u hok hg hch
end
abbrev XK:=Value→Option Addr→Hp→Prop
abbrev St:=List (Option V)
abbrev VK:=V→Hp→Prop
abbrev TE:=St→Hp→VK→Prop
abbrev TT:=St→Hp→(Bool→Hp→Prop)→Prop
abbrev TA:=St→Hp→(List V→Hp→Prop)→Prop
structure Ends where
 nx:St→Hp→Prop
 rt:VK
 bk:St→Hp→Prop:=fun _ _=>False
 ct:St→Hp→Prop:=fun _ _=>False
abbrev TS:=Ends→St→Hp→Prop
def EP (X:Cx) (pins:List (Addr × Obj)) (σ:St) (Q:VK) (u:Value) (s':Shared):Prop:=∃ v H',Inv X pins σ H' s'∧RelV v u∧Q v H'
def TP (X:Cx) (pins:List (Addr × Obj)) (σ:St) (Q:Bool→Hp→Prop) (b:Bool) (s':Shared):Prop:=∃ H',Inv X pins σ H' s'∧Q b H'
def AP (X:Cx) (pins:List (Addr × Obj)) (σ:St) (Q:List V→Hp→Prop) (us:List Value) (s':Shared):Prop:=∃ vs H',Inv X pins σ H' s'∧Vals vs us∧Q vs H'
def SP (X:Cx) (pins:List (Addr × Obj)) (D:Ends) (f:Flow) (s':Shared):Prop :=
 match f with
 | .next=>∃ σ' H',Inv X pins σ' H' s'∧D.nx σ' H'
 | .brk=>∃ σ' H',Inv X pins σ' H' s'∧D.bk σ' H'
 | .cont=>∃ σ' H',Inv X pins σ' H' s'∧D.ct σ' H'
 | .ret u=>∃ v σ' H',Inv X pins σ' H' s'∧RelV v u∧D.rt v H'
def PE (X:Cx) (e:Expr) (t:TE):Prop :=
 ∀ (pins:List (Addr × Obj)) (s:Shared) (σ:St) (H:Hp) (Q:VK),Inv X pins σ H s→t σ H Q→wpAny (model X.prog X.w) X.A (eval e X.env) (EP X pins σ Q) X.xe s
def PT (X:Cx) (e:Expr) (t:TT):Prop :=
 ∀ (pins:List (Addr × Obj)) (s:Shared) (σ:St) (H:Hp) (Q:Bool→Hp→Prop),Inv X pins σ H s→t σ H Q→wpAny (model X.prog X.w) X.A (isTrue e X.env (eval e X.env)) (TP X pins σ Q) X.xe s
def PW (X:Cx) (e:Expr) (t:TT):Prop :=
 ∀ (whole:Sem Value) (pins:List (Addr × Obj)) (s:Shared) (σ:St) (H:Hp) (Q:Bool→Hp→Prop),Inv X pins σ H s→t σ H Q→wpAny (model X.prog X.w) X.A (isTrue e X.env whole) (TP X pins σ Q) X.xe s
theorem PW.pt {X:Cx} {e:Expr} {t:TT} (h:PW X e t):PT X e t:=h _
def PA (X:Cx) (es:List Expr) (t:TA):Prop :=
 ∀ (pos:Pos) (pins:List (Addr × Obj)) (s:Shared) (σ:St) (H:Hp) (Q:List V→Hp→Prop),Inv X pins σ H s→t σ H Q→wpAny (model X.prog X.w) X.A (spliced (backTo pos (starEach es X.env))) (AP X pins σ Q) X.xe s
def PS (X:Cx) (st:Stmt) (t:TS):Prop :=
 ∀ (pins:List (Addr × Obj)) (s:Shared) (σ:St) (H:Hp) (D:Ends),Inv X pins σ H s→t D σ H→wpAny (model X.prog X.w) X.A (exec st X.env) (SP X pins D) X.xe s
def PSs (X:Cx) (st:List Stmt) (t:TS):Prop :=
 ∀ (pins:List (Addr × Obj)) (s:Shared) (σ:St) (H:Hp) (D:Ends),Inv X pins σ H s→t D σ H→wpAny (model X.prog X.w) X.A (execs st X.env) (SP X pins D) X.xe s
theorem thn {α:Type} {t:Sem α} {Q Q':α→Shared→Prop} {M:Model} {A:Around} {E:Value→Shared→Prop} {s:Shared} (h:wpAny M A t Q E s) (hQ:∀ a s,Q a s→Q' a s):wpAny M A t Q' E s:=wpAny_mono h hQ fun _ _ x=>x
end L2
namespace L2
open PySem PySem.Spec PyProof.Rows
section
variable {X:Cx}
def tVar (i:Nat):TE:=fun σ H Q=>∃ v,σ[i]?=some (some v)∧Q v H
def tC (v:V):TE:=fun _ H Q=>Q v H
theorem pe_var {i:Nat} {x:Str} {pos:Pos} (hN:X.N[i]?=some x) (hv:Vis X.env.scope x) (hd:(x == ("__debug__":Str))=false:=by decide) (hcd:(x == ("__classdict__":Str))=false:=by decide):PE X (.Name x pos) (tVar i):=by
 intro pins s σ H Q I h
 obtain ⟨v,e,h⟩:=h
 obtain ⟨m,hn,hl⟩:=I.loc
 obtain ⟨u,r,l⟩:=hl i x v hN e hv
 have fin:EP X pins σ Q u s:=⟨v,H,I,r,h⟩
 rcases l with ⟨hk,hm⟩ | ⟨hk,c,hc,hcell⟩
 ·exact wpAny_Name (wpAny_loadName_local I.ok.kind hk hn hm fin) hd
 ·rcases hk with hk | hk
  ·exact wpAny_Name (wpAny_loadName_cell I.ok.kind hk hc hcell fin) hd
  ·exact wpAny_Name (wpAny_loadName_free I.ok.kind hk hc hcell fin hcd) hd
theorem Zaf {i j pos}:PE X (.Constant (.int i) j pos) (tC (.int i)):=fun _ _ _ H _ I h=>wpAny_Constant_int ⟨.int i,H,I.tok _,⟨_,rfl⟩,h⟩
theorem Zjv {b j pos}:PE X (.Constant (.bool b) j pos) (tC (.bl b)):=fun _ _ _ H _ I h=>Constant_bool ⟨.bl b,H,I,rfl,h⟩
theorem Zb8 {j pos}:PE X (.Constant .none j pos) (tC .non):=fun _ _ _ H _ I h=>Constant_none ⟨.non,H,I,rfl,h⟩
theorem Zdo {x j pos}:PE X (.Constant (.str x) j pos) (tC (.str x)):=fun _ _ _ H _ I h=>Calls.Constant_str ⟨.str x,H,I.tok _,⟨_,rfl⟩,h⟩
def Gl (X:Cx) (x:Str):Prop:=X.env.kindOf x=some .globalImplicit
theorem Zei {E:Value→Shared→Prop} {pins:List (Addr × Obj)} {s:Shared} {σ:St} {H:Hp} {x:Str} {u:Value} {pos:Pos} {Q:Value→Shared→Prop} (I:Inv X pins σ H s) (hg:Gl X x) (hm:X.mg x=some u) (h:Q u s)
  (hd:(x == ("__debug__":Str))=false:=by decide):wpAny (model X.prog X.w) X.A (eval (.Name x pos) X.env) Q E s :=
 Calls.Name_function_global I.ok.kind hg (Calls.loadGlobal_global (by rw [I.ok.glob]; exact I.mod.glob.keeps I.bk) hm h) hd
theorem Zgs {E:Value→Shared→Prop} {pins:List (Addr × Obj)} {s:Shared} {σ:St} {H:Hp} {x:Str} {u:Value} {pos:Pos} {Q:Value→Shared→Prop} (I:Inv X pins σ H s) (hg:Gl X x) (hm:X.mg x=none) (hv:bootBuiltins x=some u) (h:Q u s)
  (hn:x≠"__name__":=by decide) (hd:(x == ("__debug__":Str))=false:=by decide):wpAny (model X.prog X.w) X.A (eval (.Name x pos) X.env) Q E s:=by
 obtain ⟨mb,h1,h2⟩:=I.mod.blt
 exact Calls.Name_function_global I.ok.kind hg (Calls.loadGlobal_builtin (by rw [I.ok.glob]; exact I.mod.glob.keeps I.bk) hm (by rw [I.ok.blt]; exact h1.keeps I.bk) ((h2 x hn).trans hv) h) hd
theorem Za3 {x:Str} {v:V} {u:Value} {pos:Pos} (hg:Gl X x) (hm:X.mg x=some u) (r:RelV v u) (hd:(x == ("__debug__":Str))=false:=by decide):PE X (.Name x pos) (tC v) :=
 fun _ _ _ H _ I h=>Zei I hg hm ⟨v,H,I,r,h⟩ hd
theorem Zc1 {x:Str} {v:V} {u:Value} {pos:Pos} (hg:Gl X x) (hm:X.mg x=none) (hv:bootBuiltins x=some u) (r:RelV v u) (hn:x≠"__name__":=by decide) (hd:(x == ("__debug__":Str))=false:=by decide):PE X (.Name x pos) (tC v) :=
 fun _ _ _ H _ I h=>Zgs I hg hm hv ⟨v,H,I,r,h⟩ hn hd
variable {a b:Expr} {ta tb:TE} {pos:Pos}
def tB (t:TE):TT:=fun σ H Q=>t σ H fun x H1=>∃ c,x=.bl c∧Q c H1
theorem Zb7 {e:Expr} {t:TE} (h:PE X e t) (he:∀ whole,isTrue e X.env whole=(do let v ← whole; standAt e.pos; holding [v] (truthy v)):=by intro _; rfl):PT X e (tB t):=by
  intro pins s σ H Q I hw
  refine isTrue_plain (thn (h pins s σ H _ I hw) fun v s1 ⟨x,H1,I1,r1,q1⟩=>?_) (he _)
  obtain ⟨d,rfl,q⟩:=q1
  cases r1
  exact wpAny_truthy_bool ⟨H1,I1,q⟩
variable {tA tB':TT} {rest:List Expr}
def tAnd (t u:TT):TT:=fun σ H Q=>t σ H fun c H1=>if c=true then u σ H1 Q else Q false H1
def tOr (t u:TT):TT:=fun σ H Q=>t σ H fun c H1=>if c=true then Q true H1 else u σ H1 Q
def tNot (t:TT):TT:=fun σ H Q=>t σ H fun c H1=>Q (!c) H1
theorem Zee (ha:PT X a tA):PW X (.BoolOp .And [a] pos) tA:=by
 intro wh pins s σ H Q I h
 refine isTrue_and (thn (ha pins s σ H Q I h) fun c s1 e=>?_)
 cases c with
 | true=>exact isTrue_and_nil e
 | false=>exact e
theorem Zer (ha:PT X a tA):PW X (.BoolOp .Or [a] pos) tA:=by
 intro wh pins s σ H Q I h
 refine isTrue_or (thn (ha pins s σ H Q I h) fun c s1 e=>?_)
 cases c with
 | false=>exact isTrue_or_nil e
 | true=>exact e
theorem Zfd (ha:PT X a tA) (hb:PW X (.BoolOp .And (b :: rest) pos) tB'):PW X (.BoolOp .And (a :: b :: rest) pos) (tAnd tA tB'):=by
 intro wh pins s σ H Q I h
 refine isTrue_and (thn (ha pins s σ H _ I h) fun c s1 ⟨H1,I1,q1⟩=>?_)
 cases c with
 | true=>exact hb wh pins s1 σ H1 Q I1 q1
 | false=>exact ⟨H1,I1,q1⟩
theorem Zfc (ha:PT X a tA) (hb:PW X (.BoolOp .Or (b :: rest) pos) tB'):PW X (.BoolOp .Or (a :: b :: rest) pos) (tOr tA tB'):=by
 intro wh pins s σ H Q I h
 refine isTrue_or (thn (ha pins s σ H _ I h) fun c s1 ⟨H1,I1,q1⟩=>?_)
 cases c with
 | true=>exact ⟨H1,I1,q1⟩
 | false=>exact hb wh pins s1 σ H1 Q I1 q1
theorem Zck (ha:PT X a tA):PT X (.UnaryOp .Not a pos) (tNot tA):=by
 intro pins s σ H Q I h
 exact isTrue_not (ha pins s σ H (fun c H1=>Q (!c) H1) I h)
def tAndV (ta tb:TE):TE:=fun σ H Q=>ta σ H fun x H1=>∃ c,x=.bl c∧if c=true then tb σ H1 Q else Q (.bl false) H1
def tNotV (ta:TE):TE:=fun σ H Q=>ta σ H fun x H1=>∃ c,x=.bl c∧Q (.bl (!c)) H1
theorem Zfg {op} {t:TE} (h:PE X a t):PE X (.BoolOp op [a] pos) t:=fun pins s σ H Q I hw=>BoolOp_one (h pins s σ H Q I hw)
theorem Zfi (ha:PE X a ta) (hb:PE X (.BoolOp .And (b :: rest) pos) tb):PE X (.BoolOp .And (a :: b :: rest) pos) (tAndV ta tb):=by
 intro pins s σ H Q I h
 refine BoolOp_and (thn (ha pins s σ H _ I h) fun v s1 ⟨x,H1,I1,r1,q1⟩=>?_)
 obtain ⟨c,rfl,q1⟩:=q1
 cases r1
 refine wpAny_truthy_bool ?_
 cases c with
 | true=>exact hb pins s1 σ H1 Q I1 q1
 | false=>exact ⟨.bl false,H1,I1,rfl,q1⟩
theorem Zk9 (ha:PE X a ta):PE X (.UnaryOp .Not a pos) (tNotV ta):=by
 intro pins s σ H Q I h
 refine UnaryOp_ (thn (ha pins s σ H _ I h) fun v s1 ⟨x,H1,I1,r1,q1⟩=>?_)
 obtain ⟨c,rfl,q1⟩:=q1
 cases r1
 exact not_of (wpAny_truthy_bool ⟨.bl (!c),H1,I1,rfl,q1⟩)
end
end L2
namespace L2
open PySem PySem.Spec PyProof.Rows
def SqL (K:PySem.W.Frag) (H:Hp) (a:Addr) (xs:List V):Prop :=
 Rd H a (.lst xs) ∨
  ∃ (o:Obj) (its:Array Value) (n:Nat),K.lookup a=some o∧o.cls=.type "list"∧o.dict=none∧o.data=.seq its n∧its.size≤sizeLine∧Vals xs its.toList
def SqT (K:PySem.W.Frag) (H:Hp) (a:Addr) (xs:List V):Prop :=
 Rd H a (.tup xs) ∨
  ∃ (o:Obj) (its:Array Value) (n:Nat),K.lookup a=some o∧o.cls=.type "tuple"∧o.data=.seq its n∧its.size≤sizeLine∧Vals xs its.toList
def absV:Value→Option V
 | .none=>some .non
 | .bool b=>some (.bl b)
 | .int i _=>some (.int i)
 | .str x _=>some (.str x)
 | .bytes b _=>some (.byt b)
 | .float b _=>some (.flt b)
 | .ref a=>some (.ref a)
 | .type n=>some (.ty n)
 | _=>none
theorem RelV.abs {x:V} {u:Value} (r:RelV x u):absV u=some x:=by
 cases x with
 | non=>cases r; rfl
 | bl _=>cases r; rfl
 | int _=>obtain ⟨t,rfl⟩:=r; rfl
 | str _=>obtain ⟨t,rfl⟩:=r; rfl
 | byt _=>obtain ⟨t,rfl⟩:=r; rfl
 | flt _=>obtain ⟨t,rfl⟩:=r; rfl
 | ref _=>cases r; rfl
 | ty _=>cases r; rfl
theorem RelV.inj {x y:V} {u:Value} (r:RelV x u) (q:RelV y u):x=y:=Option.some.inj (r.abs.symm.trans q.abs)
theorem Vals.inj:∀ {xs ys:List V} {us:List Value},Vals xs us→Vals ys us→xs=ys
 | _,_,_,.nil,.nil=>rfl
 | _,_,_,.cons r t,.cons r' t'=>by rw [r.inj r',Vals.inj t t']
section
variable {X:Cx} {pins:List (Addr × Obj)} {σ:St} {H:Hp} {s:Shared} {a:Addr} {xs ys:List V}
theorem SqL.of {K:PySem.W.Frag} (h:H a=some (.lst xs)):SqL K H a xs:=.inl (.inl h)
theorem SqT.of {K:PySem.W.Frag} (h:H a=some (.tup xs)):SqT K H a xs:=.inl (.inl h)
theorem Inv.list (I:Inv X pins σ H s) (h:SqL X.K H a xs):∃ its:List Value,Vals xs its∧PlainL s.heap a its.toArray∧xs.length≤sizeLine:=by
 rcases h with h | ⟨o,its,n,hk,hc,hd,hs,hz,r⟩
 ·obtain ⟨z,its,n,r,e⟩:=h.ok I.hok
  exact ⟨its,r,⟨_,n,e,rfl,rfl,rfl⟩,z⟩
 ·refine ⟨its.toList,r,⟨o,n,I.kIn a o hk,hc,hd,by simpa using hs⟩,?_⟩
  have e:=r.length
  simp only [Array.length_toList] at e
  omega
theorem Inv.tuple (I:Inv X pins σ H s) (h:SqT X.K H a xs):∃ its:List Value,Vals xs its∧IsTup s.heap a its.toArray∧xs.length≤sizeLine:=by
 rcases h with h | ⟨o,its,n,hk,hc,hs,hz,r⟩
 ·obtain ⟨z,its,r,p⟩:=h.ok I.hok
  exact ⟨its,r,p,z⟩
 ·refine ⟨its.toList,r,⟨o,I.kIn a o hk,hc,n,by simpa using hs⟩,?_⟩
  have e:=r.length
  simp only [Array.length_toList] at e
  omega
theorem Inv.list_inj (I:Inv X pins σ H s) (h:SqL X.K H a xs) (h':SqL X.K H a ys):xs=ys:=by
 obtain ⟨its,r,⟨o,n,e,_,_,d⟩,_⟩:=I.list h
 obtain ⟨its',r',⟨o',n',e',_,_,d'⟩,_⟩:=I.list h'
 rw [e] at e'; cases e'
 rw [d] at d'
 injection d' with d1 _
 have:its=its':=by simpa using congrArg Array.toList d1
 subst this
 exact r.inj r'
theorem Inv.tuple_inj (I:Inv X pins σ H s) (h:SqT X.K H a xs) (h':SqT X.K H a ys):xs=ys:=by
 obtain ⟨its,r,⟨o,e,_,n,d⟩,_⟩:=I.tuple h
 obtain ⟨its',r',⟨o',e',_,n',d'⟩,_⟩:=I.tuple h'
 rw [e] at e'; cases e'
 rw [d] at d'
 injection d' with d1 _
 have:its=its':=by simpa using congrArg Array.toList d1
 subst this
 exact r.inj r'
end
abbrev Cx.wish (X:Cx) (E:Value→Shared→Prop):Cx:={ X with xe:=E }
abbrev Cx.nox (X:Cx):Cx:=X.wish fun _ _=>False
theorem Cx.Ok.wish {X:Cx} (ok:X.Ok) (E:Value→Shared→Prop):(X.wish E).Ok :=
 ⟨ok.mod,ok.kind,ok.glob,ok.blt,ok.above,ok.inj,ok.has,ok.cab,ok.hd,ok.frames,ok.stk,ok.exf,ok.bs,ok.bsz,ok.noex,ok.exfs,ok.funs,ok.frf⟩
theorem Cx.Ok.unwish {X:Cx} {E:Value→Shared→Prop} (ok:(X.wish E).Ok):X.Ok :=
 ⟨ok.mod,ok.kind,ok.glob,ok.blt,ok.above,ok.inj,ok.has,ok.cab,ok.hd,ok.frames,ok.stk,ok.exf,ok.bs,ok.bsz,ok.noex,ok.exfs,ok.funs,ok.frf⟩
section
variable {X:Cx} {pins:List (Addr × Obj)} {σ:St} {H:Hp} {s:Shared} {E:Value→Shared→Prop}
theorem Inv.wish (I:Inv X pins σ H s) (E:Value→Shared→Prop):Inv (X.wish E) pins σ H s:=⟨I.ok.wish E,I.os,I.bare,I.base,I.loc,I.cell,I.free,I.freeC,I.pin,I.hok,I.len⟩
theorem Inv.unwish (I:Inv (X.wish E) pins σ H s):Inv X pins σ H s:=⟨I.ok.unwish,I.os,I.bare,I.base,I.loc,I.cell,I.free,I.freeC,I.pin,I.hok,I.len⟩
theorem SP.unwish {D:Ends} {f:Flow} {s':Shared} (h:SP (X.wish E) pins D f s'):SP X pins D f s':=by
 cases f with
 | next=>obtain ⟨σ',H',I,q⟩:=h; exact ⟨σ',H',I.unwish,q⟩
 | brk=>obtain ⟨σ',H',I,q⟩:=h; exact ⟨σ',H',I.unwish,q⟩
 | cont=>obtain ⟨σ',H',I,q⟩:=h; exact ⟨σ',H',I.unwish,q⟩
 | ret u=>obtain ⟨v,σ',H',I,r,q⟩:=h; exact ⟨v,σ',H',I.unwish,r,q⟩
theorem PSs.nox {st:List Stmt} {t:TS} (h:PSs X.nox st t):PSs X st t:=fun pins s σ H D I hw =>
 wpAny_mono (h pins s σ H D (I.wish _) hw) (fun _ _ q=>q.unwish) fun _ _ z=>False.elim z
end
section
variable {X:Cx} {st:Stmt} {rest:List Stmt} {t u:TS} {e:Expr} {te:TE} {pos:Pos}
def tNext:TS:=fun D σ H=>D.nx σ H
def tSeq (t u:TS):TS:=fun D σ H=>t { D with nx:=u D } σ H
theorem Zaw:PSs X [] tNext:=fun _ _ σ H _ I h=>wpAny_execs_nil ⟨σ,H,I,h⟩
theorem Zae (h1:PS X st t) (h2:PSs X rest u):PSs X (st :: rest) (tSeq t u):=by
 intro pins s σ H D I h
 refine wpAny_execs_cons (thn (h1 pins s σ H { D with nx:=u D } I h) fun f s1 q=>?_)
 cases f with
 | next =>
  obtain ⟨σ',H',I',q⟩:=q
  exact h2 pins s1 σ' H' D I' q
 | ret v=>exact q
 | brk=>exact q
 | cont=>exact q
theorem Zah (h1:PS X st t):PSs X [st] t:=by
 intro pins s σ H D I h
 refine wpAny_execs_cons (thn (h1 pins s σ H D I h) fun f s1 q=>?_)
 cases f with
 | next=>exact wpAny_execs_nil q
 | ret v=>exact q
 | brk=>exact q
 | cont=>exact q
theorem Inv.quiet {pins:List (Addr × Obj)} {σ:St} {H:Hp} {s:Shared} (I:Inv X pins σ H s):interactive X.env=false:=by simp [interactive,I.ok.kind]
def tDrop (te:TE):TS:=fun D σ H=>te σ H fun _ H1=>D.nx σ H1
theorem Zbw (he:PE X e te) (hs:swapsWith e none pos.line X.env=pure false:=by rfl):PS X (.Expr e pos) (tDrop te):=by
 intro pins s σ H D I h
 exact wpAny_Expr_any (thn (he pins s σ H _ I h) fun v s1 ⟨x,H1,I1,r1,q1⟩=>⟨σ,H1,I1,q1⟩) I.quiet hs
def tRet (te:TE):TS:=fun D σ H=>te σ H D.rt
theorem Zat (he:PE X e te):PS X (.Return (some e) pos) (tRet te):=by
 intro pins s σ H D I h
 exact wpAny_Return_some (thn (he pins s σ H _ I h) fun v s1 ⟨x,H1,I1,r1,q1⟩=>⟨x,σ,H1,I1,r1,q1⟩)
def tIfS (c:TT) (t u:TS):TS:=fun D σ H=>c σ H fun b H1=>if b=true then t D σ H1 else u D σ H1
theorem Zbm {c:Expr} {a b:List Stmt} {tc:TT} (hc:PT X c tc) (ha:PSs X a t) (hb:PSs X b u):PS X (.If c a b pos) (tIfS tc t u):=by
 intro pins s σ H D I h
 refine wpAny_If (thn (hc pins s σ H _ I h) fun d s1 ⟨H1,I1,q1⟩=>?_)
 cases d with
 | true=>exact ha pins s1 σ H1 D I1 q1
 | false=>exact hb pins s1 σ H1 D I1 q1
def tNever:TS:=fun _ _ _=>False
theorem Zhd:PS X st tNever:=fun _ _ _ _ _ _ h=>h.elim
end
abbrev TG:=V→St→Hp→(St→Hp→Prop)→Prop
abbrev TGs:=List V→St→Hp→(St→Hp→Prop)→Prop
def PG (X:Cx) (target:Expr) (t:TG):Prop :=
 ∀ (pins:List (Addr × Obj)) (s:Shared) (σ:St) (H:Hp) (v:V) (u:Value) (Q:St→Hp→Prop),Inv X pins σ H s→RelV v u→t v σ H Q →
  wpAny (model X.prog X.w) X.A (assign target X.env u) (fun _ s'=>∃ σ' H',Inv X pins σ' H' s'∧Q σ' H') X.xe s
def PGs (X:Cx) (ts:List Expr) (t:TGs):Prop :=
 ∀ (pins:List (Addr × Obj)) (s:Shared) (σ:St) (H:Hp) (vs:List V) (us:List Value) (Q:St→Hp→Prop),Inv X pins σ H s→Vals vs us→t vs σ H Q →
  wpAny (model X.prog X.w) X.A (assignInOrder ((assignEach ts X.env).map (·.2)) us) (fun _ s'=>∃ σ' H',Inv X pins σ' H' s'∧Q σ' H') X.xe s
section
variable {X:Cx} {pos:Pos}
def gName (i:Nat):TG:=fun v σ H Q=>Q (σ.set i (some v)) H
theorem Zap {i:Nat} {x:Str} (hN:X.N.Nodup) (hi:X.N[i]?=some x) (hx:Loc X.env.scope x) (hf:X.fn x=true∨X.env.scope.names.lookup x=some .local:=by first | exact .inl rfl | exact .inr rfl | assumption):PG X (.Name x pos) (gName i):=by
 intro pins s σ H v u Q I r h
 exact wpAny_assign_Name (Ze1 I hN hi hx r (fun s' I'=>⟨_,H,I',h⟩) hf)
def gNil:TGs:=fun vs σ H Q=>vs=[]∧Q σ H
def gCons (t:TG) (u:TGs):TGs:=fun vs σ H Q=>∃ v r,vs=v :: r∧t v σ H fun σ' H'=>u r σ' H' Q
theorem Zbx:PGs X [] gNil:=by
 intro pins s σ H vs us Q I r h
 obtain ⟨e,h⟩:=h
 subst e
 cases r
 exact assignInOrder_nil ⟨σ,H,I,h⟩
theorem Zar {e:Expr} {es:List Expr} {t:TG} {u:TGs} (h1:PG X e t) (h2:PGs X es u)
  (hs:(assignEach (e :: es) X.env).map (·.2)=assign e X.env :: (assignEach es X.env).map (·.2):=by rfl):PGs X (e :: es) (gCons t u):=by
 intro pins s σ H vs us Q I r h
 obtain ⟨v,vr,e1,h⟩:=h
 subst e1
 cases r with
 | cons r rr =>
  rw [hs]
  refine assignInOrder_cons (thn (h1 pins s σ H _ _ _ I r h) fun _ s1 ⟨σ1,H1,I1,q1⟩=>?_)
  exact h2 pins s1 σ1 H1 _ _ Q I1 rr q1
def gTup (K:PySem.W.Frag) (n:Nat) (t:TGs):TG:=fun v σ H Q=>∃ a xs,v=.ref a∧SqT K H a xs∧xs.length=n∧t xs σ H Q
theorem Zff {es:List Expr} {k:Nat} {t:TGs} {n:Nat} (hc:X.calm=true) (h:PGs X es t)
  (hn:(assignEach es X.env).length=n:=by rfl) (hst:(assignEach es X.env).findIdx? (·.1)=none:=by rfl):PG X (.Tuple es k pos) (gTup X.K n t):=by
 intro pins s σ H v u Q I r hw
 obtain ⟨a,xs,e1,hq,hl,hw⟩:=hw
 subst e1
 cases r
 obtain ⟨its,rv,ht,hz⟩:=I.tuple hq
 refine assign_Tuple_tuple (I.ok.hd hc) ht (by simp [hn,← hl,rv.length]) hst fun h' hx=>?_
 have I1:Inv X pins σ H { s with heap:=h' }:=I.kept (t':=s.toks) fun b o e=>hx b o (Nat.ne_of_lt (Heap.lt_size e)) e
 exact h pins _ σ H xs _ Q I1 (by simpa using rv) hw
def tAsg (te:TE) (g:TG):TS:=fun D σ H=>te σ H fun x H1=>g x σ H1 D.nx
theorem ps_asg {tg e:Expr} {te:TE} {g:TG} (he:PE X e te) (hg:PG X tg g) (hs:swapsWithSole [tg] e pos.line X.env=pure false:=by rfl) (hw:swappedStores [tg] e X.env=pure none:=by rfl)
  (h1:(assignEach [tg] X.env).map (·.2)=[assign tg X.env]:=by rfl):PS X (.Assign [tg] e pos) (tAsg te g):=by
 intro pins s σ H D I h
 refine wpAny_Assign_stores (thn (he pins s σ H _ I h) fun v s1 ⟨x,H1,I1,r1,q1⟩=>?_) hs hw
 rw [h1]
 exact thn (hg pins s1 σ H1 x v _ I1 r1 q1) fun _ s2 q=>q
theorem Zav {i:Nat} {x:Str} {e:Expr} {te:TE} {pos':Pos} (hN:X.N.Nodup) (hi:X.N[i]?=some x) (hx:Loc X.env.scope x) (he:PE X e te) (hs:swapsWith e (some (.Name x pos')) pos.line X.env=pure false:=by rfl) (hf:X.fn x=true∨X.env.scope.names.lookup x=some .local:=by first | exact .inl rfl | exact .inr rfl | assumption) :
  PS X (.Assign [.Name x pos'] e pos) (tAsg te (gName i)):=by
 intro pins s σ H D I h
 refine wpAny_Assign_Name (thn (he pins s σ H _ I h) fun v s1 ⟨y,H1,I1,r1,q1⟩=>?_) hs
 exact Ze1 I1 hN hi hx r1 (fun s2 I2=>⟨_,H1,I2,q1⟩) hf
end
section
variable {X:Cx} {pos:Pos}
def tWhile (c:TT) (tb:TS):TS:=fun D σ H=>∃ W:Nat→St→Hp→Prop,(∃ m,W m σ H)∧∀ m σ H,W m σ H →
 c σ H fun b H1=>if b=true then ∃ N:St→Hp→Prop,(∀ σ' H',N σ' H'→∃ m',m' < m∧W m' σ' H')∧tb { D with nx:=N,ct:=N,bk:=D.nx } σ H1 else D.nx σ H1
theorem ps_while {c:Expr} {body:List Stmt} {tc:TT} {tb:TS} (hp:PassesOwn (model X.prog X.w) X.A X.env X.xe) (hc:PT X c tc) (hb:PSs X body tb):PS X (.While c body [] pos) (tWhile tc tb):=by
 intro pins s σ H D I h
 obtain ⟨W,⟨m0,w0⟩,turn⟩:=h
 refine wpAny_While (codeAny_whileLoop (fun n s'=>∃ σ' H',Inv X pins σ' H' s'∧W n σ' H') ?_ m0 ⟨σ,H,I,w0⟩)
 rintro n s1 ⟨σ1,H1,I1,w1⟩
 refine wpAny_passesOwn hp (thn (hc pins s1 σ1 H1 _ I1 (turn n σ1 H1 w1)) fun b s2 ⟨H2,I2,q2⟩=>?_)
 cases b with
 | true =>
  obtain ⟨N,hN,q2⟩:=q2
  rw [if_pos rfl]
  refine wpAny_passesOwn hp (thn (hb pins s2 σ1 H2 _ I2 q2) fun f s3 q3=>?_)
  cases f with
  | next =>
   obtain ⟨σ3,H3,I3,n3⟩:=q3
   obtain ⟨m',hm,w3⟩:=hN σ3 H3 n3
   exact ⟨m',hm,σ3,H3,I3,w3⟩
  | cont =>
   obtain ⟨σ3,H3,I3,n3⟩:=q3
   obtain ⟨m',hm,w3⟩:=hN σ3 H3 n3
   exact ⟨m',hm,σ3,H3,I3,w3⟩
  | brk=>exact q3
  | ret v=>exact q3
 | false =>
  rw [if_neg Bool.false_ne_true]
  exact wpAny_execs_nil ⟨σ1,H2,I2,q2⟩
end
structure It where
 go:Nat→Hp→Prop
 yld:Nat→Hp→V→Hp→Prop
 stop:Nat→Hp→Prop
def FpOk (X:Cx) (pins:List (Addr × Obj)) (H:Hp) (b:Addr):Prop :=
 H b=none∧b≠X.env.locals∧b ∉ X.fs∧(b∈X.ex∨X.s₀.heap.objs.size≤b)∧(∀ x c,X.env.cells.lookup x=some c→c≠b)∧∀ p∈X.pn++pins,p.1≠b
theorem Inv.fpOk {X:Cx} {pins:List (Addr × Obj)} {σ:St} {H H':Hp} {s:Shared} {b:Addr} (I:Inv X pins σ H s) (hb:s.heap.objs.size≤b) (hn:H' b=none):FpOk X pins H' b:=by
 refine ⟨hn,Nat.ne_of_gt (Nat.lt_of_lt_of_le I.lt hb),I.nofs hb,.inr (Nat.le_trans I.sz hb),fun x c e z=>?_,fun p hp z=>?_⟩
 ·obtain ⟨v,q⟩:=I.cell x c e
  exact absurd (Nat.lt_of_lt_of_le q.lt (by rw [z]; exact hb)) (Nat.lt_irrefl _)
 ·exact absurd (Nat.lt_of_lt_of_le (Heap.lt_size (I.pin p hp).1) (by rw [z]; exact hb)) (Nat.lt_irrefl _)
structure Turn (P:Program) (w:World) (K:PySem.W.Frag) (tg:Expr) (J:It) (fp:List Addr) (it:Addr) (tn:Nat→Heap→Prop):Prop where
 mem:it∈fp
 obj:∀ i h,tn i h→∀ b∈fp,∃ o,h.get? b=some o∧∀ v,o.data≠.cell v
 keep:∀ i h h',tn i h→(∀ b∈fp,∀ o,h.get? b=some o→h'.get? b=some o)→tn i h'
 item:∀ (X:Cx),X.prog=P→X.w=w→X.K=K→X.calm=true→∀ (i:Nat) (pins:List (Addr × Obj)) (s:Shared) (σ:St) (H:Hp) (E:Value→Shared→Prop),Inv X pins σ H s→(∀ b∈fp,FpOk X pins H b)→tn i s.heap→J.go i H →
  wpAny (model P w) X.A (pyNext (.ref it)) (fun r s1=>∃ u,r=some u ∧
   wpAny (model P w) X.A (letOwnedTupleGo tg (.ref it) u) (fun _ s2=>∃ x H',Inv X pins σ H' s2∧RelV x u∧J.yld i H x H'∧tn (i+1) s2.heap∧∀ b∈fp,H' b=none) E s1) E s
 done:∀ (X:Cx),X.prog=P→X.w=w→X.K=K→X.calm=true→∀ (i:Nat) (pins:List (Addr × Obj)) (s:Shared) (σ:St) (H:Hp) (E:Value→Shared→Prop),Inv X pins σ H s→(∀ b∈fp,FpOk X pins H b)→tn i s.heap→J.stop i H →
  wpAny (model P w) X.A (pyNext (.ref it)) (fun r s1=>r=none∧Inv X pins σ H s1) E s
 self:∀ (A:Around) (i:Nat) (s:Shared) (Q:Value→Shared→Prop) (E:Value→Shared→Prop),tn i s.heap→Q (.ref it) s→wpAny (model P w) A (pyIter (.ref it)) Q E s
abbrev TI:=St→Hp→(It→Hp→Prop)→Prop
def PIE (X:Cx) (pins:List (Addr × Obj)) (σ:St) (tg:Expr) (R:It→Hp→Prop) (itv:Value) (s2:Shared):Prop :=
 ∃ (it:Addr) (fp:List Addr) (tn:Nat→Heap→Prop) (J:It) (H':Hp),itv=.ref it∧Inv X pins σ H' s2∧Turn X.prog X.w X.K tg J fp it tn∧tn 0 s2.heap∧(∀ b∈fp,FpOk X pins H' b)∧R J H'
def PI (X:Cx) (tg iter:Expr) (wi:TI):Prop :=
 ∀ (pins:List (Addr × Obj)) (s:Shared) (σ:St) (H:Hp) (R:It→Hp→Prop),Inv X pins σ H s→wi σ H R →
  wpAny (model X.prog X.w) X.A (eval iter X.env) (fun v s1=>wpAny (model X.prog X.w) X.A (pyIter v) (PIE X pins σ tg R) X.xe s1) X.xe s
theorem go_of {M:Model} {A:Around} {E:Value→Shared→Prop} {s:Shared} {tg:Expr} {it:Addr} {u:Value} {o:Obj} {n:String} {vs:Array Value} {Q:Unit→Shared→Prop} (ho:s.heap.get? it=some o) (hc:o.cls=.type n) (hd:o.data=.fields vs)
    (hn:["enumerate","zip","dict_itemiterator","dict_reverseitemiterator","odict_iterator","itertools.zip_longest","itertools.pairwise"].contains n=false) (hQ:Q () s):wpAny M A (letOwnedTupleGo tg (.ref it) u) Q E s:=by
  unfold letOwnedTupleGo
  cases tg <;> first
    | exact wpAny_pure hQ
    | (cases u <;> first
        | exact wpAny_pure hQ
        | (refine wpAny_bind (wpAny_load ho ?_)
           rw [hc,hd]
           show wpAny M A (if (["enumerate","zip","dict_itemiterator","dict_reverseitemiterator","odict_iterator","itertools.zip_longest","itertools.pairwise"].contains n && vs[0]? == some (rawInt _))=true then _ else _) Q E s
           rw [if_neg (by intro h; rw [hn,Bool.false_and] at h; cases h)]
           exact wpAny_pure hQ))
def Itl (K:PySem.W.Frag) (a:Addr):It :=
 ⟨fun i H=>∃ xs x,SqL K H a xs∧xs[i]?=some x,fun i H x H'=>H'=H∧∀ xs,SqL K H a xs→xs[i]?=some x,fun i H=>∃ xs,SqL K H a xs∧xs.length≤i⟩
def Itt (K:PySem.W.Frag) (a:Addr):It :=
 ⟨fun i H=>∃ xs x,SqT K H a xs∧xs[i]?=some x,fun i H x H'=>H'=H∧∀ xs,SqT K H a xs→xs[i]?=some x,fun i H=>∃ xs,SqT K H a xs∧xs.length≤i⟩
def Itr (lo:Int) (n:Nat):It:=⟨fun i _=>i < n,fun i H x H'=>H'=H∧x=.int (lo+i),fun i _=>n≤i⟩
theorem turn_list {P:Program} {w:World} {K:PySem.W.Frag} {tg:Expr} (a it:Addr):Turn P w K tg (Itl K a) [it] it (fun i h=>h.IsListIter it a i) where
 mem:=by simp
 obj:=fun i h st b hb=>by
  have e:b=it:=by simpa using hb
  subst e
  obtain ⟨o,e,c,d⟩:=st
  exact ⟨o,e,fun v z=>by rw [d] at z; cases z⟩
 keep:=fun i h h' st k=>st.at fun o e=>k it (by simp) o e
 item:=by
  intro X hP hw hK hc i pins s σ H E I hf st hg
  subst hP hw hK
  obtain ⟨xs,x,hq,hx⟩:=hg
  obtain ⟨its,rv,p,hz⟩:=I.list hq
  obtain ⟨u,hu,ru⟩:=rv.get hx
  obtain ⟨f0,f1,f2,f3,f4,f5⟩:=hf it (by simp)
  refine wpAny_pyNext_list_item st p.isList (x:=u) (by simpa using hu) fun h' st' sb=>?_
  have I1:Inv X pins σ H { s with heap:=h' }:=I.turned (t':=s.toks) (fun b o hb e=>(sb.2 b hb).trans e) f0 f1 f3 f4 f5
  obtain ⟨o,e,c,d⟩:=id st'
  exact ⟨u,rfl,go_of (s:={ s with heap:=h' }) e c d (by decide) ⟨x,H,I1,ru,⟨rfl,fun ys hy=>by rw [I.list_inj hy hq]; exact hx⟩,st',fun b hb=>(hf b hb).1⟩⟩
 done:=by
  intro X hP hw hK hc i pins s σ H E I hf st hg
  subst hP hw hK
  obtain ⟨xs,hq,hx⟩:=hg
  obtain ⟨its,rv,p,hz⟩:=I.list hq
  obtain ⟨f0,f1,f2,f3,f4,f5⟩:=hf it (by simp)
  have hl:=rv.length
  exact wpAny_pyNext_list_end (I.ok.hd hc) st p.isList (by simp; omega) fun h' eb=>⟨rfl,I.turned (t':=s.toks) (fun b o hb e=>eb b o hb e) f0 f1 f3 f4 f5⟩
 self:=fun _ _ _ _ _ st h=>wpAny_pyIter_listiter st h
theorem turn_tuple {P:Program} {w:World} {K:PySem.W.Frag} {tg:Expr} (a it:Addr):Turn P w K tg (Itt K a) [it] it (fun i h=>h.IsTupleIter it a i) where
 mem:=by simp
 obj:=fun i h st b hb=>by
  have e:b=it:=by simpa using hb
  subst e
  obtain ⟨o,e,c,d⟩:=st
  exact ⟨o,e,fun v z=>by rw [d] at z; cases z⟩
 keep:=fun i h h' st k=>st.at fun o e=>k it (by simp) o e
 item:=by
  intro X hP hw hK hc i pins s σ H E I hf st hg
  subst hP hw hK
  obtain ⟨xs,x,hq,hx⟩:=hg
  obtain ⟨its,rv,p,hz⟩:=I.tuple hq
  obtain ⟨u,hu,ru⟩:=rv.get hx
  obtain ⟨f0,f1,f2,f3,f4,f5⟩:=hf it (by simp)
  refine wpAny_pyNext_tuple_item st (show s.heap.IsTuple a its.toArray from p) (x:=u) (by simpa using hu) fun h' st' sb=>?_
  have I1:Inv X pins σ H { s with heap:=h' }:=I.turned (t':=s.toks) (fun b o hb e=>(sb.2 b hb).trans e) f0 f1 f3 f4 f5
  obtain ⟨o,e,c,d⟩:=id st'
  exact ⟨u,rfl,go_of (s:={ s with heap:=h' }) e c d (by decide) ⟨x,H,I1,ru,⟨rfl,fun ys hy=>by rw [I.tuple_inj hy hq]; exact hx⟩,st',fun b hb=>(hf b hb).1⟩⟩
 done:=by
  intro X hP hw hK hc i pins s σ H E I hf st hg
  subst hP hw hK
  obtain ⟨xs,hq,hx⟩:=hg
  obtain ⟨its,rv,p,hz⟩:=I.tuple hq
  obtain ⟨f0,f1,f2,f3,f4,f5⟩:=hf it (by simp)
  have hl:=rv.length
  exact wpAny_pyNext_tuple_end (I.ok.hd hc) st (show s.heap.IsTuple a its.toArray from p) (by simp; omega) fun h' eb=>⟨rfl,I.turned (t':=s.toks) (fun b o hb e=>eb b o hb e) f0 f1 f3 f4 f5⟩
 self:=fun _ _ _ _ _ st h=>wpAny_pyIter_tupleiter st h
theorem turn_range {P:Program} {w:World} {K:PySem.W.Frag} {tg:Expr} (it:Addr) (lo:Int) (n:Nat):Turn P w K tg (Itr lo n) [it] it (fun i h=>IsRangeIter h it (lo+(i:Nat) * 1) ((n:Int) - (i:Nat)) 1) where
 mem:=by simp
 obj:=fun i h st b hb=>by
  have e:b=it:=by simpa using hb
  subst e
  exact ⟨_,st,fun v z=>by
   have z':Data.fields _=Data.cell v:=z
   cases z'⟩
 keep:=fun i h h' st k=>k it (by simp) _ st
 item:=by
  intro X hP hw hK hc i pins s σ H E I hf st hg
  subst hP hw hK
  obtain ⟨f0,f1,f2,f3,f4,f5⟩:=hf it (by simp)
  have W:=Walks.range (prog:=X.prog) (w:=X.w) (I.ok.hd hc) it lo 1 n
  refine W.item i s _ _ hg st fun v h' tk hv st' kk=>?_
  obtain ⟨t,rfl⟩:=hv
  have I1:Inv X pins σ H { s with heap:=h',toks:=tk }:=I.turned (fun b o hb e=>kk b o (by simpa using hb) e) f0 f1 f3 f4 f5
  refine ⟨_,rfl,go_of (s:={ s with heap:=h',toks:=tk }) (n:="range_iterator") st' rfl rfl (by decide) ⟨.int (lo+i),H,I1,⟨t,?_⟩,⟨rfl,rfl⟩,st',fun b hb=>(hf b hb).1⟩⟩
  rw [Int.mul_one]
 done:=by
  intro X hP hw hK hc i pins s σ H E I hf st hg
  subst hP hw hK
  obtain ⟨f0,f1,f2,f3,f4,f5⟩:=hf it (by simp)
  exact wpAny_pyNext_range_end (I.ok.hd hc) st (by have:n≤i:=hg; omega) fun h' eb=>⟨rfl,I.turned (t':=s.toks) (fun b o hb e=>eb b o hb e) f0 f1 f3 f4 f5⟩
 self:=fun _ _ _ _ _ st h=>wpAny_pyIter_rangeiter st h
end L2
namespace L2
open PySem PySem.Spec PyProof.Rows
section
variable {X:Cx} {tg:Expr}
def iList (K:PySem.W.Frag) (tl:TE):TI:=fun σ H R=>tl σ H fun x H1=>∃ a,x=.ref a∧(∃ xs,SqL K H1 a xs)∧R (Itl K a) H1
def iTup (K:PySem.W.Frag) (tl:TE):TI:=fun σ H R=>tl σ H fun x H1=>∃ a,x=.ref a∧(∃ xs,SqT K H1 a xs)∧R (Itt K a) H1
theorem Zda {l:Expr} {tl:TE} (hl:PE X l tl):PI X tg l (iList X.K tl):=by
 intro pins s σ H R I h
 refine thn (hl pins s σ H _ I h) fun v s1 ⟨x,H1,I1,r1,q1⟩=>?_
 obtain ⟨a,e,⟨xs,hq⟩,q⟩:=q1
 subst e
 cases r1
 obtain ⟨its,rv,p,hz⟩:=I1.list hq
 refine wpAny_pyIter_list p.isList ?_
 refine ⟨s1.heap.objs.size,[s1.heap.objs.size],_,_,H1,rfl,I1.kept (t':=s1.toks) fun b o e=>Heap.get?_push_of_some _ e,turn_list a _,⟨_,Heap.get?_push_size _ rfl,rfl,rfl⟩,fun b hb=>?_,q⟩
 have e:b=s1.heap.objs.size:=by simpa using hb
 subst e
 exact I1.fpOk (Nat.le_refl _) (I1.hok.fresh (Nat.le_refl _))
theorem pi_tup {l:Expr} {tl:TE} (hl:PE X l tl):PI X tg l (iTup X.K tl):=by
 intro pins s σ H R I h
 refine thn (hl pins s σ H _ I h) fun v s1 ⟨x,H1,I1,r1,q1⟩=>?_
 obtain ⟨a,e,⟨xs,hq⟩,q⟩:=q1
 subst e
 cases r1
 obtain ⟨its,rv,p,hz⟩:=I1.tuple hq
 refine wpAny_pyIter_tuple (show s1.heap.IsTuple a its.toArray from p) ?_
 refine ⟨s1.heap.objs.size,[s1.heap.objs.size],_,_,H1,rfl,I1.kept (t':=s1.toks) fun b o e=>Heap.get?_push_of_some _ e,turn_tuple a _,⟨_,Heap.get?_push_size _ rfl,rfl,rfl⟩,fun b hb=>?_,q⟩
 have e:b=s1.heap.objs.size:=by simpa using hb
 subst e
 exact I1.fpOk (Nat.le_refl _) (I1.hok.fresh (Nat.le_refl _))
theorem range_it {pins:List (Addr × Obj)} {σ:St} {H:Hp} {s:Shared} {R:It→Hp→Prop} {E:Value→Shared→Prop} {lo hi:Int} {t u v:Tok} {tk:Nat} (I:Inv X pins σ H s) (h1:-(2^62)≤lo) (h2:lo < 2^62) (h3:-(2^62)≤hi) (h4:hi < 2^62)
  (q:R (Itr lo (hi - lo).toNat) H):wpAny (model X.prog X.w) X.A (pyIter (.ref s.heap.objs.size)) (PIE X pins σ tg R) E { s with heap:=s.heap.push { cls:=.type "range",data:=.fields #[.int lo t,.int hi u,.int 1 v] },toks:=tk }:=by
 refine wpAny_pyIter_range (IsRange.new ..) (small_one h1 h2 h3 h4) ?_
 have I1:Inv X pins σ H { s with heap:=s.heap.push { cls:=.type "range",data:=.fields #[.int lo t,.int hi u,.int 1 v] },toks:=tk }:=I.kept fun b o e=>Heap.get?_push_of_some _ e
 refine ⟨(s.heap.push { cls:=.type "range",data:=.fields #[.int lo t,.int hi u,.int 1 v] }).objs.size,[(s.heap.push { cls:=.type "range",data:=.fields #[.int lo t,.int hi u,.int 1 v] }).objs.size],_,_,H,rfl,
  I1.kept (t':=tk) fun b o e=>Heap.get?_push_of_some _ e,turn_range _ lo (hi - lo).toNat,?_,fun b hb=>?_,q⟩
 ·have e1:lo+((0:Nat):Int) * 1=lo:=by simp
  have e2:(((hi - lo).toNat:Nat):Int) - ((0:Nat):Int)=Builtin.Range.rangeSize lo hi 1:=by rw [rangeSize_one]; split <;> omega
  show IsRangeIter _ _ (lo+((0:Nat):Int) * 1) ((((hi - lo).toNat:Nat):Int) - ((0:Nat):Int)) 1
  rw [e1,e2]
  exact Heap.get?_push_size _ rfl
 ·have e:b=(s.heap.push { cls:=.type "range",data:=.fields #[.int lo t,.int hi u,.int 1 v] }).objs.size:=by simpa using hb
  subst e
  exact I1.fpOk (Nat.le_refl _) (I1.hok.fresh (Nat.le_refl _))
def iRng1 (ta:TA):TI:=fun σ H R=>ta σ H fun vs H1=>∃ j:Int,vs=[.int j]∧-(2^62)≤j∧j < 2^62∧R (Itr 0 j.toNat) H1
theorem Zd0 {a:Expr} {ta:TA} {p pos:Pos} (hg:Gl X "range") (hm:X.mg "range"=none) (ha:PA X [a] ta) (hs:starEach [a] X.env=[(false,eval a X.env)]:=by rfl):PI X tg (.Call (.Name "range" p) [a] [] pos) (iRng1 ta):=by
 intro pins s σ H R I h
 refine Call_ (Zgs I hg hm boot_range (PyProof.Rows.callWith_type1 (thn (ha pos pins s σ H _ I h) fun us s1 ⟨vs,H1,I1,r1,q1⟩=>?_) hs rfl))
 obtain ⟨j,e,q1,q2,q⟩:=q1
 subst e
 cases r1 with
 | cons r rr =>
  cases rr
  obtain ⟨t,rfl⟩:=r
  exact call_range_1 (range_it I1 (by omega) (by omega) q1 q2 (by simpa using q))
def tFor (wi:TI) (g:TG) (tb:TS):TS:=fun D σ H=>wi σ H fun J H1=>∃ W:Nat→Nat→St→Hp→Prop,(∃ m,W 0 m σ H1)∧∀ i m σ H,W i m σ H →
 (J.stop i H∧D.nx σ H)∨(J.go i H∧∃ N:St→Hp→Prop,(∀ σ' H',N σ' H'→∃ m',m' < m∧W (i+1) m' σ' H')∧∀ x H',J.yld i H x H'→g x σ H' fun σ2 H2=>tb { D with nx:=N,ct:=N,bk:=D.nx } σ2 H2)
def pinsAt (fp:List Addr) (h:Heap):List (Addr × Obj):=fp.filterMap fun b=>(h.get? b).map fun o=>(b,o)
theorem Zbu {fp:List Addr} {h:Heap} {b:Addr} {o:Obj} (hb:b∈fp) (e:h.get? b=some o):(b,o)∈pinsAt fp h:=List.mem_filterMap.mpr ⟨b,hb,by rw [e]; rfl⟩
theorem of_pinsAt {fp:List Addr} {h:Heap} {p:Addr × Obj} (hp:p∈pinsAt fp h):p.1∈fp∧h.get? p.1=some p.2:=by
 obtain ⟨b,hb,e⟩:=List.mem_filterMap.mp hp
 cases q:h.get? b with
 | none=>rw [q] at e; cases e
 | some o =>
  rw [q] at e
  have e':(b,o)=p:=Option.some.inj e
  subst e'
  exact ⟨hb,q⟩
theorem Inv.pinned {pins:List (Addr × Obj)} {σ:St} {H:Hp} {s:Shared} {fp:List Addr} (I:Inv X pins σ H s) (hf:∀ b∈fp,FpOk X pins H b) (ho:∀ b∈fp,∃ o,s.heap.get? b=some o∧∀ v,o.data≠.cell v):Inv X (pins++pinsAt fp s.heap) σ H s :=
 I.pins_of fun p hp=>(List.mem_append.mp hp).elim (fun z=>I.pin p (List.mem_append_right _ z)) fun z=>by
  obtain ⟨hb,e⟩:=of_pinsAt z
  obtain ⟨f0,f1,f2,_⟩:=hf p.1 hb
  obtain ⟨o,e',d⟩:=ho p.1 hb
  rw [e] at e'; cases e'
  exact ⟨e,f0,f1,f2,d⟩
theorem Inv.unpinned {pins pl:List (Addr × Obj)} {σ:St} {H:Hp} {s:Shared} (I:Inv X (pins++pl) σ H s):Inv X pins σ H s:=I.pins_of fun p hp=>I.pin p (List.mem_append_right _ (List.mem_append_left _ hp))
theorem Zdy {iter:Expr} {body:List Stmt} {wi:TI} {g:TG} {tb:TS} {pos:Pos} (hp:PassesOwn (model X.prog X.w) X.A X.env X.xe) (hc:X.calm=true) (hi:PI X tg iter wi) (hg:PG X tg g) (hb:PSs X body tb)
  (hs:∀ x,foldedSetIterable iter X.env x=pure x:=by intro _; rfl):PS X (.For tg iter body [] pos) (tFor wi g tb):=by
 intro pins s σ H D I h
 refine wpAny_For (thn (hi pins s σ H _ I h) fun v s1 h1=>thn h1 fun itv s2 h2=>?_) hs
 obtain ⟨it,fp,tn,J,H2,e,I2,T,st2,f2,W,⟨m0,w0⟩,turn⟩:=h2
 subst e
 have stat:∀ {H':Hp},(∀ b∈fp,H' b=none)→∀ b∈fp,FpOk X pins H' b:=fun hn b hb=>⟨hn b hb,(f2 b hb).2⟩
 refine codeAny_forLoop_any (fun n s'=>∃ i σ' H',Inv X pins σ' H' s'∧tn i s'.heap∧(∀ b∈fp,H' b=none)∧W i n σ' H') ?_ m0 ⟨0,σ,H2,I2,st2,fun b hb=>(f2 b hb).1,w0⟩
 rintro n s3 ⟨i,σ3,H3,I3,st3,fr3,w3⟩
 rcases turn i n σ3 H3 w3 with ⟨stop,qn⟩ | ⟨go,N,hN,step⟩
 ·refine wpAny_passesOwn hp (thn (T.done X rfl rfl rfl hc i pins s3 σ3 H3 X.xe I3 (stat fr3) st3 stop) fun r s4 ⟨hr,I4⟩=>?_)
  subst hr
  exact wpAny_execs_nil ⟨σ3,H3,I4,qn⟩
 ·refine wpAny_passesOwn hp (thn (T.item X rfl rfl rfl hc i pins s3 σ3 H3 X.xe I3 (stat fr3) st3 go) fun r s4 ⟨u,hr,h4⟩=>?_)
  subst hr
  refine wpAny_passesOwn hp (thn h4 fun _ s5 ⟨x,H5,I5,r5,y5,st5,fr5⟩=>?_)
  have I5':=I5.pinned (stat fr5) (T.obj _ _ st5)
  refine wpAny_passesOwn hp (thn (hg _ s5 σ3 H5 x u _ I5' r5 (step x H5 y5)) fun _ s6 ⟨σ6,H6,I6,q6⟩=>?_)
  refine wpAny_passesOwn hp (thn (hb _ s6 σ6 H6 _ I6 q6) fun f s7 q7=>?_)
  have again:∀ {σ7:St} {H7:Hp},Inv X (pins++pinsAt fp s5.heap) σ7 H7 s7→N σ7 H7→∃ m,m < n∧∃ i σ' H',Inv X pins σ' H' s7∧tn i s7.heap∧(∀ b∈fp,H' b=none)∧W i m σ' H':=fun {σ7 H7} I7 n7=>by
   obtain ⟨m',hm,w7⟩:=hN σ7 H7 n7
   refine ⟨m',hm,i+1,σ7,H7,I7.unpinned,T.keep _ _ _ st5 fun b hb o e=>(I7.pin (b,o) (List.mem_append_right _ (List.mem_append_right _ (Zbu hb e)))).1,fun b hb=>?_,w7⟩
   obtain ⟨o,e,d⟩:=T.obj _ _ st5 b hb
   exact (I7.pin (b,o) (List.mem_append_right _ (List.mem_append_right _ (Zbu hb e)))).2.1
  cases f with
  | next=>obtain ⟨σ7,H7,I7,n7⟩:=q7; exact again I7 n7
  | cont=>obtain ⟨σ7,H7,I7,n7⟩:=q7; exact again I7 n7
  | brk=>obtain ⟨σ7,H7,I7,q7⟩:=q7; exact ⟨σ7,H7,I7.unpinned,q7⟩
  | ret v=>obtain ⟨x7,σ7,H7,I7,r7,q7⟩:=q7; exact ⟨x7,σ7,H7,I7.unpinned,r7,q7⟩
end
theorem for_tup {K:PySem.W.Frag} {a:Addr} {xs:List V} {g:TG} {tb:TS} {D:Ends} {σ:St} {H:Hp} (Pv:Nat→St→Hp→Prop) (h0:Pv 0 σ H) (hl:∀ i σ H,i≤xs.length→Pv i σ H→SqT K H a xs)
  (hs:∀ i x σ H,xs[i]?=some x→Pv i σ H→g x σ H fun σ2 H2=>tb { D with nx:=Pv (i+1),ct:=Pv (i+1),bk:=D.nx } σ2 H2) (hd:∀ σ H,Pv xs.length σ H→D.nx σ H) :
  ∃ W:Nat→Nat→St→Hp→Prop,(∃ m,W 0 m σ H)∧∀ i m σ H,W i m σ H →
   ((Itt K a).stop i H∧D.nx σ H)∨((Itt K a).go i H∧∃ N:St→Hp→Prop,(∀ σ' H',N σ' H'→∃ m',m' < m∧W (i+1) m' σ' H')∧∀ x H',(Itt K a).yld i H x H'→g x σ H' fun σ2 H2=>tb { D with nx:=N,ct:=N,bk:=D.nx } σ2 H2):=by
 refine ⟨fun i m σ H=>m=xs.length - i∧i≤xs.length∧Pv i σ H,⟨xs.length,by simp,Nat.zero_le _,h0⟩,?_⟩
 rintro i m σ H ⟨rfl,hi,p⟩
 have q:=hl i σ H hi p
 by_cases hlt:i < xs.length
 ·refine .inr ⟨⟨xs,xs[i],q,by simp [hlt]⟩,Pv (i+1),fun σ' H' p'=>⟨xs.length - (i+1),by omega,rfl,hlt,p'⟩,fun x H' y=>?_⟩
  obtain ⟨e,y⟩:=y
  subst e
  exact hs i x σ _ (y xs q) p
 ·have e:i=xs.length:=by omega
  subst e
  exact .inl ⟨⟨xs,q,Nat.le_refl _⟩,hd σ H p⟩
theorem Zd3 {lo:Int} {n:Nat} {g:TG} {tb:TS} {D:Ends} {σ:St} {H:Hp} (Pv:Nat→St→Hp→Prop) (h0:Pv 0 σ H)
  (hs:∀ i σ H,i < n→Pv i σ H→g (.int (lo+i)) σ H fun σ2 H2=>tb { D with nx:=Pv (i+1),ct:=Pv (i+1),bk:=D.nx } σ2 H2) (hd:∀ σ H,Pv n σ H→D.nx σ H) :
  ∃ W:Nat→Nat→St→Hp→Prop,(∃ m,W 0 m σ H)∧∀ i m σ H,W i m σ H →
   ((Itr lo n).stop i H∧D.nx σ H)∨((Itr lo n).go i H∧∃ N:St→Hp→Prop,(∀ σ' H',N σ' H'→∃ m',m' < m∧W (i+1) m' σ' H')∧∀ x H',(Itr lo n).yld i H x H'→g x σ H' fun σ2 H2=>tb { D with nx:=N,ct:=N,bk:=D.nx } σ2 H2):=by
 refine ⟨fun i m σ H=>m=n - i∧i≤n∧Pv i σ H,⟨n,by simp,Nat.zero_le _,h0⟩,?_⟩
 rintro i m σ H ⟨rfl,hi,p⟩
 by_cases hlt:i < n
 ·refine .inr ⟨hlt,Pv (i+1),fun σ' H' p'=>⟨n - (i+1),by omega,rfl,hlt,p'⟩,fun x H' y=>?_⟩
  obtain ⟨e,y⟩:=y
  subst e y
  exact hs i σ _ hlt p
 ·have e:i=n:=by omega
  subst e
  exact .inl ⟨Nat.le_refl _,hd σ H p⟩
end L2
namespace L2
open PySem PySem.Spec PyProof.Rows
abbrev R2:=V→V→Hp→VK→Prop
def OpR (X:Cx) (f:Value→Value→Sem Value) (r:R2):Prop :=
 ∀ (pins:List (Addr × Obj)) (s:Shared) (σ:St) (H:Hp) (x y:V) (v u:Value) (Q:VK),Inv X pins σ H s→RelV x v→RelV y u→r x y H Q →
  wpAny (model X.prog X.w) X.A (f v u) (EP X pins σ Q) X.xe s
def CallR (X:Cx) (f:Value) (r:List V→Hp→VK→Prop):Prop :=
 ∀ (pins:List (Addr × Obj)) (s:Shared) (σ:St) (H:Hp) (xs:List V) (us:List Value) (Q:VK),Inv X pins σ H s→Vals xs us→r xs H Q →
  wpAny (model X.prog X.w) X.A (call f us) (EP X pins σ Q) X.xe s
def TruR (X:Cx) (r:V→Hp→(Bool→Hp→Prop)→Prop):Prop :=
 ∀ (pins:List (Addr × Obj)) (s:Shared) (σ:St) (H:Hp) (x:V) (v:Value) (Q:Bool→Hp→Prop),Inv X pins σ H s→RelV x v→r x H Q →
  wpAny (model X.prog X.w) X.A (truthy v) (TP X pins σ Q) X.xe s
def tOp (r:R2) (ta tb:TE):TE:=fun σ H Q=>ta σ H fun x H1=>tb σ H1 fun y H2=>r x y H2 Q
def rI (C:Int→Int→Prop) (g:Int→Int→V):R2:=fun x y H Q=>∃ i j,x=.int i∧y=.int j∧C i j∧Q (g i j) H
def rI0 (g:Int→Int→V):R2:=fun x y H Q=>∃ i j,x=.int i∧y=.int j∧Q (g i j) H
section
variable {X:Cx} {a b c:Expr} {ta tb tc:TE} {pos:Pos}
theorem binT (ha:PE X a ta) (hb:PE X b tb) {pins:List (Addr × Obj)} {s:Shared} {σ:St} {H:Hp} {R:V→V→Hp→Prop} (I:Inv X pins σ H s)
  (h:ta σ H fun x H1=>tb σ H1 fun y H2=>R x y H2) {Q:Value→Shared→Prop} {f:Value→Value→Sem Value}
  (hf:∀ v u s2 x y H2,Inv X pins σ H2 s2→RelV x v→RelV y u→R x y H2→wpAny (model X.prog X.w) X.A (f v u) Q X.xe s2) :
  wpAny (model X.prog X.w) X.A (eval a X.env) (fun v s₁=>wpAny (model X.prog X.w) X.A (eval b X.env) (fun u s₂=>wpAny (model X.prog X.w) X.A (f v u) Q X.xe s₂) X.xe s₁) X.xe s:=by
 refine thn (ha pins s σ H _ I h) fun v s1 ⟨x,H1,I1,r1,q1⟩=>?_
 refine thn (hb pins s1 σ H1 _ I1 q1) fun u s2 ⟨y,H2,I2,r2,q2⟩=>?_
 exact hf v u s2 x y H2 I2 r1 r2 q2
theorem Za7 {op:Operator} {r:R2} (ho:OpR X (binaryOp op) r) (ha:PE X a ta) (hb:PE X b tb):PE X (.BinOp a op b pos) (tOp r ta tb):=by
 intro pins s σ H Q I h
 exact wpAny_BinOp (binT ha hb I h fun v u s2 x y H2 I2 rx ry q=>ho pins s2 σ H2 x y v u Q I2 rx ry q)
theorem opI {f:Value→Value→Sem Value} {C:Int→Int→Prop} {g:Int→Int→Int}
  (rule:∀ (i j:Int) (t u:Tok) (s:Shared) (Q:Value→Shared→Prop) (E:Value→Shared→Prop),C i j→Q (.int (g i j) s.toks) { s with toks:=s.toks+1 }→wpAny (model X.prog X.w) X.A (f (.int i t) (.int j u)) Q E s) :
  OpR X f (rI C fun i j=>.int (g i j)):=by
 intro pins s σ H x y v u Q I rx ry h
 obtain ⟨i,j,rfl,rfl,hc,q⟩:=h
 obtain ⟨t,rfl⟩:=rx
 obtain ⟨t',rfl⟩:=ry
 exact rule i j t t' s _ _ hc ⟨.int (g i j),H,I.tok _,⟨_,rfl⟩,q⟩
theorem opI0 {f:Value→Value→Sem Value} {g:Int→Int→Int}
  (rule:∀ (i j:Int) (t u:Tok) (s:Shared) (Q:Value→Shared→Prop) (E:Value→Shared→Prop),Q (.int (g i j) s.toks) { s with toks:=s.toks+1 }→wpAny (model X.prog X.w) X.A (f (.int i t) (.int j u)) Q E s) :
  OpR X f (rI0 fun i j=>.int (g i j)):=by
 intro pins s σ H x y v u Q I rx ry h
 obtain ⟨i,j,rfl,rfl,q⟩:=h
 obtain ⟨t,rfl⟩:=rx
 obtain ⟨t',rfl⟩:=ry
 exact rule i j t t' s _ _ ⟨.int (g i j),H,I.tok _,⟨_,rfl⟩,q⟩
theorem opB0 {f:Value→Value→Sem Value} {g:Int→Int→Bool}
  (rule:∀ (i j:Int) (t u:Tok) (s:Shared) (Q:Value→Shared→Prop) (E:Value→Shared→Prop),Q (.bool (g i j)) s→wpAny (model X.prog X.w) X.A (f (.int i t) (.int j u)) Q E s) :
  OpR X f (rI0 fun i j=>.bl (g i j)):=by
 intro pins s σ H x y v u Q I rx ry h
 obtain ⟨i,j,rfl,rfl,q⟩:=h
 obtain ⟨t,rfl⟩:=rx
 obtain ⟨t',rfl⟩:=ry
 exact rule i j t t' s _ _ ⟨.bl (g i j),H,I,rfl,q⟩
theorem Zcs:OpR X (binaryOp .Add) (rI0 fun i j=>.int (i+j)):=opI0 fun _ _ _ _ _ _ _ q=>add_int q
theorem Zgo:OpR X (binaryOp .Sub) (rI0 fun i j=>.int (i - j)):=opI0 fun _ _ _ _ _ _ _ q=>sub_int q
theorem Zde:OpR X (binaryOp .Mod) (rI (fun _ j=>0 < j) fun i j=>.int (i % j)):=opI fun i j _ _ _ _ _ hc q=>by
 have h1:(0:Int) < j:=hc
 exact mod_int' (by omega) (by rw [Int.fmod_eq_emod_of_nonneg i (by omega)]; exact q)
end
def scal:V→V→Bool
 | .non,.non=>true | .non,.int _=>true | .int _,.non=>true | .non,.bl _=>true | .bl _,.non=>true | .non,.str _=>true | .str _,.non=>true
 | .int _,.int _=>true | .bl _,.bl _=>true | .str _,.str _=>true | .byt _,.byt _=>true
 | .int _,.str _=>true | .str _,.int _=>true | .bl _,.str _=>true | .str _,.bl _=>true
 | _,_=>false
def rEq:R2:=fun x y H Q=>scal x y=true∧Q (.bl (decide (x=y))) H
def rNe:R2:=fun x y H Q=>scal x y=true∧Q (.bl (!decide (x=y))) H
theorem dec_int {i j:Int}:decide (V.int i=V.int j)=(i == j):=by
 rw [Bool.eq_iff_iff]
 simp
theorem dec_bl {i j:Bool}:decide (V.bl i=V.bl j)=(i == j):=by
 rw [Bool.eq_iff_iff]
 simp
theorem dec_str {i j:Str}:decide (V.str i=V.str j)=(i == j):=by
 rw [Bool.eq_iff_iff]
 simp
theorem dec_byt {i j:Array UInt8}:decide (V.byt i=V.byt j)=(i.toList == j.toList):=by
 rw [Bool.eq_iff_iff]
 cases i
 cases j
 simp
section
variable {X:Cx} {a b c:Expr} {ta tb tc:TE} {pos:Pos}
theorem Za4 {pins:List (Addr × Obj)} {σ:St} {H:Hp} {s:Shared} {Q:VK} {k k':Bool} (I:Inv X pins σ H s) (q:Q (.bl k) H) (e:k=k'):EP X pins σ Q (.bool k') s:=by
 subst e
 exact ⟨.bl k,H,I,rfl,q⟩
theorem Zfj:OpR X (compareOp .Eq) rEq:=by
 intro pins s σ H x y v u Q I rx ry h
 obtain ⟨hs,q⟩:=h
 cases x with
 | non =>
  cases rx
  cases y with
  | non=>cases ry; exact PySem.EqNone.eq_none_none (Za4 I q (by simp))
  | bl j=>cases ry; exact PySem.EqNone.eq_none_bool (Za4 I q (by simp))
  | int j=>obtain ⟨t',rfl⟩:=ry; exact PySem.EqNone.eq_none_int (Za4 I q (by simp))
  | str j=>obtain ⟨t',rfl⟩:=ry; exact PySem.EqNone.eq_none_str (Za4 I q (by simp))
  | _=>exact absurd (show false=true from hs) Bool.false_ne_true
 | bl i =>
  cases rx
  cases y with
  | non=>cases ry; exact PySem.EqNone.eq_bool_none (Za4 I q (by simp))
  | bl j=>cases ry; exact eq_bool (Za4 I q dec_bl)
  | str j=>obtain ⟨t',rfl⟩:=ry; exact PySem.EqMixed.eq_bool_str (Za4 I q (by simp))
  | _=>exact absurd (show false=true from hs) Bool.false_ne_true
 | int i =>
  obtain ⟨t,rfl⟩:=rx
  cases y with
  | non=>cases ry; exact PySem.EqNone.eq_int_none (Za4 I q (by simp))
  | int j=>obtain ⟨t',rfl⟩:=ry; exact eq_int (Za4 I q dec_int)
  | str j=>obtain ⟨t',rfl⟩:=ry; exact PySem.EqMixed.eq_int_str (Za4 I q (by simp))
  | _=>exact absurd (show false=true from hs) Bool.false_ne_true
 | str i =>
  obtain ⟨t,rfl⟩:=rx
  cases y with
  | non=>cases ry; exact PySem.EqNone.eq_str_none (Za4 I q (by simp))
  | bl j=>cases ry; exact PySem.EqMixed.eq_str_bool (Za4 I q (by simp))
  | int j=>obtain ⟨t',rfl⟩:=ry; exact PySem.EqMixed.eq_str_int (Za4 I q (by simp))
  | str j=>obtain ⟨t',rfl⟩:=ry; exact eq_str (Za4 I q dec_str)
  | _=>exact absurd (show false=true from hs) Bool.false_ne_true
 | byt i =>
  obtain ⟨t,rfl⟩:=rx
  cases y with
  | byt j=>obtain ⟨t',rfl⟩:=ry; exact PySem.W.eq_bytes (Za4 I q dec_byt)
  | _=>exact absurd (show false=true from hs) Bool.false_ne_true
 | _=>cases y <;> exact absurd (show false=true from hs) Bool.false_ne_true
theorem op_ne:OpR X (compareOp .NotEq) rNe:=by
 intro pins s σ H x y v u Q I rx ry h
 obtain ⟨hs,q⟩:=h
 cases x with
 | non =>
  cases rx
  cases y with
  | non=>cases ry; exact PySem.EqNone.ne_none_none (Za4 I q (by simp))
  | bl j=>cases ry; exact PySem.EqNone.ne_none_bool (Za4 I q (by simp))
  | int j=>obtain ⟨t',rfl⟩:=ry; exact PySem.EqNone.ne_none_int (Za4 I q (by simp))
  | str j=>obtain ⟨t',rfl⟩:=ry; exact PySem.EqNone.ne_none_str (Za4 I q (by simp))
  | _=>exact absurd (show false=true from hs) Bool.false_ne_true
 | bl i =>
  cases rx
  cases y with
  | non=>cases ry; exact PySem.EqNone.ne_bool_none (Za4 I q (by simp))
  | bl j=>cases ry; exact ne_bool (Za4 I q (congrArg not dec_bl))
  | str j=>obtain ⟨t',rfl⟩:=ry; exact PySem.EqMixed.ne_bool_str (Za4 I q (by simp))
  | _=>exact absurd (show false=true from hs) Bool.false_ne_true
 | int i =>
  obtain ⟨t,rfl⟩:=rx
  cases y with
  | non=>cases ry; exact PySem.EqNone.ne_int_none (Za4 I q (by simp))
  | int j=>obtain ⟨t',rfl⟩:=ry; exact ne_int (Za4 I q (congrArg not dec_int))
  | str j=>obtain ⟨t',rfl⟩:=ry; exact PySem.EqMixed.ne_int_str (Za4 I q (by simp))
  | _=>exact absurd (show false=true from hs) Bool.false_ne_true
 | str i =>
  obtain ⟨t,rfl⟩:=rx
  cases y with
  | non=>cases ry; exact PySem.EqNone.ne_str_none (Za4 I q (by simp))
  | bl j=>cases ry; exact PySem.EqMixed.ne_str_bool (Za4 I q (by simp))
  | int j=>obtain ⟨t',rfl⟩:=ry; exact PySem.EqMixed.ne_str_int (Za4 I q (by simp))
  | str j=>obtain ⟨t',rfl⟩:=ry; exact ne_str (Za4 I q (congrArg not dec_str))
  | _=>exact absurd (show false=true from hs) Bool.false_ne_true
 | byt i =>
  obtain ⟨t,rfl⟩:=rx
  cases y with
  | byt j=>obtain ⟨t',rfl⟩:=ry; exact PySem.W.ne_bytes (Za4 I q (congrArg not dec_byt))
  | _=>exact absurd (show false=true from hs) Bool.false_ne_true
 | _=>cases y <;> exact absurd (show false=true from hs) Bool.false_ne_true
theorem op_lt:OpR X (compareOp .Lt) (rI0 fun i j=>.bl (decide (i < j))):=opB0 fun _ _ _ _ _ _ _ q=>lt_int q
theorem op_le:OpR X (compareOp .LtE) (rI0 fun i j=>.bl (decide (i≤j))):=opB0 fun _ _ _ _ _ _ _ q=>le_int q
theorem op_gt:OpR X (compareOp .Gt) (rI0 fun i j=>.bl (decide (j < i))):=opB0 fun _ _ _ _ _ _ _ q=>gt_int q
theorem op_ge:OpR X (compareOp .GtE) (rI0 fun i j=>.bl (decide (j≤i))):=opB0 fun _ _ _ _ _ _ _ q=>ge_int q
theorem Zih:OpR X (compareOp .Is) (fun x y H Q=>y=.non∧Q (.bl (decide (x=.non))) H):=by
 intro pins s σ H x y v u Q I rx ry h
 obtain ⟨rfl,q⟩:=h
 cases ry
 refine is_none_gen (Za4 I q ?_)
 cases x <;> first
  | (cases rx; rfl)
  | (obtain ⟨t,rfl⟩:=rx; rfl)
theorem Zjw:OpR X (compareOp .IsNot) (fun x y H Q=>y=.non∧Q (.bl (!decide (x=.non))) H):=by
 intro pins s σ H x y v u Q I rx ry h
 obtain ⟨rfl,q⟩:=h
 cases ry
 refine isnot_none_gen (Za4 I q ?_)
 cases x <;> first
  | (cases rx; rfl)
  | (obtain ⟨t,rfl⟩:=rx; rfl)
theorem nomark (b:Expr) {op:CmpOp} (h:op≠.In:=by decide) (h2:op≠.NotIn:=by decide):behindInMarks op b=false:=by
 have e1:(op == CmpOp.In)=false:=by cases op <;> first | rfl | exact absurd rfl h
 have e2:(op == CmpOp.NotIn)=false:=by cases op <;> first | rfl | exact absurd rfl h2
 cases b <;> simp [behindInMarks,e1,e2]
theorem Zfh {op:CmpOp} {r:R2} (ho:OpR X (compareOp op) r) (ha:PE X a ta) (hb:PE X b tb) (hm:behindInMarks op b=false):PE X (.Compare a [op] [b] pos) (tOp r ta tb):=by
 intro pins s σ H Q I h
 exact wpAny_Compare1 (binT ha hb I h fun v u s2 x y H2 I2 rx ry q=>ho pins s2 σ H2 x y v u Q I2 rx ry q) hm
def tTest (t:TE):TT:=fun σ H Q=>t σ H fun x H'=>∃ k,x=.bl k∧Q k H'
theorem Zau {op:CmpOp} {r:R2} (ho:OpR X (compareOp op) r) (ha:PE X a ta) (hb:PE X b tb) (hm:behindInMarks op b=false):PT X (.Compare a [op] [b] pos) (tTest (tOp r ta tb)):=by
 intro pins s σ H Q I h
 refine wpAny_isTrue_Compare1 (thn (ha pins s σ H _ I h) fun v s1 ⟨x,H1,I1,r1,q1⟩=>thn (hb pins s1 σ H1 _ I1 q1) fun u s2 ⟨y,H2,I2,r2,q2⟩ =>
  thn (ho pins s2 σ H2 x y v u _ I2 r1 r2 q2) fun c s3 ⟨z,H3,I3,r3,k,e,q3⟩=>?_) hm
 subst e
 cases r3
 exact wpAny_truthy_bool ⟨H3,I3,q3⟩
def tChain (r r':R2) (ta tb tc:TE):TE:=fun σ H Q=>ta σ H fun x H1=>tb σ H1 fun y H2=>r x y H2 fun z H3=>∃ k,z=.bl k ∧
 (if k=true then tc σ H3 fun w' H4=>r' y w' H4 Q else Q (.bl false) H3)
theorem pe_chain {op op':CmpOp} {r r':R2} (ho:OpR X (compareOp op) r) (ho':OpR X (compareOp op') r') (ha:PE X a ta) (hb:PE X b tb) (hc:PE X c tc)
  (hm:lastMarks [op,op'] [b,c]=false:=by with_unfolding_all rfl):PE X (.Compare a [op,op'] [b,c] pos) (tChain r r' ta tb tc):=by
 intro pins s σ H Q I h
 refine Compare_chain (thn (ha pins s σ H _ I h) fun v s1 ⟨x,H1,I1,r1,q1⟩=>chain_link (thn (hb pins s1 σ H1 _ I1 q1) fun u s2 ⟨y,H2,I2,r2,q2⟩ =>
  thn (ho pins s2 σ H2 x y v u _ I2 r1 r2 q2) fun d s3 ⟨z,H3,I3,r3,k,e,q3⟩=>?_)) hm
 subst e
 cases r3
 refine wpAny_truthy_bool ?_
 cases k with
 | false=>exact ite_ff ⟨.bl false,H3,I3,rfl,q3⟩
 | true=>exact ite_tt (chain_last (thn (hc pins s3 σ H3 _ I3 q3) fun w' s4 ⟨z',H4,I4,r4,q4⟩=>ho' pins s4 σ H4 y z' u w' Q I4 r2 r4 q4))
theorem pt_chain {op op':CmpOp} {r r':R2} (ho:OpR X (compareOp op) r) (ho':OpR X (compareOp op') r') (ha:PE X a ta) (hb:PE X b tb) (hc:PE X c tc)
  (hm:lastMarks [op,op'] [b,c]=false:=by with_unfolding_all rfl):PT X (.Compare a [op,op'] [b,c] pos) (tTest (tChain r r' ta tb tc)):=by
 intro pins s σ H Q I h
 refine isTrue_chain (thn (ha pins s σ H _ I h) fun v s1 ⟨x,H1,I1,r1,q1⟩=>test_link (thn (hb pins s1 σ H1 _ I1 q1) fun u s2 ⟨y,H2,I2,r2,q2⟩ =>
  thn (ho pins s2 σ H2 x y v u _ I2 r1 r2 q2) fun d s3 ⟨z,H3,I3,r3,k,e,q3⟩=>?_)) hm
 subst e
 cases r3
 refine wpAny_truthy_bool ?_
 cases k with
 | false =>
  obtain ⟨k',e',q'⟩:=q3
  cases e'
  exact ite_ff ⟨H3,I3,q'⟩
 | true =>
  refine ite_tt (test_last (thn (hc pins s3 σ H3 _ I3 q3) fun w' s4 ⟨z',H4,I4,r4,q4⟩=>thn (ho' pins s4 σ H4 y z' u w' _ I4 r2 r4 q4) fun d' s5 ⟨z2,H5,I5,r5,k2,e2,q5⟩=>?_))
  subst e2
  cases r5
  exact wpAny_truthy_bool ⟨H5,I5,q5⟩
def TruV (K:PySem.W.Frag) (x:V) (H:Hp) (k:Bool):Prop :=
 match x with
 | .non=>k=false
 | .bl b=>k=b
 | .int i=>k=(i != 0)
 | .str y=>y.length≤sizeLine∧k=((y.length:Int) != 0)
 | .byt y=>y.size≤sizeLine∧k=((y.size:Int) != 0)
 | .ref p=>(∃ xs,SqL K H p xs∧k=!xs.isEmpty)∨(∃ xs,SqT K H p xs∧k=!xs.isEmpty)∨∃ kvs,H p=some (.dK kvs)∧k=!kvs.isEmpty
 | _=>False
theorem isEmpty_kv {κ:Type} {kvs:List (κ × V)} {vs:List (κ × Value)} (r:KV kvs vs):(!vs.isEmpty)=!kvs.isEmpty:=by
 cases r <;> rfl
theorem Zgv {xs:List V} {its:List Value} (r:Vals xs its):(!its.toArray.isEmpty)=!xs.isEmpty:=by
 cases r <;> simp
theorem line63:(sizeLine:Nat) < 2^63:=by rw [sizeLine_eq]; decide
theorem tru_ok:TruR X (fun x H Q=>∃ k,TruV X.K x H k∧Q k H):=by
 intro pins s σ H x v Q I rx h
 obtain ⟨k,e,q⟩:=h
 have hl:=line63
 have hs:sizeLine=16777216:=sizeLine_eq
 cases x with
 | non =>
  cases rx
  have e':k=false:=e
  subst e'
  exact truthy_none ⟨H,I,q⟩
 | bl b =>
  cases rx
  have e':k=b:=e
  subst e'
  exact wpAny_truthy_bool ⟨H,I,q⟩
 | int i =>
  obtain ⟨t,rfl⟩:=rx
  have e':k=(i != 0):=e
  subst e'
  exact PySem.P.truthy_int ⟨H,I,q⟩
 | str y =>
  obtain ⟨t,rfl⟩:=rx
  obtain ⟨hy,e'⟩:y.length≤sizeLine∧k=((y.length:Int) != 0):=e
  subst e'
  exact PySem.P.truthy_str (by omega) ⟨H,I.tok _,q⟩
 | byt y =>
  obtain ⟨t,rfl⟩:=rx
  obtain ⟨hy,e'⟩:y.size≤sizeLine∧k=((y.size:Int) != 0):=e
  subst e'
  exact PySem.W.truthy_bytes (by omega) ⟨H,I.tok _,q⟩
 | ref p =>
  cases rx
  have e':(∃ xs,SqL X.K H p xs∧k=!xs.isEmpty)∨(∃ xs,SqT X.K H p xs∧k=!xs.isEmpty)∨∃ kvs,H p=some (.dK kvs)∧k=!kvs.isEmpty:=e
  rcases e' with ⟨xs,hx,e'⟩ | ⟨xs,hx,e'⟩ | ⟨kvs,hx,e'⟩
  ·subst e'
   obtain ⟨its,r,pl,hz⟩:=I.list hx
   have hlen:=r.length
   exact wpAny_truthy_list pl.isList (by simp only [List.size_toArray]; omega) ⟨H,I.tok _,by rw [Zgv r]; exact q⟩
  ·subst e'
   obtain ⟨its,r,pl,hz⟩:=I.tuple hx
   have hlen:=r.length
   exact truthy_tuple pl (by simp only [List.size_toArray]; omega) ⟨H,I.tok _,by rw [Zgv r]; exact q⟩
  ·subst e'
   obtain ⟨hz,hS,vs,r,m⟩:kvs.length≤sizeLine∧(p == sysModules)=false∧∃ vs,KV kvs vs∧s.heap.DictOf (Zbn X.prog X.w) p vs:=I.hok p _ hx
   have hlen:kvs.length=vs.length:=Paired.length r
   exact wpAny_truthy_dict hS m (by omega) ⟨H,I.tok _,by rw [isEmpty_kv r]; exact q⟩
 | _=>exact (show False from e).elim
theorem Zdx (ha:PE X a ta) (he:∀ whole,isTrue a X.env whole=(do let v ← whole; standAt a.pos; holding [v] (truthy v))) :
    PT X a (fun σ H Q=>ta σ H fun x H'=>∃ k,TruV X.K x H' k∧Q k H'):=by
  intro pins s σ H Q I h
  exact isTrue_plain (thn (ha pins s σ H _ I h) fun v s1 ⟨x,H1,I1,r1,q1⟩=>tru_ok pins s1 σ H1 x v Q I1 r1 q1) (he _)
theorem vals1 {x:V} {us:List Value} (r:Vals [x] us):∃ u,us=[u]∧RelV x u:=by
 cases r with
 | cons r1 r2=>cases r2; exact ⟨_,rfl,r1⟩
theorem vals2 {x y:V} {us:List Value} (r:Vals [x,y] us):∃ u w',us=[u,w']∧RelV x u∧RelV y w':=by
 cases r with
 | cons r1 r2 =>
  cases r2 with
  | cons r3 r4=>cases r4; exact ⟨_,_,rfl,r1,r3⟩
theorem call_int1:CallR X (.type "int") (fun xs H Q=>(∃ i,xs=[.int i]∧Q (.int i) H)∨∃ k,xs=[.bl k]∧Q (.int (if k then 1 else 0)) H):=by
 intro pins s σ H xs us Q I r h
 rcases h with ⟨i,rfl,q⟩ | ⟨k,rfl,q⟩
 ·obtain ⟨u,rfl,t,rfl⟩:=vals1 r
  exact call_int_int ⟨.int i,H,I,⟨_,rfl⟩,q⟩
 ·obtain ⟨u,rfl,r1⟩:=vals1 r
  cases r1
  exact call_int_bool ⟨.int (if k then 1 else 0),H,I.tok _,⟨_,rfl⟩,q⟩
end
end L2
namespace L2
open PySem PySem.Spec PyProof.Rows
structure ObjM (h:Heap) (x dx C:Addr) (mA:Str→Option Value):Prop where
 obj:h.get? x=some (PySem.W.instObj C dx)
 ns:h.Ns1 dx mA
 ne:dx≠x
theorem Zip {h:Heap} {dx:Addr} {mA:Str→Option Value} (n:h.Ns1 dx mA):∃ od,h.get? dx=some od∧∀ name,PySem.W.lookIn name od=some (mA name):=by
 obtain ⟨o,es,ep,ho,hd,hk,_,hm⟩:=n
 refine ⟨o,ho,fun name=>?_⟩
 have e:=hm name
 unfold nsFind findBy at e
 rw [← Array.find?_toList] at e
 unfold PySem.W.lookIn
 rw [hd]
 dsimp only
 split
 ·rename_i y q
  rw [q] at e
  exact congrArg some e
 ·rename_i q
  rw [q] at e
  have a:es.toList.any (·.refKey)=false:=by
   rw [List.any_eq_false]
   intro y hy
   obtain ⟨z,t,hkey⟩:=hk y (Array.mem_toList_iff.mp hy)
   simp [DictEntry.refKey,hkey]
  have a':¬ es.toList.any (·.refKey)=true:=by rw [a]; exact Bool.false_ne_true
  rw [if_neg a']
  exact congrArg some e
theorem ObjM.look {h:Heap} {x dx C:Addr} {mA:Str→Option Value} (I:ObjM h x dx C mA):∃ od,PySem.W.InstAt h x (PySem.W.instObj C dx) C (some od)∧∀ name,PySem.W.lookIn name od=some (mA name) :=
 let ⟨od,ho,hl⟩:=Zip I.ns
 ⟨od,⟨I.obj,rfl,rfl,ho⟩,hl⟩
section
variable {prog:Program} {w:World} {A:Around} {E:Value→Shared→Prop} {s:Shared} {K:PySem.W.Frag} {x dx C f:Addr} {mA:Str→Option Value} {name:Str} {v:Value}
theorem get_map {expr:Bool} {Q:Value→Shared→Prop} (X:K.In s.heap) (I:ObjM s.heap x dx C mA) (hg:PySem.W.plainGet K C name=true) (hh:PySem.W.hasDictIn K C=true)
  (ha:PySem.W.findIn K (.ref C) name=some none) (hv:mA name=some v) (hv':PySem.W.handedIn v=true) (h:Q v { s with toks:=s.toks+1 }) :
  wpAny (model prog w) A (getAttr (.ref x) name expr) Q E s:=by
 obtain ⟨od,J,hl⟩:=I.look
 exact PySem.W.get_value X J (PySem.W.plainGet_of hg).1 (PySem.W.findObj_own hh ha rfl (by rw [hl,hv])) hv' h
theorem get_meth {pl:Sem Bool} {Q:Value × List Value→Shared→Prop} (X:K.In s.heap) (I:ObjM s.heap x dx C mA) (hg:PySem.W.plainGet K C name=true)
  (hf:PySem.W.findIn K (.ref C) name=some (some (.ref f))) (ht:PySem.W.isFn K (.ref f)=true) (hv:mA name=none) (h:Q (.ref f,[.ref x]) s) :
  wpAny (model prog w) A (getMethod (.ref x) name pl) Q E s:=by
 obtain ⟨od,J,hl⟩:=I.look
 exact PySem.W.method_fn X J (PySem.W.plainGet_of hg).1 (PySem.W.plainGet_of hg).2 hf (beq_iff_eq.mp ht) (by show (PySem.W.lookIn name od).map (·.isSome)=some false; rw [hl,hv]; rfl) h
theorem set_map {ns:List Str} {Q:Unit→Shared→Prop} (X:K.In s.heap) (I:ObjM s.heap x dx C mA)
  (hs:PySem.W.findIn K (.ref C) "__setattr__"=some (some (.builtin "object.__setattr__"))) (hp:PySem.W.plainOver K C=true) (ht:PySem.W.takerIn K C name=some none) (hh:PySem.W.hasDictIn K C=true)
  (hw:PySem.Within mA ns) (hsz:ns.length≤sizeLine)
  (h:∀ h',ObjM h' x dx C (fun y=>if y=name then some v else mA y)→Heap.SameBut dx s.heap h'→Q () { s with heap:=h',toks:=s.toks+2 }) :
  wpAny (model prog w) A (setAttr (.ref x) name v) Q E s:=by
 obtain ⟨od,J,hl⟩:=I.look
 refine PySem.W.set_plain X J hs (PySem.W.osa_open (s:={ s with toks:=s.toks+1 }) (r:=none) X J hp ht fun b=>?_)
 obtain ⟨cd,hc,hd'⟩:=PySem.W.any_some hh
 have hx:s.heap.get? x=some ⟨.ref C,some dx,.plain,#[]⟩:=I.obj
 refine wpAny_bind (wpAny_pure (wpAny_bind (wpAny_bind (wpAny_loadPart hx (wpAny_bind (PySem.W.Looks.here (s:={ s with toks:=s.toks+1 }) (PySem.W.looks_clsIn X hc) ?_))))))
 rw [hd']
 refine wpAny_pure (a:=some dx) (wpAny_bind (wpAny_pure (wpAny_bind ?_)))
 refine wpAny_nsSet1 (s:={ s with toks:=s.toks+1 }) I.ns fun h' hn2 hs2=>?_
 obtain ⟨oD,esD,epD,hoD,hdD,hcD⟩:=hn2.count (PySem.Within.cons name v hw)
 refine wpAny_bind (wpAny_lookBehind hoD (by rw [hdD]; exact pastItsLine_dict (Nat.le_trans hcD (by rw [List.length_cons]; omega))) ?_)
 exact wpAny_pure (h _ ⟨(hs2.2 _ (Ne.symm I.ne)).trans I.obj,hn2,I.ne⟩ hs2)
theorem make_map {R:Result→Shared→Prop} {vs:List Value} {kw:List (Str × Value)} (X:K.In s.heap) (hm:PySem.W.makesIn K C=true)
  (hi:PySem.W.findIn K (.ref C) "__init__"=some (some (.ref f))) (hf:PySem.W.typeIn K (.ref f)=some (.type "function"))
  (h:codeAny (model prog w) (A.under (.builtin "type.__call__" ⟨.ref C :: vs,kw⟩)) (.call (.ref f) ⟨.ref (s.heap.objs.size+1) :: vs,kw⟩) (PySem.W.InitBack (s.heap.objs.size+1) R)
   { s with heap:=(s.heap.push PySem.W.emptyDict).push (PySem.W.instObj C s.heap.objs.size) }) :
  codeAny (model prog w) A (.call (.ref C) ⟨vs,kw⟩) R s:=by
 obtain ⟨hh,g,d,t,os⟩:=s
 exact PySem.W.make_core (PySem.W.makes_of X hm) (PySem.W.looks_findIn X hi) (fun self=>PySem.W.bind_fn X self hf) (.inl rfl) h
end
def putF (f:Str) (v:V):List (Str × V)→List (Str × V)
 | []=>[(f,v)]
 | (g,x) :: r=>if g=f then (g,v) :: r else (g,x) :: putF f v r
theorem Zay (f g:Str) (v:V):∀ fs:List (Str × V),(putF f v fs).lookup g=if g=f then some v else fs.lookup g
 | []=>by
  show List.lookup g [(f,v)]=_
  by_cases h:g=f
  ·have hb:(g == f)=true:=beq_iff_eq.mpr h
   simp only [List.lookup,hb,if_pos h]
  ·have hb:(g == f)=false:=beq_eq_false_iff_ne.mpr h
   simp only [List.lookup,hb,if_neg h]
 | (k,x) :: r=>by
  have ih:=Zay f g v r
  rw [show putF f v ((k,x) :: r)=(if k=f then (k,v) :: r else (k,x) :: putF f v r) from rfl]
  by_cases hk:k=f
  ·rw [if_pos hk]
   by_cases h:g=k
   ·have hb:(g == k)=true:=beq_iff_eq.mpr h
    simp only [List.lookup,hb,if_pos (h.trans hk)]
   ·have hb:(g == k)=false:=beq_eq_false_iff_ne.mpr h
    simp only [List.lookup,hb,if_neg (fun e:g=f=>h (e.trans hk.symm))]
  ·rw [if_neg hk]
   by_cases h:g=k
   ·have hb:(g == k)=true:=beq_iff_eq.mpr h
    simp only [List.lookup,hb,if_neg (fun e:g=f=>hk (h.symm.trans e))]
   ·have hb:(g == k)=false:=beq_eq_false_iff_ne.mpr h
    simp only [List.lookup,hb]
    exact ih
theorem Zdg (f:Str) (v:V):∀ fs:List (Str × V),f∈(putF f v fs).map (·.1)∧∀ g,g∈fs.map (·.1)→g∈(putF f v fs).map (·.1)
 | []=>⟨by simp [putF],fun g h=>by simp at h⟩
 | (k,x) :: r=>by
  obtain ⟨i1,i2⟩:=Zdg f v r
  rw [show putF f v ((k,x) :: r)=(if k=f then (k,v) :: r else (k,x) :: putF f v r) from rfl]
  by_cases hk:k=f
  ·rw [if_pos hk]
   subst hk
   exact ⟨by simp,fun g h=>by simpa using h⟩
  ·rw [if_neg hk]
   refine ⟨?_,fun g h=>?_⟩
   ·rw [List.map_cons]
    exact List.mem_cons_of_mem _ i1
   ·rw [List.map_cons] at h ⊢
    rcases List.mem_cons.mp h with e | e
    ·exact List.mem_cons.mpr (.inl e)
    ·exact List.mem_cons_of_mem _ (i2 g e)
theorem Zft (f:Str) (v:V):∀ fs:List (Str × V),(putF f v fs).length≤fs.length+1
 | []=>by simp [putF]
 | (k,x) :: r=>by
  have ih:=Zft f v r
  rw [show putF f v ((k,x) :: r)=(if k=f then (k,v) :: r else (k,x) :: putF f v r) from rfl]
  by_cases hk:k=f
  ·rw [if_pos hk,List.length_cons,List.length_cons]; omega
  ·rw [if_neg hk,List.length_cons,List.length_cons]; omega
theorem RelO.some_of {v:V} {o:Option Value} (r:RelO (some v) o):∃ u,o=some u∧RelV v u:=by
 cases o with
 | none=>exact (show False from r).elim
 | some u=>exact ⟨u,rfl,r⟩
theorem RelO.none_of {o:Option Value} (r:RelO none o):o=none:=by
 cases o with
 | none=>rfl
 | some u=>exact (show False from r).elim
theorem Ziu {v:V} {u:Value} (r:RelV v u):PySem.W.handedIn u=true:=by
 cases v with
 | non=>cases (show u=Value.none from r); rfl
 | bl b=>cases (show u=Value.bool b from r); rfl
 | int i=>obtain ⟨t,e⟩:=(show ∃ t,u=Value.int i t from r); cases e; rfl
 | str x=>obtain ⟨t,e⟩:=(show ∃ t,u=Value.str x t from r); cases e; rfl
 | byt b=>obtain ⟨t,e⟩:=(show ∃ t,u=Value.bytes b t from r); cases e; rfl
 | flt b=>obtain ⟨t,e⟩:=(show ∃ t,u=Value.float b t from r); cases e; rfl
 | ref a=>cases (show u=Value.ref a from r); rfl
 | ty n=>cases (show u=Value.type n from r); rfl
section
variable {P:Program} {w:World} {H H':Hp} {h h':Heap} {a C dx:Addr} {fs fs':List (Str × V)}
theorem Zhp (hok:HOk P w H h) (e:H a=some (.ins C dx fs)):∃ mA,ObjM h a dx C mA∧(∀ f,RelO (fs.lookup f) (mA f))∧PySem.Within mA (fs.map (·.1))∧fs.length≤1000∧H dx=some (.own a):=by
 obtain ⟨d,z,ne,ob,mA,n,r,q⟩:=(show ObjOk P w H h a (.ins C dx fs) from hok a _ e)
 exact ⟨mA,⟨ob,n,ne⟩,r,q,z,d⟩
end
structure Cls (K:PySem.W.Frag) (C:Addr):Prop where
 pg:PySem.W.plainGet K C Str.empty=true
 hd:PySem.W.hasDictIn K C=true
 po:PySem.W.plainOver K C=true
 sa:PySem.W.findIn K (.ref C) "__setattr__"=some (some (.builtin "object.__setattr__"))
theorem Cls.get {K:PySem.W.Frag} {C:Addr} (c:Cls K C) (f:Str):PySem.W.plainGet K C f=true:=c.pg
def NoAttr (K:PySem.W.Frag) (C:Addr) (f:Str):Prop:=PySem.W.findIn K (.ref C) f=some none
theorem NoAttr.taker {K:PySem.W.Frag} {C:Addr} {f:Str} (n:NoAttr K C f):PySem.W.takerIn K C f=some none:=by
 unfold PySem.W.takerIn
 rw [show PySem.W.findIn K (.ref C) f=some none from n]
 rfl
structure Meth (K:PySem.W.Frag) (C:Addr) (m:Str) (f:Addr):Prop where
 at_:PySem.W.findIn K (.ref C) m=some (some (.ref f))
 fn:PySem.W.isFn K (.ref f)=true
 kp:PySem.W.keepIn K (.ref f)=true
section
variable {X:Cx} {pins:List (Addr × Obj)} {σ:St} {H:Hp} {s:Shared} {a C dx:Addr} {fs:List (Str × V)} {f:Str} {v:V} {A:Around} {E:Value→Shared→Prop}
theorem getattr_ok {b:Bool} {Q:Value→Shared→Prop} (I:Inv X pins σ H s) (e:H a=some (.ins C dx fs)) (c:Cls X.K C) (n:NoAttr X.K C f) (l:fs.lookup f=some v)
  (h:∀ u s',Inv X pins σ H s'→RelV v u→Q u s'):wpAny (model X.prog X.w) A (getAttr (.ref a) f b) Q E s:=by
 obtain ⟨mA,O,r,_,_,_⟩:=Zhp I.hok e
 obtain ⟨u,hu,ru⟩:=RelO.some_of (v:=v) (o:=mA f) (by rw [← l]; exact r f)
 exact get_map I.kIn O (c.get f) c.hd n hu (Ziu ru) (h u _ (I.tok _) ru)
theorem Zek {m:Str} {g:Addr} {pl:Sem Bool} {Q:Value × List Value→Shared→Prop} (I:Inv X pins σ H s) (e:H a=some (.ins C dx fs)) (c:Cls X.K C) (k:Meth X.K C m g) (l:fs.lookup m=none)
  (h:Q (.ref g,[.ref a]) s):wpAny (model X.prog X.w) A (getMethod (.ref a) m pl) Q E s:=by
 obtain ⟨mA,O,r,_,_,_⟩:=Zhp I.hok e
 have hn:mA m=none:=RelO.none_of (by rw [← l]; exact r m)
 exact get_meth I.kIn O (c.get m) k.at_ k.fn hn h
theorem setattr_ok {y:V} {u:Value} {Q:Unit→Shared→Prop} (I:Inv X pins σ H s) (e:H a=some (.ins C dx fs)) (c:Cls X.K C) (n:NoAttr X.K C f) (hl:fs.length < 1000) (ry:RelV y u)
  (h:∀ s',Inv X pins σ (upd H a (.ins C dx (putF f y fs))) s'→Q () s'):wpAny (model X.prog X.w) A (setAttr (.ref a) f u) Q E s:=by
 obtain ⟨mA,O,r,wi,_,ho⟩:=Zhp I.hok e
 have hz:(fs.map (·.1)).length≤sizeLine:=by rw [List.length_map,sizeLine_eq]; omega
 refine set_map I.kIn O c.sa c.po n.taker c.hd wi hz fun h' O' sb=>h _ ?_
 have hd:∃ o,h'.get? dx=some o:=let ⟨o,_,_,e',_⟩:=O'.ns; ⟨o,e'⟩
 refine I.write (x:=a) (e:=dx) (by rw [e]; exact True.intro) (.inr ho) (fun b q hb z=>(sb.2 b hb).trans z) hd ?_
 refine ⟨by rw [Zag O.ne]; exact ho,?_,O.ne,O'.obj,_,O'.ns,fun g=>?_,fun g hg=>?_⟩
 ·have:=Zft f y fs; omega
 ·show RelO ((putF f y fs).lookup g) (if g=f then some u else mA g)
  rw [Zay]
  by_cases q:g=f
  ·rw [if_pos q,if_pos q]; exact ry
  ·rw [if_neg q,if_neg q]; exact r g
 ·by_cases q:g=f
  ·rw [q]; exact (Zdg f y fs).1
  ·refine (Zdg f y fs).2 g (wi g fun z=>hg ?_)
   show (if g=f then some u else mA g)=none
   rw [if_neg q]; exact z
theorem Inv.made (I:Inv X pins σ H s):Inv X pins σ (upd (upd H s.heap.objs.size (.own (s.heap.objs.size+1))) (s.heap.objs.size+1) (.ins C s.heap.objs.size []))
  { s with heap:=(s.heap.push PySem.W.emptyDict).push (PySem.W.instObj C s.heap.objs.size) }:=by
 have e1:(s.heap.push PySem.W.emptyDict).get? s.heap.objs.size=some PySem.W.emptyDict:=Heap.get?_push_size s.heap rfl
 have e2:((s.heap.push PySem.W.emptyDict).push (PySem.W.instObj C s.heap.objs.size)).get? (s.heap.objs.size+1)=some (PySem.W.instObj C s.heap.objs.size):=by
  have:=Heap.get?_push_size (s.heap.push PySem.W.emptyDict) (o:=PySem.W.instObj C s.heap.objs.size) rfl
  rwa [Heap.size_push] at this
 have e3:(s.heap.push PySem.W.emptyDict).Ns s.heap.objs.size (fun _=>none):=⟨PySem.W.emptyDict,#[],_,e1,rfl,(fun e he=>absurd he (by simp)),fun _=>rfl⟩
 have I1:=I.laid (a:=s.heap.objs.size) (o:=.own (s.heap.objs.size+1)) (h':=s.heap.push PySem.W.emptyDict) (t':=s.toks) (fun b u q=>Heap.get?_push_of_some _ q) (Nat.le_refl _) ⟨_,e1⟩
 refine I1.laid (a:=s.heap.objs.size+1) (o:=.ins C s.heap.objs.size []) (t':=s.toks) (fun b u q=>Heap.get?_push_of_some _ q) (Nat.le_of_eq (Heap.size_push _ _)) ?_
 have ne:s.heap.objs.size≠s.heap.objs.size+1:=Nat.ne_of_lt (Nat.lt_succ_self _)
 refine ⟨by rw [Zag ne,upd_same],Nat.zero_le _,ne,e2,fun _=>none,(Heap.Ns1.of_empty e3).at fun o q=>Heap.get?_push_of_some _ q,fun _=>True.intro,fun y hy=>absurd rfl hy⟩
theorem attr_of {prog:Program} {w:World} {env:Env} {e:Expr} {f:Str} {pos:Pos} {s:Shared} {Q:Value→Shared→Prop} (hb:attributeBase e f env (eval e env)=eval e env)
  (h:wpAny (model prog w) A (eval e env) (fun o s₁=>wpAny (model prog w) A (getAttr o f true) Q E s₁) E s):wpAny (model prog w) A (eval (.Attribute e f pos) env) Q E s :=
 Attribute_any_ h (by rw [arm_eval_Attribute,hb])
end
def tFld (K:PySem.W.Frag) (ta:TE) (f:Str):TE:=fun σ H Q=>ta σ H fun x H1=>∃ a C dx fs v,x=.ref a∧H1 a=some (.ins C dx fs)∧Cls K C∧NoAttr K C f∧fs.lookup f=some v∧Q v H1
def sFld (K:PySem.W.Frag) (ta tv:TE) (f:Str):TS:=fun D σ H=>tv σ H fun y H1=>ta σ H1 fun x H2=>∃ a C dx fs,x=.ref a∧H2 a=some (.ins C dx fs)∧Cls K C∧NoAttr K C f∧fs.length < 1000 ∧
 D.nx σ (upd H2 a (.ins C dx (putF f y fs)))
section
variable {X:Cx} {o e value:Expr} {f:Str} {pos pos' tpos:Pos} {ta tv:TE}
theorem Zcg (he:PE X e ta) (hb:attributeBase e f X.env (eval e X.env)=eval e X.env):PE X (.Attribute e f pos) (tFld X.K ta f):=by
 intro pins s σ H Q I h
 refine attr_of hb (thn (he pins s σ H _ I h) fun u s1 ⟨x,H1,I1,rx,a,C,dx,fs,v,ex,ea,c,n,l,q⟩=>?_)
 subst ex
 obtain rfl:u=Value.ref a:=rx
 exact getattr_ok I1 ea c n l fun u' s2 I2 ru=>⟨v,H1,I2,ru,q⟩
theorem Zdz (ha:PE X o ta) (hv:PE X value tv) (hs:swapsWith value (some (.Attribute o f pos')) pos.line X.env=pure false):PS X (.Assign [.Attribute o f pos'] value pos) (sFld X.K ta tv f):=by
 intro pins s σ H D I h
 refine plainObj_wpAny_Assign_Attribute (thn (hv pins s σ H _ I h) fun u s1 ⟨y,H1,I1,ry,q⟩=>thn (ha pins s1 σ H1 _ I1 q) fun ov s2 ⟨x,H2,I2,rx,a,C,dx,fs,ex,ea,c,n,l,q2⟩=>?_) hs
 subst ex
 obtain rfl:ov=Value.ref a:=rx
 exact setattr_ok I2 ea c n l ry fun s3 I3=>⟨σ,_,I3,q2⟩
end
section
variable {X:Cx} {pins:List (Addr × Obj)} {σ:St} {H:Hp} {s:Shared} {A:Around} {E:Value→Shared→Prop} {Q:Value→Shared→Prop} {c:Value} {b:Bool}
inductive TyOf (K:PySem.W.Frag) (H:Hp):V→Value→Prop where
 | non:TyOf K H .non (.type "NoneType")
 | bl (x:Bool):TyOf K H (.bl x) (.type "bool")
 | int (i:Int):TyOf K H (.int i) (.type "int")
 | str (x:Str):TyOf K H (.str x) (.type "str")
 | flt (x:UInt64):TyOf K H (.flt x) (.type "float")
 | lst {a:Addr} {xs:List V} (e:H a=some (.lst xs)):TyOf K H (.ref a) (.type "list")
 | frz {a:Addr} {o:Obj} {xs:List V} (e:H a=some (.frz o (.lst xs))):TyOf K H (.ref a) (.type "list")
 | tup {a:Addr} {xs:List V} (e:H a=some (.tup xs)):TyOf K H (.ref a) (.type "tuple")
 | dK {a:Addr} {kvs:List (Key × V)} (e:H a=some (.dK kvs)):TyOf K H (.ref a) (.type "dict")
 | dT {a:Addr} {kvs:List (List Key × V)} (e:H a=some (.dT kvs)):TyOf K H (.ref a) (.type "dict")
 | ins {a C dx:Addr} {fs:List (Str × V)} (e:H a=some (.ins C dx fs)) (cl:Cls K C) (ha:PySem.W.findIn K (.ref C) "__class__"=some (some (.builtin "object.__class__")))
   (hn:PySem.W.specialIn K (.builtin "object.__class__") "__get__"=some (some (.builtin "getset_descriptor.__get__"))) (htk:PySem.W.takesIn K (.builtin "object.__class__")=some true)
   (hm:PySem.W.mroIn K C (.type "object")=some true):TyOf K H (.ref a) (.ref C)
theorem Zir {x:V} {u t:Value} (I:Inv X pins σ H s) (rx:RelV x u) (ty:TyOf X.K H x t) (e:PySem.W.kitOne X.K t c=some b) (h:∀ tk,Q (.bool b) { s with toks:=tk }) :
  wpAny (model X.prog X.w) A (call (.builtin "isinstance") [u,c]) Q E s:=by
 cases ty with
 | non=>cases (show u=Value.none from rx); exact PySem.W.kia_one PySem.W.kitx_none I.kIn True.intro e (fun z=>nomatch z) h
 | bl y=>cases (show u=Value.bool y from rx); exact PySem.W.kia_one PySem.W.kitx_bool I.kIn True.intro e (fun z=>nomatch z) h
 | int i=>obtain ⟨t,q⟩:=(show ∃ t,u=Value.int i t from rx); cases q; exact PySem.W.kia_one PySem.W.kitx_int I.kIn True.intro e (fun z=>nomatch z) h
 | str y=>obtain ⟨t,q⟩:=(show ∃ t,u=Value.str y t from rx); cases q; exact PySem.W.kia_one PySem.W.kitx_str I.kIn True.intro e (fun z=>nomatch z) h
 | flt y=>obtain ⟨t,q⟩:=(show ∃ t,u=Value.float y t from rx); cases q; exact PySem.W.kia_one PySem.W.kitx_float I.kIn True.intro e (fun z=>nomatch z) h
 | @lst a xs ea =>
  cases (show u=Value.ref a from rx)
  obtain ⟨_,_,n,_,h1⟩:=(show ObjOk X.prog X.w H s.heap a (.lst xs) from I.hok a _ ea)
  exact PySem.W.kia_one PySem.W.kitx_list I.kIn ⟨_,h1,rfl⟩ e (fun z=>nomatch z) h
 | @frz a ob xs ea =>
  cases (show u=Value.ref a from rx)
  obtain ⟨_,_,_,n,_,h1⟩:=(show ObjOk X.prog X.w H s.heap a (.frz ob (.lst xs)) from I.hok a _ ea)
  exact PySem.W.kia_one PySem.W.kitx_list I.kIn ⟨_,h1,rfl⟩ e (fun z=>nomatch z) h
 | @tup a xs ea =>
  cases (show u=Value.ref a from rx)
  obtain ⟨_,_,_,p⟩:=(show ObjOk X.prog X.w H s.heap a (.tup xs) from I.hok a _ ea)
  obtain ⟨o,h1,h2,_⟩:=p
  exact PySem.W.kia_one PySem.W.kitx_tuple I.kIn ⟨o,h1,h2⟩ e (fun z=>nomatch z) h
 | @dK a kvs ea =>
  cases (show u=Value.ref a from rx)
  obtain ⟨_,_,vs,_,p⟩:=(show ObjOk X.prog X.w H s.heap a (.dK kvs) from I.hok a _ ea)
  obtain ⟨o,es,ep,h1,h2,_⟩:=p
  exact PySem.W.kia_one PySem.W.kitx_dict I.kIn ⟨o,h1,h2.1⟩ e (fun z=>nomatch z) h
 | @dT a kvs ea =>
  cases (show u=Value.ref a from rx)
  obtain ⟨_,_,xs,_,o,es,ep,h1,h2,_⟩:=(show ObjOk X.prog X.w H s.heap a (.dT kvs) from I.hok a _ ea)
  exact PySem.W.kia_one PySem.W.kitx_dict I.kIn ⟨o,h1,h2.1⟩ e (fun z=>nomatch z) h
 | @ins a C dx fs ea cl ha hn htk hm =>
  cases (show u=Value.ref a from rx)
  obtain ⟨mA,O,_⟩:=Zhp I.hok ea
  obtain ⟨od,J,_⟩:=O.look
  exact PySem.W.kia_one (PySem.W.kitx_own (cl.get _) cl.hd ha hn htk hm) I.kIn J e (fun z=>nomatch z) h
end
end L2
namespace L2
open PySem PySem.Spec PyProof.Rows
structure Room (k:Nat) (A:Around):Prop where
 hd:A.handled=none
 dp:A.depth+3 * k+5 < recursionLimit
 un:A.units+16 * k+200 < cLine
theorem Room.mono {j k:Nat} {A:Around} (r:Room k A) (h:j≤k):Room j A:=⟨r.hd,by have:=r.dp; omega,by have:=r.un; omega⟩
theorem Room.deeper {k:Nat} {A:Around} (r:Room (k+1) A) (env:Env):Room k (A.deeper env) :=
 ⟨r.hd,by have:=r.dp; show A.depth+1+3 * k+5 < _; omega,by have:=r.un; show A.units+3+16 * k+200 < _; omega⟩
theorem make_depth {A:Around} {C:Addr} {us:List Value} {kw:List (Str × Value)}:(A.under (.builtin "type.__call__" ⟨.ref C :: us,kw⟩)).depth=A.depth+1:=by
 first | rfl | simp [Around.under,Code.weight,Code.isCreation,Code.isGuard,Code.isCaller,Code.frames,Code.isFrame,guardIds]
theorem make_units {A:Around} {C:Addr} {us:List Value} {kw:List (Str × Value)}:(A.under (.builtin "type.__call__" ⟨.ref C :: us,kw⟩)).units=A.units+1:=by
 first | rfl | simp [Around.under,Code.cUnits,Code.frames,Code.isFrame]
theorem Room.make {k:Nat} {A:Around} (r:Room (k+1) A) (C:Addr) (us:List Value) (kw:List (Str × Value)):Room k (A.under (.builtin "type.__call__" ⟨.ref C :: us,kw⟩)) :=
 ⟨r.hd,by have:=r.dp; rw [make_depth]; omega,by have:=r.un; rw [make_units]; omega⟩
theorem Room.depth {k:Nat} {A:Around} (r:Room k A):A.depth < recursionLimit:=by have:=r.dp; omega
theorem Room.units {k:Nat} {A:Around} (r:Room k A):A.units+64 < cLine:=by have:=r.un; omega
def tNil:TA:=fun _ H Q=>Q [] H
def tCons (ta:TE) (tr:TA):TA:=fun σ H Q=>ta σ H fun x H1=>tr σ H1 fun xs H2=>Q (x :: xs) H2
section
variable {X:Cx} {e:Expr} {es:List Expr} {te:TE} {t:TA} {pos:Pos}
theorem Zac:PA X [] tNil:=fun _ _ _ _ H Q I h=>Calls.spliced_nil ⟨[],H,I,.nil,h⟩
theorem Zaa (ha:PE X e te) (hr:PA X es t) (hs:starEach (e :: es) X.env=(false,eval e X.env) :: starEach es X.env:=by rfl):PA X (e :: es) (tCons te t):=by
 intro pos pins s σ H Q I h
 rw [hs]
 show wpAny _ _ (spliced ((false,eval e X.env) :: backTo pos (starEach es X.env))) _ _ s
 refine Calls.spliced_cons (thn (ha pins s σ H _ I h) fun u s1 ⟨x,H1,I1,r1,q1⟩=>?_)
 exact thn (hr pos pins s1 σ H1 _ I1 q1) fun us s2 ⟨xs,H2,I2,r2,q2⟩=>⟨x :: xs,H2,I2,.cons r1 r2,q2⟩
def tTup (t:TA):TE:=fun σ H Q=>t σ H fun xs H1=>xs.length≤sizeLine∧∀ p,H1 p=none→Q (.ref p) (upd H1 p (.tup xs))
def tLst (t:TA):TE:=fun σ H Q=>t σ H fun xs H1=>xs.length≤sizeLine∧∀ p,H1 p=none→Q (.ref p) (upd H1 p (.lst xs))
theorem Zas {x1} (h:PA X es t):PE X (.Tuple es x1 pos) (tTup t):=by
 intro pins s σ H Q I hq
 refine wpAny_Tuple_spliced (thn (h pos pins s σ H _ I hq) fun us s1 ⟨xs,H1,I1,r,z,q⟩=>⟨by rw [← r.length]; exact z,?_⟩)
 have hf:H1 s1.heap.objs.size=none:=I1.hok.fresh (Nat.le_refl _)
 refine ⟨.ref s1.heap.objs.size,upd H1 s1.heap.objs.size (.tup xs),I1.laid (t':=s1.toks) (fun b u e=>Heap.get?_push_of_some _ e) (Nat.le_refl _) ?_,rfl,q _ hf⟩
 exact ⟨z,us,r,⟨_,Heap.get?_push_size _ rfl,rfl,_,rfl⟩⟩
theorem Zcy (h:PA X es t):PE X (.List es pos) (tLst t):=by
 intro pins s σ H Q I hq
 refine wpAny_List_spliced (thn (h pos pins s σ H _ I hq) fun us s1 ⟨xs,H1,I1,r,z,q⟩=>⟨by rw [← r.length]; exact z,?_⟩)
 have hf:H1 s1.heap.objs.size=none:=I1.hok.fresh (Nat.le_refl _)
 refine ⟨.ref s1.heap.objs.size,upd H1 s1.heap.objs.size (.lst xs),I1.laid (t':=s1.toks) (fun b u e=>Heap.get?_push_of_some _ e) (Nat.le_refl _) ?_,rfl,q _ hf⟩
 exact ⟨z,us,0,r,Heap.get?_push_size _ rfl⟩
end
abbrev Sp:=List V→Hp→VK→XK→Prop
abbrev CXT:=List Env→Hp→Shared→XK→Value→Shared→Prop
structure Env0 (P:Program) (w:World) (K:PySem.W.Frag) (mg:Str→Option Value) (base:Heap) (A:Around) (outer:List Env) (s:Shared) (H:Hp):Prop where
 frames:A.frames=some outer
 mod:Mod K mg base
 bs:∀ b o,base.get? b=some o→s.heap.get? b=some o∧H b=none
 bsz:base.objs.size≤s.heap.objs.size
 funs:s.heap.FunFrames base outer
 frf:∀ b∈frs outer,H b=none
 hok:HOk P w H s.heap
 bare:AllBare s.gens
def CE (outer:List Env) (P:Program) (w:World) (H:Hp) (s:Shared) (Q:VK) (u:Value) (s':Shared):Prop :=
 ∃ v H',s'.os=s.os∧AllBare s'.gens∧Un (frs outer) [] H H' s.heap s'.heap∧HOk P w H' s'.heap∧RelV v u∧Q v H'
def CR (CX:CXT) (outer:List Env) (P:Program) (w:World) (H:Hp) (s:Shared) (Q:VK) (E:XK) (r:Result) (s':Shared):Prop :=
 match r with
 | .ok (.ret u)=>CE outer P w H s Q u s'
 | .ok _=>False
 | .error e=>CX outer H s E e s'
structure FnOk (P:Program) (w:World) (K:PySem.W.Frag) (mg:Str→Option Value) (base:Heap) (CX:CXT) (k:Nat) (f:Addr) (fd:FuncData) (ps:List Str) (sp:Sp):Prop where
 len:∀ vs H Q E,sp vs H Q E→vs.length=ps.length
 run:∀ (A:Around) (outer:List Env) (s:Shared) (H:Hp) (args:Args) (us:List Value) (vs:List V) (Q:VK) (E:XK),Room k A→Env0 P w K mg base A outer s H→BindsTo s fd args (ps.zip us)→Vals vs us→sp vs H Q E →
  codeAny (model P w) A (.call (.ref f) args) (CR CX outer P w H s Q E) s
theorem Env0.make {P:Program} {w:World} {K:PySem.W.Frag} {mg:Str→Option Value} {base:Heap} {A:Around} {outer:List Env} {s:Shared} {H:Hp} (e:Env0 P w K mg base A outer s H) (C:Addr) (us:List Value) (kw:List (Str × Value)) :
  Env0 P w K mg base (A.under (.builtin "type.__call__" ⟨.ref C :: us,kw⟩)) outer s H:=⟨by first | exact e.frames | (simpa [Around.under,Code.envs,Code.isFrame,pushEnvs] using e.frames),e.mod,e.bs,e.bsz,e.funs,e.frf,e.hok,e.bare⟩
section
variable {X:Cx} {pins:List (Addr × Obj)} {σ:St} {H:Hp} {s s':Shared}
theorem Inv.env0 (I:Inv X pins σ H s):Env0 X.prog X.w X.K X.mg X.base X.A X.stack s H :=
 ⟨I.ok.frames,I.ok.mod,I.bs,Nat.le_trans I.ok.bsz I.sz,I.stack,I.stkFree,I.hok,I.bare⟩
theorem Inv.after {Q:VK} {u:Value} (I:Inv X pins σ H s) (h:CE X.stack X.prog X.w H s Q u s'):EP X pins σ Q u s':=by
 obtain ⟨v,H',os,bare,un,hok,r,q⟩:=h
 obtain ⟨hh,g,d,t,os'⟩:=s'
 obtain rfl:os'=s.os:=os
 exact ⟨v,H',I.call (h':=hh) (g':=g) (d':=d) (t':=t) (ch:=[]) un hok bare (fun b z=>absurd z (by simp)),r,q⟩
end
def tCall (sp:Sp) (dvs:List V) (E:XK) (t:TA):TE:=fun σ H Q=>t σ H fun vs H1=>sp (vs++dvs) H1 Q E
def tMeth (C:Addr) (m:Str) (sp:Sp) (dvs:List V) (E:XK) (ta:TE) (t:TA):TE:=fun σ H Q=>ta σ H fun x H1=>∃ a dx fs,x=.ref a∧H1 a=some (.ins C dx fs)∧fs.lookup m=none ∧
 t σ H1 fun vs H2=>sp (x :: (vs++dvs)) H2 Q E
def tMake (C:Addr) (sp:Sp) (dvs:List V) (E:XK) (t:TA):TE:=fun σ H Q=>t σ H fun vs H1=>∀ x dx,H1 x=none→H1 dx=none→dx≠x →
 sp (.ref x :: (vs++dvs)) (upd (upd H1 dx (.own x)) x (.ins C dx [])) (fun v H2=>v=.non∧Q (.ref x) H2) E
def Binds (K:PySem.W.Frag) (fd:FuncData) (ps:List Str) (ds:List Value):Prop :=
 ∀ (s:Shared) (us:List Value),K.In s.heap→(us++ds).length=ps.length→BindsTo s fd ⟨us,[]⟩ (ps.zip (us++ds))
theorem Binds.all {K:PySem.W.Frag} {fd:FuncData} {ps:List Str} (h:∀ us:List Value,us.length=ps.length→bindArgs fd ⟨us,[]⟩=pure (ps.zip us)):Binds K fd ps []:=fun s us _ hl=>by
 rw [List.append_nil] at hl ⊢
 exact .of_eq (h us hl)
def Passes (CX:CXT) (X:Cx) (E:XK):Prop:=∀ (pins:List (Addr × Obj)) (σ:St) (H:Hp) (s:Shared) (e:Value) (s':Shared),Inv X pins σ H s→CX X.stack H s E e s'→X.xe e s'
section
variable {X:Cx} {CX:CXT} {k:Nat} {f C:Addr} {fd:FuncData} {ps:List Str} {sp:Sp} {dvs:List V} {ds:List Value} {E:XK} {x m:Str} {p pos apos:Pos} {e o:Expr} {es:List Expr} {ta:TE} {t:TA}
theorem run_fn {pins:List (Addr × Obj)} {σ:St} {H:Hp} {s:Shared} {Q:VK} {us:List Value} {vs:List V} (F:FnOk X.prog X.w X.K X.mg X.base CX k f fd ps sp) (hr:Room k X.A) (hb:Binds X.K fd ps ds) (hd:Vals dvs ds) (hx:Passes CX X E)
  (I:Inv X pins σ H s) (r:Vals vs us) (h:sp (vs++dvs) H Q E):wpAny (model X.prog X.w) X.A (call (.ref f) us) (EP X pins σ Q) X.xe s:=by
 have r2:Vals (vs++dvs) (us++ds):=r.append hd
 have hl:(us++ds).length=ps.length:=by rw [← r2.length]; exact F.len _ _ _ _ h
 refine wpAny_call (codeAny_mono (F.run X.A X.stack s H ⟨us,[]⟩ (us++ds) (vs++dvs) Q E hr I.env0 (hb s us I.kIn hl) r2 h) fun r s' hq=>?_)
 cases r with
 | error e=>exact hx pins σ H s e s' I hq
 | ok fl =>
  cases fl with
  | ret u=>exact I.after hq
  | next=>exact False.elim hq
  | brk=>exact False.elim hq
  | cont=>exact False.elim hq
theorem pe_call (F:FnOk X.prog X.w X.K X.mg X.base CX k f fd ps sp) (hr:Room k X.A) (hg:Gl X x) (hm:X.mg x=some (.ref f)) (hk:PySem.W.keepIn X.K (.ref f)=true) (hb:Binds X.K fd ps ds) (hd:Vals dvs ds) (hx:Passes CX X E)
  (ha:PA X (e :: es) t) (hdb:(x == ("__debug__":Str))=false:=by decide) (he:starEach (e :: es) X.env=(false,eval e X.env) :: starEach es X.env:=by rfl) (hpl:(backTo pos (starEach es X.env)).any (·.1)=false:=by rfl) :
  PE X (.Call (.Name x p) (e :: es) [] pos) (tCall sp dvs E t):=by
 intro pins s σ H Q I h
 refine wpAny_Call_Name_kw (Zei I hg hm ?_ hdb)
 refine PySem.W.callWith_K (h₀:=X.base) I.ok.mod.kin hk (thn (ha pos pins s σ H _ I h) fun us s1 ⟨vs,H1,I1,r,q⟩=>⟨I1.kIn,?_⟩) he hpl
 exact run_fn F hr hb hd hx I1 r q
theorem pe_meth {pl:Sem Bool} (he:PE X o ta) (c:Cls X.K C) (hm:Meth X.K C m f) (F:FnOk X.prog X.w X.K X.mg X.base CX k f fd ps sp) (hr:Room k X.A) (hb:Binds X.K fd ps ds) (hd:Vals dvs ds) (hx:Passes CX X E) (ha:PA X (e :: es) t)
    (hst:starEach (e :: es) X.env=(false,eval e X.env) :: starEach es X.env:=by rfl) (hpl:(backTo pos (starEach es X.env)).any (·.1)=false:=by rfl)
    (ht:eval (.Call (.Attribute o m apos) (e :: es) [] pos) X.env=(do
      let ov ← eval o X.env
      standAt apos.atName
      let (f,first) ← holding [ov] (getMethod ov m pl)
      callWith pos f first (backTo pos (starEach (e :: es) X.env)) (backToKw pos (keywordEach [] X.env))):=by rfl) :
    PE X (.Call (.Attribute o m apos) (e :: es) [] pos) (tMeth C m sp dvs E ta t):=by
  intro pins s σ H Q I h
  refine PySem.W.methodCall_KW (pl:=pl) (thn (he pins s σ H _ I h) fun u s1 ⟨x,H1,I1,rx,a,dx,fs,ex,ea,l,q⟩=>?_) ht
  subst ex
  obtain rfl:u=Value.ref a:=rx
  refine Zek I1 ea c hm l ?_
  refine PySem.W.callWith_K (first:=[.ref a]) (h₀:=X.base) I.ok.mod.kin hm.kp (thn (ha pos pins s1 σ H1 _ I1 q) fun us s2 ⟨vs,H2,I2,r,q2⟩=>⟨I2.kIn,?_⟩) hst hpl
  exact run_fn (us:=.ref a :: us) (vs:=.ref a :: vs) F hr hb hd hx I2 (.cons rfl r) q2
theorem pe_meth0 {pl:Sem Bool} (he:PE X o ta) (c:Cls X.K C) (hm:Meth X.K C m f) (F:FnOk X.prog X.w X.K X.mg X.base CX k f fd ps sp) (hr:Room k X.A) (hb:Binds X.K fd ps ds) (hd:Vals dvs ds) (hx:Passes CX X E)
    (ht:eval (.Call (.Attribute o m apos) [] [] pos) X.env=(do
      let ov ← eval o X.env
      standAt apos.atName
      let (f,first) ← holding [ov] (getMethod ov m pl)
      callWith pos f first (backTo pos (starEach [] X.env)) (backToKw pos (keywordEach [] X.env))):=by rfl) :
    PE X (.Call (.Attribute o m apos) [] [] pos) (tMeth C m sp dvs E ta tNil):=by
  intro pins s σ H Q I h
  refine PySem.W.methodCall_KW (pl:=pl) (thn (he pins s σ H _ I h) fun u s1 ⟨x,H1,I1,rx,a,dx,fs,ex,ea,l,q⟩=>?_) ht
  subst ex
  obtain rfl:u=Value.ref a:=rx
  refine Zek I1 ea c hm l ?_
  exact PySem.W.callWith_K0 (first:=[.ref a]) I1.kIn hm.kp (run_fn (us:=[.ref a]) (vs:=[.ref a]) F hr hb hd hx I1 (.cons rfl .nil) q)
structure Mk (K:PySem.W.Frag) (C f:Addr):Prop where
 makes:PySem.W.makesIn K C=true
 init:PySem.W.findIn K (.ref C) "__init__"=some (some (.ref f))
 fn:PySem.W.isFn K (.ref f)=true
 kp:PySem.W.keepIn K (.ref C)=true
theorem run_make {pins:List (Addr × Obj)} {σ:St} {H:Hp} {s:Shared} {Q:VK} {us:List Value} {vs:List V} (M:Mk X.K C f) (F:FnOk X.prog X.w X.K X.mg X.base CX k f fd ps sp) (hr:Room (k+1) X.A) (hb:Binds X.K fd ps ds) (hd:Vals dvs ds)
  (hx:Passes CX X E) (I:Inv X pins σ H s) (r:Vals vs us)
  (h:∀ x dx,H x=none→H dx=none→dx≠x→sp (.ref x :: (vs++dvs)) (upd (upd H dx (.own x)) x (.ins C dx [])) (fun v H2=>v=.non∧Q (.ref x) H2) E) :
  wpAny (model X.prog X.w) X.A (call (.ref C) us) (EP X pins σ Q) X.xe s:=by
 have hq:=h (s.heap.objs.size+1) s.heap.objs.size (I.hok.fresh (Nat.le_succ _)) (I.hok.fresh (Nat.le_refl _)) (Nat.ne_of_lt (Nat.lt_succ_self _))
 have I2:=Inv.made (C:=C) I
 have r2:Vals (V.ref (s.heap.objs.size+1) :: (vs++dvs)) (Value.ref (s.heap.objs.size+1) :: (us++ds)):=.cons rfl (r.append hd)
 have hl:(Value.ref (s.heap.objs.size+1) :: us++ds).length=ps.length:=by
  have e:=r2.length
  rw [F.len _ _ _ _ hq] at e
  exact e.symm
 refine wpAny_call (make_map (f:=f) I.kIn M.makes M.init (beq_iff_eq.mp M.fn) (codeAny_mono (F.run _ X.stack _ _ ⟨Value.ref (s.heap.objs.size+1) :: us,[]⟩ (Value.ref (s.heap.objs.size+1) :: (us++ds)) _ _ E (hr.make C us [])
  (I2.env0.make C us []) (hb _ (Value.ref (s.heap.objs.size+1) :: us) I2.kIn hl) r2 hq) fun r s' hq'=>?_))
 cases r with
 | error e=>exact hx pins σ _ _ e s' I2 hq'
 | ok fl =>
  cases fl with
  | ret u =>
   obtain ⟨v,H',I3,rv,ev,q3⟩:=I2.after hq'
   subst ev
   exact ⟨rv,⟨V.ref (s.heap.objs.size+1),H',I3,rfl,q3⟩⟩
  | next=>exact False.elim hq'
  | brk=>exact False.elim hq'
  | cont=>exact False.elim hq'
theorem pe_make (M:Mk X.K C f) (F:FnOk X.prog X.w X.K X.mg X.base CX k f fd ps sp) (hr:Room (k+1) X.A) (hg:Gl X x) (hm:X.mg x=some (.ref C)) (hb:Binds X.K fd ps ds) (hd:Vals dvs ds) (hx:Passes CX X E)
  (ha:PA X (e :: es) t) (hdb:(x == ("__debug__":Str))=false:=by decide) (he:starEach (e :: es) X.env=(false,eval e X.env) :: starEach es X.env:=by rfl) (hpl:(backTo pos (starEach es X.env)).any (·.1)=false:=by rfl) :
  PE X (.Call (.Name x p) (e :: es) [] pos) (tMake C sp dvs E t):=by
 intro pins s σ H Q I h
 refine wpAny_Call_Name_kw (Zei I hg hm ?_ hdb)
 refine PySem.W.callWith_K (h₀:=X.base) I.ok.mod.kin M.kp (thn (ha pos pins s σ H _ I h) fun us s1 ⟨vs,H1,I1,r,q⟩=>⟨I1.kIn,?_⟩) he hpl
 exact run_make M F hr hb hd hx I1 r q
end
def PK (X:Cx) (kws:List Keyword) (t:TA):Prop :=
 ∀ (pos:Pos) (pins:List (Addr × Obj)) (s:Shared) (σ:St) (H:Hp) (Q:List V→Hp→Prop),Inv X pins σ H s→t σ H Q→wpAny (model X.prog X.w) X.A (evalAll ((backToKw pos (keywordEach kws X.env)).map (·.2))) (AP X pins σ Q) X.xe s
section
variable {X:Cx} {CX:CXT} {k:Nat} {f C:Addr} {fd:FuncData} {ps ks:List Str} {sp:Sp} {E:XK} {x m:Str} {p pos apos kpos:Pos} {e o:Expr} {es:List Expr} {kws:List Keyword} {te ta:TE} {t tk:TA} {nm:Option Str}
theorem pk_nil:PK X [] tNil:=fun _ _ _ _ H Q I h=>wpAny_evalAll_nil ⟨[],H,I,.nil,h⟩
theorem pk_cons (ha:PE X e te) (hr:PK X kws t):PK X (⟨nm,e,kpos⟩ :: kws) (tCons te t):=by
  intro pos pins s σ H Q I h
  show wpAny _ _ (evalAll ((do let v ← eval e X.env; standAt pos; pure v) :: (backToKw pos (keywordEach kws X.env)).map (·.2))) _ _ s
  refine wpAny_evalAll_cons (wpAny_bind (thn (ha pins s σ H _ I h) fun u s1 ⟨x,H1,I1,r1,q1⟩=>wpAny_bind (wpAny_standAt (wpAny_pure ?_))))
  exact thn (hr pos pins s1 σ H1 _ I1 q1) fun us s2 ⟨xs,H2,I2,r2,q2⟩=>⟨x :: xs,H2,I2,.cons r1 r2,q2⟩
structure KBinds (K:PySem.W.Frag) (fd:FuncData) (ps ks:List Str) (g:List Value→List Value→List Value) (gV:List V→List V→List V):Prop where
 to:∀ (s:Shared) (us ws:List Value),K.In s.heap→(g us ws).length=ps.length→BindsTo s fd ⟨us,ks.zip ws⟩ (ps.zip (g us ws))
 rel:∀ {vs:List V} {us:List Value} {zs:List V} {ws:List Value},Vals vs us→Vals zs ws→Vals (gV vs zs) (g us ws)
variable {g:List Value→List Value→List Value} {gV:List V→List V→List V}
end
structure Zan (N P:List Str) (sc:Scope):Prop where
 kind:sc.kind=.function
 co:sc.isCoroutine=false
 gen:sc.isGenerator=false
 nd:N.Nodup
 pre:N.take P.length=P
 par:∀ x∈P,sc.names.lookup x=some .local∨sc.names.lookup x=some .cell
 nofree:∀ y∈sc.names,y.2≠.free
theorem Zi2 {kindOf:Str→Option NameKind} {x:Str}:∀ {binds:List (Str × Value)} {m:Str→Option Value},(∀ v,(x,v) ∉ binds)→bindL kindOf binds m x=m x
 | [],_,_=>rfl
 | (n,v) :: r,m,h=>by
  unfold bindL
  rw [Zi2 fun w hw=>h w (List.mem_cons_of_mem _ hw)]
  split
  ·have:x≠n:=by rintro rfl; exact h v List.mem_cons_self
   simp [this]
  ·rfl
theorem Zi4 {kindOf:Str→Option NameKind} {x:Str}:∀ {binds:List (Str × Value)} {m:Str→Option Value},(∀ v,(x,v) ∉ binds)→bindC kindOf binds m x=m x
 | [],_,_=>rfl
 | (n,v) :: r,m,h=>by
  unfold bindC
  rw [Zi4 fun w hw=>h w (List.mem_cons_of_mem _ hw)]
  split
  ·rfl
  ·have:x≠n:=by rintro rfl; exact h v List.mem_cons_self
   simp [this]
theorem Zi3 {kindOf:Str→Option NameKind} {x:Str} {v:Value}:∀ {P:List Str} {vs:List Value} {i:Nat} {m:Str→Option Value},P.Nodup→P[i]?=some x→vs[i]?=some v→kindOf x=some .local →
  bindL kindOf (P.zip vs) m x=some v
 | [],_,_,_,_,h,_,_=>by simp at h
 | _ :: _,[],_,_,_,_,h,_=>by simp at h
 | p :: P,w :: vs,0,m,nd,h1,h2,hk=>by
  simp at h1 h2; subst h1; subst h2
  show bindL kindOf ((p,w) :: P.zip vs) m p=_
  unfold bindL
  rw [Zi2 fun v hv=>(List.nodup_cons.mp nd).1 (List.of_mem_zip hv).1,if_pos hk]
  simp
 | p :: P,w :: vs,i+1,m,nd,h1,h2,hk=>by
  show bindL kindOf ((p,w) :: P.zip vs) m x=_
  unfold bindL
  exact Zi3 (i:=i) (List.nodup_cons.mp nd).2 (by simpa using h1) (by simpa using h2) hk
theorem Zi5 {kindOf:Str→Option NameKind} {x:Str} {v:Value}:∀ {P:List Str} {vs:List Value} {i:Nat} {m:Str→Option Value},P.Nodup→P[i]?=some x→vs[i]?=some v→kindOf x≠some .local →
  bindC kindOf (P.zip vs) m x=some v
 | [],_,_,_,_,h,_,_=>by simp at h
 | _ :: _,[],_,_,_,_,h,_=>by simp at h
 | p :: P,w :: vs,0,m,nd,h1,h2,hk=>by
  simp at h1 h2; subst h1; subst h2
  show bindC kindOf ((p,w) :: P.zip vs) m p=_
  unfold bindC
  rw [Zi4 fun v hv=>(List.nodup_cons.mp nd).1 (List.of_mem_zip hv).1,if_neg hk]
  simp
 | p :: P,w :: vs,i+1,m,nd,h1,h2,hk=>by
  show bindC kindOf ((p,w) :: P.zip vs) m x=_
  unfold bindC
  exact Zi5 (i:=i) (List.nodup_cons.mp nd).2 (by simpa using h1) (by simpa using h2) hk
def start (N:List Str) (vs:List V):St:=vs.map some++List.replicate (N.length - vs.length) none
def cxOf (CX:CXT) (P:Program) (w:World) (K:PySem.W.Frag) (mg:Str→Option Value) (base:Heap) (N:List Str) (qual:Str) (scope:Scope) (f:Addr) (cd:Value) (A:Around) (outer:List Env) (s:Shared) (H:Hp) (E:XK):Cx where
 prog:=P
 w:=w
 K:=K
 mg:=mg
 base:=base
 A:=A.deeper (envOfC qual scope s.heap.objs.size f cd)
 N:=N
 s₀:=s
 H₀:=H
 env:=envOfC qual scope s.heap.objs.size f cd
 outer:=outer
 stack:=envOfC qual scope s.heap.objs.size f cd :: outer
 ex:=[]
 calm:=true
 fn:=fun _=>true
 pn:=[]
 xe:=fun e s'=>wpAny (model P w) (A.deeper (envOfC qual scope s.heap.objs.size f cd)) (leaving (envOfC qual scope s.heap.objs.size f cd) e) (fun _ s''=>CX outer H s E e s'') (fun e' s''=>CX outer H s E e' s'') s'
theorem cell_has {sc:Scope} {n:Nat} {x:Str} (h:sc.names.lookup x=some .cell):∃ c,(cellsFrom n sc.names []).lookup x=some c:=by
 have q:=PySem.W.cellsFrom_some sc.names n [] (.inl h)
 exact Option.isSome_iff_exists.mp q
theorem inv_start {CX:CXT} {P:Program} {w:World} {K:PySem.W.Frag} {mg:Str→Option Value} {base:Heap} {N ps:List Str} {qual:Str} {scope:Scope} {f:Addr} {cd:Value} {A:Around} {outer:List Env} {s s1:Shared} {H:Hp} {E:XK} {us:List Value} {vs:List V}
  (S:Zan N ps scope) (hd:A.handled=none) (e0:Env0 P w K mg base A outer s H) (hl:vs.length=ps.length) (r:Vals vs us)
  (x:InCallC s s.heap.objs.size (bindL (envOfC qual scope s.heap.objs.size f cd).kindOf (ps.zip us) fun _=>none) (cellsFrom (s.heap.objs.size+1) scope.names []) (bindC (envOfC qual scope s.heap.objs.size f cd).kindOf (ps.zip us) fun _=>none) s1) :
  Inv (cxOf CX P w K mg base N qual scope f cd A outer s H E) [] (start N vs) H s1:=by
 have hpl:ps.length≤N.length:=by have:=congrArg List.length S.pre; rw [List.length_take] at this; omega
 obtain ⟨h1,tk,rfl,hk⟩:=x.done
 have noA:∀ b:Addr,b ∉ (cxOf CX P w K mg base N qual scope f cd A outer s H E).ex:=fun b z=>absurd (show b∈([]:List Addr) from z) (by simp)
 refine ⟨⟨e0.mod,S.kind,rfl,rfl,Nat.le_refl _,fun y z c h1 h2=>?_,fun y hy=>?_,fun y c _ h=>?_,fun _=>hd,Around.frames_deeper e0.frames,.inr ⟨rfl,rfl⟩,fun b z=>absurd z (noA b),e0.bs,e0.bsz,fun b _ _=>noA b,fun b z=>absurd z (noA b),e0.funs,e0.frf⟩,
  rfl,e0.bare,Un.kept hk,⟨_,x.toInCall.ns,fun i y v h1 h2 h3=>?_⟩,fun y c h=>⟨_,x.cell y c h⟩,e0.hok.fresh (Nat.le_refl _),fun y c h=>?_,fun p hp=>absurd (show p∈([]:List (Addr × Obj)) from hp) (by simp),e0.hok.kept hk,?_⟩
 ·exact name_of_addr x.apart (PySem.mem_of_lookup h1) (PySem.mem_of_lookup h2)
 ·have hy:scope.names.lookup y=some .cell∨scope.names.lookup y=some .free:=hy
  rcases hy with hy | hy
  ·exact cell_has hy
  ·exact absurd rfl (S.nofree _ (PySem.mem_of_lookup hy))
 ·exact Nat.le_of_lt (x.above y c (PySem.mem_of_lookup h))
 ·have hi:i < vs.length:=by
   unfold start at h2
   by_cases hi:i < vs.length
   ·exact hi
   ·rw [List.getElem?_append_right (by simpa using hi)] at h2
    rw [List.getElem?_replicate] at h2
    split at h2 <;> cases h2
  have ha:vs[i]?=some v:=by
   unfold start at h2
   rw [List.getElem?_append_left (by simpa using hi),List.getElem?_map] at h2
   cases e:vs[i]? with
   | none=>rw [e] at h2; cases h2
   | some a=>rw [e] at h2; cases h2; rfl
  obtain ⟨u,hu,rv⟩:=r.get ha
  have hp:ps[i]?=some y:=by
   rw [← S.pre,List.getElem?_take_of_lt (by omega)]; exact h1
  have ndP:ps.Nodup:=by rw [← S.pre]; exact S.nd.sublist (List.take_sublist _ _)
  refine ⟨u,rv,?_⟩
  rcases S.par y (List.mem_of_getElem? hp) with k | k
  ·exact .inl ⟨k,Zi3 ndP hp hu k⟩
  ·obtain ⟨c,e⟩:=cell_has (n:=s.heap.objs.size+1) k
   refine .inr ⟨.inl k,c,e,?_⟩
   have q:=x.cell y c e
   rw [Zi5 ndP hp hu (by show scope.names.lookup y≠_; rw [k]; decide)] at q
   exact q
 ·exact e0.hok.fresh (Nat.le_of_lt (x.above y c (PySem.mem_of_lookup h)))
 ·unfold start
  show _=N.length
  rw [List.length_append,List.length_map,List.length_replicate]
  omega
theorem fn_of {CX:CXT} {P:Program} {w:World} {K:PySem.W.Frag} {mg:Str→Option Value} {base:Heap} {k:Nat} {f:Addr} {name qual:Str} {params:Arguments} {body:List Stmt} {scope:Scope} {dV kV doc pm cdv ct oc:Value} {an od:Option Addr}
  {osl:Array (Option Value)} {N ps:List Str} {sp:Sp} (lk:K.lookup f=some ⟨oc,od,.func (PySem.W.fnOf name qual params body scope dV kV doc pm an cdv ct),osl⟩) (hcd:PySem.W.codeIn K cdv qual=true) (S:Zan N ps scope)
  (len:∀ vs H Q E,sp vs H Q E→vs.length=ps.length)
  (hbody:∀ (A:Around) (outer:List Env) (s:Shared) (H:Hp) (vs:List V) (Q:VK) (E:XK),Room k (A.deeper (envOfC qual scope s.heap.objs.size f cdv))→sp vs H Q E →
   ∃ t,PSs (cxOf CX P w K mg base N qual scope f cdv A outer s H E) body t∧t { nx:=fun _ H'=>Q .non H',rt:=Q } (start N vs) H) :
  FnOk P w K mg base CX (k+1) f (PySem.W.fnOf name qual params body scope dV kV doc pm an cdv ct) ps sp:=by
 refine ⟨len,fun A outer s H args us vs Q E hr e0 hb r hsp=>?_⟩
 have hl:=len _ _ _ _ hsp
 have KX:K.In s.heap:=e0.mod.kin.keeps fun b o e=>(e0.bs b o e).1
 have lim:s.heap.NoLimit:=e0.mod.nolimit.keeps fun b o e=>(e0.bs b o e).1
 have hkind:∀ y∈ps.zip us,scope.names.lookup y.1=some .local∨(scope.names.lookup y.1=some .cell∧((cellsFrom (s.heap.objs.size+1) scope.names []).lookup y.1).isSome=true):=fun ⟨n,v⟩ hy=>by
  rcases S.par n (List.of_mem_zip hy).1 with q | q
  ·exact .inl q
  ·exact .inr ⟨q,PySem.W.cellsFrom_some _ _ _ (.inl q)⟩
 refine codeAny_call_function hr.depth (KX _ _ lk) rfl S.co S.gen rfl (PySem.W.codeRec_of KX hcd) (hb _ _ _ _ ?_)
 refine wpAny_newFunctionEnv_cells S.kind hkind fun env he s1 x=>?_
 subst he
 refine ⟨lim.keeps x.toInCall.keep,codeAny_func ?_⟩
 obtain ⟨t,ht,hq⟩:=hbody A outer s H vs Q E (hr.deeper _) hsp
 have I:Inv (cxOf CX P w K mg base N qual scope f cdv A outer s H E) [] (start N vs) H s1:=inv_start S hr.hd e0 hl r x
 refine wpAny_mono (ht [] s1 (start N vs) H _ I hq) (fun fl s' hs=>?_) fun e s' hs=>hs
 have fin:∀ {σ':St} {H':Hp} {v:V} {u:Value},Inv (cxOf CX P w K mg base N qual scope f cdv A outer s H E) [] σ' H' s'→RelV v u→Q v H'→CE outer P w H s Q u s' :=
  fun {σ' H' v u} J rv q=>⟨v,H',J.os,J.bare,J.base,J.hok,rv,q⟩
 cases fl with
 | ret u =>
  obtain ⟨v,σ',H',J,rv,q⟩:=hs
  exact fin J rv q
 | next =>
  obtain ⟨σ',H',J,q⟩:=hs
  exact fin (v:=V.non) (u:=Value.none) J rfl q
 | brk =>
  obtain ⟨_,_,_,q⟩:=hs
  exact False.elim q
 | cont =>
  obtain ⟨_,_,_,q⟩:=hs
  exact False.elim q
end L2
namespace L2
open PySem PySem.Spec PyProof.Rows
section
variable {X:Cx} {x:Str} {p pos:Pos} {e:Expr} {es:List Expr} {t:TA} {id T:String} {r:List V→Hp→VK→Prop}
def tCB (r:List V→Hp→VK→Prop) (t:TA):TE:=fun σ H Q=>t σ H fun vs H1=>r vs H1 Q
theorem Zao (hc:CallR X (.builtin id) r) (hg:Gl X x) (hm:X.mg x=none) (hv:bootBuiltins x=some (.builtin id)) (ha:PA X (e :: es) t) (hn:x≠"__name__":=by decide) (hdb:(x == ("__debug__":Str))=false:=by decide)
  (he:starEach (e :: es) X.env=(false,eval e X.env) :: starEach es X.env:=by rfl) (hpl:(backTo pos (starEach es X.env)).any (·.1)=false:=by rfl):PE X (.Call (.Name x p) (e :: es) [] pos) (tCB r t):=by
 intro pins s σ H Q I h
 refine wpAny_Call_Name_kw (Zgs I hg hm hv ?_ hn hdb)
 exact PyProof.Rows.callWith_builtin1 (thn (ha pos pins s σ H _ I h) fun us s1 ⟨vs,H1,I1,r1,q1⟩=>hc pins s1 σ H1 vs us Q I1 r1 q1) he hpl
theorem Zif (hc:CallR X (.type T) r) (hg:Gl X x) (hm:X.mg x=none) (hv:bootBuiltins x=some (.type T)) (ha:PA X (e :: es) t) (hn:x≠"__name__":=by decide) (hdb:(x == ("__debug__":Str))=false:=by decide)
  (he:starEach (e :: es) X.env=(false,eval e X.env) :: starEach es X.env:=by rfl) (hpl:(backTo pos (starEach es X.env)).any (·.1)=false:=by rfl):PE X (.Call (.Name x p) (e :: es) [] pos) (tCB r t):=by
 intro pins s σ H Q I h
 refine wpAny_Call_Name_kw (Zgs I hg hm hv ?_ hn hdb)
 exact PyProof.Rows.callWith_type1 (thn (ha pos pins s σ H _ I h) fun us s1 ⟨vs,H1,I1,r1,q1⟩=>hc pins s1 σ H1 vs us Q I1 r1 q1) he hpl
end
end L2
namespace HT
open PySem PyProof.Rows
def lexLt:List Int→List Int→Bool
 | [],[]=>false
 | [],_ :: _=>true
 | _ :: _,[]=>false
 | x :: xs,y :: ys=>if x=y then lexLt xs ys else decide (x < y)
theorem lexLt_cons (x y:Int) (xs ys:List Int):lexLt (x :: xs) (y :: ys)=if x=y then lexLt xs ys else decide (x < y):=rfl
theorem lexLt_nil_nil:lexLt [] []=false:=rfl
theorem Zgb (y:Int) (ys:List Int):lexLt [] (y :: ys)=true:=rfl
theorem Zgc (x:Int) (xs:List Int):lexLt (x :: xs) []=false:=rfl
theorem eqAt_int (A:Around) (s:Shared) (a:Int) (t:Tok) (c:Int) (u:Tok):∃ e,SeqAt.EqAt A s (.int a t) (.int c u) e∧(e=true↔a=c) :=
 ⟨(a == c),SeqAt.EqAt.int_int a t c u,by simp⟩
theorem rcLt_int (A:Around) (s:Shared) (a:Int) (t:Tok) (c:Int) (u:Tok) (prog:Program) (w:World) (E:Value→Shared→Prop) (Q:Value→Shared→Prop) (h:Q (.bool (decide (a < c))) s) :
  wpAny (model prog w) A (richCompare .Lt (.int a t) (.int c u)) Q E s :=
 (PyProof.Rows.lt_int h:wpAny (model prog w) A (compareOp .Lt (.int a t) (.int c u)) Q E s)
section
open PySem.SeqAt
open PySem.AutoSeq1 (wpAny_loadPart')
open PySem.MeetsSeq PySem.MeetsSeq2 PySem.MeetsSeq3
theorem Zg4 (l b:Addr) (items items2:Array Value) (n n2:Nat) (dd dd2:Option Addr) (sl sl2:Array (Option Value)) (ns ms:List Int) (hi:IntsAre items.toList ns) (hj:IntsAre items2.toList ms) :
  Meets (Builtin.«tuple.__lt__» ⟨[.ref l,.ref b],[]⟩)
   (fun _ R s=>s.heap.get? l=some { cls:=.type "tuple",dict:=dd,data:=.seq items n,slots:=sl }∧s.heap.get? b=some { cls:=.type "tuple",dict:=dd2,data:=.seq items2 n2,slots:=sl2 } ∧
    R (.ok (.ret (.bool (lexLt ns ms)))) s) :=
 .of_wp fun prog w A R s h=>by
  obtain ⟨hp,g,d,tk,os⟩:=s; obtain ⟨hl,hb,h⟩:=h
  have f2:=AutoSeq1.sub_tuple_tuple
  have z1:items.size=ns.length:=by rw [← hi.length]; simp
  have z2:items2.size=ms.length:=by rw [← hj.length]; simp
  wp_walk using wpAny_loadPart' hl,wpAny_loadPart' hb,wpAny_forIn_list _ (fun rest b s'=>b.1=none∧s'=⟨hp,g,d,tk,os⟩∧∃ (vs ws:List Value) (ns' ms':List Int),rest=vs.zip ws ∧
   IntsAre vs ns'∧IntsAre ws ms'∧ns'.length+items2.size=ms'.length+items.size∧R (.ok (.ret (.bool (lexLt ns' ms')))) ⟨hp,g,d,tk,os⟩) _
  case turn =>
   rintro ⟨y,x⟩ rest b s' ⟨hb',rfl,vs,ws,ns',ms',hz,hvi,hwi,hlen,hR⟩
   cases hvi with
   | nil=>rw [List.zip_nil_left] at hz; cases hz
   | cons a t hvi' =>
    cases hwi with
    | nil=>rw [List.zip_nil_right] at hz; cases hz
    | cons c u hwi' =>
     rw [List.zip_cons_cons] at hz
     injection hz with hyx hrest
     injection hyx with hy hx
     subst hy hx
     rw [lexLt_cons] at hR
     simp only [List.length_cons] at hlen
     obtain ⟨e,he,hiff⟩:=eqAt_int A.in1 ⟨hp,g,d,tk,os⟩ a t c u
     refine wpAny_bind (he prog w _ _ ?_)
     cases e with
     | true =>
      rw [if_pos (hiff.mp rfl)] at hR
      wp_walk
      exact ⟨rfl,rfl,_,_,_,_,hrest,hvi',hwi',by omega,hR⟩
     | false =>
      rw [if_neg (fun q=>absurd (hiff.mpr q) Bool.false_ne_true)] at hR
      have hri:=rcLt_int A.in1 ⟨hp,g,d,tk,os⟩ a t c u prog w
      wp_walk using hri
      exact ⟨_,rfl,by simpa using hR⟩
  case fin =>
   rintro ⟨b1,b2⟩ s' ⟨hb',rfl,vs,ws,ns',ms',hz,hvi,hwi,hlen,hR⟩
   simp only at hb'
   subst hb'
   have hv:lexLt ns' ms'=decide (items.size < items2.size):=by
    cases hvi with
    | nil =>
     cases hwi with
     | nil =>
      simp only [List.length_nil] at hlen
      rw [lexLt_nil_nil]
      exact (decide_eq_false (by omega)).symm
     | cons c u hw =>
      simp only [List.length_nil,List.length_cons] at hlen
      rw [Zgb]
      exact (decide_eq_true (by omega)).symm
    | cons a t hv =>
     cases hwi with
     | nil =>
      simp only [List.length_nil,List.length_cons] at hlen
      rw [Zgc]
      exact (decide_eq_false (by omega)).symm
     | cons c u hw =>
      rw [List.zip_cons_cons] at hz
      cases hz
   rw [hv] at hR
   wp_walk
   exact ⟨_,rfl,by simpa [Builtin.Tuple.tupleCompareSizes] using hR⟩
  case h =>
   exact ⟨rfl,rfl,items.toList,items2.toList,ns,ms,rfl,hi,hj,by omega,h⟩
end
section
variable {prog:Program} {w:World} {A:Around} {E:Value→Shared→Prop} {s:Shared}
theorem lt_tupInts {l b:Addr} {items items2:Array Value} {ns ms:List Int} {Q:Value→Shared→Prop} (hl:IsTup s.heap l items) (hb:IsTup s.heap b items2) (hi:IntsAre items.toList ns) (hj:IntsAre items2.toList ms)
  (hu:A.units < cLine) (h:Q (.bool (lexLt ns ms)) s):wpAny (model prog w) A (compareOp .Lt (.ref l) (.ref b)) Q E s:=by
 obtain ⟨⟨cls,dd,data,sl⟩,ho,hc,n,hd⟩:=id hl
 obtain ⟨⟨cls2,dd2,data2,sl2⟩,ho2,hc2,n2,hd2⟩:=id hb
 simp only at hc hd hc2 hd2
 subst hc hd hc2 hd2
 exact richCompare_meets_room (op:=.Lt) ⟨_,ho,rfl⟩ ⟨_,ho2,rfl⟩ PySem.F.slot_tuple_lt PySem.F.entry_tuple_lt (PySem.F.args_tuple_lt_2 _ _) (Zg4 l b items items2 n n2 dd dd2 sl sl2 ns ms hi hj)
  ⟨ho,ho2,show Value.bool (lexLt ns ms)≠Value.notImplemented∧Q (.bool (lexLt ns ms)) s from ⟨(fun x=>nomatch x),h⟩⟩ hu
def sIx (n d:Nat):Option Int→Nat
 | none=>d
 | some v=>if v < 0 then (v+(n:Int)).toNat else min v.toNat n
theorem sIx_le (n d:Nat) (hd:d≤n) (o:Option Int):sIx n d o≤n:=by
 cases o with
 | none=>exact hd
 | some v =>
  show (if v < 0 then (v+(n:Int)).toNat else min v.toNat n)≤n
  by_cases hv:v < 0
  ·rw [if_pos hv]; omega
  ·rw [if_neg hv]; exact Nat.min_le_right _ _
theorem clip_eq (v:Int) (n d:Nat):(if v < 0 then max (v+(n:Int)) 0 else min v (n:Int))=((sIx n d (some v):Nat):Int):=by
 show (if v < 0 then max (v+(n:Int)) 0 else min v (n:Int))=(((if v < 0 then (v+(n:Int)).toNat else min v.toNat n):Nat):Int)
 by_cases hv:v < 0
 ·simp only [if_pos hv]; omega
 ·simp only [if_neg hv]; omega
theorem adjust_gen (lo hi:Option Int) (n:Nat):Builtin.Slice.sliceAdjust lo hi 1 (n:Int)=(((sIx n 0 lo:Nat):Int),((sIx n n hi:Nat):Int)):=by
 have h1:¬ ((1:Int) < 0):=by omega
 unfold Builtin.Slice.sliceAdjust
 simp only [h1,if_false]
 refine Prod.ext ?_ ?_
 ·cases lo with
  | none=>rfl
  | some v=>exact clip_eq v n 0
 ·cases hi with
  | none=>rfl
  | some v=>exact clip_eq v n n
theorem places_gen (i j:Nat):Builtin.Slice.slicePlaces (i:Int) (j:Int) 1=j - i:=by
 unfold Builtin.Slice.slicePlaces
 have h1:(1:Int) > 0:=by omega
 simp only [h1,if_true,Int.ediv_one]
 split <;> omega
theorem Zgl {v:Value} {o:Option Int} {Q:Option Int→Shared→Prop} (p:IsPart v o) (h:Q o s):wpAny (model prog w) A (Builtin.Slice.slicePartIndex v) Q E s:=by
 cases p with
 | none=>exact slicePart_none h
 | int i t=>exact slicePart_int h
theorem Zev {sl:Addr} {vl vu:Value} {lo hi:Option Int} {n:Nat} {Q:Int × Int × Nat→Shared→Prop} (hs:s.heap.IsSliceOf sl vl vu .none) (pl:IsPart vl lo) (pu:IsPart vu hi)
  (h:Q (((sIx n 0 lo:Nat):Int),1,sIx n n hi - sIx n 0 lo) s):wpAny (model prog w) A (Builtin.Slice.sliceApplied (.ref sl) (pure (n:Int))) Q E s:=by
 obtain ⟨os,hos,hcs,hds⟩:=id hs
 unfold Builtin.Slice.sliceApplied Builtin.Slice.sliceFields
 refine wpAny_bind (wpAny_bind (wpAny_field hos hds (x:=vl) rfl (wpAny_bind (wpAny_field hos hds (x:=vu) rfl (wpAny_bind (wpAny_field hos hds (x:=.none) rfl (wpAny_pure ?_)))))))
 refine wpAny_bind (slicePart_none ?_)
 show wpAny _ _ (if ((1:Int) == 0)=true then _ else _) _ _ s
 rw [if_neg (by decide)]
 refine wpAny_bind (Zgl pl (wpAny_bind (Zgl pu (wpAny_bind (wpAny_pure ?_)))))
 show wpAny _ _ (match Builtin.Slice.sliceAdjust lo hi 1 (n:Int) with | (lo,hi)=>pure (lo,(1:Int),Builtin.Slice.slicePlaces lo hi 1)) _ _ s
 rw [adjust_gen lo hi n]
 show wpAny _ _ (pure (((sIx n 0 lo:Nat):Int),(1:Int),Builtin.Slice.slicePlaces ((sIx n 0 lo:Nat):Int) ((sIx n n hi:Nat):Int) 1)) _ _ s
 rw [places_gen]
 exact wpAny_pure h
theorem pick_gen (xs:Array Value) (i k:Nat):((List.range k).filterMap fun (m:Nat)=>xs[((i:Int)+(m:Int) * 1).toNat]?).toArray=((xs.toList.drop i).take k).toArray:=by
 have e:(fun (m:Nat)=>xs[((i:Int)+(m:Int) * 1).toNat]?)=fun m=>xs[i+m]?:=by
  funext m
  have:((i:Int)+(m:Int) * 1).toNat=i+m:=by omega
  rw [this]
 rw [e]
 have:=pick_run xs i k
 rw [List.filterMap_map] at this
 have e2:((fun x=>xs[x]?)∘fun x=>i+x)=fun m=>xs[i+m]?:=rfl
 rw [e2] at this
 rw [this]
theorem getItem_tuple_cut {t sl:Addr} {items:Array Value} {vl vu:Value} {lo hi:Option Int} {Q:Value→Shared→Prop} (ht:IsTup s.heap t items) (hs:s.heap.IsSliceOf sl vl vu .none) (pl:IsPart vl lo) (pu:IsPart vu hi)
  (hw:¬ (sIx items.size 0 lo=0∧sIx items.size items.size hi=items.size))
  (h:Q (.ref s.heap.objs.size) { s with heap:=s.heap.push { cls:=.type "tuple",data:=.seq ((items.toList.drop (sIx items.size 0 lo)).take (sIx items.size items.size hi - sIx items.size 0 lo)).toArray } })
  (hsz:items.size≤sizeLine):wpAny (model prog w) A (getItem (.ref t) (.ref sl)) Q E s:=by
 have htake:sizeOk (.seq ((items.toList.drop (sIx items.size 0 lo)).take (sIx items.size items.size hi - sIx items.size 0 lo)).toArray):=by
  show ((items.toList.drop (sIx items.size 0 lo)).take (sIx items.size items.size hi - sIx items.size 0 lo)).toArray.size≤sizeLine
  rw [List.size_toArray,List.length_take,List.length_drop,Array.length_toList]
  omega
 have hj:sIx items.size items.size hi≤items.size:=sIx_le _ _ (Nat.le_refl _) hi
 obtain ⟨os,hos,hcs,hds⟩:=id hs
 have hTs:s.TypeIs (.ref sl) "slice":=⟨os,hos,hcs⟩
 unfold getItem
 try with_reducible refine wpAny_holding ?_
 first | refine wpAny_bind (wpAny_pure ?_) | skip
 refine wpAny_bind (wpAny_sequenceKey ht.typeIs (by decide) ?_)
 refine wpAny_bind (wpAny_callSpecial?_slot (name:=Str.ofString "__getitem__") ht.typeIs PyProof.Rows.slot_tuple_getitem
  (wpAny_call_entry PyProof.Rows.slot_tuple_getitem ht.typeIs entry_tuple_getitem ?_ (args_tuple_getitem _ _)))
 show wpAny _ _ (Builtin.Tuple.tupleItemsOf (.ref t) >>= _) _ _ s
 refine wpAny_bind (tupleItemsOf_ ht ?_)
 refine wpAny_bind (wpAny_typeOf hTs ?_)
 rw [if_pos (by decide)]
 refine wpAny_bind (Zev hs pl pu ?_)
 have hno:¬ ((((sIx items.size 0 lo:Nat):Int) == 0 && (1:Int) == 1 && (sIx items.size items.size hi - sIx items.size 0 lo) == items.size)=true):=by
  intro q
  rw [Bool.and_eq_true,Bool.and_eq_true] at q
  have q1:((sIx items.size 0 lo:Nat):Int)=0:=eq_of_beq q.1.1
  have q2:sIx items.size items.size hi - sIx items.size 0 lo=items.size:=eq_of_beq q.2
  exact hw ⟨by omega,by omega⟩
 show wpAny _ _ (if (((sIx items.size 0 lo:Nat):Int) == 0 && (1:Int) == 1 && (sIx items.size items.size hi - sIx items.size 0 lo) == items.size)=true then _ else _) _ _ s
 rw [if_neg hno,pick_gen]
 first
  | exact wpAny_bind (m:=Builtin.Tuple.tupleExact _) (wpAny_newObj_type (wpAny_pure ⟨_,rfl,wpAny_pure h⟩) htake)
  | exact wpAny_bind (m:=Builtin.Tuple.tupleExact _) (wpAny_newObj_type (wpAny_bind (wpAny_pure (wpAny_pure ⟨_,rfl,wpAny_pure h⟩))) htake)
  | exact wpAny_bind (wpAny_bind (m:=Builtin.Tuple.tupleExact _) (wpAny_newObj_type (wpAny_pure (wpAny_pure ⟨_,rfl,wpAny_pure h⟩)) htake))
  | exact wpAny_bind (wpAny_bind (m:=Builtin.Tuple.tupleExact _) (wpAny_newObj_type (wpAny_pure ⟨_,rfl,wpAny_pure h⟩) htake))
end
end HT
namespace L2
open PySem PySem.Spec PyProof.Rows
abbrev TO:=St→Hp→(Option Int→Hp→Prop)→Prop
def PO (X:Cx) (e:Option Expr) (t:TO):Prop :=
 ∀ (pins:List (Addr × Obj)) (s:Shared) (σ:St) (H:Hp) (Q:Option Int→Hp→Prop),Inv X pins σ H s→t σ H Q →
  wpAny (model X.prog X.w) X.A (evalPart e X.env) (fun u s'=>∃ o H',Inv X pins σ H' s'∧IsPart u o∧Q o H') X.xe s
def tNoPart:TO:=fun _ H Q=>Q none H
def tPart (t:TE):TO:=fun σ H Q=>t σ H fun x H1=>∃ i,x=.int i∧Q (some i) H1
theorem Zej {ns:List Int}:∀ {us:List Value},Vals (ns.map V.int) us→IntsAre us ns:=by
 induction ns with
 | nil=>intro us r; rw [List.map_nil] at r; cases r; exact .nil
 | cons n ns ih =>
  intro us r
  rw [List.map_cons] at r
  cases r with
  | cons r1 r2 =>
   obtain ⟨t,e⟩:=r1
   subst e
   exact .cons n t (ih r2)
section
variable {X:Cx} {e:Expr} {te:TE} {lo hi:Option Expr} {tl th:TO} {pos p2:Pos}
theorem po_none:PO X none tNoPart:=by
 intro pins s σ H Q I h
 rw [evalPart_none]
 exact wpAny_pure ⟨none,H,I,.none,h⟩
theorem po_some (h:PE X e te):PO X (some e) (tPart te):=by
 intro pins s σ H Q I hw
 rw [evalPart_some]
 refine thn (h pins s σ H _ I hw) fun u s1 ⟨x,H1,I1,r1,q1⟩=>?_
 obtain ⟨i,rfl,q⟩:=q1
 obtain ⟨t,rfl⟩:=r1
 exact ⟨some i,H1,I1,.int i t,q⟩
def SlR (X:Cx) (r:V→Option Int→Option Int→Hp→VK→Prop):Prop :=
 ∀ (pins:List (Addr × Obj)) (s:Shared) (σ:St) (H:Hp) (x:V) (v vl vu:Value) (lo hi:Option Int) (sl:Addr) (Q:VK),Inv X pins σ H s→RelV x v→s.heap.IsSliceOf sl vl vu .none→IsPart vl lo→IsPart vu hi→r x lo hi H Q →
  ∃ T id,typeLookup (.type T) "__getitem__"=pure (some (.builtin id))∧s.TypeIs v T∧wpAny (model X.prog X.w) X.A (getItem v (.ref sl)) (EP X pins σ Q) X.xe s
def tSl (r:V→Option Int→Option Int→Hp→VK→Prop) (te:TE) (tl th:TO):TE:=fun σ H Q=>te σ H fun x H1=>tl σ H1 fun l H2=>th σ H2 fun u H3=>r x l u H3 Q
theorem pe_slice {r:V→Option Int→Option Int→Hp→VK→Prop} (hr:SlR X r) (he:PE X e te) (hl:PO X lo tl) (hu:PO X hi th):PE X (.Subscript e (.Slice lo hi none p2) pos) (tSl r te tl th):=by
 intro pins s σ H Q I h
 refine Subscript_ (thn (he pins s σ H _ I h) fun v s1 ⟨x,H1,I1,r1,q1⟩=>?_)
 refine wpAny_Slice (thn (hl pins s1 σ H1 _ I1 q1) fun vl s2 ⟨l,H2,I2,pl,q2⟩=>thn (hu pins s2 σ H2 _ I2 q2) fun vu s3 ⟨u,H3,I3,pu,q3⟩=>?_)
 rw [evalPart_none]
 refine wpAny_pure ?_
 have I4:Inv X pins σ H3 { s3 with heap:=s3.heap.push { cls:=.type "slice",data:=.fields #[vl,vu,.none] } }:=I3.kept (t':=s3.toks) fun b ob q=>Heap.get?_push_of_some _ q
 obtain ⟨T,id,hT,ht,hg⟩:=hr pins { s3 with heap:=s3.heap.push { cls:=.type "slice",data:=.fields #[vl,vu,.none] } } σ H3 x v vl vu l u s3.heap.objs.size Q I4 r1 (Heap.IsSliceOf.new ..) pl pu q3
 show wpAny (model X.prog X.w) X.A (subscriptTail e (.Slice lo hi none p2) v (.ref s3.heap.objs.size)) (EP X pins σ Q) X.xe { s3 with heap:=s3.heap.push { cls:=.type "slice",data:=.fields #[vl,vu,.none] } }
 exact tail_any (ops:=[.ref s3.heap.objs.size,v]) ht hT hg (by with_unfolding_all rfl)
def cutV (xs:List V) (lo hi:Option Int):List V:=(xs.drop (HT.sIx xs.length 0 lo)).take (HT.sIx xs.length xs.length hi - HT.sIx xs.length 0 lo)
theorem Zkf (xs:List V) (lo hi:Option Int):(cutV xs lo hi).length≤xs.length:=by
 unfold cutV
 rw [List.length_take,List.length_drop]
 omega
def rSlT (K:PySem.W.Frag):V→Option Int→Option Int→Hp→VK→Prop:=fun x lo hi H Q=>∃ a xs,x=.ref a∧SqT K H a xs ∧
 ¬ (HT.sIx xs.length 0 lo=0∧HT.sIx xs.length xs.length hi=xs.length)∧∀ p,H p=none→Q (.ref p) (upd H p (.tup (cutV xs lo hi)))
theorem sl_tup:SlR X (rSlT X.K):=by
 intro pins s σ H x v vl vu lo hi sl Q I rx hs pl pu h
 obtain ⟨a,xs,rfl,hx,hw,q⟩:=h
 cases rx
 obtain ⟨its,r,ht,hz⟩:=I.tuple hx
 have hlen:its.toArray.size=xs.length:=by rw [List.size_toArray]; exact r.length.symm
 refine ⟨"tuple",_,PyProof.Rows.slot_tuple_getitem.lookup,ht.typeIs,?_⟩
 refine HT.getItem_tuple_cut ht hs pl pu (by rw [hlen]; exact hw) ?_ (by rw [hlen]; exact hz)
 rw [hlen]
 refine ⟨.ref s.heap.objs.size,_,I.laid (t':=s.toks) (o:=.tup (cutV xs lo hi)) (fun b ob q=>Heap.get?_push_of_some _ q) (Nat.le_refl _) ?_,rfl,q _ (I.hok.fresh (Nat.le_refl _))⟩
 exact ⟨Nat.le_trans (Zkf xs lo hi) hz,_,(r.drop (HT.sIx xs.length 0 lo)).take (HT.sIx xs.length xs.length hi - HT.sIx xs.length 0 lo),IsTup.new _ _⟩
end
end L2
namespace L2
open PySem PySem.Spec PyProof.Rows
def ixN (n:Nat) (i:Int):Option Nat:=if 0≤i then (if i < n then some i.toNat else none) else if -(n:Int)≤i then some (i+n).toNat else none
def atI {α:Type} (xs:List α) (i:Int):Option α:=(ixN xs.length i).bind fun j=>xs[j]?
theorem ixN_seq {n:Nat} {i:Int} {j:Nat} (h:ixN n i=some j):seqIndex? i n=some j∧j < n∧-(n:Int)≤i∧i < n:=by
 unfold ixN at h
 by_cases h0:0≤i
 ·rw [if_pos h0] at h
  by_cases h1:i < n
  ·rw [if_pos h1] at h
   have e:i.toNat=j:=Option.some.inj h
   exact ⟨by rw [seqIndex_of h0 h1,e],by omega,by omega,h1⟩
  ·rw [if_neg h1] at h; cases h
 ·rw [if_neg h0] at h
  by_cases h1:-(n:Int)≤i
  ·rw [if_pos h1] at h
   have e:(i+n).toNat=j:=Option.some.inj h
   exact ⟨by rw [seqIndex_neg (by omega) h1,e],by omega,h1,by omega⟩
  ·rw [if_neg h1] at h; cases h
theorem atI_get {α:Type} {xs:List α} {i:Int} {v:α} (h:atI xs i=some v):∃ j,seqIndex? i xs.length=some j∧xs[j]?=some v∧j < xs.length∧-(xs.length:Int)≤i∧i < xs.length:=by
 unfold atI at h
 cases e:ixN xs.length i with
 | none=>rw [e] at h; cases h
 | some j =>
  rw [e] at h
  obtain ⟨h1,h2,h3,h4⟩:=ixN_seq e
  exact ⟨j,h1,h,h2,h3,h4⟩
theorem Zcw {α:Type} {xs:List α} {j:Nat} {v:α} (h:xs[j]?=some v):atI xs (j:Int)=some v:=by
 have hj:j < xs.length:=(List.getElem?_eq_some_iff.mp h).1
 have e:ixN xs.length (j:Int)=some j:=by
  unfold ixN
  rw [if_pos (by omega),if_pos (by omega)]; simp
 unfold atI; rw [e]; exact h
def PlainIx (b:Expr):Prop:=∀ o i,subscripted b false o i=operate [o,i] (getItem o i)
def IxR (X:Cx) (r:R2):Prop :=
 ∀ (value slice:Expr) (pins:List (Addr × Obj)) (s:Shared) (σ:St) (H:Hp) (x y:V) (v u:Value) (Q:VK),Inv X pins σ H s→RelV x v→RelV y u→r x y H Q →
  subscripted slice false v u=operate [v,u] (getItem v u)→wpAny (model X.prog X.w) X.A (subscriptTail value slice v u) (EP X pins σ Q) X.xe s
def MtR (X:Cx) (id:String) (r:V→List V→Hp→VK→Prop):Prop :=
 ∀ (pins:List (Addr × Obj)) (s:Shared) (σ:St) (H:Hp) (x:V) (xs:List V) (v:Value) (us:List Value) (Q:VK),Inv X pins σ H s→RelV x v→Vals xs us→r x xs H Q →
  wpAny (model X.prog X.w) X.A (call (.builtin id) (v :: us)) (EP X pins σ Q) X.xe s
section
variable {X:Cx} {a b:Expr} {ta tb:TE} {pos:Pos}
theorem Zam {r:R2} (hr:IxR X r) (ha:PE X a ta) (hb:PE X b tb) (hs:PlainIx b):PE X (.Subscript a b pos) (tOp r ta tb):=by
 intro pins s σ H Q I h
 exact Subscript_ (binT ha hb I h fun v u s2 x y H2 I2 rx ry q=>hr a b pins s2 σ H2 x y v u Q I2 rx ry q (hs _ _))
def rIxL (K:PySem.W.Frag):R2:=fun x y H Q=>∃ p xs i v,x=.ref p∧y=.int i∧SqL K H p xs∧atI xs i=some v∧Q v H
def rIxT (K:PySem.W.Frag):R2:=fun x y H Q=>∃ p xs i v,x=.ref p∧y=.int i∧SqT K H p xs∧atI xs i=some v∧Q v H
theorem Za8:IxR X (rIxL X.K):=by
 intro value slice pins s σ H x y v u Q I rx ry h hs
 obtain ⟨p,xs,i,z,rfl,rfl,hq,he,q⟩:=h
 cases rx
 obtain ⟨t,rfl⟩:=ry
 obtain ⟨its,r,pl,hz⟩:=I.list hq
 obtain ⟨j,h1,h2,h3,h4,h5⟩:=atI_get he
 obtain ⟨w,ew,rw'⟩:=r.get h2
 have hl:=r.length
 have hn:=line63
 have fin:EP X pins σ Q w s:=⟨z,H,I,rw',q⟩
 by_cases h0:0≤i
 ·have hj:i.toNat=j:=by
   rw [seqIndex_of h0 h5] at h1
   exact Option.some.inj h1
  exact item_listR pl.isList h0 (by omega) (by rw [hj]; simpa using ew) fin hs
 ·have hj:(i+(its.toArray.size:Int)).toNat=j:=by
   rw [seqIndex_neg (by omega) h4] at h1
   rw [List.size_toArray,← hl]
   exact Option.some.inj h1
  exact subscriptTail_builtinR (x:=w) pl.isList.typeIs slot_list_getitem.lookup
   (wpAny_getItem_list_neg (Q:=fun r s'=>r=w∧EP X pins σ Q r s') pl.isList (by omega) (by rw [List.size_toArray] <;> omega) (by omega) (by rw [hj]; simpa using ew) ⟨rfl,fin⟩) hs
theorem Zaj:IxR X (rIxT X.K):=by
 intro value slice pins s σ H x y v u Q I rx ry h hs
 obtain ⟨p,xs,i,z,rfl,rfl,hq,he,q⟩:=h
 cases rx
 obtain ⟨t,rfl⟩:=ry
 obtain ⟨its,r,pl,hz⟩:=I.tuple hq
 obtain ⟨j,h1,h2,h3,h4,h5⟩:=atI_get he
 obtain ⟨w,ew,rw'⟩:=r.get h2
 have hl:=r.length
 have hn:=line63
 have fin:EP X pins σ Q w s:=⟨z,H,I,rw',q⟩
 exact subscriptTail_builtinR (x:=w) pl.typeIs slot_tuple_getitem.lookup
  (getItem_tuple (j:=j) (Q:=fun r s'=>r=w∧EP X pins σ Q r s') pl (by omega) (by omega) (by rw [List.size_toArray,← hl]; exact h1) (by simpa using ew) ⟨rfl,fin⟩) hs
def flatV:V→Bool
 | .non=>true
 | .bl _=>true
 | .int _=>true
 | .str _=>true
 | _=>false
def eqV:V→V→Bool
 | .non,.non=>true
 | .bl a,.bl b=>a == b
 | .bl a,.int b=>(if a then 1 else 0) == b
 | .int a,.bl b=>a == (if b then 1 else 0)
 | .int a,.int b=>a == b
 | .str a,.str b=>a == b
 | _,_=>false
theorem eqAt_V {A:Around} {s:Shared} {y x:V} {u v:Value} (ry:RelV y u) (rx:RelV x v) (fy:flatV y=true) (fx:flatV x=true):SeqAt.EqAt A s u v (eqV y x):=by
 cases y with
 | non =>
  cases ry
  cases x with
  | non=>cases rx; exact SeqAt.EqAt.same _
  | bl b=>cases rx; exact SeqAt.EqAt.none_bool b
  | int b=>obtain ⟨t,rfl⟩:=rx; exact SeqAt.EqAt.none_int b t
  | str b=>obtain ⟨t,rfl⟩:=rx; exact SeqAt.EqAt.none_str b t
  | _=>exact absurd (show false=true from fx) Bool.false_ne_true
 | bl a =>
  cases ry
  cases x with
  | non=>cases rx; exact SeqAt.EqAt.bool_none a
  | bl b=>cases rx; exact SeqAt.EqAt.bool_bool a b
  | int b=>obtain ⟨t,rfl⟩:=rx; exact SeqAt.EqAt.bool_int a b t
  | str b=>obtain ⟨t,rfl⟩:=rx; exact SeqAt.EqAt.bool_str a b t
  | _=>exact absurd (show false=true from fx) Bool.false_ne_true
 | int a =>
  obtain ⟨t',rfl⟩:=ry
  cases x with
  | non=>cases rx; exact SeqAt.EqAt.int_none a t'
  | bl b=>cases rx; exact SeqAt.EqAt.int_bool a t' b
  | int b=>obtain ⟨t,rfl⟩:=rx; exact SeqAt.EqAt.int_int a t' b t
  | str b=>obtain ⟨t,rfl⟩:=rx; exact SeqAt.EqAt.int_str a t' b t
  | _=>exact absurd (show false=true from fx) Bool.false_ne_true
 | str a =>
  obtain ⟨t',rfl⟩:=ry
  cases x with
  | non=>cases rx; exact SeqAt.EqAt.str_none a t'
  | bl b=>cases rx; exact SeqAt.EqAt.str_bool a t' b
  | int b=>obtain ⟨t,rfl⟩:=rx; exact SeqAt.EqAt.str_int a t' b t
  | str b=>obtain ⟨t,rfl⟩:=rx; exact SeqAt.EqAt.str_str a t' b t
  | _=>exact absurd (show false=true from fx) Bool.false_ne_true
 | _=>exact absurd (show false=true from fy) Bool.false_ne_true
def eqU (x:V) (u:Value):Bool:=match u with
 | .none=>eqV .non x
 | .bool b=>eqV (.bl b) x
 | .int i _=>eqV (.int i) x
 | .str z _=>eqV (.str z) x
 | _=>false
theorem eqU_of {x y:V} {u:Value} (r:RelV y u) (f:flatV y=true):eqU x u=eqV y x:=by
 cases y with
 | non=>cases r; rfl
 | bl b=>cases r; rfl
 | int i=>obtain ⟨t,rfl⟩:=r; rfl
 | str z=>obtain ⟨t,rfl⟩:=r; rfl
 | _=>exact absurd (show false=true from f) Bool.false_ne_true
theorem Zkk {x:V}:∀ {xs:List V} {us:List Value},Vals xs us→xs.all flatV=true→us.any (eqU x)=xs.any fun y=>eqV y x
 | _,_,.nil,_=>rfl
 | y :: xs,u :: us,.cons r t,f=>by
  rw [List.all_cons,Bool.and_eq_true] at f
  rw [List.any_cons,List.any_cons,eqU_of r f.1,Zkk t f.2]
theorem Zhm {A:Around} {s:Shared} {x:V} {v:Value} (rx:RelV x v) (fx:flatV x=true):∀ {xs:List V} {us:List Value},Vals xs us→xs.all flatV=true→∀ u∈us,SeqAt.EqAt A s u v (eqU x u)
 | _,_,.nil,_=>fun u hu=>by cases hu
 | y :: xs,u :: us,.cons r t,f=>fun u' hu=>by
  rw [List.all_cons,Bool.and_eq_true] at f
  rcases List.mem_cons.mp hu with rfl | hu
  ·rw [eqU_of r f.1]; exact eqAt_V r rx f.1 fx
  ·exact Zhm rx fx t f.2 u' hu
def inV (x:V) (xs:List V):Bool:=xs.any fun y=>eqV y x
def rIn (K:PySem.W.Frag) (neg:Bool):R2:=fun x y H Q=>∃ p xs,y=.ref p∧(SqL K H p xs∨SqT K H p xs)∧flatV x=true∧xs.all flatV=true∧Q (.bl (if neg then !inV x xs else inV x xs)) H
theorem op_in_seq:OpR X (compareOp .In) (rIn X.K false):=by
 intro pins s σ H x y v u Q I rx ry h
 obtain ⟨p,xs,rfl,hq,fx,fs,q⟩:=h
 cases ry
 rcases hq with hq | hq
 ·obtain ⟨its,r,pl,hz⟩:=I.list hq
  refine SeqAt.in_listAt (eqU x) pl.isList (fun w hw=>Zhm rx fx r fs w (by simpa using hw)) ⟨.bl _,H,I,rfl,?_⟩
  rw [show its.toArray.any (eqU x)=its.any (eqU x) by simp,Zkk r fs]
  exact q
 ·obtain ⟨its,r,pl,hz⟩:=I.tuple hq
  refine SeqAt.in_tupleAt (eqU x) pl (fun w hw=>Zhm rx fx r fs w (by simpa using hw)) ⟨.bl _,H,I,rfl,?_⟩
  rw [show its.toArray.any (eqU x)=its.any (eqU x) by simp,Zkk r fs]
  exact q
theorem Za1:CallR X (.builtin "len") (fun xs H Q=>∃ p ys,xs=[.ref p]∧(SqL X.K H p ys∨SqT X.K H p ys)∧Q (.int ys.length) H):=by
 intro pins s σ H xs us Q I r h
 obtain ⟨p,ys,rfl,hq,q⟩:=h
 obtain ⟨u,rfl,rx⟩:=vals1 r
 cases rx
 have hn:=line63
 rcases hq with hq | hq
 ·obtain ⟨its,r',pl,hz⟩:=I.list hq
  have hlen:=r'.length
  exact Calls.call_len_list pl.isList (by simp only [List.size_toArray] <;> omega) ⟨.int ys.length,H,I.tok _,⟨s.toks+1,by rw [List.size_toArray,hlen]⟩,q⟩
 ·obtain ⟨its,r',pl,hz⟩:=I.tuple hq
  have hlen:=r'.length
  exact len_tuple pl (by simp only [List.size_toArray] <;> omega) ⟨.int ys.length,H,I.tok _,⟨s.toks+1,by rw [List.size_toArray,hlen]⟩,q⟩
theorem Zi0:CallR X (.type "list") (fun xs H Q=>∃ p ys,xs=[.ref p]∧(SqL X.K H p ys∨SqT X.K H p ys)∧∀ l,H l=none→Q (.ref l) (upd H l (.lst ys))):=by
 intro pins s σ H xs us Q I r h
 obtain ⟨p,ys,rfl,hq,q⟩:=h
 obtain ⟨u,rfl,rx⟩:=vals1 r
 cases rx
 have fin:∀ (its:List Value),Vals ys its→ys.length≤sizeLine→∀ (h':Heap) (c':Nat),(∀ b o',s.heap.get? b=some o'→h'.get? b=some o') →
   h'.get? s.heap.objs.size=some { cls:=.type "list",dict:=none,data:=.seq its.toArray c',slots:=#[] }→EP X pins σ Q (.ref s.heap.objs.size) { s with heap:=h' }:=fun its r' hz h' c' kp e =>
  ⟨.ref s.heap.objs.size,_,I.laid (t':=s.toks) kp (Nat.le_refl _) (show ObjOk X.prog X.w _ h' _ (.lst ys) from ⟨hz,its,c',r',e⟩),rfl,q _ (I.hok.fresh (Nat.le_refl _))⟩
 rcases hq with hq | hq
 ·obtain ⟨its,r',pl,hz⟩:=I.list hq
  have hlen:=r'.length
  obtain ⟨o,ho,hc,n,hd⟩:=pl.isList
  exact call_list_seq p (.inl rfl) ho hc hd (fun h' c' kp e=>fin its r' hz h' c' kp e) (by simp only [List.size_toArray] <;> omega)
 ·obtain ⟨its,r',pl,hz⟩:=I.tuple hq
  have hlen:=r'.length
  obtain ⟨o,ho,hc,n,hd⟩:=pl
  exact call_list_seq p (.inr rfl) ho hc hd (fun h' c' kp e=>fin its r' hz h' c' kp e) (by simp only [List.size_toArray] <;> omega)
def tyV (K:PySem.W.Frag) (T:String) (x:V) (H:Hp):Prop:=match x with
 | .str _=>T="str"
 | .int _=>T="int"
 | .ref p=>(T="list"∧∃ xs,SqL K H p xs)∨(T="tuple"∧∃ o,K.lookup p=some o∧o.cls=.type "tuple"∧o.dict=none) ∨
   (T="dict"∧((∃ kvs,H p=some (.dK kvs))∨∃ kvs,H p=some (.dT kvs)))∨(T="set"∧∃ S n,H p=some (.set S n))
 | _=>False
theorem tyV_is {pins:List (Addr × Obj)} {σ:St} {H:Hp} {s:Shared} {T:String} {x:V} {v:Value} (I:Inv X pins σ H s) (r:RelV x v) (ty:tyV X.K T x H) :
  s.TypeIs v T∧∀ a,v=.ref a→∃ ob,s.heap.get? a=some ob∧ob.dict=none:=by
 cases x with
 | str z =>
  obtain ⟨t,rfl⟩:=r
  cases (show T="str" from ty)
  exact ⟨typeIs_str s z t,fun _ e=>nomatch e⟩
 | int i =>
  obtain ⟨t,rfl⟩:=r
  cases (show T="int" from ty)
  exact ⟨typeIs_int s i t,fun _ e=>nomatch e⟩
 | ref p =>
  cases r
  rcases ty with ⟨rfl,xs,hq⟩ | ⟨rfl,o,hk,hc,hd⟩ | ⟨rfl,hk⟩ | ⟨rfl,S,n,hk⟩
  ·obtain ⟨its,_,pl,_⟩:=I.list hq
   refine ⟨pl.isList.typeIs,fun a e=>?_⟩
   cases e
   obtain ⟨o,n,e,c,hd,_⟩:=pl
   exact ⟨o,e,hd⟩
  ·refine ⟨⟨o,I.kIn p o hk,hc⟩,fun a e=>?_⟩
   cases e
   exact ⟨o,I.kIn _ o hk,hd⟩
  ·have z:∃ o,s.heap.get? p=some o∧o.ExactDict:=by
    rcases hk with ⟨kvs,hk⟩ | ⟨kvs,hk⟩
    ·obtain ⟨_,_,_,_,o,_,_,e,ex,_⟩:=I.hok p _ hk
     exact ⟨o,e,ex⟩
    ·obtain ⟨_,_,_,_,o,_,_,e,ex,_⟩:=I.hok p _ hk
     exact ⟨o,e,ex⟩
   obtain ⟨o,e,ex⟩:=z
   refine ⟨⟨o,e,ex.1⟩,fun a e2=>?_⟩
   cases e2
   exact ⟨o,e,ex.2.1⟩
  ·obtain ⟨o,_,_,_,e,ex,_⟩:=I.hok p _ hk
   refine ⟨⟨o,e,ex.1⟩,fun a e2=>?_⟩
   cases e2
   exact ⟨o,e,ex.2.1⟩
 | _=>exact False.elim ty
def tBM0 (K:PySem.W.Frag) (T:String) (r:V→List V→Hp→VK→Prop) (to:TE):TE:=fun σ H Q=>to σ H fun x H1=>tyV K T x H1∧r x [] H1 Q
def tBM (K:PySem.W.Frag) (T:String) (r:V→List V→Hp→VK→Prop) (to:TE) (t:TA):TE:=fun σ H Q=>to σ H fun x H1=>tyV K T x H1∧t σ H1 fun xs H2=>r x xs H2 Q
variable {o e:Expr} {es:List Expr} {to:TE} {t:TA} {name:Str} {apos cpos:Pos} {T id:String} {r:V→List V→Hp→VK→Prop}
theorem Zla (pa:PlainAttrs T) (slot:Slot T name id) (hty:typeOf (.builtin id)=pure (.type "method_descriptor")) (hm:MtR X id r) (ho:PE X o to)
  (hbase:attributeBase o name X.env (eval o X.env)=eval o X.env:=by rfl) (hline:(apos.endLine == cpos.line)=true:=by rfl):PE X (.Call (.Attribute o name apos) [] [] cpos) (tBM0 X.K T r to):=by
 intro pins s σ H Q I h
 refine wpAny_Call_method0_late hbase hline (thn (ho pins s σ H _ I h) fun v s1 ⟨x,H1,I1,r1,ty,q1⟩=>?_)
 obtain ⟨h1,h2⟩:=tyV_is I1 r1 ty
 exact ⟨T,id,pa,slot,hty,h1,h2,Calls.callWith_builtin rfl (PySem.evalArgs_none (hm pins s1 σ H1 x [] v [] Q I1 r1 .nil q1))⟩
theorem Zeg (pa:PlainAttrs T) (slot:Slot T name id) (hty:typeOf (.builtin id)=pure (.type "method_descriptor")) (hm:MtR X id r) (ho:PE X o to) (ha:PA X (e :: es) t)
  (hbase:attributeBase o name X.env (eval o X.env)=eval o X.env:=by rfl)
  (hfew:((backTo cpos (starEach (e :: es) X.env)).all (fun x=>!x.1) && (backToKw cpos (keywordEach [] X.env)).all (fun x=>x.1.isSome)
   && decide ((e :: es).length+([]:List Keyword).length+(if ([]:List Keyword).isEmpty then 0 else 1) < 30))=true:=by rfl)
  (hline:(apos.endLine == cpos.line)=true:=by rfl) (hs:starEach (e :: es) X.env=(false,eval e X.env) :: starEach es X.env:=by rfl) (hplain:(backTo cpos (starEach es X.env)).any (·.1)=false:=by rfl) :
  PE X (.Call (.Attribute o name apos) (e :: es) [] cpos) (tBM X.K T r to t):=by
 intro pins s σ H Q I h
 refine wpAny_Call_method_late hbase hfew hline rfl (thn (ho pins s σ H _ I h) fun v s1 ⟨x,H1,I1,r1,ty,q1⟩=>?_)
 obtain ⟨h1,h2⟩:=tyV_is I1 r1 ty
 refine ⟨T,id,pa,slot,hty,h1,h2,?_⟩
 have hA:=ha cpos pins s1 σ H1 _ I1 q1
 rw [hs] at hA ⊢
 refine Calls.callWith_builtin (by show (false || (backTo cpos (starEach es X.env)).any (·.1))=false; rw [hplain] <;> rfl) (Calls.evalArgs_plain ?_)
 exact thn hA fun us s2 ⟨vs,H2,I2,r2,q2⟩=>hm pins s2 σ H2 x vs v us Q I2 r1 r2 q2
/- xs.append(e),list.index on a module's tuple .. are MtR facts of 06m -/
end
end L2
namespace L2
open PySem PySem.Spec PyProof.Rows
def MtM (X:Cx) (id:String) (r:V→List V→Hp→VK→Prop):Prop :=
 ∀ (pins:List (Addr × Obj)) (s:Shared) (σ:St) (H:Hp) (x:V) (xs:List V) (v:Value) (us:List Value) (Q:VK),Inv X pins σ H s→RelV x v→Vals xs us→r x xs H Q →
  wpAny (model X.prog X.w) X.A (call (.builtin id) (v :: us)) (EP X pins σ Q) X.xe s
theorem Vals.one:∀ {x:V} {us:List Value},Vals [x] us→∃ u,us=[u]∧RelV x u
 | _,_,.cons r .nil=>⟨_,rfl,r⟩
theorem Vals.zero:∀ {us:List Value},Vals [] us→us=[]
 | _,.nil=>rfl
theorem Vals.dropLast {xs:List V} {us:List Value} (h:Vals xs us):Vals xs.dropLast us.dropLast:=by
 induction h with
 | nil=>exact .nil
 | cons r t ih =>
  cases t with
  | nil=>exact .nil
  | cons q t'=>exact .cons r ih
theorem erase_last {α:Type} (l:List α):l.eraseIdx (l.length - 1)=l.dropLast:=by
 induction l with
 | nil=>rfl
 | cons a r ih =>
  cases r with
  | nil=>rfl
  | cons b r =>
   have e:(a :: b :: r).length - 1=((b :: r).length - 1)+1:=by
    have h1:(a :: b :: r).length=r.length+2:=rfl
    have h2:(b :: r).length=r.length+1:=rfl
    omega
   rw [e,List.eraseIdx_cons_succ,ih]
   all_goals rfl
section
variable {X:Cx} {pins:List (Addr × Obj)} {σ:St} {H:Hp} {s:Shared} {l b:Addr} {xs ys zs:List V}
theorem Inv.lset {its its':List Value} {n:Nat} {f:Array Value→Array Value} {t':Nat} (I:Inv X pins σ H s) (hH:H l=some (.lst xs))
  (e:s.heap.get? l=some { cls:=.type "list",data:=.seq its.toArray n }) (hf:f its.toArray=its'.toArray) (hv:Vals ys its') (hz:ys.length≤sizeLine) :
  Inv X pins σ (upd H l (.lst ys)) { s with heap:=s.heap.update l (Obj.mapSeq f),toks:=t' }:=by
 have q:=PySem.IsL.update e f
 rw [hf] at q
 refine I.write (x:=l) (e:=l) (by rw [hH]; exact trivial) (.inl rfl) (fun b' u hb hu=>(Heap.get?_update_other s.heap (Obj.mapSeq f) (Ne.symm hb)).trans hu) ⟨_,q⟩ ?_
 exact ⟨hz,its',_,hv,q⟩
theorem Inv.lnew {its:List Value} {t':Nat} (I:Inv X pins σ H s) (hv:Vals ys its) (hz:ys.length≤sizeLine) :
  Inv X pins σ (upd H s.heap.objs.size (.lst ys)) { s with heap:=s.heap.push { cls:=.type "list",data:=.seq its.toArray },toks:=t' } :=
 I.laid (fun _ _ q=>Heap.get?_push_of_some _ q) (Nat.le_refl _) ⟨hz,its,0,hv,Heap.get?_push_size _ rfl⟩
theorem Inv.fresh (I:Inv X pins σ H s):H s.heap.objs.size=none:=I.hok.fresh (Nat.le_refl _)
theorem Inv.lstM (I:Inv X pins σ H s) (hH:H l=some (.lst xs)):xs.length≤sizeLine∧∃ (its:List Value) (n:Nat),Vals xs its∧xs.length=its.length∧s.heap.get? l=some { cls:=.type "list",data:=.seq its.toArray n }:=by
 obtain ⟨z,its,n,r,e⟩:=I.hok l _ hH
 exact ⟨z,its,n,r,r.length,e⟩
theorem notLongL {n:Nat} (h:n≤sizeLine):Builtin.List.listTooLong n=false:=by
 unfold Builtin.List.listTooLong
 exact decide_eq_false (by omega)
end
section
variable {X:Cx}
def rAppend:V→List V→Hp→VK→Prop:=fun x vs H Q=>∃ l xs y,x=.ref l∧vs=[y]∧H l=some (.lst xs)∧xs.length < sizeLine∧Q .non (upd H l (.lst (xs++[y])))
theorem Za9:MtM X "list.append" rAppend:=by
 intro pins s σ H x vs v us Q I rx rv h
 obtain ⟨l,xs,y,rfl,rfl,hH,hz,q⟩:=h
 cases rx
 obtain ⟨u,rfl,ru⟩:=rv.one
 obtain ⟨z,its,n,r,hl,e⟩:=I.lstM hH
 refine call_meets F.slot_list_append ⟨_,e,rfl⟩ F.entry_list_append (F.args_list_append_2 _ _) (PySem.list_append l its.toArray n u (by rw [List.size_toArray]; omega)) ⟨e,?_⟩
 refine ⟨.non,_,I.lset (its':=its++[u]) hH e (by simp) (r.append (.cons ru .nil)) ?_,rfl,q⟩
 rw [List.length_append,List.length_singleton]
 omega
def rExtend:V→List V→Hp→VK→Prop:=fun x vs H Q=>∃ l b xs zs,x=.ref l∧vs=[.ref b]∧H l=some (.lst xs)∧H b=some (.lst zs)∧xs.length+zs.length≤sizeLine∧Q .non (upd H l (.lst (xs++zs)))
theorem mt_extend:MtM X "list.extend" rExtend:=by
 intro pins s σ H x vs v us Q I rx rv h
 obtain ⟨l,b,xs,zs,rfl,rfl,hH,hB,hz,q⟩:=h
 cases rx
 obtain ⟨u,rfl,ru⟩:=rv.one
 cases ru
 obtain ⟨z,its,n,r,hl,e⟩:=I.lstM hH
 obtain ⟨z2,its2,n2,r2,hl2,e2⟩:=I.lstM hB
 have hsz:its.toArray.size+its2.toArray.size≤sizeLine:=by rw [List.size_toArray,List.size_toArray]; omega
 have hlong:¬ (!its.toArray.isEmpty && Builtin.List.listTooLong (its.toArray.size+its2.toArray.size))=true:=by
  rw [notLongL hsz,Bool.and_false]
  exact Bool.false_ne_true
 refine call_meets F.slot_list_extend ⟨_,e,rfl⟩ F.entry_list_extend (F.args_list_extend_2 _ _)
  (AutoSeq1.list_extend_list_list_0 l its.toArray n b its2.toArray n2 hlong (by rw [List.size_toArray]; omega) (by omega)) ⟨e,e2,?_⟩
 refine ⟨.non,_,I.lset (its':=its++its2) hH e (by simp) (r.append r2) ?_,rfl,q⟩
 rw [List.length_append]
 omega
def rPop:V→List V→Hp→VK→Prop:=fun x vs H Q=>∃ l xs y,x=.ref l∧vs=[]∧H l=some (.lst xs)∧xs[xs.length - 1]?=some y∧Q y (upd H l (.lst xs.dropLast))
theorem Zld:MtM X "list.pop" rPop:=by
 intro pins s σ H x vs v us Q I rx rv h
 obtain ⟨l,xs,y,rfl,rfl,hH,hy,q⟩:=h
 cases rx
 have hus:=rv.zero
 subst hus
 obtain ⟨z,its,n,r,hl,e⟩:=I.lstM hH
 obtain ⟨u,hu,ru⟩:=r.get hy
 have hy':its.toArray[its.toArray.size - 1]?=some u:=by
  show its.toArray[its.length - 1]?=some u
  rw [← Array.getElem?_toList,← hl]
  exact hu
 refine call_meets F.slot_list_pop ⟨_,e,rfl⟩ F.entry_list_pop (F.args_list_pop_1 _) (MeetsSeq.list_pop_last l its.toArray n u hy' (by rw [List.size_toArray]; omega)) ⟨e,?_⟩
 refine ⟨y,_,I.lset (its':=its.dropLast) hH e ?_ r.dropLast ?_,ru,q⟩
 ·show its.toArray.eraseIdxIfInBounds (its.toArray.size - 1)=its.dropLast.toArray
  rw [List.size_toArray,List.eraseIdxIfInBounds_toArray,erase_last]
 ·rw [List.length_dropLast]
  omega
end
section
variable {prog:Program} {w:World} {A:Around} {E:Value→Shared→Prop} {s:Shared}
end
section
variable {X:Cx}
end
end L2
namespace Att
open PySem PySem.W PySem.Calls PyProof.Rows
theorem Zfv {P:Params} {h:Heap}:∀ (ns:List Int) (vs:List Value),WellAll P h vs (ns.map WData.int)→IntsAre vs ns:=by
 intro ns
 induction ns with
 | nil =>
  intro vs w
  rw [List.map_nil] at w
  cases w
  exact .nil
 | cons n ns ih =>
  intro vs w
  rw [List.map_cons] at w
  cases w with
  | cons a b =>
   cases a
   exact .cons _ _ (ih _ b)
theorem script_of {l:OpenLaw} {n:Nat} (hn:l.most=some n) {P:Params} {h:Heap} {args:List WData} {vals:List Value}
  (hpre:l.row.toRowW.claim.pre args=true) (hwl:WellAll P h vals args) :
  ∃ a vs ns,vals=[Value.ref a]∧args=[WData.list (ns.map WData.int)]∧h.get? a=some { cls:=.type "list",data:=.seq vs.toArray }∧IntsAre vs ns∧ns.length≤n:=by
 have hsh:WShape.hasAll [] args [.list .int]=true:=(pre_splitW hpre).1
 have hc:l.pre.holds [] { args:=args }=true:=(pre_splitW hpre).2
 obtain ⟨d,r,rfl,h1,h2⟩:=hasAllW_cons hsh
 obtain rfl:=hasAllW_nil h2
 obtain ⟨xs,rfl,h3⟩:=hasW_list h1
 obtain ⟨ns,rfl⟩:=items_int h3
 have hlen:ns.length≤n:=by
  unfold OpenLaw.pre at hc
  have h4:(WTm.not (.lt (.lit (.int (n:Int))) (.len (.arg 0)))).holds [] { args:=[.list (ns.map .int)] }=true:=by
   have h4:=(holds_andW hc).1
   rw [hn] at h4
   exact h4
  have h5:=condW_of h4 (w_not (w_lt w_lit (w_len_list (w_arg rfl))))
  rw [List.length_map] at h5
  refine Nat.le_of_not_lt fun q=>?_
  have q':(n:Int) < ((ns.length:Nat):Int):=by omega
  first
   | (rw [decide_eq_true q'] at h5; exact absurd h5 (by decide))
   | (simp at h5; omega)
 cases hwl with
 | cons w1 w2 =>
  cases w2
  cases w1 with
  | list ho hall=>exact ⟨_,_,ns,rfl,rfl,ho,Zfv ns _ hall,hlen⟩
theorem post_true (l:OpenLaw) (args:List WData):l.row.toRowW.claim.post args (.bool true) args=true :=
 postW_of (r:=l.row.toRowW) (X:=(true == true))
  (show WShape.has [] (.bool true) .bool=true by first | rfl | decide | simp [WShape.has,WShape.arms,WShape.armsAll])
  (show (WTm.eq .res (.lit (.bool true))).value [] { args:=args,res:=some (.bool true),after:=args }=some (.bool (true == true)) from w_eq_bool (w_res rfl) w_lit) rfl
theorem attach_call {l:OpenLaw} {n:Nat} {q:Program} {loose:List Str} {XP:(Str→Option Value)→Heap→Prop} {YP:World→Heap→Prop} {d:DefRec}
  (hn:l.most=some n) (hdf:d.params.defaults=[])
  (call:∀ (w:World) (s₀ s₁:Shared) (mg mb:Str→Option Value) (fa:Addr) (o:Obj) (pm cd doc:Value) (a:Addr) (vs:List Value) (ns:List Int),
   Ground q loose [] XP w s₀ mg mb s₁.heap→YP w s₁.heap →
   s₁.heap.get? fa=some o→o.data=.func (docDef d.name d.params d.body d.scope pm cd doc)→s₁.heap.CodeRec cd d.name→mg d.name=some (.ref fa) →
   s₁.heap.get? a=some { cls:=.type "list",data:=.seq vs.toArray }→IntsAre vs ns→ns.length≤n→s₁.gens=#[] →
   codeAny (model l.prog w) callerA (.call (.ref fa) ⟨[.ref a],[]⟩) (fun r s'=>r=.ok (.ret (.bool true))∧OldK s₁.heap s'.heap∧s'.os=s₁.os∧AllBare s'.gens) s₁) :
  WalkO q loose XP YP l.row.toRowW d [] (fun f vs=>PySem.call f vs):=by
 intro w s₀ s₁ mg mb G Y fa o pm cd doc dV kV ho hd hcd hD hmg hg args vals as hpre hlay hrd hwl hlo
 obtain rfl:dV=.none:=Dflts.none hD hdf
 obtain rfl:kV=.none:=Dflts.noKw hD
 obtain ⟨a,vs,ns,rfl,rfl,hobj,hints,hlen⟩:=script_of hn hpre hwl
 refine enter_call (codeAny_mono (call w s₀ s₁ mg mb fa o pm cd doc a vs ns G Y ho (fd_plain hd) hcd hmg hobj hints hlen hg) fun r s' hq=>?_)
 obtain ⟨rfl,h2,h3,h4⟩:=hq
 exact ⟨.inl ⟨.bool true,.bool true,[],rfl,fun _=>rfl,.bool true,post_true l _,fun _=>⟨List.Pairwise.nil,fun _ hm=>(nomatch hm)⟩⟩,h2,h3,h4⟩
section
variable {prog:Program} {w:World} {A:Around} {E:Value→Shared→Prop} {s:Shared} {K:Frag}
end
end Att
namespace L2
open PySem PySem.Spec PyProof.Rows
theorem Ze8:∀ {vs:List Value} {ns:List Int},IntsAre vs ns→Vals (ns.map V.int) vs
 | _,_,.nil=>.nil
 | _,_,.cons n t h=>.cons ⟨t,rfl⟩ (Ze8 h)
def Only (H:Hp):Prop:=∀ b,H b=none∨∃ o xs,H b=some (.frz o (.lst xs))
theorem law_call {P:Program} {w:World} {K:PySem.W.Frag} {mg mb:Str→Option Value} {CX:CXT} {k:Nat} {fa a:Addr} {fd:FuncData} {x:Str} {sp:Sp} {s₁:Shared} {vs:List Value} {ns:List Int}
  (KX:K.In s₁.heap) (hns:s₁.heap.Ns mainGlobals mg) (hb:s₁.heap.Ns builtinsNs mb) (hbb:∀ x:Str,x≠"__name__"→mb x=bootBuiltins x) (hlim:s₁.heap.NoLimit) (hg:s₁.gens=#[])
  (ha:s₁.heap.get? a=some { cls:=.type "list",data:=.seq vs.toArray }) (hi:IntsAre vs ns) (hl:ns.length≤sizeLine) (hr:Room k callerA)
  (F:∀ base:Heap,K.In base→base.Ns mainGlobals mg→FnOk P w K mg base CX k fa fd [x] sp) (hbind:∀ (s:Shared) (u:Value),BindsTo s fd ⟨[u],[]⟩ [(x,u)])
  (hsp:∀ H:Hp,Only H→SqL K H a (ns.map V.int)→sp [.ref a] H (fun v _=>v=.bl true) fun _ _ _=>False)
  (hCX:∀ H e s',CX [] H s₁ (fun _ _ _=>False) e s'→False) :
  codeAny (model P w) callerA (.call (.ref fa) ⟨[.ref a],[]⟩) (fun r s'=>r=.ok (.ret (.bool true))∧OldK s₁.heap s'.heap∧s'.os=s₁.os∧AllBare s'.gens) s₁:=by
 have rv:=Ze8 hi
 have lenV:=hi.length
 have core:∀ H:Hp,Only H→SqL K H a (ns.map V.int)→HOk P w H s₁.heap→(∀ b,H b≠none→b=a)→(H a≠none→K.lookup a=none) →
   codeAny (model P w) callerA (.call (.ref fa) ⟨[.ref a],[]⟩) (fun r s'=>r=.ok (.ret (.bool true))∧OldK s₁.heap s'.heap∧s'.os=s₁.os∧AllBare s'.gens) s₁:=by
  intro H hO hS hok hA hK
  have base_of:∀ {b:Addr} {o:Obj},s₁.heap.get? b=some o→H b=none→(hidT s₁.heap H).get? b=some o:=fun e n=>hidT_get e n
  have noA:∀ {b:Addr} {o:Obj} {es:Array DictEntry} {ep:Nat},s₁.heap.get? b=some o→o.data=.dict es ep→H b=none:=fun {b o es ep} e d=>by
   cases q:H b with
   | none=>rfl
   | some u =>
    have e':b=a:=hA b (by rw [q]; simp)
    subst e'
    rw [ha] at e; cases e
    have d':Data.seq vs.toArray _=Data.dict es ep:=d
    cases d'
  have nsK:∀ {b:Addr} {m:Str→Option Value},s₁.heap.Ns b m→(hidT s₁.heap H).Ns b m:=fun {b m} ⟨o,es,ep,e,d,r⟩=>⟨o,es,ep,base_of e (noA e d),d,r⟩
  have hKb:K.In (hidT s₁.heap H):=fun b o e=>base_of (KX b o e) (by
   cases q:H b with
   | none=>rfl
   | some u =>
    have e':b=a:=hA b (by rw [q]; simp)
    subst e'
    rw [hK (by rw [q]; simp)] at e; cases e)
  have hM:Mod K mg (hidT s₁.heap H):=⟨hKb,nsK hns,⟨mb,nsK hb,hbb⟩,let ⟨mc,h1,h2⟩:=hlim; ⟨mc,nsK h1,h2⟩⟩
  have e0:Env0 P w K mg (hidT s₁.heap H) callerA [] s₁ H:=⟨rfl,hM,fun b o e=>of_hidT e,Nat.le_of_eq (Zit _ _),trivial,fun b hb=>absurd (show b∈([]:List Addr) from hb) (by simp),hok,.of_eq hg⟩
  refine codeAny_mono ((F _ hKb (nsK hns)).run callerA [] s₁ H ⟨[.ref a],[]⟩ [.ref a] [.ref a] _ _ hr e0 (hbind s₁ (.ref a)) (.cons rfl .nil) (hsp H hO hS)) fun r s' h=>?_
  cases r with
  | error e=>exact (hCX H e s' h).elim
  | ok fl =>
   cases fl with
   | next=>exact False.elim h
   | brk=>exact False.elim h
   | cont=>exact False.elim h
   | ret u =>
    obtain ⟨v,H',os,bare,un,hok',r',q⟩:=h
    have q':v=.bl true:=q
    subst q'
    obtain rfl:u=Value.bool true:=r'
    refine ⟨rfl,OldK.of_keep fun b o e=>?_,os,bare⟩
    cases q:H b with
    | none=>exact un.keep b o e q (by intro z; exact absurd (show b∈([]:List Addr) from z) (by simp)) (by simp)
    | some u =>
     rcases hO b with z | ⟨ob,xs,z⟩
     ·rw [q] at z; cases z
     ·have z2:=un.frzs b ob _ z
      obtain ⟨e1,_⟩:=hok b _ z
      obtain ⟨e2,_⟩:=hok' b _ z2
      rw [e] at e1; cases e1
      exact e2
 cases hk:K.lookup a with
 | some o =>
  have e:=KX a o hk
  rw [ha] at e
  cases e
  refine core (fun _=>none) (fun _=>.inl rfl) (.inr ⟨_,vs.toArray,_,hk,rfl,rfl,rfl,by rw [List.size_toArray,lenV]; exact hl,by simpa using rv⟩) (fun b u z=>by have z':(none:Option HO)=some u:=z; cases z') (fun b z=>absurd rfl z) fun z=>absurd rfl z
 | none =>
  refine core (fun b=>if b=a then some (.frz { cls:=.type "list",data:=.seq vs.toArray } (.lst (ns.map V.int))) else none) (fun b=>?_) (.inl (.inr ⟨{ cls:=.type "list",data:=.seq vs.toArray },if_pos rfl⟩)) (fun b u z=>?_) (fun b z=>?_) fun _=>hk
  ·by_cases hb:b=a
   ·exact .inr ⟨_,_,if_pos hb⟩
   ·exact .inl (if_neg hb)
  ·by_cases hb:b=a
   ·have z':=(if_pos hb).symm.trans z
    cases z'
    subst hb
    exact ⟨ha,by rw [List.length_map]; exact hl,vs,_,rv,ha⟩
   ·have z':=(if_neg hb).symm.trans z
    cases z'
  ·by_cases hb:b=a
   ·exact hb
   ·exact absurd (if_neg hb) z
end L2
namespace L2
open PySem PySem.Spec PyProof.Rows
abbrev KOf {K:PySem.W.Frag} {h:Heap} (_:K.In h):PySem.W.Frag:=K
theorem walk_of {l:PySem.W.OpenLaw} {n k:Nat} {q:Program} {loose:List Str} {XP:(Str→Option Value)→Heap→Prop} {YP:World→Heap→Prop} {d:DefRec} {K:Params→PySem.W.Frag} {CX:World→CXT} {sp:World→Sp} {x:Str}
  (hn:l.most=some n) (hn2:n≤sizeLine) (hdf:d.params.defaults=[]) (hr:Room k callerA)
  (hY:∀ (w:World) (h:Heap),YP w h→(K w.params).In h)
  (F:∀ (w:World) (mg:Str→Option Value) (fa:Addr) (h:Heap),(K w.params).In h→h.Ns mainGlobals mg→mg d.name=some (.ref fa) →
   ∃ fd:FuncData,(∀ (s:Shared) (u:Value),BindsTo s fd ⟨[u],[]⟩ [(x,u)]) ∧
    ∀ base:Heap,(K w.params).In base→base.Ns mainGlobals mg→FnOk l.prog w (K w.params) mg base (CX w) k fa fd [x] (sp w))
  (hsp:∀ (w:World) (H:Hp) (a:Addr) (ns:List Int),ns.length≤n→Only H→SqL (K w.params) H a (ns.map V.int)→sp w [.ref a] H (fun v _=>v=.bl true) fun _ _ _=>False)
  (hCX:∀ (w:World) (H:Hp) (s:Shared) (e:Value) (s':Shared),CX w [] H s (fun _ _ _=>False) e s'→False) :
  PySem.W.WalkO q loose XP YP l.row.toRowW d [] (fun f vs=>PySem.call f vs):=by
 refine Att.attach_call hn hdf fun w s₀ s₁ mg mb fa o pm cd doc a vs ns G Y ho hd hcd hmg hobj hints hlen hg=>?_
 have KX:=hY w _ Y
 obtain ⟨fd,hb,hF⟩:=F w mg fa _ KX G.T.g hmg
 exact law_call KX G.T.g G.T.b G.T.builtins G.T.nolimit hg hobj hints (Nat.le_trans hlen hn2) hr hF hb (fun H hO hS=>hsp w H a ns hlen hO hS) fun H e s'=>hCX w H s₁ e s'
end L2
/- THE LAST THEOREM (shape; LID,My.* are yours):
  My.Adr: a structure of the addresses that your layer names (classes,functions); My.Txt K t: a structure (Prop) of the equations over K;
  My.txt_mk:{K} {implicit addresses ..} (e1:nsIn K mainGlobals "law"=some (some (.ref f))) (e2:K.lookup f=some ⟨oc,od,.func (fnOf "law" "law" params body scope dV kV doc pm an cdv ct),sl⟩) (e3:codeIn K cdv "law"=true) ..:∃ t,My.Txt K t
set_option maxRecDepth 100000 in
set_option maxHeartbeats 0 in
theorem PySem.Challenge.cw_LID_holds:PySem.Challenge.rw_LID.Holds:=by
 w_on; o_law; k_head; (case hw=>w_witness2)
 k_fill
 refine L2.walk_of (l:=PySem.Challenge.rw_LID) (n:=63) (k:=40) (x:="script") (CX:=fun w=>..) (sp:=fun _=>My.sp_law) rfl (by decide) rfl ⟨rfl,by decide,by decide⟩ (fun w h Y=>PySem.W.kIn_of Y) ?F ?S ?C
 case F =>
  intro w mg fa h KX G hmg
  have T:∃ t,My.Txt (L2.KOf KX) t:=by
   dsimp only [L2.KOf]                          -- K must stand as «<heap const> w.params» for k_is
   refine' My.txt_mk ?e1 ?e2 ?e3 ..
   (case e1=>PySem.W.k_is)                    -- in the order: a name -> its address -> its object -> its parts
   (case e2=>PySem.W.k_is)
   ..
  obtain ⟨t,T⟩:=T
  have e0:=hmg.symm.trans (PySem.W.mg_of KX G T.law)
  cases e0                                       -- fa is the law's own address
  exact ⟨_,fun s u=>.of_eq rfl,fun base kb nb=>My.law_fn T kb nb⟩     -- if «.of_eq rfl» comes too early: refine' ⟨_,?b,fun base kb nb=>My.law_fn T kb nb⟩; exact fun s u=>.of_eq rfl
 case S=>exact fun w H a ns hl hO hS=>..
 case C=>exact ..
(the tactic k_is has no namespace: write k_is) -/
namespace L2
open PySem PySem.Spec PyProof.Rows
def Zax (s:Stmt) (j:Nat):Stmt:=match s with
 | .ClassDef _ _ _ body _ _ _ _ _ _ _=>body.getD j (.Pass ⟨0,0,0,0⟩)
 | _=>.Pass ⟨0,0,0,0⟩
def Zak (s:Stmt):Arguments:=match s with
 | .FunctionDef _ a _ _ _ _ _ _ _ _=>a
 | _=>{ posonlyargs:=[],args:=[],vararg:=none,kwonlyargs:=[],kw_defaults:=[],kwarg:=none,defaults:=[] }
def Zai (s:Stmt):List Stmt:=match s with
 | .FunctionDef _ _ b _ _ _ _ _ _ _=>b
 | _=>[]
def Zab (s:Stmt):Scope:=match s with
 | .FunctionDef _ _ _ _ _ _ sc _ _ _=>sc
 | _=>{ kind:=.function,names:=[],isGenerator:=false,isCoroutine:=false }
abbrev CX0:CXT:=fun _ _ _ _ _ _=>False
abbrev E0:XK:=fun _ _ _=>False
theorem pass0 {X:Cx}:Passes CX0 X E0:=fun _ _ _ _ _ _ _ h=>h.elim
structure Fun (K:PySem.W.Frag) (x qual:Str) (st:Stmt) (f:Addr) (fd:FuncData):Prop where
 ex:∃ (oc:Value) (od:Option Addr) (kV doc pm:Value) (an:Option Addr) (cdv ct:Value) (osl:Array (Option Value)),
  fd=PySem.W.fnOf x qual (Zak st) (Zai st) (Zab st) .none kV doc pm an cdv ct∧K.lookup f=some ⟨oc,od,.func fd,osl⟩∧PySem.W.codeIn K cdv qual=true
 kp:PySem.W.keepIn K (.ref f)=true
section
variable {P:Program} {w:World} {K:PySem.W.Frag} {mg:Str→Option Value} {base:Heap}
theorem Fun.ok {x qual:Str} {st:Stmt} {f:Addr} {fd:FuncData} {N ps:List Str} {k:Nat} {sp:Sp} (F:Fun K x qual st f fd) (S:Zan N ps (Zab st)) (len:∀ vs H Q E,sp vs H Q E→vs.length=ps.length)
  (hbody:∀ (cdv:Value) (A:Around) (outer:List Env) (s:Shared) (H:Hp) (vs:List V) (Q:VK) (E:XK),Room k (A.deeper (envOfC qual (Zab st) s.heap.objs.size f cdv))→sp vs H Q E →
   ∃ t,PSs (cxOf CX0 P w K mg base N qual (Zab st) f cdv A outer s H E).nox (Zai st) t∧t { nx:=fun _ H'=>Q .non H',rt:=Q } (start N vs) H):FnOk P w K mg base CX0 (k+1) f fd ps sp:=by
 obtain ⟨oc,od,kV,doc,pm,an,cdv,ct,osl,rfl,lk,hcd⟩:=F.ex
 refine fn_of lk hcd S len fun A outer s H vs Q E hr hsp=>?_
 obtain ⟨t,h,q⟩:=hbody cdv A outer s H vs Q E hr hsp
 exact ⟨t,h.nox,q⟩
theorem Fun.binds {x qual:Str} {st:Stmt} {f:Addr} {fd:FuncData} {ps:List Str} (F:Fun K x qual st f fd)
  (h:∀ (kV doc pm:Value) (an:Option Addr) (cdv ct:Value) (us:List Value),us.length=ps.length→bindArgs (PySem.W.fnOf x qual (Zak st) (Zai st) (Zab st) .none kV doc pm an cdv ct) ⟨us,[]⟩=pure (ps.zip us)):Binds K fd ps []:=by
 obtain ⟨oc,od,kV,doc,pm,an,cdv,ct,osl,rfl,lk,hcd⟩:=F.ex
 exact .all (h kV doc pm an cdv ct)
theorem Za0 {x qual:Str} {st:Stmt} {f:Addr} {oc:Value} {od an:Option Addr} {osl:Array (Option Value)} {kV doc pm cdv ct:Value} (l:K.lookup f=some ⟨oc,od,.func (PySem.W.fnOf x qual (Zak st) (Zai st) (Zab st) .none kV doc pm an cdv ct),osl⟩)
  (c:PySem.W.codeIn K cdv qual=true) (k:PySem.W.keepIn K (.ref f)=true):Fun K x qual st f (PySem.W.fnOf x qual (Zak st) (Zai st) (Zab st) .none kV doc pm an cdv ct):=⟨⟨oc,od,kV,doc,pm,an,cdv,ct,osl,rfl,l,c⟩,k⟩
end
theorem hu_of {A:Around} {k:Nat} (hr:Room k A):A.units+1 < cLine:=Nat.lt_of_le_of_lt (Nat.add_le_add_left (by decide:1≤64) _) hr.units
theorem Zaq {n:Nat} (h:n≤1000):n < sizeLine:=Nat.lt_of_le_of_lt h (by decide)
section
variable {X:Cx}
theorem pv (i:Nat) {x:Str} {pos:Pos} (hN:X.N[i]?=some x:=by rfl) (hv:Vis X.env.scope x:=by first | exact Or.inl rfl | exact Or.inr (Or.inl rfl) | exact Or.inr (Or.inr rfl)) (hd:(x == ("__debug__":Str))=false:=by decide)
  (hcd:(x == ("__classdict__":Str))=false:=by decide):PE X (.Name x pos) (tVar i):=pe_var hN hv hd hcd
end
theorem iteF {A B:Prop} (h:B):if false=true then A else B:=by
 rw [if_neg Bool.false_ne_true]
 exact h
theorem iteT {A B:Prop} (h:A):if true=true then A else B:=by
 rw [if_pos rfl]
 exact h
def Same (H H':Hp):Prop:=∀ b o,H b=some o→H' b=some o
theorem Same.refl (H:Hp):Same H H:=fun _ _ h=>h
theorem Same.trans {H H1 H2:Hp} (a:Same H H1) (b:Same H1 H2):Same H H2:=fun c o h=>b c o (a c o h)
theorem Same.seq {K:PySem.W.Frag} {H H':Hp} {a:Addr} {xs:List V} (e:Same H H') (h:SqL K H a xs):SqL K H' a xs:=by
 rcases h with (h | ⟨o,h⟩) | h
 ·exact .inl (.inl (e _ _ h))
 ·exact .inl (.inr ⟨o,e _ _ h⟩)
 ·exact .inr h
end L2
set_option maxHeartbeats 4000000
namespace L2
open PySem PySem.W PyProof.Rows
def lookO {α β:Type} (oS:Program→List Str→List Str→(Shared→Bool)→Bool→Shared→α) (ms:List Str) (p q:Program) (lo:List Str) (Xt:Shared→Bool) (Yf:Shared→β) (h0:Heap) (s:Shared):Bool × α × β :=
 ((((staticsOk ms h0 s.heap && namesBound p s.heap) && gensDone s) && laidKept h0 s.heap),oS q lo ms Xt true s,Yf s)
noncomputable abbrev atBoot (P:Params) (os:OsState):Shared:=Shared.mk (boot_heap P) (Array.mk []) boot_drawn boot_toks os
theorem left_once {p q:Program} {lo:List Str} {Xt:Shared→Bool} {β:Type} {Yf:Shared→β} {Ya:World→β} {N m:Nat} {an:Option Value}
  (bo:∀ w:World,Option.map (fun s=>(s.heap,s.gens,s.drawn,s.toks)) (fencedOpening treeTable p w N)=some (boot_heap w.params,Array.mk [],boot_drawn,boot_toks))
  (sz:∀ w:World,((boot_heap w.params).isNs mainGlobals,(boot_heap w.params).objs.size,(boot_heap w.params).nsMap mainGlobals "__annotations__")=(true,m,an))
  (rn:∀ (w:World) (os:OsState),Option.map (lookO openSeen (importedModules p.main.body) p q lo Xt Yf (boot_heap w.params)) (topRun treeTable p w m an N (atBoot w.params os) (topStub p))=some (true,openGood q lo,Ya w)) :
  LeftO p q lo Xt Yf Ya N:=by
 intro w
 obtain ⟨s0,e0,e1⟩:=Option.map_eq_some_iff.mp (bo w)
 obtain ⟨hp,gs,dr,tk,os⟩:=s0
 simp only [Prod.mk.injEq] at e1
 obtain ⟨rfl,rfl,rfl,rfl⟩:=e1
 have z:=sz w
 simp only [Prod.mk.injEq] at z
 obtain ⟨z1,z2,z3⟩:=z
 obtain ⟨s1,r1,r2⟩:=Option.map_eq_some_iff.mp (rn w os)
 unfold lookO at r2
 simp only [Prod.mk.injEq] at r2
 obtain ⟨l1,l2,l3⟩:=r2
 have tf:topFrom treeTable p w N (atBoot w.params os)=some s1:=by
  unfold topFrom
  dsimp only
  rw [z1,z2,z3]
  show Option.bind (topRun treeTable p w m an N (atBoot w.params os) (topStub p)) _=_
  rw [r1]
  show (match (((staticsOk (importedModules p.main.body) (boot_heap w.params) s1.heap && namesBound p s1.heap) && gensDone s1) && laidKept (boot_heap w.params) s1.heap) with | true=>some s1 | false=>none)=_
  rw [l1]
 unfold openEnds
 rw [e0]
 show Option.map _ (topFrom treeTable p w N (atBoot w.params os))=_
 rw [tf]
 exact congrArg some (Prod.ext l2 l3)
def treeAt:List Obj→Nat→BT→BT
 | [],_,t=>t
 | o :: r,i,t=>treeAt r (i+1) (t.ins i o)
def Zdp (ok:Thread→Bool) (stp:SharedT→Thread→Option (SharedT × Thread)):Nat→SharedT→Thread→Option SharedT
 | 0,_,_=>none
 | n+1,s,t=>match through t with
  | true=>some s
  | false=>match ok t with
   | false=>none
   | true=>match stp s t with
    | some (s1,t1)=>Zdp ok stp n s1 t1
    | none=>none
theorem Zgk {tb:String→Option Builtin} {p:Program} {w:World} {m:Nat} {an:Option Value}:∀ {n:Nat} {s s1:SharedT} {t:Thread},Zdp (stepOk m an) (stepT (denote tb) p w) n s t=some s1→topRun tb p w m an n s.abs t=some s1.abs
 | 0,_,_,_,h=>by cases h
 | n+1,s,s1,t,h=>by
  rw [Zdp] at h
  rw [topRun]
  cases ht:through t with
  | true=>rw [ht] at h; cases h; rfl
  | false =>
   rw [ht] at h
   cases hk:stepOk m an t with
   | false=>rw [hk] at h; cases h
   | true =>
    rw [hk] at h
    cases hs:stepT (denote tb) p w s t with
    | none=>rw [hs] at h; cases h
    | some r =>
     obtain ⟨s2,t2⟩:=r
     rw [hs] at h
     rw [stepT_spec hs]
     exact Zgk h
noncomputable def bootT (P:Params):BT:=treeAt (boot_heap P).objs.toList 0 .nil
noncomputable def Zf2 (P:Params) (os:OsState):SharedT:=SharedT.mk (bootT P) 11 (boot_heap P).life (Array.mk []) boot_drawn boot_toks os
theorem bootT_is (P:Params) (os:OsState):(Zf2 P os).abs=atBoot P os:=by kernel_rfl
theorem ran_of {p q:Program} {lo ms:List Str} {Xt:Shared→Bool} {α β:Type} {Yf:Shared→β} {N m:Nat} {an:Option Value} {w:World} {os:OsState} {r:Bool × α × β} {oS:Program→List Str→List Str→(Shared→Bool)→Bool→Shared→α}
  (h:Option.map (fun s=>lookO oS ms p q lo Xt Yf (boot_heap w.params) (SharedT.abs s)) (Zdp (stepOk m an) (stepT (denote treeTable) p w) N (Zf2 w.params os) (topStub p))=some r) :
  Option.map (lookO oS ms p q lo Xt Yf (boot_heap w.params)) (topRun treeTable p w m an N (atBoot w.params os) (topStub p))=some r:=by
 obtain ⟨s,e,z⟩:=Option.map_eq_some_iff.mp h
 have e:=Zgk e
 rw [bootT_is] at e
 rw [e]
 exact congrArg some z
end L2
namespace L2
open PySem PySem.W PyProof.Rows
theorem look3 {σ α β:Type} {r:Option σ} {f:σ→Bool} {g:σ→α} {k:σ→β} {a:α} {b:β} (h1:r.map f=some true) (h2:r.map g=some a) (h3:r.map k=some b):r.map (fun s=>(f s,g s,k s))=some (true,a,b):=by
 cases r with
 | none=>cases h1
 | some s =>
  have e1:=Option.some.inj h1
  have e2:=Option.some.inj h2
  have e3:=Option.some.inj h3
  exact congrArg some (Prod.ext e1 (Prod.ext e2 e3))
def lookA (ms:List Str) (p:Program) (h0:Heap) (s:Shared):Bool:=(((staticsOk ms h0 s.heap && namesBound p s.heap) && gensDone s) && laidKept h0 s.heap)
def RunA (N m:Nat) (an:Option Value) {p p':Program} {sT:(Code→Sem Fin)→Program→World→SharedT→Thread→Option (SharedT × Thread)} {dn:(String→Option Builtin)→Code→Sem Fin} {tT:String→Option Builtin} {iM:List Stmt→List Str} {oS:∀ (q:Program) (lo ms:List Str) (Xt:Shared→Bool) (g0:Bool) (s:Shared),_} (h1:@stepT=sT) (h0:@denote=dn) (h2:treeTable=tT) (h3:@importedModules=iM) (h4:@openSeen=oS) (h5:p=p'):Prop:=∀ (w:World) (os:OsState),Option.map (fun s=>lookA (iM p'.main.body) p' (boot_heap w.params) (SharedT.abs s)) (Zdp (stepOk m an) (sT (dn tT) p' w) N (Zf2 w.params os) (topStub p'))=some true
def RunB (N m:Nat) (an:Option Value) (q:Program→Program) (lo:List Str) (Xt:Program→Shared→Bool) {p p':Program} {sT:(Code→Sem Fin)→Program→World→SharedT→Thread→Option (SharedT × Thread)} {dn:(String→Option Builtin)→Code→Sem Fin} {tT:String→Option Builtin} {iM:List Stmt→List Str} {oS:∀ (q:Program) (lo ms:List Str) (Xt:Shared→Bool) (g0:Bool) (s:Shared),_} (h1:@stepT=sT) (h0:@denote=dn) (h2:treeTable=tT) (h3:@importedModules=iM) (h4:@openSeen=oS) (h5:p=p'):Prop:=∀ (w:World) (os:OsState),Option.map (fun s=>oS (q p') lo (iM p'.main.body) (Xt p') true (SharedT.abs s)) (Zdp (stepOk m an) (sT (dn tT) p' w) N (Zf2 w.params os) (topStub p'))=some (openGood (q p') lo)
def RunC (N m:Nat) (an:Option Value) {β:Type} (Yf:Shared→β) (Ya:World→β) {p p':Program} {sT:(Code→Sem Fin)→Program→World→SharedT→Thread→Option (SharedT × Thread)} {dn:(String→Option Builtin)→Code→Sem Fin} {tT:String→Option Builtin} {iM:List Stmt→List Str} {oS:∀ (q:Program) (lo ms:List Str) (Xt:Shared→Bool) (g0:Bool) (s:Shared),_} (h1:@stepT=sT) (h0:@denote=dn) (h2:treeTable=tT) (h3:@importedModules=iM) (h4:@openSeen=oS) (h5:p=p'):Prop:=∀ (w:World) (os:OsState),Option.map (fun s=>Yf (SharedT.abs s)) (Zdp (stepOk m an) (sT (dn tT) p' w) N (Zf2 w.params os) (topStub p'))=some (Ya w)
theorem run_by3 {q:Program→Program} {lo:List Str} {Xt:Program→Shared→Bool} {β:Type} {Yf:Shared→β} {Ya:World→β} {N m:Nat} {an:Option Value} {p p':Program} {sT:(Code→Sem Fin)→Program→World→SharedT→Thread→Option (SharedT × Thread)} {dn:(String→Option Builtin)→Code→Sem Fin} {tT:String→Option Builtin} {iM:List Stmt→List Str} {oS:∀ (q:Program) (lo ms:List Str) (Xt:Shared→Bool) (g0:Bool) (s:Shared),_} {h1:@stepT=sT} {h0:@denote=dn} {h2:treeTable=tT} {h3:@importedModules=iM} {h4:@openSeen=oS} {h5:p=p'}
  (rA:RunA N m an h1 h0 h2 h3 h4 h5) (rB:RunB N m an q lo Xt h1 h0 h2 h3 h4 h5) (rC:RunC N m an Yf Ya h1 h0 h2 h3 h4 h5) :
  ∀ (w:World) (os:OsState),Option.map (lookO openSeen (importedModules p.main.body) p (q p) lo (Xt p) Yf (boot_heap w.params)) (topRun treeTable p w m an N (atBoot w.params os) (topStub p))=some (true,openGood (q p) lo,Ya w):=by
 subst h1 h0 h2 h3 h4 h5
 exact fun w os=>ran_of (look3 (rA w os) (rB w os) (rC w os))
end L2
namespace L2
open PySem PySem.Spec PyProof.Rows PySem.W
def hookT (K:PySem.W.Hook) (Ts:List Addr):PySem.W.Hook :=
 ⟨K.α × List (Option Obj),fun s=>(K.obs s,Ts.map fun T=>s.heap.get? T),fun w=>(K.val w,Ts.map fun _=>some (tabObj #[])),fun w h=>K.says w h∧∀ T∈Ts,h.get? T=some (tabObj #[]),
  fun w s e=>⟨K.of w s (Prod.mk.inj e).1,fun T hT=>by
   have e2:=(Prod.mk.inj e).2
   have:=List.map_eq_map_iff.mp e2 T hT
   exact this⟩,fun w h h' x k=>⟨K.keeps w h h' x.1 k,fun T hT=>k _ _ (x.2 T hT)⟩⟩
end L2
namespace KH
open PySem PySem.W PyProof.Rows L2
def top (i:Nat):Stmt:=PySem.Challenge.pw_glazebench_k70_a_pane_cut.main.body.getD i (.Pass ⟨0,0,0,0⟩)
def kE (P:Params) (x:Str) (t:Tok) (v:Value):DictEntry:=⟨PyData.keyHash P x,.str x t,v⟩
abbrev fo (a b:Str) (e:Stmt) (d m:Value) (c:Addr):Obj:=⟨(.type "function"),none,(.func (fnOf a b (Zak e) (Zai e) (Zab e) d .none .none m none (.ref c) .none)),#[]⟩
abbrev co (a b:Str) (t u v:Tok) (l n:Int) (r:Addr) (i:Int) (p q x y:Addr) (j k:Int) (z:Tok):Obj:=⟨(.type "code"),none,(.fields #[(.str a t),(.str b u),(.str "/claim/cut.py" v),(.int l 0),(.int n 0),(.int (0) 0),(.int (0) 0),(.int (3) 0),(.ref r),(.bool true),(.int i 0),(.ref p),.none,(.ref q),(.ref x),(.ref y),(.int j 0),(.int k 0),(.str "/claim/cut.py" z)]),#[]⟩
def k2 (P:Params):Obj:=⟨.none,none,(.dict #[] 0),#[]⟩
def k3 (P:Params):Obj:=⟨(.type "dict"),none,(.dict #[kE P "__name__" 165 (.str "law_glazebench_k70_a_pane_cut" 739),kE P "__doc__" 166 .none,kE P "__package__" 167 .none,kE P "__loader__" 168 (.builtin "__main__.__loader__#opaque"),kE P "__spec__" 169 .none,kE P "__annotations__" 170 (.ref 6),kE P "__builtins__" 171 (.ref 4),kE P "__file__" 173 (.str "/claim/cut.py" 172),kE P "__cached__" 174 .none,kE P "_wall" 193 (.ref 21),kE P "GlassError" 213 (.ref 31),kE P "NoSide" 238 (.ref 51),kE P "TooMany" 263 (.ref 70),kE P "NoSheet" 288 (.ref 89),kE P "NoGlass" 315 (.ref 108),kE P "LONGEST_SIDE" 319 (.int (12) 318),kE P "is_whole" 326 (.ref 117),kE P "is_side" 333 (.ref 124),kE P "size_of" 340 (.ref 131),kE P "area_of" 347 (.ref 138),kE P "check_sides" 356 (.ref 145),kE P "WHOLE" 360 (.str "whole" 359),kE P "UPRIGHT" 362 (.str "upright" 361),kE P "LEVEL" 364 (.str "level" 363),kE P "Tree" 421 (.ref 188),kE P "Whole" 446 (.ref 210),kE P "Upright" 475 (.ref 229),kE P "Level" 504 (.ref 248),kE P "kind_of" 511 (.ref 257),kE P "entry_of" 519 (.ref 264),kE P "entries_of" 529 (.ref 271),kE P "cut_from" 539 (.ref 278),kE P "tree_from" 551 (.ref 285),kE P "entries_by" 563 (.ref 292),kE P "turned_word" 570 (.ref 299),kE P "first_piece" 579 (.ref 306),kE P "other_piece" 588 (.ref 313),kE P "ways_to_lie" 597 (.ref 320),kE P "ways_held" 603 (.ref 325),kE P "MOST_SHEETS" 607 (.int (4) 606),kE P "is_sheet" 614 (.ref 332),kE P "check_sheets" 623 (.ref 339),kE P "MOST_CUT" 627 (.int (60) 626),kE P "holds" 636 (.ref 346),kE P "cut_pane" 651 (.ref 353),kE P "tree_in" 660 (.ref 360),kE P "Bench" 738 (.ref 413),kE P "_law_cell" 748 (.ref 424),kE P "_law_draw" 758 (.ref 431),kE P "_law_whole" 765 (.ref 438),kE P "_law_told" 775 (.ref 445),kE P "_law_held" 785 (.ref 452),kE P "_law_sheet" 798 (.ref 459),kE P "_law_due" 809 (.ref 466),kE P "_law_asked" 822 (.ref 473),kE P "_law_is" 828 (.ref 478),kE P "law" 851 (.ref 485)] 57),#[]⟩
def k20 (P:Params):Obj:=co "_wall" "_wall" 187 188 189 1 1 15 181 16 17 18 19 191 1 192
def k21 (P:Params):Obj:=fo "_wall" "_wall" (top 0) .none (.str "__main__" 164) 20
def k30 (P:Params):Obj:=⟨(.type "dict"),none,(.dict #[kE P "__module__" 203 (.str "glazebench.errors" 194),kE P "__firstlineno__" 207 (.int (5) 206),kE P "__static_attributes__" 208 (.ref 29),kE P "__weakref__" 210 (.ref 32),kE P "__doc__" 211 .none] 3),#[]⟩
def k31 (P:Params):Obj:=⟨(.type "type"),none,(.cls { name:="GlassError",bases:=[(.type "ValueError")],mro:=[(.ref 31),(.type "ValueError"),(.type "Exception"),(.type "BaseException"),(.type "object")],ns:=30,qualname:="GlassError",hasDict:=true,slotNames:=[],subclasses:=[(.ref 51),(.ref 70),(.ref 89),(.ref 108)],abstract:=false,collection:=none,hasDel:=false }),#[some (.ref 22),none,some (.str "GlassError" 196),some (.str "GlassError" 204),some (.builtin "ValueError.__new__"),some (.bool true)]⟩
def k32 (P:Params):Obj:=⟨(.type "getset_descriptor"),none,(.fields #[(.str "__weakref__" 209),(.ref 31),(.builtin "ExceptionGroup.__weakref__"),.none]),#[]⟩
def k47 (P:Params):Obj:=co "__init__" "NoSide.__init__" 226 227 228 9 2 42 181 43 44 45 46 231 9 232
def k48 (P:Params):Obj:=fo "__init__" "NoSide.__init__" (Zax (top 3) 0) .none (.str "glazebench.errors" 194) 47
def k50 (P:Params):Obj:=⟨(.type "dict"),none,(.dict #[kE P "__module__" 221 (.str "glazebench.errors" 194),kE P "__firstlineno__" 225 (.int (7) 224),kE P "__init__" 233 (.ref 48),kE P "__static_attributes__" 235 (.ref 49),kE P "__doc__" 236 .none] 2),#[]⟩
def k51 (P:Params):Obj:=⟨(.type "type"),none,(.cls { name:="NoSide",bases:=[(.ref 31)],mro:=[(.ref 51),(.ref 31),(.type "ValueError"),(.type "Exception"),(.type "BaseException"),(.type "object")],ns:=50,qualname:="NoSide",hasDict:=true,slotNames:=[],subclasses:=[],abstract:=false,collection:=none,hasDel:=false }),#[some (.ref 35),none,some (.str "NoSide" 214),some (.str "NoSide" 222),some (.builtin "ValueError.__new__"),some (.bool true)]⟩
def k66 (P:Params):Obj:=co "__init__" "TooMany.__init__" 251 252 253 13 2 61 181 62 63 64 65 256 13 257
def k67 (P:Params):Obj:=fo "__init__" "TooMany.__init__" (Zax (top 4) 0) .none (.str "glazebench.errors" 194) 66
def k69 (P:Params):Obj:=⟨(.type "dict"),none,(.dict #[kE P "__module__" 246 (.str "glazebench.errors" 194),kE P "__firstlineno__" 250 (.int (11) 249),kE P "__init__" 258 (.ref 67),kE P "__static_attributes__" 260 (.ref 68),kE P "__doc__" 261 .none] 2),#[]⟩
def k70 (P:Params):Obj:=⟨(.type "type"),none,(.cls { name:="TooMany",bases:=[(.ref 31)],mro:=[(.ref 70),(.ref 31),(.type "ValueError"),(.type "Exception"),(.type "BaseException"),(.type "object")],ns:=69,qualname:="TooMany",hasDict:=true,slotNames:=[],subclasses:=[],abstract:=false,collection:=none,hasDel:=false }),#[some (.ref 54),none,some (.str "TooMany" 239),some (.str "TooMany" 247),some (.builtin "ValueError.__new__"),some (.bool true)]⟩
def k85 (P:Params):Obj:=co "__init__" "NoSheet.__init__" 276 277 278 17 2 80 181 81 82 83 84 281 17 282
def k86 (P:Params):Obj:=fo "__init__" "NoSheet.__init__" (Zax (top 5) 0) .none (.str "glazebench.errors" 194) 85
def k88 (P:Params):Obj:=⟨(.type "dict"),none,(.dict #[kE P "__module__" 271 (.str "glazebench.errors" 194),kE P "__firstlineno__" 275 (.int (15) 274),kE P "__init__" 283 (.ref 86),kE P "__static_attributes__" 285 (.ref 87),kE P "__doc__" 286 .none] 2),#[]⟩
def k89 (P:Params):Obj:=⟨(.type "type"),none,(.cls { name:="NoSheet",bases:=[(.ref 31)],mro:=[(.ref 89),(.ref 31),(.type "ValueError"),(.type "Exception"),(.type "BaseException"),(.type "object")],ns:=88,qualname:="NoSheet",hasDict:=true,slotNames:=[],subclasses:=[],abstract:=false,collection:=none,hasDel:=false }),#[some (.ref 73),none,some (.str "NoSheet" 264),some (.str "NoSheet" 272),some (.builtin "ValueError.__new__"),some (.bool true)]⟩
def k104 (P:Params):Obj:=co "__init__" "NoGlass.__init__" 301 302 303 21 3 99 181 100 101 102 103 307 21 308
def k105 (P:Params):Obj:=fo "__init__" "NoGlass.__init__" (Zax (top 6) 0) .none (.str "glazebench.errors" 194) 104
def k107 (P:Params):Obj:=⟨(.type "dict"),none,(.dict #[kE P "__module__" 296 (.str "glazebench.errors" 194),kE P "__firstlineno__" 300 (.int (19) 299),kE P "__init__" 309 (.ref 105),kE P "__static_attributes__" 312 (.ref 106),kE P "__doc__" 313 .none] 2),#[]⟩
def k108 (P:Params):Obj:=⟨(.type "type"),none,(.cls { name:="NoGlass",bases:=[(.ref 31)],mro:=[(.ref 108),(.ref 31),(.type "ValueError"),(.type "Exception"),(.type "BaseException"),(.type "object")],ns:=107,qualname:="NoGlass",hasDict:=true,slotNames:=[],subclasses:=[],abstract:=false,collection:=none,hasDel:=false }),#[some (.ref 92),none,some (.str "NoGlass" 289),some (.str "NoGlass" 297),some (.builtin "ValueError.__new__"),some (.bool true)]⟩
def k116 (P:Params):Obj:=co "is_whole" "is_whole" 320 321 322 26 1 111 181 112 113 114 115 324 26 325
def k117 (P:Params):Obj:=fo "is_whole" "is_whole" (top 9) .none (.str "glazebench.panels" 316) 116
def k123 (P:Params):Obj:=co "is_side" "is_side" 327 328 329 28 1 118 181 119 120 121 122 331 28 332
def k124 (P:Params):Obj:=fo "is_side" "is_side" (top 10) .none (.str "glazebench.panels" 316) 123
def k130 (P:Params):Obj:=co "size_of" "size_of" 334 335 336 30 1 125 181 126 127 128 129 338 30 339
def k131 (P:Params):Obj:=fo "size_of" "size_of" (top 11) .none (.str "glazebench.panels" 316) 130
def k137 (P:Params):Obj:=co "area_of" "area_of" 341 342 343 32 1 132 181 133 134 135 136 345 32 346
def k138 (P:Params):Obj:=fo "area_of" "area_of" (top 12) .none (.str "glazebench.panels" 316) 137
def k144 (P:Params):Obj:=co "check_sides" "check_sides" 348 349 350 34 2 139 181 140 141 142 143 354 34 355
def k145 (P:Params):Obj:=fo "check_sides" "check_sides" (top 13) .none (.str "glazebench.panels" 316) 144
def k158 (P:Params):Obj:=co "leaves" "Tree.leaves" 377 378 379 44 1 153 181 154 155 156 157 381 44 382
def k159 (P:Params):Obj:=fo "leaves" "Tree.leaves" (Zax (top 18) 0) .none (.str "glazebench.cuts" 357) 158
def k165 (P:Params):Obj:=co "depth" "Tree.depth" 384 385 386 47 1 160 181 161 162 163 164 388 47 389
def k166 (P:Params):Obj:=fo "depth" "Tree.depth" (Zax (top 18) 1) .none (.str "glazebench.cuts" 357) 165
def k170 (P:Params):Obj:=⟨(.type "code"),none,(.fields #[(.str "turned" 391),(.str "Tree.turned" 392),(.str "/claim/cut.py" 393),(.int (50) 0),(.int (1) 0),(.int (0) 0),(.int (0) 0),(.int (3) 0),(.ref 167),(.bool true),(.int (181) 0),(.ref 168),.none,.none,.none,(.ref 169),(.int (394) 0),(.int (50) 0),(.str "/claim/cut.py" 395)]),#[]⟩
def k171 (P:Params):Obj:=fo "turned" "Tree.turned" (Zax (top 18) 2) .none (.str "glazebench.cuts" 357) 170
def k177 (P:Params):Obj:=co "fits" "Tree.fits" 397 398 399 53 3 172 181 173 174 175 176 403 53 404
def k178 (P:Params):Obj:=fo "fits" "Tree.fits" (Zax (top 18) 3) .none (.str "glazebench.cuts" 357) 177
def k184 (P:Params):Obj:=co "same" "Tree.same" 406 407 408 56 2 179 181 180 181 182 183 411 56 412
def k185 (P:Params):Obj:=fo "same" "Tree.same" (Zax (top 18) 4) .none (.str "glazebench.cuts" 357) 184
def k187 (P:Params):Obj:=⟨(.type "dict"),none,(.dict #[kE P "__module__" 372 (.str "glazebench.cuts" 357),kE P "__firstlineno__" 376 (.int (42) 375),kE P "leaves" 383 (.ref 159),kE P "depth" 390 (.ref 166),kE P "turned" 396 (.ref 171),kE P "fits" 405 (.ref 178),kE P "same" 413 (.ref 185),kE P "__static_attributes__" 414 (.ref 186),kE P "__dict__" 416 (.ref 189),kE P "__weakref__" 418 (.ref 190),kE P "__doc__" 419 .none] 4),#[]⟩
def k188 (P:Params):Obj:=⟨(.type "type"),none,(.cls { name:="Tree",bases:=[(.type "object")],mro:=[(.ref 188),(.type "object")],ns:=187,qualname:="Tree",hasDict:=true,slotNames:=[],subclasses:=[(.ref 210),(.ref 229),(.ref 248)],abstract:=false,collection:=none,hasDel:=false }),#[none,none,some (.str "Tree" 365),some (.str "Tree" 373),some (.builtin "object.__new__"),some (.bool true)]⟩
def k189 (P:Params):Obj:=⟨(.type "getset_descriptor"),none,(.fields #[(.str "__dict__" 415),(.ref 188),(.builtin "function.__dict__"),(.builtin "function.__dict__#set")]),#[]⟩
def k190 (P:Params):Obj:=⟨(.type "getset_descriptor"),none,(.fields #[(.str "__weakref__" 417),(.ref 188),(.builtin "ExceptionGroup.__weakref__"),.none]),#[]⟩
def k200 (P:Params):Obj:=⟨(.type "tuple"),none,(.seq #[.none] 0),#[]⟩
def k206 (P:Params):Obj:=co "__init__" "Whole.__init__" 434 435 436 60 2 201 181 202 203 204 205 439 60 440
def k207 (P:Params):Obj:=fo "__init__" "Whole.__init__" (Zax (top 19) 0) (.ref 200) (.str "glazebench.cuts" 357) 206
def k209 (P:Params):Obj:=⟨(.type "dict"),none,(.dict #[kE P "__module__" 429 (.str "glazebench.cuts" 357),kE P "__firstlineno__" 433 (.int (58) 432),kE P "__init__" 441 (.ref 207),kE P "__static_attributes__" 443 (.ref 208),kE P "__doc__" 444 .none] 2),#[]⟩
def k210 (P:Params):Obj:=⟨(.type "type"),none,(.cls { name:="Whole",bases:=[(.ref 188)],mro:=[(.ref 210),(.ref 188),(.type "object")],ns:=209,qualname:="Whole",hasDict:=true,slotNames:=[],subclasses:=[],abstract:=false,collection:=none,hasDel:=false }),#[some (.ref 193),none,some (.str "Whole" 422),some (.str "Whole" 430),some (.builtin "object.__new__"),some (.bool true)]⟩
def k225 (P:Params):Obj:=co "__init__" "Upright.__init__" 459 460 461 64 4 220 181 221 222 223 224 466 64 467
def k226 (P:Params):Obj:=fo "__init__" "Upright.__init__" (Zax (top 20) 0) .none (.str "glazebench.cuts" 357) 225
def k228 (P:Params):Obj:=⟨(.type "dict"),none,(.dict #[kE P "__module__" 454 (.str "glazebench.cuts" 357),kE P "__firstlineno__" 458 (.int (62) 457),kE P "__init__" 468 (.ref 226),kE P "__static_attributes__" 472 (.ref 227),kE P "__doc__" 473 .none] 2),#[]⟩
def k229 (P:Params):Obj:=⟨(.type "type"),none,(.cls { name:="Upright",bases:=[(.ref 188)],mro:=[(.ref 229),(.ref 188),(.type "object")],ns:=228,qualname:="Upright",hasDict:=true,slotNames:=[],subclasses:=[],abstract:=false,collection:=none,hasDel:=false }),#[some (.ref 213),none,some (.str "Upright" 447),some (.str "Upright" 455),some (.builtin "object.__new__"),some (.bool true)]⟩
def k244 (P:Params):Obj:=co "__init__" "Level.__init__" 488 489 490 70 4 239 181 240 241 242 243 495 70 496
def k245 (P:Params):Obj:=fo "__init__" "Level.__init__" (Zax (top 21) 0) .none (.str "glazebench.cuts" 357) 244
def k247 (P:Params):Obj:=⟨(.type "dict"),none,(.dict #[kE P "__module__" 483 (.str "glazebench.cuts" 357),kE P "__firstlineno__" 487 (.int (68) 486),kE P "__init__" 497 (.ref 245),kE P "__static_attributes__" 501 (.ref 246),kE P "__doc__" 502 .none] 2),#[]⟩
def k248 (P:Params):Obj:=⟨(.type "type"),none,(.cls { name:="Level",bases:=[(.ref 188)],mro:=[(.ref 248),(.ref 188),(.type "object")],ns:=247,qualname:="Level",hasDict:=true,slotNames:=[],subclasses:=[],abstract:=false,collection:=none,hasDel:=false }),#[some (.ref 232),none,some (.str "Level" 476),some (.str "Level" 484),some (.builtin "object.__new__"),some (.bool true)]⟩
def k256 (P:Params):Obj:=co "kind_of" "kind_of" 505 506 507 74 1 251 181 252 253 254 255 509 74 510
def k257 (P:Params):Obj:=fo "kind_of" "kind_of" (top 22) .none (.str "glazebench.cuts" 357) 256
def k263 (P:Params):Obj:=co "entry_of" "entry_of" 512 513 514 78 1 258 181 259 260 261 262 517 78 518
def k264 (P:Params):Obj:=fo "entry_of" "entry_of" (top 23) .none (.str "glazebench.cuts" 357) 263
def k270 (P:Params):Obj:=co "entries_of" "entries_of" 520 521 522 81 1 265 181 266 267 268 269 527 81 528
def k271 (P:Params):Obj:=fo "entries_of" "entries_of" (top 24) .none (.str "glazebench.cuts" 357) 270
def k277 (P:Params):Obj:=co "cut_from" "cut_from" 530 531 532 90 4 272 181 273 274 275 276 537 90 538
def k278 (P:Params):Obj:=fo "cut_from" "cut_from" (top 25) .none (.str "glazebench.cuts" 357) 277
def k284 (P:Params):Obj:=co "tree_from" "tree_from" 540 541 542 94 1 279 181 280 281 282 283 549 94 550
def k285 (P:Params):Obj:=fo "tree_from" "tree_from" (top 26) .none (.str "glazebench.cuts" 357) 284
def k291 (P:Params):Obj:=co "entries_by" "entries_by" 552 553 554 104 2 286 181 287 288 289 290 561 104 562
def k292 (P:Params):Obj:=fo "entries_by" "entries_by" (top 27) .none (.str "glazebench.cuts" 357) 291
def k298 (P:Params):Obj:=co "turned_word" "turned_word" 564 565 566 115 1 293 181 294 295 296 297 568 115 569
def k299 (P:Params):Obj:=fo "turned_word" "turned_word" (top 28) .none (.str "glazebench.cuts" 357) 298
def k305 (P:Params):Obj:=co "first_piece" "first_piece" 571 572 573 119 3 300 181 301 302 303 304 577 119 578
def k306 (P:Params):Obj:=fo "first_piece" "first_piece" (top 29) .none (.str "glazebench.cuts" 357) 305
def k312 (P:Params):Obj:=co "other_piece" "other_piece" 580 581 582 123 3 307 181 308 309 310 311 586 123 587
def k313 (P:Params):Obj:=fo "other_piece" "other_piece" (top 30) .none (.str "glazebench.cuts" 357) 312
def k319 (P:Params):Obj:=co "ways_to_lie" "ways_to_lie" 591 592 593 128 1 314 181 315 316 317 318 595 128 596
def k320 (P:Params):Obj:=fo "ways_to_lie" "ways_to_lie" (top 32) .none (.str "glazebench.stairs" 589) 319
def k324 (P:Params):Obj:=⟨(.type "code"),none,(.fields #[(.str "ways_held" 598),(.str "ways_held" 599),(.str "/claim/cut.py" 600),(.int (132) 0),(.int (3) 0),(.int (0) 0),(.int (0) 0),(.int (3) 0),(.ref 321),(.bool true),(.int (181) 0),(.ref 322),.none,.none,.none,(.ref 323),(.int (601) 0),(.int (132) 0),(.str "/claim/cut.py" 602)]),#[]⟩
def k325 (P:Params):Obj:=fo "ways_held" "ways_held" (top 33) .none (.str "glazebench.stairs" 589) 324
def k331 (P:Params):Obj:=co "is_sheet" "is_sheet" 608 609 610 136 1 326 181 327 328 329 330 612 136 613
def k332 (P:Params):Obj:=fo "is_sheet" "is_sheet" (top 36) .none (.str "glazebench.plans" 604) 331
def k338 (P:Params):Obj:=co "check_sheets" "check_sheets" 615 616 617 140 1 333 181 334 335 336 337 621 140 622
def k339 (P:Params):Obj:=fo "check_sheets" "check_sheets" (top 37) .none (.str "glazebench.plans" 604) 338
def k345 (P:Params):Obj:=co "holds" "holds" 628 629 630 148 2 340 181 341 342 343 344 634 148 635
def k346 (P:Params):Obj:=fo "holds" "holds" (top 40) .none (.str "glazebench.bench" 624) 345
def k352 (P:Params):Obj:=co "cut_pane" "cut_pane" 637 638 639 151 4 347 181 348 349 350 351 649 151 650
def k353 (P:Params):Obj:=fo "cut_pane" "cut_pane" (top 41) .none (.str "glazebench.bench" 624) 352
def k359 (P:Params):Obj:=co "tree_in" "tree_in" 652 653 654 161 2 354 181 355 356 357 358 658 161 659
def k360 (P:Params):Obj:=fo "tree_in" "tree_in" (top 42) .none (.str "glazebench.bench" 624) 359
def k371 (P:Params):Obj:=⟨(.type "code"),none,(.fields #[(.str "__init__" 673),(.str "Bench.__init__" 674),(.str "/claim/cut.py" 675),(.int (165) 0),(.int (2) 0),(.int (0) 0),(.int (0) 0),(.int (3) 0),(.ref 368),(.bool true),(.int (181) 0),(.ref 369),.none,.none,.none,(.ref 370),(.int (676) 0),(.int (165) 0),(.str "/claim/cut.py" 677)]),#[]⟩
def k372 (P:Params):Obj:=fo "__init__" "Bench.__init__" (Zax (top 43) 0) .none (.str "glazebench.bench" 624) 371
def k376 (P:Params):Obj:=⟨(.type "code"),none,(.fields #[(.str "whole_pieces" 679),(.str "Bench.whole_pieces" 680),(.str "/claim/cut.py" 681),(.int (170) 0),(.int (1) 0),(.int (0) 0),(.int (0) 0),(.int (3) 0),(.ref 373),(.bool true),(.int (181) 0),(.ref 374),.none,.none,.none,(.ref 375),(.int (682) 0),(.int (170) 0),(.str "/claim/cut.py" 683)]),#[]⟩
def k377 (P:Params):Obj:=fo "whole_pieces" "Bench.whole_pieces" (Zax (top 43) 1) .none (.str "glazebench.bench" 624) 376
def k381 (P:Params):Obj:=⟨(.type "code"),none,(.fields #[(.str "panes_cut" 685),(.str "Bench.panes_cut" 686),(.str "/claim/cut.py" 687),(.int (176) 0),(.int (1) 0),(.int (0) 0),(.int (0) 0),(.int (3) 0),(.ref 378),(.bool true),(.int (181) 0),(.ref 379),.none,.none,.none,(.ref 380),(.int (688) 0),(.int (176) 0),(.str "/claim/cut.py" 689)]),#[]⟩
def k382 (P:Params):Obj:=fo "panes_cut" "Bench.panes_cut" (Zax (top 43) 2) .none (.str "glazebench.bench" 624) 381
def k386 (P:Params):Obj:=⟨(.type "code"),none,(.fields #[(.str "offcuts" 691),(.str "Bench.offcuts" 692),(.str "/claim/cut.py" 693),(.int (179) 0),(.int (1) 0),(.int (0) 0),(.int (0) 0),(.int (3) 0),(.ref 383),(.bool true),(.int (181) 0),(.ref 384),.none,.none,.none,(.ref 385),(.int (694) 0),(.int (179) 0),(.str "/claim/cut.py" 695)]),#[]⟩
def k387 (P:Params):Obj:=fo "offcuts" "Bench.offcuts" (Zax (top 43) 3) .none (.str "glazebench.bench" 624) 386
def k391 (P:Params):Obj:=⟨(.type "code"),none,(.fields #[(.str "sheets" 697),(.str "Bench.sheets" 698),(.str "/claim/cut.py" 699),(.int (182) 0),(.int (1) 0),(.int (0) 0),(.int (0) 0),(.int (3) 0),(.ref 388),(.bool true),(.int (181) 0),(.ref 389),.none,.none,.none,(.ref 390),(.int (700) 0),(.int (182) 0),(.str "/claim/cut.py" 701)]),#[]⟩
def k392 (P:Params):Obj:=fo "sheets" "Bench.sheets" (Zax (top 43) 4) .none (.str "glazebench.bench" 624) 391
def k396 (P:Params):Obj:=⟨(.type "code"),none,(.fields #[(.str "areas" 703),(.str "Bench.areas" 704),(.str "/claim/cut.py" 705),(.int (185) 0),(.int (1) 0),(.int (0) 0),(.int (0) 0),(.int (3) 0),(.ref 393),(.bool true),(.int (181) 0),(.ref 394),.none,.none,.none,(.ref 395),(.int (706) 0),(.int (185) 0),(.str "/claim/cut.py" 707)]),#[]⟩
def k397 (P:Params):Obj:=fo "areas" "Bench.areas" (Zax (top 43) 5) .none (.str "glazebench.bench" 624) 396
def k401 (P:Params):Obj:=⟨(.type "code"),none,(.fields #[(.str "piece_for" 709),(.str "Bench.piece_for" 710),(.str "/claim/cut.py" 711),(.int (191) 0),(.int (2) 0),(.int (0) 0),(.int (0) 0),(.int (3) 0),(.ref 398),(.bool true),(.int (181) 0),(.ref 399),.none,.none,.none,(.ref 400),(.int (712) 0),(.int (191) 0),(.str "/claim/cut.py" 713)]),#[]⟩
def k402 (P:Params):Obj:=fo "piece_for" "Bench.piece_for" (Zax (top 43) 6) .none (.str "glazebench.bench" 624) 401
def k403 (P:Params):Obj:=⟨(.type "tuple"),none,(.seq #[(.bool false)] 0),#[]⟩
def k409 (P:Params):Obj:=co "cut" "Bench.cut" 715 716 717 202 4 404 181 405 406 407 408 726 202 727
def k410 (P:Params):Obj:=fo "cut" "Bench.cut" (Zax (top 43) 7) (.ref 403) (.str "glazebench.bench" 624) 409
def k412 (P:Params):Obj:=⟨(.type "dict"),none,(.dict #[kE P "__module__" 668 (.str "glazebench.bench" 624),kE P "__firstlineno__" 672 (.int (163) 671),kE P "__init__" 678 (.ref 372),kE P "whole_pieces" 684 (.ref 377),kE P "panes_cut" 690 (.ref 382),kE P "offcuts" 696 (.ref 387),kE P "sheets" 702 (.ref 392),kE P "areas" 708 (.ref 397),kE P "piece_for" 714 (.ref 402),kE P "cut" 728 (.ref 410),kE P "__static_attributes__" 731 (.ref 411),kE P "__dict__" 733 (.ref 414),kE P "__weakref__" 735 (.ref 415),kE P "__doc__" 736 .none] 4),#[]⟩
def k413 (P:Params):Obj:=⟨(.type "type"),none,(.cls { name:="Bench",bases:=[(.type "object")],mro:=[(.ref 413),(.type "object")],ns:=412,qualname:="Bench",hasDict:=true,slotNames:=[],subclasses:=[],abstract:=false,collection:=none,hasDel:=false }),#[none,none,some (.str "Bench" 661),some (.str "Bench" 669),some (.builtin "object.__new__"),some (.bool true)]⟩
def k414 (P:Params):Obj:=⟨(.type "getset_descriptor"),none,(.fields #[(.str "__dict__" 732),(.ref 413),(.builtin "function.__dict__"),(.builtin "function.__dict__#set")]),#[]⟩
def k415 (P:Params):Obj:=⟨(.type "getset_descriptor"),none,(.fields #[(.str "__weakref__" 734),(.ref 413),(.builtin "ExceptionGroup.__weakref__"),.none]),#[]⟩
def k423 (P:Params):Obj:=co "_law_cell" "_law_cell" 741 742 743 212 2 418 181 419 420 421 422 746 212 747
def k424 (P:Params):Obj:=fo "_law_cell" "_law_cell" (top 45) .none (.str "law_glazebench_k70_a_pane_cut" 739) 423
def k430 (P:Params):Obj:=co "_law_draw" "_law_draw" 749 750 751 216 3 425 181 426 427 428 429 756 216 757
def k431 (P:Params):Obj:=fo "_law_draw" "_law_draw" (top 46) .none (.str "law_glazebench_k70_a_pane_cut" 739) 430
def k437 (P:Params):Obj:=co "_law_whole" "_law_whole" 759 760 761 219 1 432 181 433 434 435 436 763 219 764
def k438 (P:Params):Obj:=fo "_law_whole" "_law_whole" (top 47) .none (.str "law_glazebench_k70_a_pane_cut" 739) 437
def k444 (P:Params):Obj:=co "_law_told" "_law_told" 766 767 768 221 1 439 181 440 441 442 443 773 221 774
def k445 (P:Params):Obj:=fo "_law_told" "_law_told" (top 48) .none (.str "law_glazebench_k70_a_pane_cut" 739) 444
def k451 (P:Params):Obj:=co "_law_held" "_law_held" 776 777 778 236 4 446 181 447 448 449 450 783 236 784
def k452 (P:Params):Obj:=fo "_law_held" "_law_held" (top 49) .none (.str "law_glazebench_k70_a_pane_cut" 739) 451
def k458 (P:Params):Obj:=co "_law_sheet" "_law_sheet" 786 787 788 242 4 453 181 454 455 456 457 796 242 797
def k459 (P:Params):Obj:=fo "_law_sheet" "_law_sheet" (top 50) .none (.str "law_glazebench_k70_a_pane_cut" 739) 458
def k465 (P:Params):Obj:=co "_law_due" "_law_due" 799 800 801 250 3 460 181 461 462 463 464 807 250 808
def k466 (P:Params):Obj:=fo "_law_due" "_law_due" (top 51) .none (.str "law_glazebench_k70_a_pane_cut" 739) 465
def k472 (P:Params):Obj:=co "_law_asked" "_law_asked" 810 811 812 260 5 467 181 468 469 470 471 820 260 821
def k473 (P:Params):Obj:=fo "_law_asked" "_law_asked" (top 52) .none (.str "law_glazebench_k70_a_pane_cut" 739) 472
def k477 (P:Params):Obj:=⟨(.type "code"),none,(.fields #[(.str "_law_is" 823),(.str "_law_is" 824),(.str "/claim/cut.py" 825),(.int (273) 0),(.int (4) 0),(.int (0) 0),(.int (0) 0),(.int (3) 0),(.ref 474),(.bool true),(.int (181) 0),(.ref 475),.none,.none,.none,(.ref 476),(.int (826) 0),(.int (273) 0),(.str "/claim/cut.py" 827)]),#[]⟩
def k478 (P:Params):Obj:=fo "_law_is" "_law_is" (top 53) .none (.str "law_glazebench_k70_a_pane_cut" 739) 477
def k484 (P:Params):Obj:=co "law" "law" 829 830 831 289 1 479 181 480 481 482 483 849 289 850
def k485 (P:Params):Obj:=fo "law" "law" (top 54) .none (.str "law_glazebench_k70_a_pane_cut" 739) 484
def k4 (P:Params):Obj:=⟨(.type "module"),(some 0),.plain,#[]⟩
def KK:Params→Frag:=fun P=>(nat_lit 2,k2 P) :: (nat_lit 3,k3 P) :: (nat_lit 20,k20 P) :: (nat_lit 21,k21 P) :: (nat_lit 30,k30 P) :: (nat_lit 31,k31 P) :: (nat_lit 32,k32 P) :: (nat_lit 47,k47 P) :: (nat_lit 48,k48 P) :: (nat_lit 50,k50 P) :: (nat_lit 51,k51 P) :: (nat_lit 66,k66 P) :: (nat_lit 67,k67 P) :: (nat_lit 69,k69 P) :: (nat_lit 70,k70 P) :: (nat_lit 85,k85 P) :: (nat_lit 86,k86 P) :: (nat_lit 88,k88 P) :: (nat_lit 89,k89 P) :: (nat_lit 104,k104 P) :: (nat_lit 105,k105 P) :: (nat_lit 107,k107 P) :: (nat_lit 108,k108 P) :: (nat_lit 116,k116 P) :: (nat_lit 117,k117 P) :: (nat_lit 123,k123 P) :: (nat_lit 124,k124 P) :: (nat_lit 130,k130 P) :: (nat_lit 131,k131 P) :: (nat_lit 137,k137 P) :: (nat_lit 138,k138 P) :: (nat_lit 144,k144 P) :: (nat_lit 145,k145 P) :: (nat_lit 158,k158 P) :: (nat_lit 159,k159 P) :: (nat_lit 165,k165 P) :: (nat_lit 166,k166 P) :: (nat_lit 170,k170 P) :: (nat_lit 171,k171 P) :: (nat_lit 177,k177 P) :: (nat_lit 178,k178 P) :: (nat_lit 184,k184 P) :: (nat_lit 185,k185 P) :: (nat_lit 187,k187 P) :: (nat_lit 188,k188 P) :: (nat_lit 189,k189 P) :: (nat_lit 190,k190 P) :: (nat_lit 200,k200 P) :: (nat_lit 206,k206 P) :: (nat_lit 207,k207 P) :: (nat_lit 209,k209 P) :: (nat_lit 210,k210 P) :: (nat_lit 225,k225 P) :: (nat_lit 226,k226 P) :: (nat_lit 228,k228 P) :: (nat_lit 229,k229 P) :: (nat_lit 244,k244 P) :: (nat_lit 245,k245 P) :: (nat_lit 247,k247 P) :: (nat_lit 248,k248 P) :: (nat_lit 256,k256 P) :: (nat_lit 257,k257 P) :: (nat_lit 263,k263 P) :: (nat_lit 264,k264 P) :: (nat_lit 270,k270 P) :: (nat_lit 271,k271 P) :: (nat_lit 277,k277 P) :: (nat_lit 278,k278 P) :: (nat_lit 284,k284 P) :: (nat_lit 285,k285 P) :: (nat_lit 291,k291 P) :: (nat_lit 292,k292 P) :: (nat_lit 298,k298 P) :: (nat_lit 299,k299 P) :: (nat_lit 305,k305 P) :: (nat_lit 306,k306 P) :: (nat_lit 312,k312 P) :: (nat_lit 313,k313 P) :: (nat_lit 319,k319 P) :: (nat_lit 320,k320 P) :: (nat_lit 324,k324 P) :: (nat_lit 325,k325 P) :: (nat_lit 331,k331 P) :: (nat_lit 332,k332 P) :: (nat_lit 338,k338 P) :: (nat_lit 339,k339 P) :: (nat_lit 345,k345 P) :: (nat_lit 346,k346 P) :: (nat_lit 352,k352 P) :: (nat_lit 353,k353 P) :: (nat_lit 359,k359 P) :: (nat_lit 360,k360 P) :: (nat_lit 371,k371 P) :: (nat_lit 372,k372 P) :: (nat_lit 376,k376 P) :: (nat_lit 377,k377 P) :: (nat_lit 381,k381 P) :: (nat_lit 382,k382 P) :: (nat_lit 386,k386 P) :: (nat_lit 387,k387 P) :: (nat_lit 391,k391 P) :: (nat_lit 392,k392 P) :: (nat_lit 396,k396 P) :: (nat_lit 397,k397 P) :: (nat_lit 401,k401 P) :: (nat_lit 402,k402 P) :: (nat_lit 403,k403 P) :: (nat_lit 409,k409 P) :: (nat_lit 410,k410 P) :: (nat_lit 412,k412 P) :: (nat_lit 413,k413 P) :: (nat_lit 414,k414 P) :: (nat_lit 415,k415 P) :: (nat_lit 423,k423 P) :: (nat_lit 424,k424 P) :: (nat_lit 430,k430 P) :: (nat_lit 431,k431 P) :: (nat_lit 437,k437 P) :: (nat_lit 438,k438 P) :: (nat_lit 444,k444 P) :: (nat_lit 445,k445 P) :: (nat_lit 451,k451 P) :: (nat_lit 452,k452 P) :: (nat_lit 458,k458 P) :: (nat_lit 459,k459 P) :: (nat_lit 465,k465 P) :: (nat_lit 466,k466 P) :: (nat_lit 472,k472 P) :: (nat_lit 473,k473 P) :: (nat_lit 477,k477 P) :: (nat_lit 478,k478 P) :: (nat_lit 484,k484 P) :: (nat_lit 485,k485 P) :: (nat_lit 4,k4 P) :: []
def kas:List Addr:=nat_lit 2 :: nat_lit 3 :: nat_lit 20 :: nat_lit 21 :: nat_lit 30 :: nat_lit 31 :: nat_lit 32 :: nat_lit 47 :: nat_lit 48 :: nat_lit 50 :: nat_lit 51 :: nat_lit 66 :: nat_lit 67 :: nat_lit 69 :: nat_lit 70 :: nat_lit 85 :: nat_lit 86 :: nat_lit 88 :: nat_lit 89 :: nat_lit 104 :: nat_lit 105 :: nat_lit 107 :: nat_lit 108 :: nat_lit 116 :: nat_lit 117 :: nat_lit 123 :: nat_lit 124 :: nat_lit 130 :: nat_lit 131 :: nat_lit 137 :: nat_lit 138 :: nat_lit 144 :: nat_lit 145 :: nat_lit 158 :: nat_lit 159 :: nat_lit 165 :: nat_lit 166 :: nat_lit 170 :: nat_lit 171 :: nat_lit 177 :: nat_lit 178 :: nat_lit 184 :: nat_lit 185 :: nat_lit 187 :: nat_lit 188 :: nat_lit 189 :: nat_lit 190 :: nat_lit 200 :: nat_lit 206 :: nat_lit 207 :: nat_lit 209 :: nat_lit 210 :: nat_lit 225 :: nat_lit 226 :: nat_lit 228 :: nat_lit 229 :: nat_lit 244 :: nat_lit 245 :: nat_lit 247 :: nat_lit 248 :: nat_lit 256 :: nat_lit 257 :: nat_lit 263 :: nat_lit 264 :: nat_lit 270 :: nat_lit 271 :: nat_lit 277 :: nat_lit 278 :: nat_lit 284 :: nat_lit 285 :: nat_lit 291 :: nat_lit 292 :: nat_lit 298 :: nat_lit 299 :: nat_lit 305 :: nat_lit 306 :: nat_lit 312 :: nat_lit 313 :: nat_lit 319 :: nat_lit 320 :: nat_lit 324 :: nat_lit 325 :: nat_lit 331 :: nat_lit 332 :: nat_lit 338 :: nat_lit 339 :: nat_lit 345 :: nat_lit 346 :: nat_lit 352 :: nat_lit 353 :: nat_lit 359 :: nat_lit 360 :: nat_lit 371 :: nat_lit 372 :: nat_lit 376 :: nat_lit 377 :: nat_lit 381 :: nat_lit 382 :: nat_lit 386 :: nat_lit 387 :: nat_lit 391 :: nat_lit 392 :: nat_lit 396 :: nat_lit 397 :: nat_lit 401 :: nat_lit 402 :: nat_lit 403 :: nat_lit 409 :: nat_lit 410 :: nat_lit 412 :: nat_lit 413 :: nat_lit 414 :: nat_lit 415 :: nat_lit 423 :: nat_lit 424 :: nat_lit 430 :: nat_lit 431 :: nat_lit 437 :: nat_lit 438 :: nat_lit 444 :: nat_lit 445 :: nat_lit 451 :: nat_lit 452 :: nat_lit 458 :: nat_lit 459 :: nat_lit 465 :: nat_lit 466 :: nat_lit 472 :: nat_lit 473 :: nat_lit 477 :: nat_lit 478 :: nat_lit 484 :: nat_lit 485 :: nat_lit 4 :: []
def keeps:List Nat:=0 :: 2 :: 3 :: 4 :: 5 :: 6 :: 8 :: 9 :: 10 :: 11 :: 12 :: 13 :: 15 :: 16 :: 17 :: 18 :: 19 :: 20 :: 21 :: 22 :: 23 :: 24 :: 25 :: 26 :: 27 :: 28 :: 29 :: 30 :: 32 :: 33 :: 35 :: 36 :: 37 :: 39 :: 40 :: 41 :: 42 :: 43 :: 45 :: 46 :: 47 :: 48 :: 49 :: 50 :: 51 :: 52 :: 53 :: 54 :: []
def lo:List Str:=["Whole"]
def Ts:List Addr:=nat_lit 355 :: []
theorem prep (h:PySem.Challenge.rw_glazebench_k70_a_pane_cut.row.wellSaid=true→PySem.Challenge.rw_glazebench_k70_a_pane_cut.row.Holds):PySem.Challenge.rw_glazebench_k70_a_pane_cut.Holds:=by
 w_on
 o_law
 exact h (by assumption)
def qv (p:Program):Program:=view p keeps
def Xp (p:Program) (s:Shared):Bool:=xlAt (qv p) [] s && recOk (RowW.records (OpenRow.toRowW PySem.Challenge.rw_glazebench_k70_a_pane_cut.row)) s
theorem kas_is (P:Params):kas=(KK P).map (fun x=>x.1):=by kernel_rfl
theorem op_is:opening PySem.Challenge.pw_glazebench_k70_a_pane_cut=plainProg PySem.Challenge.pw_glazebench_k70_a_pane_cut.main.scope.names:=by kernel_rfl
theorem fence_is (s:Shared):fenceModules? PySem.Challenge.pw_glazebench_k70_a_pane_cut s=some s:=by kernel_rfl
theorem boot_is (w:World):((boot_heap w.params).isNs mainGlobals,(boot_heap w.params).objs.size,(boot_heap w.params).nsMap mainGlobals "__annotations__")=(true,11,(some (.ref 6))):=by kernel_rfl
theorem ranA:RunA 7726 11 (some (.ref 6)) PySem.W.Fast.te10156331382660048174 PySem.W.Fast.te11892475500146522536 PySem.W.Fast.te14364793385576792824 PySem.W.Fast.te5923862056798008813 PySem.W.Fast.te4187177175401517315 PySem.W.Fast.te7413130638101635989:=fun w os=>by kernel_rfl
theorem ranB:RunB 7726 11 (some (.ref 6)) qv lo Xp PySem.W.Fast.te10156331382660048174 PySem.W.Fast.te11892475500146522536 PySem.W.Fast.te14364793385576792824 PySem.W.Fast.te5923862056798008813 PySem.W.Fast.te4187177175401517315 PySem.W.Fast.te7413130638101635989:=fun w os=>by kernel_rfl
theorem ranC:RunC 7726 11 (some (.ref 6)) (hookT (kHook KK kas kas_is) Ts).obs (hookT (kHook KK kas kas_is) Ts).val PySem.W.Fast.te10156331382660048174 PySem.W.Fast.te11892475500146522536 PySem.W.Fast.te14364793385576792824 PySem.W.Fast.te5923862056798008813 PySem.W.Fast.te4187177175401517315 PySem.W.Fast.te7413130638101635989:=fun w os=>by kernel_rfl
theorem ran:∀ (w:World) (os:OsState),Option.map (lookO openSeen (importedModules PySem.Challenge.pw_glazebench_k70_a_pane_cut.main.body) PySem.Challenge.pw_glazebench_k70_a_pane_cut (qv PySem.Challenge.pw_glazebench_k70_a_pane_cut) lo (Xp PySem.Challenge.pw_glazebench_k70_a_pane_cut) (hookT (kHook KK kas kas_is) Ts).obs (boot_heap w.params)) (topRun treeTable PySem.Challenge.pw_glazebench_k70_a_pane_cut w 11 (some (.ref 6)) 7726 (atBoot w.params os) (topStub PySem.Challenge.pw_glazebench_k70_a_pane_cut))=some (true,openGood (qv PySem.Challenge.pw_glazebench_k70_a_pane_cut) lo,(hookT (kHook KK kas kas_is) Ts).val w):=run_by3 ranA ranB ranC
theorem left:LeftO PySem.Challenge.pw_glazebench_k70_a_pane_cut (qv PySem.Challenge.pw_glazebench_k70_a_pane_cut) lo (Xp PySem.Challenge.pw_glazebench_k70_a_pane_cut) (hookT (kHook KK kas kas_is) Ts).obs (hookT (kHook KK kas kas_is) Ts).val 7726:=left_once (boot_open op_is (by decide) fence_is) boot_is ran
end KH
namespace L2
open PySem PySem.Spec PyProof.Rows
section
variable {M:Model} {A:Around} {E:Value→Shared→Prop} {s:Shared}
end
end L2
namespace L2
open PySem PySem.Spec PyProof.Rows
section
variable {α:Type} {κ:α→Int}
end
end L2
namespace L2
open PySem PySem.Spec PyProof.Rows
section
variable {M:Model} {A:Around} {E:Value→Shared→Prop} {s:Shared}
end
end L2
namespace L2
open PySem PySem.Spec PyProof.Rows
section
variable {α:Type} {κ:α→Int}
end
section
variable {M:Model} {A:Around} {E:Value→Shared→Prop} {s:Shared}
end
end L2
namespace L2
open PySem PySem.Spec PyProof.Rows
section
variable {M:Model} {A:Around} {E:Value→Shared→Prop} {s:Shared}
theorem written {α:Type}:∀ (ms:List α) (n base:Nat) (xs:Array α),base+n+ms.length≤xs.size →
  ((ms.zipIdx n).foldl (fun a p=>a.setIfInBounds (base+p.2) p.1) xs).toList=xs.toList.take (base+n)++ms++xs.toList.drop (base+n+ms.length)
 | [],n,base,xs,h=>by simp
 | m :: ms,n,base,xs,h=>by
  rw [List.zipIdx_cons,List.foldl_cons]
  have hl:base+n+(ms.length+1)≤xs.size:=h
  rw [written ms (n+1) base (xs.setIfInBounds (base+n) m) (by rw [Array.size_setIfInBounds]; lia)]
  rw [Array.toList_setIfInBounds]
  have h1:base+n < xs.toList.length:=by rw [Array.length_toList]; lia
  rw [show base+(n+1)=base+n+1 by lia]
  rw [List.take_set,List.drop_set,if_pos (by lia)]
  have e1:(xs.toList.take (base+n+1)).set (base+n) m=xs.toList.take (base+n)++[m]:=by
   rw [List.take_succ_eq_append_getElem h1,List.set_append_right _ _ (by rw [List.length_take]; lia)]
   rw [List.length_take,Nat.min_eq_left (by lia),Nat.sub_self]
   rfl
  rw [e1,show base+n+1+ms.length=base+n+(m :: ms).length by simp; lia]
  simp
end
end L2
namespace L2
open PySem PySem.Spec PyProof.Rows
section
variable {M:Model} {A:Around} {E:Value→Shared→Prop} {s:Shared}
end
end L2
namespace L2
open PySem PySem.Spec PyProof.Rows
end L2
namespace L2
open PySem PySem.Spec PyProof.Rows
section
variable {M:Model} {A:Around} {E:Value→Shared→Prop} {s:Shared} {κ:Keyed→Int} {S:Keyed→Prop} {kd:SortKind}
end
end L2
namespace L2
open PySem PySem.Spec PyProof.Rows
section
variable {M:Model} {A:Around} {E:Value→Shared→Prop} {s:Shared} {κ:Keyed→Int} {S:Keyed→Prop} {kd:SortKind}
end
end L2
namespace L2
open PySem PySem.Spec PyProof.Rows
section
variable {M:Model} {A:Around} {E:Value→Shared→Prop} {s:Shared} {κ:Keyed→Int} {S:Keyed→Prop} {kd:SortKind}
end
end L2
namespace L2
open PySem PySem.Spec PyProof.Rows
def isCF:Option NameKind→Bool
 | some .cell=>true
 | some .free=>true
 | _=>false
theorem isCF_of {o:Option NameKind} (h:isCF o=true):o=some .cell∨o=some .free:=by
 match o,h with
 | some .cell,_=>exact .inl rfl
 | some .free,_=>exact .inr rfl
theorem Zem (env:Env):∀ (l:List (Str × NameKind)) (acc:List (Str × Addr)),(∀ y∈l,y.2=.free→∃ c,env.cells.lookup y.1=some c) →
  (∀ x c,acc.lookup x=some c→env.cells.lookup x=some c) →
  ∃ cl,(forIn l acc (fun (x:Str × NameKind) (r:List (Str × Addr))=>if (x.2 == .free)=true then (cellOf env x.1 >>= fun c=>pure (ForInStep.yield ((x.1,c) :: r))) else pure (ForInStep.yield r)):Sem (List (Str × Addr)))=pure cl ∧
   (∀ x c,cl.lookup x=some c→env.cells.lookup x=some c)∧(∀ x,((∃ c,acc.lookup x=some c)∨(x,NameKind.free)∈l)→∃ c,cl.lookup x=some c)
 | [],acc,_,ha=>⟨acc,by rfl,ha,fun x h=>h.elim id fun z=>nomatch z⟩
 | (n,k) :: l,acc,hl,ha=>by
  have hl':∀ y∈l,y.2=.free→∃ c,env.cells.lookup y.1=some c:=fun y hy=>hl y (List.mem_cons_of_mem _ hy)
  by_cases hk:k=.free
  ·subst hk
   obtain ⟨c,hc⟩:=hl (n,.free) List.mem_cons_self rfl
   have hc':env.cells.lookup n=some c:=hc
   have look:∀ x,((n,c) :: acc).lookup x=if x=n then some c else acc.lookup x:=fun x=>by
    rw [List.lookup_cons]
    by_cases e:x=n
    ·subst e; simp
    ·rw [if_neg e,show (x == n)=false by simpa using e]
   have ha':∀ x d,((n,c) :: acc).lookup x=some d→env.cells.lookup x=some d:=fun x d e=>by
    rw [look] at e
    split at e
    ·rename_i q; subst q; rw [hc']; exact e
    ·exact ha x d e
   obtain ⟨cl,e,h1,h2⟩:=Zem env l ((n,c) :: acc) hl' ha'
   refine ⟨cl,?_,h1,fun x h=>h2 x ?_⟩
   ·rw [← e,List.forIn_cons]
    have ec:cellOf env n=pure c:=by unfold cellOf; rw [hc']
    show ((cellOf env n >>= fun c=>pure (ForInStep.yield ((n,c) :: acc))) >>= _:Sem (List (Str × Addr)))=_
    rw [ec]
    rfl
   ·rcases h with ⟨d,q⟩ | h
    ·left
     rw [look]
     by_cases z:x=n
     ·exact ⟨c,by rw [if_pos z]⟩
     ·exact ⟨d,by rw [if_neg z]; exact q⟩
    ·rcases List.mem_cons.mp h with z | z
     ·left
      rw [look]
      exact ⟨c,by rw [if_pos (congrArg Prod.fst z)]⟩
     ·exact .inr z
  ·obtain ⟨cl,e,h1,h2⟩:=Zem env l acc hl' ha
   refine ⟨cl,?_,h1,fun x h=>h2 x ?_⟩
   ·rw [← e,List.forIn_cons]
    have hb:(k == NameKind.free)=false:=by simpa using hk
    show ((if (k == NameKind.free)=true then _ else pure (ForInStep.yield acc)) >>= _:Sem (List (Str × Addr)))=_
    rw [hb]
    rfl
   ·rcases h with h | h
    ·exact .inl h
    ·rcases List.mem_cons.mp h with z | z
     ·exact absurd (congrArg Prod.snd z).symm hk
     ·exact .inr z
theorem closure_of {scope:Scope} {env:Env} (h:∀ y∈scope.names,y.2=.free→∃ c,env.cells.lookup y.1=some c) :
  ∃ cl,closureFor scope env=pure cl∧(∀ x c,cl.lookup x=some c→env.cells.lookup x=some c)∧(∀ x,(x,NameKind.free)∈scope.names→∃ c,cl.lookup x=some c):=by
 obtain ⟨cl,e,h1,h2⟩:=Zem env scope.names [] h (fun x c e=>by simp at e)
 refine ⟨cl,?_,h1,fun x hx=>h2 x (.inr hx)⟩
 have e2:closureFor scope env=(forIn scope.names [] (fun (x:Str × NameKind) (r:List (Str × Addr))=>if (x.2 == .free)=true then (cellOf env x.1 >>= fun c=>pure (ForInStep.yield ((x.1,c) :: r))) else pure (ForInStep.yield r)) >>= fun r=>pure r:Sem (List (Str × Addr))):=by
  rfl
 rw [e2,e]
 rfl
abbrev compCx (X:Cx) (scope:Scope) (cl:List (Str × Addr)) (N:List Str) (C:Addr) (s:Shared) (H:Hp) (ex:List Addr):Cx :=
 { X with N:=N,s₀:=s,H₀:=H,env:=compEnvC scope cl C X.env,outer:=X.stack,ex:=ex,fn:=fun _=>false,pn:=[],xe:=fun _ _=>False }
def Zf1 (osc:Scope) (oN:List Str) (sc:Scope) (N:List Str) (fr:List (Option Nat)):Bool :=
 decide (sc.kind=.function) && sc.names.all (fun y=>decide (y.2≠.cell)) && sc.names.all (fun y=>decide (y.2≠.free) || isCF (osc.names.lookup y.1)) &&
 sc.names.all (fun y=>decide (y.2≠.local) || decide (sc.names.lookup y.1=some .local)) &&
 (N.zip fr).all (fun y=>match y.2 with
  | none=>true
  | some i=>decide (oN[i]?=some y.1) && isCF (osc.names.lookup y.1) && decide (sc.names.lookup y.1=some .free)) && decide (N.length=fr.length)
structure Zf4 (osc:Scope) (oN:List Str) (sc:Scope) (N:List Str) (fr:List (Option Nat)):Prop where
 kind:sc.kind=.function
 nocell:∀ y∈sc.names,y.2≠.cell
 free:∀ y∈sc.names,y.2=.free→isCF (osc.names.lookup y.1)=true
 loc:∀ y∈sc.names,y.2=.local→sc.names.lookup y.1=some .local
 slots:∀ (j:Nat) (x:Str) (i:Nat),N[j]?=some x→fr[j]?=some (some i)→oN[i]?=some x∧isCF (osc.names.lookup x)=true∧sc.names.lookup x=some .free
 len:N.length=fr.length
theorem Zel {osc:Scope} {oN:List Str} {sc:Scope} {N:List Str} {fr:List (Option Nat)} (h:Zf1 osc oN sc N fr=true):Zf4 osc oN sc N fr:=by
 unfold Zf1 at h
 simp only [Bool.and_eq_true,List.all_eq_true,decide_eq_true_eq,Bool.or_eq_true] at h
 obtain ⟨⟨⟨⟨⟨h1,h2⟩,h3⟩,h4⟩,h5⟩,h6⟩:=h
 refine ⟨h1,h2,fun y hy e=>(h3 y hy).resolve_left fun z=>z e,fun y hy e=>(h4 y hy).resolve_left fun z=>z e,fun j x i e1 e2=>?_,h6⟩
 have hm:(x,some i)∈N.zip fr:=by
  have:(N.zip fr)[j]?=some (x,some i):=by rw [List.getElem?_zip_eq_some]; exact ⟨e1,e2⟩
  exact List.mem_of_getElem? this
 have:=h5 _ hm
 simp only [Bool.and_eq_true,decide_eq_true_eq] at this
 exact ⟨this.1.1,this.1.2,this.2⟩
def stC (fr:List (Option Nat)) (σ:St):St:=fr.map fun o=>o.bind fun i=>(σ[i]?).join
def tComp (wi:TI) (g:TG) (te:TE) (fr:List (Option Nat)):TE:=fun σ H Q=>wi σ H fun J H1=>∀ acc,H1 acc=none→∃ W:Nat→Nat→St→Hp→Prop,(∃ m,W 0 m (stC fr σ) (upd H1 acc (.lst [])))∧∀ i m σ1 H2,W i m σ1 H2 →
 (J.stop i H2∧Q (.ref acc) H2)∨(J.go i H2∧∀ x H3,J.yld i H2 x H3→g x σ1 H3 fun σ4 H4=>te σ4 H4 fun v H5=>∃ xs,H5 acc=some (.lst xs)∧xs.length < sizeLine∧∃ m',m' < m∧W (i+1) m' σ4 (upd H5 acc (.lst (xs++[v]))))
section
variable {prog:Program} {w:World} {A:Around} {R:Result→Shared→Prop} {s:Shared}
theorem Ziy {elt target iter:Expr} {scope:Scope} {pos:Pos} {it acc:Value} {env:Env} (I:Nat→Shared→Prop)
    (turn:∀ n s,I n s→wpAny (model prog w) A (pyNext it) (fun r s₁=>match r with
      | none=>R (.ok .next) s₁
      | some v=>wpAny (model prog w) A (letOwnedTupleGo target it v) (fun _ s₁=>wpAny (model prog w) A (assign target env v) (fun _ s₂=>wpAny (model prog w) A (eval elt env) (fun x s₃ =>
          wpAny (model prog w) A (call (.builtin "list.append") [acc,x]) (fun _ s₄=>∃ m,m < n∧I m s₄) (notedBy (model prog w) A env fun e s'=>R (.error e) s') s₃)
          (notedBy (model prog w) A env fun e s'=>R (.error e) s') s₂) (notedBy (model prog w) A env fun e s'=>R (.error e) s') s₁) (notedBy (model prog w) A env fun e s'=>R (.error e) s') s₁) (notedBy (model prog w) A env fun e s'=>R (.error e) s') s)
    (n:Nat) (h:I n s) :
    codeAny (model prog w) A (.compLoop (.ListComp elt [⟨target,iter,[],0⟩] scope pos) 0 it acc env) R s:=by
  refine codeAny_loop rfl I (fun n s hI=>?_) n h
  show wpAny _ _ ((compTurn (.ListComp elt [⟨target,iter,[],0⟩] scope pos) 0 it acc env).onRaise (fun x=>do noteFrame x env; theTreesLotGoes x)) _ _ s
  refine wpAny_noted ?_
  rw [compTurn_list1]
  refine wpAny_bind (wpAny_standAt (wpAny_bind (wpAny_mono (turn n s hI) (fun r s₁ h₁=>?_) fun _ _ h'=>h')))
  cases r with
  | none=>exact wpAny_pure h₁
  | some v =>
    refine wpAny_bind (wpAny_mono h₁ (fun _ s₁ h₁=>?_) fun _ _ h'=>h')
    exact wpAny_bind (wpAny_mono h₁ (fun _ s₂ h₂=>wpAny_bind (wpAny_bind (wpAny_mono h₂ (fun x s₃ h₃=>wpAny_bind (wpAny_mono h₃
      (fun _ s₄ h₄=>wpAny_pure (wpAny_pure ⟨rfl,h₄⟩)) fun _ _ h'=>h')) fun _ _ h'=>h'))) fun _ _ h'=>h')
end
theorem Zb9 {α:Type} {M:Model} {A:Around} {t:Sem α} {Q:α→Shared→Prop} {E:Value→Shared→Prop} {s:Shared} (h:wpAny M A t Q (fun _ _=>False) s):wpAny M A t Q E s :=
 wpAny_mono h (fun _ _ q=>q) fun _ _ z=>z.elim
theorem relabel_CF {scope:Scope} {env:Env} (hc:∀ y∈scope.names,y.2≠.cell) {x:Str} (h:(relabel scope env).names.lookup x=some .cell∨(relabel scope env).names.lookup x=some .free):(x,NameKind.free)∈scope.names:=by
 have key:∀ (l:List (Str × NameKind)),(∀ y∈l,y.2≠.cell)→((l.map fun (n,k)=>if (k == NameKind.free && env.scope.kind == .function && env.kindOf n == some .cell) then (n,NameKind.cell) else (n,k)).lookup x=some .cell ∨
   (l.map fun (n,k)=>if (k == NameKind.free && env.scope.kind == .function && env.kindOf n == some .cell) then (n,NameKind.cell) else (n,k)).lookup x=some .free)→(x,NameKind.free)∈l:=by
  intro l
  induction l with
  | nil=>intro _ h; simp at h
  | cons y r ih =>
   obtain ⟨n,k⟩:=y
   intro hc h
   have hr:∀ y∈r,y.2≠.cell:=fun y hy=>hc y (List.mem_cons_of_mem _ hy)
   have hk:k≠.cell:=hc (n,k) List.mem_cons_self
   rw [List.map_cons] at h
   by_cases hxn:x=n
   ·subst hxn
    have hkf:k=.free:=by
     by_cases hb:(k == NameKind.free && env.scope.kind == .function && env.kindOf x == some .cell)=true
     ·simp only [Bool.and_eq_true,beq_iff_eq] at hb
      exact hb.1.1
     ·simp only [hb,if_neg,Bool.false_eq_true,if_false] at h
      simp only [List.lookup_cons,beq_self_eq_true] at h
      rcases h with h | h
      ·exact absurd (Option.some.inj h) hk
      ·exact Option.some.inj h
    rw [hkf]
    exact List.mem_cons_self
   ·have hb:(x == n)=false:=by simpa using hxn
    refine List.mem_cons_of_mem _ (ih hr ?_)
    by_cases hq:(k == NameKind.free && env.scope.kind == .function && env.kindOf n == some .cell)=true
    ·simp only [hq,if_true,List.lookup_cons,hb] at h
     exact h
    ·simp only [hq,Bool.false_eq_true,if_false,List.lookup_cons,hb] at h
     exact h
 exact key scope.names hc h
theorem Zeq {env:Env} {x:Str}:∀ {l:List (Str × NameKind)},l.lookup x=some .free →
  ((l.map fun (n,k)=>if (k == NameKind.free && env.scope.kind == .function && env.kindOf n == some .cell) then (n,NameKind.cell) else (n,k)).lookup x=some .cell ∨
   (l.map fun (n,k)=>if (k == NameKind.free && env.scope.kind == .function && env.kindOf n == some .cell) then (n,NameKind.cell) else (n,k)).lookup x=some .free)
 | [],h=>by simp at h
 | (n,k) :: r,h=>by
  rw [List.map_cons]
  by_cases hxn:x=n
  ·subst hxn
   simp only [List.lookup_cons,beq_self_eq_true] at h
   have hk:=Option.some.inj h
   subst hk
   by_cases hq:(NameKind.free == NameKind.free && env.scope.kind == .function && env.kindOf x == some .cell)=true
   ·left
    show List.lookup x ((if (NameKind.free == NameKind.free && env.scope.kind == .function && env.kindOf x == some .cell)=true then (x,NameKind.cell) else (x,NameKind.free)) :: _)=_
    rw [if_pos hq,List.lookup_cons,beq_self_eq_true]
   ·right
    show List.lookup x ((if (NameKind.free == NameKind.free && env.scope.kind == .function && env.kindOf x == some .cell)=true then (x,NameKind.cell) else (x,NameKind.free)) :: _)=_
    rw [if_neg hq,List.lookup_cons,beq_self_eq_true]
  ·have hb:(x == n)=false:=by simpa using hxn
   simp only [List.lookup_cons,hb] at h
   have ih:=Zeq (env:=env) h
   by_cases hq:(k == NameKind.free && env.scope.kind == .function && env.kindOf n == some .cell)=true
   ·simp only [hq,if_true,List.lookup_cons,hb]; exact ih
   ·simp only [hq,Bool.false_eq_true,if_false,List.lookup_cons,hb]; exact ih
theorem mem_look {x:Str} {k:NameKind}:∀ {l:List (Str × NameKind)},l.lookup x=some k→(x,k)∈l
 | [],h=>by simp at h
 | (n,j) :: r,h=>by
  by_cases e:x=n
  ·subst e
   simp only [List.lookup_cons,beq_self_eq_true] at h
   rw [← Option.some.inj h]
   exact List.mem_cons_self
  ·have hb:(x == n)=false:=by simpa using e
   simp only [List.lookup_cons,hb] at h
   exact List.mem_cons_of_mem _ (mem_look h)
section
variable {X:Cx} {elt tg iter:Expr} {scope:Scope} {pos:Pos} {wi:TI} {g:TG} {te:TE} {N:List Str} {fr:List (Option Nat)}
theorem Zgz {pins:List (Addr × Obj)} {σ:St} {H:Hp} {s s1:Shared} {cl:List (Str × Addr)} {ex:List Addr} {C:Addr} {m:Str→Option Value} (I:Inv X pins σ H s) (ck:Zf4 X.env.scope X.N scope N fr)
    (c1:∀ x c,cl.lookup x=some c→X.env.cells.lookup x=some c) (c2:∀ x,(x,NameKind.free)∈scope.names→∃ c,cl.lookup x=some c) (hex:∀ b∈ex,FpOk X pins H b∧b < s.heap.objs.size) (hC:s.heap.objs.size≤C)
    (hn:s1.heap.Ns C m) (k:∀ b o,s.heap.get? b=some o→s1.heap.get? b=some o) (ho:s1.os=s.os) (hg:s1.gens=s.gens) :
    Inv (compCx X scope cl N C s H ex) [] (stC fr σ) H s1:=by
  have lt_ne:∀ {b:Addr} {o:Obj},s.heap.get? b=some o→b≠C:=fun e=>Nat.ne_of_lt (Nat.lt_of_lt_of_le (Heap.lt_size e) hC)
  have ok:(compCx X scope cl N C s H ex).Ok :=
    { mod:=I.ok.mod
      kind:=ck.kind
      glob:=I.ok.glob
      blt:=I.ok.blt
      above:=hC
      inj:=fun x y c e1 e2=>I.ok.inj x y c (c1 x c e1) (c1 y c e2)
      has:=fun x h=>c2 x (relabel_CF ck.nocell h)
      cab:=fun x c z=>by cases z
      hd:=I.ok.hd
      frames:=I.ok.frames
      stk:=.inl rfl
      exf:=fun b hb=>⟨Nat.ne_of_lt (Nat.lt_of_lt_of_le (hex b hb).2 hC),fun x c e=>(hex b hb).1.2.2.2.2.1 x c (c1 x c e)⟩
      bs:=I.bs
      bsz:=Nat.le_trans I.ok.bsz I.sz
      noex:=fun b o e hb=>by
        rcases (hex b hb).1.2.2.2.1 with z | z
        · exact I.ok.noex b o e z
        · exact absurd (Nat.lt_of_lt_of_le (Heap.lt_size e) (Nat.le_trans I.ok.bsz z)) (Nat.lt_irrefl _)
      exfs:=fun b hb hz=>by
        rcases List.mem_cons.mp (I.stkSub b hz) with z | z
        · exact (hex b hb).1.2.1 z
        · exact (hex b hb).1.2.2.1 z
      funs:=I.stack
      frf:=I.stkFree }
  refine ⟨ok,ho,by rw [hg]; exact I.bare,Un.kept k,⟨m,hn,fun j x v e1 e2 e3=>?_⟩,fun x c e=>?_,I.hok.fresh hC,fun x c e=>I.freeC x c (c1 x c e),fun p hp=>by simp at hp,I.hok.kept k,?_⟩
  · have e1':N[j]?=some x:=e1
    unfold stC at e2
    rw [List.getElem?_map] at e2
    cases q:fr[j]? with
    | none=>rw [q] at e2; cases e2
    | some o =>
      rw [q] at e2
      cases o with
      | none =>
        have:(none:Option V)=some v:=Option.some.inj e2
        cases this
      | some i =>
        have e2':(σ[i]?).join=some v:=Option.some.inj e2
        obtain ⟨s1',s2',s3'⟩:=ck.slots j x i e1' q
        have hσ:σ[i]?=some (some v):=by
          cases z:σ[i]? with
          | none=>rw [z] at e2'; cases e2'
          | some y=>rw [z] at e2'; exact congrArg some e2'
        have hcf:=isCF_of s2'
        obtain ⟨m0,hn0,hl⟩:=I.loc
        obtain ⟨u,r,lk⟩:=hl i x v s1' hσ (Or.inr hcf)
        refine ⟨u,r,Or.inr ⟨Zeq s3',?_⟩⟩
        obtain ⟨c,hc⟩:=c2 x (mem_look s3')
        refine ⟨c,hc,?_⟩
        rcases lk with ⟨z,_⟩ | ⟨_,c',hc',hv⟩
        · rcases hcf with y | y
          · have z':X.env.scope.names.lookup x=some .local:=z
            rw [y] at z'; cases z'
          · have z':X.env.scope.names.lookup x=some .local:=z
            rw [y] at z'; cases z'
        · have:=c1 x c hc
          rw [hc'] at this
          cases this
          exact hv.keeps k
  · obtain ⟨v,z⟩:=I.cell x c (c1 x c e)
    exact ⟨v,z.keeps k⟩
  · unfold stC
    rw [List.length_map]
    exact ck.len.symm
theorem comp_core {pins:List (Addr × Obj)} {σ:St} {H:Hp} {s:Shared} {Q:VK} {cl:List (Str × Addr)} {R:Value→Addr→Result→Shared→Prop} (hc:X.calm=true) (I:Inv X pins σ H s) (hi:PI X tg iter wi)
  (hg:∀ cl C s H ex,PG (compCx X scope cl N C s H ex) tg g) (he:∀ cl C s H ex,PE (compCx X scope cl N C s H ex) elt te) (ck:Zf4 X.env.scope X.N scope N fr)
  (c1:∀ x c,cl.lookup x=some c→X.env.cells.lookup x=some c) (c2:∀ x,(x,NameKind.free)∈scope.names→∃ c,cl.lookup x=some c)
  (h:tComp wi g te fr σ H Q)
  (hR:∀ acc C s' H' m,s'.heap.Ns C m→FpOk X pins H' C→Inv X pins σ H' s'→Q (.ref acc) H'→R (.ref acc) C (.ok .next) s') :
  wpAny (model X.prog X.w) X.A (eval iter X.env) (fun x s₁=>wpAny (model X.prog X.w) X.A (pyIter x) (fun it s₂=>wpAny (model X.prog X.w) X.A (newList []) (fun acc s₃ =>
   wpAny (model X.prog X.w) X.A (newFunctionEnv scope X.env.globals cl [] X.env.qual none .none (some X.env)) (fun cenv s₄ =>
    codeAny (model X.prog X.w) X.A (.compStart (.ListComp elt [⟨tg,iter,[],0⟩] scope pos) 0 it acc { cenv with scope:=relabel scope X.env }) (R acc cenv.locals) s₄) X.xe s₃) X.xe s₂) X.xe s₁) X.xe s:=by
 refine thn (hi pins s σ H _ I h) fun v s1 h1=>thn h1 fun itv s2 h2=>?_
 obtain ⟨it,fp,tn,J,H2,e,I2,T,st2,f2,q2⟩:=h2
 subst e
 refine wpAny_newObj_type (wpAny_newFunctionEnv ck.nocell (by intro y hy; simp at hy) (fun h₁ hns₁ hsb₁=>?_) ck.kind)
 dsimp only at hns₁ hsb₁ ⊢
 have I3:Inv X pins σ (upd H2 s2.heap.objs.size (.lst [])) { s2 with heap:=s2.heap.push { cls:=.type "list",dict:=none,data:=.seq ([]:List Value).toArray } }:=I2.lnew (t':=s2.toks) (its:=[]) .nil (Nat.zero_le _)
 have acc0:H2 s2.heap.objs.size=none:=I2.fresh
 obtain ⟨W,⟨m0,w0⟩,turn⟩:=q2 s2.heap.objs.size acc0
 generalize hH3:s2.heap.push { cls:=.type "list",dict:=none,data:=.seq ([]:List Value).toArray }=h3 at hns₁ hsb₁ I3 ⊢
 have hz3:h3.objs.size=s2.heap.objs.size+1:=by rw [← hH3,Heap.size_push]
 have k23:∀ b o,s2.heap.get? b=some o→h3.get? b=some o:=fun b o e=>by rw [← hH3]; exact Heap.get?_push_of_some _ e
 have k34:∀ b o,h3.get? b=some o→h₁.get? b=some o:=fun b o e=>hsb₁.extBut b o (Nat.ne_of_lt (Heap.lt_size e)) (Heap.get?_push_of_some _ e)
 have fpo:∀ b∈fp,∃ o,s2.heap.get? b=some o∧∀ v,o.data≠.cell v:=T.obj 0 _ st2
 have hex:∀ b∈fp,FpOk X pins (upd H2 s2.heap.objs.size (.lst [])) b∧b < h3.objs.size:=fun b hb=>by
  obtain ⟨o,eo,_⟩:=fpo b hb
  have lt:=Heap.lt_size eo
  obtain ⟨f0,fr'⟩:=f2 b hb
  exact ⟨⟨by rw [Zag (Nat.ne_of_lt lt)]; exact f0,fr'⟩,by rw [hz3]; exact Nat.lt_succ_of_lt lt⟩
 have I4:Inv (compCx X scope cl N h3.objs.size { s2 with heap:=h3 } (upd H2 s2.heap.objs.size (.lst [])) fp) [] (stC fr σ) (upd H2 s2.heap.objs.size (.lst [])) { s2 with heap:=h₁,toks:=s2.toks+([]:List (Str × Value)).length } :=
  Zgz I3 ck c1 c2 hex (Nat.le_refl _) hns₁ k34 rfl rfl
 have stat:∀ {H':Hp},(∀ b∈fp,H' b=none)→∀ b∈fp,FpOk (compCx X scope cl N h3.objs.size { s2 with heap:=h3 } (upd H2 s2.heap.objs.size (.lst [])) fp) [] H' b:=fun hn b hb =>
  ⟨hn b hb,(I4.ok.exf b hb).1,I4.ok.exfs b hb,.inl hb,(I4.ok.exf b hb).2,fun p hp=>by simp at hp⟩
 have stn:∀ i h h',tn i h→(∀ b o,h.get? b=some o→h'.get? b=some o)→tn i h':=fun i h h' st kk=>T.keep i h h' st fun b _ o e=>kk b o e
 have loop:codeAny (model X.prog X.w) X.A (.compLoop (.ListComp elt [⟨tg,iter,[],0⟩] scope pos) 0 (.ref it) (.ref s2.heap.objs.size) (compEnvC scope cl h3.objs.size X.env)) (R (.ref s2.heap.objs.size) h3.objs.size)
   { s2 with heap:=h₁,toks:=s2.toks+([]:List (Str × Value)).length }:=by
  refine Ziy (fun n s'=>∃ i σ' H',Inv (compCx X scope cl N h3.objs.size { s2 with heap:=h3 } (upd H2 s2.heap.objs.size (.lst [])) fp) [] σ' H' s'∧tn i s'.heap∧(∀ b∈fp,H' b=none)∧W i n σ' H') ?_ m0
   ⟨0,_,_,I4,stn _ _ _ st2 fun b o e=>k34 b o (k23 b o e),fun b hb=>(hex b hb).1.1,w0⟩
  rintro n s3 ⟨i,σ3,H3,J3,st3,fr3,w3⟩
  rcases turn i n σ3 H3 w3 with ⟨stop,qn⟩ | ⟨go,step⟩
  ·refine Zb9 (thn (T.done (compCx X scope cl N h3.objs.size { s2 with heap:=h3 } (upd H2 s2.heap.objs.size (.lst [])) fp) rfl rfl rfl hc i [] s3 σ3 H3 (fun _ _=>False) J3 (stat fr3) st3 stop) fun r s4 ⟨hr,J4⟩=>?_)
   subst hr
   obtain ⟨mc,hmc,_⟩:=J4.loc
   have I5:Inv X pins σ H3 s4:=I3.call' (ch:=fp) J4.os J4.base J4.hok J4.bare fun b hb=>⟨(hex b hb).1.2.2.2.1,(hex b hb).1.2.1,(hex b hb).1.2.2.2.2.1,(hex b hb).1.2.2.2.2.2⟩
   exact hR _ _ s4 H3 mc hmc (I3.fpOk (Nat.le_refl _) J4.free) I5 qn
  ·refine Zb9 (thn (T.item (compCx X scope cl N h3.objs.size { s2 with heap:=h3 } (upd H2 s2.heap.objs.size (.lst [])) fp) rfl rfl rfl hc i [] s3 σ3 H3 (fun _ _=>False) J3 (stat fr3) st3 go) fun r s4 ⟨u,hr,h4⟩=>?_)
   subst hr
   refine Zb9 (thn h4 fun _ s5 ⟨x,H5,J5,r5,y5,st5,fr5⟩=>?_)
   have J5':=J5.pinned (stat fr5) (T.obj _ _ st5)
   refine Zb9 (thn (hg _ _ _ _ _ _ s5 σ3 H5 x u _ J5' r5 (step x H5 y5)) fun _ s6 ⟨σ6,H6,J6,q6⟩=>?_)
   refine Zb9 (thn (he _ _ _ _ _ _ s6 σ6 H6 _ J6 q6) fun y s7 ⟨v7,H7,J7,r7,xs,hx,hz,m',hm',w7⟩=>?_)
   refine Zb9 (thn (Za9 _ s7 σ6 H7 (.ref s2.heap.objs.size) [v7] (.ref s2.heap.objs.size) [y] (fun v H8=>H8=upd H7 s2.heap.objs.size (.lst (xs++[v7]))) J7 rfl (.cons r7 .nil) ⟨_,xs,v7,rfl,rfl,hx,hz,rfl⟩) fun _ s8 ⟨_,H8,J8,_,e8⟩=>?_)
   subst e8
   refine ⟨m',hm',i+1,σ6,_,J8.unpinned,T.keep _ _ _ st5 fun b hb o e=>(J8.pin (b,o) (List.mem_append_right _ (List.mem_append_right _ (Zbu hb e)))).1,fun b hb=>?_,w7⟩
   obtain ⟨o,e,d⟩:=T.obj _ _ st5 b hb
   exact (J8.pin (b,o) (List.mem_append_right _ (List.mem_append_right _ (Zbu hb e)))).2.1
 exact codeAny_compStart_list loop (T.self _ 0 _ _ _ (stn _ _ _ st2 fun b o e=>k34 b o (k23 b o e)) loop)
theorem Zkg (I:X.Ok) (ck:Zf4 X.env.scope X.N scope N fr):∃ cl,closureFor scope X.env=pure cl∧(∀ x c,cl.lookup x=some c→X.env.cells.lookup x=some c)∧(∀ x,(x,NameKind.free)∈scope.names→∃ c,cl.lookup x=some c) :=
 closure_of fun y hy e=>I.has y.1 (isCF_of (ck.free y hy e))
theorem Zef (hc:X.calm=true) (hi:PI X tg iter wi) (hg:∀ cl C s H ex,PG (compCx X scope cl N C s H ex) tg g) (he:∀ cl C s H ex,PE (compCx X scope cl N C s H ex) elt te)
  (hk:Zf1 X.env.scope X.N scope N fr=true:=by rfl) (hs:∀ x,foldedSetIterable iter X.env x=pure x:=by intro _; rfl):PE X (.ListComp elt [⟨tg,iter,[],0⟩] scope pos) (tComp wi g te fr):=by
 intro pins s σ H Q I h
 have ck:=Zel hk
 obtain ⟨cl,e1,c1,c2⟩:=Zkg I.ok ck
 rw [eval_ListComp]
 refine wpAny_comprehension_free (use:=none) (Q:=EP X pins σ Q) rfl hs e1 ck.kind ck.loc (comp_core (R:=fun acc C=>compPost (model X.prog X.w) X.A X.xe none (EP X pins σ Q) acc C) hc I hi hg he ck c1 c2 h fun acc C s' H' m hn f I' q=>?_)
 obtain ⟨f0,f1,f2,f3,f4,f5⟩:=f
 exact ⟨m,hn,fun h' hs'=>⟨.ref acc,H',I'.turned (t':=s'.toks) (fun b o hb e=>hs'.extBut b o hb e) f0 f1 f3 f4 f5,rfl,q⟩⟩
end
end L2
namespace L2
open PySem PySem.Spec PyProof.Rows
section
variable {X:Cx}
def CDivL (_ j:Int):Prop:=0 < j∧j.natAbs.log2 < 9000
theorem Ze7:OpR X (binaryOp .FloorDiv) (rI CDivL fun i j=>.int (i / j)):=opI fun i j _ _ _ _ _ hc q=>by
 have h1:(0:Int) < j:=hc.1
 exact floordiv_int (by omega) (by rw [Int.fdiv_eq_ediv_of_nonneg i (by omega)]; exact q) (.inl (PyProof.noPylong_of_log2 hc.2))
theorem Zc2:OpR X (binaryOp .Mult) (rI IntMulOk fun i j=>.int (i * j)):=opI fun _ _ _ _ _ _ _ hc q=>mul_int q hc
theorem Zgq {n k:Nat} (hk:0 < k) (h:n < 2^k):n.log2 < k:=by
 rcases Nat.eq_zero_or_pos n with h0 | hp
 ·rw [h0]; simpa using hk
 ·exact (Nat.log2_lt (Nat.ne_of_gt hp)).mpr h
theorem Zgw {z:Int} {k:Nat} (hk:0 < k) (h:z.natAbs < 2^k):Builtin.Int.intBits z≤k:=by
 unfold Builtin.Int.intBits
 split
 ·exact Nat.zero_le _
 ·exact Zgq hk h
theorem mulOk_of {a b:Int} (h1:a.natAbs < 2^128) (h2:b.natAbs < 2^128):IntMulOk a b:=by
 have e1:=Zgw (by decide) h1
 have e2:=Zgw (by decide) h2
 unfold IntMulOk Builtin.Int.intTooBig
 intro h
 simp only [Bool.and_eq_true,decide_eq_true_eq] at h
 have h3:=h.2
 have hb:(256:Int)≤(bitsLine:Int):=by decide +kernel
 omega
def tyO:Option HO→Option String
 | some (.lst _)=>some "list"
 | some (.frz _ (.lst _))=>some "list"
 | some (.tup _)=>some "tuple"
 | some (.dK _)=>some "dict"
 | some (.dT _)=>some "dict"
 | _=>none
def tyS (H:Hp):V→Option String
 | .non=>some "NoneType"
 | .bl _=>some "bool"
 | .int _=>some "int"
 | .str _=>some "str"
 | .ref a=>tyO (H a)
 | _=>none
theorem tyS_of {K:PySem.W.Frag} {H:Hp} {x:V} {T:String} (h:tyS H x=some T):TyOf K H x (.type T)∧(T="NoneType"∨T="bool"∨T="int"∨T="str"∨T="list"∨T="tuple"∨T="dict"):=by
 unfold tyS at h
 split at h
 ·cases h; exact ⟨.non,by simp⟩
 ·cases h; exact ⟨.bl _,by simp⟩
 ·cases h; exact ⟨.int _,by simp⟩
 ·cases h; exact ⟨.str _,by simp⟩
 ·unfold tyO at h
  split at h
  ·rename_i e; cases h; exact ⟨.lst e,by simp⟩
  ·rename_i e; cases h; exact ⟨.frz e,by simp⟩
  ·rename_i e; cases h; exact ⟨.tup e,by simp⟩
  ·rename_i e; cases h; exact ⟨.dK e,by simp⟩
  ·rename_i e; cases h; exact ⟨.dT e,by simp⟩
  ·cases h
 ·cases h
def isB (T c:String):Bool:=decide (T=c) || (decide (T="bool") && decide (c="int"))
theorem kit_isB {K:PySem.W.Frag} {T c:String} (h:T="NoneType"∨T="bool"∨T="int"∨T="str"∨T="list"∨T="tuple"∨T="dict") (hc:c="int"∨c="bool"∨c="tuple"∨c="list"∨c="str") :
  PySem.W.kitOne K (.type T) (.type c)=some (isB T c):=by
 rcases h with rfl | rfl | rfl | rfl | rfl | rfl | rfl <;> rcases hc with rfl | rfl | rfl | rfl | rfl <;> rfl
theorem Zbv:CallR X (.builtin "isinstance") (fun xs H Q=>∃ x T c,xs=[x,.ty c]∧tyS H x=some T∧(c="int"∨c="bool"∨c="tuple"∨c="list"∨c="str")∧Q (.bl (isB T c)) H):=by
 intro pins s σ H xs us Q I r h
 obtain ⟨x,T,c,rfl,hT,hc,q⟩:=h
 obtain ⟨u,w',rfl,rx,ry⟩:=vals2 r
 cases (show w'=Value.type c from ry)
 obtain ⟨ty,hl⟩:=tyS_of (K:=X.K) hT
 exact Zir I rx ty (kit_isB hl hc) fun tk=>⟨.bl (isB T c),H,I.tok tk,rfl,q⟩
theorem bools_get {bs:List Bool} {its:List Value} (r:Vals (bs.map V.bl) its) {i:Nat} {v:Value} (h:its.toArray[i]?=some v):v=.bool (bs.getD i false):=by
 have hl:=r.length
 have hi:i < its.length:=by
  have:=(Array.getElem?_eq_some_iff.mp h).1
  simpa using this
 have hb:bs[i]?=some (bs.getD i false):=by
  have:i < bs.length:=by rw [List.length_map] at hl; omega
  rw [List.getD_eq_getElem?_getD,List.getElem?_eq_getElem this]; rfl
 obtain ⟨u,hu,ru⟩:=r.get (i:=i) (x:=.bl (bs.getD i false)) (by rw [List.getElem?_map,hb]; rfl)
 have h':its[i]?=some v:=by simpa using h
 rw [h'] at hu
 cases hu
 exact ru
theorem range_all {α:Type} (bs:List Bool):(List.range bs.length).all (fun i=>bs.getD i false)=bs.all id:=by
 have e:(List.range bs.length).map (fun i=>bs.getD i false)=bs:=by
  apply List.ext_getElem?
  intro i
  rw [List.getElem?_map]
  by_cases h:i < bs.length
  ·rw [List.getElem?_range h,List.getElem?_eq_getElem h,Option.map_some,List.getD_eq_getElem?_getD,List.getElem?_eq_getElem h]; rfl
  ·rw [List.getElem?_eq_none (by simpa using h),List.getElem?_eq_none (by omega)]; rfl
 conv=>rhs; rw [← e]
 rw [List.all_map]; rfl
theorem Zjg {prog:Program} {w:World} {A:Around} {bs:List Bool} {its:List Value} (r:Vals (bs.map V.bl) its):TruthOf prog w A (fun i v=>its.toArray[i]?=some v) (fun i=>bs.getD i false):=by
 intro i v s Q E hv hq
 have e:=bools_get r hv
 subst e
 exact wpAny_truthy_bool hq
theorem call_all:CallR X (.builtin "all") (fun xs H Q=>∃ (p:Addr) (bs:List Bool),xs=[.ref p]∧SqL X.K H p (bs.map V.bl)∧X.calm=true∧Q (.bl (bs.all id)) H):=by
 intro pins s σ H xs us Q I r h
 obtain ⟨p,bs,rfl,hp,hc,q⟩:=h
 obtain ⟨u,rfl,ru⟩:=vals1 r
 cases ru
 obtain ⟨its,rv,pl,hz⟩:=I.list hp
 have hl:=rv.length
 rw [List.length_map] at hl
 refine call_all_walk (wpAny_pyIter_list pl.isList ?_)
 have hlt:p < s.heap.objs.size:=by obtain ⟨o,ho,_⟩:=pl.isList; exact Heap.lt_size ho
 refine ⟨s.heap.objs.size,_,_,_,_,_,_,rfl,Walks.list (show X.A.in1.handled=none from I.ok.hd hc) s.heap.objs.size p (Nat.ne_of_lt hlt) its.toArray,⟨⟨_,Heap.get?_push_size _ rfl,rfl,rfl⟩,let ⟨o,ho,r⟩:=pl.isList; ⟨o,Heap.get?_push_of_some _ ho,r⟩⟩,Zjg rv,fun h' tk k=>?_⟩
 refine ⟨.bl (bs.all id),H,I.kept (t':=tk) fun b o e=>k b o (fun z=>?_) (Heap.get?_push_of_some _ e),?_,q⟩
 ·have:b=s.heap.objs.size:=by simpa using z
  exact absurd (this ▸ Heap.lt_size e) (Nat.lt_irrefl _)
 ·show Value.bool _=Value.bool _
  rw [List.size_toArray,← hl,range_all (α:=Nat)]
end
section
variable {X:Cx}
end
end L2
namespace L2
open PySem PySem.Spec PyProof.Rows
structure DefOk (P:Program) (w:World) (K:PySem.W.Frag) (mg:Str→Option Value) (base:Heap) (k:Nat) (x:Str) (ps:List Str) (sp:Sp):Prop where
 ex:∃ (f:Addr) (fd:FuncData),FnOk P w K mg base CX0 k f fd ps sp∧mg x=some (.ref f)∧PySem.W.keepIn K (.ref f)=true∧Binds K fd ps []
section
variable {X:Cx} {k j:Nat} {x:Str} {ps:List Str} {sp:Sp} {p pos:Pos} {e:Expr} {es:List Expr} {t:TA}
theorem Za2 (D:DefOk X.prog X.w X.K X.mg X.base k x ps sp) (hr:Room j X.A) (ha:PA X (e :: es) t) (hj:k≤j:=by decide) (hg:Gl X x:=by rfl) (hdb:(x == ("__debug__":Str))=false:=by decide)
  (he:starEach (e :: es) X.env=(false,eval e X.env) :: starEach es X.env:=by rfl) (hpl:(backTo pos (starEach es X.env)).any (·.1)=false:=by rfl):PE X (.Call (.Name x p) (e :: es) [] pos) (tCall sp [] E0 t):=by
 obtain ⟨f,fd,F,hm,hk,hb⟩:=D.ex
 exact pe_call F (hr.mono hj) hg hm hk hb .nil pass0 ha hdb he hpl
end
theorem lenOk {xs:List V} (n:Nat) (h:xs.length=n:=by rfl) (h2:n≤1000:=by decide):xs.length≤sizeLine:=by rw [h]; exact Nat.le_of_lt (Zaq h2)
theorem iteP {c:Bool} {A B:Prop} (h:c=true) (a:A):if c=true then A else B:=by rw [if_pos h]; exact a
theorem iteN {c:Bool} {A B:Prop} (h:c=false) (b:B):if c=true then A else B:=by rw [if_neg (by rw [h]; exact Bool.false_ne_true)]; exact b
theorem ite3 {c:Bool} {A B:Prop} (h1:c=true→A) (h2:c=false→B):if c=true then A else B:=by
 cases c with
 | true=>exact iteT (h1 rfl)
 | false=>exact iteF (h2 rfl)
def SameX (p:Addr) (H H':Hp):Prop:=∀ b o,b≠p→H b=some o→H' b=some o
theorem SameX.refl {p:Addr} {H:Hp}:SameX p H H:=fun _ _ _ h=>h
theorem SameX.trans {p:Addr} {H H1 H2:Hp} (a:SameX p H H1) (b:SameX p H1 H2):SameX p H H2:=fun c o n h=>b c o n (a c o n h)
theorem SameX.upd {p:Addr} {H:Hp} {o:HO}:SameX p H (upd H p o):=fun b u n h=>by rw [Zag n]; exact h
theorem SameX.new {p l:Addr} {H:Hp} {o:HO} (h:H l=none):SameX p H (L2.upd H l o):=fun b u _ e=>by rw [Zag (Zad e h)]; exact e
theorem Same.new {l:Addr} {H:Hp} {o:HO} (h:H l=none):Same H (L2.upd H l o):=fun b u e=>by rw [Zag (Zad e h)]; exact e
theorem Same.x {p:Addr} {H H':Hp} (a:Same H H'):SameX p H H':=fun b o _ e=>a b o e
def cW (acc:Addr) (n:Nat) (Pv:Nat→List V→St→Hp→Prop) (i m:Nat) (σ:St) (H:Hp):Prop:=i≤n∧m=n - i∧∃ xs,xs.length=i∧H acc=some (.lst xs)∧Pv i xs σ H
def cNx (acc:Addr) (n:Nat) (Pv:Nat→List V→St→Hp→Prop) (i:Nat) (σ:St) (v:V) (H:Hp):Prop:=∃ xs,H acc=some (.lst xs)∧xs.length < sizeLine∧∃ m',m' < n - i∧cW acc n Pv (i+1) m' σ (upd H acc (.lst (xs++[v])))
theorem cNx.mk {acc:Addr} {n:Nat} {Pv:Nat→List V→St→Hp→Prop} {i:Nat} {σ:St} {v:V} {H:Hp} {xs:List V} (hn:n≤sizeLine) (hi:i < n) (hl:xs.length=i) (ha:H acc=some (.lst xs)) (hp:Pv (i+1) (xs++[v]) σ (upd H acc (.lst (xs++[v])))) :
  cNx acc n Pv i σ v H:=⟨xs,ha,by omega,n - (i+1),by omega,hi,rfl,xs++[v],by rw [List.length_append,hl]; rfl,upd_same,hp⟩
theorem Zdh {K:PySem.W.Frag} {a:Addr} {ys:List V} {g:TG} {te:TE} {σ:St} {H1:Hp} {acc:Addr} {Qr:Hp→Prop} (Pv:Nat→List V→St→Hp→Prop) (h0:Pv 0 [] σ (upd H1 acc (.lst [])))
  (hq:∀ i xs σ H,i≤ys.length→H acc=some (.lst xs)→Pv i xs σ H→SqL K H a ys)
  (hs:∀ i x xs σ H,ys[i]?=some x→i < ys.length→xs.length=i→H acc=some (.lst xs)→Pv i xs σ H→g x σ H fun σ2 H2=>te σ2 H2 fun v H3=>cNx acc ys.length Pv i σ2 v H3)
  (hd:∀ xs σ H,xs.length=ys.length→H acc=some (.lst xs)→Pv ys.length xs σ H→Qr H) :
  ∃ W:Nat→Nat→St→Hp→Prop,(∃ m,W 0 m σ (upd H1 acc (.lst [])))∧∀ i m σ1 H2,W i m σ1 H2 →
   ((Itl K a).stop i H2∧Qr H2)∨((Itl K a).go i H2∧∀ x H3,(Itl K a).yld i H2 x H3→g x σ1 H3 fun σ4 H4=>te σ4 H4 fun v H5=>∃ xs,H5 acc=some (.lst xs)∧xs.length < sizeLine∧∃ m',m' < m∧W (i+1) m' σ4 (upd H5 acc (.lst (xs++[v])))):=by
 refine ⟨cW acc ys.length Pv,⟨ys.length,Nat.zero_le _,rfl,[],rfl,upd_same,h0⟩,?_⟩
 rintro i m σ1 H2 ⟨hi,rfl,xs,hl,ha,hp⟩
 have hsq:=hq i xs σ1 H2 hi ha hp
 rcases Nat.lt_or_ge i ys.length with h | h
 ·refine .inr ⟨⟨ys,ys[i],hsq,List.getElem?_eq_getElem h⟩,?_⟩
  rintro x H3 ⟨rfl,hx⟩
  exact hs i x xs σ1 H3 (hx ys hsq) h hl ha hp
 ·have e:i=ys.length:=Nat.le_antisymm hi h
  subst e
  exact .inl ⟨⟨ys,hsq,Nat.le_refl _⟩,hd xs σ1 H2 hl ha hp⟩
theorem comp_tup {K:PySem.W.Frag} {a:Addr} {ys:List V} {g:TG} {te:TE} {σ:St} {H1:Hp} {acc:Addr} {Qr:Hp→Prop} (Pv:Nat→List V→St→Hp→Prop) (h0:Pv 0 [] σ (upd H1 acc (.lst [])))
  (hq:∀ i xs σ H,i≤ys.length→H acc=some (.lst xs)→Pv i xs σ H→SqT K H a ys)
  (hs:∀ i x xs σ H,ys[i]?=some x→i < ys.length→xs.length=i→H acc=some (.lst xs)→Pv i xs σ H→g x σ H fun σ2 H2=>te σ2 H2 fun v H3=>cNx acc ys.length Pv i σ2 v H3)
  (hd:∀ xs σ H,xs.length=ys.length→H acc=some (.lst xs)→Pv ys.length xs σ H→Qr H) :
  ∃ W:Nat→Nat→St→Hp→Prop,(∃ m,W 0 m σ (upd H1 acc (.lst [])))∧∀ i m σ1 H2,W i m σ1 H2 →
   ((Itt K a).stop i H2∧Qr H2)∨((Itt K a).go i H2∧∀ x H3,(Itt K a).yld i H2 x H3→g x σ1 H3 fun σ4 H4=>te σ4 H4 fun v H5=>∃ xs,H5 acc=some (.lst xs)∧xs.length < sizeLine∧∃ m',m' < m∧W (i+1) m' σ4 (upd H5 acc (.lst (xs++[v])))):=by
 refine ⟨cW acc ys.length Pv,⟨ys.length,Nat.zero_le _,rfl,[],rfl,upd_same,h0⟩,?_⟩
 rintro i m σ1 H2 ⟨hi,rfl,xs,hl,ha,hp⟩
 have hsq:=hq i xs σ1 H2 hi ha hp
 rcases Nat.lt_or_ge i ys.length with h | h
 ·refine .inr ⟨⟨ys,ys[i],hsq,List.getElem?_eq_getElem h⟩,?_⟩
  rintro x H3 ⟨rfl,hx⟩
  exact hs i x xs σ1 H3 (hx ys hsq) h hl ha hp
 ·have e:i=ys.length:=Nat.le_antisymm hi h
  subst e
  exact .inl ⟨⟨ys,hsq,Nat.le_refl _⟩,hd xs σ1 H2 hl ha hp⟩
end L2
namespace L2
open PySem PySem.Spec PyProof.Rows PySem.W
section
variable {cmp:Nat→Nat→(Bool→Shared→Prop)→Shared→Prop} {key:Nat→Int} {N:Nat} {s:Shared}
def KP (key:Nat→Int) (p:Array Nat) (i:Nat):Int:=key (p.getD i 0)
def PermN (N:Nat) (p:Array Nat):Prop:=p.toList.Perm (List.range N)
theorem PermN.size {p:Array Nat} (h:PermN N p):p.size=N:=by
 have:=List.Perm.length_eq h
 rw [List.length_range] at this
 simpa using this
theorem PermN.lt {p:Array Nat} (h:PermN N p) {i:Nat} (hi:i < N):p.getD i 0 < N:=by
 have hs:=h.size
 have hi':i < p.size:=by omega
 have e:p.getD i 0=p[i]:=by simp [Array.getD,hi']
 rw [e]
 have hm:p[i]∈p.toList:=by simp
 exact List.mem_range.mp ((List.Perm.mem_iff h).mp hm)
theorem PermN.of {p q:Array Nat} (h:PermN N p) (hq:q.Perm p):PermN N q:=(Array.perm_iff_toList_perm.mp hq).trans h
def SrtK (key:Nat→Int) (p:Array Nat) (k:Nat):Prop:=∀ i j,i≤j→j < k→KP key p i≤KP key p j
def NinK (key:Nat→Int) (p:Array Nat) (k:Nat):Prop:=∀ i j,i≤j→j < k→KP key p j≤KP key p i
theorem Zd7 {p q:Array Nat} {i j:Nat} (h:p[i]?=q[j]?):KP key p i=KP key q j:=by
 unfold KP
 rw [Array.getD_eq_getD_getElem?,Array.getD_eq_getD_getElem?,h]
theorem Zja {p:Array Nat} {i j:Nat} (hj:j≤p.size) (k:Nat):KP key (kas_rev p i j) k=if i≤k∧k < j then KP key p (i+j - 1 - k) else KP key p k:=by
 have e:=getElem?_mirror_all (i:=i) hj k
 by_cases h:i≤k∧k < j
 ·rw [if_pos h] at e ⊢; exact Zd7 e
 ·rw [if_neg h] at e ⊢; exact Zd7 e
theorem Zjb {p:Array Nat} {src d:Nat} (hs:src < p.size) (hd:d≤src) (k:Nat) :
  KP key (bubble p src d) k=if k=src - d then KP key p src else if src - d < k∧k≤src then KP key p (k - 1) else KP key p k:=by
 have e:=getElem?_bubble hs d hd k
 by_cases h1:k=src - d
 ·rw [if_pos h1] at e ⊢; exact Zd7 e
 ·rw [if_neg h1] at e ⊢
  by_cases h2:src - d < k∧k≤src
  ·rw [if_pos h2] at e ⊢; exact Zd7 e
  ·rw [if_neg h2] at e ⊢; exact Zd7 e
theorem PermN.rev {p:Array Nat} (h:PermN N p) (i j:Nat):PermN N (kas_rev p i j):=h.of (mirror_perm _ _ _ _)
theorem PermN.bub {p:Array Nat} (h:PermN N p) (i j:Nat):PermN N (bubble p i j):=h.of (bubble_perm _ _ _)
theorem srt_ext {p:Array Nat} {n:Nat} (h:SrtK key p n) (hn:1≤n) (hc:KP key p (n - 1)≤KP key p n):SrtK key p (n+1):=fun i j hij hj=>by
 by_cases e:j=n
 ·subst e
  by_cases e2:i=j
  ·subst e2; exact Int.le_refl _
  ·exact Int.le_trans (h i (j - 1) (by omega) (by omega)) hc
 ·exact h i j hij (by omega)
theorem Zhl {p:Array Nat} {n:Nat} (h:NinK key p n) (hn:1≤n) (hc:KP key p n≤KP key p (n - 1)):NinK key p (n+1):=fun i j hij hj=>by
 by_cases e:j=n
 ·subst e
  by_cases e2:i=j
  ·subst e2; exact Int.le_refl _
  ·exact Int.le_trans hc (h i (j - 1) (by omega) (by omega))
 ·exact h i j hij (by omega)
variable (hcmp:∀ i j (C:Bool→Shared→Prop),i < N→j < N→C (decide (key i < key j)) s→cmp i j C s)
include hcmp
theorem asc_ok {p:Array Nat} (hp:PermN N p) {G:Nat→Shared→Prop}:∀ (f n:Nat),1≤n→n+f≤N→SrtK key p n→(∀ m,n≤m→m≤n+f→SrtK key p m→(m < n+f→KP key p m < KP key p (m - 1))→G m s)→(kas_asc p f n).kasWp cmp G s
 | 0,n,h1,hn,hs,hG=>hG n (Nat.le_refl _) (by omega) hs (fun h=>absurd h (by omega))
 | f+1,n,h1,hn,hs,hG=>by
  show cmp _ _ _ s
  refine hcmp _ _ _ (hp.lt (by omega)) (hp.lt (by omega)) ?_
  by_cases h:key (p.getD n 0) < key (p.getD (n - 1) 0)
  ·rw [decide_eq_true h]
   simp only [if_true]
   exact hG n (Nat.le_refl _) (by omega) hs fun _=>h
  ·rw [decide_eq_false h]
   simp only [Bool.false_eq_true,if_false]
   exact asc_ok hp f (n+1) (by omega) (by omega) (srt_ext hs h1 (by unfold KP; omega)) fun m a b c d=>hG m (by omega) (by omega) c fun z=>d (by omega)
theorem Zk0 {p:Array Nat} (hp:PermN N p) {n:Nat} (h1:1≤n) (hn:n≤N) (hs:NinK key p n) {G:Nat × Array Nat→Shared→Prop} (hG:∀ m q,1≤m→m≤N→PermN N q→SrtK key q m→G (m,q) s):(kas_tail3 n N p).kasWp cmp G s:=by
 unfold kas_tail3
 rw [KasT.kasWp_bind]
 have hz:=hp.size
 refine asc_ok hcmp (hp.rev 0 n) (N - n) n h1 (by omega) (fun i j hij hj=>?_) fun m a b c _=>hG m _ (by omega) (by omega) (hp.rev 0 n) c
 rw [Zja (by omega),Zja (by omega),if_pos (by omega),if_pos (by omega)]
 exact hs _ _ (by omega) (by omega)
theorem Zhw {G:Array Nat × Nat × Nat→Shared→Prop}:∀ (f:Nat) (p:Array Nat) (n q:Nat),PermN N p→1≤n→n+f≤N→q < n→NinK key p n→(∀ i,n - 1 - q≤i→i < n→KP key p i=KP key p (n - 1)) →
  (∀ p' m r,PermN N p'→1≤m→m≤N→r < m→NinK key p' m→(∀ i,m - 1 - r≤i→i < m→KP key p' i=KP key p' (m - 1))→G (p',m,r) s)→(kas_desc f p n q).kasWp cmp G s
 | 0,p,n,q,hp,h1,hn,hq,hs,he,hG=>hG p n q hp h1 (by omega) hq hs he
 | f+1,p,n,q,hp,h1,hn,hq,hs,he,hG=>by
  have hz:=hp.size
  show cmp _ _ _ s
  refine hcmp _ _ _ (hp.lt (by omega)) (hp.lt (by omega)) ?_
  by_cases h:key (p.getD n 0) < key (p.getD (n - 1) 0)
  ·rw [decide_eq_true h]
   simp only [if_true]
   have h':KP key p n < KP key p (n - 1):=h
   have key1:NinK key p (n+1):=Zhl hs h1 (by omega)
   by_cases hq0:q > 0
   ·rw [if_pos hq0]
    have same:∀ k,KP key (kas_rev p (n - (q+1)) n) k=KP key p k:=fun k=>by
     rw [Zja (by omega)]
     split
     ·rw [he _ (by omega) (by omega),he k (by omega) (by omega)]
     ·rfl
    refine Zhw f _ (n+1) 0 (hp.rev _ _) (by omega) (by omega) (by omega) (fun i j hij hj=>?_) (fun i a b=>?_) hG
    ·rw [same,same]; exact key1 i j hij hj
    ·rw [show i=n+1 - 1 by omega]
   ·rw [if_neg hq0]
    exact Zhw f _ (n+1) 0 hp (by omega) (by omega) (by omega) key1 (fun i a b=>by rw [show i=n+1 - 1 by omega]) hG
  ·rw [decide_eq_false h]
   simp only [Bool.false_eq_true,if_false]
   show cmp _ _ _ s
   refine hcmp _ _ _ (hp.lt (by omega)) (hp.lt (by omega)) ?_
   by_cases h2:key (p.getD (n - 1) 0) < key (p.getD n 0)
   ·rw [decide_eq_true h2]
    simp only [if_true]
    exact hG p n q hp h1 (by omega) hq hs he
   ·rw [decide_eq_false h2]
    simp only [Bool.false_eq_true,if_false]
    have e:KP key p n=KP key p (n - 1):=by unfold KP; omega
    refine Zhw f p (n+1) (q+1) hp (by omega) (by omega) (by omega) (Zhl hs h1 (by omega)) (fun i a b=>?_) hG
    by_cases hi:i=n
    ·subst hi; rfl
    ·rw [he i (by omega) (by omega),← e]; rfl
theorem Zfy {p:Array Nat} (hp:PermN N p) {n:Nat} (hn:n+1≤N) (hs:NinK key p (n+1)) {G:Nat × Array Nat→Shared→Prop} (hG:∀ m q,1≤m→m≤N→PermN N q→SrtK key q m→G (m,q) s):(kas_descPart n N p).kasWp cmp G s:=by
 unfold kas_descPart
 rw [KasT.kasWp_bind]
 refine Zhw hcmp (N - (n+1)) p (n+1) 0 hp (by omega) (by omega) (by omega) hs (fun i a b=>by rw [show i=n+1 - 1 by omega]) fun p' m r hp' h1 hm hr hs' he=>?_
 dsimp only
 have hz:=hp'.size
 split
 ·have same:∀ k,KP key (kas_rev p' (m - (r+1)) m) k=KP key p' k:=fun k=>by
   rw [Zja (by omega)]
   split
   ·rw [he _ (by omega) (by omega),he k (by omega) (by omega)]
   ·rfl
  exact Zk0 hcmp (hp'.rev _ _) h1 hm (fun i j hij hj=>by rw [same,same]; exact hs' i j hij hj) hG
 ·exact Zk0 hcmp hp' h1 hm hs' hG
theorem count_ok {p:Array Nat} (hp:PermN N p) (h1:1≤N) {G:Nat × Array Nat→Shared→Prop} (hG:∀ m q,1≤m→m≤N→PermN N q→SrtK key q m→G (m,q) s):(kas_count N p).kasWp cmp G s:=by
 unfold kas_count
 rw [KasT.kasWp_bind]
 have hz:=hp.size
 refine asc_ok hcmp hp (N - 1) 1 (Nat.le_refl _) (by omega) (fun i j hij hj=>by rw [show i=j by omega]; exact Int.le_refl _) fun m a b c d=>?_
 split
 ·exact hG m p a (by omega) hp c
 ·rename_i hne
  have hm:m < N:=by
   have:m≠N:=fun e=>hne (by rw [e]; exact beq_self_eq_true _)
   omega
  have hd:=d (by omega)
  split
  ·show cmp _ _ _ s
   refine hcmp _ _ _ (hp.lt (by omega)) (hp.lt (by omega)) ?_
   by_cases h:key (p.getD 0 0) < key (p.getD (m - 1) 0)
   ·rw [decide_eq_true h]
    simp only [if_true]
    exact hG m p a (by omega) hp c
   ·rw [decide_eq_false h]
    simp only [Bool.false_eq_true,if_false]
    have h':KP key p (m - 1)≤KP key p 0:=by unfold KP; omega
    have eqs:∀ i,i < m→KP key p i=KP key p 0:=fun i hi=>Int.le_antisymm (Int.le_trans (c i (m - 1) (by omega) (by omega)) h') (c 0 i (by omega) hi)
    have same:∀ k,KP key (kas_rev p 0 m) k=KP key p k:=fun k=>by
     rw [Zja (by omega)]
     split
     ·rw [eqs _ (by omega),eqs k (by omega)]
     ·rfl
    refine Zfy hcmp (hp.rev 0 m) (by omega) (Zhl (fun i j hij hj=>?_) a ?_) hG
    ·rw [same,same,eqs i (by omega),eqs j (by omega)]; exact Int.le_refl _
    ·rw [same,same]; omega
  ·have em:m=1:=by omega
   subst em
   exact Zfy hcmp hp (by omega) (Zhl (fun i j hij hj=>by rw [show i=j by omega]; exact Int.le_refl _) (Nat.le_refl _) (by omega)) hG
theorem Zhe {p:Array Nat} (hp:PermN N p) {k:Nat} (hk:k < N) (hs:SrtK key p k) {G:Nat→Shared→Prop} (hG:∀ l,l≤k→(∀ i,i < l→KP key p i≤KP key p k)→(∀ i,l≤i→i < k→KP key p k < KP key p i)→G l s) :
  ∀ (f l r:Nat),r - l≤f→l≤r→r≤k→(∀ i,i < l→KP key p i≤KP key p k)→(∀ i,r≤i→i < k→KP key p k < KP key p i)→(kas_place p k f l r).kasWp cmp G s
 | 0,l,r,hf,hlr,hr,ha,hb=>hG l (by omega) ha fun i h1 h2=>hb i (by omega) h2
 | f+1,l,r,hf,hlr,hr,ha,hb=>by
  unfold kas_place
  split
  ·exact hG l (by omega) ha fun i h1 h2=>hb i (by omega) h2
  ·show cmp _ _ _ s
   refine hcmp _ _ _ (hp.lt hk) (hp.lt (by omega)) ?_
   by_cases h:key (p.getD k 0) < key (p.getD ((l+r) / 2) 0)
   ·rw [decide_eq_true h]
    simp only [if_true]
    refine Zhe hp hk hs hG f l ((l+r) / 2) (by omega) (by omega) (by omega) ha fun i h1 h2=>?_
    exact Int.lt_of_lt_of_le h (hs _ i h1 h2)
   ·rw [decide_eq_false h]
    simp only [Bool.false_eq_true,if_false]
    refine Zhe hp hk hs hG f ((l+r) / 2+1) r (by omega) (by omega) hr (fun i h1=>?_) hb
    have h2:=hs i ((l+r) / 2) (by omega) (by omega)
    have h3:KP key p ((l+r) / 2)≤KP key p k:=by unfold KP; omega
    omega
theorem bin_ok {G:Array Nat→Shared→Prop} (hG:∀ q,PermN N q→SrtK key q N→G q s):∀ (f:Nat) (p:Array Nat) (k:Nat),PermN N p→k+f=N→SrtK key p k→(kas_bin f p k).kasWp cmp G s
 | 0,p,k,hp,hk,hs=>hG p hp (by rw [← hk]; exact hs)
 | f+1,p,k,hp,hk,hs=>by
  unfold kas_bin
  rw [KasT.kasWp_bind]
  have hz:=hp.size
  refine Zhe hcmp hp (by omega) hs (fun l hl ha hb=>?_) k 0 k (by omega) (by omega) (Nat.le_refl _) (fun i h=>absurd h (by omega)) fun i h1 h2=>absurd h1 (by omega)
  refine bin_ok hG f _ (k+1) (hp.bub _ _) (by omega) fun i j hij hj=>?_
  rw [Zjb (by omega) (by omega),Zjb (by omega) (by omega),show k - (k - l)=l by omega]
  by_cases i1:i=l
  ·rw [if_pos i1]
   by_cases j1:j=l
   ·rw [if_pos j1]; exact Int.le_refl _
   ·rw [if_neg j1,if_pos (by omega)]
    exact Int.le_of_lt (hb _ (by omega) (by omega))
  ·rw [if_neg i1]
   by_cases i2:l < i∧i≤k
   ·rw [if_pos i2,if_neg (by omega),if_pos (by omega)]
    exact hs _ _ (by omega) (by omega)
   ·rw [if_neg i2]
    by_cases j1:j=l
    ·rw [if_pos j1]; exact ha i (by omega)
    ·rw [if_neg j1]
     by_cases j2:l < j∧j≤k
     ·rw [if_pos j2]; exact hs _ _ (by omega) (by omega)
     ·rw [if_neg j2]; exact hs _ _ hij (by omega)
theorem Zj9 (h1:1≤N) {G:Array Nat→Shared→Prop} (hG:∀ q:Array Nat,PermN N q→(q.toList.map key).Pairwise (·≤·)→G q s):(kas_sort N).kasWp cmp G s:=by
 have p0:PermN N (List.toArray (List.range N)):=by show List.Perm _ _; simp
 have hG':∀ q,PermN N q→SrtK key q N→G q s:=fun q hq hs=>hG q hq (by
  have hz:=hq.size
  rw [List.pairwise_iff_getElem]
  intro i j hi hj hij
  have hi':i < q.size:=by simpa using hi
  have hj':j < q.size:=by simpa using hj
  have:=hs i j (by omega) (by omega)
  unfold KP at this
  rw [show q.getD i 0=q[i] by simp [Array.getD,hi'],show q.getD j 0=q[j] by simp [Array.getD,hj']] at this
  simpa using this)
 unfold kas_sort
 rw [KasT.kasWp_bind]
 refine count_ok hcmp p0 h1 fun m q hm1 hm2 hq hs=>?_
 dsimp only
 split
 ·exact bin_ok hcmp hG' _ q _ hq (by omega) (by rw [show max m 1=m by omega]; exact hs)
 ·exact hG' q hq (by rw [show N=m by omega]; exact hs)
end
end L2
namespace L2
open PySem PySem.Spec PyProof.Rows PySem.W
section
variable {prog:Program} {w:World} {A:Around} {E:Value→Shared→Prop} {s:Shared}
def Zci (h:Heap) (a:Addr) (vs:List Value):Heap:=((h.update a (Obj.mapSeq fun _=>#[])).push (seqObj "tuple" vs.toArray 0)).push (seqObj "list" #[] 0)
theorem Zin {h:Heap} {a b:Addr} {vs:List Value} {o:Obj} (hb:b≠a) (e:h.get? b=some o):(Zci h a vs).get? b=some o:=by
 unfold Zci
 exact Heap.get?_push_of_some _ (Heap.get?_push_of_some _ (by rw [Heap.get?_update_ne _ _ _ _ hb]; exact e))
theorem Zk6 (vs:List Value):(List.range vs.length).map (fun i=>vs.getD i Value.none)=vs:=by
 apply List.ext_getElem?
 intro i
 rw [List.getElem?_map]
 by_cases h:i < vs.length
 ·rw [List.getElem?_range h,Option.map_some,List.getD_eq_getElem?_getD,List.getElem?_eq_getElem h]; rfl
 ·rw [List.getElem?_eq_none (by simpa using h),List.getElem?_eq_none (by omega)]; rfl
theorem Zfr {a:Addr} {vs:List Value} {n:Nat} {P:PySem.Fin→Shared→Prop} {κ:SortKind} {key:Nat→Int} (ho:s.heap.get? a=some (seqObj "list" vs.toArray n)) (h64:vs.length < 64)
  (hK:∀ (Q:SortKind→Shared→Prop) (E:Value→Shared→Prop),2≤vs.length→Q κ { s with heap:=Zci s.heap a vs }→wpAny (model prog w) A (keyKind' vs.toArray) Q E { s with heap:=Zci s.heap a vs })
  (hL:∀ i j (C:Bool→Shared→Prop),i < vs.length→j < vs.length→C (decide (key i < key j)) { s with heap:=Zci s.heap a vs } →
   wpAny (model prog w) A (keyLt' κ (vs.getD i Value.none) (vs.getD j Value.none)) C (fun _ _=>False) { s with heap:=Zci s.heap a vs })
  (h:∀ q:Array Nat,PermN vs.length q→(q.toList.map key).Pairwise (·≤·)→P (.done (.ret .none)) { s with heap:=sortedHeap s.heap a vs (List.toArray (q.toList.map fun i=>vs.getD i Value.none)) }) :
  wpAny (model prog w) A (Builtin.«list.sort» ⟨[.ref a],[]⟩) P E s:=by
 rw [list_sort_plain]
 have ha:a < s.heap.objs.size:=Heap.lt_size ho
 refine wpAny_bind (listItems_at ho rfl ?_)
 refine wpAny_bind (listUpdate_at ho rfl ?_ (by rw [List.size_toArray,sizeLine_eq]; omega) (Nat.zero_le _))
 obtain ⟨e1,ho1⟩:∃ e1,(s.heap.update a (Obj.mapSeq fun _=>#[])).get? a=some (seqObj "list" #[] e1):=⟨_,get?_update_seq ho (fun _=>#[])⟩
 refine wpAny_bind (seqEpoch_at ho1 rfl ?_)
 refine wpAny_bind (wpAny_newTuple ?_ (by show vs.length≤_; rw [sizeLine_eq]; omega))
 refine wpAny_bind (wpAny_newList ?_ (Nat.zero_le _))
 refine wpAny_holding ?_
 have ho6:(Zci s.heap a vs).get? a=some (seqObj "list" #[] e1):=by
  unfold Zci
  rw [Heap.get?_push_ne _ _ _ (by rw [size_push',Heap.size_update]; exact Nat.ne_of_lt (Nat.lt_succ_of_lt ha)),Heap.get?_push_ne _ _ _ (by rw [Heap.size_update]; exact Nat.ne_of_lt ha)]
  exact ho1
 show wpAny (model prog w) A _ P E { s with heap:=Zci s.heap a vs }
 dsimp only
 have hsz:vs.toArray.size=vs.length:=by simp
 by_cases h2:vs.toArray.size < 2
 ·rw [if_pos h2,if_pos h2]
  refine wpAny_bind (wpAny_pure ?_)
  rw [StateT.run_pure]
  refine wpAny_bind (wpAny_pure ?_)
  dsimp only
  refine wpAny_bind (seqEpoch_at ho6 rfl ?_)
  refine wpAny_bind (listUpdate_at ho6 rfl ?_ (Nat.zero_le _) (by rw [Array.size_map]; show (pairsOf vs).size≤_; rw [pairsOf_size,sizeLine_eq]; omega))
  simp only [bne_self_eq_false,Bool.false_eq_true,if_false]
  have hh:=h (List.toArray (List.range vs.length)) (by show List.Perm _ _; simp) (by
   rw [hsz] at h2
   rcases (by omega:vs.length=0∨vs.length=1) with e | e <;> rw [e] <;> simp [List.range_succ])
  have e3:List.map (fun i=>vs.getD i Value.none) (List.range vs.length).toArray.toList=vs:=Zk6 vs
  rw [e3] at hh
  have e2:(arrOf (SortSt.mk' general' (vs.toArray.zip vs.toArray) #[] 7 none)).map (·.2)=vs.toArray:=by
   show (vs.toArray.zip vs.toArray).map (·.2)=vs.toArray
   apply Array.ext'
   simp [List.map_snd_zip]
  refine wpAny_pure ?_
  rw [e2]
  exact hh
 ·rw [if_neg h2,if_neg h2]
  have h2':2≤vs.length:=by omega
  refine wpAny_bind (hK _ _ h2' ?_)
  refine wpAny_bind (wpAny_mono (kat_run (ks:=vs) (vs:=vs) (Q:=fun st' s'=>s'={ s with heap:=Zci s.heap a vs }∧∃ p:Array Nat,p.size=vs.length∧arrOf st'=p.map (kas_item (vs.toArray.zip vs.toArray))∧failedOf st'=none∧PermN vs.length p∧(p.toList.map key).Pairwise (·≤·))
   (G:=fun p s'=>s'={ s with heap:=Zci s.heap a vs }∧PermN vs.length p∧(p.toList.map key).Pairwise (·≤·)) rfl h2' h64 (fun p st' s' a1 a2 a3 a4=>⟨a4.1,p,a1,a2,a3,a4.2⟩)
   (Zj9 (fun i j C hi hj hC=>hL i j C hi hj hC) (by omega) fun q hq hp=>⟨rfl,hq,hp⟩)) ?_ fun _ _ e=>e)
  rintro ⟨⟨⟩,st'⟩ s' ⟨rfl,p,hp,har,hf,pp,ps⟩
  dsimp only
  have hout:=kat_snds rfl har
  have hsz2:(List.toArray (p.toList.map fun i=>vs.getD i Value.none)).size=vs.length:=by rw [List.size_toArray,List.length_map,Array.length_toList,hp]
  rw [hout]
  refine wpAny_bind (seqEpoch_at ho6 rfl ?_)
  refine wpAny_bind (listUpdate_at ho6 rfl ?_ (Nat.zero_le _) (Nat.le_trans (Nat.le_of_eq hsz2) (by rw [sizeLine_eq]; omega)))
  rw [hf]
  simp only [bne_self_eq_false,Bool.false_eq_true,if_false]
  exact wpAny_pure (h p pp ps)
end
section
variable {X:Cx}
theorem Zdv:∀ {ts:List Addr} {its:List Value},Vals (ts.map V.ref) its→its=ts.map Value.ref
 | [],_,.nil=>rfl
 | a :: r,_,.cons h t=>by
  cases (show _=Value.ref a from h)
  rw [List.map_cons,Zdv t]
theorem Zgn:∀ (ts:List Addr),Vals (ts.map V.ref) (ts.map Value.ref)
 | []=>.nil
 | a :: r=>.cons rfl (Zgn r)
end
end L2
namespace L2
open PySem PySem.Spec PyProof.Rows
section
variable {κ:Type} [DecidableEq κ]
def valV (kvs:List (κ × V)) (k:κ):Option V:=(kvs.find? fun kv=>decide (kv.1=k)).map (·.2)
def putK (kvs:List (κ × V)) (k:κ) (v:V):List (κ × V) :=
 if (kvs.any fun kv=>decide (kv.1=k))=true then kvs.map (fun kv=>if kv.1=k then (kv.1,v) else kv) else kvs++[(k,v)]
theorem Zex {p:κ × V} {r:List (κ × V)} {k:κ} (e:p.1=k):valV (p :: r) k=some p.2:=by simp [valV,List.find?_cons,e]
theorem Zey {p:κ × V} {r:List (κ × V)} {k:κ} (e:¬ p.1=k):valV (p :: r) k=valV r k:=by simp [valV,List.find?_cons,e]
theorem Zkv (k:κ):∀ kvs:List (κ × V),(kvs.any fun kv=>decide (kv.1=k))=(valV kvs k).isSome
 | []=>rfl
 | p :: r=>by
  rw [List.any_cons]
  by_cases e:p.1=k
  ·simp only [Zex e,decide_eq_true e,Bool.true_or,Option.isSome_some]
  ·rw [Zey e,decide_eq_false e,Bool.false_or]; exact Zkv k r
theorem Zfs (kvs:List (κ × V)) (k:κ) (v:V):(putK kvs k v).length≤kvs.length+1:=by
 unfold putK
 split
 ·rw [List.length_map]; omega
 ·rw [List.length_append,List.length_cons,List.length_nil]; omega
theorem RelO.isSome_eq {o:Option V} {u:Option Value} (r:RelO o u):o.isSome=u.isSome:=by
 cases o with
 | none=>cases u with
  | none=>rfl
  | some _=>exact (show False from r).elim
 | some _=>cases u with
  | none=>exact (show False from r).elim
  | some _=>rfl
theorem KV.val {kvs:List (κ × V)} {vs:List (κ × Value)} (r:KV kvs vs) (k:κ):RelO (valV kvs k) (valueAt vs k):=by
 unfold KV at r
 induction r with
 | nil=>exact True.intro
 | @cons p q ps qs h t ih =>
  obtain ⟨h1,h2⟩:=h
  by_cases e:p.1=k
  ·have e':q.1=k:=h1.symm.trans e
   have b:valueAt (q :: qs) k=some q.2:=by simp [valueAt,List.find?_cons,e']
   rw [Zex e,b]; exact h2
  ·have e':¬ q.1=k:=fun z=>e (h1.trans z)
   have b:valueAt (q :: qs) k=valueAt qs k:=by simp [valueAt,List.find?_cons,e']
   rw [Zey e,b]; exact ih
theorem KV.any {kvs:List (κ × V)} {vs:List (κ × Value)} (r:KV kvs vs) (k:κ):(kvs.any fun kv=>decide (kv.1=k))=vs.any fun kv=>decide (kv.1=k):=by
 unfold KV at r
 induction r with
 | nil=>rfl
 | cons h t ih=>rw [List.any_cons,List.any_cons,ih,h.1]
theorem KV.repl {kvs:List (κ × V)} {vs:List (κ × Value)} (r:KV kvs vs) (k:κ) {y:V} {u:Value} (ry:RelV y u) :
  KV (kvs.map fun kv=>if kv.1=k then (kv.1,y) else kv) (vs.map fun kv=>if kv.1=k then (kv.1,u) else kv):=by
 unfold KV at r ⊢
 induction r with
 | nil=>exact .nil
 | @cons p q ps qs h t ih =>
  rw [List.map_cons,List.map_cons]
  refine .cons ?_ ih
  obtain ⟨h1,h2⟩:=h
  by_cases e:p.1=k
  ·rw [if_pos e,if_pos (h1.symm.trans e)]; exact ⟨h1,ry⟩
  ·rw [if_neg e,if_neg (fun z=>e (h1.trans z))]; exact ⟨h1,h2⟩
theorem KV.put {kvs:List (κ × V)} {vs:List (κ × Value)} (r:KV kvs vs) (k:κ) {y:V} {u:Value} (ry:RelV y u):KV (putK kvs k y) (stored vs k u):=by
 unfold putK stored
 rw [r.any k]
 by_cases e:(vs.any fun kv=>decide (kv.1=k))=true
 ·rw [if_pos e,if_pos e]; exact r.repl k ry
 ·rw [if_neg e,if_neg e]; exact Paired.snoc r ⟨rfl,ry⟩
theorem KV.length {kvs:List (κ × V)} {vs:List (κ × Value)} (r:KV kvs vs):kvs.length=vs.length:=Paired.length r
end
theorem kV_is {P:Program} {w:World} {k:Key} {u:Value} (r:RelV (kV k) u):(Zbn P w).is k u=true:=by
 cases k with
 | inl i=>obtain ⟨t,e⟩:=(show ∃ t,u=Value.int i t from r); subst e; exact Zj7 P w i t
 | inr x=>obtain ⟨t,e⟩:=(show ∃ t,u=Value.str x t from r); subst e; exact Zj6 P w x t
theorem Ziq {P:Program} {w:World}:∀ {ks:List Key} {us:List Value},Vals (ks.map kV) us→ItemsAre (Zbn P w) ks us
 | [],_,r=>by rw [List.map_nil] at r; cases r; exact .nil
 | k :: ks,_,r=>by
  rw [List.map_cons] at r
  cases r with
  | cons h t=>exact .cons (kV_is h) (Ziq t)
abbrev KT (H:Hp):List (List Key × V)→List (List Key × Addr × Value)→Prop:=Paired fun p q=>p.1=q.1∧H q.2.1=some (.tup (p.1.map kV))∧RelV p.2 q.2.2
theorem KT.val {H:Hp} {kvs:List (List Key × V)} {xs:List (List Key × Addr × Value)} (r:KT H kvs xs) (k:List Key):RelO (valV kvs k) ((atKey xs k).map (·.2)):=by
 induction r with
 | nil=>exact True.intro
 | @cons p q ps qs h t ih =>
  obtain ⟨h1,_,h2⟩:=h
  by_cases e:p.1=k
  ·have e':q.1=k:=h1.symm.trans e
   have b:atKey (q :: qs) k=some q.2:=by simp [atKey,List.find?_cons,e']
   rw [Zex e,b]; exact h2
  ·have e':¬ q.1=k:=fun z=>e (h1.trans z)
   have b:atKey (q :: qs) k=atKey qs k:=by simp [atKey,List.find?_cons,e']
   rw [Zey e,b]; exact ih
theorem KT.repl {H:Hp} {kvs:List (List Key × V)} {xs:List (List Key × Addr × Value)} (r:KT H kvs xs) (k:List Key) {y:V} {u:Value} (ry:RelV y u) :
  KT H (kvs.map fun kv=>if kv.1=k then (kv.1,y) else kv) (xs.map (putAt k u)):=by
 induction r with
 | nil=>exact .nil
 | @cons p q ps qs h t ih =>
  rw [List.map_cons,List.map_cons]
  refine .cons ?_ ih
  obtain ⟨h1,h2,h3⟩:=h
  unfold putAt
  by_cases e:p.1=k
  ·rw [if_pos e,if_pos (h1.symm.trans e)]; exact ⟨h1,h2,ry⟩
  ·rw [if_neg e,if_neg (fun z=>e (h1.trans z))]; exact ⟨h1,h2,h3⟩
theorem KT.put {H:Hp} {kvs:List (List Key × V)} {xs:List (List Key × Addr × Value)} (r:KT H kvs xs) (k:List Key) {b:Addr} {y:V} {u:Value} (hb:H b=some (.tup (k.map kV))) (ry:RelV y u) :
  KT H (putK kvs k y) (storedH xs k b u):=by
 have e:(kvs.any fun kv=>decide (kv.1=k))=(atKey xs k).isSome:=by
  rw [Zkv,(r.val k).isSome_eq,Option.isSome_map]
 unfold putK storedH
 rw [e]
 by_cases q:(atKey xs k).isSome=true
 ·rw [if_pos q,if_pos q]; exact r.repl k ry
 ·rw [if_neg q,if_neg q]; exact Paired.snoc r ⟨rfl,hb,ry⟩
theorem KT.keeps {H H':Hp} {kvs:List (List Key × V)} {xs:List (List Key × Addr × Value)} (r:KT H kvs xs) (ht:∀ b ys,H b=some (.tup ys)→H' b=some (.tup ys)):KT H' kvs xs :=
 Paired.mapP r fun _ _ z=>⟨z.1,ht _ _ z.2.1,z.2.2⟩
section
variable {P:Program} {w:World} {H:Hp} {h:Heap} {a:Addr}
theorem rd_of {u:HO} (ok:HOk P w H h) (e:Rd H a u):ObjOk P w H h a u:=e.ok ok
theorem dk_rd {kvs:List (Key × V)} (ok:HOk P w H h) (e:Rd H a (.dK kvs)):kvs.length≤sizeLine∧(a == sysModules)=false∧∃ vs,KV kvs vs∧h.DictOf (Zbn P w) a vs :=
 show ObjOk P w H h a (.dK kvs) from rd_of ok e
theorem dk_of {kvs:List (Key × V)} (ok:HOk P w H h) (e:H a=some (.dK kvs)):kvs.length≤sizeLine∧(a == sysModules)=false∧∃ vs,KV kvs vs∧h.DictOf (Zbn P w) a vs:=dk_rd ok (.inl e)
theorem key_of {ks:List Key} (ok:HOk P w H h) (e:H a=some (.tup (ks.map kV))):(tupleKind (Zbn P w)).is h ks a:=by
 obtain ⟨_,its,r,o,h1,h2,n,h3⟩:=(show ObjOk P w H h a (.tup (ks.map kV)) from ok a _ e)
 exact ⟨o,its.toArray,n,h1,h2,h3,by simpa using Ziq r⟩
theorem dt_rd {kvs:List (List Key × V)} (ok:HOk P w H h) (e:Rd H a (.dT kvs)):kvs.length≤sizeLine∧(a == sysModules)=false ∧
  ∃ xs,KT H kvs xs∧h.DictOfH (tupleKind (Zbn P w)) a xs:=by
 obtain ⟨z,y,xs,r,o,es,ep,h1,h2,h3,h4,h5⟩:=(show ObjOk P w H h a (.dT kvs) from rd_of ok e)
 refine ⟨z,y,xs,r,o,es,ep,h1,h2,h3,h4,fun x hx=>?_,h5⟩
 have all:∀ {l:List (List Key × V)} {m:List (List Key × Addr × Value)},KT H l m→∀ x∈m,(tupleKind (Zbn P w)).is h x.1 x.2.1:=by
  intro l m q
  induction q with
  | nil=>intro x hx; exact nomatch hx
  | @cons p q ps qs hq t ih =>
   intro x hx
   rcases List.mem_cons.mp hx with e | hx
   ·subst e
    exact key_of ok (by rw [← hq.1]; exact hq.2.1)
   ·exact ih x hx
 exact all r x hx
theorem dt_of {kvs:List (List Key × V)} (ok:HOk P w H h) (e:H a=some (.dT kvs)):kvs.length≤sizeLine∧(a == sysModules)=false ∧
  ∃ xs,KT H kvs xs∧h.DictOfH (tupleKind (Zbn P w)) a xs:=dt_rd ok (.inl e)
end
def DGet (H:Hp) (a:Addr) (y:V) (r:Option V):Prop :=
 (∃ kvs k,Rd H a (.dK kvs)∧y=kV k∧r=valV kvs k)∨∃ kvs k b,Rd H a (.dT kvs)∧y=.ref b∧H b=some (.tup (k.map kV))∧r=valV kvs k
def DPut (H:Hp) (a:Addr) (y v:V) (H':Hp):Prop :=
 (∃ kvs k,H a=some (.dK kvs)∧y=kV k∧kvs.length < sizeLine∧H'=upd H a (.dK (putK kvs k v))) ∨
 ∃ kvs k b,H a=some (.dT kvs)∧y=.ref b∧H b=some (.tup (k.map kV))∧kvs.length < sizeLine∧H'=upd H a (.dT (putK kvs k v))
theorem DGet.t {H:Hp} {a b:Addr} {kvs:List (List Key × V)} {k:List Key} (e:H a=some (.dT kvs)) (eb:H b=some (.tup (k.map kV))):DGet H a (.ref b) (valV kvs k):=.inr ⟨kvs,k,b,.inl e,rfl,eb,rfl⟩
theorem DPut.t {H:Hp} {a b:Addr} {kvs:List (List Key × V)} {k:List Key} {v:V} (e:H a=some (.dT kvs)) (eb:H b=some (.tup (k.map kV))) (hl:kvs.length < sizeLine) :
  DPut H a (.ref b) v (upd H a (.dT (putK kvs k v))):=.inr ⟨kvs,k,b,e,rfl,eb,hl,rfl⟩
section
variable {X:Cx} {pins:List (Addr × Obj)} {σ:St} {H:Hp} {s:Shared} {a:Addr} {y v:V} {u r:Value} {o:Option V} {A:Around} {E:Value→Shared→Prop}
theorem Inv.big (I:Inv X pins σ H s):sysModules < s.heap.objs.size:=by
 have h:mainGlobals < s.heap.objs.size:=(I.mod.glob.keeps I.bk).lt
 exact Nat.lt_trans (by decide) h
theorem d_getItem {Q:Value→Shared→Prop} (hu:A.units+1 < cLine) (I:Inv X pins σ H s) (g:DGet H a y (some v)) (ry:RelV y u) (h:∀ w' s',Inv X pins σ H s'→RelV v w'→Q w' s') :
  wpAny (model X.prog X.w) A (getItem (.ref a) u) Q E s:=by
 rcases g with ⟨kvs,k,e,ey,l⟩ | ⟨kvs,k,b,e,ey,eb,l⟩
 ·subst ey
  obtain ⟨z,hd,vs,rel,dd⟩:=dk_rd I.hok e
  obtain ⟨w',hw,rw'⟩:=RelO.some_of (v:=v) (o:=valueAt vs k) (by rw [l]; exact rel.val k)
  exact wpAny_getItem_of (kV_is ry) dd.mapOf hw (h w' _ (I.tok _) rw')
 ·subst ey
  cases (show u=Value.ref b from ry)
  obtain ⟨z,hd,xs,rel,dd⟩:=dt_rd I.hok e
  obtain ⟨w',hw,rw'⟩:=RelO.some_of (v:=v) (o:=(atKey xs k).map (·.2)) (by rw [l]; exact rel.val k)
  obtain ⟨p,hp,hp2⟩:=Option.map_eq_some_iff.mp hw
  refine wpAny_getItem_heap (tupleKind_room_in1 hu) (key_of I.hok eb) dd hp ?_
  rw [hp2]
  exact h w' _ (I.tok _) rw'
theorem Zke {h':Heap} {t':Nat} {ob:HO} (I:Inv X pins σ H s) (mu:Mut (H a)) (hs:Heap.SameBut a s.heap h') (he:∃ q,h'.get? a=some q) (new:ObjOk X.prog X.w (upd H a ob) h' a ob) :
  Inv X pins σ (upd H a ob) { s with heap:=h',toks:=t' } :=
 I.write (x:=a) (e:=a) mu (.inl rfl) (fun b q hb z=>(hs.2 b hb).trans z) he new
theorem dk_new {P:Program} {w:World} {H':Hp} {h':Heap} {kvs:List (Key × V)} {vs:List (Key × Value)} (z:kvs.length≤sizeLine) (hd:(a == sysModules)=false) (rel:KV kvs vs) (dd:h'.DictOf (Zbn P w) a vs) :
  ObjOk P w H' h' a (.dK kvs):=⟨z,hd,vs,rel,dd⟩
theorem d_setItem {H':Hp} {Q:Unit→Shared→Prop} (hu:A.units+1 < cLine) (I:Inv X pins σ H s) (g:DPut H a y v H') (ry:RelV y u) (rv:RelV v r) (h:∀ s',Inv X pins σ H' s'→Q () s') :
  wpAny (model X.prog X.w) A (setItem (.ref a) u r) Q E s:=by
 rcases g with ⟨kvs,k,e,ey,l,eH⟩ | ⟨kvs,k,b,e,ey,eb,l,eH⟩
 ·subst ey eH
  obtain ⟨z,hd,vs,rel,dd⟩:=dk_of I.hok e
  have hz:vs.length≤sizeLine:=by rw [← rel.length]; exact z
  have hl:(putK kvs k v).length≤sizeLine:=by have:=Zfs kvs k v; omega
  refine wpAny_setItem_pairs (hsz:=hz) (kV_is ry) dd fun h' dd' hs=>h _ ?_
  have he:∃ q,h'.get? a=some q:=let ⟨q,_,_,hq,_⟩:=dd'; ⟨q,hq⟩
  exact Zke I (by rw [e]; exact True.intro) hs he (dk_new hl hd (rel.put k rv) dd')
 ·subst ey eH
  cases (show u=Value.ref b from ry)
  obtain ⟨z,hd,xs,rel,dd⟩:=dt_of I.hok e
  have hz:xs.length≤sizeLine:=by rw [← Paired.length rel]; exact z
  have hl:(putK kvs k v).length≤sizeLine:=by have:=Zfs kvs k v; omega
  refine wpAny_setItem_heap (hsz:=hz) (tupleKind_room_in1 hu) (key_of I.hok eb) dd fun h' dd' hs=>h _ ?_
  obtain ⟨q,es,ep,hq,h2,h3,h4,_,h5⟩:=dd'
  refine Zke I (by rw [e]; exact True.intro) hs ⟨q,hq⟩ ⟨hl,hd,_,(rel.put k eb rv).keeps fun c ys ec=>?_,q,es,ep,hq,h2,h3,h4,h5⟩
  rw [Zag (ne_of ec e (fun z=>nomatch z))]
  exact ec
end
section
variable {X:Cx} {pins:List (Addr × Obj)} {σ:St} {H:Hp} {s:Shared} {a:Addr} {kvs:List (Key × V)} {k:Key} {u:Value} {A:Around} {E:Value→Shared→Prop}
end
def NoSl (i:Expr):Prop:=∀ ov iv,subscripted i false ov iv=operate [ov,iv] (getItem ov iv)
theorem subD_of {prog:Program} {w:World} {A:Around} {E:Value→Shared→Prop} {s:Shared} {env:Env} {value slice:Expr} {pos:Pos} {T id:String} {Q:Value→Shared→Prop}
  (hl:typeLookup (.type T) "__getitem__"=pure (some (.builtin id))) (hs:NoSl slice)
  (h:wpAny (model prog w) A (eval value env) (fun o s₁=>wpAny (model prog w) A (eval slice env) (fun i s₂=>s₂.TypeIs o T∧wpAny (model prog w) A (getItem o i) Q E s₂) E s₁) E s) :
  wpAny (model prog w) A (eval (.Subscript value slice pos) env) Q E s:=by
 refine Subscript_ (wpAny_mono h (fun o s₁ h₁=>wpAny_mono h₁ (fun i s₂ h₂=>?_) fun _ _ x=>x) fun _ _ x=>x)
 obtain ⟨hT,h₂⟩:=h₂
 unfold subscriptTail
 refine wpAny_bind ?_
 rw [getitemInPython_of_ne hT.not_modules]
 refine wpAny_bind (wpAny_specialOf hT hl ?_)
 have fin:wpAny (model prog w) A (subscripted slice false o i) (fun r s₃=>wpAny (model prog w) A (letTemporaryGo value o r >>= fun _=>pure r) Q E s₃) E s₂:=by
  rw [hs o i]
  exact wpAny_operating (wpAny_mono h₂ (fun r s₃ h₃=>wpAny_bind (wpAny_letTemporaryGo (wpAny_pure h₃))) fun _ _ x=>x)
 first
  | exact wpAny_pure (wpAny_bind fin)
  | exact wpAny_bind (wpAny_pure (wpAny_bind fin))
  | exact wpAny_bind fin
theorem Zkc {X:Cx} {pins:List (Addr × Obj)} {σ:St} {H:Hp} {s:Shared} {a:Addr} {y:V} {o:Option V} (I:Inv X pins σ H s) (g:DGet H a y o):s.TypeIs (.ref a) "dict":=by
 rcases g with ⟨kvs,k,e,_,_⟩ | ⟨kvs,k,b,e,_,_,_⟩
 ·obtain ⟨_,_,vs,_,dd⟩:=dk_rd I.hok e
  exact dd.typeIs
 ·obtain ⟨_,_,xs,_,dd⟩:=dt_rd I.hok e
  exact dd.typeIs
def tDGet (td ty:TE):TE:=fun σ H Q=>td σ H fun x H1=>ty σ H1 fun y H2=>∃ a v,x=.ref a∧DGet H2 a y (some v)∧Q v H2
def sDPut (td ty tv:TE):TS:=fun D σ H=>tv σ H fun v H1=>td σ H1 fun x H2=>ty σ H2 fun y H3=>∃ a H4,x=.ref a∧DPut H3 a y v H4∧D.nx σ H4
section
variable {X:Cx} {o i e value:Expr} {pos pos' tpos:Pos} {td ty tv:TE}
theorem pe_dget (hu:X.A.units+1 < cLine) (ho:PE X o td) (hi:PE X i ty) (hs:NoSl i):PE X (.Subscript o i pos) (tDGet td ty):=by
 intro pins s σ H Q I h
 refine subD_of PySem.F.slot_dict_getitem.lookup hs (thn (ho pins s σ H _ I h) fun u s1 ⟨x,H1,I1,rx,q1⟩=>thn (hi pins s1 σ H1 _ I1 q1) fun iv s2 ⟨y,H2,I2,ry,a,v,ex,g,q2⟩=>?_)
 subst ex
 obtain rfl:u=Value.ref a:=rx
 exact ⟨Zkc I2 g,d_getItem hu I2 g ry fun w' s3 I3 rw'=>⟨v,H2,I3,rw',q2⟩⟩
theorem Zjt (hu:X.A.units+1 < cLine) (ho:PE X o td) (hi:PE X i ty) (hv:PE X value tv) (hs:swapsWith value (some (.Subscript o i pos')) pos.line X.env=pure false) :
  PS X (.Assign [.Subscript o i pos'] value pos) (sDPut td ty tv):=by
 intro pins s σ H D I h
 refine wpAny_Assign_Subscript (thn (hv pins s σ H _ I h) fun r s1 ⟨v,H1,I1,rv,q1⟩=>thn (ho pins s1 σ H1 _ I1 q1) fun u s2 ⟨x,H2,I2,rx,q2⟩=>thn (hi pins s2 σ H2 _ I2 q2) fun iv s3 ⟨y,H3,I3,ry,a,H4,ex,g,q3⟩=>?_) hs
 subst ex
 obtain rfl:u=Value.ref a:=rx
 exact d_setItem hu I3 g ry rv fun s4 I4=>⟨σ,H4,I4,q3⟩
end
theorem dt_empty {P:Program} {w:World} {H:Hp} (h:Heap) (hb:sysModules < h.objs.size):ObjOk P w H (h.push { cls:=.type "dict",data:=.dict #[] }) h.objs.size (.dT []) :=
 ⟨Nat.zero_le _,beq_eq_false_iff_ne.mpr (Ne.symm (Nat.ne_of_lt hb)),[],.nil,_,#[],0,Heap.get?_push_size _ rfl,⟨rfl,rfl,rfl⟩,rfl,rfl,List.nodup_nil⟩
section
variable {X:Cx} {pos:Pos}
end
def tPairs:List (TE × TE)→St→Hp→(List (V × V)→Hp→Prop)→Prop
 | [],_,H,Q=>Q [] H
 | (tk,tv) :: r,σ,H,Q=>tk σ H fun x H1=>tv σ H1 fun y H2=>tPairs r σ H2 fun ps H3=>Q ((x,y) :: ps) H3
abbrev VV:List (V × V)→List (Value × Value)→Prop:=Paired fun p q=>RelV p.1 q.1∧RelV p.2 q.2
def PPs (X:Cx) (pos:Pos) (keys:List (Option Expr)) (values:List Expr) (trs:List (TE × TE)):Prop :=
 ∀ (pins:List (Addr × Obj)) (s:Shared) (σ:St) (H:Hp) (Q:List (V × V)→Hp→Prop),Inv X pins σ H s→tPairs trs σ H Q →
  wpAny (model X.prog X.w) X.A (evalPairs (pairTrees keys values X.env pos)) (fun vs s'=>∃ ps H',Inv X pins σ H' s'∧VV ps vs∧Q ps H') X.xe s
theorem pps_nil {X:Cx} {pos:Pos}:PPs X pos [] [] []:=fun pins s σ H Q I h=>pairTrees_nil_walk ⟨[],H,I,.nil,h⟩
theorem pps_cons {X:Cx} {pos:Pos} {k v:Expr} {ks:List (Option Expr)} {vs:List Expr} {tk tv:TE} {trs:List (TE × TE)} (hk:PE X k tk) (hv:PE X v tv) (hr:PPs X pos ks vs trs) :
  PPs X pos (some k :: ks) (v :: vs) ((tk,tv) :: trs):=fun pins s σ H Q I h =>
 pairTrees_cons_walk (thn (hk pins s σ H _ I h) fun u s1 ⟨x,H1,I1,rx,q1⟩=>thn (hv pins s1 σ H1 _ I1 q1) fun w2 s2 ⟨y,H2,I2,ry,q2⟩ =>
  thn (hr pins s2 σ H2 _ I2 q2) fun ws s3 ⟨ps,H3,I3,rel,q3⟩=>⟨(x,y) :: ps,H3,I3,.cons ⟨rx,ry⟩ rel,q3⟩)
def IsD (H:Hp) (a:Addr):Prop:=(∃ kvs,Rd H a (.dK kvs))∨∃ kvs,Rd H a (.dT kvs)
theorem isD_at {X:Cx} {pins:List (Addr × Obj)} {σ:St} {H:Hp} {s:Shared} {a:Addr} (I:Inv X pins σ H s) (d:IsD H a) :
  s.TypeIs (.ref a) "dict"∧(∀ b,Value.ref a=.ref b→∃ ob,s.heap.get? b=some ob∧ob.dict=none)∧(a == sysModules)=false:=by
 rcases d with ⟨kvs,e⟩ | ⟨kvs,e⟩
 ·obtain ⟨_,hd,vs,_,dd⟩:=dk_rd I.hok e
  refine ⟨dd.typeIs,fun b q=>?_,hd⟩
  cases q
  obtain ⟨ob,_,_,h1,h2,_⟩:=dd
  exact ⟨ob,h1,h2.2.1⟩
 ·obtain ⟨_,hd,xs,_,dd⟩:=dt_rd I.hok e
  refine ⟨dd.typeIs,fun b q=>?_,hd⟩
  cases q
  obtain ⟨ob,_,_,h1,h2,_⟩:=dd
  exact ⟨ob,h1,h2.2.1⟩
section
variable {X:Cx} {pins:List (Addr × Obj)} {σ:St} {H:Hp} {s:Shared} {a:Addr} {y d:V} {u r:Value} {o:Option V} {A:Around} {E:Value→Shared→Prop}
end
section
variable {X:Cx} {o e f:Expr} {apos cpos:Pos} {td ty tx:TE}
end
section
variable {X:Cx} {pins:List (Addr × Obj)} {σ:St} {H:Hp} {s:Shared} {a:Addr} {kvs:List (Key × V)} {A:Around} {E:Value→Shared→Prop}
end
section
variable {X:Cx} {pins:List (Addr × Obj)} {σ:St} {H:Hp} {s:Shared} {a:Addr} {y:V} {u:Value} {A:Around} {E:Value→Shared→Prop}
end
section
variable {κ:Type} [DecidableEq κ]
end
section
variable {X:Cx}
end
end L2
namespace L2
open PySem PySem.Spec PyProof.Rows
def Ite (K:PySem.W.Frag) (a:Addr):It :=
 ⟨fun i H=>∃ xs x,SqL K H a xs∧xs[i]?=some x,fun i H y H'=>∃ t x,(∀ xs,SqL K H a xs→xs[i]?=some x)∧y=.ref t∧H t=none∧H'=upd H t (.tup [.int i,x]),fun i H=>∃ xs,SqL K H a xs∧xs.length≤i⟩
theorem Ziw {X:Cx} {pins:List (Addr × Obj)} {σ:St} {H:Hp} {s:Shared} {h':Heap} {e it:Addr} {t':Nat} {ys:List V} (I:Inv X pins σ H s) (fe:FpOk X pins H e) (fi:FpOk X pins H it)
  (k:∀ b o,b≠e→b≠it→s.heap.get? b=some o→h'.get? b=some o) (he:∃ o,h'.get? e=some o) (hi:∃ o,h'.get? it=some o)
  (new:ObjOk X.prog X.w (upd H s.heap.objs.size (.tup ys)) h' s.heap.objs.size (.tup ys)) :
  Inv X pins σ (upd H s.heap.objs.size (.tup ys)) { s with heap:=h',toks:=t' }:=by
 have hn:H s.heap.objs.size=none:=I.hok.fresh (Nat.le_refl _)
 obtain ⟨e0,e1,e2,e3,e4,e5⟩:=fe
 obtain ⟨i0,i1,i2,i3,i4,i5⟩:=fi
 have nt:∀ b u,H b=some u→b≠e∧b≠it:=fun b u q=>⟨fun z=>(by rw [z,e0] at q; cases q),fun z=>(by rw [z,i0] at q; cases q)⟩
 have nc:∀ b,b ∉ [e,it]→b≠e∧b≠it:=fun b hb=>⟨fun z=>hb (by simp [z]),fun z=>hb (by simp [z])⟩
 have ne:∀ b u,H b=some u→b≠s.heap.objs.size:=fun b u q=>Zad q hn
 refine I.step (g':=s.gens) (d':=s.drawn) (ch:=[e,it]) (fun b hb=>?_) (fun b o _ _ hc q _=>k b o (nc b hc).1 (nc b hc).2 q) (fun b o _ _ hc q _=>⟨o.slots,k b o (nc b hc).1 (nc b hc).2 q⟩)
  (fun b o _ q n=>by rw [Zag (Nat.ne_of_lt (Heap.lt_size q))]; exact n) (fun b o hc q=>⟨o,k b o (nc b hc).1 (nc b hc).2 q⟩) (fun b xs q=>by rw [Zag (ne b _ q)]; exact q) (fun b o u q=>by rw [Zag (ne b _ q)]; exact q)
  (fun b ps q=>⟨#[],by rw [Zag (ne b _ q),q]; simp⟩) (fun m hm=>?_) (fun b u q=>?_) I.bare
 ·rcases List.mem_cons.mp hb with rfl | hb
  ·exact ⟨e3,e1,e4,e5⟩
  ·rw [List.mem_singleton.mp hb]; exact ⟨i3,i1,i4,i5⟩
 ·obtain ⟨o,es,ep,ho,r⟩:=hm
  exact ⟨o,es,ep,k _ o (Ne.symm e1) (Ne.symm i1) ho,r⟩
 ·by_cases hb:b=s.heap.objs.size
  ·subst hb; rw [upd_same] at q; cases q; exact new
  ·rw [Zag hb] at q
   refine (I.hok b u q).stay (fun c v hc z=>k c v ?_ ?_ z) (fun c z=>by rw [Zag (ne c _ z)]; exact z) fun c xs z=>by rw [Zag (ne c _ z)]; exact z
   ·rcases hc with rfl | hc
    ·exact (nt c u q).1
    ·exact (nt c _ hc).1
   ·rcases hc with rfl | hc
    ·exact (nt c u q).2
    ·exact (nt c _ hc).2
theorem turn_enum {P:Program} {w:World} {K:PySem.W.Frag} {es:List Expr} {k:Nat} {pos:Pos} (a e it:Addr) (hei:e≠it) :
  Turn P w K (.Tuple es k pos) (Ite K a) [e,it] e (fun i h=>(∃ old,IsEnum h e it i old)∧h.IsListIter it a i) where
 mem:=by simp
 obj:=fun i h st b hb=>by
  obtain ⟨⟨old,he⟩,⟨o,eo,c,d⟩⟩:=st
  rcases List.mem_cons.mp hb with rfl | hb
  ·exact ⟨_,he,fun v z=>by
    have z':Data.fields _=Data.cell v:=z
    cases z'⟩
  ·rw [List.mem_singleton.mp hb]; exact ⟨o,eo,fun v z=>by rw [d] at z; cases z⟩
 keep:=fun i h h' st kk=>by
  obtain ⟨⟨old,he⟩,st⟩:=st
  exact ⟨⟨old,kk e (by simp) _ he⟩,st.at fun o z=>kk it (by simp) o z⟩
 item:=by
  intro X hP hw hK hc i pins s σ H E I hf st hg
  subst hP hw hK
  obtain ⟨⟨old,he⟩,st⟩:=st
  obtain ⟨xs,x,hq,hx⟩:=hg
  obtain ⟨its,rv,p,hz⟩:=I.list hq
  obtain ⟨u,hu,ru⟩:=rv.get hx
  have fe:=hf e (by simp)
  have fi:=hf it (by simp)
  refine wpAny_pyNext_enum_item he st p.isList (x:=u) (by simpa using hu) hei fun h' he' st' ht hz' kk=>?_
  refine ⟨_,rfl,?_⟩
  have ltE:e < s.heap.objs.size:=Heap.lt_size he
  have hn:H s.heap.objs.size=none:=I.hok.fresh (Nat.le_refl _)
  have I1:Inv X pins σ (upd H s.heap.objs.size (.tup [.int i,x])) { s with heap:=h',toks:=s.toks+1 }:=by
   refine Ziw I fe fi kk ⟨_,he'⟩ (let ⟨o,eo,_⟩:=st'; ⟨o,eo⟩) ⟨?_,[.int i s.toks,u],.cons ⟨_,rfl⟩ (.cons ru .nil),⟨_,ht,rfl,_,rfl⟩⟩
   show 2≤sizeLine
   decide
  refine wpAny_letOwnedTupleGo_enum (s:={ s with heap:=h',toks:=s.toks+1 }) he' fun h2 he2 sb=>?_
  have neE:e≠s.heap.objs.size:=Nat.ne_of_lt ltE
  have fe2:(upd H s.heap.objs.size (.tup [.int i,x])) e=none:=by rw [Zag neE]; exact fe.1
  have I2:Inv X pins σ (upd H s.heap.objs.size (.tup [.int i,x])) { ({ s with heap:=h',toks:=s.toks+1 }:Shared) with heap:=h2,toks:=s.toks+1 } :=
   I1.turned (t':=s.toks+1) (it:=e) (fun b o hb z=>(sb.2 b hb).trans z) fe2 fe.2.1 fe.2.2.2.1 fe.2.2.2.2.1 fe.2.2.2.2.2
  obtain ⟨oi,hoi,_⟩:=id st
  have ltI:it < s.heap.objs.size:=Heap.lt_size hoi
  refine ⟨.ref s.heap.objs.size,_,I2,rfl,⟨_,x,fun ys hy=>by rw [I.list_inj hy hq]; exact hx,rfl,hn,rfl⟩,⟨⟨u,?_⟩,?_⟩,fun b hb=>?_⟩
  ·have e1:((i+1:Nat):Int)=(i:Int)+1:=by push_cast; rfl
   rw [e1]; exact he2
  ·exact st'.at fun o z=>(sb.2 it (Ne.symm hei)).trans z
  ·rcases List.mem_cons.mp hb with rfl | hb
   ·exact fe2
   ·rw [List.mem_singleton.mp hb,Zag (Nat.ne_of_lt ltI)]; exact fi.1
 done:=by
  intro X hP hw hK hc i pins s σ H E I hf st hg
  subst hP hw hK
  obtain ⟨⟨old,he⟩,st⟩:=st
  obtain ⟨xs,hq,hx⟩:=hg
  obtain ⟨its,rv,p,hz⟩:=I.list hq
  obtain ⟨f0,f1,f2,f3,f4,f5⟩:=hf it (by simp)
  have hl:=rv.length
  exact wpAny_pyNext_enum_end (I.ok.hd hc) he st p.isList (by simp; omega) fun h' eb=>⟨rfl,I.turned (t':=s.toks) (fun b o hb z=>eb b o hb z) f0 f1 f3 f4 f5⟩
 self:=fun _ _ _ _ _ st h=>by
  obtain ⟨⟨old,he⟩,_⟩:=st
  exact wpAny_pyIter_enum he h
def iEnum (K:PySem.W.Frag) (ta:TA):TI:=fun σ H R=>ta σ H fun vs H1=>∃ a,vs=[.ref a]∧(∃ xs,SqL K H1 a xs)∧R (Ite K a) H1
section
variable {X:Cx}
theorem Zju {a:Expr} {es:List Expr} {k:Nat} {tpos:Pos} {ta:TA} {p pos:Pos} (hg:Gl X "enumerate") (hm:X.mg "enumerate"=none) (ha:PA X [a] ta) (hs:starEach [a] X.env=[(false,eval a X.env)]:=by rfl) :
  PI X (.Tuple es k tpos) (.Call (.Name "enumerate" p) [a] [] pos) (iEnum X.K ta):=by
 intro pins s σ H R I h
 refine Call_ (Zgs I hg hm boot_enumerate (PyProof.Rows.callWith_type1 (thn (ha pos pins s σ H _ I h) fun us s1 ⟨vs,H1,I1,r1,q1⟩=>?_) hs rfl))
 obtain ⟨b,e,⟨xs,hq⟩,q⟩:=q1
 subst e
 cases r1 with
 | cons r rr =>
  cases rr
  cases r
  obtain ⟨its,rv,pl,hz⟩:=I1.list hq
  refine call_enumerate_list pl.isList fun h' he hit hsz hk=>?_
  have I2:Inv X pins σ H1 { s1 with heap:=h' }:=I1.kept (t':=s1.toks) hk
  refine wpAny_pyIter_enum (s:={ s1 with heap:=h' }) he ?_
  refine ⟨s1.heap.objs.size+1,[s1.heap.objs.size+1,s1.heap.objs.size],_,_,H1,rfl,I2,turn_enum b _ _ (Nat.succ_ne_self _),⟨⟨_,he⟩,hit⟩,fun c hc=>?_,q⟩
  rcases List.mem_cons.mp hc with rfl | hc
  ·exact I1.fpOk (Nat.le_succ _) (I1.hok.fresh (Nat.le_succ _))
  ·rw [List.mem_singleton.mp hc]; exact I1.fpOk (Nat.le_refl _) (I1.hok.fresh (Nat.le_refl _))
end
theorem for_enum {K:PySem.W.Frag} {a:Addr} {xs:List V} {g:TG} {tb:TS} {D:Ends} {σ:St} {H:Hp} (Pv:Nat→St→Hp→Prop) (h0:Pv 0 σ H) (hl:∀ i σ H,i≤xs.length→Pv i σ H→SqL K H a xs)
  (hs:∀ i x σ H t,xs[i]?=some x→Pv i σ H→H t=none→g (.ref t) σ (upd H t (.tup [.int i,x])) fun σ2 H2=>tb { D with nx:=Pv (i+1),ct:=Pv (i+1),bk:=D.nx } σ2 H2) (hd:∀ σ H,Pv xs.length σ H→D.nx σ H) :
  ∃ W:Nat→Nat→St→Hp→Prop,(∃ m,W 0 m σ H)∧∀ i m σ H,W i m σ H →
   ((Ite K a).stop i H∧D.nx σ H)∨((Ite K a).go i H∧∃ N:St→Hp→Prop,(∀ σ' H',N σ' H'→∃ m',m' < m∧W (i+1) m' σ' H')∧∀ x H',(Ite K a).yld i H x H'→g x σ H' fun σ2 H2=>tb { D with nx:=N,ct:=N,bk:=D.nx } σ2 H2):=by
 refine ⟨fun i m σ H=>m=xs.length - i∧i≤xs.length∧Pv i σ H,⟨xs.length,by simp,Nat.zero_le _,h0⟩,?_⟩
 rintro i m σ H ⟨rfl,hi,p⟩
 have q:=hl i σ H hi p
 by_cases hlt:i < xs.length
 ·refine .inr ⟨⟨xs,xs[i],q,by simp [hlt]⟩,Pv (i+1),fun σ' H' p'=>⟨xs.length - (i+1),by omega,rfl,hlt,p'⟩,fun x H' y=>?_⟩
  obtain ⟨t,z,hz,rfl,ht,rfl⟩:=y
  exact hs i z σ H t (hz xs q) p ht
 ·have e:i=xs.length:=by omega
  subst e
  exact .inl ⟨⟨xs,q,Nat.le_refl _⟩,hd σ H p⟩
end L2
namespace L2
open PySem PySem.Spec PyProof.Rows PySem.SeqAt
mutual
inductive D where
 | at (v:V)
 | tup (xs:Ds)
 | lst (xs:Ds)
inductive Ds where
 | nil
 | cons (d:D) (r:Ds)
end
mutual
def DIs (K:PySem.W.Frag) (H:Hp):D→V→Prop
 | .at u,v=>v=u∧flatV u=true
 | .tup ds,v=>∃ a xs,v=.ref a∧SqT K H a xs∧DIss K H ds xs
 | .lst ds,v=>∃ a xs,v=.ref a∧SqL K H a xs∧DIss K H ds xs
def DIss (K:PySem.W.Frag) (H:Hp):Ds→List V→Prop
 | .nil,xs=>xs=[]
 | .cons d r,xs=>∃ x ys,xs=x :: ys∧DIs K H d x∧DIss K H r ys
end
mutual
def dep:D→Nat
 | .at _=>0
 | .tup ds=>deps ds+1
 | .lst ds=>deps ds+1
def deps:Ds→Nat
 | .nil=>0
 | .cons d r=>max (dep d) (deps r)
end
mutual
def deq:D→D→Bool
 | .at u,.at v=>eqV u v
 | .tup xs,.tup ys=>deqs xs ys
 | .lst xs,.lst ys=>deqs xs ys
 | _,_=>false
def deqs:Ds→Ds→Bool
 | .nil,.nil=>true
 | .cons d r,.cons e q=>deq d e && deqs r q
 | _,_=>false
end
def Ds.len:Ds→Nat
 | .nil=>0
 | .cons _ r=>r.len+1
def Ds.get:Ds→Nat→D
 | .nil,_=>.at .non
 | .cons d _,0=>d
 | .cons _ r,i+1=>r.get i
theorem Zcl:∀ (ds es:Ds),((List.range (min ds.len es.len)).all (fun j=>deq (ds.get j) (es.get j)) && ds.len == es.len)=deqs ds es
 | .nil,.nil=>rfl
 | .nil,.cons e q=>by simp [Ds.len,deqs]
 | .cons d r,.nil=>by simp [Ds.len,deqs]
 | .cons d r,.cons e q=>by
  have ih:=Zcl r q
  rw [show deqs (.cons d r) (.cons e q)=(deq d e && deqs r q) from by rw [deqs],← ih]
  show ((List.range (min (r.len+1) (q.len+1))).all _ && (r.len+1 == q.len+1))=_
  rw [show min (r.len+1) (q.len+1)=min r.len q.len+1 by omega,List.range_succ_eq_map,List.all_cons,List.all_map,Bool.and_assoc]
  congr 1
  rw [show (r.len+1 == q.len+1)=(r.len == q.len) by simp]
  rfl
mutual
theorem Zcm:∀ {K:PySem.W.Frag} {H:Hp} (d:D) {v:V},DIs K H d v→deq d d=true
 | _,_,.at u,v,h=>by
  obtain ⟨_,hf⟩:=(show v=u∧flatV u=true by simpa [DIs] using h)
  rw [deq]
  cases u <;> simp_all [flatV,eqV]
 | _,_,.tup ds,v,h=>by
  rw [DIs] at h
  obtain ⟨a,xs,_,_,q⟩:=h
  rw [deq]; exact Zfz ds q
 | _,_,.lst ds,v,h=>by
  rw [DIs] at h
  obtain ⟨a,xs,_,_,q⟩:=h
  rw [deq]; exact Zfz ds q
theorem Zfz:∀ {K:PySem.W.Frag} {H:Hp} (ds:Ds) {xs:List V},DIss K H ds xs→deqs ds ds=true
 | _,_,.nil,_,_=>by rw [deqs]
 | _,_,.cons d r,xs,h=>by
  rw [DIss] at h
  obtain ⟨x,ys,_,h1,h2⟩:=h
  rw [deqs,Zcm d h1,Zfz r h2]; rfl
end
theorem DIss.len {K:PySem.W.Frag} {H:Hp}:∀ {ds:Ds} {xs:List V},DIss K H ds xs→ds.len=xs.length
 | .nil,xs,h=>by rw [DIss] at h; rw [h]; rfl
 | .cons d r,xs,h=>by
  rw [DIss] at h
  obtain ⟨x,ys,rfl,_,h2⟩:=h
  show r.len+1=ys.length+1
  rw [DIss.len h2]
theorem DIss.get {K:PySem.W.Frag} {H:Hp}:∀ {ds:Ds} {xs:List V} {i:Nat} {x:V},DIss K H ds xs→xs[i]?=some x→DIs K H (ds.get i) x
 | .nil,xs,i,x,h,e=>by rw [DIss] at h; rw [h] at e; simp at e
 | .cons d r,xs,i,x,h,e=>by
  rw [DIss] at h
  obtain ⟨y,ys,rfl,h1,h2⟩:=h
  cases i with
  | zero=>simp at e; subst e; exact h1
  | succ i =>
   show DIs K H (r.get i) x
   exact DIss.get h2 (by simpa using e)
theorem Zhx:∀ (ds:Ds) (i:Nat),i < ds.len→dep (ds.get i)≤deps ds
 | .nil,i,h=>absurd h (by simp [Ds.len])
 | .cons d r,0,_=>by show dep d≤_; rw [deps]; omega
 | .cons d r,i+1,h=>by
  have:=Zhx r i (by simpa [Ds.len] using h)
  show dep (r.get i)≤_
  rw [deps]; omega
section
variable {X:Cx} {pins:List (Addr × Obj)} {σ:St} {H:Hp} {s:Shared}
mutual
theorem DIs.inj (I:Inv X pins σ H s):∀ {d e:D} {v:V},DIs X.K H d v→DIs X.K H e v→d=e
 | .at u,.at w',v,h,h'=>by
  rw [DIs] at h
  rw [DIs] at h'
  rw [← h.1,← h'.1]
 | .at u,.tup ds,v,h,h'=>by
  rw [DIs] at h
  rw [DIs] at h'
  obtain ⟨a,xs,e,_⟩:=h'
  have:=h.2
  rw [← h.1,e] at this
  cases this
 | .at u,.lst ds,v,h,h'=>by
  rw [DIs] at h
  rw [DIs] at h'
  obtain ⟨a,xs,e,_⟩:=h'
  have:=h.2
  rw [← h.1,e] at this
  cases this
 | .tup ds,.at u,v,h',h=>by
  rw [DIs] at h
  rw [DIs] at h'
  obtain ⟨a,xs,e,_⟩:=h'
  have:=h.2
  rw [← h.1,e] at this
  cases this
 | .lst ds,.at u,v,h',h=>by
  rw [DIs] at h
  rw [DIs] at h'
  obtain ⟨a,xs,e,_⟩:=h'
  have:=h.2
  rw [← h.1,e] at this
  cases this
 | .tup ds,.tup es,v,h,h'=>by
  rw [DIs] at h
  rw [DIs] at h'
  obtain ⟨a,xs,rfl,h1,h2⟩:=h
  obtain ⟨b,ys,e,k1,k2⟩:=h'
  cases e
  have e:=I.tuple_inj h1 k1
  subst e
  rw [DIss.inj I h2 k2]
 | .lst ds,.lst es,v,h,h'=>by
  rw [DIs] at h
  rw [DIs] at h'
  obtain ⟨a,xs,rfl,h1,h2⟩:=h
  obtain ⟨b,ys,e,k1,k2⟩:=h'
  cases e
  have e:=I.list_inj h1 k1
  subst e
  rw [DIss.inj I h2 k2]
 | .tup ds,.lst es,v,h,h'=>by
  rw [DIs] at h
  rw [DIs] at h'
  obtain ⟨a,xs,rfl,h1,h2⟩:=h
  obtain ⟨b,ys,e,k1,k2⟩:=h'
  cases e
  obtain ⟨_,_,t1,_⟩:=I.tuple h1
  obtain ⟨_,_,t2,_⟩:=I.list k1
  exact absurd rfl (ne_of_list_tuple t2.isList (show s.heap.IsTuple a _ from t1))
 | .lst ds,.tup es,v,h,h'=>by
  rw [DIs] at h
  rw [DIs] at h'
  obtain ⟨a,xs,rfl,h1,h2⟩:=h
  obtain ⟨b,ys,e,k1,k2⟩:=h'
  cases e
  obtain ⟨_,_,t1,_⟩:=I.tuple k1
  obtain ⟨_,_,t2,_⟩:=I.list h1
  exact absurd rfl (ne_of_list_tuple t2.isList (show s.heap.IsTuple a _ from t1))
theorem DIss.inj (I:Inv X pins σ H s):∀ {ds es:Ds} {xs:List V},DIss X.K H ds xs→DIss X.K H es xs→ds=es
 | .nil,.nil,xs,h,h'=>rfl
 | .nil,.cons d r,xs,h,h'=>by
  rw [DIss] at h
  rw [DIss] at h'
  obtain ⟨x,ys,e,_⟩:=h'
  rw [h] at e; cases e
 | .cons d r,.nil,xs,h',h=>by
  rw [DIss] at h
  rw [DIss] at h'
  obtain ⟨x,ys,e,_⟩:=h'
  rw [h] at e; cases e
 | .cons d r,.cons e q,xs,h,h'=>by
  rw [DIss] at h
  rw [DIss] at h'
  obtain ⟨x,ys,rfl,h1,h2⟩:=h
  obtain ⟨y,zs,e',k1,k2⟩:=h'
  cases e'
  rw [DIs.inj I h1 k1,DIss.inj I h2 k2]
end
theorem Zhr {A:Around} {u:V} {x:Value} {l:Addr} {items:Array Value} (r:RelV u x) (f:flatV u=true) (hl:s.heap.IsTuple l items) (hu:A.units < cLine):EqAt A s x (.ref l) false∧EqAt A s (.ref l) x false:=by
 cases u with
 | non=>cases r; exact ⟨.none_tuple hl hu,.tuple_none hl hu⟩
 | bl b=>cases r; exact ⟨.bool_tuple b hl hu,.tuple_bool b hl hu⟩
 | int b=>obtain ⟨t,rfl⟩:=r; exact ⟨.int_tuple b t hl hu,.tuple_int b t hl hu⟩
 | str b=>obtain ⟨t,rfl⟩:=r; exact ⟨.str_tuple b t hl hu,.tuple_str b t hl hu⟩
 | _=>exact absurd (show false=true from f) Bool.false_ne_true
theorem Zhs {A:Around} {u:V} {x:Value} {l:Addr} {items:Array Value} (r:RelV u x) (f:flatV u=true) (hl:s.heap.IsList l items) (hu:A.units < cLine):EqAt A s x (.ref l) false∧EqAt A s (.ref l) x false:=by
 cases u with
 | non=>cases r; exact ⟨.none_list hl hu,.list_none hl hu⟩
 | bl b=>cases r; exact ⟨.bool_list b hl hu,.list_bool b hl hu⟩
 | int b=>obtain ⟨t,rfl⟩:=r; exact ⟨.int_list b t hl hu,.list_int b t hl hu⟩
 | str b=>obtain ⟨t,rfl⟩:=r; exact ⟨.str_list b t hl hu,.list_str b t hl hu⟩
 | _=>exact absurd (show false=true from f) Bool.false_ne_true
theorem eqAt_D (I:Inv X pins σ H s):∀ (n:Nat) (A:Around) (d e:D) (x y:V) (u v:Value),dep d≤n→DIs X.K H d x→DIs X.K H e y→RelV x u→RelV y v→A.units+n < cLine→EqAt A s u v (deq d e):=by
 intro n
 induction n with
 | zero =>
  intro A d e x y u v hn hd he rx ry hu
  cases d with
  | tup ds=>rw [dep] at hn; omega
  | lst ds=>rw [dep] at hn; omega
  | «at» p =>
   rw [DIs] at hd
   obtain ⟨rfl,hf⟩:=hd
   cases e with
   | «at» q =>
    rw [DIs] at he
    obtain ⟨rfl,hg⟩:=he
    rw [deq]; exact eqAt_V rx ry hf hg
   | tup es =>
    rw [DIs] at he
    obtain ⟨b,ys,rfl,h1,_⟩:=he
    obtain ⟨_,_,t,_⟩:=I.tuple h1
    cases ry
    rw [deq]
    ·exact (Zhr rx hf (show s.heap.IsTuple b _ from t) hu).1
    all_goals (intros; simp_all)
   | lst es =>
    rw [DIs] at he
    obtain ⟨b,ys,rfl,h1,_⟩:=he
    obtain ⟨_,_,t,_⟩:=I.list h1
    cases ry
    rw [deq]
    ·exact (Zhs rx hf t.isList hu).1
    all_goals (intros; simp_all)
 | succ n ih =>
  intro A d e x y u v hn hd he rx ry hu
  have hu1:A.in1.units+n < cLine:=by show A.units+1+n < cLine; omega
  cases d with
  | «at» p =>
   rw [DIs] at hd
   obtain ⟨rfl,hf⟩:=hd
   cases e with
   | «at» q =>
    rw [DIs] at he
    obtain ⟨rfl,hg⟩:=he
    rw [deq]; exact eqAt_V rx ry hf hg
   | tup es =>
    rw [DIs] at he
    obtain ⟨b,ys,rfl,h1,_⟩:=he
    obtain ⟨_,_,t,_⟩:=I.tuple h1
    cases ry
    rw [deq]
    ·exact (Zhr rx hf (show s.heap.IsTuple b _ from t) (by omega)).1
    all_goals (intros; simp_all)
   | lst es =>
    rw [DIs] at he
    obtain ⟨b,ys,rfl,h1,_⟩:=he
    obtain ⟨_,_,t,_⟩:=I.list h1
    cases ry
    rw [deq]
    ·exact (Zhs rx hf t.isList (by omega)).1
    all_goals (intros; simp_all)
  | tup ds =>
   have hd0:=hd
   rw [dep] at hn
   rw [DIs] at hd
   obtain ⟨a,xs,rfl,h1,h2⟩:=hd
   obtain ⟨i1,r1,t1,_⟩:=I.tuple h1
   cases rx
   cases e with
   | «at» q =>
    rw [DIs] at he
    obtain ⟨rfl,hg⟩:=he
    rw [deq]
    ·exact (Zhr ry hg (show s.heap.IsTuple a _ from t1) (by omega)).2
    all_goals (intros; simp_all)
   | lst es =>
    rw [DIs] at he
    obtain ⟨b,ys,rfl,k1,_⟩:=he
    obtain ⟨_,_,t2,_⟩:=I.list k1
    cases ry
    rw [deq]
    ·exact EqAt.tuple_list (show s.heap.IsTuple a _ from t1) t2.isList (by omega)
    all_goals (intros; simp_all)
   | tup es =>
    have he0:=he
    rw [DIs] at he
    obtain ⟨b,ys,rfl,k1,k2⟩:=he
    obtain ⟨i2,r2,t2,_⟩:=I.tuple k1
    cases ry
    by_cases hab:a=b
    ·subst hab
     rw [DIs.inj I he0 hd0,Zcm _ hd0]
     exact EqAt.same _
    ·refine EqAt.of_refs hab ?_
     have:=RcAt.tuples (A:=A) (e:=fun j=>deq (ds.get j) (es.get j)) (show s.heap.IsTuple a i1.toArray from t1) (show s.heap.IsTuple b i2.toArray from t2) (by omega) fun j g1 g2=>?_
     ·have l1:=r1.length
      have l2:=r2.length
      have m1:=h2.len
      have m2:=k2.len
      rw [List.size_toArray,List.size_toArray,← l1,← l2,← m1,← m2,Zcl] at this
      rw [deq]; exact this
     ·have l1:=r1.length
      have l2:=r2.length
      have m1:=h2.len
      have g1':j < xs.length:=by simp at g1; omega
      have g2':j < ys.length:=by simp at g2; omega
      obtain ⟨u1,e1,q1⟩:=r1.get (List.getElem?_eq_getElem g1')
      obtain ⟨u2,e2,q2⟩:=r2.get (List.getElem?_eq_getElem g2')
      have d1:i1.toArray[j]=u1:=by
       have:i1[j]?=some i1.toArray[j]:=by simp
       rw [e1] at this; exact (Option.some.inj this).symm
      have d2:i2.toArray[j]=u2:=by
       have:i2[j]?=some i2.toArray[j]:=by simp
       rw [e2] at this; exact (Option.some.inj this).symm
      rw [d1,d2]
      exact ih _ _ _ _ _ _ _ (Nat.le_trans (Zhx ds j (by omega)) (by omega)) (h2.get (List.getElem?_eq_getElem g1')) (k2.get (List.getElem?_eq_getElem g2')) q1 q2 hu1
  | lst ds =>
   have hd0:=hd
   rw [dep] at hn
   rw [DIs] at hd
   obtain ⟨a,xs,rfl,h1,h2⟩:=hd
   obtain ⟨i1,r1,t1,_⟩:=I.list h1
   cases rx
   cases e with
   | «at» q =>
    rw [DIs] at he
    obtain ⟨rfl,hg⟩:=he
    rw [deq]
    ·exact (Zhs ry hg t1.isList (by omega)).2
    all_goals (intros; simp_all)
   | tup es =>
    rw [DIs] at he
    obtain ⟨b,ys,rfl,k1,_⟩:=he
    obtain ⟨_,_,t2,_⟩:=I.tuple k1
    cases ry
    rw [deq]
    ·exact EqAt.list_tuple t1.isList (show s.heap.IsTuple b _ from t2) (by omega)
    all_goals (intros; simp_all)
   | lst es =>
    have he0:=he
    rw [DIs] at he
    obtain ⟨b,ys,rfl,k1,k2⟩:=he
    obtain ⟨i2,r2,t2,_⟩:=I.list k1
    cases ry
    by_cases hab:a=b
    ·subst hab
     rw [DIs.inj I he0 hd0,Zcm _ hd0]
     exact EqAt.same _
    ·refine EqAt.of_refs hab ?_
     have l1:=r1.length
     have l2:=r2.length
     have m1:=h2.len
     have m2:=k2.len
     rw [deq]
     rw [← Zcl]
     by_cases hz:ds.len=es.len
     ·have:=RcAt.lists (A:=A) (e:=fun j=>deq (ds.get j) (es.get j)) t1.isList t2.isList (by simp; omega) (by omega) fun j g1 g2=>?_
      ·rw [List.size_toArray,← l1,← m1] at this
       rw [hz,Nat.min_self,beq_self_eq_true,Bool.and_true,← hz]
       exact this
      ·have g1':j < xs.length:=by simp at g1; omega
       have g2':j < ys.length:=by simp at g2; omega
       obtain ⟨u1,e1,q1⟩:=r1.get (List.getElem?_eq_getElem g1')
       obtain ⟨u2,e2,q2⟩:=r2.get (List.getElem?_eq_getElem g2')
       have d1:i1.toArray[j]=u1:=by
        have:i1[j]?=some i1.toArray[j]:=by simp
        rw [e1] at this; exact (Option.some.inj this).symm
       have d2:i2.toArray[j]=u2:=by
        have:i2[j]?=some i2.toArray[j]:=by simp
        rw [e2] at this; exact (Option.some.inj this).symm
       rw [d1,d2]
       exact ih _ _ _ _ _ _ _ (Nat.le_trans (Zhx ds j (by omega)) (by omega)) (h2.get (List.getElem?_eq_getElem g1')) (k2.get (List.getElem?_eq_getElem g2')) q1 q2 hu1
     ·have e0:(ds.len == es.len)=false:=by simpa using hz
      rw [e0,Bool.and_false]
      exact RcAt.lists_lengths t1.isList t2.isList (by simp; omega) (by omega)
end
section
variable {X:Cx}
theorem Zhu {pins:List (Addr × Obj)} {σ:St} {H:Hp} {s:Shared} (I:Inv X pins σ H s) {A:Around} {ds es:Ds} {xs ys:List V} {i1 i2:List Value} (h2:DIss X.K H ds xs) (k2:DIss X.K H es ys) (r1:Vals xs i1) (r2:Vals ys i2)
  (hu:A.units+60 < cLine) (hd:deps ds≤50):∀ j (g1:j < i1.toArray.size) (g2:j < i2.toArray.size),EqAt A.in1 s i1.toArray[j] i2.toArray[j] (deq (ds.get j) (es.get j)):=fun j g1 g2=>by
 have l1:=r1.length
 have l2:=r2.length
 have m1:=h2.len
 have g1':j < xs.length:=by simp at g1; omega
 have g2':j < ys.length:=by simp at g2; omega
 obtain ⟨u1,e1,q1⟩:=r1.get (List.getElem?_eq_getElem g1')
 obtain ⟨u2,e2,q2⟩:=r2.get (List.getElem?_eq_getElem g2')
 have d1:i1.toArray[j]=u1:=by
  have:i1[j]?=some i1.toArray[j]:=by simp
  rw [e1] at this; exact (Option.some.inj this).symm
 have d2:i2.toArray[j]=u2:=by
  have:i2[j]?=some i2.toArray[j]:=by simp
  rw [e2] at this; exact (Option.some.inj this).symm
 rw [d1,d2]
 exact eqAt_D I 50 _ _ _ _ _ _ _ (Nat.le_trans (Zhx ds j (by omega)) hd) (h2.get (List.getElem?_eq_getElem g1')) (k2.get (List.getElem?_eq_getElem g2')) q1 q2 (by show A.units+1+50 < cLine; omega)
def rEqD (K:PySem.W.Frag) (neg:Bool):R2:=fun x y H Q=>∃ d e,DIs K H d x∧DIs K H e y∧(∃ a,x=.ref a)∧(∃ b,y=.ref b)∧dep d≤50∧Q (.bl (if neg then !deq d e else deq d e)) H
theorem op_eqD {k:Nat} (hr:Room k X.A):OpR X (compareOp .Eq) (rEqD X.K false):=by
 intro pins s σ H x y v u Q I rx ry h
 obtain ⟨d,e,hd,he,⟨a,rfl⟩,⟨b,rfl⟩,hn,q⟩:=h
 cases rx
 cases ry
 have hu:=hr.units
 cases d with
 | «at» p=>rw [DIs] at hd; obtain ⟨rfl,hf⟩:=hd; cases hf
 | tup ds =>
  rw [dep] at hn
  rw [DIs] at hd
  obtain ⟨a',xs,e',h1,h2⟩:=hd
  cases e'
  obtain ⟨i1,r1,t1,_⟩:=I.tuple h1
  cases e with
  | «at» p=>rw [DIs] at he; obtain ⟨rfl,hf⟩:=he; cases hf
  | tup es =>
   rw [DIs] at he
   obtain ⟨b',ys,e',k1,k2⟩:=he
   cases e'
   obtain ⟨i2,r2,t2,_⟩:=I.tuple k1
   refine RcAt.tuples (show s.heap.IsTuple a i1.toArray from t1) (show s.heap.IsTuple b i2.toArray from t2) (by omega) (Zhu I h2 k2 r1 r2 (by omega) (by omega)) _ _ _ _ ⟨.bl _,H,I,?_,q⟩
   show Value.bool _=Value.bool _
   rw [List.size_toArray,List.size_toArray,← r1.length,← r2.length,← h2.len,← k2.len,Zcl]
   simp only [Bool.false_eq_true,if_false]
   rw [deq]
  | lst es =>
   rw [DIs] at he
   obtain ⟨b',ys,e',k1,k2⟩:=he
   cases e'
   obtain ⟨i2,r2,t2,_⟩:=I.list k1
   refine RcAt.tuple_list (show s.heap.IsTuple a _ from t1) t2.isList (by omega) _ _ _ _ ⟨.bl _,H,I,?_,q⟩
   show Value.bool _=Value.bool _
   simp only [Bool.false_eq_true,if_false]
   rw [deq] <;> (intros; simp_all)
 | lst ds =>
  rw [dep] at hn
  rw [DIs] at hd
  obtain ⟨a',xs,e',h1,h2⟩:=hd
  cases e'
  obtain ⟨i1,r1,t1,_⟩:=I.list h1
  cases e with
  | «at» p=>rw [DIs] at he; obtain ⟨rfl,hf⟩:=he; cases hf
  | tup es =>
   rw [DIs] at he
   obtain ⟨b',ys,e',k1,k2⟩:=he
   cases e'
   obtain ⟨i2,r2,t2,_⟩:=I.tuple k1
   refine RcAt.list_tuple t1.isList (show s.heap.IsTuple b _ from t2) (by omega) _ _ _ _ ⟨.bl _,H,I,?_,q⟩
   show Value.bool _=Value.bool _
   simp only [Bool.false_eq_true,if_false]
   rw [deq] <;> (intros; simp_all)
  | lst es =>
   rw [DIs] at he
   obtain ⟨b',ys,e',k1,k2⟩:=he
   cases e'
   obtain ⟨i2,r2,t2,_⟩:=I.list k1
   have l1:=r1.length
   have l2:=r2.length
   have m1:=h2.len
   have m2:=k2.len
   by_cases hz:ds.len=es.len
   ·refine RcAt.lists t1.isList t2.isList (by simp; omega) (by omega) (Zhu I h2 k2 r1 r2 (by omega) (by omega)) _ _ _ _ ⟨.bl _,H,I,?_,q⟩
    show Value.bool _=Value.bool _
    simp only [Bool.false_eq_true,if_false]
    rw [deq,← Zcl,List.size_toArray,← l1,← m1,hz,Nat.min_self,beq_self_eq_true,Bool.and_true]
   ·refine RcAt.lists_lengths t1.isList t2.isList (by simp; omega) (by omega) _ _ _ _ ⟨.bl _,H,I,?_,q⟩
    show Value.bool _=Value.bool _
    have e0:(ds.len == es.len)=false:=by simpa using hz
    simp only [Bool.false_eq_true,if_false]
    rw [deq,← Zcl,e0,Bool.and_false]
theorem Zlb {k:Nat} (hr:Room k X.A):OpR X (compareOp .NotEq) (rEqD X.K true):=by
 intro pins s σ H x y v u Q I rx ry h
 obtain ⟨d,e,hd,he,⟨a,rfl⟩,⟨b,rfl⟩,hn,q⟩:=h
 cases rx
 cases ry
 have hu:=hr.units
 cases d with
 | «at» p=>rw [DIs] at hd; obtain ⟨rfl,hf⟩:=hd; cases hf
 | tup ds =>
  rw [dep] at hn
  rw [DIs] at hd
  obtain ⟨a',xs,e',h1,h2⟩:=hd
  cases e'
  obtain ⟨i1,r1,t1,_⟩:=I.tuple h1
  cases e with
  | «at» p=>rw [DIs] at he; obtain ⟨rfl,hf⟩:=he; cases hf
  | tup es =>
   rw [DIs] at he
   obtain ⟨b',ys,e',k1,k2⟩:=he
   cases e'
   obtain ⟨i2,r2,t2,_⟩:=I.tuple k1
   refine RcNeAt.tuples (show s.heap.IsTuple a i1.toArray from t1) (show s.heap.IsTuple b i2.toArray from t2) (by omega) (Zhu I h2 k2 r1 r2 (by omega) (by omega)) _ _ _ _ ⟨.bl _,H,I,?_,q⟩
   show Value.bool _=Value.bool _
   rw [List.size_toArray,List.size_toArray,← r1.length,← r2.length,← h2.len,← k2.len,Zcl]
   simp only [if_true]
   rw [deq]
  | lst es =>
   rw [DIs] at he
   obtain ⟨b',ys,e',k1,k2⟩:=he
   cases e'
   obtain ⟨i2,r2,t2,_⟩:=I.list k1
   refine RcNeAt.tuple_list (show s.heap.IsTuple a _ from t1) t2.isList (by omega) _ _ _ _ ⟨.bl _,H,I,?_,q⟩
   show Value.bool _=Value.bool _
   simp only [if_true]
   rw [deq] <;> first | rfl | (intros; simp_all)
 | lst ds =>
  rw [dep] at hn
  rw [DIs] at hd
  obtain ⟨a',xs,e',h1,h2⟩:=hd
  cases e'
  obtain ⟨i1,r1,t1,_⟩:=I.list h1
  cases e with
  | «at» p=>rw [DIs] at he; obtain ⟨rfl,hf⟩:=he; cases hf
  | tup es =>
   rw [DIs] at he
   obtain ⟨b',ys,e',k1,k2⟩:=he
   cases e'
   obtain ⟨i2,r2,t2,_⟩:=I.tuple k1
   refine RcNeAt.list_tuple t1.isList (show s.heap.IsTuple b _ from t2) (by omega) _ _ _ _ ⟨.bl _,H,I,?_,q⟩
   show Value.bool _=Value.bool _
   simp only [if_true]
   rw [deq] <;> first | rfl | (intros; simp_all)
  | lst es =>
   rw [DIs] at he
   obtain ⟨b',ys,e',k1,k2⟩:=he
   cases e'
   obtain ⟨i2,r2,t2,_⟩:=I.list k1
   have l1:=r1.length
   have l2:=r2.length
   have m1:=h2.len
   have m2:=k2.len
   by_cases hz:ds.len=es.len
   ·refine RcNeAt.lists t1.isList t2.isList (by simp; omega) (by omega) (Zhu I h2 k2 r1 r2 (by omega) (by omega)) _ _ _ _ ⟨.bl _,H,I,?_,q⟩
    show Value.bool _=Value.bool _
    simp only [if_true]
    rw [deq,← Zcl,List.size_toArray,← l1,← m1,hz,Nat.min_self,beq_self_eq_true,Bool.and_true]
   ·refine RcNeAt.lists_lengths t1.isList t2.isList (by simp; omega) (by omega) _ _ _ _ ⟨.bl _,H,I,?_,q⟩
    show Value.bool _=Value.bool _
    have e0:(ds.len == es.len)=false:=by simpa using hz
    simp only [if_true]
    rw [deq,← Zcl,e0,Bool.and_false]; rfl
end
end L2
namespace L2
open PySem PySem.Spec PyProof.Rows
section
variable {X:Cx} {e st:Expr} {te ts:TE} {pos p2:Pos}
end
end L2
namespace L2
open PySem PySem.Spec PyProof.Rows
structure MkOk (P:Program) (w:World) (K:PySem.W.Frag) (mg:Str→Option Value) (base:Heap) (k:Nat) (x:Str) (C:Addr) (ps:List Str) (sp:Sp):Prop where
 ex:∃ (f:Addr) (fd:FuncData),Mk K C f∧FnOk P w K mg base CX0 k f fd ps sp∧mg x=some (.ref C)∧Binds K fd ps []
structure MdOk (P:Program) (w:World) (K:PySem.W.Frag) (mg:Str→Option Value) (base:Heap) (k:Nat) (C:Addr) (m:Str) (ps:List Str) (sp:Sp):Prop where
 cl:Cls K C
 ex:∃ (f:Addr) (fd:FuncData),Meth K C m f∧FnOk P w K mg base CX0 k f fd ps sp∧Binds K fd ps []
section
variable {X:Cx} {k j:Nat} {x m:Str} {C:Addr} {ps:List Str} {sp:Sp} {p pos apos:Pos} {e o:Expr} {es:List Expr} {t:TA} {ta:TE}
theorem pe_mk (D:MkOk X.prog X.w X.K X.mg X.base k x C ps sp) (hr:Room j X.A) (ha:PA X (e :: es) t) (hj:k+1≤j:=by decide) (hg:Gl X x:=by rfl) (hdb:(x == ("__debug__":Str))=false:=by decide)
  (he:starEach (e :: es) X.env=(false,eval e X.env) :: starEach es X.env:=by rfl) (hpl:(backTo pos (starEach es X.env)).any (·.1)=false:=by rfl):PE X (.Call (.Name x p) (e :: es) [] pos) (tMake C sp [] E0 t):=by
 obtain ⟨f,fd,M,F,hm,hb⟩:=D.ex
 exact pe_make M F (hr.mono hj) hg hm hb .nil pass0 ha hdb he hpl
theorem Zdd {pl:Sem Bool} (D:MdOk X.prog X.w X.K X.mg X.base k C m ps sp) (hr:Room j X.A) (he:PE X o ta) (hj:k≤j:=by decide)
    (ht:eval (.Call (.Attribute o m apos) [] [] pos) X.env=(do
      let ov ← eval o X.env
      standAt apos.atName
      let (f,first) ← holding [ov] (getMethod ov m pl)
      callWith pos f first (backTo pos (starEach [] X.env)) (backToKw pos (keywordEach [] X.env))):=by rfl):PE X (.Call (.Attribute o m apos) [] [] pos) (tMeth C m sp [] E0 ta tNil):=by
  obtain ⟨f,fd,M,F,hb⟩:=D.ex
  exact pe_meth0 he D.cl M F (hr.mono hj) hb .nil pass0 ht
end
section
variable {X:Cx} {K:PySem.W.Frag} {pos:Pos}
theorem Zdb {es:List Expr} {k:Nat} {t:TGs} {n:Nat} (hc:X.calm=true) (h:PGs X es t) (hK:X.K=K:=by rfl)
  (hn:(assignEach es X.env).length=n:=by rfl) (hst:(assignEach es X.env).findIdx? (·.1)=none:=by rfl):PG X (.Tuple es k pos) (gTup K n t):=by
 subst hK; exact Zff hc h hn hst
end
end L2
namespace GB
open PySem L2
structure Rc where
 t:Int
 l:Int
 b:Int
 r:Int
 deriving DecidableEq
def key:List Int→Int
 | [a,b,c,d]=>((a * 13+b) * 13+c) * 13+d
 | _=>0
end GB
namespace L2
open PySem PySem.Spec PyProof.Rows
section
variable {prog:Program} {w:World} {A:Around} {E:Value→Shared→Prop} {h:Heap} {g:Array GenState} {d:Drawn} {t:Nat} {os:OsState}
 {nm qn:Str} {C N:Addr} {bs bm bmB:List Value} {hdct:Bool} {sn:List Str} {sub:List Value} {ab:Bool} {col:Option Bool} {dd:Option Addr} {k0 k1 k2 k3 k5:Option Value} {B newId initId:String}
def rawExc (h:Heap) (C:Addr) (rest:List Value):Heap:=(h.push { cls:=.type "tuple",data:=.seq rest.toArray }).push { cls:=.ref C,data:=.fields #[.ref h.objs.size,.none,.none,.none,.bool false,.none] }
theorem Zcr {C:Addr} {rest:List Value} {b:Addr} {o:Obj} (e:h.get? b=some o):(rawExc h C rest).get? b=some o:=Heap.get?_push_of_some _ (Heap.get?_push_of_some _ e)
theorem Zid (C:Addr) (rest:List Value):(rawExc h C rest).get? (h.objs.size+1)=some { cls:=.ref C,data:=.fields #[.ref h.objs.size,.none,.none,.none,.bool false,.none] }:=by
 unfold rawExc; heap_get
theorem Zf5 (F:ExcBaseFacts B newId initId bmB) (T:OwnTail h bmB bm) {mN:Str→Option Value} {rest:List Value} {fI:Addr} {oI:Obj} {Q:Fin→Shared→Prop}
  (hC:h.get? C=some (excClassObj nm qn C N bs bm hdct sn sub ab col dd k0 k1 k2 k3 k5 newId)) (hn:h.Ns N mN) (hi:mN "__init__"=some (.ref fI)) (hfI:h.get? fI=some oI) (hfc:oI.cls=.type "function") (hrest:rest.length≤sizeLine)
  (hq:wpAny (model prog w) A (call (.ref fI) (.ref (h.objs.size+1) :: rest)) (fun r s'=>r=.none∧Q (.done (.ret (.ref (h.objs.size+1)))) s') E ⟨rawExc h C rest,g,d,t,os⟩) :
  wpAny (model prog w) A (Builtin.«type.__call__» ⟨.ref C :: rest,[]⟩) Q E ⟨h,g,d,t,os⟩:=by
 repeat (first | with_reducible refine wpAny_loadPart_at hC ?_ | with_reducible refine wpAny_madeBy_exc hC ?_ | wp_step)
 refine codeAny_call_builtin_code (Code.quiet_builtin _ F.quiet) (wpAny_check_new_subT F T hC (codeAny_exc_new_subT F T hC ?_ hrest))
 show wpAny _ _ _ _ _ ⟨rawExc h C rest,g,d,t,os⟩
 have c1:(rawExc h C rest).get? C=_:=Zcr hC
 have n1:(rawExc h C rest).Ns N mN:=let ⟨o,es,ep,e,r⟩:=hn; ⟨o,es,ep,Zcr e,r⟩
 have e1:=Zid (h:=h) C rest
 have T1:OwnTail (rawExc h C rest) bmB bm:=T.keeps fun _ _ e=>Zcr e
 have cc:(Value.ref C :: bm).contains (.ref C)=true:=by simp
 unfold isInstance
 repeat (first | with_reducible refine wpAny_loadPart_at e1 ?_ | (with_reducible refine wpAny_isSubtype_exc c1 ?_; rw [cc]) | wp_step)
 show wpAny _ _ (typeLookup (.ref C) _) _ _ _
 refine wpAny_typeLookup_tail c1 n1 T1 F.mroIs F.init.lookup ?_
 rw [hi]
 refine wpAny_holding (wpAny_bind ?_)
 unfold bindSpecial
 refine wpAny_bind (wpAny_typeOf (T:="function") ⟨_,Zcr hfI,hfc⟩ ?_)
 rw [if_pos (by decide)]
 refine wpAny_pure (wpAny_bind (wpAny_mono hq (fun r s' hr=>?_) fun _ _ x=>x))
 obtain ⟨rfl,hQ⟩:=hr
 wp_walk
 exact hQ
theorem call_excT (F:ExcBaseFacts B newId initId bmB) (T:OwnTail h bmB bm) {mN:Str→Option Value} {rest:List Value} {fI:Addr} {oI:Obj} {Q:Value→Shared→Prop}
  (hC:h.get? C=some (excClassObj nm qn C N bs bm hdct sn sub ab col dd k0 k1 k2 k3 k5 newId)) (hn:h.Ns N mN) (hi:mN "__init__"=some (.ref fI)) (hfI:h.get? fI=some oI) (hfc:oI.cls=.type "function") (hrest:rest.length≤sizeLine)
  (hq:wpAny (model prog w) (A.under (.builtin "type.__call__" ⟨.ref C :: rest,[]⟩)) (call (.ref fI) (.ref (h.objs.size+1) :: rest)) (fun r s'=>r=.none∧Q (.ref (h.objs.size+1)) s') E ⟨rawExc h C rest,g,d,t,os⟩) :
  wpAny (model prog w) A (call (.ref C) rest) Q E ⟨h,g,d,t,os⟩:=by
 have l1:=tc_lookup
 have l2:=tc_bind (.ref C)
 have ty:(⟨h,g,d,t,os⟩:Shared).TypeIs (.ref C) "type":=⟨_,hC,rfl⟩
 refine wpAny_call (codeAny_of_tree ?_)
 show wpAny _ _ (callAny (.ref C) _) _ _ _
 repeat (any_goals (first | assumption | with_reducible refine wpAny_loadPart_at hC ?_ | wp_step))
 exact ⟨rfl,codeAny_call_builtin_at (Code.quiet_builtin _ (by decide +kernel)) entry_typeCall (wpAny_check_type_call_sub hC (Zf5 F T hC hn hi hfI hfc hrest hq))⟩
end
end L2
namespace L2
open PySem PySem.Spec PyProof.Rows PySem.W PySem.Builtin PySem.Builtin.ObjectAttr
def vErr:List Value:=[.type "ValueError",.type "Exception",.type "BaseException",.type "object"]
def excMro:List Value→Bool
 | []=>false
 | x :: r=>(match x with | .ref _=>excMro r | _=>false) || (x :: r == vErr)
theorem Zgm (self:Value):∀ {l:List Value},excMro l=true→refuseLoop self "__setattr__" l=pure ()
 | [],e=>by cases e
 | x :: r,e=>by
  unfold excMro at e
  rw [Bool.or_eq_true] at e
  rcases e with e | e
  ·cases x <;> first | (rw [refuseLoop_ref]; exact Zgm self e) | cases e
  ·rw [show x :: r=vErr from beq_iff_eq.mp e]
   exact PySem.F.store_ValueError.passes self
theorem Zkb {T:String} (hT:vErr.contains (.type T)=true):∀ {l:List Value},excMro l=true→l.contains (.type T)=true
 | [],e=>by cases e
 | x :: r,e=>by
  unfold excMro at e
  rw [Bool.or_eq_true] at e
  rcases e with e | e
  ·cases x <;> first | (rw [List.contains_cons,Zkb hT e,Bool.or_true]) | cases e
  ·rw [show x :: r=vErr from beq_iff_eq.mp e]; exact hT
def excIn (K:Frag) (C:Addr):Bool:=(clsIn K C).any fun cd=>excMro cd.mro
section
variable {prog:Program} {w:World} {A:Around} {E:Value→Shared→Prop} {R:Result→Shared→Prop} {s:Shared} {K:Frag} {x C:Addr} {ox:Obj} {od:Option Obj} {name:Str} {tk:Tok} {v:Value}
theorem osa_exc (X:K.In s.heap) (I:InstAt s.heap x ox C od) (hp:excIn K C=true) (ht:findIn K (.ref C) name=some none)
  (h:wpAny (model prog w) A.in1 (storeInOwnDict (.ref x) (.ref C) (.str name tk) name v false)
   (fun fin s'=>match fin with | .done f=>R (.ok f) s' | .again c'=>c'.quiet=true∧codeAny (model prog w) A c' R s') (fun e s'=>R (.error e) s') s) :
  codeAny (model prog w) A (.call (.builtin "object.__setattr__") ⟨[.ref x,.str name tk,v],[]⟩) R s:=by
 have SF:=PySem.F.store_object
 obtain ⟨cd,hc,ho⟩:=any_some hp
 have ne:cd.mro.isEmpty=false:=by cases q:cd.mro with | nil=>rw [q] at ho; cases ho | cons _ _=>rfl
 have tO:Looks (model prog w) s.heap (isInstance (.ref x) (.type "object")) true:=I.type.andThen (looks_mroIn X (by
  unfold mroIn
  rw [hc,Option.bind_some,ne]
  show some (cd.mro.contains (.type "object"))=some true
  rw [Zkb (by decide +kernel) ho]))
 have tM:Looks (model prog w) s.heap (mroOf (.ref C)) cd.mro:=(looks_clsIn X hc).andThen .now
 refine codeAny_call_builtin SF.slot.plain SF.entry (@check_slot (model prog w) _ _ s "object.__setattr__" "object" "__setattr__" (.ref x) [.str name tk,v] [] _ SF.kind SF.split tO (SF.args (.ref x) (.str name tk) v) ?_)
 rw [osa_eq,refuse_eq]
 refine wpAny_bind (wpAny_bind (I.type.here (wpAny_bind (tM.here ?_))))
 rw [Zgm _ ho]
 exact wpAny_pure (wpAny_bind (I.type.here (wpAny_bind ((looks_findIn X ht).here (wpAny_bind (wpAny_pure h))))))
theorem set_exc0 {vs:Array Value} {sl:Array (Option Value)} {Q:Unit→Shared→Prop} (X:K.In s.heap) (hx:s.heap.get? x=some ⟨.ref C,none,.fields vs,sl⟩) (hs:findIn K (.ref C) "__setattr__"=some (some (.builtin "object.__setattr__")))
  (hp:excIn K C=true) (hh:hasDictIn K C=true) (ht:findIn K (.ref C) name=some none)
  (h:∀ h',h'.get? x=some ⟨.ref C,some s.heap.objs.size,.fields vs,sl⟩→h'.Ns1 s.heap.objs.size (fun y=>if y=name then some v else none)→(∀ b o,b≠x→s.heap.get? b=some o→h'.get? b=some o)→Q () { s with heap:=h',toks:=s.toks+2 }) :
  wpAny (model prog w) A (setAttr (.ref x) name v) Q E s:=by
 have I:InstAt s.heap x ⟨.ref C,none,.fields vs,sl⟩ C none:=⟨hx,rfl,rfl,trivial⟩
 obtain ⟨cd,hc,hd'⟩:=any_some hh
 have nx:x≠s.heap.objs.size:=Nat.ne_of_lt (Heap.lt_size hx)
 refine set_plain X I hs (osa_exc (s:={ s with toks:=s.toks+1 }) X I hp ht ?_)
 refine wpAny_bind (wpAny_pure (wpAny_bind (wpAny_bind (wpAny_loadPart hx (wpAny_bind (Looks.here (s:={ s with toks:=s.toks+1 }) (looks_clsIn X hc) ?_))))))
 rw [hd']
 refine wpAny_bind (wpAny_alloc (wpAny_bind (wpAny_update (Heap.get?_push_of_some _ hx) (wpAny_pure ?_))))
 generalize hH:(s.heap.push { cls:=.type "dict",data:=.dict #[] }).update x (fun o=>{ o with dict:=some s.heap.objs.size })=H1
 have hx1:H1.get? x=some ⟨.ref C,some s.heap.objs.size,.fields vs,sl⟩:=by
  rw [← hH]; exact Heap.get?_update_self _ (Heap.get?_push_of_some _ hx) rfl
 have hd1:H1.get? s.heap.objs.size=some { cls:=.type "dict",data:=.dict #[] }:=by
  rw [← hH,Heap.get?_update_ne _ _ _ _ (Ne.symm nx)]; exact Heap.get?_push_size _ rfl
 have hk1:∀ b o,b≠x→s.heap.get? b=some o→H1.get? b=some o:=fun b o hb e=>by
  rw [← hH,Heap.get?_update_ne _ _ _ _ hb]; exact Heap.get?_push_of_some _ e
 have hn1:H1.Ns1 s.heap.objs.size (fun _=>none):=Heap.Ns1.of_empty ⟨_,#[],_,hd1,rfl,fun e he=>absurd he (by simp),fun _=>rfl⟩
 refine wpAny_bind (wpAny_pure (wpAny_bind (wpAny_nsSet1 (s:={ s with heap:=H1,toks:=s.toks+1 }) hn1 fun h' hn2 hs2=>?_)))
 obtain ⟨oD,esD,epD,hoD,hdD,hcD⟩:=hn2.count (Within.cons name v Within.nil)
 refine wpAny_bind (wpAny_lookBehind hoD (by rw [hdD]; exact pastItsLine_dict (Nat.le_trans hcD (by rw [List.length_cons,List.length_nil,sizeLine_eq]; omega))) ?_)
 exact wpAny_pure (h _ ((hs2.2 _ nx).trans hx1) hn2 fun b o hb e=>(hs2.2 _ (Nat.ne_of_lt (Heap.lt_size e))).trans (hk1 b o hb e))
theorem set_exc {vs:Array Value} {sl:Array (Option Value)} {dx:Addr} {mA:Str→Option Value} {ns:List Str} {Q:Unit→Shared→Prop} (X:K.In s.heap) (hx:s.heap.get? x=some ⟨.ref C,some dx,.fields vs,sl⟩) (hn:s.heap.Ns1 dx mA) (hne:dx≠x)
  (hs:findIn K (.ref C) "__setattr__"=some (some (.builtin "object.__setattr__"))) (hp:excIn K C=true) (hh:hasDictIn K C=true) (ht:findIn K (.ref C) name=some none) (hw:PySem.Within mA ns) (hsz:ns.length≤sizeLine)
  (h:∀ h',h'.get? x=some ⟨.ref C,some dx,.fields vs,sl⟩→h'.Ns1 dx (fun y=>if y=name then some v else mA y)→Heap.SameBut dx s.heap h'→Q () { s with heap:=h',toks:=s.toks+2 }) :
  wpAny (model prog w) A (setAttr (.ref x) name v) Q E s:=by
 obtain ⟨od,ho⟩:∃ o,s.heap.get? dx=some o:=let ⟨o,_,_,e,_⟩:=hn; ⟨o,e⟩
 have I:InstAt s.heap x ⟨.ref C,some dx,.fields vs,sl⟩ C (some od):=⟨hx,rfl,rfl,ho⟩
 obtain ⟨cd,hc,hd'⟩:=any_some hh
 refine set_plain X I hs (osa_exc (s:={ s with toks:=s.toks+1 }) X I hp ht ?_)
 refine wpAny_bind (wpAny_pure (wpAny_bind (wpAny_bind (wpAny_loadPart hx (wpAny_bind (Looks.here (s:={ s with toks:=s.toks+1 }) (looks_clsIn X hc) ?_))))))
 rw [hd']
 refine wpAny_pure (a:=some dx) (wpAny_bind (wpAny_pure (wpAny_bind (wpAny_nsSet1 (s:={ s with toks:=s.toks+1 }) hn fun h' hn2 hs2=>?_))))
 obtain ⟨oD,esD,epD,hoD,hdD,hcD⟩:=hn2.count (Within.cons name v hw)
 refine wpAny_bind (wpAny_lookBehind hoD (by rw [hdD]; exact pastItsLine_dict (Nat.le_trans hcD (by rw [List.length_cons]; omega))) ?_)
 exact wpAny_pure (h _ ((hs2.2 _ (Ne.symm hne)).trans hx) hn2 hs2)
end
end L2
namespace L2
open PySem PySem.Spec PyProof.Rows PySem.W PySem.Builtin PySem.Builtin.ObjectAttr
section
variable {prog:Program} {w:World} {A:Around} {E:Value→Shared→Prop} {R:Result→Shared→Prop} {s:Shared} {K:Frag} {x C:Addr} {ox:Obj} {od:Option Obj} {name:Str} {tk:Tok} {v:Value} {expr:Bool}
theorem ga_code (X:K.In s.heap) (I:InstAt s.heap x ox C od) (hp:L2.excIn K C=true)
  (h:wpAny (model prog w) A.in1 (Builtin.«object.__getattribute__» ⟨[.ref x,.str name tk],[]⟩)
   (fun fin s'=>match fin with | .done f=>R (.ok f) s' | .again c'=>c'.quiet=true∧codeAny (model prog w) A c' R s') (fun e s'=>R (.error e) s') s) :
  codeAny (model prog w) A (.call (.builtin "BaseException.__getattribute__") ⟨[.ref x,.str name tk],[]⟩) R s:=by
 obtain ⟨cd,hc,ho⟩:=any_some hp
 have ne:cd.mro.isEmpty=false:=by cases q:cd.mro with | nil=>rw [q] at ho; cases ho | cons _ _=>rfl
 have tB:Looks (model prog w) s.heap (isInstance (.ref x) (.type "BaseException")) true:=I.type.andThen (looks_mroIn X (by
  unfold mroIn
  rw [hc,Option.bind_some,ne]
  show some (cd.mro.contains (.type "BaseException"))=some true
  rw [Zkb (by decide +kernel) ho]))
 exact codeAny_call_builtin PySem.F.attrBase_ValueError.ga.plain PySem.F.entry_bexc_ga (@check_slot (model prog w) _ _ s "BaseException.__getattribute__" "BaseException" "__getattribute__" (.ref x) [.str name tk] [] _ (by decide +kernel) (by decide +kernel) tB (PySem.F.args_bexc_ga (.ref x) (.str name tk)) h)
theorem ga_by (X:K.In s.heap) (I:InstAt s.heap x ox C od) (hp:L2.excIn K C=true) (hga:findIn K (.ref C) "__getattribute__"=some (some (.builtin "BaseException.__getattribute__"))) (hk:findIn K (.ref C) "__getattr__"=some none) {fill:Bool} {Q:Value→Shared→Prop}
  (h:wpAny (model prog w) A.in1 (Builtin.«object.__getattribute__» ⟨[.ref x,.str name tk],[]⟩)
   (fun fin s'=>match fin with | .done (.ret v)=>wpAny (model prog w) A (handedOut v) Q E s' | _=>False) (fun _ _=>False) s) :
  wpAny (model prog w) A (getAttrBy (.ref x) (.str name tk) fill expr) Q E s:=by
 have L0:=I.type (M:=model prog w)
 have L1:=looks_findIn (M:=model prog w) X hga
 have L2:=looks_findIn (M:=model prog w) X hk
 unfold getAttrBy
 refine wpAny_holding (wpAny_bind (L0.here (wpAny_bind (L1.here ?_))))
 show wpAny _ _ (getAttrByItsOwn (.ref x) (.str name tk) (.ref C) (.builtin "BaseException.__getattribute__") fill expr) _ _ _
 unfold getAttrByItsOwn hookBefore callGetattribute boundAndCalled
 refine wpAny_bind (L2.here ?_)
 refine wpAny_bind (wpAny_attempt (wpAny_holding ?_))
 rw [show (expr && onTheHeap (Value.builtin "BaseException.__getattribute__"))=false from by cases expr <;> rfl,if_neg Bool.false_ne_true]
 refine wpAny_bind (wpAny_of_eq (PySem.F.attrBase_ValueError.ga.bind _) ?_)
 refine wpAny_call (ga_code X I hp (wpAny_mono h (fun fin s' z=>?_) fun _ _ z=>z.elim))
 rcases fin with (_ | _ | _ | _) | _ <;> first | exact z.elim | exact z
theorem get_exc {Q:Value→Shared→Prop} (X:K.In s.heap) (I:InstAt s.heap x ox C od) (hp:L2.excIn K C=true) (hga:findIn K (.ref C) "__getattribute__"=some (some (.builtin "BaseException.__getattribute__"))) (hk:findIn K (.ref C) "__getattr__"=some none)
  (hf:findObj K C od name=some (.value v)) (hh:handedIn v=true) (h:Q v { s with toks:=s.toks+1 }):wpAny (model prog w) A (getAttr (.ref x) name expr) Q E s:=by
 unfold getAttr
 refine wpAny_bind (wpAny_mkText (ga_by (s:={ s with toks:=s.toks+1 }) X I hp hga hk ?_))
 have L0:=I.type (M:=model prog w)
 have L1:=looks_find (M:=model prog w) X I hf
 refine wpAny_bind (wpAny_of_eq (show slotArgs "__getattribute__" 1 ⟨[.ref x,.str name s.toks],[]⟩=pure (.ref x,[.str name s.toks]) from rfl) ?_)
 refine wpAny_bind (wpAny_pure (wpAny_bind (Looks.here (s:={ s with toks:=s.toks+1 }) L0 (wpAny_bind (Looks.here (s:={ s with toks:=s.toks+1 }) L1 ?_)))))
 refine wpAny_pure ?_
 show wpAny _ _ (handedOut v) _ _ _
 rw [handedOut_of hh]; exact wpAny_pure h
theorem class_exc {Q:Option Value→Shared→Prop} (X:K.In s.heap) (I:InstAt s.heap x ox C od) (hp:L2.excIn K C=true) (hga:findIn K (.ref C) "__getattribute__"=some (some (.builtin "BaseException.__getattribute__"))) (hk:findIn K (.ref C) "__getattr__"=some none)
  (hf:findObj K C od "__class__"=some (.bind (.builtin "getset_descriptor.__get__") (.builtin "object.__class__"))) (hm:mroIn K C (.type "object")=some true) (h:Q (some (.ref C)) { s with toks:=s.toks+1 }):wpAny (model prog w) A (getAttr? (.ref x) "__class__") Q E s:=by
 unfold getAttr? getAttrBy?
 refine wpAny_bind (wpAny_mkText (wpAny_bind (wpAny_attempt (ga_by (s:={ s with toks:=s.toks+1 }) X I hp hga hk ?_))))
 have L0:=I.type (M:=model prog w)
 have L1:=looks_find (M:=model prog w) X I hf
 refine wpAny_bind (wpAny_of_eq (show slotArgs "__getattribute__" 1 ⟨[.ref x,.str "__class__" s.toks],[]⟩=pure (.ref x,[.str "__class__" s.toks]) from rfl) ?_)
 refine wpAny_bind (wpAny_pure (wpAny_bind (Looks.here (s:={ s with toks:=s.toks+1 }) L0 (wpAny_bind (Looks.here (s:={ s with toks:=s.toks+1 }) L1 ?_)))))
 show wpAny _ _ (holding [.builtin "object.__class__"] (call (.builtin "getset_descriptor.__get__") [.builtin "object.__class__",.ref x,.ref C]) >>= ret) _ _ _
 refine wpAny_bind (wpAny_holding (wpAny_call (class_get (s:={ s with toks:=s.toks+1 }) (ox:=ox) (od:=od) X I hm ?_)))
 exact wpAny_pure (handed_on rfl (wpAny_pure h))
end
end L2
namespace L2
open PySem PySem.Spec PyProof.Rows PySem.W
def ExcN (C x:Addr):HO:=.ext fun h=>∃ vs sl,h.get? x=some ⟨.ref C,none,.fields vs,sl⟩∧vs[1]?=some Value.none
def ExcO (C dx x:Addr):HO:=.ext fun h=>∃ vs sl,h.get? x=some ⟨.ref C,some dx,.fields vs,sl⟩∧vs[1]?=some Value.none
def ExcT (C:Addr) (d:Option Addr) (x T:Addr):HO:=.ext fun h=>∃ vs sl,h.get? x=some ⟨.ref C,d,.fields vs,sl⟩∧vs[1]?=some (.ref T)
def ExcD (dx:Addr) (fs:List (Str × V)):HO:=.ext fun h=>∃ mA,h.Ns1 dx mA∧(∀ f,RelO (fs.lookup f) (mA f))∧PySem.Within mA (fs.map (·.1))
section
variable {P:Program} {w:World} {H:Hp} {h:Heap} {x C dx:Addr} {fs:List (Str × V)}
theorem excN_ok {vs:Array Value} {sl:Array (Option Value)} (e:h.get? x=some ⟨.ref C,none,.fields vs,sl⟩) (f:vs[1]?=some Value.none):ObjOk P w H h x (ExcN C x) :=
 ⟨⟨vs,sl,e,f⟩,⟨_,e⟩,fun _ _ ⟨vs,sl,e,f⟩ k=>⟨vs,sl,k _ e,f⟩⟩
theorem excO_ok {vs:Array Value} {sl:Array (Option Value)} (e:h.get? x=some ⟨.ref C,some dx,.fields vs,sl⟩) (f:vs[1]?=some Value.none):ObjOk P w H h x (ExcO C dx x) :=
 ⟨⟨vs,sl,e,f⟩,⟨_,e⟩,fun _ _ ⟨vs,sl,e,f⟩ k=>⟨vs,sl,k _ e,f⟩⟩
theorem excT_ok {d:Option Addr} {T:Addr} {vs:Array Value} {sl:Array (Option Value)} (e:h.get? x=some ⟨.ref C,d,.fields vs,sl⟩) (f:vs[1]?=some (.ref T)):ObjOk P w H h x (ExcT C d x T) :=
 ⟨⟨vs,sl,e,f⟩,⟨_,e⟩,fun _ _ ⟨vs,sl,e,f⟩ k=>⟨vs,sl,k _ e,f⟩⟩
theorem excD_ok {mA:Str→Option Value} (n:h.Ns1 dx mA) (r:∀ f,RelO (fs.lookup f) (mA f)) (wi:PySem.Within mA (fs.map (·.1))):ObjOk P w H h dx (ExcD dx fs) :=
 ⟨⟨mA,n,r,wi⟩,let ⟨o,_,_,e,_⟩:=n; ⟨o,e⟩,fun _ _ ⟨mA,n,r,wi⟩ k=>⟨mA,n.at k,r,wi⟩⟩
end
structure XCls (K:Frag) (C:Addr):Prop where
 ga:findIn K (.ref C) "__getattribute__"=some (some (.builtin "BaseException.__getattribute__"))
 gh:findIn K (.ref C) "__getattr__"=some none
 hd:hasDictIn K C=true
 sa:findIn K (.ref C) "__setattr__"=some (some (.builtin "object.__setattr__"))
 ex:L2.excIn K C=true
 ca:findIn K (.ref C) "__class__"=some (some (.builtin "object.__class__"))
 gn:specialIn K (.builtin "object.__class__") "__get__"=some (some (.builtin "getset_descriptor.__get__"))
 tk:takesIn K (.builtin "object.__class__")=some true
 mo:mroIn K C (.type "object")=some true
def xclsB (K:Frag) (C:Addr):Bool:=(findIn K (.ref C) "__getattribute__" == some (some (.builtin "BaseException.__getattribute__"))) && (findIn K (.ref C) "__getattr__" == some none) && hasDictIn K C && (findIn K (.ref C) "__setattr__" == some (some (.builtin "object.__setattr__"))) && L2.excIn K C &&
 (findIn K (.ref C) "__class__" == some (some (.builtin "object.__class__"))) && (specialIn K (.builtin "object.__class__") "__get__" == some (some (.builtin "getset_descriptor.__get__"))) &&
 (takesIn K (.builtin "object.__class__") == some true) && (mroIn K C (.type "object") == some true)
theorem XCls.of {K:Frag} {C:Addr} (h:xclsB K C=true):XCls K C:=by
 unfold xclsB at h
 simp only [Bool.and_eq_true,beq_iff_eq] at h
 obtain ⟨⟨⟨⟨⟨⟨⟨⟨a,a'⟩,b⟩,c⟩,d⟩,e⟩,f⟩,g⟩,i⟩:=h
 exact ⟨a,a',b,c,d,e,f,g,i⟩
section
variable {X:Cx} {pins:List (Addr × Obj)} {σ:St} {H:Hp} {s:Shared} {a C dx:Addr} {fs:List (Str × V)} {f:Str} {v:V} {A:Around} {E:Value→Shared→Prop}
theorem Zgy {φ:Heap→Prop} {b c:Addr} (h:H b=some (.ext φ)):H b≠some (.own c):=fun e=>by rw [h] at e; cases e
theorem setexc0_ok {y:V} {u:Value} {Q:Unit→Shared→Prop} (I:Inv X pins σ H s) (e:H a=some (ExcN C a)) (c:XCls X.K C) (n:NoAttr X.K C f) (ry:RelV y u)
  (h:∀ s' d,H d=none→Inv X pins σ (upd (upd H d (ExcD d [(f,y)])) a (ExcO C d a)) s'→Q () s'):wpAny (model X.prog X.w) A (setAttr (.ref a) f u) Q E s:=by
 obtain ⟨⟨vs,sl,hx,hv1⟩,_⟩:=(show ObjOk X.prog X.w H s.heap a (ExcN C a) from I.hok a _ e)
 refine set_exc0 I.kIn hx c.sa c.ex c.hd n fun h' h1 h2 k=>?_
 have hn:H s.heap.objs.size=none:=I.hok.fresh (Nat.le_refl _)
 have nea:s.heap.objs.size≠a:=Ne.symm (Zad e hn)
 refine h _ s.heap.objs.size hn ?_
 have e':∀ b o,H b=some o→b≠s.heap.objs.size:=fun b o q=>Zad q hn
 have lt:∀ b o,s.heap.get? b=some o→b≠s.heap.objs.size:=fun b o q=>Nat.ne_of_lt (Heap.lt_size q)
 have na:∀ b o,H b=some o→(∀ φ,o≠.ext φ)→b≠a:=fun b o q z t=>by subst t; rw [e] at q; cases q; exact z _ rfl
 refine I.un (h':=h') (t':=s.toks+2) ⟨fun b o q m _ _=>k b o (fun z=>by rw [z,e] at m; cases m) q,fun b o q m _ _=>⟨o.slots,k b o (fun z=>by rw [z,e] at m; cases m) q⟩,
  fun b o q m _=>by rw [Zag (fun z=>by rw [z,e] at m; cases m),Zag (lt b o q)]; exact m,fun b o q _=>?_,fun b xs q=>by rw [Zag (na b _ q (fun φ z=>by cases z)),Zag (e' b _ q)]; exact q,
  fun b o u q=>by rw [Zag (na b _ q (fun φ z=>by cases z)),Zag (e' b _ q)]; exact q,fun b ps q=>⟨#[],by rw [Zag (na b _ q (fun φ z=>by cases z)),Zag (e' b _ q),q]; simp⟩⟩ fun b o q=>?_
 ·by_cases hb:b=a
  ·subst hb; exact ⟨_,h1⟩
  ·exact ⟨o,k b o hb q⟩
 ·by_cases hb:b=a
  ·subst hb; rw [upd_same] at q; cases q; exact excO_ok h1 hv1
  ·rw [Zag hb] at q
   by_cases hd:b=s.heap.objs.size
   ·subst hd; rw [upd_same] at q; cases q
    refine excD_ok h2 (fun g=>?_) fun g hg=>?_
    ·show RelO (List.lookup g [(f,y)]) (if g=f then some u else none)
     by_cases q:g=f
     ·have hb:(g == f)=true:=beq_iff_eq.mpr q
      rw [if_pos q]; simp only [List.lookup,hb]; exact ry
     ·have hb:(g == f)=false:=beq_eq_false_iff_ne.mpr q
      rw [if_neg q]; simp only [List.lookup,hb]; exact True.intro
    ·by_cases q:g=f
     ·rw [q]; simp
     ·exact absurd (if_neg q) hg
   ·rw [Zag hd] at q
    refine (I.hok b o q).stay (fun cc w' hc z=>k cc w' ?_ z) (fun cc z=>?_) fun cc xs z=>?_
    ·rcases hc with rfl | hc
     ·exact hb
     ·exact fun t=>Zgy e (t ▸ hc)
    ·rw [Zag (fun t=>Zgy e (t ▸ z)),Zag (e' cc _ z)]; exact z
    ·rw [Zag (na cc _ z (fun φ t=>by cases t)),Zag (e' cc _ z)]; exact z
theorem setexc_ok {y:V} {u:Value} {Q:Unit→Shared→Prop} (I:Inv X pins σ H s) (e:H a=some (ExcO C dx a)) (ed:H dx=some (ExcD dx fs)) (c:XCls X.K C) (n:NoAttr X.K C f) (hl:fs.length < 1000) (ry:RelV y u)
  (h:∀ s',Inv X pins σ (upd H dx (ExcD dx (putF f y fs))) s'→Q () s'):wpAny (model X.prog X.w) A (setAttr (.ref a) f u) Q E s:=by
 obtain ⟨⟨vs,sl,hx,_⟩,_⟩:=(show ObjOk X.prog X.w H s.heap a (ExcO C dx a) from I.hok a _ e)
 obtain ⟨⟨mA,hn,r,wi⟩,_⟩:=(show ObjOk X.prog X.w H s.heap dx (ExcD dx fs) from I.hok dx _ ed)
 have hne:dx≠a:=fun z=>by
  subst z
  obtain ⟨o,es,ep,ho,hd,_⟩:=hn
  rw [hx] at ho
  cases ho
  cases hd
 have hz:(fs.map (·.1)).length≤sizeLine:=by rw [List.length_map,sizeLine_eq]; omega
 refine set_exc I.kIn hx hn hne c.sa c.ex c.hd n wi hz fun h' h1 h2 sb=>h _ ?_
 have hd:∃ o,h'.get? dx=some o:=let ⟨o,_,_,e',_⟩:=h2; ⟨o,e'⟩
 refine I.write (x:=dx) (e:=dx) (t':=s.toks+2) (by rw [ed]; exact True.intro) (.inl rfl) (fun b q hb z=>(sb.2 b hb).trans z) hd (excD_ok h2 (fun g=>?_) fun g hg=>?_)
 ·show RelO ((putF f y fs).lookup g) (if g=f then some u else mA g)
  rw [Zay]
  by_cases q:g=f
  ·rw [if_pos q,if_pos q]; exact ry
  ·rw [if_neg q,if_neg q]; exact r g
 ·by_cases q:g=f
  ·rw [q]; exact (Zdg f y fs).1
  ·refine (Zdg f y fs).2 g (wi g fun z=>hg ?_)
   show (if g=f then some u else mA g)=none
   rw [if_neg q]; exact z
def XAt (H:Hp) (C dx a:Addr):Prop:=H a=some (ExcO C dx a)∨∃ T,H a=some (ExcT C (some dx) a T)
theorem XAt.obj (I:Inv X pins σ H s) (h:XAt H C dx a):∃ vs sl,s.heap.get? a=some ⟨.ref C,some dx,.fields vs,sl⟩:=by
 rcases h with h | ⟨T,h⟩
 ·obtain ⟨⟨vs,sl,hx,_⟩,_⟩:=(show ObjOk X.prog X.w H s.heap a (ExcO C dx a) from I.hok a _ h)
  exact ⟨vs,sl,hx⟩
 ·obtain ⟨⟨vs,sl,hx,_⟩,_⟩:=(show ObjOk X.prog X.w H s.heap a (ExcT C (some dx) a T) from I.hok a _ h)
  exact ⟨vs,sl,hx⟩
theorem getexc_ok {b:Bool} {Q:Value→Shared→Prop} (I:Inv X pins σ H s) (e:XAt H C dx a) (ed:H dx=some (ExcD dx fs)) (c:XCls X.K C) (n:NoAttr X.K C f) (l:fs.lookup f=some v)
  (h:∀ u s',Inv X pins σ H s'→RelV v u→Q u s'):wpAny (model X.prog X.w) A (getAttr (.ref a) f b) Q E s:=by
 obtain ⟨vs,sl,hx⟩:=e.obj I
 obtain ⟨⟨mA,hn,r,wi⟩,_⟩:=(show ObjOk X.prog X.w H s.heap dx (ExcD dx fs) from I.hok dx _ ed)
 obtain ⟨u,hu,ru⟩:=RelO.some_of (v:=v) (o:=mA f) (by rw [← l]; exact r f)
 obtain ⟨od,ho,hl⟩:=Zip hn
 have J:InstAt s.heap a ⟨.ref C,some dx,.fields vs,sl⟩ C (some od):=⟨hx,rfl,rfl,ho⟩
 exact get_exc I.kIn J c.ex c.ga c.gh (findObj_own c.hd n rfl (by rw [hl,hu])) (Ziu ru) (h u _ (I.tok _) ru)
end
theorem kitx_exc {K:Frag} {x D:Addr} (c:XCls K D):KitX K (.ref x) (.ref D) (fun h=>∃ (ox:Obj) (od:Option Obj),InstAt h x ox D od) where
 ty:=fun _ _ _ ⟨_,_,I⟩=>I.type
 it:=fun _ _ X _=>by
  obtain ⟨cdD,hcD,_⟩:=any_some c.hd
  unfold clsIn at hcD
  split at hcD
  ·rename_i c' d' cd' sl' ho
   intro A' Q' E' s' k q
   unfold isType loadHead
   exact wpAny_bind (wpAny_loadPart (k _ _ (X _ _ ho)) (wpAny_pure q))
  ·cases hcD
 ne:=fun h tp dd its n sl X htp=>by
  obtain ⟨cdD,hcD,_⟩:=any_some c.hd
  refine Bool.eq_false_iff.mpr fun q=>?_
  have e:D=tp:=Value.ref.inj (beq_iff_eq.mp q)
  subst e
  unfold clsIn at hcD
  split at hcD
  ·rename_i c' d' cd' sl' ho
   have z:=(X _ _ ho).symm.trans htp
   cases z
  ·cases hcD
 ca:=fun {prog w A E Q s} X ⟨ox,od,I⟩ h=>by
  have hf:findObj K D od "__class__"=some (.bind (.builtin "getset_descriptor.__get__") (.builtin "object.__class__")):=by
   obtain ⟨cd,hc,_⟩:=any_some c.hd
   unfold findObj
   rw [hc,Option.bind_some,c.ca,Option.bind_some]
   simp [c.gn,c.tk]
  exact class_exc X I c.ex c.ga c.gh hf c.mo h
def IsExc (H:Hp) (a C:Addr):Prop:=(∃ dx fs,XAt H C dx a∧H dx=some (ExcD dx fs))∨H a=some (ExcN C a)∨∃ T,H a=some (ExcT C none a T)
section
variable {X:Cx}
theorem Zgu {pins:List (Addr × Obj)} {σ:St} {H:Hp} {s:Shared} {a C:Addr} (I:Inv X pins σ H s) (h:IsExc H a C):∃ (ox:Obj) (od:Option Obj),InstAt s.heap a ox C od:=by
 rcases h with ⟨dx,fs,h1,h2⟩ | h | ⟨T,h⟩
 ·obtain ⟨vs,sl,hx⟩:=h1.obj I
  obtain ⟨⟨mA,hn,_⟩,_⟩:=(show ObjOk X.prog X.w H s.heap dx (ExcD dx fs) from I.hok dx _ h2)
  obtain ⟨o,_,_,ho,_⟩:=hn
  exact ⟨_,some o,⟨hx,rfl,rfl,ho⟩⟩
 ·obtain ⟨⟨vs,sl,hx,_⟩,_⟩:=(show ObjOk X.prog X.w H s.heap a (ExcN C a) from I.hok a _ h)
  exact ⟨_,none,⟨hx,rfl,rfl,trivial⟩⟩
 ·obtain ⟨⟨vs,sl,hx,_⟩,_⟩:=(show ObjOk X.prog X.w H s.heap a (ExcT C none a T) from I.hok a _ h)
  exact ⟨_,none,⟨hx,rfl,rfl,trivial⟩⟩
theorem call_isinX:CallR X (.builtin "isinstance") (fun xs H Q=>∃ a C c u b,xs=[.ref a,c]∧IsExc H a C∧XCls X.K C∧RelV c u∧(∀ u',RelV c u'→u'=u)∧kitOne X.K (.ref C) u=some b∧Q (.bl b) H):=by
 intro pins s σ H xs us Q I r h
 obtain ⟨a,C,c,u,b,rfl,he,hc,ru,uq,hk,q⟩:=h
 obtain ⟨v1,v2,rfl,r1,r2⟩:=vals2 r
 cases r1
 have:=uq v2 r2
 subst this
 exact kia_one (kitx_exc hc) I.kIn (Zgu I he) hk (fun z=>nomatch z) fun tk=>⟨.bl b,H,I.tok tk,rfl,q⟩
end
def tXFld (K:Frag) (ta:TE) (f:Str):TE:=fun σ H Q=>ta σ H fun x H1=>∃ a C dx fs v,x=.ref a∧XAt H1 C dx a∧H1 dx=some (ExcD dx fs)∧XCls K C∧NoAttr K C f∧fs.lookup f=some v∧Q v H1
def sXFld (K:Frag) (ta tv:TE) (f:Str):TS:=fun D σ H=>tv σ H fun y H1=>ta σ H1 fun x H2=>∃ a C,x=.ref a∧XCls K C∧NoAttr K C f ∧
 ((H2 a=some (ExcN C a)∧∀ d,H2 d=none→D.nx σ (upd (upd H2 d (ExcD d [(f,y)])) a (ExcO C d a)))∨∃ dx fs,H2 a=some (ExcO C dx a)∧H2 dx=some (ExcD dx fs)∧fs.length < 1000∧D.nx σ (upd H2 dx (ExcD dx (putF f y fs))))
section
variable {X:Cx} {o e value:Expr} {f:Str} {pos pos':Pos} {ta tv:TE}
theorem pe_xfld (he:PE X e ta) (hb:attributeBase e f X.env (eval e X.env)=eval e X.env):PE X (.Attribute e f pos) (tXFld X.K ta f):=by
 intro pins s σ H Q I h
 refine attr_of hb (thn (he pins s σ H _ I h) fun u s1 ⟨x,H1,I1,rx,a,C,dx,fs,v,ex,ea,ed,c,n,l,q⟩=>?_)
 subst ex
 obtain rfl:u=Value.ref a:=rx
 exact getexc_ok I1 ea ed c n l fun u' s2 I2 ru=>⟨v,H1,I2,ru,q⟩
theorem Zjs (ha:PE X o ta) (hv:PE X value tv) (hs:swapsWith value (some (.Attribute o f pos')) pos.line X.env=pure false):PS X (.Assign [.Attribute o f pos'] value pos) (sXFld X.K ta tv f):=by
 intro pins s σ H D I h
 refine plainObj_wpAny_Assign_Attribute (thn (hv pins s σ H _ I h) fun u s1 ⟨y,H1,I1,ry,q⟩=>thn (ha pins s1 σ H1 _ I1 q) fun ov s2 ⟨x,H2,I2,rx,a,C,ex,c,n,q2⟩=>?_) hs
 subst ex
 obtain rfl:ov=Value.ref a:=rx
 rcases q2 with ⟨e0,q2⟩ | ⟨dx,fs,e1,e2,l,q2⟩
 ·exact setexc0_ok I2 e0 c n ry fun s3 d hd I3=>⟨σ,_,I3,q2 d hd⟩
 ·exact setexc_ok I2 e1 e2 c n l ry fun s3 I3=>⟨σ,_,I3,q2⟩
end
def excInI (K:Frag) (C:Addr) (fI:Addr):Bool:=match K.lookup C with
 | some ⟨.type "type",_,.cls cd,sl⟩=>(match cd.mro,sl.toList with
  | .ref C' :: bm,[_,_,_,_,some (.builtin n),_]=>C' == C && n == "ValueError.__new__" && !cd.hasDel && tailIn K vErr bm && nsOkIn K cd.ns && nsIn K cd.ns "__init__" == some (some (.ref fI))
  | _,_=>false)
 | _=>false
theorem ns_some_of {K:Frag} {h:Heap} {N:Addr} {mg:Str→Option Value} {n:Str} {v:Value} (X:K.In h) (G:h.Ns N mg) (e:nsIn K N n=some (some v)):mg n=some v:=by
 obtain ⟨o,es,ep,ho,hd,_,hf⟩:=G
 unfold nsIn at e
 split at e
 ·rename_i c d es' n' sl q
  have:=X _ _ q
  rw [ho] at this
  cases this
  cases hd
  split at e
  ·rename_i e' he
   cases e
   rw [← hf]
   unfold nsFind findBy
   rw [← Array.find?_toList,he]
   rfl
  ·split at e <;> cases e
 ·cases e
structure XMk (K:Frag) (C fI:Addr):Prop where
 cl:XCls K C
 ei:excInI K C fI=true
 kp:keepIn K (.ref C)=true
 fn:isFn K (.ref fI)=true
theorem XMk.call {K:Frag} {C fI:Addr} (M:XMk K C fI) {prog:Program} {w:World} {A:Around} {E:Value→Shared→Prop} {s:Shared} {rest:List Value} {Q:Value→Shared→Prop} (X:K.In s.heap) (hrest:rest.length≤sizeLine)
  (hq:wpAny (model prog w) (A.under (.builtin "type.__call__" ⟨.ref C :: rest,[]⟩)) (call (.ref fI) (.ref (s.heap.objs.size+1) :: rest)) (fun r s'=>r=.none∧Q (.ref (s.heap.objs.size+1)) s') E { s with heap:=rawExc s.heap C rest }) :
  wpAny (model prog w) A (call (.ref C) rest) Q E s:=by
 obtain ⟨hh,g,d,t,os⟩:=s
 have q:=M.ei
 have fnt:typeIn K (.ref fI)=some (.type "function"):=beq_iff_eq.mp M.fn
 have hfI:∃ oI:Obj,hh.get? fI=some oI∧oI.cls=.type "function":=by
  cases z:K.lookup fI with
  | none=>simp [typeIn,z] at fnt
  | some o=>exact ⟨o,X _ _ z,by simpa [typeIn,z] using fnt⟩
 obtain ⟨oI,hoI,hcI⟩:=hfI
 unfold excInI at q
 split at q
 ·rename_i dd cd sl ho
  split at q
  ·rename_i C' bm k0 k1 k2 k3 n k5 hm hs
   simp only [Bool.and_eq_true,beq_iff_eq,Bool.not_eq_true'] at q
   obtain ⟨⟨⟨⟨⟨rfl,rfl⟩,hdel⟩,ht⟩,hok⟩,hni⟩:=q
   obtain ⟨nm,bs,mro,ns,qn,hd,sn,sub,ab,col,del⟩:=cd
   dsimp only at hm hdel hok hni
   subst hm hdel
   have hsl:sl=#[k0,k1,k2,k3,some (.builtin "ValueError.__new__"),k5]:=by
    obtain ⟨l⟩:=sl
    simp only at hs
    rw [hs]
   subst hsl
   have G:hh.Ns ns (hh.nsMap ns):=.of_isNs (isNs_of_in X hok)
   exact call_excT PySem.F.excBase_ValueError (tail_of_in X ht) (X _ _ ho) G (ns_some_of X G hni) hoI hcI hrest hq
  ·cases q
 ·cases q
end L2
namespace L2
open PySem PySem.Spec PyProof.Rows PySem.W
theorem ObjOk.there {P:Program} {w:World} {H:Hp} {h:Heap} {a:Addr} {o:HO} (x:ObjOk P w H h a o):∃ u,h.get? a=some u:=by
 cases o with
 | lst xs=>obtain ⟨_,_,_,_,e⟩:=x; exact ⟨_,e⟩
 | tup xs=>obtain ⟨_,_,_,p⟩:=x; obtain ⟨_,e,_⟩:=p; exact ⟨_,e⟩
 | dK kvs=>obtain ⟨_,_,_,_,o,_,_,e,_⟩:=x; exact ⟨_,e⟩
 | dT kvs=>obtain ⟨_,_,_,_,o,_,_,e,_⟩:=x; exact ⟨_,e⟩
 | set S n=>obtain ⟨o,_,_,_,e,_⟩:=x; exact ⟨_,e⟩
 | ins C dx fs=>obtain ⟨_,_,_,e,_⟩:=x; exact ⟨_,e⟩
 | own y=>obtain ⟨_,e⟩:=x; exact ⟨_,e⟩
 | xd fs=>obtain ⟨_,⟨_,_,_,e,_⟩,_⟩:=x; exact ⟨_,e⟩
 | rng lo hi=>obtain ⟨_,_,_,e⟩:=x; exact ⟨_,e⟩
 | frz ob u=>obtain ⟨e,_⟩:=x; exact ⟨_,e⟩
 | tbl ps=>exact ⟨_,(show h.get? a=some _ from x)⟩
 | met f y=>exact ⟨_,(show h.get? a=some _ from x)⟩
 | ext φ=>obtain ⟨_,⟨_,e⟩,_⟩:=x; exact ⟨_,e⟩
def sp_x (C:Addr) (names:List Str):Sp:=fun vs H Q _=>∃ x ws,vs=.ref x :: ws∧ws.length=names.length∧H x=some (ExcN C x) ∧
 ∀ d H',H d=none→H' x=some (ExcO C d x)→H' d=some (ExcD d (names.zip ws))→(∀ a o,a≠x→H a=some o→H' a=some o)→Q .non H'
structure XMkOk (P:Program) (w:World) (K:PySem.W.Frag) (mg:Str→Option Value) (base:Heap) (k:Nat) (x:Str) (C:Addr) (ps names:List Str):Prop where
 few:names.length≤1000
 ex:∃ (f:Addr) (fd:FuncData),XMk K C f∧FnOk P w K mg base CX0 k f fd ps (sp_x C names)∧mg x=some (.ref C)∧Binds K fd ps []
section
variable {X:Cx} {CX:CXT} {k j:Nat} {f C:Addr} {fd:FuncData} {ps names:List Str} {sp:Sp} {E:XK} {x m:Str} {p pos apos:Pos} {e o:Expr} {es:List Expr} {ta:TE} {t:TA}
theorem run_xmk {pins:List (Addr × Obj)} {σ:St} {H:Hp} {s:Shared} {Q:VK} {us:List Value} {vs:List V} (M:XMk X.K C f) (F:FnOk X.prog X.w X.K X.mg X.base CX k f fd ps sp) (hr:Room (k+1) X.A) (hb:Binds X.K fd ps [])
  (hx:Passes CX X E) (I:Inv X pins σ H s) (r:Vals vs us) (hz:vs.length≤1000)
  (h:∀ x,H x=none→sp (.ref x :: vs) (upd H x (ExcN C x)) (fun v H2=>v=.non∧Q (.ref x) H2) E) :
  wpAny (model X.prog X.w) X.A (call (.ref C) us) (EP X pins σ Q) X.xe s:=by
 have hq:=h (s.heap.objs.size+1) (I.hok.fresh (Nat.le_succ _))
 have hus:us.length≤sizeLine:=by rw [← r.length,sizeLine_eq]; omega
 have I2:Inv X pins σ (upd H (s.heap.objs.size+1) (ExcN C (s.heap.objs.size+1))) { s with heap:=rawExc s.heap C us } :=
  I.laid (t':=s.toks) (fun b u z=>Zcr z) (Nat.le_succ _) (excN_ok (Zid C us) rfl)
 have r2:Vals (V.ref (s.heap.objs.size+1) :: vs) (Value.ref (s.heap.objs.size+1) :: us):=.cons rfl r
 have hl:(Value.ref (s.heap.objs.size+1) :: us++[]).length=ps.length:=by
  have e:=r2.length
  rw [F.len _ _ _ _ hq] at e
  rw [List.append_nil]
  exact e.symm
 have hb2:=hb { s with heap:=rawExc s.heap C us } (Value.ref (s.heap.objs.size+1) :: us) I2.kIn hl
 rw [List.append_nil] at hb2
 refine M.call I.kIn hus (wpAny_call (codeAny_mono (F.run _ X.stack _ _ ⟨Value.ref (s.heap.objs.size+1) :: us,[]⟩ (Value.ref (s.heap.objs.size+1) :: us) _ _ E (hr.make C us [])
  (I2.env0.make C us []) hb2 r2 hq) fun r s' hq'=>?_))
 cases r with
 | error e=>exact hx pins σ _ _ e s' I2 hq'
 | ok fl =>
  cases fl with
  | ret u =>
   obtain ⟨v,H',I3,rv,ev,q3⟩:=I2.after hq'
   subst ev
   exact ⟨rv,⟨V.ref (s.heap.objs.size+1),H',I3,rfl,q3⟩⟩
  | next=>exact False.elim hq'
  | brk=>exact False.elim hq'
  | cont=>exact False.elim hq'
end
end L2
namespace L2
open PySem PySem.Spec PyProof.Rows PySem.W
structure NoteTo (fr tt:List Addr) (e T:Addr) (fl cls:Value) (d:Option Addr) (h h':Heap):Prop where
 nT:h.get? T=none
 keep:∀ b o,b≠e→b ∉ fr→b ∉ tt→h.get? b=some o→h'.get? b=some o
 slot:∀ b o,b∈fr→h.get? b=some o→∃ sl,h'.get? b=some { o with slots:=sl }
 exc:∃ vs sl,h'.get? e=some ⟨cls,d,.fields vs,sl⟩∧vs[1]?=some (.ref T)
 tb:∃ o ts,h'.get? T=some o∧o.data=.fields ts∧ts[3]?=some fl
 old:∀ t o ts,t∈tt→t≠e→h.get? t=some o→o.data=.fields ts→3 < ts.size→∃ o' ts',h'.get? t=some o'∧o'.data=.fields ts'∧ts'[3]?=some Value.none
section
variable {M:Model} {A:Around} {E:Value→Shared→Prop} {s:Shared} {base:Heap} {env:Env} {outer:List Env} {L e:Addr} {cls:Value} {d:Option Addr} {vs:Array Value} {sl:Array (Option Value)} {Q:Unit→Shared→Prop}
theorem Zgp {head:Value} {hadNext:Bool} (hfr:A.frames=some (env :: outer)) (hl:s.heap.FunFrames base (env :: outer)) (hf:env.frame=some L) (he:s.heap.get? e=some ⟨cls,d,.fields vs,sl⟩) (hsz:1 < vs.size)
    (h:∀ h' T,NoteTo (frs (env :: outer)) [] e T (rawInt L) cls d s.heap h'→Q () { s with heap:=h' }) :
    wpAny M A (do
      let a ← frameOf env
      let pl ← entryPlaceOf L hadNext
      let b ← EntryCells.newEntry head a .none (rawInt L) .none pl
      setField (.ref e) 1 b) Q E s:=by
  have hne:e ∉ frs (env :: outer):=fun hm=>by
    obtain ⟨_,o,ho,hnf⟩:=hl.mem hm
    rw [he] at ho; cases ho; exact hnf vs rfl
  refine wpAny_bind (wpAny_frameOf_fun hfr hl hf fun h₁ hs=>wpAny_bind (wpAny_entryPlaceOf fun pl hpl=>?_))
  unfold EntryCells.newEntry newFields
  refine wpAny_bind (wpAny_newObj_type ?_ (hpl.sizeOk5 _ _ _ _ _))
  have e1:h₁.get? e=some ⟨cls,d,.fields vs,sl⟩:=(hs.2.1 e hne).trans he
  generalize hob:({ cls:=.type "traceback",dict:=none,data:=.fields ([head,.ref L,.none,rawInt L,.none]++(if pl.isEmpty then List.replicate 6 Value.none else pl)).toArray }:Obj)=ob
  have hfb:ob.isFreed=false:=by rw [← hob]; rfl
  have e2:=Heap.get?_push_of_some (h:=h₁) ob e1
  refine wpAny_setField e2 rfl hsz (h _ h₁.objs.size ?_)
  have nTe:h₁.objs.size≠e:=Nat.ne_of_gt (Heap.lt_size e1)
  have kp:∀ b o,b≠e→h₁.get? b=some o→((h₁.push ob).update e (Obj.mapFields (·.setIfInBounds 1 (Value.ref h₁.objs.size)))).get? b=some o:=fun b o nb hb=>by
    rw [Heap.get?_update_other _ _ (Ne.symm nb)]; exact Heap.get?_push_of_some _ hb
  refine ⟨Heap.get?_none_of_le (Nat.le_of_eq hs.1.symm),fun b o nb nf _ hb=>kp b o nb ((hs.2.1 b nf).trans hb),fun b o bf hb=>?_,⟨vs.setIfInBounds 1 (.ref h₁.objs.size),sl,?_,by simp [hsz]⟩,⟨ob,([head,.ref L,.none,rawInt L,.none]++(if pl.isEmpty then List.replicate 6 Value.none else pl)).toArray,?_,by rw [← hob],?_⟩,fun _ _ _ z=>nomatch z⟩
  · obtain ⟨sl',z⟩:=hs.2.2 b o hb
    exact ⟨sl',kp b _ (fun q=>hne (q ▸ bf)) z⟩
  · exact Heap.get?_update_self _ e2 rfl
  · rw [Heap.get?_update_other _ _ (Ne.symm nTe)]; exact Heap.get?_push_size _ hfb
  · simp
theorem Zlc (hfr:A.frames=some (env :: outer)) (hl:s.heap.FunFrames base (env :: outer)) (hf:env.frame=some L) (he:s.heap.get? e=some ⟨cls,d,.fields vs,sl⟩) (h1:vs[1]?=some Value.none)
  (h:∀ h' T,NoteTo (frs (env :: outer)) [] e T (rawInt L) cls d s.heap h'→Q () { s with heap:=h' }):wpAny M A (noteFrame (.ref e) env) Q E s:=by
 unfold noteFrame
 simp only [hf]
 refine wpAny_bind (wpAny_field he rfl h1 ?_)
 rw [if_neg (by decide)]
 exact Zgp hfr hl hf he (Array.getElem?_eq_some_iff.mp h1).1 h
theorem note_next {T1:Addr} {oT:Obj} {ts:Array Value} (hfr:A.frames=some (env :: outer)) (hl:s.heap.FunFrames base (env :: outer)) (hf:env.frame=some L) (he:s.heap.get? e=some ⟨cls,d,.fields vs,sl⟩) (h1:vs[1]?=some (.ref T1))
  (hT:s.heap.get? T1=some oT) (hd:oT.data=.fields ts) (h3:ts[3]?=some Value.none) (ne:T1≠e)
  (h:∀ h' T,NoteTo (frs (env :: outer)) [T1] e T (rawInt L) cls d s.heap h'→Q () { s with heap:=h' }):wpAny M A (noteFrame (.ref e) env) Q E s:=by
 unfold noteFrame
 simp only [hf]
 refine wpAny_bind (wpAny_field he rfl h1 ?_)
 rw [if_pos (show (Value.ref T1 != Value.none)=true from by simp)]
 refine wpAny_bind (wpAny_field hT hd h3 ?_)
 rw [if_neg (show ¬ ((Value.none == rawInt L)=true) from by simp [rawInt])]
 have hs3:3 < ts.size:=(Array.getElem?_eq_some_iff.mp h3).1
 refine wpAny_bind (wpAny_setField hT hd hs3 ?_)
 have oth:∀ b,b≠T1→(s.heap.update T1 (Obj.mapFields (·.setIfInBounds 3 Value.none))).get? b=s.heap.get? b:=fun b hb=>Heap.get?_update_other _ _ (Ne.symm hb)
 have nT1:T1 ∉ frs (env :: outer):=fun hm=>by
  obtain ⟨_,o,ho,hnf⟩:=hl.mem hm
  rw [hT] at ho; cases ho; exact hnf ts hd
 have self:(s.heap.update T1 (Obj.mapFields (·.setIfInBounds 3 Value.none))).get? T1=some (Obj.mapFields (·.setIfInBounds 3 Value.none) oT):=Heap.get?_update_self _ hT (Obj.isFreed_of_fields (Obj.data_mapFields hd _))
 refine Zgp (s:={ s with heap:=s.heap.update T1 (Obj.mapFields (·.setIfInBounds 3 Value.none)) }) hfr (hl.of_keeps fun b o hb hnf=>⟨o,(oth b fun q=>?_).trans hb,rfl⟩) hf ((oth e (Ne.symm ne)).trans he) (Array.getElem?_eq_some_iff.mp h1).1 fun h' T n=>h h' T ?_
 ·rw [q,hT] at hb; cases hb; exact hnf ts hd
 ·have nT':s.heap.get? T=none:=by
   by_cases q:T=T1
   ·have:=n.nT; rw [q] at this; rw [self] at this; cases this
   ·rw [← oth T q]; exact n.nT
  refine ⟨nT',fun b o nb nf nt hb=>n.keep b o nb nf (by simp) ((oth b (by simpa using nt)).trans hb),fun b o bf hb=>n.slot b o bf ((oth b fun q=>nT1 (q ▸ bf)).trans hb),n.exc,n.tb,fun t o us ht hte hb hdo hsz=>?_⟩
  obtain rfl:t=T1:=by simpa using ht
  rw [hT] at hb; cases hb
  rw [hd] at hdo; cases hdo
  exact ⟨_,_,n.keep t _ hte nT1 (by simp) self,Obj.data_mapFields hd _,by simp [hs3]⟩
theorem Zgx {T:Addr} {oT:Obj} {ts:Array Value} (he:s.heap.get? e=some ⟨cls,d,.fields vs,sl⟩) (h1:vs[1]?=some (.ref T)) (hT:s.heap.get? T=some oT) (hd:oT.data=.fields ts) (hs3:3 < ts.size)
  (h:∀ h',(∀ b,b≠T→h'.get? b=s.heap.get? b)→(∃ o' ts',h'.get? T=some o'∧o'.data=.fields ts'∧ts'[3]?=some Value.none)→Q () { s with heap:=h' }):wpAny M A (setFlight (.ref e) none) Q E s:=by
 unfold setFlight
 refine wpAny_bind (wpAny_field he rfl h1 ?_)
 rw [if_pos (show (Value.ref T != Value.none)=true from by simp)]
 refine wpAny_setField hT hd hs3 (h _ (fun b hb=>Heap.get?_update_other _ _ (Ne.symm hb)) ⟨_,_,Heap.get?_update_self _ hT (Obj.isFreed_of_fields (Obj.data_mapFields hd _)),Obj.data_mapFields hd _,by simp [hs3]⟩)
end
end L2
namespace L2
open PySem PySem.Spec PyProof.Rows PySem.W
section
variable {prog:Program} {w:World} {A:Around} {E:Value→Shared→Prop} {s:Shared} {K:Frag} {C fI e:Addr} {d:Option Addr} {env:Env}
theorem raise_made {x:Sem Value} {Q:Flow→Shared→Prop} (M:XMk K C fI) (hh:A.handled=none)
  (h:wpAny (model prog w) A x (fun v s₁=>∃ e d vs sl,v=.ref e∧K.In s₁.heap∧s₁.heap.get? e=some ⟨.ref C,d,.fields vs,sl⟩∧vs[1]?=some Value.none∧E (.ref e) s₁) E s) :
  wpAny (model prog w) A (raiseStmt env (some x) none) Q E s:=by
 unfold raiseStmt
 refine wpAny_bind (wpAny_mono h (fun v s₁ h₁=>?_) fun _ _ x=>x)
 obtain ⟨e,d,vs,sl',rfl,X,he,h1,hE⟩:=h₁
 obtain ⟨hp,g,dr,tk,os⟩:=s₁
 have q:=M.ei
 unfold excInI at q
 split at q
 ·rename_i dd cd sl ho
  split at q
  ·rename_i C' bm k0 k1 k2 k3 n k5 hm hs
   simp only [Bool.and_eq_true,beq_iff_eq,Bool.not_eq_true'] at q
   obtain ⟨⟨⟨⟨⟨rfl,rfl⟩,hdel⟩,ht⟩,hok⟩,hni⟩:=q
   obtain ⟨nm,bs,mro,ns,qn,hd,sn,sub,ab,col,del⟩:=cd
   dsimp only at hm hdel hok hni
   subst hm hdel
   have hsl:sl=#[k0,k1,k2,k3,some (.builtin "ValueError.__new__"),k5]:=by
    obtain ⟨l⟩:=sl
    simp only at hs
    rw [hs]
   subst hsl
   have hC:hp.get? C'=some (excClassObj nm qn C' ns bs bm hd sn sub ab col dd k0 k1 k2 k3 k5 "ValueError.__new__"):=X _ _ ho
   have hcB:(Value.ref C' :: bm).contains (.type "BaseException")=true:=by
    rw [List.contains_cons,(tail_of_in X ht).hasType (show vErr.contains (.type "BaseException")=true by decide +kernel)]; exact Bool.or_true _
   repeat (first | with_reducible refine wpAny_field he rfl h1 ?_ | with_reducible refine wpAny_loadPart_at he ?_ | with_reducible refine wpAny_loadPart_at hC ?_ | (with_reducible refine wpAny_isSubtype_exc hC ?_; rw [hcB]) | wp_step)
   exact wpAny_raiseNew_none hh hE
  ·cases q
 ·cases q
end
end L2
namespace L2
open PySem PySem.Spec PyProof.Rows PySem.W
def TbO (T:Addr):HO:=.ext fun h=>∃ o ts,h.get? T=some o∧o.data=.fields ts∧ts[3]?=some Value.none
theorem tbO_ok {P:Program} {w:World} {H:Hp} {h:Heap} {T:Addr} (t:∃ o ts,h.get? T=some o∧o.data=.fields ts∧ts[3]?=some Value.none):ObjOk P w H h T (TbO T) :=
 ⟨t,let ⟨o,_,e,_⟩:=t; ⟨o,e⟩,fun _ _ ⟨o,ts,e,r⟩ k=>⟨o,ts,k _ e,r⟩⟩
def Fresh (H:Hp) (x C:Addr) (d:Option Addr):Prop:=(d=none∧H x=some (ExcN C x))∨∃ dx,d=some dx∧H x=some (ExcO C dx x)
def Flown (H:Hp) (x C:Addr) (d:Option Addr) (T:Addr):Prop:=H x=some (ExcT C d x T)∧H T=some (TbO T)∧T≠x
def thrown (H:Hp) (x C:Addr) (d:Option Addr) (T:Addr):Hp:=upd (upd H T (TbO T)) x (ExcT C d x T)
theorem Zdr {H:Hp} {x C T:Addr} {d:Option Addr}:thrown H x C d T x=some (ExcT C d x T):=upd_same
theorem Ze0 {H:Hp} {x C T:Addr} {d:Option Addr} (n:T≠x):thrown H x C d T T=some (TbO T):=by unfold thrown; rw [Zag n,upd_same]
theorem Zbk {H:Hp} {x C T b:Addr} {d:Option Addr} (n:b≠x) (m:b≠T):thrown H x C d T b=H b:=by unfold thrown; rw [Zag n,Zag m]
section
variable {X:Cx} {pins:List (Addr × Obj)} {σ:St} {H:Hp} {s:Shared} {x C T:Addr} {d:Option Addr} {h1 h2:Heap} {fl:Value} {tt:List Addr}
theorem note_un (I:Inv X pins σ H s) {φ:Heap→Prop} (hx:H x=some (.ext φ)) (htt:∀ t∈tt,H t=some (TbO t)∧t≠x) (n:NoteTo (frs X.stack) tt x T fl (.ref C) d s.heap h1) (k2:∀ b,b≠T→h2.get? b=h1.get? b)
  (t2:∃ o ts,h2.get? T=some o∧o.data=.fields ts∧ts[3]?=some Value.none):H T=none∧T≠x∧Un (frs X.stack) [] H (thrown H x C d T) s.heap h2∧HOk X.prog X.w (thrown H x C d T) h2:=by
 have hT:H T=none:=by
  cases q:H T with
  | none=>rfl
  | some u =>
   obtain ⟨o,ho⟩:=(I.hok T u q).there
   rw [n.nT] at ho; cases ho
 have nTx:T≠x:=fun z=>by rw [z,hx] at hT; cases hT
 have tn:∀ b o,s.heap.get? b=some o→b≠T:=fun b o e z=>by rw [z,n.nT] at e; cases e
 have un:∀ b,H b=none→b≠x:=fun b e z=>by rw [z,hx] at e; cases e
 have ut:∀ b,H b=none→b ∉ tt:=fun b e z=>by rw [(htt b z).1] at e; cases e
 have hb:∀ b u,H b=some u→b≠T:=fun b u e z=>by rw [z,hT] at e; cases e
 have old:∀ t∈tt,∃ o' ts',h2.get? t=some o'∧o'.data=.fields ts'∧ts'[3]?=some Value.none:=fun t ht=>by
  obtain ⟨e,ne⟩:=htt t ht
  obtain ⟨⟨o,ts,e1,e2,e3⟩,_⟩:=(show ObjOk X.prog X.w H s.heap t (TbO t) from I.hok t _ e)
  obtain ⟨o',ts',f1,f2,f3⟩:=n.old t o ts ht ne e1 e2 (Array.getElem?_eq_some_iff.mp e3).1
  exact ⟨o',ts',(k2 t (hb t _ e)).trans f1,f2,f3⟩
 have exc:∃ vs sl,h2.get? x=some ⟨.ref C,d,.fields vs,sl⟩∧vs[1]?=some (.ref T):=by
  obtain ⟨vs,sl,e1,e2⟩:=n.exc
  exact ⟨vs,sl,(k2 x (Ne.symm nTx)).trans e1,e2⟩
 have ne_ext:∀ b u,H b=some u→(∀ ψ,u≠.ext ψ)→b≠x:=fun b u e z q=>by rw [q,hx] at e; cases e; exact z _ rfl
 refine ⟨hT,nTx,⟨fun b o q e nf _=>?_,fun b o q e bf _=>?_,fun b o q e _=>?_,fun b o q _=>?_,fun b xs e=>?_,fun b o u e=>?_,fun b ps e=>⟨#[],?_⟩⟩,fun b u e=>?_⟩
 ·exact (k2 b (tn b o q)).trans (n.keep b o (un b e) nf (ut b e) q)
 ·obtain ⟨sl,z⟩:=n.slot b o bf q
  exact ⟨sl,(k2 b (tn b o q)).trans z⟩
 ·rw [Zbk (un b e) (tn b o q)]; exact e
 ·by_cases z:b=x
  ·obtain ⟨vs,sl,e1,_⟩:=exc; exact ⟨_,z ▸ e1⟩
  ·by_cases zf:b∈frs X.stack
   ·obtain ⟨sl,z⟩:=n.slot b o zf q
    exact ⟨_,(k2 b (tn b o q)).trans z⟩
   ·by_cases zt:b∈tt
    ·obtain ⟨o',_,e1,_⟩:=old b zt; exact ⟨o',e1⟩
    ·exact ⟨o,(k2 b (tn b o q)).trans (n.keep b o z zf zt q)⟩
 ·rw [Zbk (ne_ext b _ e fun ψ z=>by cases z) (hb b _ e)]; exact e
 ·rw [Zbk (ne_ext b _ e fun ψ z=>by cases z) (hb b _ e)]; exact e
 ·rw [Zbk (ne_ext b _ e fun ψ z=>by cases z) (hb b _ e),e]; simp
 ·by_cases z:b=x
  ·subst z; rw [Zdr] at e; cases e
   obtain ⟨vs,sl,e1,e2⟩:=exc
   exact excT_ok e1 e2
  ·by_cases zT:b=T
   ·subst zT; rw [Ze0 nTx] at e; cases e
    exact tbO_ok t2
   ·rw [Zbk z zT] at e
    by_cases zt:b∈tt
    ·rw [(htt b zt).1] at e; cases e
     exact tbO_ok (old b zt)
    ·have own_ne:∀ c,H c=some (.own b)→c≠x∧c≠T:=fun c hc=>⟨ne_ext c _ hc (fun ψ z=>by cases z),hb c _ hc⟩
     refine (I.hok b u e).stay (fun c v hc q=>?_) (fun c q=>?_) fun c xs q=>?_
     ·have hcH:∃ y,H c=some y:=by
       rcases hc with rfl | hc
       ·exact ⟨u,e⟩
       ·exact ⟨_,hc⟩
      obtain ⟨y,hy⟩:=hcH
      refine (k2 c (hb c y hy)).trans (n.keep c v ?_ (fun zf=>by rw [I.stkFree c zf] at hy; cases hy) (fun zt'=>?_) q)
      ·rcases hc with rfl | hc
       ·exact z
       ·exact (own_ne c hc).1
      ·rcases hc with rfl | hc
       ·exact zt zt'
       ·rw [(htt c zt').1] at hc; cases hc
     ·rw [Zbk (own_ne c q).1 (own_ne c q).2]; exact q
     ·rw [Zbk (ne_ext c _ q fun ψ z=>by cases z) (hb c _ q)]; exact q
theorem Zfp {E:Value→Shared→Prop} {Q:Unit→Shared→Prop} (I:Inv X pins σ H s) (hst:X.stack=X.env :: X.outer) (hfr:X.env.frame=some X.env.locals) (hf:Fresh H x C d∨∃ T,Flown H x C d T)
  (h:∀ h' T,H T=none→T≠x→Inv X pins σ (thrown H x C d T) { s with heap:=h' }→Q () { s with heap:=h' }) :
  wpAny (model X.prog X.w) X.A (noteFrame (.ref x) X.env) (fun _ s₂=>wpAny (model X.prog X.w) X.A (setFlight (.ref x) none) Q E s₂) E s:=by
 have fr:X.A.frames=some (X.env :: X.outer):=hst ▸ I.ok.frames
 have ff:s.heap.FunFrames X.base (X.env :: X.outer):=hst ▸ I.stack
 have rest:∀ {φ:Heap→Prop} {tt:List Addr} (hx:H x=some (.ext φ)) (htt:∀ t∈tt,H t=some (TbO t)∧t≠x) (h1:Heap) (T:Addr),NoteTo (frs (X.env :: X.outer)) tt x T (rawInt X.env.locals) (.ref C) d s.heap h1 →
   wpAny (model X.prog X.w) X.A (setFlight (.ref x) none) Q E { s with heap:=h1 }:=fun {φ tt} hx htt h1 T n=>by
  obtain ⟨vs,sl,e1,e2⟩:=n.exc
  obtain ⟨o,ts,f1,f2,f3⟩:=n.tb
  refine Zgx (s:={ s with heap:=h1 }) e1 e2 f1 f2 (Array.getElem?_eq_some_iff.mp f3).1 fun h2 k2 t2=>?_
  obtain ⟨hT,nT,un,ok⟩:=note_un I hx htt (hst ▸ n) k2 t2
  exact h h2 T hT nT (I.call (g':=s.gens) (d':=s.drawn) (t':=s.toks) (ch:=[]) un ok I.bare (fun b z=>absurd z (by simp)))
 rcases hf with (⟨rfl,hx⟩ | ⟨dx,rfl,hx⟩) | ⟨T,hx,hT,ne⟩
 ·obtain ⟨⟨vs,sl,e1,e2⟩,_⟩:=(show ObjOk X.prog X.w H s.heap x (ExcN C x) from I.hok x _ hx)
  exact Zlc fr ff hfr e1 e2 fun h1 T n=>rest (tt:=[]) hx (fun t z=>absurd z (by simp)) h1 T n
 ·obtain ⟨⟨vs,sl,e1,e2⟩,_⟩:=(show ObjOk X.prog X.w H s.heap x (ExcO C dx x) from I.hok x _ hx)
  exact Zlc fr ff hfr e1 e2 fun h1 T n=>rest (tt:=[]) hx (fun t z=>absurd z (by simp)) h1 T n
 ·obtain ⟨⟨vs,sl,e1,e2⟩,_⟩:=(show ObjOk X.prog X.w H s.heap x (ExcT C d x T) from I.hok x _ hx)
  obtain ⟨⟨o,ts,f1,f2,f3⟩,_⟩:=(show ObjOk X.prog X.w H s.heap T (TbO T) from I.hok T _ hT)
  exact note_next fr ff hfr e1 e2 f1 f2 f3 ne fun h1 T' n=>rest (tt:=[T]) hx (fun t z=>by rw [List.mem_singleton.mp z]; exact ⟨hT,ne⟩) h1 T' n
theorem leave_inv {E:Value→Shared→Prop} {Q:Unit→Shared→Prop} (I:Inv X pins σ H s) (hst:X.stack=X.env :: X.outer) (hfr:X.env.frame=some X.env.locals) (hf:Fresh H x C d∨∃ T,Flown H x C d T)
  (h:∀ h' T,H T=none→T≠x→Inv X pins σ (thrown H x C d T) { s with heap:=h' }→Q () { s with heap:=h' }):wpAny (model X.prog X.w) X.A (leaving X.env (.ref x)) Q E s:=by
 unfold leaving
 exact wpAny_bind (Zfp I hst hfr hf h)
end
end L2
namespace L2
open PySem PySem.Spec PyProof.Rows PySem.W
def CX1 (P:Program) (w:World):CXT:=fun outer H s E e s'=>∃ x T C d H',e=Value.ref x∧s'.os=s.os∧AllBare s'.gens∧Un (frs outer) [] H H' s.heap s'.heap∧HOk P w H' s'.heap∧Flown H' x C d T∧E (.ref x) d H'
def XeOk (X:Cx) (E:XK):Prop:=∀ (pins:List (Addr × Obj)) (σ:St) (H:Hp) (s:Shared) (x C:Addr) (d:Option Addr),Inv X pins σ H s→(Fresh H x C d∨∃ T,Flown H x C d T) →
 (∀ T,H T=none→T≠x→E (.ref x) d (thrown H x C d T))→X.xe (.ref x) s
section
variable {P:Program} {w:World} {K:PySem.W.Frag} {mg:Str→Option Value} {base:Heap} {N:List Str} {qual:Str} {scope:Scope} {f:Addr} {cd:Value} {A:Around} {outer:List Env} {s:Shared} {H:Hp} {E E₁:XK}
theorem Zjc:XeOk (cxOf (CX1 P w) P w K mg base N qual scope f cd A outer s H E) E:=by
 intro pins σ H1 s1 x C d I hf hE
 exact leave_inv I rfl rfl hf fun h' T hT nT I'=>⟨x,T,C,d,_,rfl,I'.os,I'.bare,I'.base,I'.hok,⟨Zdr,Ze0 nT,nT⟩,hE T hT nT⟩
end
section
variable {X:Cx} {E E₁:XK}
theorem pass_x (hX:XeOk X E) (h:∀ x C d T T2 H',E₁ (.ref x) d H'→Flown H' x C d T→H' T2=none→T2≠x→E (.ref x) d (thrown H' x C d T2)):Passes (CX1 X.prog X.w) X E₁:=by
 rintro pins σ H s e s' I ⟨x,T,C,d,H',rfl,os,bare,un,hok,fl,q⟩
 obtain ⟨hh,g,dr,t,os'⟩:=s'
 obtain rfl:os'=s.os:=os
 exact hX pins σ H' _ x C d (I.call (h':=hh) (g':=g) (d':=dr) (t':=t) (ch:=[]) un hok bare (fun b z=>absurd z (by simp))) (.inr ⟨T,fl⟩) fun T2 h2 n2=>h x C d T T2 H' q fl h2 n2
end
theorem Fun.okx {P:Program} {w:World} {K:PySem.W.Frag} {mg:Str→Option Value} {base:Heap} {x qual:Str} {st:Stmt} {f:Addr} {fd:FuncData} {N ps:List Str} {k:Nat} {sp:Sp} (F:Fun K x qual st f fd) (S:Zan N ps (Zab st)) (len:∀ vs H Q E,sp vs H Q E→vs.length=ps.length)
  (hbody:∀ (cdv:Value) (A:Around) (outer:List Env) (s:Shared) (H:Hp) (vs:List V) (Q:VK) (E:XK),Room k (A.deeper (envOfC qual (Zab st) s.heap.objs.size f cdv))→sp vs H Q E →
   ∃ t,PSs (cxOf (CX1 P w) P w K mg base N qual (Zab st) f cdv A outer s H E) (Zai st) t∧t { nx:=fun _ H'=>Q .non H',rt:=Q } (start N vs) H):FnOk P w K mg base (CX1 P w) (k+1) f fd ps sp:=by
 obtain ⟨oc,od,kV,doc,pm,an,cdv,ct,osl,rfl,lk,hcd⟩:=F.ex
 exact fn_of lk hcd S len fun A outer s H vs Q E hr hsp=>hbody cdv A outer s H vs Q E hr hsp
def sRaise (C:Addr) (names:List Str) (E:XK) (t:TA):TS:=fun _ σ H=>t σ H fun vs H1=>vs.length=names.length ∧
 ∀ y dx T H2,H1 y=none→Same H1 H2→H2 y=some (ExcO C dx y)→H2 dx=some (ExcD dx (names.zip vs))→dx≠y→H2 T=none→T≠y→E (.ref y) (some dx) (thrown H2 y C (some dx) T)
section
variable {X:Cx} {k j:Nat} {x:Str} {C:Addr} {ps names:List Str} {sp:Sp} {p pos cpos:Pos} {e:Expr} {es:List Expr} {t:TA} {E E₁:XK}
theorem Zk5 (hX:XeOk X E) (D:XMkOk X.prog X.w X.K X.mg X.base k x C ps names) (hr:Room j X.A) (ha:PA X (e :: es) t) (hc:X.calm=true:=by rfl) (hj:k+1≤j:=by decide) (hg:Gl X x:=by rfl) (hdb:(x == ("__debug__":Str))=false:=by decide)
  (he:starEach (e :: es) X.env=(false,eval e X.env) :: starEach es X.env:=by rfl) (hpl:(backTo cpos (starEach es X.env)).any (·.1)=false:=by rfl):PS X (.Raise (some (.Call (.Name x p) (e :: es) [] cpos)) none pos) (sRaise C names E t):=by
 intro pins s σ H Dd I h
 obtain ⟨f,fd,M,F,hm,hb⟩:=D.ex
 have pe:wpAny (model X.prog X.w) X.A (eval (.Call (.Name x p) (e :: es) [] cpos) X.env) (EP X pins σ fun v H2=>∃ y d,v=V.ref y∧Fresh H2 y C d∧∀ T,H2 T=none→T≠y→E (.ref y) d (thrown H2 y C d T)) X.xe s:=by
  refine wpAny_Call_Name_kw (Zei I hg hm ?_ hdb)
  refine PySem.W.callWith_K (h₀:=X.base) I.ok.mod.kin M.kp (thn (ha cpos pins s σ H _ I h) fun us s1 ⟨vs,H1,I1,r,hl,q⟩=>⟨I1.kIn,?_⟩) he hpl
  refine run_xmk M F (hr.mono hj) hb pass0 I1 r (hl ▸ D.few) fun y hy=>⟨y,vs,rfl,hl,upd_same,fun d H' hd h1 h2 hs=>⟨rfl,y,some d,rfl,.inr ⟨d,rfl,h1⟩,fun T hT nT=>?_⟩⟩
  refine q y d T H' hy (fun a o ho=>hs a o (Zad ho hy) ?_) h1 h2 (fun z=>by rw [z,upd_same] at hd; cases hd) hT nT
  rw [Zag (Zad ho hy)]; exact ho
 rw [arm_exec_Raise]
 simp only [evalOpt,Option.map]
 refine wpAny_bind (wpAny_standAt (raise_made M (I.ok.hd hc) ?_))
 refine wpAny_bind (thn pe fun v s1 ⟨u,H2,I2,r,y,d,ey,fr,hE⟩=>wpAny_bind (wpAny_standAt (wpAny_pure ?_)))
 subst ey
 obtain rfl:v=Value.ref y:=r
 have ob:∃ vs sl,s1.heap.get? y=some ⟨.ref C,d,.fields vs,sl⟩∧vs[1]?=some Value.none:=by
  rcases fr with ⟨rfl,hx⟩ | ⟨dx,rfl,hx⟩
  ·exact (show ObjOk X.prog X.w H2 s1.heap y (ExcN C y) from I2.hok y _ hx).1
  ·exact (show ObjOk X.prog X.w H2 s1.heap y (ExcO C dx y) from I2.hok y _ hx).1
 obtain ⟨vs,sl,e1,e2⟩:=ob
 exact ⟨y,d,vs,sl,rfl,I2.kIn,e1,e2,hX pins σ H2 s1 y C d I2 (.inl fr) hE⟩
end
def Zfx:Nat→Heap
 | 0=>{}
 | n+1=>(Zfx n).push { cls:=.type "dict",data:=.dict #[] }
theorem Zeu:∀ n,(Zfx n).objs.size=n
 | 0=>rfl
 | n+1=>by rw [Zfx,Heap.size_push,Zeu n]
theorem excT_inj {C C' x T T':Addr} {d d':Option Addr} (h:ExcT C d x T=ExcT C' d' x T'):C=C'∧d=d'∧T=T':=by
 have h:(HO.ext fun h=>∃ vs sl,h.get? x=some ⟨.ref C,d,.fields vs,sl⟩∧vs[1]?=some (.ref T))=HO.ext fun h=>∃ vs sl,h.get? x=some ⟨.ref C',d',.fields vs,sl⟩∧vs[1]?=some (.ref T'):=h
 injection h with h
 have e:=congrFun h ((Zfx x).push ⟨.ref C,d,.fields #[.none,.ref T],#[]⟩)
 have g:((Zfx x).push ⟨.ref C,d,.fields #[.none,.ref T],#[]⟩).get? x=some ⟨.ref C,d,.fields #[.none,.ref T],#[]⟩:=Heap.get?_push_at (Zeu x).symm rfl
 have q:=e.mp ⟨_,_,g,rfl⟩
 obtain ⟨vs,sl,e1,e2⟩:=q
 rw [g] at e1
 cases e1
 cases e2
 exact ⟨rfl,rfl,rfl⟩
def XR (H:Hp) (x C:Addr) (d:Option Addr) (fs:List (Str × V)):Prop:=(∃ dx,d=some dx∧dx≠x∧H dx=some (ExcD dx fs))∧∃ T,H x=some (ExcT C d x T)
theorem xr_new {H1 H2:Hp} {y C dx T:Addr} {fs:List (Str × V)} (hy:H1 y=none) (s:Same H1 H2) (e:H2 y=some (ExcO C dx y)) (ed:H2 dx=some (ExcD dx fs)) (hT:H2 T=none) (nd:dx≠y) :
  XR (thrown H2 y C (some dx) T) y C (some dx) fs∧Same H1 (thrown H2 y C (some dx) T) :=
 ⟨⟨⟨dx,rfl,nd,by rw [Zbk nd (Zad ed hT)]; exact ed⟩,T,Zdr⟩,fun a o ho=>by rw [Zbk (Zad ho hy) (Zad (s a o ho) hT)]; exact s a o ho⟩
theorem xr_on {H H1:Hp} {x C C':Addr} {d:Option Addr} {T T2:Addr} {fs:List (Str × V)} (hx:H1 x=none) (s:Same H1 H) (r:XR H x C d fs) (fl:Flown H x C' d T) (hT:H T2=none) :
  C=C'∧XR (thrown H x C' d T2) x C d fs∧Same H1 (thrown H x C' d T2):=by
 obtain ⟨⟨dx,rfl,nd,ed⟩,T',e⟩:=r
 have q:C=C':=by
  have:=fl.1
  rw [e] at this
  exact (excT_inj (Option.some.inj this)).1
 subst q
 exact ⟨rfl,⟨⟨dx,rfl,nd,by rw [Zbk nd (Zad ed hT)]; exact ed⟩,T2,Zdr⟩,fun a o ho=>by rw [Zbk (Zad ho hx) (Zad (s a o ho) hT)]; exact s a o ho⟩
def Rf (H:Hp) (E:XK) (C:Addr) (P:List (Str × V)→Hp→Prop):Prop:=∀ x d fs H',H x=none→Same H H'→XR H' x C (some d) fs→P fs H'→E (.ref x) (some d) H'
theorem Rf.raise {H H1 H2:Hp} {E:XK} {C y dx T:Addr} {P:List (Str × V)→Hp→Prop} {fs:List (Str × V)} (r:Rf H E C P) (s1:Same H H1) (hy:H1 y=none) (s:Same H1 H2) (e:H2 y=some (ExcO C dx y)) (ed:H2 dx=some (ExcD dx fs)) (nd:dx≠y)
  (hT:H2 T=none) (p:P fs (thrown H2 y C (some dx) T)):E (.ref y) (some dx) (thrown H2 y C (some dx) T):=by
 obtain ⟨a,b⟩:=xr_new hy s e ed hT nd
 have hy0:H y=none:=by
  cases q:H y with
  | none=>rfl
  | some o=>rw [s1 y o q] at hy; cases hy
 exact r y dx fs _ hy0 (s1.trans b) a p
def XE (H:Hp) (R:Addr→List (Str × V)→Hp→Prop):XK:=fun v d H'=>∃ x C dx fs,v=.ref x∧d=some dx∧H x=none∧Same H H'∧XR H' x C (some dx) fs∧R C fs H'
theorem XE.rf {H:Hp} {R:Addr→List (Str × V)→Hp→Prop} {C:Addr} {P:List (Str × V)→Hp→Prop} (h:∀ fs H',P fs H'→R C fs H'):Rf H (XE H R) C P:=fun x d fs H' hx s r p=>⟨x,C,d,fs,rfl,rfl,hx,s,r,h fs H' p⟩
theorem XE.on {H H0:Hp} {R:Addr→List (Str × V)→Hp→Prop} {E:XK} (s0:Same H0 H) (st:∀ C fs H' x C' d T2,R C fs H'→(∃ φ,H' x=some (.ext φ))→H' T2=none→R C fs (thrown H' x C' d T2)) (hE:∀ C,Rf H0 E C (R C)) :
  ∀ x C d T T2 H',XE H R (.ref x) d H'→Flown H' x C d T→H' T2=none→T2≠x→E (.ref x) d (thrown H' x C d T2):=by
 rintro x C d T T2 H' ⟨x',C',dx,fs,ev,rfl,hx,s,r,p⟩ fl hT2 nT2
 obtain rfl:x=x':=Value.ref.inj ev
 have hx0:H0 x=none:=by
  cases q:H0 x with
  | none=>rfl
  | some o=>rw [s0 x o q] at hx; cases hx
 obtain ⟨rfl,r2,s2⟩:=xr_on hx s r fl hT2
 exact hE C' x dx fs _ hx0 (s0.trans s2) r2 (st C' fs H' x C' (some dx) T2 p ⟨_,fl.1⟩ hT2)
def Stb (P:List (Str × V)→Hp→Prop):Prop:=∀ fs H' x C' d T2,P fs H'→(∃ φ,H' x=some (.ext φ))→H' T2=none→P fs (thrown H' x C' d T2)
def RU (H:Hp) (E:XK):Addr→List (Str × V)→Hp→Prop:=fun C fs H'=>∃ P,Rf H E C P∧P fs H'∧Stb P
theorem pass_u {H:Hp} {E:XK}:∀ x C d T T2 H',XE H (RU H E) (.ref x) d H'→Flown H' x C d T→H' T2=none→T2≠x→E (.ref x) d (thrown H' x C d T2) :=
 XE.on (Same.refl H) (fun C fs H' x C' d T2 ⟨P,r,p,st⟩ hx hT=>⟨P,r,st fs H' x C' d T2 p hx hT,st⟩) fun C x d fs H' hx s r ⟨P,rf,p,_⟩=>rf x d fs H' hx s r p
theorem rf_u {H H2:Hp} {E:XK} {C:Addr} {P:List (Str × V)→Hp→Prop} (s:Same H H2) (r:Rf H E C P) (st:Stb P):Rf H2 (XE H (RU H E)) C P:=fun x d fs H' hx s2 xr p=>by
 have hx0:H x=none:=by
  cases q:H x with
  | none=>rfl
  | some o=>rw [s x o q] at hx; cases hx
 exact ⟨x,C,d,fs,rfl,rfl,hx0,s.trans s2,xr,P,r,p,st⟩
end L2
namespace L2
open PySem PySem.Spec PyProof.Rows PySem.W
section
variable {X:Cx} {pins:List (Addr × Obj)} {σ:St} {H:Hp} {s:Shared}
theorem Zhq {M:Model} {A:Around} {E:Value→Shared→Prop} {i:Nat} {n:Str} {pos:Pos} {Q:Unit→Shared→Prop} (I:Inv X pins σ H s) (hN:X.N.Nodup) (hi:X.N[i]?=some n) (hk:X.env.scope.names.lookup n=some .local)
    (h:∀ s',Inv X pins (σ.set i none) H s'→Q () s'):wpAny M A (do bindName X.env n .none; unbindBehindTheSuite X.env n pos) Q E s:=by
  obtain ⟨m,hn,hl⟩:=id I.loc
  have hcls:(X.env.scope.kind == .class || (X.env.scope.kind == .module && X.env.locals != X.env.globals))=false:=by rw [I.ok.kind]; rfl
  have hiσ:i < σ.length:=by rw [I.len]; exact (List.getElem?_eq_some_iff.mp hi).1
  refine wpAny_nameGoes_keeps hk hn hcls fun h' v hn' hs=>h _ ?_
  have nl:∀ b o,X.s₀.heap.get? b=some o→b≠X.env.locals:=fun b o e=>Nat.ne_of_lt (Nat.lt_of_lt_of_le (Heap.lt_size e) I.ok.above)
  refine ⟨I.ok,I.os,I.bare,⟨fun b o e z hb hx=>(hs.2 b (nl b o e)).trans (I.base.keep b o e z hb hx),fun b o e z hb hx=>?_,I.base.free,fun b o e hx=>?_,I.base.tups,I.base.frzs,I.base.tbls⟩,⟨_,hn',fun j y v' e1 e2 e3=>?_⟩,fun y c e=>?_,I.free,I.freeC,fun p hp=>?_,fun b ob e=>?_,by simpa using I.len⟩
  · obtain ⟨sl,e1⟩:=I.base.slot b o e z hb hx
    exact ⟨sl,(hs.2 b (nl b o e)).trans e1⟩
  · obtain ⟨o',e1⟩:=I.base.there b o e hx
    exact ⟨o',(hs.2 b (nl b o e)).trans e1⟩
  · by_cases hj:j=i
    · subst hj
      rw [List.getElem?_set_self hiσ] at e2
      cases e2
    · rw [List.getElem?_set_ne (Ne.symm hj)] at e2
      obtain ⟨u',r',q⟩:=hl j y v' e1 e2 e3
      refine ⟨u',r',?_⟩
      rcases q with ⟨k,e⟩ | ⟨k,c,e,z⟩
      · have ny:y≠n:=fun e=>hj (Zhk hN e1 (e ▸ hi))
        exact .inl ⟨k,by simp [ny,e]⟩
      · exact .inr ⟨k,c,e,z.sameBut hs (I.cne y c e)⟩
  · obtain ⟨w',z⟩:=I.cell y c e
    exact ⟨w',z.sameBut hs (I.cne y c e)⟩
  · obtain ⟨e,z,ne,nf,d⟩:=I.pin p hp
    exact ⟨(hs.2 p.1 ne).trans e,z,ne,nf,d⟩
  · refine (I.hok b ob e).stay (fun c w' hc q=>(hs.2 c ?_).trans q) (fun _ q=>q) fun _ _ q=>q
    rintro rfl
    rcases hc with hc | hc
    · rw [← hc,I.free] at e; cases e
    · rw [I.free] at hc; cases hc
abbrev Cx.suite (X:Cx) (x:Addr):Cx:={ X with A:=X.A.mark (some (.ref x)),calm:=false,xe:=fun _ _=>False }
theorem Inv.suite (I:Inv X pins σ H s) (x:Addr):Inv (X.suite x) pins σ H s :=
 ⟨⟨I.ok.mod,I.ok.kind,I.ok.glob,I.ok.blt,I.ok.above,I.ok.inj,I.ok.has,I.ok.cab,(fun z=>nomatch z),I.ok.frames,I.ok.stk,I.ok.exf,I.ok.bs,I.ok.bsz,I.ok.noex,I.ok.exfs,I.ok.funs,I.ok.frf⟩,I.os,I.bare,I.base,I.loc,I.cell,I.free,I.freeC,I.pin,I.hok,I.len⟩
theorem Inv.unsuite {ok:X.Ok} {x:Addr} (I:Inv (X.suite x) pins σ H s):Inv X pins σ H s :=
 ⟨ok,I.os,I.bare,I.base,I.loc,I.cell,I.free,I.freeC,I.pin,I.hok,I.len⟩
end
end L2
namespace L2
open PySem PySem.Spec PyProof.Rows PySem.W
def PX (X:Cx) (e:Expr) (t:TE) (E:XK):Prop:=∀ (pins:List (Addr × Obj)) (s:Shared) (σ:St) (H:Hp) (Q:VK) (Ex:Value→Shared→Prop),Inv X pins σ H s→t σ H Q →
 (∀ x T C d H' s',Inv X pins σ H' s'→Flown H' x C d T→E (.ref x) d H'→Ex (.ref x) s')→wpAny (model X.prog X.w) X.A (eval e X.env) (EP X pins σ Q) Ex s
section
variable {X:Cx} {k j:Nat} {x:Str} {C:Addr} {ps:List Str} {sp:Sp} {p pos:Pos} {e:Expr} {es:List Expr} {t:TA} {E:XK}
end
theorem match_sub {M:Model} {A:Around} {E:Value→Shared→Prop} {s:Shared} {K:Frag} {G C e:Addr} {d:Option Addr} {dt:Data} {sl':Array (Option Value)} {Q:Bool→Shared→Prop} (X:K.In s.heap) (hG:PySem.W.excIn K G vErr "ValueError.__new__"=true)
  (he:s.heap.get? e=some ⟨.ref C,d,dt,sl'⟩) (hs:mroIn K C (.ref G)=some true) (h:Q true s):wpAny M A (excMatches (.ref e) (.ref G)) Q E s:=by
 have LS:=looks_mroIn (M:=M) X hs
 obtain ⟨hp,g,dr,tk,os⟩:=s
 have q:=hG
 unfold PySem.W.excIn at q
 split at q
 ·rename_i dd cd sl ho
  split at q
  ·rename_i C' bm k0 k1 k2 k3 n k5 hm hs
   simp only [Bool.and_eq_true,beq_iff_eq,Bool.not_eq_true'] at q
   obtain ⟨⟨⟨⟨⟨rfl,rfl⟩,hdel⟩,ht⟩,hok⟩,hni⟩:=q
   obtain ⟨nm,bs,mro,ns,qn,hd,sn,sub,ab,col,del⟩:=cd
   dsimp only at hm hdel hok hni
   subst hm hdel
   have hsl:sl=#[k0,k1,k2,k3,some (.builtin "ValueError.__new__"),k5]:=by
    obtain ⟨l⟩:=sl
    simp only at hs
    rw [hs]
   subst hsl
   have hC:hp.get? C'=some (excClassObj nm qn C' ns bs bm hd sn sub ab col dd k0 k1 k2 k3 k5 "ValueError.__new__"):=X _ _ ho
   have hcB:(Value.ref C' :: bm).contains (.type "BaseException")=true:=by
    rw [List.contains_cons,(tail_of_in X ht).hasType (show vErr.contains (.type "BaseException")=true by decide +kernel)]; exact Bool.or_true _
   have f:=tc_notTuple
   unfold excMatches
   repeat (first | with_reducible refine wpAny_loadPart_at he ?_ | with_reducible refine wpAny_loadPart_at hC ?_ | (with_reducible refine wpAny_isSubtype_exc hC ?_; rw [hcB]) | (with_reducible refine LS.at ?_) | wp_step)
   exact h
  ·cases q
 ·cases q
def goneD (im:Nat) (D:Ends):Ends:={ nx:=fun σ H=>D.nx (σ.set im none) H,rt:=D.rt,bk:=fun σ H=>D.bk (σ.set im none) H,ct:=fun σ H=>D.ct (σ.set im none) H }
section
variable {X:Cx} {i im:Nat} {n m g:Str} {G:Addr} {value:Expr} {b₀:Stmt} {suite:List Stmt} {np apos gp hpos pos:Pos} {te:XK→TE} {ts:TS}
end
end L2
namespace L2
open PySem PySem.Spec PyProof.Rows
def tCompF (wi:TI) (g:TG) (tc:TT) (te:TE) (fr:List (Option Nat)):TE:=fun σ H Q=>wi σ H fun J H1=>∀ acc,H1 acc=none→∃ W:Nat→Nat→St→Hp→Prop,(∃ m,W 0 m (stC fr σ) (upd H1 acc (.lst [])))∧∀ i m σ1 H2,W i m σ1 H2 →
 (J.stop i H2∧Q (.ref acc) H2)∨(J.go i H2∧∀ x H3,J.yld i H2 x H3→g x σ1 H3 fun σ4 H4=>tc σ4 H4 fun b Hb=>match b with
  | true=>te σ4 Hb fun v H5=>∃ xs,H5 acc=some (.lst xs)∧xs.length < sizeLine∧∃ m',m' < m∧W (i+1) m' σ4 (upd H5 acc (.lst (xs++[v])))
  | false=>∃ m',m' < m∧W (i+1) m' σ4 Hb)
section
variable {prog:Program} {w:World} {A:Around} {R:Result→Shared→Prop} {s:Shared}
theorem Zhy {elt target iter cnd:Expr} {scope:Scope} {pos:Pos} {it acc:Value} {env:Env} (I:Nat→Shared→Prop)
    (turn:∀ n s,I n s→wpAny (model prog w) A (pyNext it) (fun r s₁=>match r with
      | none=>R (.ok .next) s₁
      | some v=>wpAny (model prog w) A (letOwnedTupleGo target it v) (fun _ s₁=>wpAny (model prog w) A (assign target env v) (fun _ s₂ =>
          wpAny (model prog w) A (forIn [cnd] true fun c r=>if r=true then do let ok ← isTrue c env (eval c env); pure (ForInStep.yield ok) else pure (ForInStep.yield r)) (fun ok s₃ =>
            if ok=true then wpAny (model prog w) A (eval elt env) (fun x s₄=>wpAny (model prog w) A (call (.builtin "list.append") [acc,x]) (fun _ s₅=>∃ m,m < n∧I m s₅) (notedBy (model prog w) A env fun e s'=>R (.error e) s') s₄)
              (notedBy (model prog w) A env fun e s'=>R (.error e) s') s₃
            else ∃ m,m < n∧I m s₃) (notedBy (model prog w) A env fun e s'=>R (.error e) s') s₂)
          (notedBy (model prog w) A env fun e s'=>R (.error e) s') s₁) (notedBy (model prog w) A env fun e s'=>R (.error e) s') s₁) (notedBy (model prog w) A env fun e s'=>R (.error e) s') s)
    (n:Nat) (h:I n s) :
    codeAny (model prog w) A (.compLoop (.ListComp elt [⟨target,iter,[cnd],0⟩] scope pos) 0 it acc env) R s:=by
  refine codeAny_loop rfl I (fun n s hI=>?_) n h
  show wpAny _ _ ((compTurn (.ListComp elt [⟨target,iter,[cnd],0⟩] scope pos) 0 it acc env).onRaise (fun x=>do noteFrame x env; theTreesLotGoes x)) _ _ s
  refine wpAny_noted ?_
  rw [compTurn_list]
  refine wpAny_bind (wpAny_standAt (wpAny_bind (wpAny_mono (turn n s hI) (fun r s₁ h₁=>?_) fun _ _ h'=>h')))
  cases r with
  | none=>exact wpAny_pure h₁
  | some v =>
    refine wpAny_bind (wpAny_mono h₁ (fun _ s₁ h₁=>?_) fun _ _ h'=>h')
    refine wpAny_bind (wpAny_mono h₁ (fun _ s₂ h₂=>wpAny_bind (wpAny_mono h₂ (fun ok s₃ h₃=>?_) fun _ _ h'=>h')) fun _ _ h'=>h')
    cases ok with
    | false=>exact wpAny_pure ⟨rfl,h₃⟩
    | true=>exact wpAny_bind (wpAny_bind (wpAny_mono h₃ (fun x s₄ h₄=>wpAny_bind (wpAny_mono h₄ (fun _ s₅ h₅=>wpAny_pure (wpAny_pure ⟨rfl,h₅⟩)) fun _ _ h'=>h')) fun _ _ h'=>h'))
end
section
variable {X:Cx} {elt tg iter:Expr} {scope:Scope} {pos:Pos} {wi:TI} {g:TG} {te:TE} {N:List Str} {fr:List (Option Nat)}
variable {cnd:Expr} {tc:TT}
theorem Zg0 {pins:List (Addr × Obj)} {σ:St} {H:Hp} {s:Shared} {Q:VK} {cl:List (Str × Addr)} {R:Value→Addr→Result→Shared→Prop} (hc:X.calm=true) (I:Inv X pins σ H s) (hi:PI X tg iter wi)
  (hg:∀ cl C s H ex,PG (compCx X scope cl N C s H ex) tg g) (hcn:∀ cl C s H ex,PT (compCx X scope cl N C s H ex) cnd tc) (he:∀ cl C s H ex,PE (compCx X scope cl N C s H ex) elt te) (ck:Zf4 X.env.scope X.N scope N fr)
  (c1:∀ x c,cl.lookup x=some c→X.env.cells.lookup x=some c) (c2:∀ x,(x,NameKind.free)∈scope.names→∃ c,cl.lookup x=some c)
  (h:tCompF wi g tc te fr σ H Q)
  (hR:∀ acc C s' H' m,s'.heap.Ns C m→FpOk X pins H' C→Inv X pins σ H' s'→Q (.ref acc) H'→R (.ref acc) C (.ok .next) s') :
  wpAny (model X.prog X.w) X.A (eval iter X.env) (fun x s₁=>wpAny (model X.prog X.w) X.A (pyIter x) (fun it s₂=>wpAny (model X.prog X.w) X.A (newList []) (fun acc s₃ =>
   wpAny (model X.prog X.w) X.A (newFunctionEnv scope X.env.globals cl [] X.env.qual none .none (some X.env)) (fun cenv s₄ =>
    codeAny (model X.prog X.w) X.A (.compStart (.ListComp elt [⟨tg,iter,[cnd],0⟩] scope pos) 0 it acc { cenv with scope:=relabel scope X.env }) (R acc cenv.locals) s₄) X.xe s₃) X.xe s₂) X.xe s₁) X.xe s:=by
 refine thn (hi pins s σ H _ I h) fun v s1 h1=>thn h1 fun itv s2 h2=>?_
 obtain ⟨it,fp,tn,J,H2,e,I2,T,st2,f2,q2⟩:=h2
 subst e
 refine wpAny_newObj_type (wpAny_newFunctionEnv ck.nocell (by intro y hy; simp at hy) (fun h₁ hns₁ hsb₁=>?_) ck.kind)
 dsimp only at hns₁ hsb₁ ⊢
 have I3:Inv X pins σ (upd H2 s2.heap.objs.size (.lst [])) { s2 with heap:=s2.heap.push { cls:=.type "list",dict:=none,data:=.seq ([]:List Value).toArray } }:=I2.lnew (t':=s2.toks) (its:=[]) .nil (Nat.zero_le _)
 have acc0:H2 s2.heap.objs.size=none:=I2.fresh
 obtain ⟨W,⟨m0,w0⟩,turn⟩:=q2 s2.heap.objs.size acc0
 generalize hH3:s2.heap.push { cls:=.type "list",dict:=none,data:=.seq ([]:List Value).toArray }=h3 at hns₁ hsb₁ I3 ⊢
 have hz3:h3.objs.size=s2.heap.objs.size+1:=by rw [← hH3,Heap.size_push]
 have k23:∀ b o,s2.heap.get? b=some o→h3.get? b=some o:=fun b o e=>by rw [← hH3]; exact Heap.get?_push_of_some _ e
 have k34:∀ b o,h3.get? b=some o→h₁.get? b=some o:=fun b o e=>hsb₁.extBut b o (Nat.ne_of_lt (Heap.lt_size e)) (Heap.get?_push_of_some _ e)
 have fpo:∀ b∈fp,∃ o,s2.heap.get? b=some o∧∀ v,o.data≠.cell v:=T.obj 0 _ st2
 have hex:∀ b∈fp,FpOk X pins (upd H2 s2.heap.objs.size (.lst [])) b∧b < h3.objs.size:=fun b hb=>by
  obtain ⟨o,eo,_⟩:=fpo b hb
  have lt:=Heap.lt_size eo
  obtain ⟨f0,fr'⟩:=f2 b hb
  exact ⟨⟨by rw [Zag (Nat.ne_of_lt lt)]; exact f0,fr'⟩,by rw [hz3]; exact Nat.lt_succ_of_lt lt⟩
 have I4:Inv (compCx X scope cl N h3.objs.size { s2 with heap:=h3 } (upd H2 s2.heap.objs.size (.lst [])) fp) [] (stC fr σ) (upd H2 s2.heap.objs.size (.lst [])) { s2 with heap:=h₁,toks:=s2.toks+([]:List (Str × Value)).length } :=
  Zgz I3 ck c1 c2 hex (Nat.le_refl _) hns₁ k34 rfl rfl
 have stat:∀ {H':Hp},(∀ b∈fp,H' b=none)→∀ b∈fp,FpOk (compCx X scope cl N h3.objs.size { s2 with heap:=h3 } (upd H2 s2.heap.objs.size (.lst [])) fp) [] H' b:=fun hn b hb =>
  ⟨hn b hb,(I4.ok.exf b hb).1,I4.ok.exfs b hb,.inl hb,(I4.ok.exf b hb).2,fun p hp=>by simp at hp⟩
 have stn:∀ i h h',tn i h→(∀ b o,h.get? b=some o→h'.get? b=some o)→tn i h':=fun i h h' st kk=>T.keep i h h' st fun b _ o e=>kk b o e
 have loop:codeAny (model X.prog X.w) X.A (.compLoop (.ListComp elt [⟨tg,iter,[cnd],0⟩] scope pos) 0 (.ref it) (.ref s2.heap.objs.size) (compEnvC scope cl h3.objs.size X.env)) (R (.ref s2.heap.objs.size) h3.objs.size)
   { s2 with heap:=h₁,toks:=s2.toks+([]:List (Str × Value)).length }:=by
  refine Zhy (fun n s'=>∃ i σ' H',Inv (compCx X scope cl N h3.objs.size { s2 with heap:=h3 } (upd H2 s2.heap.objs.size (.lst [])) fp) [] σ' H' s'∧tn i s'.heap∧(∀ b∈fp,H' b=none)∧W i n σ' H') ?_ m0
   ⟨0,_,_,I4,stn _ _ _ st2 fun b o e=>k34 b o (k23 b o e),fun b hb=>(hex b hb).1.1,w0⟩
  rintro n s3 ⟨i,σ3,H3,J3,st3,fr3,w3⟩
  rcases turn i n σ3 H3 w3 with ⟨stop,qn⟩ | ⟨go,step⟩
  ·refine Zb9 (thn (T.done (compCx X scope cl N h3.objs.size { s2 with heap:=h3 } (upd H2 s2.heap.objs.size (.lst [])) fp) rfl rfl rfl hc i [] s3 σ3 H3 (fun _ _=>False) J3 (stat fr3) st3 stop) fun r s4 ⟨hr,J4⟩=>?_)
   subst hr
   obtain ⟨mc,hmc,_⟩:=J4.loc
   have I5:Inv X pins σ H3 s4:=I3.call' (ch:=fp) J4.os J4.base J4.hok J4.bare fun b hb=>⟨(hex b hb).1.2.2.2.1,(hex b hb).1.2.1,(hex b hb).1.2.2.2.2.1,(hex b hb).1.2.2.2.2.2⟩
   exact hR _ _ s4 H3 mc hmc (I3.fpOk (Nat.le_refl _) J4.free) I5 qn
  ·refine Zb9 (thn (T.item (compCx X scope cl N h3.objs.size { s2 with heap:=h3 } (upd H2 s2.heap.objs.size (.lst [])) fp) rfl rfl rfl hc i [] s3 σ3 H3 (fun _ _=>False) J3 (stat fr3) st3 go) fun r s4 ⟨u,hr,h4⟩=>?_)
   subst hr
   refine Zb9 (thn h4 fun _ s5 ⟨x,H5,J5,r5,y5,st5,fr5⟩=>?_)
   have J5':=J5.pinned (stat fr5) (T.obj _ _ st5)
   refine Zb9 (thn (hg _ _ _ _ _ _ s5 σ3 H5 x u _ J5' r5 (step x H5 y5)) fun _ s6 ⟨σ6,H6,J6,q6⟩=>?_)
   refine wpAny_tests_one (Zb9 (thn (hcn _ _ _ _ _ _ s6 σ6 H6 _ J6 q6) fun b sb ⟨Hb,Jb,qb⟩=>?_))
   cases b with
   | false =>
    obtain ⟨m',hm',w7⟩:=qb
    refine ite_ff ⟨m',hm',i+1,σ6,_,Jb.unpinned,T.keep _ _ _ st5 fun b hb o e=>(Jb.pin (b,o) (List.mem_append_right _ (List.mem_append_right _ (Zbu hb e)))).1,fun b hb=>?_,w7⟩
    obtain ⟨o,e,d⟩:=T.obj _ _ st5 b hb
    exact (Jb.pin (b,o) (List.mem_append_right _ (List.mem_append_right _ (Zbu hb e)))).2.1
   | true =>
    refine ite_tt ?_
    refine Zb9 (thn (he _ _ _ _ _ _ sb σ6 Hb _ Jb qb) fun y s7 ⟨v7,H7,J7,r7,xs,hx,hz,m',hm',w7⟩=>?_)
    refine Zb9 (thn (Za9 _ s7 σ6 H7 (.ref s2.heap.objs.size) [v7] (.ref s2.heap.objs.size) [y] (fun v H8=>H8=upd H7 s2.heap.objs.size (.lst (xs++[v7]))) J7 rfl (.cons r7 .nil) ⟨_,xs,v7,rfl,rfl,hx,hz,rfl⟩) fun _ s8 ⟨_,H8,J8,_,e8⟩=>?_)
    subst e8
    refine ⟨m',hm',i+1,σ6,_,J8.unpinned,T.keep _ _ _ st5 fun b hb o e=>(J8.pin (b,o) (List.mem_append_right _ (List.mem_append_right _ (Zbu hb e)))).1,fun b hb=>?_,w7⟩
    obtain ⟨o,e,d⟩:=T.obj _ _ st5 b hb
    exact (J8.pin (b,o) (List.mem_append_right _ (List.mem_append_right _ (Zbu hb e)))).2.1
 exact codeAny_compStart_list loop (T.self _ 0 _ _ _ (stn _ _ _ st2 fun b o e=>k34 b o (k23 b o e)) loop)
theorem Ze6 (hc:X.calm=true) (hi:PI X tg iter wi) (hg:∀ cl C s H ex,PG (compCx X scope cl N C s H ex) tg g) (hcn:∀ cl C s H ex,PT (compCx X scope cl N C s H ex) cnd tc) (he:∀ cl C s H ex,PE (compCx X scope cl N C s H ex) elt te)
  (hk:Zf1 X.env.scope X.N scope N fr=true:=by rfl) (hs:∀ x,foldedSetIterable iter X.env x=pure x:=by intro _; rfl):PE X (.ListComp elt [⟨tg,iter,[cnd],0⟩] scope pos) (tCompF wi g tc te fr):=by
 intro pins s σ H Q I h
 have ck:=Zel hk
 obtain ⟨cl,e1,c1,c2⟩:=Zkg I.ok ck
 rw [eval_ListComp]
 refine wpAny_comprehension_free (use:=none) (Q:=EP X pins σ Q) rfl hs e1 ck.kind ck.loc (Zg0 (R:=fun acc C=>compPost (model X.prog X.w) X.A X.xe none (EP X pins σ Q) acc C) hc I hi hg hcn he ck c1 c2 h fun acc C s' H' m hn f I' q=>?_)
 obtain ⟨f0,f1,f2,f3,f4,f5⟩:=f
 exact ⟨m,hn,fun h' hs'=>⟨.ref acc,H',I'.turned (t':=s'.toks) (fun b o hb e=>hs'.extBut b o hb e) f0 f1 f3 f4 f5,rfl,q⟩⟩
theorem Zfe {y:Str} {py spos:Pos} {gy:TG} (hc:X.calm=true) (hy:PG X (.Name y py) gy) (hi:PI X tg iter wi) (hg:∀ cl C s H ex,PG (compCx X scope cl N C s H ex) tg g) (hcn:∀ cl C s H ex,PT (compCx X scope cl N C s H ex) cnd tc) (he:∀ cl C s H ex,PE (compCx X scope cl N C s H ex) elt te)
    (hk:Zf1 X.env.scope X.N scope N fr=true:=by rfl) (hsw:swapsWith (.ListComp elt [⟨tg,iter,[cnd],0⟩] scope pos) (some (.Name y py)) spos.line X.env=pure true:=by rfl) (hs:∀ x,foldedSetIterable iter X.env x=pure x:=by intro _; rfl) :
    PS X (.Assign [.Name y py] (.ListComp elt [⟨tg,iter,[cnd],0⟩] scope pos) spos) (tAsg (tCompF wi g tc te fr) gy):=by
  intro pins s σ H D I h
  have ck:=Zel hk
  obtain ⟨cl,e1,c1,c2⟩:=Zkg I.ok ck
  rw [exec_Assign_Name_used _ _ _ _ hsw]
  refine wpAny_bind (wpAny_standAt (wpAny_bind ?_))
  show wpAny _ X.A (do let _ ← comprehension (.ListComp elt [⟨tg,iter,[cnd],0⟩] scope pos) scope X.env _ (newList []) false (eval iter X.env) (some (assign (.Name y py) X.env))) _ _ s
  refine wpAny_bind (wpAny_mono (wpAny_comprehension_free (use:=some (assign (.Name y py) X.env)) (Q:=fun _ s'=>SP X pins D .next s') rfl hs e1 ck.kind ck.loc
    (Zg0 (R:=fun acc C=>compPost (model X.prog X.w) X.A X.xe (some (assign (.Name y py) X.env)) (fun _ s'=>SP X pins D .next s') acc C) hc I hi hg hcn he ck c1 c2 h fun acc C s' H' m hn f I' q=>?_)) (fun _ s' hq=>wpAny_pure (wpAny_pure hq)) fun _ _ e=>e)
  show wpAny _ X.A (assign (.Name y py) X.env (.ref acc)) _ _ _
  obtain ⟨oC,es,ep,hoC,hdC,hrC⟩:=id hn
  have IP:=I'.pinned (fp:=[C]) (fun b hb=>by rw [List.mem_singleton.mp hb]; exact f) (fun b hb=>by rw [List.mem_singleton.mp hb]; exact ⟨oC,hoC,fun v z=>by rw [hdC] at z; cases z⟩)
  refine thn (hy _ s' σ H' (.ref acc) (.ref acc) _ IP rfl q) fun _ s'' ⟨σ6,H6,I6,q6⟩=>?_
  have pC:=I6.pin (C,oC) (List.mem_append_right _ (List.mem_append_right _ (Zbu (List.mem_singleton.mpr rfl) hoC)))
  obtain ⟨f0,f1,f2,f3,f4,f5⟩:=f
  exact ⟨m,⟨oC,es,ep,pC.1,hdC,hrC⟩,fun h' hs'=>⟨σ6,H6,I6.unpinned.turned (t':=s''.toks) (fun b o hb e=>hs'.extBut b o hb e) pC.2.1 f1 f3 f4 f5,q6⟩⟩
end
end L2
namespace L2
open PySem PySem.Spec PyProof.Rows
section
variable {X:Cx} {a b c d:Expr} {ta tb tc td:TE} {pos:Pos}
theorem Zhn {K:PySem.W.Frag} (hK:X.K=K:=by rfl):IxR X (rIxT K):=by subst hK; exact Zaj
theorem ix_listK {K:PySem.W.Frag} (hK:X.K=K:=by rfl):IxR X (rIxL K):=by subst hK; exact Za8
end
def fW (acc:Addr) (n:Nat) (Pv:Nat→List V→St→Hp→Prop) (i m:Nat) (σ:St) (H:Hp):Prop:=i≤n∧m=n - i∧∃ xs,xs.length≤i∧H acc=some (.lst xs)∧Pv i xs σ H
def fNx (acc:Addr) (n:Nat) (Pv:Nat→List V→St→Hp→Prop) (i:Nat) (σ:St) (v:V) (H:Hp):Prop:=∃ xs,H acc=some (.lst xs)∧xs.length < sizeLine∧∃ m',m' < n - i∧fW acc n Pv (i+1) m' σ (upd H acc (.lst (xs++[v])))
def fSk (acc:Addr) (n:Nat) (Pv:Nat→List V→St→Hp→Prop) (i:Nat) (σ:St) (H:Hp):Prop:=∃ m',m' < n - i∧fW acc n Pv (i+1) m' σ H
theorem fNx.mk {acc:Addr} {n:Nat} {Pv:Nat→List V→St→Hp→Prop} {i:Nat} {σ:St} {v:V} {H:Hp} {xs:List V} (hn:n≤sizeLine) (hi:i < n) (hl:xs.length≤i) (ha:H acc=some (.lst xs)) (hp:Pv (i+1) (xs++[v]) σ (upd H acc (.lst (xs++[v])))) :
  fNx acc n Pv i σ v H:=⟨xs,ha,by omega,n - (i+1),by omega,hi,rfl,xs++[v],by rw [List.length_append,List.length_singleton]; omega,upd_same,hp⟩
theorem fSk.mk {acc:Addr} {n:Nat} {Pv:Nat→List V→St→Hp→Prop} {i:Nat} {σ:St} {H:Hp} {xs:List V} (hi:i < n) (hl:xs.length≤i) (ha:H acc=some (.lst xs)) (hp:Pv (i+1) xs σ H):fSk acc n Pv i σ H:=⟨n - (i+1),by omega,hi,rfl,xs,by omega,ha,hp⟩
theorem Zdl {K:PySem.W.Frag} {a:Addr} {ys:List V} {g:TG} {tc:TT} {te:TE} {σ:St} {H1:Hp} {acc:Addr} {Qr:Hp→Prop} (Pv:Nat→List V→St→Hp→Prop) (h0:Pv 0 [] σ (upd H1 acc (.lst [])))
  (hq:∀ i xs σ H,i≤ys.length→H acc=some (.lst xs)→Pv i xs σ H→SqL K H a ys)
  (hs:∀ i x xs σ H,ys[i]?=some x→i < ys.length→xs.length≤i→H acc=some (.lst xs)→Pv i xs σ H→g x σ H fun σ2 H2=>tc σ2 H2 fun b Hb=>match b with
   | true=>te σ2 Hb fun v H3=>fNx acc ys.length Pv i σ2 v H3
   | false=>fSk acc ys.length Pv i σ2 Hb)
  (hd:∀ xs σ H,xs.length≤ys.length→H acc=some (.lst xs)→Pv ys.length xs σ H→Qr H) :
  ∃ W:Nat→Nat→St→Hp→Prop,(∃ m,W 0 m σ (upd H1 acc (.lst [])))∧∀ i m σ1 H2,W i m σ1 H2 →
   ((Itl K a).stop i H2∧Qr H2)∨((Itl K a).go i H2∧∀ x H3,(Itl K a).yld i H2 x H3→g x σ1 H3 fun σ4 H4=>tc σ4 H4 fun b Hb=>match b with
    | true=>te σ4 Hb fun v H5=>∃ xs,H5 acc=some (.lst xs)∧xs.length < sizeLine∧∃ m',m' < m∧W (i+1) m' σ4 (upd H5 acc (.lst (xs++[v])))
    | false=>∃ m',m' < m∧W (i+1) m' σ4 Hb):=by
 refine ⟨fW acc ys.length Pv,⟨ys.length,Nat.zero_le _,rfl,[],Nat.le_refl _,upd_same,h0⟩,?_⟩
 rintro i m σ1 H2 ⟨hi,rfl,xs,hl,ha,hp⟩
 have hsq:=hq i xs σ1 H2 hi ha hp
 rcases Nat.lt_or_ge i ys.length with h | h
 ·refine .inr ⟨⟨ys,ys[i],hsq,List.getElem?_eq_getElem h⟩,?_⟩
  rintro x H3 ⟨rfl,hx⟩
  exact hs i x xs σ1 H3 (hx ys hsq) h hl ha hp
 ·have e:i=ys.length:=Nat.le_antisymm hi h
  subst e
  exact .inl ⟨⟨ys,hsq,Nat.le_refl _⟩,hd xs σ1 H2 hl ha hp⟩
end L2
namespace L2
open PySem PySem.Spec PyProof.Rows PySem.W
section
variable {X:Cx}
end
end L2
namespace L2
open PySem PySem.Spec PyProof.Rows
theorem Paired.get {α β:Type} {F:α→β→Prop}:∀ {l₁:List α} {l₂:List β},Paired F l₁ l₂→∀ {i:Nat} {a:α},l₁[i]?=some a→∃ b,l₂[i]?=some b∧F a b
 | _,_,.nil,i,a,h=>by simp at h
 | _,_,.cons f t,0,a,h=>by
  simp only [List.getElem?_cons_zero,Option.some.injEq] at h
  subst h
  exact ⟨_,rfl,f⟩
 | _,_,.cons f t,i+1,a,h=>by
  simp only [List.getElem?_cons_succ] at h ⊢
  exact Paired.get t h
section
variable {X:Cx}
end
section
variable {X:Cx}
end
section
variable {prog:Program} {w:World} {A:Around} {E:Value→Shared→Prop} {s:Shared}
end
section
variable {X:Cx}
end
section
variable {prog:Program} {w:World} {A:Around} {E:Value→Shared→Prop} {s:Shared} {R:Result→Shared→Prop} {I:Addr} {fp wr:List Addr} {n:Nat} {P:Nat→Value→Prop} {St:Nat→Heap→Prop}
end
section
variable {X:Cx}
end
section
variable {X:Cx} {a:Expr} {ta:TE}
end
end L2
namespace L2
open PySem PySem.Spec PyProof.Rows
section
variable {X:Cx}
end
end L2
namespace L2
open PySem PySem.Spec PyProof.Rows
section
variable {X:Cx} {k j:Nat} {x y:Str} {ps:List Str} {sp:Sp} {p pos:Pos} {e:Expr} {es:List Expr} {tv:TE} {t:TA}
end
section
variable {prog:Program} {w:World} {A:Around} {E:Value→Shared→Prop} {s:Shared} {it d v:Addr} {i n ep:Nat} {od:Obj} {es:Array DictEntry} {k0 v0:Value}
theorem items_made {Q:Value→Shared→Prop} (hs:(d == sysModules)=false) (hT:s.TypeIs (.ref d) "dict")
  (fin:Q (.ref s.heap.objs.size) { s with heap:=s.heap.push { cls:=.type "dict_items",data:=.fields #[.ref d] } }):wpAny (model prog w) A (call (.builtin "dict.items") [.ref d]) Q E s:=by
 refine wpAny_call_entry PySem.F.slot_dict_items hT PySem.F.entry_dict_items ?_ (PySem.F.args_dict_items_1 _)
 unfold Builtin.«dict.items» Builtin.Dict.noArgs
 refine wpAny_bind (wpAny_bind (wpAny_notOrdered_dict hT ?_))
 show wpAny (model prog w) _ (pure d) _ _ s
 refine wpAny_pure ?_
 unfold Builtin.Dict.showsAll
 have no:¬ (d == sysModules)=true:=by rw [hs]; exact Bool.false_ne_true
 rw [if_neg no]
 exact wpAny_bind (wpAny_pure (wpAny_bind (wpAny_newObj_type (wpAny_pure ⟨_,rfl,fin⟩))))
theorem Zka {Q:Value→Shared→Prop} (hv:s.heap.IsItemsView v d) (hd:s.heap.get? d=some od) (dd:od.data=.dict es ep) (hn:es.size=n)
  (fin:Q (.ref s.heap.objs.size) { s with heap:=s.heap.push { cls:=.type "dict_itemiterator",data:=.fields #[.none,.bool false,.ref d,.int 0 0,.int n 0,.int ep 0,.none,.none] } }) :
  wpAny (model prog w) A (pyIter (.ref v)) Q E s:=by
 obtain ⟨ov,g1,g2,g3⟩:=id hv
 refine wpAny_pyIter_slot hv.typeIs PySem.F.slot_dict_items_iter (wpAny_call_entry PySem.F.slot_dict_items_iter hv.typeIs PySem.F.entry_dict_items_iter ?_ (PySem.F.args_dict_items_iter_1 _))
 unfold Builtin.«dict_items.__iter__» Builtin.Dict_items.dictOf Builtin.Dict_items.newIterator
 refine wpAny_bind (wpAny_pure (wpAny_bind (wpAny_bind (wpAny_field g1 g3 (x:=.ref d) rfl (wpAny_pure ?_)))))
 refine wpAny_bind (wpAny_bind (wpAny_dictEntries hd dd (wpAny_bind (wpAny_dictEpoch hd dd ?_))))
 have own:Builtin.Dict_items.ownsTuple "dict_itemiterator"=true:=by decide
 simp only [own,if_true]
 refine wpAny_newObj_type (wpAny_pure ⟨_,rfl,"dict_itemiterator",_,⟨_,Heap.get?_push_size _ rfl,rfl⟩,PySem.F.slot_dict_itemiterator_next.lookup,?_⟩) ?_
 ·subst hn
  simpa [rawInt,Builtin.Dict_items.ownedTupleFields] using fin
 ·simp only [sizeOk,Builtin.Dict_items.ownedTupleFields,List.size_toArray,List.length_append,List.length_cons,List.length_nil,sizeLine_eq]
  omega
theorem next_pair {e:DictEntry} {Q:Option Value→Shared→Prop} (g:IsItemIter s.heap it d i n ep k0 v0) (hd:s.heap.get? d=some od) (dd:od.data=.dict es ep) (hn:es.size=n) (he:es[i]?=some e)
  (fin:∀ h',IsItemIterOut h' it d (i+1) n ep e.key e.val s.heap.objs.size→h'.get? s.heap.objs.size=some { cls:=.type "tuple",data:=.seq #[e.key,e.val] } →
   (∀ b o,b≠it→s.heap.get? b=some o→h'.get? b=some o)→Q (some (.ref s.heap.objs.size)) { s with heap:=h' }):wpAny (model prog w) A (pyNext (.ref it)) Q E s:=by
 obtain ⟨hp,gs,dr,tk,os⟩:=s
 have ty:Shared.TypeIs ⟨hp,gs,dr,tk,os⟩ (.ref it) "dict_itemiterator":=⟨_,g,rfl⟩
 have lt:=(Array.getElem?_eq_some_iff.mp he).1
 unfold pyNext
 refine wpAny_bind (wpAny_attempt (wpAny_callSpecial?_slot (name:=Str.ofString "__next__") ty PySem.F.slot_dict_itemiterator_next (wpAny_call_entry PySem.F.slot_dict_itemiterator_next ty PySem.F.entry_dict_itemiterator_next ?_ (PySem.F.args_dict_itemiterator_next_1 _))))
 refine wpAny_bind (wpAny_pure (wpAny_bind (wpAny_bind ?_)))
 first | refine wpAny_bind (wpAny_typeNameOfWhole_itemiter ty (wpAny_pure ?_)) | refine wpAny_bind (wpAny_typeNameOf_itemiter ty (wpAny_pure ?_))
 refine wpAny_bind (wpAny_fieldsOf g rfl ?_)
 have own:Builtin.Dict_items.ownsTuple "dict_itemiterator"=true:=by decide
 have nn:¬ ((Value.ref d == Value.none)=true):=Bool.false_ne_true
 simp only [own,if_true]
 show wpAny (model prog w) _ (if (Value.ref d == Value.none)=true then _ else _) _ _ _
 rw [if_neg nn]
 refine wpAny_bind (wpAny_pure (wpAny_bind (wpAny_dictEntries hd dd ?_)))
 rw [if_neg (by rw [hn]; simp)]
 refine wpAny_bind (wpAny_pure (wpAny_bind (wpAny_dictEpoch hd dd ?_)))
 rw [if_neg (by simp)]
 refine wpAny_pure ?_
 simp only [show ¬ ((i:Int) < 0) from by omega,if_false,Int.toNat_natCast,he]
 refine wpAny_bind ?_
 first | refine wpAny_bind (wpAny_typeNameOfWhole_itemiter ty (wpAny_pure ?_)) | refine wpAny_bind (wpAny_typeNameOf_itemiter ty (wpAny_pure ?_))
 refine wpAny_bind (wpAny_isOneOf_itemiter ty ?_)
 show wpAny (model prog w) _ (setField (.ref it) 3 (rawInt ((i:Int)+1)) >>= _) _ _ ⟨hp,gs,dr,tk,os⟩
 refine wpAny_bind (wpAny_setField_rec g (by simp) fun h1 g1 b1=>?_)
 replace b1:Heap.SameBut it hp h1:=b1
 replace g1:IsItemIter h1 it d (i+1) n ep k0 v0:=by
  have z:((i+1:Nat):Int)=(i:Int)+1:=by omega
  unfold IsItemIter; rw [z]; simpa [rawInt] using g1
 have ty1:Shared.TypeIs ⟨h1,gs,dr,tk,os⟩ (.ref it) "dict_itemiterator":=⟨_,g1,rfl⟩
 refine wpAny_bind (wpAny_holding (wpAny_bind (wpAny_isOneOf_itemiter ty1 (wpAny_bind (wpAny_isOneOf_itemiter ty1 ?_)))))
 show wpAny (model prog w) _ (Builtin.Dict_items.pairFromOwner (.ref it) 6 e.key e.val) _ _ ⟨h1,gs,dr,tk,os⟩
 unfold Builtin.Dict_items.pairFromOwner Builtin.Dict_items.ownedTupleIsFree
 refine wpAny_bind (wpAny_newTuple ?_)
 have z1:h1.objs.size=hp.objs.size:=b1.1
 have il:it < hp.objs.size:=Heap.lt_size g
 obtain ⟨h2,e2⟩:∃ h2,h2=h1.push { cls:=.type "tuple",data:=.seq #[e.key,e.val] }:=⟨_,rfl⟩
 have g2:IsItemIter h2 it d (i+1) n ep k0 v0:=by rw [e2]; exact Heap.get?_push_of_some _ g1
 have t2:h2.get? hp.objs.size=some { cls:=.type "tuple",data:=.seq #[e.key,e.val] }:=by rw [e2,← z1]; exact Heap.get?_push_size _ rfl
 have k2:∀ b o,b≠it→hp.get? b=some o→h2.get? b=some o:=fun b o nb q=>by rw [e2]; exact Heap.get?_push_of_some _ (b1.extBut b o nb q)
 show wpAny (model prog w) _ _ _ _ ⟨h1.push { cls:=.type "tuple",data:=.seq #[e.key,e.val] },gs,dr,tk,os⟩
 rw [z1,← e2]
 clear e2 g1 b1 ty1 z1
 refine wpAny_bind (wpAny_bind (wpAny_field g2 rfl (x:=.none) rfl (wpAny_pure ?_)))
 simp only [if_true]
 refine wpAny_bind (wpAny_field g2 rfl (x:=k0) rfl (wpAny_bind (wpAny_field g2 rfl (x:=v0) rfl ?_)))
 refine wpAny_bind (wpAny_setField_rec g2 (by simp) fun h3 g3 b3=>?_)
 replace b3:Heap.SameBut it h2 h3:=b3
 replace g3:IsItemIter h3 it d (i+1) n ep e.key v0:=g3
 refine wpAny_bind (wpAny_setField_rec g3 (by simp) fun h4 g4 b4=>?_)
 replace b4:Heap.SameBut it h3 h4:=b4
 replace g4:IsItemIter h4 it d (i+1) n ep e.key e.val:=g4
 refine wpAny_bind (wpAny_setField_rec g4 (by simp) fun h5 g5 b5=>?_)
 replace b5:Heap.SameBut it h4 h5:=b5
 replace g5:IsItemIterOut h5 it d (i+1) n ep e.key e.val hp.objs.size:=g5
 refine wpAny_bind (wpAny_setField_rec g5 (by simp) fun h6 g6 b6=>?_)
 replace b6:Heap.SameBut it h5 h6:=b6
 have far:∀ b o,b≠it→h2.get? b=some o→h6.get? b=some o:=fun b o nb q=>b6.extBut b o nb (b5.extBut b o nb (b4.extBut b o nb (b3.extBut b o nb q)))
 exact wpAny_bind (wpAny_letGo (wpAny_pure (wpAny_pure ⟨_,rfl,wpAny_pure (fin h6 g6 (far _ _ (Nat.ne_of_gt il) t2) fun b o nb q=>far b o nb (k2 b o nb q))⟩)))
theorem next_none {Q:Option Value→Shared→Prop} (hh:A.handled=none) (g:IsItemIter s.heap it d i n ep k0 v0) (hd:s.heap.get? d=some od) (dd:od.data=.dict es ep) (hn:es.size=n) (he:n≤i)
  (fin:∀ h',Heap.ExtBut it s.heap h'→Q none { s with heap:=h' }):wpAny (model prog w) A (pyNext (.ref it)) Q E s:=by
 have ty:s.TypeIs (.ref it) "dict_itemiterator":=⟨_,g,rfl⟩
 unfold pyNext
 refine wpAny_bind (wpAny_attempt (wpAny_callSpecial?_slot (name:=Str.ofString "__next__") ty PySem.F.slot_dict_itemiterator_next (wpAny_call_entry PySem.F.slot_dict_itemiterator_next ty PySem.F.entry_dict_itemiterator_next ?_ (PySem.F.args_dict_itemiterator_next_1 _))))
 refine wpAny_bind (wpAny_pure (wpAny_bind (wpAny_bind ?_)))
 first | refine wpAny_bind (wpAny_typeNameOfWhole_itemiter ty (wpAny_pure ?_)) | refine wpAny_bind (wpAny_typeNameOf_itemiter ty (wpAny_pure ?_))
 refine wpAny_bind (wpAny_fieldsOf g rfl ?_)
 have own:Builtin.Dict_items.ownsTuple "dict_itemiterator"=true:=by decide
 have nn:¬ ((Value.ref d == Value.none)=true):=Bool.false_ne_true
 simp only [own,if_true]
 show wpAny (model prog w) _ (if (Value.ref d == Value.none)=true then _ else _) _ _ s
 rw [if_neg nn]
 refine wpAny_bind (wpAny_pure (wpAny_bind (wpAny_dictEntries hd dd ?_)))
 rw [if_neg (by rw [hn]; simp)]
 refine wpAny_bind (wpAny_pure (wpAny_bind (wpAny_dictEpoch hd dd ?_)))
 rw [if_neg (by simp)]
 refine wpAny_pure ?_
 have off:es[i]?=none:=Array.getElem?_eq_none (by omega)
 simp only [show ¬ ((i:Int) < 0) from by omega,if_false,Int.toNat_natCast,off]
 refine wpAny_bind ?_
 first | refine wpAny_bind (wpAny_typeNameOfWhole_itemiter ty (wpAny_pure ?_)) | refine wpAny_bind (wpAny_typeNameOf_itemiter ty (wpAny_pure ?_))
 show wpAny (model prog w) _ (setField (.ref it) 2 .none >>= _) _ _ s
 refine wpAny_bind (wpAny_setField g rfl (by simp) ?_)
 show wpAny (model prog w) _ (newExc (.type "StopIteration") [] >>= _) _ _ _
 refine wpAny_bind ?_
 simp only [newExc,newTuple]
 refine wpAny_bind (wpAny_newObj_type (wpAny_bind (m:=firstArgMember _ _) (wpAny_of_eq (a:=Value.none) (by first | rfl | (simp only [firstArgMember]; rfl)) (wpAny_newObj_type ?_ (by size_fits)))) (by size_fits))
 simp only [raiseNew]
 refine wpAny_bind (wpAny_handled ?_)
 have hh1:A.in1.handled=none:=hh
 rw [hh1]
 refine wpAny_bind (wpAny_pure (wpAny_throw ?_))
 refine wpAny_bind (wpAny_isInstance (T:="StopIteration") (b:=true) ⟨_,Heap.get?_push_size _ rfl,rfl⟩ isSubtype_stop ?_)
 exact wpAny_pure (fin _ (((Heap.SameBut.update ..).extBut.push _).push _))
end
def Itn (a:Addr) (ob:Obj):It :=
 ⟨fun i H=>∃ kvs p,H a=some (.frz ob (.dT kvs))∧kvs[i]?=some p,
  fun i H y H'=>∃ t b p,(∀ kvs,H a=some (.frz ob (.dT kvs))→kvs[i]?=some p)∧H b=some (.tup (p.1.map kV))∧y=.ref t∧H t=none∧H'=upd H t (.tup [.ref b,p.2]),
  fun i H=>∃ kvs,H a=some (.frz ob (.dT kvs))∧kvs.length≤i⟩
theorem frzT_at {P:Program} {w:World} {H:Hp} {h:Heap} {a:Addr} {ob:Obj} {kvs:List (List Key × V)} {ents:Array DictEntry} {ep:Nat} (ok:HOk P w H h) (e:H a=some (.frz ob (.dT kvs))) (hd:ob.data=.dict ents ep) :
  h.get? a=some ob∧∃ xs,KT H kvs xs∧ents.toList=xs.map (entryOfKey (tupleKind (Zbn P w)))∧ents.size=kvs.length:=by
 obtain ⟨ho,_,_,xs,rel,o,es,ep',h1,h2,h3,h4,h5⟩:=(show ObjOk P w H h a (.frz ob (.dT kvs)) from ok a _ e)
 rw [ho] at h1
 cases h1
 rw [hd] at h3
 cases h3
 refine ⟨ho,xs,rel,h4,?_⟩
 rw [size_of_entries h4]
 exact (Paired.length rel).symm
theorem Zjf {P:Program} {w:World} {K:PySem.W.Frag} {es:List Expr} {k:Nat} {pos:Pos} (a it:Addr) {ob:Obj} {ents:Array DictEntry} {n ep:Nat} (hd:ob.data=.dict ents ep) (hn:ents.size=n) :
  Turn P w K (.Tuple es k pos) (Itn a ob) [it] it (fun i h=>∃ ok ov,IsItemIter h it a i n ep ok ov) where
 mem:=by simp
 obj:=fun i h st b hb=>by
  obtain ⟨ok,ov,he⟩:=st
  rw [List.mem_singleton.mp hb]
  exact ⟨_,he,fun v z=>by
   have z':Data.fields _=Data.cell v:=z
   cases z'⟩
 keep:=fun i h h' st kk=>by
  obtain ⟨ok,ov,he⟩:=st
  exact ⟨ok,ov,kk it (by simp) _ he⟩
 item:=by
  intro X hP hw hK hc i pins s σ H E I hf st hg
  subst hP hw hK
  obtain ⟨ok,ov,he⟩:=st
  obtain ⟨kvs,p,hq,hx⟩:=hg
  obtain ⟨ho,xs,rel,hes,hl⟩:=frzT_at I.hok hq hd
  obtain ⟨⟨k',b,u⟩,hu,hk',hb,ru⟩:=Paired.get rel hx
  have fi:=hf it (by simp)
  have hei:ents[i]?=some ⟨(tupleKind (Zbn X.prog X.w)).hash k',.ref b,u⟩:=by rw [entry_at hes i,hu]; rfl
  refine next_pair he ho hd hn hei fun h' ho' hT kk=>?_
  refine ⟨_,rfl,?_⟩
  have hfr:H s.heap.objs.size=none:=I.hok.fresh (Nat.le_refl _)
  have ltI:it < s.heap.objs.size:=Heap.lt_size he
  have I1:Inv X pins σ (upd H s.heap.objs.size (.tup [.ref b,p.2])) { s with heap:=h',toks:=s.toks }:=by
   refine Ziw I fi fi (fun b o nb _ z=>kk b o nb z) ⟨_,ho'⟩ ⟨_,ho'⟩ ⟨?_,[.ref b,u],.cons rfl (.cons ru .nil),⟨_,hT,rfl,_,rfl⟩⟩
   show 2≤sizeLine
   decide
  refine wpAny_letOwnedTupleGo_items (s:={ s with heap:=h' }) ho' fun h2 he2 sb=>?_
  have nI:it≠s.heap.objs.size:=Nat.ne_of_lt ltI
  have fi2:(upd H s.heap.objs.size (.tup [.ref b,p.2])) it=none:=by rw [Zag nI]; exact fi.1
  have I2:Inv X pins σ (upd H s.heap.objs.size (.tup [.ref b,p.2])) { ({ s with heap:=h',toks:=s.toks }:Shared) with heap:=h2,toks:=s.toks } :=
   I1.turned (t':=s.toks) (it:=it) (fun b o hb z=>(sb.2 b hb).trans z) fi2 fi.2.1 fi.2.2.2.1 fi.2.2.2.2.1 fi.2.2.2.2.2
  refine ⟨.ref s.heap.objs.size,_,I2,rfl,⟨_,b,p,fun ys hy=>?_,hb,rfl,hfr,rfl⟩,⟨_,_,he2⟩,fun b hb=>?_⟩
  ·rw [hq] at hy
   cases hy
   exact hx
  ·rw [List.mem_singleton.mp hb]; exact fi2
 done:=by
  intro X hP hw hK hc i pins s σ H E I hf st hg
  subst hP hw hK
  obtain ⟨ok,ov,he⟩:=st
  obtain ⟨kvs,hq,hx⟩:=hg
  obtain ⟨ho,xs,rel,hes,hl⟩:=frzT_at I.hok hq hd
  obtain ⟨f0,f1,f2,f3,f4,f5⟩:=hf it (by simp)
  exact next_none (I.ok.hd hc) he ho hd hn (by omega) fun h' eb=>⟨rfl,I.turned (t':=s.toks) (fun b o hb z=>eb b o hb z) f0 f1 f3 f4 f5⟩
 self:=fun _ _ _ _ _ st h=>by
  obtain ⟨ok,ov,he⟩:=st
  exact PySem.W.kcp_self he h
def iItemsT (td:TE):TI:=fun σ H R=>td σ H fun x H1=>∃ a kvs,x=.ref a∧H1 a=some (.dT kvs)∧∀ ob,R (Itn a ob) (upd H1 a (.frz ob (.dT kvs)))
section
variable {X:Cx}
theorem pi_itemsT {o:Expr} {es:List Expr} {k:Nat} {tpos apos cpos:Pos} {td:TE} (hp:PE X o td)
  (hb:attributeBase o "items" X.env (eval o X.env)=eval o X.env:=by rfl) (hline:(apos.endLine == cpos.line)=true:=by rfl) :
  PI X (.Tuple es k tpos) (.Call (.Attribute o "items" apos) [] [] cpos) (iItemsT td):=by
 intro pins s σ H R I h
 refine wpAny_Call_method0_late hb hline (thn (hp pins s σ H _ I h) fun v s1 ⟨x,H1,I1,r1,q1⟩=>?_)
 obtain ⟨a,kvs,e,ea,q⟩:=q1
 subst e
 cases r1
 obtain ⟨hty,hnd,hsys⟩:=isD_at I1 (.inr ⟨kvs,.inl ea⟩)
 refine ⟨"dict","dict.items",PySem.F.plainAttrs_dict,PySem.F.slot_dict_items,PySem.F.type_dict_items,hty,hnd,Calls.callWith_builtin rfl (PySem.evalArgs_none ?_)⟩
 refine items_made hsys hty ?_
 obtain ⟨_,_,xs,rel,ob,ents,ep,g1,g2,g3,g4,g5⟩:=(show ObjOk X.prog X.w H1 s1.heap a (.dT kvs) from I1.hok a _ ea)
 refine Zka (n:=ents.size) ⟨_,Heap.get?_push_size _ rfl,rfl,rfl⟩ (Heap.get?_push_of_some _ g1) g3 rfl ?_
 have I2:Inv X pins σ H1 { s1 with heap:=s1.heap.push { cls:=.type "dict_items",data:=.fields #[.ref a] },toks:=s1.toks }:=I1.kept fun b u z=>Heap.get?_push_of_some _ z
 have I3:=I2.kept (h':=(s1.heap.push { cls:=.type "dict_items",data:=.fields #[.ref a] }).push { cls:=.type "dict_itemiterator",data:=.fields #[.none,.bool false,.ref a,.int 0 0,.int ents.size 0,.int ep 0,.none,.none] }) (t':=s1.toks) fun b u z=>Heap.get?_push_of_some _ z
 have g1':((s1.heap.push { cls:=.type "dict_items",data:=.fields #[.ref a] }).push { cls:=.type "dict_itemiterator",data:=.fields #[.none,.bool false,.ref a,.int 0 0,.int ents.size 0,.int ep 0,.none,.none] }).get? a=some ob:=Heap.get?_push_of_some _ (Heap.get?_push_of_some _ g1)
 have new:ObjOk X.prog X.w (upd H1 a (.frz ob (.dT kvs))) ((s1.heap.push { cls:=.type "dict_items",data:=.fields #[.ref a] }).push { cls:=.type "dict_itemiterator",data:=.fields #[.none,.bool false,.ref a,.int 0 0,.int ents.size 0,.int ep 0,.none,.none] }) a (.frz ob (.dT kvs)):=by
  obtain ⟨y1,y2,ys,yr,y3⟩:=(show ObjOk X.prog X.w H1 _ a (.dT kvs) from I3.hok a _ ea)
  refine ⟨g1',y1,y2,ys,KT.keeps yr fun c zs ec=>?_,y3⟩
  rw [Zag (ne_of ec ea (fun z=>nomatch z))]
  exact ec
 have I4:=I3.write (x:=a) (e:=a) (o:=.frz ob (.dT kvs)) (h':=(s1.heap.push { cls:=.type "dict_items",data:=.fields #[.ref a] }).push { cls:=.type "dict_itemiterator",data:=.fields #[.none,.bool false,.ref a,.int 0 0,.int ents.size 0,.int ep 0,.none,.none] }) (t':=s1.toks)
  (by rw [ea]; exact True.intro) (.inl rfl) (fun b u _ z=>z) ⟨ob,g1'⟩ new
 have na:s1.heap.objs.size+1≠a:=Nat.ne_of_gt (Nat.lt_succ_of_lt (Heap.lt_size g1))
 refine ⟨(s1.heap.push { cls:=.type "dict_items",data:=.fields #[.ref a] }).objs.size,[(s1.heap.push { cls:=.type "dict_items",data:=.fields #[.ref a] }).objs.size],_,_,_,rfl,I4,Zjf a _ g3 rfl,⟨_,_,Heap.get?_push_size _ rfl⟩,fun b hb'=>?_,q ob⟩
 rw [List.mem_singleton.mp hb']
 refine I2.fpOk (Nat.le_refl _) ?_
 rw [Zag (by rw [Heap.size_push]; exact na)]
 exact I2.hok.fresh (Nat.le_refl _)
end
end L2
namespace L2
open PySem PySem.Spec PyProof.Rows
section
variable {prog:Program} {w:World} {A:Around} {E:Value→Shared→Prop} {s:Shared} {d:Addr} {od:Obj} {es:Array DictEntry} {ep:Nat}
end
section
variable {X:Cx}
end
section
variable {X:Cx}
end
end L2
namespace L2
open PySem PySem.Spec PyProof.Rows
section
variable {prog:Program} {w:World} {A:Around} {E:Value→Shared→Prop} {s:Shared} {it d:Addr} {i ep:Nat} {od:Obj} {es:Array DictEntry}
end
section
variable {X:Cx}
end
end L2
namespace L2
open PySem PySem.Spec PyProof.Rows
section
variable {X:Cx}
end
end L2
namespace L2
open PySem PySem.Spec PyProof.Rows
section
variable {X:Cx}
end
section
variable {X:Cx}
end
end L2
namespace L2
open PySem PySem.Spec PyProof.Rows
section
open HT
variable {prog:Program} {w:World} {A:Around} {E:Value→Shared→Prop} {s:Shared}
end
section
variable {X:Cx} {e st:Expr} {te ts:TE} {pos p2:Pos}
end
end L2
namespace L2
open PySem PySem.Spec PyProof.Rows
section
variable {prog:Program} {w:World} {A:Around} {E:Value→Shared→Prop} {s:Shared} {R:Result→Shared→Prop} {I:Addr} {fp wr:List Addr} {n:Nat} {P:Nat→Value→Prop} {St:Nat→Heap→Prop}
def CmpG (prog:Program) (w:World) (A:Around) (G:Heap→Prop) (P:Nat→Value→Prop) (lt:Nat→Nat→Bool):Prop :=
 ∀ i j vi vj (s:Shared) (Q:Value→Shared→Prop) (E:Value→Shared→Prop),G s.heap→P i vi→P j vj→Q (.bool (lt i j)) s→wpAny (model prog w) A (richCompare .Lt vi vj) Q E s
theorem minLoop_G (wk:Walks prog w A.in1 I fp wr n P St) (lt:Nat→Nat→Bool) (B:Addr) (hB:B ∉ fp) {G:Heap→Prop} (hG:∀ h h',G h→(∀ b o,b ∉ wr→b≠B→h.get? b=some o→h'.get? b=some o)→G h') (cmp:CmpG prog w A.in1 G P lt) :
  ∀ (r j:Nat) (s:Shared) (cur:Value) (c:Nat),n - (j+1)=r→j+1≤n→G s.heap→St (j+1) s.heap→P (argBest lt j) cur→s.heap.get? B=some { cls:=.type "list",dict:=none,data:=.seq #[cur,cur] c,slots:=#[] } →
  (∀ v h' tk,P (argBest lt (n - 1)) v→(∀ b o,b ∉ wr→b≠B→s.heap.get? b=some o→h'.get? b=some o)→R (.ok (.ret v)) { s with heap:=h',toks:=tk }) →
  codeAny (model prog w) A (.builtin "min.loop" ⟨[.ref I,.none,.ref B],[]⟩) R s:=by
 have nB:B ∉ wr:=fun z=>hB (wk.sub _ z)
 have name:(toString "min"++toString ".loop":String)="min.loop":=by decide
 intro r
 induction r with
 | zero =>
  intro j s cur c hr hj gs st pc gB fin
  have hend:j+1=n:=by omega
  refine codeAny_builtin PySem.F.entry_min_loop ?_
  rw [Around.under_plainId PySem.F.plain_min_loop _]
  show wpAny (model prog w) A.in1 (seqItems? (.ref B) >>= _) _ _ s
  refine wpAny_bind (wpAny_seqItems gB rfl ?_)
  show wpAny (model prog w) A.in1 (tryCatch (pyNext (.ref I)) _ >>= _) _ _ s
  refine wpAny_bind (wpAny_tryCatch (wk.done s _ _ (hend ▸ st) fun h1 tk kp=>?_))
  have gB1:=kp B _ nB gB
  show wpAny (model prog w) A.in1 (updateSeq B (fun _=>#[]) >>= _) _ _ _
  refine wpAny_bind ?_
  refine wpAny_updateSeq gB1 rfl (wpAny_bind (wpAny_letGo (wpAny_pure ?_)))
  refine fin cur _ tk (by rw [← hend]; exact pc) fun b o bw bB z=>?_
  exact (Heap.get?_update_other _ _ (Ne.symm bB)).trans (kp b o bw z)
 | succ r ih =>
  intro j s cur c hr hj gs st pc gB fin
  have more:j+1 < n:=by omega
  refine codeAny_builtin PySem.F.entry_min_loop ?_
  rw [Around.under_plainId PySem.F.plain_min_loop _]
  show wpAny (model prog w) A.in1 (seqItems? (.ref B) >>= _) _ _ s
  refine wpAny_bind (wpAny_seqItems gB rfl ?_)
  show wpAny (model prog w) A.in1 (tryCatch (pyNext (.ref I)) _ >>= _) _ _ s
  refine wpAny_bind (wpAny_tryCatch (wk.item (j+1) s _ _ more st fun v h1 tk pv st1 kp=>?_))
  have gB1:=kp B _ nB gB
  have gs1:G h1:=hG _ _ gs fun b o bw _ z=>kp b o bw z
  show wpAny (model prog w) A.in1 (tryCatch (holding [v,v] (richCompare .Lt v cur >>= _)) _ >>= _) _ _ _
  refine wpAny_bind (wpAny_tryCatch (wpAny_holding (wpAny_bind (cmp (j+1) (argBest lt j) v cur _ _ _ gs1 pv pc ?_))))
  refine wpAny_bind (wpAny_holding (wpAny_truthy_bool (wpAny_bind (wpAny_letGo (wpAny_pure ?_)))))
  cases q:lt (j+1) (argBest lt j) with
  | true =>
   simp only [if_true]
   refine wpAny_bind ?_
   refine wpAny_updateSeq gB1 rfl (wpAny_bind (wpAny_letGo ?_))
   rw [name]
   refine wpAny_pure ⟨plainId_quiet PySem.F.plain_min_loop _,ih (j+1) _ v _ (by omega) more (hG _ _ gs1 fun b o _ bB z=>?_) (wk.frame _ _ _ st1 fun b bf o z=>?_) (by simp only [argBest,q,if_true]; exact pv) (Heap.get?_update_self _ gB1 rfl) fun v2 h2 tk2 p2 k2=>?_⟩
   ·exact (Heap.get?_update_other _ _ (Ne.symm bB)).trans z
   ·have ne:B≠b:=fun z2=>hB (by rw [z2]; exact bf)
    exact (Heap.get?_update_other _ _ ne).trans z
   ·exact fin v2 h2 tk2 p2 fun b o bw bB z=>k2 b o bw bB ((Heap.get?_update_other _ _ (Ne.symm bB)).trans (kp b o bw z))
  | false =>
   simp only [Bool.false_eq_true,if_false]
   refine wpAny_bind (wpAny_letGo ?_)
   rw [name]
   refine wpAny_pure ⟨plainId_quiet PySem.F.plain_min_loop _,ih (j+1) _ cur c (by omega) more gs1 st1 (by simp only [argBest,q,Bool.false_eq_true,if_false]; exact pc) gB1 fun v2 h2 tk2 p2 k2=>?_⟩
   exact fin v2 h2 tk2 p2 fun b o bw bB z=>k2 b o bw bB (kp b o bw z)
theorem min_G {Q:Value→Shared→Prop} {l:Addr} {items:Array Value} {lt:Nat→Nat→Bool} (hh:A.handled=none) (hl:s.heap.IsList l items) (hne:0 < items.size)
  (cmp:CmpG prog w A.in1 (fun h=>∀ b o,s.heap.get? b=some o→h.get? b=some o) (fun i v=>items[i]?=some v) lt)
  (fin:∀ v h' tk,items[argBest lt (items.size - 1)]?=some v→(∀ b o,s.heap.get? b=some o→h'.get? b=some o)→Q v { s with heap:=h',toks:=tk }) :
  wpAny (model prog w) A (call (.builtin "min") [.ref l]) Q E s:=by
 have name:(toString "min"++toString ".loop":String)="min.loop":=by decide
 refine call_function_tree PySem.F.kind_min PySem.F.plain_min PySem.F.entry_min (PySem.F.args_min1 _) ?_
 show wpAny (model prog w) A.in1 (Builtin.Builtins.bindParams "min" ["key","default"] 0 ⟨[],[]⟩ >>= _) _ _ s
 refine wpAny_bind (wpAny_of_eq (show Builtin.Builtins.bindParams "min" ["key","default"] 0 ⟨[],[]⟩=pure [none,none] from rfl) ?_)
 refine wpAny_bind (wpAny_pure ?_)
 refine wpAny_bind (wpAny_pyIter_list hl ?_)
 refine wpAny_bind (wpAny_newList ?_ (Nat.zero_le _))
 rw [name]
 obtain ⟨ol,hol,rl⟩:=id hl
 have hlt:l < s.heap.objs.size:=Heap.lt_size hol
 have sz:(s.heap.push { cls:=.type "list_iterator",data:=.fields #[.ref l,.int 0 0] }).objs.size=s.heap.objs.size+1:=Heap.size_push ..
 have wk:=Walks.list (prog:=prog) (w:=w) (A:=A.in1) hh s.heap.objs.size l (Nat.ne_of_lt hlt) items
 have st0:(((s.heap.push { cls:=.type "list_iterator",data:=.fields #[.ref l,.int 0 0] }).push { cls:=.type "list",data:=.seq #[] }).IsListIter s.heap.objs.size l 0)∧((s.heap.push { cls:=.type "list_iterator",data:=.fields #[.ref l,.int 0 0] }).push { cls:=.type "list",data:=.seq #[] }).IsList l items:=⟨⟨_,Heap.get?_push_of_some _ (Heap.get?_push_size _ rfl),rfl,rfl⟩,ol,Heap.get?_push_of_some _ (Heap.get?_push_of_some _ hol),rl⟩
 have nB:(s.heap.push { cls:=.type "list_iterator",data:=.fields #[.ref l,.int 0 0] }).objs.size ∉ [s.heap.objs.size,l]:=fun z=>by
  rw [sz] at z
  rcases List.mem_cons.mp z with z | z
  ·exact absurd z (Nat.succ_ne_self _)
  ·have z:=List.mem_singleton.mp z
   exact absurd hlt (by rw [← z]; exact Nat.not_lt.mpr (Nat.le_succ _))
 have nW:(s.heap.push { cls:=.type "list_iterator",data:=.fields #[.ref l,.int 0 0] }).objs.size ∉ [s.heap.objs.size]:=fun z=>nB (by rw [List.mem_singleton.mp z]; simp)
 have old:∀ b o,s.heap.get? b=some o→b ∉ [s.heap.objs.size]∧b≠(s.heap.push { cls:=.type "list_iterator",data:=.fields #[.ref l,.int 0 0] }).objs.size:=fun b o z=>by
  have lt:=Heap.lt_size z
  refine ⟨fun z2=>?_,fun z2=>?_⟩
  ·have z2:=List.mem_singleton.mp z2
   rw [z2] at lt
   exact absurd lt (Nat.lt_irrefl _)
  ·rw [sz] at z2
   rw [z2] at lt
   exact absurd lt (Nat.not_lt.mpr (Nat.le_succ _))
 have hG:∀ h h':Heap,(∀ b o,s.heap.get? b=some o→h.get? b=some o)→(∀ b o,b ∉ [s.heap.objs.size]→b≠(s.heap.push { cls:=.type "list_iterator",data:=.fields #[.ref l,.int 0 0] }).objs.size→h.get? b=some o→h'.get? b=some o)→(∀ b o,s.heap.get? b=some o→h'.get? b=some o):=fun h h' g k b o z=>k b o (old b o z).1 (old b o z).2 (g b o z)
 have g0:∀ b o,s.heap.get? b=some o→((s.heap.push { cls:=.type "list_iterator",data:=.fields #[.ref l,.int 0 0] }).push { cls:=.type "list",data:=.seq #[] }).get? b=some o:=fun b o z=>Heap.get?_push_of_some _ (Heap.get?_push_of_some _ z)
 have gB:=Heap.get?_push_size (s.heap.push { cls:=.type "list_iterator",data:=.fields #[.ref l,.int 0 0] }) (o:={ cls:=.type "list",data:=.seq #[] }) rfl
 refine wpAny_pure ⟨plainId_quiet PySem.F.plain_min_loop _,?_⟩
 refine codeAny_builtin PySem.F.entry_min_loop ?_
 rw [Around.under_plainId PySem.F.plain_min_loop _]
 show wpAny (model prog w) A.in1 (seqItems? (.ref _) >>= _) _ _ _
 refine wpAny_bind (wpAny_seqItems gB rfl ?_)
 show wpAny (model prog w) A.in1 (tryCatch (pyNext (.ref _)) _ >>= _) _ _ _
 refine wpAny_bind (wpAny_tryCatch (wk.item 0 _ _ _ hne st0 fun v h1 tk pv st1 kp=>?_))
 have gB1:=kp _ _ nW gB
 show wpAny (model prog w) A.in1 (updateSeq _ (fun _=>#[v,v]) >>= _) _ _ _
 refine wpAny_bind ?_
 refine wpAny_updateSeq gB1 rfl ?_
 rw [name]
 have g1:∀ b o,s.heap.get? b=some o→h1.get? b=some o:=fun b o z=>kp b o (old b o z).1 (g0 b o z)
 refine wpAny_pure ⟨plainId_quiet PySem.F.plain_min_loop _,minLoop_G wk lt _ nB hG cmp _ 0 _ v _ rfl hne (fun b o z=>(Heap.get?_update_other _ _ (Ne.symm (old b o z).2)).trans (g1 b o z)) (wk.frame _ _ _ st1 fun b bf o z=>?_) pv (Heap.get?_update_self _ gB1 rfl) fun v2 h2 tk2 p2 k2=>?_⟩
 ·exact (Heap.get?_update_other _ _ (fun z2=>nB (by rw [z2]; exact bf))).trans z
 ·exact fin v2 h2 tk2 p2 fun b o z=>k2 b o (old b o z).1 (old b o z).2 ((Heap.get?_update_other _ _ (Ne.symm (old b o z).2)).trans (g1 b o z))
end
theorem lex2 {a b c d:Int}:(HT.lexLt [a,b] [c,d]=true→a≤c)∧(HT.lexLt [a,b] [c,d]=false→c≤a):=by
 rw [HT.lexLt_cons]
 by_cases e:a=c
 ·exact ⟨fun _=>by omega,fun _=>by omega⟩
 ·rw [if_neg e]
  exact ⟨fun h=>by have:=of_decide_eq_true h; omega,fun h=>by have:=of_decide_eq_false h; omega⟩
section
variable {X:Cx}
end
end L2
namespace L2
open PySem PySem.Spec PyProof.Rows
theorem comp_enumF {K:PySem.W.Frag} {a:Addr} {ys:List V} {g:TG} {tc:TT} {te:TE} {σ:St} {H1:Hp} {acc:Addr} {Qr:Hp→Prop} (Pv:Nat→List V→St→Hp→Prop) (h0:Pv 0 [] σ (upd H1 acc (.lst [])))
  (hq:∀ i xs σ H,i≤ys.length→H acc=some (.lst xs)→Pv i xs σ H→SqL K H a ys)
  (hs:∀ i x t xs σ H,ys[i]?=some x→i < ys.length→xs.length≤i→H acc=some (.lst xs)→Pv i xs σ H→H t=none→g (.ref t) σ (upd H t (.tup [.int i,x])) fun σ2 H2=>tc σ2 H2 fun b Hb=>match b with
   | true=>te σ2 Hb fun v H3=>fNx acc ys.length Pv i σ2 v H3
   | false=>fSk acc ys.length Pv i σ2 Hb)
  (hd:∀ xs σ H,xs.length≤ys.length→H acc=some (.lst xs)→Pv ys.length xs σ H→Qr H) :
  ∃ W:Nat→Nat→St→Hp→Prop,(∃ m,W 0 m σ (upd H1 acc (.lst [])))∧∀ i m σ1 H2,W i m σ1 H2 →
   ((Ite K a).stop i H2∧Qr H2)∨((Ite K a).go i H2∧∀ x H3,(Ite K a).yld i H2 x H3→g x σ1 H3 fun σ4 H4=>tc σ4 H4 fun b Hb=>match b with
    | true=>te σ4 Hb fun v H5=>∃ xs,H5 acc=some (.lst xs)∧xs.length < sizeLine∧∃ m',m' < m∧W (i+1) m' σ4 (upd H5 acc (.lst (xs++[v])))
    | false=>∃ m',m' < m∧W (i+1) m' σ4 Hb):=by
 refine ⟨fW acc ys.length Pv,⟨ys.length,Nat.zero_le _,rfl,[],Nat.le_refl _,upd_same,h0⟩,?_⟩
 rintro i m σ1 H2 ⟨hi,rfl,xs,hl,ha,hp⟩
 have hsq:=hq i xs σ1 H2 hi ha hp
 rcases Nat.lt_or_ge i ys.length with h | h
 ·refine .inr ⟨⟨ys,ys[i],hsq,by simp [h]⟩,fun x H3 y=>?_⟩
  obtain ⟨t,z,hz,rfl,ht,rfl⟩:=y
  exact hs i z t xs σ1 H2 (hz ys hsq) h hl ha hp ht
 ·have e:i=ys.length:=Nat.le_antisymm hi h
  subst e
  exact .inl ⟨⟨ys,hsq,Nat.le_refl _⟩,hd xs σ1 H2 hl ha hp⟩
end L2
namespace L2
open PySem PySem.Spec PyProof.Rows
section
variable {X:Cx}
end
end L2
namespace L2
open PySem PySem.Spec PyProof.Rows
section
open PySem.SeqAt
open PySem.AutoSeq1 (wpAny_loadPart')
open PySem.MeetsSeq PySem.MeetsSeq2 PySem.MeetsSeq3
variable {prog:Program} {w:World} {A:Around} {E:Value→Shared→Prop} {s:Shared}
end
section
variable {X:Cx}
end
end L2
namespace L2
open PySem PySem.Spec PyProof.Rows
structure ICls (K:PySem.W.Frag) (C:Addr):Prop where
 cl:Cls K C
 ha:PySem.W.findIn K (.ref C) "__class__"=some (some (.builtin "object.__class__"))
 hn:PySem.W.specialIn K (.builtin "object.__class__") "__get__"=some (some (.builtin "getset_descriptor.__get__"))
 htk:PySem.W.takesIn K (.builtin "object.__class__")=some true
 hm:PySem.W.mroIn K C (.type "object")=some true
section
variable {X:Cx}
theorem Zdm:CallR X (.builtin "isinstance") (fun xs H Q=>∃ a C dx fs c u b,xs=[.ref a,c]∧H a=some (.ins C dx fs)∧ICls X.K C∧RelV c u∧(∀ u',RelV c u'→u'=u)∧PySem.W.kitOne X.K (.ref C) u=some b∧Q (.bl b) H):=by
 intro pins s σ H xs us Q I r h
 obtain ⟨a,C,dx,fs,c,u,b,rfl,he,hc,ru,uq,hk,q⟩:=h
 obtain ⟨v1,v2,rfl,r1,r2⟩:=vals2 r
 have:=uq v2 r2
 subst this
 exact Zir I r1 (.ins he hc.cl hc.ha hc.hn hc.htk hc.hm) hk fun tk=>⟨.bl b,H,I.tok tk,rfl,q⟩
end
def Itv (K:PySem.W.Frag) (a:Addr) (n:Nat):It :=
 ⟨fun i H=>∃ xs,SqL K H a xs∧xs.length=n∧i < n,fun i H x H'=>H'=H∧∀ xs,SqL K H a xs→xs[n - 1 - i]?=some x,fun i H=>n≤i⟩
theorem turn_rev {P:Program} {w:World} {K:PySem.W.Frag} {tg:Expr} (a it:Addr) (n:Nat):Turn P w K tg (Itv K a n) [it] it (fun i h=>i≤n∧h.IsRevIter it a ((n:Int) - 1 - i)) where
 mem:=by simp
 obj:=fun i h st b hb=>by
  have e:b=it:=by simpa using hb
  subst e
  obtain ⟨_,o,e,c,d⟩:=st
  exact ⟨o,e,fun v z=>by rw [d] at z; cases z⟩
 keep:=fun i h h' st k=>⟨st.1,st.2.at fun o e=>k it (by simp) o e⟩
 item:=by
  intro X hP hw hK hc i pins s σ H E I hf st hg
  subst hP hw hK
  obtain ⟨xs,hq,hn,hi⟩:=hg
  obtain ⟨hin,st⟩:=st
  obtain ⟨its,rv,p,hz⟩:=I.list hq
  have hx:xs[n - 1 - i]?=some (xs[n - 1 - i]'(by omega)):=List.getElem?_eq_getElem (by omega)
  obtain ⟨u,hu,ru⟩:=rv.get hx
  obtain ⟨f0,f1,f2,f3,f4,f5⟩:=hf it (by simp)
  have st':s.heap.IsRevIter it a (((n - 1 - i:Nat):Int)):=by
   rw [show (((n - 1 - i:Nat):Int))=(n:Int) - 1 - i by omega]; exact st
  refine wpAny_pyNext_rev_item st' p.isList (x:=u) (by simpa using hu) fun h' st' sb=>?_
  have I1:Inv X pins σ H { s with heap:=h' }:=I.turned (t':=s.toks) (fun b o hb e=>(sb.2 b hb).trans e) f0 f1 f3 f4 f5
  obtain ⟨o,e,c,d⟩:=id st'
  refine ⟨u,rfl,go_of (s:={ s with heap:=h' }) e c d (by decide) ⟨_,H,I1,ru,⟨rfl,fun ys hy=>by rw [I.list_inj hy hq]; exact hx⟩,⟨by omega,?_⟩,fun b hb=>(hf b hb).1⟩⟩
  rw [show (n:Int) - 1 - ((i+1:Nat):Int)=((n - 1 - i:Nat):Int) - 1 by omega]; exact st'
 done:=by
  intro X hP hw hK hc i pins s σ H E I hf st hg
  subst hP hw hK
  obtain ⟨hin,st⟩:=st
  obtain ⟨f0,f1,f2,f3,f4,f5⟩:=hf it (by simp)
  have e:i=n:=Nat.le_antisymm hin hg
  subst e
  rw [show (i:Int) - 1 - (i:Int)=-1 by omega] at st
  exact wpAny_pyNext_rev_end (I.ok.hd hc) st fun h' eb=>⟨rfl,I.turned (t':=s.toks) (fun b o hb e=>eb b o hb e) f0 f1 f3 f4 f5⟩
 self:=fun _ _ _ _ _ st h=>wpAny_pyIter_revIter st.2 h
def iRev (K:PySem.W.Frag) (ta:TA):TI:=fun σ H R=>ta σ H fun vs H1=>∃ a xs,vs=[.ref a]∧SqL K H1 a xs∧R (Itv K a xs.length) H1
theorem Zh1:bootBuiltins "reversed"=some (.type "reversed"):=rfl
section
variable {X:Cx} {tg:Expr}
theorem pi_revd {a:Expr} {ta:TA} {p pos:Pos} (hg:Gl X "reversed") (hm:X.mg "reversed"=none) (ha:PA X [a] ta) (hs:starEach [a] X.env=[(false,eval a X.env)]:=by rfl) :
  PI X tg (.Call (.Name "reversed" p) [a] [] pos) (iRev X.K ta):=by
 intro pins s σ H R I h
 refine Call_ (Zgs I hg hm Zh1 (PyProof.Rows.callWith_type1 (thn (ha pos pins s σ H _ I h) fun us s1 ⟨vs,H1,I1,r1,q1⟩=>?_) hs rfl))
 obtain ⟨b,xs,e,hq,q⟩:=q1
 subst e
 cases r1 with
 | cons r rr =>
  cases rr
  cases r
  obtain ⟨its,rv,pl,hz⟩:=I1.list hq
  have hl:=rv.length
  refine call_reversed_list pl.isList ?_
  have I2:Inv X pins σ H1 { s1 with heap:=s1.heap.push (revObj b ((its.toArray.size:Int) - 1)) }:=I1.kept (t':=s1.toks) fun c o e=>Heap.get?_push_of_some _ e
  refine wpAny_pyIter_revIter (s:={ s1 with heap:=s1.heap.push (revObj b ((its.toArray.size:Int) - 1)) }) ⟨_,Heap.get?_push_size _ rfl,rfl,rfl⟩ ?_
  refine ⟨s1.heap.objs.size,[s1.heap.objs.size],_,_,H1,rfl,I2,turn_rev b _ xs.length,⟨Nat.zero_le _,⟨_,Heap.get?_push_size _ rfl,rfl,?_⟩⟩,fun c hc=>?_,q⟩
  ·show Data.fields _=Data.fields _
   rw [show ((its.toArray.size:Int) - 1)=(xs.length:Int) - 1 - ((0:Nat):Int) by rw [List.size_toArray,← hl]; omega]
  ·have e:c=s1.heap.objs.size:=by simpa using hc
   subst e
   exact I1.fpOk (Nat.le_refl _) (I1.hok.fresh (Nat.le_refl _))
end
theorem for_rev {K:PySem.W.Frag} {a:Addr} {xs:List V} {g:TG} {tb:TS} {D:Ends} {σ:St} {H:Hp} (Pv:Nat→St→Hp→Prop) (h0:Pv 0 σ H) (hl:∀ i σ H,i≤xs.length→Pv i σ H→SqL K H a xs)
  (hs:∀ i x σ H,xs[xs.length - 1 - i]?=some x→i < xs.length→Pv i σ H→g x σ H fun σ2 H2=>tb { D with nx:=Pv (i+1),ct:=Pv (i+1),bk:=D.nx } σ2 H2) (hd:∀ σ H,Pv xs.length σ H→D.nx σ H) :
  ∃ W:Nat→Nat→St→Hp→Prop,(∃ m,W 0 m σ H)∧∀ i m σ H,W i m σ H →
   ((Itv K a xs.length).stop i H∧D.nx σ H)∨((Itv K a xs.length).go i H∧∃ N:St→Hp→Prop,(∀ σ' H',N σ' H'→∃ m',m' < m∧W (i+1) m' σ' H')∧∀ x H',(Itv K a xs.length).yld i H x H'→g x σ H' fun σ2 H2=>tb { D with nx:=N,ct:=N,bk:=D.nx } σ2 H2):=by
 refine ⟨fun i m σ H=>m=xs.length - i∧i≤xs.length∧Pv i σ H,⟨xs.length,by simp,Nat.zero_le _,h0⟩,?_⟩
 rintro i m σ H ⟨rfl,hi,p⟩
 have q:=hl i σ H hi p
 by_cases hlt:i < xs.length
 ·refine .inr ⟨⟨xs,q,rfl,hlt⟩,Pv (i+1),fun σ' H' p'=>⟨xs.length - (i+1),by omega,rfl,hlt,p'⟩,fun x H' y=>?_⟩
  obtain ⟨e,y⟩:=y
  subst e
  exact hs i x σ _ (y xs q) hlt p
 ·have e:i=xs.length:=by omega
  subst e
  exact .inl ⟨Nat.le_refl _,hd σ H p⟩
end L2
namespace L2
open PySem PySem.Spec PyProof.Rows PySem.W
section
variable {X:Cx} {k j:Nat} {m:Str} {ps:List Str} {sp:Sp} {pos apos:Pos} {e o:Expr} {es:List Expr} {t:TA} {ta:TE} {S:Addr→Prop}
end
section
variable {X:Cx} {g:Str} {G:Addr} {value:Expr} {b₀:Stmt} {suite:List Stmt} {apos gp hpos pos:Pos} {te:XK→TE} {ts:TS}
end
end L2
namespace L2
open PySem PySem.Spec PyProof.Rows PySem.W
structure FunD (K:PySem.W.Frag) (x qual:Str) (st:Stmt) (f:Addr) (fd:FuncData):Prop where
 ex:∃ (oc:Value) (od:Option Addr) (T:Addr) (kV doc pm:Value) (an:Option Addr) (cdv ct:Value) (osl:Array (Option Value)) (o:Obj) (n:Nat),
  fd=PySem.W.fnOf x qual (Zak st) (Zai st) (Zab st) (.ref T) kV doc pm an cdv ct∧K.lookup f=some ⟨oc,od,.func fd,osl⟩∧PySem.W.codeIn K cdv qual=true∧K.lookup T=some o∧o.data=.seq #[.none] n
 kp:PySem.W.keepIn K (.ref f)=true
section
variable {P:Program} {w:World} {K:PySem.W.Frag} {mg:Str→Option Value} {base:Heap}
theorem FunD.ok {x qual:Str} {st:Stmt} {f:Addr} {fd:FuncData} {N ps:List Str} {k:Nat} {sp:Sp} (F:FunD K x qual st f fd) (S:Zan N ps (Zab st)) (len:∀ vs H Q E,sp vs H Q E→vs.length=ps.length)
  (hbody:∀ (cdv:Value) (A:Around) (outer:List Env) (s:Shared) (H:Hp) (vs:List V) (Q:VK) (E:XK),Room k (A.deeper (envOfC qual (Zab st) s.heap.objs.size f cdv))→sp vs H Q E →
   ∃ t,PSs (cxOf CX0 P w K mg base N qual (Zab st) f cdv A outer s H E).nox (Zai st) t∧t { nx:=fun _ H'=>Q .non H',rt:=Q } (start N vs) H):FnOk P w K mg base CX0 (k+1) f fd ps sp:=by
 obtain ⟨oc,od,T,kV,doc,pm,an,cdv,ct,osl,o,n,rfl,lk,hcd,lT,dT⟩:=F.ex
 refine fn_of lk hcd S len fun A outer s H vs Q E hr hsp=>?_
 obtain ⟨t,h,q⟩:=hbody cdv A outer s H vs Q E hr hsp
 exact ⟨t,h.nox,q⟩
theorem FunD.binds {x qual:Str} {st:Stmt} {f:Addr} {fd:FuncData} {ps:List Str} {ds:List Value} (F:FunD K x qual st f fd)
  (h:∀ (T:Addr) (kV doc pm:Value) (an:Option Addr) (cdv ct:Value) (us:List Value),(us++ds).length=ps.length→∃ k:Option (Array Value)→Sem (List (Str × Value)),
   bindArgs (PySem.W.fnOf x qual (Zak st) (Zai st) (Zab st) (.ref T) kV doc pm an cdv ct) ⟨us,[]⟩=seqItems? (.ref T) >>= k∧k (some #[.none])=pure (ps.zip (us++ds))):Binds K fd ps ds:=by
 obtain ⟨oc,od,T,kV,doc,pm,an,cdv,ct,osl,o,n,rfl,lk,hcd,lT,dT⟩:=F.ex
 intro s us X hl
 obtain ⟨k,h1,h2⟩:=h T kV doc pm an cdv ct us hl
 exact .of_defaults rfl (X _ _ lT) dT h1 h2
end
end L2
namespace L2
open PySem PySem.Spec PyProof.Rows PySem.W
end L2
namespace L2
open PySem PySem.Spec PyProof.Rows
section
variable {X:Cx} {elt tg iter:Expr} {scope:Scope} {pos:Pos} {wi:TI} {g:TG} {te:TE} {N:List Str} {fr:List (Option Nat)}
end
end L2
namespace L2
open PySem PySem.Spec PyProof.Rows PySem.W
section
variable {M:Model} {A:Around} {E:Value→Shared→Prop} {s:Shared} {e:Addr} {cls:Value} {d:Option Addr} {vs:Array Value} {sl:Array (Option Value)}
end
section
variable {M:Model} {A:Around} {E:Value→Shared→Prop} {s:Shared} {base:Heap} {env:Env} {outer:List Env} {L e:Addr} {cls:Value} {d:Option Addr} {vs:Array Value} {sl:Array (Option Value)} {Q:Unit→Shared→Prop}
end
end L2
namespace L2
open PySem PySem.Spec PyProof.Rows PySem.W
section
variable {X:Cx} {pins:List (Addr × Obj)} {σ:St} {H:Hp} {s:Shared} {x C T:Addr} {d:Option Addr} {h1 h2:Heap} {fl:Value} {tt:List Addr} {nw:HO}
end
end L2
namespace L2
open PySem PySem.Spec PyProof.Rows PySem.W
section
variable {X:Cx} {elt tg iter:Expr} {scope:Scope} {pos:Pos} {wi:TI} {g:TG} {te:TE} {N:List Str} {fr:List (Option Nat)}
end
section
variable {P:Program} {w:World} {K:PySem.W.Frag} {mg:Str→Option Value} {base:Heap} {N:List Str} {qual:Str} {scope:Scope} {f:Addr} {cd:Value} {A:Around} {outer:List Env} {s:Shared} {H:Hp} {E:XK} {Hs:Hp}
end
end L2
namespace L2
open PySem PySem.Spec PyProof.Rows PySem.W
def PXS (X:Cx) (st:Stmt) (t:XK→TS):Prop:=∀ (E:XK) (pins:List (Addr × Obj)) (s:Shared) (σ:St) (H:Hp) (D:Ends) (Ex:Value→Shared→Prop),Inv X pins σ H s→t E D σ H →
 (∀ x T C d H' s',Inv X pins σ H' s'→Flown H' x C d T→E (.ref x) d H'→Ex (.ref x) s')→wpAny (model X.prog X.w) X.A (exec st X.env) (SP X pins D) Ex s
def tIfX (tc:TT) (t u:XK→TS):XK→TS:=fun E=>tIfS tc (t E) (u E)
def sTryI (K:Frag) (im:Nat) (G:Addr) (t:XK→TS) (ts:TS):TS:=fun D σ H=>∃ E₁:XK,t E₁ { nx:=D.nx,rt:=fun _ _=>False } σ H ∧
 ∀ x C d T T2 H',E₁ (.ref x) d H'→Flown H' x C d T→H' T2=none→T2≠x→mroIn K C (.ref G)=some true∧ts (goneD im D) (σ.set im (some (.ref x))) (thrown H' x C d T2)
section
variable {X:Cx} {i im:Nat} {n m g:Str} {G:Addr} {value c:Expr} {b₀ st su:Stmt} {suite:List Stmt} {np apos gp hpos pos:Pos} {te:XK→TE} {ts:TS} {t u:XK→TS} {tc:TT}
theorem pxs_if (hc:PT X.nox c tc) (ha:PXS X st t) (hb:PXS X su u):PXS X (.If c [st] [su] pos) (tIfX tc t u):=by
 intro E pins s σ H D Ex I h hx
 refine wpAny_If (wpAny_mono (hc pins s σ H _ (I.wish _) h) (fun d s1 ⟨H1,I1,q1⟩=>?_) fun _ _ z=>False.elim z)
 have I1':Inv X pins σ H1 s1:=I1.unwish
 cases d with
 | true =>
  refine wpAny_execs_cons (thn (ha E pins s1 σ H1 D Ex I1' q1 hx) fun f s2 q=>?_)
  cases f with
  | next=>exact wpAny_execs_nil q
  | ret v=>exact q
  | brk=>exact q
  | cont=>exact q
 | false =>
  refine wpAny_execs_cons (thn (hb E pins s1 σ H1 D Ex I1' q1 hx) fun f s2 q=>?_)
  cases f with
  | next=>exact wpAny_execs_nil q
  | ret v=>exact q
  | brk=>exact q
  | cont=>exact q
theorem ps_tryas (hN:X.N.Nodup) (him:X.N[im]?=some m) (hm:X.env.scope.names.lookup m=some .local) (he:PXS X st t) (hgl:Gl X g) (hg:X.mg g=some (.ref G))
    (hG:PySem.W.excIn X.K G vErr "ValueError.__new__"=true) (hst:X.stack=X.env :: X.outer) (hfr:X.env.frame=some X.env.locals) (hs:∀ x,PSs (X.suite x) (b₀ :: suite) ts)
    (hdb:(g == ("__debug__":Str))=false:=by decide) :
    PS X (.Try [st] [.ExceptHandler (some (.Name g gp)) (some m) (b₀ :: suite) hpos] [] [] pos) (sTryI X.K im G t ts):=by
  intro pins s σ H D I ⟨E₁,h,hh⟩
  rw [arm_exec_Try]
  refine wpAny_bind (wpAny_standAt (wpAny_tryStmt_except ?_))
  refine wpAny_execs_cons (thn (he E₁ pins s σ H _ _ I h fun x T C d H' s' I' fl q=>?_) fun f s1 q=>?_)
  · refine Zfp I' hst hfr (.inr ⟨T,fl⟩) fun h' T2 hT2 nT2 I2=>?_
    obtain ⟨hsub,hts⟩:=hh x C d T T2 H' q fl hT2 nT2
    have fl2:Flown (thrown H' x C d T2) x C d T2:=⟨Zdr,Ze0 nT2,nT2⟩
    obtain ⟨⟨vs,sl,e1,e2⟩,_⟩:=(show ObjOk X.prog X.w (thrown H' x C d T2) h' x (ExcT C d x T2) from I2.hok x _ fl2.1)
    obtain ⟨⟨o,tv,f1,f2,f3⟩,_⟩:=(show ObjOk X.prog X.w (thrown H' x C d T2) h' T2 (TbO T2) from I2.hok T2 _ fl2.2.1)
    refine wpAny_handleBy_cons (codeAny_handlers_test (Zei (X:=X.suite x) (I2.suite x) hgl hg (match_sub I2.kIn hG e1 hsub ?_) hdb)) (by intro z; cases z)
    show codeAny _ _ _ _ _
    refine codeAny_handlers_suite_as (Zgx e1 e2 f1 f2 (Array.getElem?_eq_some_iff.mp f3).1 fun h3 k3 t3=>?_)
    have same:upd (thrown H' x C d T2) T2 (TbO T2)=thrown H' x C d T2:=funext fun b=>by
      by_cases z:b=T2
      · rw [z,upd_same,Ze0 nT2]
      · rw [Zag z]
    have I3:Inv X pins σ (thrown H' x C d T2) { s' with heap:=h3 }:=by
      have:=I2.write (x:=T2) (e:=T2) (h':=h3) (o:=TbO T2) (t':=s'.toks) (by rw [fl2.2.1]; exact True.intro) (.inl rfl) (fun b u nb z=>(k3 b nb).trans z) (let ⟨o,_,e,_⟩:=t3; ⟨o,e⟩) (tbO_ok t3)
      rw [same] at this
      exact this
    refine Ze1 (X:=X.suite x) (I3.suite x) hN him (.inl hm) (v:=.ref x) rfl (fun s4 I4=>?_) (.inr hm)
    refine wpAny_mono (hs x pins s4 _ _ (goneD im D) I4 hts) (fun fl s5 q5=>?_) fun _ _ z=>False.elim z
    show wpAny (model X.prog X.w) X.A (do bindName X.env m .none; unbindBehindTheSuite X.env m hpos) (fun _ s₃=>SP X pins D fl s₃) X.xe s5
    cases fl with
    | next=>obtain ⟨σ',H5,I5,q⟩:=q5; exact Zhq (I5.unsuite (ok:=I.ok)) hN him hm fun s6 I6=>⟨_,H5,I6,q⟩
    | brk=>obtain ⟨σ',H5,I5,q⟩:=q5; exact Zhq (I5.unsuite (ok:=I.ok)) hN him hm fun s6 I6=>⟨_,H5,I6,q⟩
    | cont=>obtain ⟨σ',H5,I5,q⟩:=q5; exact Zhq (I5.unsuite (ok:=I.ok)) hN him hm fun s6 I6=>⟨_,H5,I6,q⟩
    | ret u=>obtain ⟨v,σ',H5,I5,r,q⟩:=q5; exact Zhq (I5.unsuite (ok:=I.ok)) hN him hm fun s6 I6=>⟨v,_,H5,I6,r,q⟩
  · cases f with
    | next=>obtain ⟨σ',H',I',q⟩:=q; exact wpAny_execs_nil (wpAny_execs_nil ⟨σ',H',I',q⟩)
    | ret v=>obtain ⟨_,_,_,_,_,q⟩:=q; exact q.elim
    | brk=>obtain ⟨_,_,_,q⟩:=q; exact q.elim
    | cont=>obtain ⟨_,_,_,q⟩:=q; exact q.elim
end
end L2
namespace L2
open PySem PySem.Spec PyProof.Rows PySem.W
section
variable {X:Cx}
end
end L2
namespace L2
open PySem PySem.Spec PyProof.Rows PySem.W
section
variable {X:Cx}
end
end L2
namespace L2
open PySem PySem.Spec PyProof.Rows PySem.W
mutual
def DAt (H:Hp):D→V→Prop
 | .at u,v=>v=u∧flatV u=true
 | .tup ds,v=>∃ a xs,v=.ref a∧H a=some (.tup xs)∧DAts H ds xs
 | .lst ds,v=>∃ a xs,v=.ref a∧H a=some (.lst xs)∧DAts H ds xs
def DAts (H:Hp):Ds→List V→Prop
 | .nil,xs=>xs=[]
 | .cons d r,xs=>∃ x ys,xs=x :: ys∧DAt H d x∧DAts H r ys
end
mutual
theorem dat_same {H H':Hp} (s:Same H H'):∀ (d:D) {v:V},DAt H d v→DAt H' d v
 | .at u,v,h=>by rw [DAt] at h ⊢; exact h
 | .tup ds,v,h=>by
  rw [DAt] at h ⊢
  obtain ⟨a,xs,e,q,r⟩:=h
  exact ⟨a,xs,e,s _ _ q,Zf0 s ds r⟩
 | .lst ds,v,h=>by
  rw [DAt] at h ⊢
  obtain ⟨a,xs,e,q,r⟩:=h
  exact ⟨a,xs,e,s _ _ q,Zf0 s ds r⟩
theorem Zf0 {H H':Hp} (s:Same H H'):∀ (ds:Ds) {xs:List V},DAts H ds xs→DAts H' ds xs
 | .nil,xs,h=>by rw [DAts] at h ⊢; exact h
 | .cons d r,xs,h=>by
  rw [DAts] at h ⊢
  obtain ⟨x,ys,e,p,q⟩:=h
  exact ⟨x,ys,e,dat_same s d p,Zf0 s r q⟩
end
mutual
theorem dat_is {K:PySem.W.Frag} {H:Hp}:∀ (d:D) {v:V},DAt H d v→DIs K H d v
 | .at u,v,h=>by rw [DAt] at h; rw [DIs]; exact h
 | .tup ds,v,h=>by
  rw [DAt] at h
  rw [DIs]
  obtain ⟨a,xs,e,q,r⟩:=h
  exact ⟨a,xs,e,SqT.of q,Zkd ds r⟩
 | .lst ds,v,h=>by
  rw [DAt] at h
  rw [DIs]
  obtain ⟨a,xs,e,q,r⟩:=h
  exact ⟨a,xs,e,SqL.of q,Zkd ds r⟩
theorem Zkd {K:PySem.W.Frag} {H:Hp}:∀ (ds:Ds) {xs:List V},DAts H ds xs→DIss K H ds xs
 | .nil,xs,h=>by rw [DAts] at h; rw [DIss]; exact h
 | .cons d r,xs,h=>by
  rw [DAts] at h
  rw [DIss]
  obtain ⟨x,ys,e,p,q⟩:=h
  exact ⟨x,ys,e,dat_is d p,Zkd r q⟩
end
section
variable {X:Cx}
end
end L2
namespace L2
open PySem PySem.Spec PyProof.Rows PySem.W
def CodeO (c:Addr) (q:Str):HO:=.ext fun h=>∃ o vs t,h.get? c=some o∧o.data=.fields vs∧vs[1]?=some (.str q t)
def ObjO (f:Addr) (o:Obj):HO:=.ext fun h=>h.get? f=some o
theorem codeO_rec {P:Program} {w:World} {H:Hp} {h:Heap} {c:Addr} {q:Str} (x:ObjOk P w H h c (CodeO c q)):h.CodeRec (.ref c) q:=by
 obtain ⟨⟨o,vs,t,e,d,v⟩,_⟩:=x
 exact ⟨c,o,vs,t,rfl,e,d,v⟩
theorem codeO_ok {P:Program} {w:World} {H:Hp} {h:Heap} {c:Addr} {q:Str} (x:h.CodeRec (.ref c) q):ObjOk P w H h c (CodeO c q):=by
 obtain ⟨c',o,vs,t,e,g,d,v⟩:=x
 cases e
 exact ⟨⟨o,vs,t,g,d,v⟩,⟨o,g⟩,fun h1 h2 ⟨o,vs,t,e,d,v⟩ k=>⟨o,vs,t,k o e,d,v⟩⟩
theorem Zj5 {P:Program} {w:World} {H:Hp} {h:Heap} {f:Addr} {o:Obj} (x:h.get? f=some o):ObjOk P w H h f (ObjO f o):=⟨x,⟨o,x⟩,fun h1 h2 e k=>k o e⟩
section
variable {X:Cx} {pins:List (Addr × Obj)} {σ:St} {H:Hp} {s:Shared} {h1:Heap}
theorem Inv.grow {T c':Addr} {ps more:Array Value} {o:HO} {t':Nat} (I:Inv X pins σ H s) (hT:H T=some (.tbl ps)) (k:∀ b u,b≠T→s.heap.get? b=some u→h1.get? b=some u) (eT:h1.get? T=some (tabObj (ps++more)))
  (hc:s.heap.objs.size≤c') (new:ObjOk X.prog X.w (upd (upd H T (.tbl (ps++more))) c' o) h1 c' o):Inv X pins σ (upd (upd H T (.tbl (ps++more))) c' o) { s with heap:=h1,toks:=t' }:=by
 have hn:H c'=none:=I.hok.fresh hc
 have nT:T≠c':=Zad hT hn
 have ne:∀ {b:Addr} {u:HO},H b=some u→(∀ ps,u≠.tbl ps)→b≠T:=fun {b u} e nu z=>by rw [z,hT] at e; cases e; exact nu _ rfl
 have to:∀ {b:Addr} {u:HO},H b=some u→(∀ ps,u≠.tbl ps)→(upd (upd H T (.tbl (ps++more))) c' o) b=some u:=fun {b u} e nu=>by rw [Zag (Zad e hn),Zag (ne e nu)]; exact e
 refine I.un ⟨fun b u q n _ _=>k b u (fun z=>by rw [z,hT] at n; cases n) q,fun b u q n _ _=>⟨u.slots,k b u (fun z=>by rw [z,hT] at n; cases n) q⟩,fun b u q n _=>?_,fun b u q _=>?_,
  fun b xs q=>to q (fun _ z=>nomatch z),fun b u xs q=>to q (fun _ z=>nomatch z),fun b ps' q=>?_⟩ fun b u e=>?_
 ·rw [Zag (Nat.ne_of_lt (Nat.lt_of_lt_of_le (Heap.lt_size q) hc)),Zag (fun z=>by rw [z,hT] at n; cases n)]; exact n
 ·by_cases z:b=T
  ·exact ⟨_,by rw [z]; exact eT⟩
  ·exact ⟨u,k b u z q⟩
 ·by_cases z:b=T
  ·subst z
   rw [hT] at q; cases q
   exact ⟨more,by rw [Zag nT,upd_same]⟩
  ·exact ⟨#[],by rw [Zag (Zad q hn),Zag z,q]; simp⟩
 ·by_cases z:b=c'
  ·subst z; rw [upd_same] at e; cases e; exact new
  ·rw [Zag z] at e
   by_cases zT:b=T
   ·subst zT; rw [upd_same] at e; cases e; exact eT
   ·rw [Zag zT] at e
    refine (I.hok b u e).stay (fun c v hcb r=>k c v ?_ r) (fun c r=>to r (fun _ z=>nomatch z)) fun c xs r=>to r (fun _ z=>nomatch z)
    rcases hcb with rfl | hcb
    ·exact zT
    ·exact ne hcb (fun _ z=>nomatch z)
end
structure BmIn (K:Frag) (mg:Str→Option Value):Prop where
 ex:∃ bm sl,mg "__builtins__"=some (.ref bm)∧bm≠builtinsNs∧bm≠mainGlobals∧K.lookup bm=some ⟨.type "module",some builtinsNs,.plain,sl⟩
abbrev lamObj (mg:Str→Option Value) (qual:Str) (params:Arguments) (body:Expr) (scope:Scope) (clos:List (Str × Addr)) (c':Addr) (ctv:Value):Obj:=kla_obj "<lambda>" qual params body scope clos ((mg "__name__").getD .none) c' ctv
def tLam (mg:Str→Option Value) (T:Addr) (pos:Pos) (params:Arguments) (body:Expr) (scope:Scope) (clos:List (Str × Addr)) (qual:Str):TE:=fun σ H Q=>∃ ps,H T=some (.tbl ps)∧TriplesOk ps.toList ∧
 ((codeAmong pos ps.toList=none∧∀ c' f ctv,H c'=none→H f=none→c'≠f→c'≠T→f≠T→Q (.ref f) (upd (upd (upd H T (.tbl (ps++#[rawInt pos.line,rawInt pos.col,.ref c']))) c' (CodeO c' qual)) f (ObjO f (lamObj mg qual params body scope clos c' ctv)))) ∨
  ∃ c',codeAmong pos ps.toList=some (.ref c')∧H c'=some (CodeO c' qual)∧∀ f ctv,H f=none→Q (.ref f) (upd H f (ObjO f (lamObj mg qual params body scope clos c' ctv))))
section
variable {X:Cx}
theorem pe_lam {params:Arguments} {body:Expr} {scope:Scope} {pos:Pos} {c T:Addr} {clos:List (Str × Addr)} {qual:Str} (hcode:X.env.code=.ref c) (hC:∀ h,X.K.In h→CodeHd h c T) (hB:BmIn X.K X.mg) (hdef:defaultsOf params X.env=([],[]))
  (hcl:closureFor scope X.env=pure clos) (hq:X.env.qual++"<lambda>"=qual):PE X (.Lambda params body scope pos) (tLam X.mg T pos params body scope clos qual):=by
 intro pins s σ H Q I h
 obtain ⟨ps,hT,ht,alt⟩:=h
 have hP:s.heap.get? T=some (tabObj ps):=I.hok T _ hT
 have hg:s.heap.Ns mainGlobals X.mg:=I.mod.glob.keeps I.bk
 obtain ⟨bm,sl,b1,b2,b3,b4⟩:=hB.ex
 have hbm:X.base.get? bm=some ⟨.type "module",some builtinsNs,.plain,sl⟩:=I.mod.kin bm _ b4
 have hbT:bm≠T:=fun z=>by
  have:=(I.bs bm _ hbm).2
  rw [z,hT] at this; cases this
 have hgT:mainGlobals≠T:=fun z=>by
  obtain ⟨o,es,ep,e,_⟩:=I.mod.glob
  have:=(I.bs _ _ e).2
  rw [z,hT] at this; cases this
 have hb:s.heap.BuiltinsAt X.mg T:=⟨bm,_,b1,b2,b3,hbT,I.bk bm _ hbm,rfl,rfl,rfl⟩
 refine kla_eval hdef ?_
 rw [hq]
 rcases alt with ⟨hnf,q⟩ | ⟨c',hf,hc',q⟩
 ·refine kla_makeFunction hcl I.ok.glob hg hcode (hC _ I.kIn) hP ht hnf hgT hb fun c' ctv h' tk hx hge hlt hrec htb=>?_
  have I1:=I.grow (t':=tk) (h1:=h') (c':=c') (o:=CodeO c' qual) (more:=#[rawInt pos.line,rawInt pos.col,.ref c']) hT (fun b u nb e=>hx b u nb e) htb hge (codeO_ok hrec)
  have hn:H c'=none:=I.hok.fresh hge
  have hnf':H h'.objs.size=none:=I.hok.fresh (Nat.le_trans hge (Nat.le_of_lt hlt))
  have I2:=I1.laid (a:=h'.objs.size) (o:=ObjO h'.objs.size (lamObj X.mg qual params body scope clos c' ctv)) (t':=tk) (h':=h'.push (lamObj X.mg qual params body scope clos c' ctv)) (fun b u e=>Heap.get?_push_of_some _ e) (Nat.le_refl _) (Zj5 (Heap.get?_push_size _ rfl))
  exact ⟨.ref h'.objs.size,_,I2,rfl,q c' h'.objs.size ctv hn hnf' (Nat.ne_of_lt hlt) (Ne.symm (Zad hT hn)) (Ne.symm (Zad hT hnf'))⟩
 ·refine kla_makeFunctionHit hcl I.ok.glob hg hcode (hC _ I.kIn) hP ht hf hb fun ctv h' tk hk hsz=>?_
  have hnf':H h'.objs.size=none:=I.hok.fresh hsz
  have I1:=I.kept (t':=tk) hk
  have I2:=I1.laid (a:=h'.objs.size) (o:=ObjO h'.objs.size (lamObj X.mg qual params body scope clos c' ctv)) (t':=tk) (h':=h'.push (lamObj X.mg qual params body scope clos c' ctv)) (fun b u e=>Heap.get?_push_of_some _ e) (Nat.le_refl _) (Zj5 (Heap.get?_push_size _ rfl))
  exact ⟨.ref h'.objs.size,_,I2,rfl,q h'.objs.size ctv hnf'⟩
end
end L2
namespace L2
open PySem PySem.Spec PyProof.Rows PySem.W
section
variable {X:Cx} {pins:List (Addr × Obj)} {σ:St} {H:Hp} {s:Shared}
end
section
variable {X:Cx} {pins:List (Addr × Obj)} {σ:St} {H:Hp} {s:Shared} {A:Around} {D kS:Addr} {vs ks:List Value} {e e1:Nat}
end
section
variable {X:Cx} {pins:List (Addr × Obj)} {σ:St} {H:Hp} {s:Shared} {A:Around} {D kS f:Addr} {vs:List Value} {e1:Nat} {kts:List (Addr × List Int)} {m:Nat} {key:List Int→Int} {P:PySem.Fin→Shared→Prop} {E:Value→Shared→Prop}
end
section
variable {X:Cx}
end
end L2
namespace L2
open PySem PySem.Spec PyProof.Rows PySem.W
theorem Zhf {α β:Type} {f:α→β} {l m:List β} (h:l.Perm m):∀ ts:List α,m=ts.map f→∃ ts':List α,ts'.Perm ts∧l=ts'.map f:=by
 induction h with
 | nil =>
  intro ts e
  rw [List.map_eq_nil_iff.mp e.symm]
  exact ⟨[],.nil,rfl⟩
 | cons x p ih =>
  intro ts e
  obtain ⟨t,r,rfl,e1,e2⟩:=List.map_eq_cons_iff.mp e.symm
  obtain ⟨r',p',e'⟩:=ih r e2.symm
  exact ⟨t :: r',p'.cons t,by rw [e',List.map_cons,e1]⟩
 | swap x y l =>
  intro ts e
  obtain ⟨t,r,rfl,e1,e2⟩:=List.map_eq_cons_iff.mp e.symm
  obtain ⟨u,q,rfl,e3,e4⟩:=List.map_eq_cons_iff.mp e2
  exact ⟨u :: t :: q,List.Perm.swap _ _ _,by rw [List.map_cons,List.map_cons,e1,e3,e4]⟩
 | trans p q ih1 ih2 =>
  intro ts e
  obtain ⟨t2,p2,e2⟩:=ih2 ts e
  obtain ⟨t1,p1,e1⟩:=ih1 t2 e2
  exact ⟨t1,p1.trans p2,e1⟩
section
variable {X:Cx} {pins:List (Addr × Obj)} {σ:St} {H:Hp} {s:Shared} {A:Around} {D kS f:Addr} {vs:List Value} {e1:Nat} {kvs:List V} {kd:SortKind} {κ:Value→Int} {P:PySem.Fin→Shared→Prop} {E:Value→Shared→Prop}
end
end L2
namespace L2
open PySem PySem.Spec PyProof.Rows PySem.W
section
variable {X:Cx} {k j:Nat} {y:Str} {ps:List Str} {sp:Sp} {e:Expr} {p q kp pos:Pos} {ta:TA}
end
end L2
namespace L2
open PySem PySem.Spec PyProof.Rows PySem.W
section
variable {prog:Program} {w:World} {A:Around} {E:Value→Shared→Prop} {s:Shared}
end
section
variable {X:Cx}
def KeyAtA (X:Cx) (A:Around) (σ:St) (H:Hp) (kvs:List V) (kd:SortKind) (κ:Value→Int):Prop:=∀ (ks:List Value) (pins:List (Addr × Obj)) (s:Shared),Vals kvs ks→Inv X pins σ H s →
 (∀ (C:SortKind→Shared→Prop) (E:Value→Shared→Prop),2≤ks.length→C kd s→wpAny (model X.prog X.w) A (keyKind' ks.toArray) C E s) ∧
 ∀ x∈ks,∀ y∈ks,∀ C:Bool→Shared→Prop,C (decide (κ x < κ y)) s→wpAny (model X.prog X.w) A (keyLt' kd x y) C (fun _ _=>False) s
end
end L2
namespace L2
open PySem PySem.Spec PyProof.Rows PySem.W
def intsD':List Int→Ds
 | []=>.nil
 | i :: r=>.cons (.at (.int i)) (intsD' r)
theorem Zct {K:PySem.W.Frag} {H:Hp}:∀ (ns:List Int),DIss K H (intsD' ns) (ns.map V.int)
 | []=>by
  show DIss K H .nil []
  rw [DIss]
 | i :: r=>by
  show DIss K H (.cons (.at (.int i)) (intsD' r)) (.int i :: r.map V.int)
  rw [DIss]
  exact ⟨_,_,rfl,by rw [DIs]; exact ⟨rfl,rfl⟩,Zct r⟩
theorem Zc8:∀ (ns:List Int),deps (intsD' ns)=0
 | []=>by rw [intsD',deps]
 | i :: r=>by rw [intsD',deps,dep,Zc8 r]; rfl
theorem Zis:∀ (ns ms:List Int),deqs (intsD' ns) (intsD' ms)=decide (ns=ms)
 | [],[]=>by rw [intsD',deqs,decide_eq_true rfl]
 | [],j :: q=>by rw [intsD',intsD',deqs,decide_eq_false (by intro z; cases z)] <;> (intros; contradiction)
 | i :: r,[]=>by rw [intsD',intsD',deqs,decide_eq_false (by intro z; cases z)] <;> (intros; contradiction)
 | i :: r,j :: q=>by
  rw [intsD',intsD',deqs,Zis r q,deq]
  by_cases h:i=j
  ·subst h
   by_cases h2:r=q
   ·subst h2; simp [eqV]
   ·rw [decide_eq_false h2,decide_eq_false (fun z=>h2 (List.cons.inj z).2),Bool.and_false]
  ·rw [decide_eq_false (fun z=>h (List.cons.inj z).1)]
   have:eqV (.int i) (.int j)=false:=by simp [eqV,h]
   rw [this]; rfl
section
variable {X:Cx}
end
end L2
namespace L2
open PySem PySem.Spec PyProof.Rows PySem.W
abbrev Rwt:=Addr × List Int × Addr × List Int
abbrev rks (t:Rwt):List Int:=t.2.1++t.2.2.2
def RwAt (H:Hp) (n m:Nat) (t:Rwt):Prop:=H t.1=some (.tup (t.2.1.map V.int++[.ref t.2.2.1]))∧H t.2.2.1=some (.tup (t.2.2.2.map V.int))∧t.2.1.length=n+1∧t.2.2.2.length=m+1
def vInts:List V→List Int
 | .int i :: r=>i :: vInts r
 | _=>[]
def vLast:List V→Addr
 | [.ref p]=>p
 | _ :: r=>vLast r
 | []=>0
theorem Zh8 {p:Addr}:∀ (ns:List Int),vInts (ns.map V.int++[.ref p])=ns
 | []=>rfl
 | i :: r=>by show i :: vInts (r.map V.int++[.ref p])=_; rw [Zh8 r]
theorem Zh9:∀ (ns:List Int),vInts (ns.map V.int)=ns
 | []=>rfl
 | i :: r=>by show i :: vInts (r.map V.int)=_; rw [Zh9 r]
theorem Zh7 {p:Addr}:∀ (ns:List Int),vLast (ns.map V.int++[.ref p])=p
 | []=>rfl
 | i :: r=>by
  have:=Zh7 (p:=p) r
  rw [List.map_cons,List.cons_append]
  cases hr:r.map V.int++[V.ref p] with
  | nil=>rw [hr] at this; simp at hr
  | cons x y=>rw [hr] at this; exact this
def rowKey (H:Hp) (key:List Int→Int) (a:Addr):Int:=match H a with
 | some (.tup vs)=>key (vInts vs++match H (vLast vs) with
  | some (.tup us)=>vInts us
  | _=>[])
 | _=>0
def keyAtR (H:Hp) (key:List Int→Int):Value→Int
 | .ref a=>rowKey H key a
 | _=>0
theorem Zfu {H:Hp} {key:List Int→Int} {n m:Nat} {t:Rwt} (h:RwAt H n m t):keyAtR H key (.ref t.1)=key (rks t):=by
 obtain ⟨h1,h2,_,_⟩:=h
 show rowKey H key t.1=_
 unfold rowKey
 rw [h1]
 dsimp only
 rw [Zh8,Zh7,h2]
 dsimp only
 rw [Zh9]
theorem Zku {p:Addr}:∀ {ns:List Int} {zs:List Value},Vals (ns.map V.int++[.ref p]) zs→∃ vs,zs=vs++[.ref p]∧IntsAre vs ns
 | [],zs,h=>by
  cases h with
  | cons h t =>
   cases t
   cases (show _=Value.ref p from h)
   exact ⟨[],rfl,.nil⟩
 | i :: r,zs,h=>by
  rw [List.map_cons,List.cons_append] at h
  cases h with
  | cons h t =>
   obtain ⟨tk,rfl⟩:=(show ∃ t,_=Value.int i t from h)
   obtain ⟨vs,rfl,hv⟩:=Zku t
   exact ⟨_,rfl,.cons i tk hv⟩
section
variable {prog:Program} {w:World} {A:Around} {s:Shared}
theorem Zgt {fin:Bool} {Q:Bool→Shared→Prop} {x y:Value} {as bs:List Int} (last:∀ i,0 < i→Q (HT.lexLt as bs) s→KatLex prog w A true fin Q [(x,y)] i s) :
  ∀ {vs ws:List Value} {ns ms:List Int} (i:Nat),IntsAre vs ns→IntsAre ws ms→(0 < i∨ns≠[])→ns.length=ms.length→Q (HT.lexLt (ns++as) (ms++bs)) s→KatLex prog w A true fin Q ((vs++[x]).zip (ws++[y])) i s
 | _,_,_,_,i,.nil,.nil,hi,_,hq=>last i (hi.resolve_right (fun z=>z rfl)) hq
 | _,_,_,_,i,.cons n t hn,.cons m u hm,_,hl,hq=>by
  rw [List.cons_append,List.cons_append,List.zip_cons_cons]
  rw [List.cons_append,List.cons_append,HT.lexLt_cons] at hq
  refine kat_cons (wpAny_eqBool_int (kat_go (fun e=>kat_yes ?_) fun e=>kat_no ?_))
  ·have e':n=m:=by simpa using e
   rw [if_pos e'] at hq
   exact Zgt last (i+1) hn hm (.inl (Nat.succ_pos _)) (by simpa using hl) hq
  ·have e':¬ n=m:=by simpa using e
   rw [if_neg e'] at hq
   by_cases hi:i=0
   ·subst hi
    exact oneLt_int hq
   ·have hb:(true && i == 0)=false:=by simp [hi]
    rw [hb]
    exact kat_one _ _ (lt_int hq)
end
theorem Zet {h:Heap} {β:Type}:∀ {ts:List (Addr × β)},(∀ t∈ts,∃ items n tk zs,IsTup h t.1 items∧items.toList=Value.int n tk :: zs)→∃ fs,KatTups h (ts.map fun t=>Value.ref t.1) fs∧fs.length=ts.length∧∀ v∈fs,∃ n tk,v=Value.int n tk
 | [],_=>⟨[],KatTups.nil,rfl,fun v hv=>nomatch hv⟩
 | t :: r,hh=>by
  obtain ⟨fs,h1,h2,h3⟩:=Zet (ts:=r) fun u hu=>hh u (List.mem_cons_of_mem _ hu)
  obtain ⟨items,x,tk,zs,⟨o,ho,hc,n,hd⟩,e⟩:=hh t List.mem_cons_self
  have hf:items[0]?=some (Value.int x tk):=by
   rw [← Array.getElem?_toList,e]; rfl
  exact ⟨_,KatTups.cons ho hc hd hf h1,by simp [h2],fun v hv=>by
   rcases List.mem_cons.mp hv with rfl | hv
   ·exact ⟨x,tk,rfl⟩
   ·exact h3 v hv⟩
theorem Zjp {X:Cx} {pins:List (Addr × Obj)} {σ:St} {H:Hp} {s:Shared} {n m:Nat} {t:Rwt} (I:Inv X pins σ H s) (h:RwAt H n m t):(∃ vs,IsTup s.heap t.1 (vs++[Value.ref t.2.2.1]).toArray∧IntsAre vs t.2.1)∧∃ items,IsTup s.heap t.2.2.1 items∧IntsAre items.toList t.2.2.2:=by
 obtain ⟨h1,h2,_,_⟩:=h
 obtain ⟨_,zs,rz,tz⟩:=(show ObjOk X.prog X.w H s.heap t.1 (.tup (t.2.1.map V.int++[.ref t.2.2.1])) from I.hok _ _ h1)
 obtain ⟨_,zs2,rz2,tz2⟩:=(show ObjOk X.prog X.w H s.heap t.2.2.1 (.tup (t.2.2.2.map V.int)) from I.hok _ _ h2)
 obtain ⟨vs,rfl,hv⟩:=Zku rz
 exact ⟨⟨vs,tz,hv⟩,_,tz2,by simpa using Zej rz2⟩
theorem keyAt_rows {X:Cx} {A:Around} {σ:St} {H:Hp} {ts:List Rwt} {n m:Nat} {key:List Int→Int} (hu:A.units+8 < cLine) (ht:∀ t∈ts,RwAt H n m t)
  (hkey:∀ t∈ts,∀ u∈ts,HT.lexLt (rks t) (rks u)=decide (key (rks t) < key (rks u))):KeyAtA X A σ H (ts.map fun t=>V.ref t.1) (tuples' true) (keyAtR H key):=fun ks pins s rk I=>by
 have hks:ks=ts.map fun t=>Value.ref t.1:=by
  have:=Zdv (ts:=ts.map (·.1)) (its:=ks) (by rw [List.map_map]; exact rk)
  rw [this,List.map_map]; rfl
 subst hks
 have tup:=fun t htm=>Zjp I (ht t htm)
 refine ⟨fun C E h2 hc=>?_,fun x hx y hy C hc=>?_⟩
 ·obtain ⟨fs,f1,f2,f3⟩:=Zet (h:=s.heap) (ts:=ts) fun t htm=>by
   obtain ⟨⟨vs,tv,hv⟩,_⟩:=tup t htm
   have l:=(ht t htm).2.2.1
   generalize t.2.1=ns at hv l
   cases hv with
   | nil=>simp at l
   | cons i tk hz=>exact ⟨_,i,tk,_,tv,rfl⟩
  rw [List.length_map] at h2
  exact kat_kind (T:=Value.type "int") f1 (by omega) (fun v hv=>by obtain ⟨n,tk,rfl⟩:=f3 v hv; exact .now) (by decide) hc
 ·obtain ⟨t,mt,rfl⟩:=List.mem_map.mp hx
  obtain ⟨u,mu,rfl⟩:=List.mem_map.mp hy
  obtain ⟨⟨v1,⟨o1,g1,c1,n1,d1⟩,z1⟩,i1,tp1,y1⟩:=tup t mt
  obtain ⟨⟨v2,⟨o2,g2,c2,n2,d2⟩,z2⟩,i2,tp2,y2⟩:=tup u mu
  have ra:=ht t mt
  have rb:=ht u mu
  rw [Zfu ra,Zfu rb,← hkey t mt u mu] at hc
  obtain ⟨a1,a2,a3,a4⟩:=ra
  obtain ⟨b1,b2,b3,b4⟩:=rb
  have l1:=z1.length
  have l2:=z2.length
  refine kat_lt g1 d1 g2 d2 ?_
  rw [List.toList_toArray,List.toList_toArray]
  have fin:decide ((v1++[Value.ref t.2.2.1]).toArray.size < (v2++[Value.ref u.2.2.1]).toArray.size)=false:=decide_eq_false (by simp; omega)
  rw [fin]
  refine Zgt (as:=t.2.2.2) (bs:=u.2.2.2) (fun i hi hq=>?_) 0 z1 z2 (.inr (fun z=>by rw [z] at a3; simp at a3)) (by omega) hc
  have D1:DIs X.K H (.tup (intsD' t.2.2.2)) (.ref t.2.2.1):=by rw [DIs]; exact ⟨_,_,rfl,SqT.of a2,Zct _⟩
  have D2:DIs X.K H (.tup (intsD' u.2.2.2)) (.ref u.2.2.1):=by rw [DIs]; exact ⟨_,_,rfl,SqT.of b2,Zct _⟩
  have dp:dep (.tup (intsD' t.2.2.2))≤1:=by rw [dep,Zc8]; omega
  have eqp:SeqAt.EqAt A s (.ref t.2.2.1) (.ref u.2.2.1) (decide (t.2.2.2=u.2.2.2)):=by
   have:=eqAt_D I 1 A (.tup (intsD' t.2.2.2)) (.tup (intsD' u.2.2.2)) (.ref t.2.2.1) (.ref u.2.2.1) (.ref t.2.2.1) (.ref u.2.2.1) dp D1 D2 rfl rfl (by omega)
   rwa [deq,Zis] at this
  refine kat_cons (eqp _ _ _ _ (kat_go (fun e=>kat_yes (kat_nil ?_)) fun e=>kat_no ?_))
  ·have e:=of_decide_eq_true e
   rw [e] at hq
   have z:∀ ns:List Int,HT.lexLt ns ns=false:=fun ns=>by
    induction ns with
    | nil=>rfl
    | cons i r ih=>rw [HT.lexLt_cons,if_pos rfl,ih]
   rw [z] at hq
   exact hq
  ·have hb:(true && i == 0)=false:=by simp; omega
   rw [hb]
   exact kat_one _ _ (HT.lt_tupInts tp1 tp2 y1 y2 (by omega) hq)
section
variable {X:Cx}
end
theorem ints_inj {vs:List Value} {ns ms:List Int} (a:IntsAre vs ns) (b:IntsAre vs ms):ns=ms:=by
 induction a generalizing ms with
 | nil=>cases b; rfl
 | cons n t _ ih=>cases b with | cons _ _ h=>rw [ih h]
theorem Zho {vs:List Value} {ns:List Int} (a:IntsAre vs ns):∀ (j:Nat) (h:j < vs.length),∃ tk,vs[j]=Value.int (ns.getD j 0) tk:=by
 induction a with
 | nil=>intro j h; simp at h
 | cons n t _ ih =>
  intro j h
  cases j with
  | zero=>exact ⟨t,rfl⟩
  | succ j=>exact ih j (by simpa using h)
theorem all_eq_iff:∀ {ns ms:List Int},((List.range (min ns.length ms.length)).all (fun j=>ns.getD j 0 == ms.getD j 0) && ns.length == ms.length)=decide (ns=ms):=by
 intro ns ms
 rw [Bool.eq_iff_iff,Bool.and_eq_true,List.all_eq_true,decide_eq_true_iff]
 constructor
 ·rintro ⟨h,l⟩
  have l:=eq_of_beq l
  apply List.ext_getElem l
  intro i h1 h2
  have:=eq_of_beq (h i (List.mem_range.mpr (by omega)))
  rw [List.getD_eq_getElem?_getD,List.getD_eq_getElem?_getD,List.getElem?_eq_getElem h1,List.getElem?_eq_getElem h2] at this
  exact this
 ·rintro rfl
  exact ⟨fun x _=>beq_self_eq_true _,beq_self_eq_true _⟩
theorem Ziv {A:Around} {s:Shared} {a b:Addr} {i1 i2:Array Value} {ns ms:List Int} (h1:IsTup s.heap a i1) (h2:IsTup s.heap b i2) (n1:IntsAre i1.toList ns) (n2:IntsAre i2.toList ms) (hu:A.units+1 < cLine):SeqAt.EqAt A s (.ref a) (.ref b) (decide (ns=ms)):=by
 by_cases hab:a=b
 ·subst hab
  obtain ⟨o1,g1,c1,m1,d1⟩:=h1
  obtain ⟨o2,g2,c2,m2,d2⟩:=h2
  rw [g1] at g2
  cases g2
  rw [d1] at d2
  cases d2
  rw [ints_inj n1 n2,decide_eq_true rfl]
  exact SeqAt.EqAt.same _
 ·refine SeqAt.EqAt.of_refs hab ?_
  have l1:=n1.length
  have l2:=n2.length
  rw [Array.length_toList] at l1 l2
  have:=SeqAt.RcAt.tuples (A:=A) (e:=fun j=>ns.getD j 0 == ms.getD j 0) (show s.heap.IsTuple a i1 from h1) (show s.heap.IsTuple b i2 from h2) (by omega) fun j g1 g2=>by
   obtain ⟨t1,e1⟩:=Zho n1 j (by simpa using g1)
   obtain ⟨t2,e2⟩:=Zho n2 j (by simpa using g2)
   rw [Array.getElem_toList] at e1 e2
   rw [e1,e2]
   exact SeqAt.EqAt.int_int _ _ _ _
  rw [l1,l2,all_eq_iff] at this
  exact this
section
open PySem.SeqAt
open PySem.AutoSeq1 (wpAny_loadPart')
open PySem.MeetsSeq PySem.MeetsSeq2 PySem.MeetsSeq3
theorem Zgr:∀ ns:List Int,HT.lexLt ns ns=false
 | []=>rfl
 | i :: r=>by rw [HT.lexLt_cons,if_pos rfl,Zgr r]
inductive RowsAt (h:Heap):List Value→List Value→List Int→List Int→Prop
 | nil:RowsAt h [] [] [] []
 | last {p q:Addr} {i1 i2:Array Value} {ns ms:List Int}:IsTup h p i1→IsTup h q i2→IntsAre i1.toList ns→IntsAre i2.toList ms→RowsAt h [.ref p] [.ref q] ns ms
 | cons {i j:Int} {tk tj:Tok} {vs ws:List Value} {ns ms:List Int}:RowsAt h vs ws ns ms→RowsAt h (.int i tk :: vs) (.int j tj :: ws) (i :: ns) (j :: ms)
theorem Zic {h:Heap} {p q:Addr} {i1 i2:Array Value} {as bs:List Int} (hp:IsTup h p i1) (hq:IsTup h q i2) (ha:IntsAre i1.toList as) (hb:IntsAre i2.toList bs):∀ {vs ws:List Value} {ns ms:List Int},IntsAre vs ns→IntsAre ws ms→ns.length=ms.length→RowsAt h (vs++[.ref p]) (ws++[.ref q]) (ns++as) (ms++bs)
 | _,_,_,_,.nil,.nil,_=>.last hp hq ha hb
 | _,_,_,_,.cons n t r,.cons m u r',hl=>.cons (Zic hp hq ha hb r r' (by simpa using hl))
theorem Zg3 (l b:Addr) (items items2:Array Value) (n n2:Nat) (dd dd2:Option Addr) (sl sl2:Array (Option Value)) (ns ms:List Int) (hsz:items.size=items2.size) :
  Meets (Builtin.«tuple.__lt__» ⟨[.ref l,.ref b],[]⟩)
   (fun A R s=>s.heap.get? l=some { cls:=.type "tuple",dict:=dd,data:=.seq items n,slots:=sl }∧s.heap.get? b=some { cls:=.type "tuple",dict:=dd2,data:=.seq items2 n2,slots:=sl2 }∧A.units+3 < cLine∧RowsAt s.heap items.toList items2.toList ns ms ∧
    R (.ok (.ret (.bool (HT.lexLt ns ms)))) s) :=
 .of_wp fun prog w A R s h=>by
  obtain ⟨hp,g,d,tk,os⟩:=s; obtain ⟨hl,hb,hu,hr,h⟩:=h
  have f2:=AutoSeq1.sub_tuple_tuple
  wp_walk using wpAny_loadPart' hl,wpAny_loadPart' hb,wpAny_forIn_list _ (fun rest b s'=>b.1=none∧s'=⟨hp,g,d,tk,os⟩∧∃ (vs ws:List Value) (ns' ms':List Int),rest=vs.zip ws ∧
   RowsAt hp vs ws ns' ms'∧R (.ok (.ret (.bool (HT.lexLt ns' ms')))) ⟨hp,g,d,tk,os⟩) _
  case turn =>
   rintro ⟨y,x⟩ rest b s' ⟨hb',rfl,vs,ws,ns',ms',hz,hra,hR⟩
   cases hra with
   | nil=>cases hz
   | last t1 t2 e1 e2 =>
    rw [List.zip_cons_cons] at hz
    injection hz with hyx hrest
    injection hyx with hy hx
    subst hy hx
    have he:=Ziv (A:=A.in1) (s:=⟨hp,g,d,tk,os⟩) t1 t2 e1 e2 (by show A.units+1+1 < cLine; omega)
    refine wpAny_bind (he prog w _ _ ?_)
    by_cases q:ns'=ms'
    ·rw [decide_eq_true q]
     rw [q,Zgr] at hR
     wp_walk
     exact ⟨rfl,rfl,[],[],[],[],hrest,.nil,hR⟩
    ·rw [decide_eq_false q]
     have hri:=fun Q' E' q'=>HT.lt_tupInts (prog:=prog) (w:=w) (A:=A.in1) (Q:=Q') (E:=E') (s:=⟨hp,g,d,tk,os⟩) t1 t2 e1 e2 (by show A.units+1 < cLine; omega) q'
     have hri:∀ (E':Value→Shared→Prop) (Q':Value→Shared→Prop),Q' (.bool (HT.lexLt ns' ms')) ⟨hp,g,d,tk,os⟩→wpAny (model prog w) A.in1 (richCompare .Lt _ _) Q' E' ⟨hp,g,d,tk,os⟩:=fun E' Q' q'=>hri Q' E' q'
     wp_walk using hri
     exact ⟨_,rfl,by simpa using hR⟩
   | cons hra' =>
    rename_i i j tk1 tj1 vs' ws' ns'' ms''
    rw [List.zip_cons_cons] at hz
    injection hz with hyx hrest
    injection hyx with hy hx
    subst hy hx
    rw [HT.lexLt_cons] at hR
    obtain ⟨e,he,hiff⟩:=HT.eqAt_int A.in1 ⟨hp,g,d,tk,os⟩ i tk1 j tj1
    refine wpAny_bind (he prog w _ _ ?_)
    cases e with
    | true =>
     rw [if_pos (hiff.mp rfl)] at hR
     wp_walk
     exact ⟨rfl,rfl,_,_,_,_,hrest,hra',hR⟩
    | false =>
     rw [if_neg (fun q=>absurd (hiff.mpr q) Bool.false_ne_true)] at hR
     have hri:=HT.rcLt_int A.in1 ⟨hp,g,d,tk,os⟩ i tk1 j tj1 prog w
     wp_walk using hri
     exact ⟨_,rfl,by simpa using hR⟩
  case fin =>
   rintro ⟨b1,b2⟩ s' ⟨hb',rfl,vs,ws,ns',ms',hz,hra,hR⟩
   simp only at hb'
   subst hb'
   have hv:HT.lexLt ns' ms'=decide (items.size < items2.size):=by
    cases hra with
    | nil=>exact (decide_eq_false (by omega)).symm
    | last t1 t2 e1 e2=>rw [List.zip_cons_cons] at hz; cases hz
    | cons hra'=>rw [List.zip_cons_cons] at hz; cases hz
   rw [hv] at hR
   wp_walk
   exact ⟨_,rfl,by simpa [Builtin.Tuple.tupleCompareSizes] using hR⟩
  exact ⟨rfl,rfl,_,_,_,_,rfl,hr,h⟩
end
theorem lt_rows {prog:Program} {w:World} {A:Around} {E:Value→Shared→Prop} {s:Shared} {l b:Addr} {items items2:Array Value} {ns ms:List Int} {Q:Value→Shared→Prop} (hl:IsTup s.heap l items) (hb:IsTup s.heap b items2) (hsz:items.size=items2.size) (hr:RowsAt s.heap items.toList items2.toList ns ms)
  (hu:A.units+3 < cLine) (h:Q (.bool (HT.lexLt ns ms)) s):wpAny (model prog w) A (compareOp .Lt (.ref l) (.ref b)) Q E s:=by
 obtain ⟨⟨cls,dd,data,sl⟩,ho,hc,n,hd⟩:=id hl
 obtain ⟨⟨cls2,dd2,data2,sl2⟩,ho2,hc2,n2,hd2⟩:=id hb
 simp only at hc hd hc2 hd2
 subst hc hd hc2 hd2
 exact richCompare_meets_room (op:=.Lt) ⟨_,ho,rfl⟩ ⟨_,ho2,rfl⟩ PySem.F.slot_tuple_lt PySem.F.entry_tuple_lt (PySem.F.args_tuple_lt_2 _ _) (Zg3 l b items items2 n n2 dd dd2 sl sl2 ns ms hsz)
  ⟨ho,ho2,hu,hr,show Value.bool (HT.lexLt ns ms)≠Value.notImplemented∧Q (.bool (HT.lexLt ns ms)) s from ⟨(fun x=>nomatch x),h⟩⟩ (by omega)
theorem best_key (f:Nat→Int):∀ k,argBest (fun i j=>decide (f i < f j)) k≤k∧∀ j,j≤k→f (argBest (fun i j=>decide (f i < f j)) k)≤f j
 | 0=>⟨Nat.le_refl _,fun j hj=>by rw [Nat.le_zero.mp hj]; exact Int.le_refl _⟩
 | k+1=>by
  obtain ⟨h1,h2⟩:=best_key f k
  unfold argBest
  by_cases q:f (k+1) < f (argBest (fun i j=>decide (f i < f j)) k)
  ·rw [if_pos (decide_eq_true q)]
   refine ⟨Nat.le_refl _,fun j hj=>?_⟩
   rcases Nat.lt_or_ge j (k+1) with l | l
   ·have:=h2 j (by omega); omega
   ·rw [show j=k+1 from by omega]; exact Int.le_refl _
  ·rw [if_neg (by rw [decide_eq_false q]; exact Bool.false_ne_true)]
   refine ⟨by omega,fun j hj=>?_⟩
   rcases Nat.lt_or_ge j (k+1) with l | l
   ·exact h2 j (by omega)
   ·rw [show j=k+1 from by omega]; omega
section
variable {X:Cx}
theorem min_run {pins:List (Addr × Obj)} {σ:St} {H:Hp} {s:Shared} {p:Addr} {β:Type} {ts:List (Addr × β)} {K:Addr × β→Int} {Q:VK} (I:Inv X pins σ H s) (hp:SqL X.K H p (ts.map fun t=>V.ref t.1)) (hc:X.calm=true) (hn:ts≠[])
  (cmp:∀ t∈ts,∀ u∈ts,∀ (s':Shared) (Q':Value→Shared→Prop) (E':Value→Shared→Prop),(∀ b o,s.heap.get? b=some o→s'.heap.get? b=some o)→Q' (.bool (decide (K t < K u))) s'→wpAny (model X.prog X.w) X.A.in1 (compareOp .Lt (.ref t.1) (.ref u.1)) Q' E' s')
  (q:∀ t∈ts,(∀ u∈ts,K t≤K u)→Q (.ref t.1) H):wpAny (model X.prog X.w) X.A (call (.builtin "min") [.ref p]) (EP X pins σ Q) X.xe s:=by
 obtain ⟨its,rv,pl,hz⟩:=I.list hp
 have hits:its=ts.map fun t=>Value.ref t.1:=by
  have:=Zdv (ts:=ts.map (·.1)) (its:=its) (by rw [List.map_map]; exact rv)
  rw [this,List.map_map]; rfl
 subst hits
 have len:0 < ts.length:=List.length_pos_iff.mpr hn
 have at_:∀ (i:Nat) (v:Value),(ts.map fun t=>Value.ref t.1).toArray[i]?=some v→∃ t,ts[i]?=some t∧v=.ref t.1:=fun i v e=>by
  rw [List.getElem?_toArray,List.getElem?_map] at e
  cases z:ts[i]? with
  | none=>rw [z] at e; cases e
  | some t=>rw [z] at e; exact ⟨t,rfl,(Option.some.inj e).symm⟩
 have gd:∀ (i:Nat) (t:Addr × β),ts[i]?=some t→((ts.map K).getD i 0)=K t:=fun i t e=>by
  rw [List.getD_eq_getElem?_getD,List.getElem?_map,e]; rfl
 refine min_G (lt:=fun i j=>decide ((ts.map K).getD i 0 < (ts.map K).getD j 0)) (I.ok.hd hc) pl.isList (by simpa using len) ?_ fun v h' tk hv hk=>?_
 ·intro i j vi vj s' Q' E' g hi hj hq
  obtain ⟨ti,e1,rfl⟩:=at_ i vi hi
  obtain ⟨tj,e2,rfl⟩:=at_ j vj hj
  dsimp only at hq
  rw [gd i ti e1,gd j tj e2] at hq
  exact cmp ti (List.mem_of_getElem? e1) tj (List.mem_of_getElem? e2) s' Q' E' g hq
 ·obtain ⟨b1,b2⟩:=best_key (fun i=>(ts.map K).getD i 0) ((ts.map fun t=>Value.ref t.1).toArray.size - 1)
  obtain ⟨t,e1,rfl⟩:=at_ _ v hv
  refine ⟨.ref t.1,H,I.kept (t':=tk) hk,rfl,q t (List.mem_of_getElem? e1) fun u hu'=>?_⟩
  obtain ⟨j,hj⟩:=List.mem_iff_getElem?.mp hu'
  have:=b2 j (by have:=(List.getElem?_eq_some_iff.mp hj).1; simp; omega)
  rw [gd j u hj,gd _ t e1] at this
  exact this
theorem call_minR {k:Nat} (hr:Room k X.A):CallR X (.builtin "min") (fun xs H Q=>∃ (p:Addr) (ts:List Rwt) (n m:Nat) (key:List Int→Int),xs=[.ref p]∧SqL X.K H p (ts.map fun t=>V.ref t.1)∧X.calm=true∧ts≠[] ∧
  (∀ t∈ts,RwAt H n m t)∧(∀ t∈ts,∀ u∈ts,HT.lexLt (rks t) (rks u)=decide (key (rks t) < key (rks u)))∧∀ t∈ts,(∀ u∈ts,key (rks t)≤key (rks u))→Q (.ref t.1) H):=by
 intro pins s σ H xs us Q I r h
 obtain ⟨p,ts,n,m,key,rfl,hp,hc,hn,ht,hkey,q⟩:=h
 obtain ⟨u,rfl,ru⟩:=vals1 r
 cases ru
 refine min_run (K:=fun t=>key (rks t)) I hp hc hn (fun t mt u mu s' Q' E' g hq=>?_) q
 obtain ⟨⟨v1,⟨o1,g1,c1⟩,z1⟩,i1,⟨p1,k1,l1⟩,y1⟩:=Zjp I (ht t mt)
 obtain ⟨⟨v2,⟨o2,g2,c2⟩,z2⟩,i2,⟨p2,k2,l2⟩,y2⟩:=Zjp I (ht u mu)
 have a3:=(ht t mt).2.2.1
 have b3:=(ht u mu).2.2.1
 have w1:=z1.length
 have w2:=z2.length
 rw [← hkey t mt u mu] at hq
 refine lt_rows (s:=s') ⟨o1,g _ _ g1,c1⟩ ⟨o2,g _ _ g2,c2⟩ (by simp; omega) ?_ (by have:=hr.units; show X.A.units+1+3 < _; omega) hq
 rw [List.toList_toArray,List.toList_toArray]
 exact Zic ⟨p1,g _ _ k1,l1⟩ ⟨p2,g _ _ k2,l2⟩ y1 y2 z1 z2 (by omega)
theorem call_minI {k:Nat} (hr:Room k X.A):CallR X (.builtin "min") (fun xs H Q=>∃ (p:Addr) (ts:List (Addr × List Int)) (key:List Int→Int),xs=[.ref p]∧SqL X.K H p (ts.map fun t=>V.ref t.1)∧X.calm=true∧ts≠[] ∧
  (∀ t∈ts,H t.1=some (.tup (t.2.map V.int)))∧(∀ t∈ts,∀ u∈ts,HT.lexLt t.2 u.2=decide (key t.2 < key u.2))∧∀ t∈ts,(∀ u∈ts,key t.2≤key u.2)→Q (.ref t.1) H):=by
 intro pins s σ H xs us Q I r h
 obtain ⟨p,ts,key,rfl,hp,hc,hn,ht,hkey,q⟩:=h
 obtain ⟨u,rfl,ru⟩:=vals1 r
 cases ru
 refine min_run (K:=fun t=>key t.2) I hp hc hn (fun t mt u mu s' Q' E' g hq=>?_) q
 have tup:∀ t∈ts,∃ items,IsTup s.heap t.1 items∧IntsAre items.toList t.2:=fun t htm=>by
  obtain ⟨_,zs,rz,tz⟩:=(show ObjOk X.prog X.w H s.heap t.1 (.tup (t.2.map V.int)) from I.hok _ _ (ht t htm))
  exact ⟨_,tz,by simpa using Zej rz⟩
 obtain ⟨i1,⟨o1,g1,c1⟩,z1⟩:=tup t mt
 obtain ⟨i2,⟨o2,g2,c2⟩,z2⟩:=tup u mu
 rw [← hkey t mt u mu] at hq
 exact HT.lt_tupInts (s:=s') ⟨o1,g _ _ g1,c1⟩ ⟨o2,g _ _ g2,c2⟩ z1 z2 (by have:=hr.units; show X.A.units+1 < _; omega) hq
end
section
open PySem.SeqAt
open PySem.AutoSeq1 (wpAny_loadPart')
open PySem.MeetsSeq PySem.MeetsSeq2 PySem.MeetsSeq3
end
section
variable {X:Cx}
end
end L2
namespace L2
open PySem PySem.Spec PyProof.Rows PySem.W
section
variable {prog:Program} {w:World} {A:Around} {E:Value→Shared→Prop} {s:Shared}
theorem sortedS {l:Addr} {vs:List Value} {kd:SortKind} {κ:Value→Int} {Q:Value→Shared→Prop} (hl:s.heap.IsList l vs.toArray) (h64:vs.length < 64)
  (hK:∀ (h':Heap),(∀ b o,s.heap.get? b=some o→h'.get? b=some o)→∀ (Q:SortKind→Shared→Prop) (E:Value→Shared→Prop),2≤vs.length→Q kd { s with heap:=h' }→wpAny (model prog w) A.in1.in1 (keyKind' vs.toArray) Q E { s with heap:=h' })
  (hL:∀ (h':Heap),(∀ b o,s.heap.get? b=some o→h'.get? b=some o)→∀ x∈vs,∀ y∈vs,∀ (C:Bool→Shared→Prop),C (decide (κ x < κ y)) { s with heap:=h' }→wpAny (model prog w) A.in1.in1 (keyLt' kd x y) C (fun _ _=>False) { s with heap:=h' })
  (h:∀ zs:List Value,zs.Perm vs→(zs.map κ).Pairwise (·≤·)→Q (.ref (s.heap.objs.size+1)) { s with heap:=sortedAll s.heap vs zs.toArray }) :
  wpAny (model prog w) A (call (.builtin "sorted") [.ref l]) Q E s:=by
 have hz:vs.length≤sizeLine:=by rw [sizeLine_eq]; lia
 have gm:∀ i,i < vs.length→vs.getD i Value.none∈vs:=fun i hi=>by rw [List.getD_eq_getElem?_getD,List.getElem?_eq_getElem hi]; exact List.getElem_mem hi
 refine Calls.call_function_entry kind_sorted plain_sorted entry_sorted (args_sorted1 _) ?_
 unfold Builtin.«sorted»
 refine wpAny_bind (m:=checkCount "sorted" 1 1 _) (wpAny_pure ?_)
 refine wpAny_bind (collect_list hl ?_ hz)
 refine wpAny_bind (wpAny_newList ?_ hz)
 have hsz:((s.heap.push (seqObj "list" #[] 0)).update s.heap.objs.size (Obj.mapSeq (·++vs.toArray))).objs.size=s.heap.objs.size+1:=by
  rw [Heap.size_update,size_push']
 have hoL:(((s.heap.push (seqObj "list" #[] 0)).update s.heap.objs.size (Obj.mapSeq (·++vs.toArray))).push (seqObj "list" vs.toArray 0)).get? (s.heap.objs.size+1)=some (seqObj "list" vs.toArray 0):=by
  rw [← hsz]; exact Heap.get?_push_size _ rfl
 have keep:∀ b o,s.heap.get? b=some o→(((s.heap.push (seqObj "list" #[] 0)).update s.heap.objs.size (Obj.mapSeq (·++vs.toArray))).push (seqObj "list" vs.toArray 0)).get? b=some o:=fun b o q=>by
  have hlt:b < s.heap.objs.size:=Heap.lt_size q
  rw [Heap.get?_push_ne _ _ _ (by rw [hsz]; exact Nat.ne_of_lt (Nat.lt_succ_of_lt hlt)),Heap.get?_update_ne _ _ _ _ (Nat.ne_of_lt hlt),Heap.get?_push_ne _ _ _ (Nat.ne_of_lt hlt)]
  exact q
 show wpAny _ _ _ _ _ { s with heap:=((s.heap.push (seqObj "list" #[] 0)).update s.heap.objs.size (Obj.mapSeq (·++vs.toArray))).push (seqObj "list" vs.toArray 0) }
 rw [hsz]
 have mid:∀ b o,s.heap.get? b=some o→(Zci (((s.heap.push (seqObj "list" #[] 0)).update s.heap.objs.size (Obj.mapSeq (·++vs.toArray))).push (seqObj "list" vs.toArray 0)) (s.heap.objs.size+1) vs).get? b=some o:=fun b o q =>
  Zin (Nat.ne_of_lt (Nat.lt_succ_of_lt (Heap.lt_size q))) (keep b o q)
 refine wpAny_bind (wpAny_holding (wpAny_call_entry slot_list_sort ⟨_,hoL,rfl⟩ entry_list_sort (Zfr (κ:=kd) (key:=fun i=>κ (vs.getD i Value.none)) (s:={ s with heap:=((s.heap.push (seqObj "list" #[] 0)).update s.heap.objs.size (Obj.mapSeq (·++vs.toArray))).push (seqObj "list" vs.toArray 0) }) hoL h64 (fun Q E h2 hq=>hK _ mid Q E h2 hq) (fun i j C hi hj hc=>hL _ mid _ (gm i hi) _ (gm j hj) C hc) fun q a1 a2=>⟨_,rfl,?_⟩) (args_list_sort _)))
 refine wpAny_pure ⟨_,rfl,h (q.toList.map fun i=>vs.getD i Value.none) ?_ ?_⟩
 ·have:=(show q.toList.Perm (List.range vs.length) from a1).map fun i=>vs.getD i Value.none
  rw [Zk6] at this; exact this
 ·rw [List.map_map]; exact a2
end
section
variable {X:Cx}
theorem Zjo {pins:List (Addr × Obj)} {σ:St} {H:Hp} {s:Shared} {p:Addr} {β:Type} {ts:List (Addr × β)} {K:Addr × β→Int} {kd:SortKind} {κ:Value→Int} {Q:VK} (I:Inv X pins σ H s) (hp:SqL X.K H p (ts.map fun t=>V.ref t.1)) (G:KeyAtA X X.A.in1.in1 σ H (ts.map fun t=>V.ref t.1) kd κ) (h64:ts.length < 64) (hκ:∀ t∈ts,κ (.ref t.1)=K t)
  (q:∀ l (ts':List (Addr × β)),H l=none→ts'.Perm ts→(ts'.map K).Pairwise (·≤·)→Q (.ref l) (upd H l (.lst (ts'.map fun t=>V.ref t.1)))):wpAny (model X.prog X.w) X.A (call (.builtin "sorted") [.ref p]) (EP X pins σ Q) X.xe s:=by
 obtain ⟨its,rv,pl,hz⟩:=I.list hp
 have hits:its=ts.map fun t=>Value.ref t.1:=by
  have:=Zdv (ts:=ts.map (·.1)) (its:=its) (by rw [List.map_map]; exact rv)
  rw [this,List.map_map]; rfl
 rw [List.length_map] at hz
 have hlen:its.length=ts.length:=by rw [hits,List.length_map]
 refine sortedS (kd:=kd) (κ:=κ) pl.isList (by rw [hlen]; exact h64) (fun h' k Q' E' h2 hq=>?_) (fun h' k x hx y hy C hc=>?_) fun zs pz sz=>?_
 ·exact (G its pins { s with heap:=h' } rv (I.kept (t':=s.toks) k)).1 Q' E' h2 hq
 ·exact (G its pins { s with heap:=h' } rv (I.kept (t':=s.toks) k)).2 x hx y hy C hc
 ·obtain ⟨ts',pt,ez⟩:=Zhf (f:=fun t:Addr × β=>Value.ref t.1) (l:=zs) (m:=its) pz ts hits
  subst ez
  obtain ⟨e,he⟩:=sortedAll_at s.heap its (List.toArray (ts'.map fun t=>Value.ref t.1))
  have hn:H (s.heap.objs.size+1)=none:=I.hok.fresh (Nat.le_succ _)
  refine ⟨.ref (s.heap.objs.size+1),_,I.laid (o:=.lst (ts'.map fun t=>V.ref t.1)) (t':=s.toks) (fun b o z=>sortedAll_old z) (Nat.le_succ _) ⟨?_,_,e,?_,he⟩,rfl,q _ _ hn pt ?_⟩
  ·rw [List.length_map,pt.length_eq]; exact hz
  ·have:=Zgn (ts'.map (·.1))
   rw [List.map_map,List.map_map] at this
   exact this
  ·rw [List.map_map] at sz
   rw [show ts'.map K=ts'.map (κ∘fun t=>Value.ref t.1) from List.map_congr_left fun t ht=>(hκ t (pt.mem_iff.mp ht)).symm]
   exact sz
theorem Zd6 {k:Nat} (hr:Room k X.A):CallR X (.builtin "sorted") (fun xs H Q=>∃ (p:Addr) (ts:List Rwt) (n m:Nat) (key:List Int→Int),xs=[.ref p]∧SqL X.K H p (ts.map fun t=>V.ref t.1)∧ts.length < 64 ∧
  (∀ t∈ts,RwAt H n m t)∧(∀ t∈ts,∀ u∈ts,HT.lexLt (rks t) (rks u)=decide (key (rks t) < key (rks u))) ∧
  ∀ l (ts':List Rwt),H l=none→ts'.Perm ts→(ts'.map fun t=>key (rks t)).Pairwise (·≤·)→Q (.ref l) (upd H l (.lst (ts'.map fun t=>V.ref t.1)))):=by
 intro pins s σ H xs us Q I r h
 obtain ⟨p,ts,n,m,key,rfl,hp,h64,ht,hkey,q⟩:=h
 obtain ⟨u,rfl,ru⟩:=vals1 r
 cases ru
 exact Zjo I hp (keyAt_rows (by have:=hr.units; show X.A.units+1+1+8 < _; omega) ht hkey) h64 (fun t hm=>Zfu (ht t hm)) q
end
end L2
namespace L2
open PySem PySem.Spec PyProof.Rows PySem.W
def OnlyT (Ts:List Addr) (H:Hp):Prop:=(∀ b,H b=none∨(∃ o xs,H b=some (.frz o (.lst xs)))∨(b∈Ts∧H b=some (.tbl #[])))∧∀ T∈Ts,H T=some (.tbl #[])
theorem Ziz {h:Heap} {c T:Addr} (x:CodeHd h c T):isCodeTable h T:=by
 obtain ⟨o,vs,file,tf,flags,tg,inF,text,tt,e1,e2,e3,e4,_⟩:=x
 exact ⟨c,o,vs,e1,e2,e3,e4⟩
theorem law_callT {P:Program} {w:World} {K:PySem.W.Frag} {mg mb:Str→Option Value} {CX:CXT} {k:Nat} {fa a:Addr} {fd:FuncData} {x:Str} {sp:Sp} {s₁:Shared} {vs:List Value} {ns:List Int} {Ts:List Addr}
  (KX:K.In s₁.heap) (hns:s₁.heap.Ns mainGlobals mg) (hb:s₁.heap.Ns builtinsNs mb) (hbb:∀ x:Str,x≠"__name__"→mb x=bootBuiltins x) (hlim:s₁.heap.NoLimit) (hg:s₁.gens=#[])
  (ha:s₁.heap.get? a=some { cls:=.type "list",data:=.seq vs.toArray }) (hi:IntsAre vs ns) (hl:ns.length≤sizeLine) (hr:Room k callerA)
  (hT:∀ T∈Ts,s₁.heap.get? T=some (tabObj #[])∧K.lookup T=none∧∃ c,CodeHd s₁.heap c T)
  (F:∀ base:Heap,K.In base→base.Ns mainGlobals mg→FnOk P w K mg base CX k fa fd [x] sp) (hbind:∀ (s:Shared) (u:Value),BindsTo s fd ⟨[u],[]⟩ [(x,u)])
  (hsp:∀ H:Hp,OnlyT Ts H→SqL K H a (ns.map V.int)→sp [.ref a] H (fun v _=>v=.bl true) fun _ _ _=>False)
  (hCX:∀ H e s',CX [] H s₁ (fun _ _ _=>False) e s'→False) :
  codeAny (model P w) callerA (.call (.ref fa) ⟨[.ref a],[]⟩) (fun r s'=>r=.ok (.ret (.bool true))∧OldK s₁.heap s'.heap∧s'.os=s₁.os∧AllBare s'.gens) s₁:=by
 have rv:=Ze8 hi
 have lenV:=hi.length
 have core:∀ H:Hp,OnlyT Ts H→SqL K H a (ns.map V.int)→HOk P w H s₁.heap→(∀ b,H b≠none→b=a∨b∈Ts)→(H a≠none→K.lookup a=none) →
   codeAny (model P w) callerA (.call (.ref fa) ⟨[.ref a],[]⟩) (fun r s'=>r=.ok (.ret (.bool true))∧OldK s₁.heap s'.heap∧s'.os=s₁.os∧AllBare s'.gens) s₁:=by
  intro H hO hS hok hA hK
  have base_of:∀ {b:Addr} {o:Obj},s₁.heap.get? b=some o→H b=none→(hidT s₁.heap H).get? b=some o:=fun e n=>hidT_get e n
  have noA:∀ {b:Addr} {o:Obj} {es:Array DictEntry} {ep:Nat},s₁.heap.get? b=some o→o.data=.dict es ep→H b=none:=fun {b o es ep} e d=>by
   cases q:H b with
   | none=>rfl
   | some u =>
    rcases hA b (by rw [q]; simp) with e' | e'
    ·subst e'
     rw [ha] at e; cases e
     have d':Data.seq vs.toArray _=Data.dict es ep:=d
     cases d'
    ·rw [(hT b e').1] at e; cases e
     cases d
  have nsK:∀ {b:Addr} {m:Str→Option Value},s₁.heap.Ns b m→(hidT s₁.heap H).Ns b m:=fun {b m} ⟨o,es,ep,e,d,r⟩=>⟨o,es,ep,base_of e (noA e d),d,r⟩
  have hKb:K.In (hidT s₁.heap H):=fun b o e=>base_of (KX b o e) (by
   cases q:H b with
   | none=>rfl
   | some u =>
    rcases hA b (by rw [q]; simp) with e' | e'
    ·subst e'
     rw [hK (by rw [q]; simp)] at e; cases e
    ·rw [(hT b e').2.1] at e; cases e)
  have hM:Mod K mg (hidT s₁.heap H):=⟨hKb,nsK hns,⟨mb,nsK hb,hbb⟩,let ⟨mc,h1,h2⟩:=hlim; ⟨mc,nsK h1,h2⟩⟩
  have e0:Env0 P w K mg (hidT s₁.heap H) callerA [] s₁ H:=⟨rfl,hM,fun b o e=>of_hidT e,Nat.le_of_eq (Zit _ _),trivial,fun b hb=>absurd (show b∈([]:List Addr) from hb) (by simp),hok,.of_eq hg⟩
  refine codeAny_mono ((F _ hKb (nsK hns)).run callerA [] s₁ H ⟨[.ref a],[]⟩ [.ref a] [.ref a] _ _ hr e0 (hbind s₁ (.ref a)) (.cons rfl .nil) (hsp H hO hS)) fun r s' h=>?_
  cases r with
  | error e=>exact (hCX H e s' h).elim
  | ok fl =>
   cases fl with
   | next=>exact False.elim h
   | brk=>exact False.elim h
   | cont=>exact False.elim h
   | ret u =>
    obtain ⟨v,H',os,bare,un,hok',r',q⟩:=h
    have q':v=.bl true:=q
    subst q'
    obtain rfl:u=Value.bool true:=r'
    have old:∀ b o,s₁.heap.get? b=some o→asItWas s₁.heap s'.heap b o∧∃ o',s'.heap.get? b=some o':=fun b o e=>by
     cases q:H b with
     | none =>
      have:=un.keep b o e q (by intro z; exact absurd (show b∈([]:List Addr) from z) (by simp)) (by simp)
      exact ⟨.inl this,_,this⟩
     | some u =>
      rcases hO.1 b with z | ⟨ob,xs,z⟩ | ⟨hb',z⟩
      ·rw [q] at z; cases z
      ·have z2:=un.frzs b ob _ z
       obtain ⟨e1,_⟩:=hok b _ z
       obtain ⟨e2,_⟩:=hok' b _ z2
       rw [e] at e1; cases e1
       exact ⟨.inl e2,_,e2⟩
      ·obtain ⟨more,z2⟩:=un.tbls b #[] z
       have e2:s'.heap.get? b=some (tabObj (#[]++more)):=hok' b _ z2
       obtain ⟨e1,_,c,hc⟩:=hT b hb'
       rw [e] at e1; cases e1
       exact ⟨.inr (.inl ⟨Ziz hc,rfl,#[],more,rfl,e2⟩),_,e2⟩
    exact ⟨rfl,⟨fun b o e=>(old b o e).1,fun b o e=>(old b o e).2⟩,os,bare⟩
 have aT:a ∉ Ts:=fun z=>by
  have e:=(hT a z).1
  rw [ha] at e; cases e
 have tblT:∀ T∈Ts,∀ H:Hp,ObjOk P w H s₁.heap T (.tbl #[]):=fun T z H=>(hT T z).1
 cases hk:K.lookup a with
 | some o =>
  have e:=KX a o hk
  rw [ha] at e
  cases e
  refine core (fun b=>if b∈Ts then some (.tbl #[]) else none) ⟨fun b=>?_,fun T z=>if_pos z⟩ (.inr ⟨_,vs.toArray,_,hk,rfl,rfl,rfl,by rw [List.size_toArray,lenV]; exact hl,by simpa using rv⟩) (fun b u z=>?_) (fun b z=>?_) fun z=>absurd (if_neg aT) z
  ·by_cases hb:b∈Ts
   ·exact .inr (.inr ⟨hb,if_pos hb⟩)
   ·exact .inl (if_neg hb)
  ·by_cases hb:b∈Ts
   ·have z':=(if_pos hb).symm.trans z
    cases z'
    exact tblT b hb _
   ·have z':=(if_neg hb).symm.trans z
    cases z'
  ·by_cases hb:b∈Ts
   ·exact .inr hb
   ·exact absurd (if_neg hb) z
 | none =>
  refine core (fun b=>if b=a then some (.frz { cls:=.type "list",data:=.seq vs.toArray } (.lst (ns.map V.int))) else if b∈Ts then some (.tbl #[]) else none) ⟨fun b=>?_,fun T z=>?_⟩ (.inl (.inr ⟨{ cls:=.type "list",data:=.seq vs.toArray },if_pos rfl⟩)) (fun b u z=>?_) (fun b z=>?_) fun _=>hk
  ·by_cases hb:b=a
   ·exact .inr (.inl ⟨_,_,if_pos hb⟩)
   ·by_cases hb2:b∈Ts
    ·exact .inr (.inr ⟨hb2,(if_neg hb).trans (if_pos hb2)⟩)
    ·exact .inl ((if_neg hb).trans (if_neg hb2))
  ·have ne:¬ T=a:=fun e=>aT (by rw [← e]; exact z)
   exact (if_neg ne).trans (if_pos z)
  ·by_cases hb:b=a
   ·have z':=(if_pos hb).symm.trans z
    cases z'
    subst hb
    exact ⟨ha,by rw [List.length_map]; exact hl,vs,_,rv,ha⟩
   ·by_cases hb2:b∈Ts
    ·have z':=((if_neg hb).trans (if_pos hb2)).symm.trans z
     cases z'
     exact tblT b hb2 _
    ·have z':=((if_neg hb).trans (if_neg hb2)).symm.trans z
     cases z'
  ·by_cases hb:b=a
   ·exact .inl hb
   ·by_cases hb2:b∈Ts
    ·exact .inr hb2
    ·exact absurd ((if_neg hb).trans (if_neg hb2)) z
theorem walk_ofT {l:PySem.W.OpenLaw} {n k:Nat} {q:Program} {loose:List Str} {XP:(Str→Option Value)→Heap→Prop} {YP:World→Heap→Prop} {d:DefRec} {K:Params→PySem.W.Frag} {CX:World→CXT} {sp:World→Sp} {x:Str} {Ts:List Addr}
  (hn:l.most=some n) (hn2:n≤sizeLine) (hdf:d.params.defaults=[]) (hr:Room k callerA)
  (hY:∀ (w:World) (h:Heap),YP w h→(K w.params).In h) (hT:∀ (w:World) (h:Heap),YP w h→∀ T∈Ts,h.get? T=some (tabObj #[])∧(K w.params).lookup T=none∧∃ c,CodeHd h c T)
  (F:∀ (w:World) (mg:Str→Option Value) (fa:Addr) (h:Heap),(K w.params).In h→h.Ns mainGlobals mg→mg d.name=some (.ref fa) →
   ∃ fd:FuncData,(∀ (s:Shared) (u:Value),BindsTo s fd ⟨[u],[]⟩ [(x,u)]) ∧
    ∀ base:Heap,(K w.params).In base→base.Ns mainGlobals mg→FnOk l.prog w (K w.params) mg base (CX w) k fa fd [x] (sp w))
  (hsp:∀ (w:World) (H:Hp) (a:Addr) (ns:List Int),ns.length≤n→OnlyT Ts H→SqL (K w.params) H a (ns.map V.int)→sp w [.ref a] H (fun v _=>v=.bl true) fun _ _ _=>False)
  (hCX:∀ (w:World) (H:Hp) (s:Shared) (e:Value) (s':Shared),CX w [] H s (fun _ _ _=>False) e s'→False) :
  PySem.W.WalkO q loose XP YP l.row.toRowW d [] (fun f vs=>PySem.call f vs):=by
 refine Att.attach_call hn hdf fun w s₀ s₁ mg mb fa o pm cd doc a vs ns G Y ho hd hcd hmg hobj hints hlen hg=>?_
 have KX:=hY w _ Y
 obtain ⟨fd,hb,hF⟩:=F w mg fa _ KX G.T.g hmg
 exact law_callT KX G.T.g G.T.b G.T.builtins G.T.nolimit hg hobj hints (Nat.le_trans hlen hn2) hr (hT w _ Y) hF hb (fun H hO hS=>hsp w H a ns hlen hO hS) fun H e s'=>hCX w H s₁ e s'
end L2
namespace L2
open PySem PySem.Spec PyProof.Rows PySem.W
structure FunC (K:PySem.W.Frag) (x qual:Str) (st:Stmt) (f:Addr) (fd:FuncData) (c:Addr):Prop where
 ex:∃ (oc:Value) (od:Option Addr) (kV doc pm:Value) (an:Option Addr) (ct:Value) (osl:Array (Option Value)),
  fd=PySem.W.fnOf x qual (Zak st) (Zai st) (Zab st) .none kV doc pm an (.ref c) ct∧K.lookup f=some ⟨oc,od,.func fd,osl⟩∧PySem.W.codeIn K (.ref c) qual=true
 kp:PySem.W.keepIn K (.ref f)=true
section
variable {P:Program} {w:World} {K:PySem.W.Frag} {mg:Str→Option Value} {base:Heap} {x qual:Str} {st:Stmt} {f c:Addr} {fd:FuncData} {N ps:List Str} {k:Nat} {sp:Sp}
theorem FunC.fn (F:FunC K x qual st f fd c):Fun K x qual st f fd:=by
 obtain ⟨oc,od,kV,doc,pm,an,ct,osl,e,lk,hcd⟩:=F.ex
 exact ⟨⟨oc,od,kV,doc,pm,an,.ref c,ct,osl,e,lk,hcd⟩,F.kp⟩
theorem func_mk {oc:Value} {od an:Option Addr} {osl:Array (Option Value)} {kV doc pm cdv ct:Value} (l:K.lookup f=some ⟨oc,od,.func (PySem.W.fnOf x qual (Zak st) (Zai st) (Zab st) .none kV doc pm an cdv ct),osl⟩)
  (cc:PySem.W.codeIn K cdv qual=true) (kp:PySem.W.keepIn K (.ref f)=true) (e:cdv=.ref c):FunC K x qual st f (PySem.W.fnOf x qual (Zak st) (Zai st) (Zab st) .none kV doc pm an cdv ct) c:=by
 subst e
 exact ⟨⟨oc,od,kV,doc,pm,an,ct,osl,rfl,l,cc⟩,kp⟩
end
def codeTB (K:PySem.W.Frag) (c T:Addr):Bool:=match K.lookup c with
 | some o=>match o.data with
  | .fields vs=>(o.cls == .type "code") && (vs[11]? == some (.ref T)) && (match vs.getD 18 .none with | .str _ _=>true | _=>false) && (match vs.getD 7 .none with | .int _ _=>true | _=>false) && (match vs.getD 9 .none with | .bool _=>true | _=>false) && (match vs.getD 10 .none with | .int _ _=>true | _=>false) && (c != T)
  | _=>false
 | none=>false
theorem codeTB_of {K:PySem.W.Frag} {c T:Addr} (h:codeTB K c T=true):∀ hp:Heap,K.In hp→CodeHd hp c T:=fun hp KX=>by
 unfold codeTB at h
 cases e:K.lookup c with
 | none=>rw [e] at h; cases h
 | some o =>
  rw [e] at h
  cases d:o.data with
  | fields vs =>
   simp only [d,Bool.and_eq_true] at h
   obtain ⟨⟨⟨⟨⟨⟨h1,h2⟩,h3⟩,h4⟩,h5⟩,h6⟩,h7⟩:=h
   have h2:vs[11]?=some (.ref T):=eq_of_beq h2
   have e18:∃ a b,vs.getD 18 .none=.str a b:=by
    generalize vs.getD 18 .none=v at h3
    cases v with
    | str a b=>exact ⟨a,b,rfl⟩
    | _=>cases h3
   have e7:∃ a b,vs.getD 7 .none=.int a b:=by
    generalize vs.getD 7 .none=v at h4
    cases v with
    | int a b=>exact ⟨a,b,rfl⟩
    | _=>cases h4
   have e9:∃ a,vs.getD 9 .none=.bool a:=by
    generalize vs.getD 9 .none=v at h5
    cases v with
    | bool a=>exact ⟨a,rfl⟩
    | _=>cases h5
   have e10:∃ a b,vs.getD 10 .none=.int a b:=by
    generalize vs.getD 10 .none=v at h6
    cases v with
    | int a b=>exact ⟨a,b,rfl⟩
    | _=>cases h6
   obtain ⟨f1,f2,e18⟩:=e18
   obtain ⟨g1,g2,e7⟩:=e7
   obtain ⟨i1,e9⟩:=e9
   obtain ⟨t1,t2,e10⟩:=e10
   refine ⟨o,vs,f1,f2,g1,g2,i1,t1,t2,KX c o e,eq_of_beq h1,d,h2,?_,e18,e7,e9,e10,?_⟩
   ·rw [Array.getD_eq_getD_getElem?,h2]; rfl
   ·intro z; rw [z] at h7; simp at h7
  | _=>simp only [d] at h; cases h
def SameN (H H':Hp):Prop:=∀ a o,H a=some o→(∀ ps,o≠.tbl ps)→H' a=some o
theorem SameN.trans {H H1 H2:Hp} (a:SameN H H1) (b:SameN H1 H2):SameN H H2:=fun x o e n=>b x o (a x o e n) n
theorem Same.n {H H':Hp} (s:Same H H'):SameN H H':=fun a o e _=>s a o e
theorem SameN.tup {H H':Hp} (s:SameN H H') {a:Addr} {xs:List V} (e:H a=some (.tup xs)):H' a=some (.tup xs):=s a _ e fun _ z=>nomatch z
theorem SameN.lst {H H':Hp} (s:SameN H H') {a:Addr} {xs:List V} (e:H a=some (.lst xs)):H' a=some (.lst xs):=s a _ e fun _ z=>nomatch z
theorem SameN.rd {H H':Hp} (s:SameN H H') {a:Addr} {xs:List V} (e:Rd H a (.lst xs)):Rd H' a (.lst xs):=e.elim (fun e=>.inl (s.lst e)) (fun ⟨o,e⟩=>.inr ⟨o,s a _ e fun _ z=>nomatch z⟩)
theorem SameN.seq {K:PySem.W.Frag} {H H':Hp} (s:SameN H H') {a:Addr} {xs:List V} (e:SqL K H a xs):SqL K H' a xs:=e.elim (fun e=>.inl (s.rd e)) .inr
def TabOk (pos:Pos) (qual:Str) (T:Addr) (H:Hp):Prop:=∃ ps,H T=some (.tbl ps)∧TriplesOk ps.toList∧(codeAmong pos ps.toList=none∨∃ c',codeAmong pos ps.toList=some (.ref c')∧H c'=some (CodeO c' qual))
theorem TabOk.same {pos:Pos} {qual:Str} {T:Addr} {H H':Hp} (h:TabOk pos qual T H) (s:Same H H'):TabOk pos qual T H':=by
 obtain ⟨ps,e,t,c⟩:=h
 refine ⟨ps,s _ _ e,t,?_⟩
 rcases c with c | ⟨c',c1,c2⟩
 ·exact .inl c
 ·exact .inr ⟨c',c1,s _ _ c2⟩
theorem TabOk.new {pos:Pos} {qual:Str} {T:Addr} {H:Hp} (h:H T=some (.tbl #[])):TabOk pos qual T H:=⟨#[],h,trivial,.inl rfl⟩
theorem Zep {a b c:Int} {t u:Tok} {v:Value}:∀ (l:List Value),TriplesOk l→TriplesOk (l++[.int a t,.int b u,v])
 | [],_=>trivial
 | .int _ _ :: .int _ _ :: _ :: rest,h=>Zep (c:=c) rest h
end L2
namespace L2
open PySem PySem.Spec PyProof.Rows
section
variable {X:Cx}
end
section
variable {X:Cx}
end
end L2
namespace L2
open PySem PySem.Spec PyProof.Rows
section
variable {X:Cx}
theorem Zhz:CallR X (.builtin "sum") (fun xs H Q=>∃ (p:Addr) (ns:List Int),xs=[.ref p]∧SqL X.K H p (ns.map V.int)∧X.calm=true∧Q (.int ns.sum) H):=by
 intro pins s σ H xs us Q I r h
 obtain ⟨p,ns,rfl,hp,hc,q⟩:=h
 obtain ⟨u,rfl,ru⟩:=vals1 r
 cases ru
 obtain ⟨its,rv,pl,hz⟩:=I.list hp
 have hi:=Zej rv
 obtain ⟨xs,hx⟩:=hi.allInts.items
 have hl':s.heap.IsList p (intItems xs):=hx ▸ pl.isList
 refine sum_intListG (I.ok.hd hc) hl' fun h' tk t' hk=>?_
 have e1:ns=xs.toList.map (·.1):=by
  rw [← nums_intItems,← hx]
  exact (show numsOf its.toArray.toList=ns from hi.numsOf).symm
 have e2:preSum (numAt xs) xs.size=ns.sum:=by
  rw [preSum_eq,List.take_of_length_le (by simp),e1]
 rw [e2]
 exact ⟨.int ns.sum,H,I.kept (t':=tk) hk,⟨t',rfl⟩,q⟩
end
end L2
namespace L2
end L2
namespace HT
open PySem PySem.Spec PyProof.Rows
section
variable {prog:Program} {w:World} {A:Around} {s:Shared} {E:Value→Shared→Prop}
end
end HT
namespace L2
open PySem PySem.Spec PyProof.Rows
section
variable {X:Cx}
end
theorem small4 {n:Nat} (h:n≤30000):n < sizeLine:=Nat.lt_of_le_of_lt h (by decide)
section
variable {P:Program} {w:World} {K:PySem.W.Frag} {mg:Str→Option Value} {base:Heap} {x qual:Str} {st:Stmt} {f c:Addr} {fd:FuncData} {N ps:List Str} {k:Nat} {sp:Sp}
theorem FunC.ok (F:FunC K x qual st f fd c) (S:Zan N ps (Zab st)) (len:∀ vs H Q E,sp vs H Q E→vs.length=ps.length)
  (hbody:∀ (A:Around) (outer:List Env) (s:Shared) (H:Hp) (vs:List V) (Q:VK) (E:XK),Room k (A.deeper (envOfC qual (Zab st) s.heap.objs.size f (.ref c)))→sp vs H Q E →
   ∃ t,PSs (cxOf CX0 P w K mg base N qual (Zab st) f (.ref c) A outer s H E).nox (Zai st) t∧t { nx:=fun _ H'=>Q .non H',rt:=Q } (start N vs) H):FnOk P w K mg base CX0 (k+1) f fd ps sp:=by
 obtain ⟨oc,od,kV,doc,pm,an,ct,osl,rfl,lk,hcd⟩:=F.ex
 refine fn_of lk hcd S len fun A outer s H vs Q E hr hsp=>?_
 obtain ⟨t,h,q⟩:=hbody A outer s H vs Q E hr hsp
 exact ⟨t,h.nox,q⟩
end
end L2
namespace L2
open PySem PySem.Spec PyProof.Rows PySem.W
def tkd (H:Hp) (L:List (Addr × Obj)):Hp:=fun a=>match L.lookup a with | some o=>some (ObjO a o) | none=>H a
def utk (H:Hp) (L:List (Addr × Obj)):Hp:=fun a=>match L.lookup a with | some _=>none | none=>H a
section
variable {P:Program} {w:World} {H H':Hp} {h h':Heap} {a:Addr} {o:Obj} {L:List (Addr × Obj)} {fs:List Addr}
theorem Zia (e:L.lookup a=some o):tkd H L a=some (ObjO a o):=by unfold tkd; rw [e]
theorem Zbb (e:L.lookup a=none):tkd H L a=H a:=by unfold tkd; rw [e]
theorem Zgj (e:L.lookup a=some o):utk H L a=none:=by unfold utk; rw [e]
theorem Zb5 (e:L.lookup a=none):utk H L a=H a:=by unfold utk; rw [e]
theorem Zdj (e:H a=none):utk H L a=none:=by
 cases q:L.lookup a with
 | none=>rw [Zb5 q]; exact e
 | some o=>exact Zgj q
theorem Zes {u:HO} (hL:∀ a o,L.lookup a=some o→H a=none) (e:H a=some u):L.lookup a=none:=by
 cases q:L.lookup a with
 | none=>rfl
 | some o=>rw [hL a o q] at e; cases e
theorem Zeh {u:HO} (hL:∀ a o,L.lookup a=some o→H a=some (ObjO a o)) (e:H a=some u) (n:∀ o,u≠ObjO a o):L.lookup a=none:=by
 cases q:L.lookup a with
 | none=>rfl
 | some o=>rw [hL a o q] at e; cases e; exact absurd rfl (n o)
theorem HOk.tkd (hok:HOk P w H h) (hL:∀ a o,L.lookup a=some o→H a=none) (hc:∀ a o,L.lookup a=some o→h.get? a=some o):HOk P w (tkd H L) h:=fun a u e=>by
 cases q:L.lookup a with
 | some o =>
  rw [Zia q] at e; cases e
  exact Zj5 (hc a o q)
 | none =>
  rw [Zbb q] at e
  exact (hok a u e).stay (fun _ _ _ z=>z) (fun b z=>by rw [Zbb (Zes hL z)]; exact z) (fun b xs z=>by rw [Zbb (Zes hL z)]; exact z)
theorem HOk.utk (hok:HOk P w H h) (hL:∀ a o,L.lookup a=some o→H a=some (ObjO a o)):HOk P w (utk H L) h:=fun a u e=>by
 cases q:L.lookup a with
 | some o=>rw [Zgj q] at e; cases e
 | none =>
  rw [Zb5 q] at e
  exact (hok a u e).stay (fun _ _ _ z=>z) (fun b z=>by rw [Zb5 (Zeh hL z (fun _ z=>nomatch z))]; exact z) (fun b xs z=>by rw [Zb5 (Zeh hL z (fun _ z=>nomatch z))]; exact z)
theorem Un.utk (u:Un fs [] (L2.tkd H L) H' h h') (hok:HOk P w H' h') (hL:∀ a o,L.lookup a=some o→H a=none) (hc:∀ a o,L.lookup a=some o→h.get? a=some o) (hf:∀ a o,L.lookup a=some o→a ∉ fs) (hk:∀ a o,L.lookup a=some o→H' a=some (ObjO a o)):Un fs [] H (L2.utk H' L) h h' where
 keep b o q n nf nx:=by
  cases e:L.lookup b with
  | some o' =>
   rw [hc b o' e] at q; cases q
   exact (hok b _ (hk b o e)).1
  | none=>exact u.keep b o q (by rw [Zbb e]; exact n) nf nx
 slot b o q n hb nx:=by
  cases e:L.lookup b with
  | some o'=>exact absurd hb (hf b o' e)
  | none=>exact u.slot b o q (by rw [Zbb e]; exact n) hb nx
 free b o q n nx:=by
  cases e:L.lookup b with
  | some o'=>exact Zgj e
  | none=>rw [Zb5 e]; exact u.free b o q (by rw [Zbb e]; exact n) nx
 there b o q nx:=u.there b o q nx
 tups b xs e:=by
  have n:=Zes hL e
  rw [Zb5 n]; exact u.tups b xs (by rw [Zbb n]; exact e)
 frzs b o v e:=by
  have n:=Zes hL e
  rw [Zb5 n]; exact u.frzs b o v (by rw [Zbb n]; exact e)
 tbls b ps e:=by
  have n:=Zes hL e
  rw [Zb5 n]; exact u.tbls b ps (by rw [Zbb n]; exact e)
theorem Un.tkd (u:Un fs [] (L2.utk H L) H' h h') (hL:∀ a o,L.lookup a=some o→H a=some (ObjO a o)):Un fs [] H (L2.tkd H' L) h h':=by
 have out:∀ {b},H b=none→L.lookup b=none:=fun {b} n=>by
  cases e:L.lookup b with
  | none=>rfl
  | some o=>rw [hL b o e] at n; cases n
 exact {
  keep:=fun b o q n nf nx=>u.keep b o q (Zdj n) nf nx
  slot:=fun b o q n hb nx=>u.slot b o q (Zdj n) hb nx
  free:=fun b o q n nx=>by rw [Zbb (out n)]; exact u.free b o q (Zdj n) nx
  there:=fun b o q nx=>u.there b o q nx
  tups:=fun b xs e=>by
   have n:=Zeh hL e (fun _ z=>nomatch z)
   rw [Zbb n]; exact u.tups b xs (by rw [Zb5 n]; exact e)
  frzs:=fun b o v e=>by
   have n:=Zeh hL e (fun _ z=>nomatch z)
   rw [Zbb n]; exact u.frzs b o v (by rw [Zb5 n]; exact e)
  tbls:=fun b ps e=>by
   have n:=Zeh hL e (fun _ z=>nomatch z)
   rw [Zbb n]; exact u.tbls b ps (by rw [Zb5 n]; exact e) }
end
def FvOk (P:Program) (w:World) (K:Frag) (mg:Str→Option Value) (base:Heap) (k:Nat) (H:Hp) (f:Addr) (sp:Sp):Prop :=
 (∃ o fd,H f=some (ObjO f o)∧o.data=.func fd)∧∀ (A:Around) (outer:List Env) (s:Shared) (H':Hp) (us:List Value) (vs:List V) (Q:VK) (E:XK),Same H H'→Room k A→Env0 P w K mg base A outer s H'→Vals vs us→sp vs H' Q E →
  codeAny (model P w) A (.call (.ref f) ⟨us,[]⟩) (CR CX0 outer P w H' s Q E) s
theorem FvOk.same {P:Program} {w:World} {K:Frag} {mg:Str→Option Value} {base:Heap} {k:Nat} {H H':Hp} {f:Addr} {sp:Sp} (h:FvOk P w K mg base k H f sp) (s:Same H H'):FvOk P w K mg base k H' f sp :=
 ⟨let ⟨o,fd,e,d⟩:=h.1; ⟨o,fd,s _ _ e,d⟩,fun A outer sh H2 us vs Q E s2=>h.2 A outer sh H2 us vs Q E (s.trans s2)⟩
theorem FvOk.imp {P:Program} {w:World} {K:Frag} {mg:Str→Option Value} {base:Heap} {k:Nat} {H:Hp} {f:Addr} {sp sp':Sp} (h:FvOk P w K mg base k H f sp) (i:∀ vs H' Q E,Same H H'→sp' vs H' Q E→sp vs H' Q E):FvOk P w K mg base k H f sp' :=
 ⟨h.1,fun A outer sh H2 us vs Q E s2 hr e0 r q=>h.2 A outer sh H2 us vs Q E s2 hr e0 r (i vs H2 Q E s2 q)⟩
def tFv (P:Program) (w:World) (K:Frag) (mg:Str→Option Value) (base:Heap) (k:Nat) (tv:TE) (t:TA):TE:=fun σ H Q=>tv σ H fun v H1=>∃ f sp,v=.ref f∧FvOk P w K mg base k H1 f sp∧t σ H1 fun vs H2=>Same H1 H2∧sp vs H2 Q E0
section
variable {X:Cx} {k j:Nat} {y:Str} {p pos:Pos} {e:Expr} {es:List Expr} {tv:TE} {t:TA}
theorem pe_fv (hr:Room j X.A) (hv:PE X (.Name y p) tv) (ha:PA X (e :: es) t) (hj:k≤j:=by decide)
  (he:starEach (e :: es) X.env=(false,eval e X.env) :: starEach es X.env:=by rfl) (hpl:(backTo pos (starEach es X.env)).any (·.1)=false:=by rfl):PE X (.Call (.Name y p) (e :: es) [] pos) (tFv X.prog X.w X.K X.mg X.base k tv t):=by
 intro pins s σ H Q I h
 refine wpAny_Call_Name_kw (thn (hv pins s σ H _ I h) fun u s1 ⟨v,H1,I1,r1,f,sp,e1,F,q1⟩=>?_)
 subst e1
 cases r1
 have fnat:∀ {H2:Hp} {s2:Shared},Same H1 H2→Inv X pins σ H2 s2→FnAt f s2.heap:=fun {H2 s2} sm I2=>by
  obtain ⟨o,fd,e,d⟩:=F.1
  have:=(show ObjOk X.prog X.w H2 s2.heap f (ObjO f o) from I2.hok f _ (sm _ _ e)).1
  obtain ⟨oc,od,dt,sl⟩:=o
  cases d
  exact ⟨_,_,_,_,this⟩
 refine callWith_F (fnat (Same.refl _) I1) (thn (ha pos pins s1 σ H1 _ I1 q1) fun us s2 ⟨vs,H2,I2,r,sm,q⟩=>⟨fnat sm I2,?_⟩) he hpl
 refine wpAny_call (codeAny_mono (F.2 X.A X.stack s2 H2 us vs Q E0 sm (hr.mono hj) I2.env0 r q) fun r s' hq=>?_)
 cases r with
 | error e=>exact pass0 pins σ H2 s2 e s' I2 hq
 | ok fl =>
  cases fl with
  | ret u=>exact I2.after hq
  | next=>exact False.elim hq
  | brk=>exact False.elim hq
  | cont=>exact False.elim hq
end
theorem Zio {g:Addr→Obj}:∀ {l:List Addr} {a:Addr},(l.map fun c=>(c,g c)).lookup a=if a∈l then some (g a) else none
 | [],a=>by simp
 | c :: r,a=>by
  rw [List.map_cons,List.lookup_cons]
  by_cases e:a=c
  ·subst e; simp
  ·have:(a == c)=false:=by simpa using e
   rw [this]
   show List.lookup a (r.map fun c=>(c,g c))=_
   rw [Zio]
   simp [e]
structure CellsAt (N:List Str) (clos:List (Str × Addr)) (σ:St) (H:Hp) (L:List (Addr × Obj)):Prop where
 new:∀ a o,L.lookup a=some o→H a=none
 has:∀ p∈clos,∃ o v,L.lookup p.2=some o∧o.data=.cell v
 val:∀ p∈clos,∀ (i:Nat) (v:V),N[i]?=some p.1→σ[i]?=some (some v)→∃ o u,L.lookup p.2=some o∧o.data=.cell (some u)∧RelV v u
def tCallC (N:List Str) (clos:List (Str × Addr)) (sp:Sp) (t:TA):TE:=fun σ H Q=>t σ H fun vs H1=>∀ L,CellsAt N clos σ H1 L→sp vs (tkd H1 L) (fun v H2=>(∀ a o,L.lookup a=some o→H2 a=some (ObjO a o))∧Q v (utk H2 L)) E0
section
variable {X:Cx} {k j:Nat} {x:Str} {ps:List Str} {sp:Sp} {p pos:Pos} {e:Expr} {es:List Expr} {t:TA} {clos:List (Str × Addr)}
theorem pe_fnC (D:DefOk X.prog X.w X.K X.mg X.base k x ps sp) (hr:Room j X.A) (ha:PA X (e :: es) t) (hcl:∀ p∈clos,X.env.cells.lookup p.1=some p.2∧X.env.kindOf p.1=some .cell) (hfn:∀ y,X.fn y=true) (hex:X.ex=[]) (hj:k≤j:=by decide) (hg:Gl X x:=by rfl) (hdb:(x == ("__debug__":Str))=false:=by decide)
  (he:starEach (e :: es) X.env=(false,eval e X.env) :: starEach es X.env:=by rfl) (hpl:(backTo pos (starEach es X.env)).any (·.1)=false:=by rfl):PE X (.Call (.Name x p) (e :: es) [] pos) (tCallC X.N clos sp t):=by
 obtain ⟨f,fd,F,hm,hk,hb⟩:=D.ex
 intro pins s σ H Q I h
 refine wpAny_Call_Name_kw (Zei I hg hm ?_ hdb)
 refine PySem.W.callWith_K (h₀:=X.base) I.ok.mod.kin hk (thn (ha pos pins s σ H _ I h) fun us s1 ⟨vs,H1,I1,r,q⟩=>⟨I1.kIn,?_⟩) he hpl
 let g:Addr→Obj:=fun c=>(s1.heap.get? c).getD ⟨.none,none,.plain,#[]⟩
 let L:List (Addr × Obj):=(clos.map (·.2)).map fun c=>(c,g c)
 have hLk:∀ a,L.lookup a=if a∈clos.map (·.2) then some (g a) else none:=fun a=>Zio
 have hcell:∀ p∈clos,∃ v,s1.heap.IsCell p.2 v:=fun p hp=>I1.cell p.1 p.2 (hcl p hp).1
 have hin:∀ a o,L.lookup a=some o→∃ p∈clos,p.2=a∧s1.heap.get? a=some o:=fun a o e=>by
  rw [hLk] at e
  split at e
  ·rename_i hm
   obtain ⟨p,hp,rfl⟩:=List.mem_map.mp hm
   refine ⟨p,hp,rfl,?_⟩
   obtain ⟨v,o',ho',_⟩:=hcell p hp
   cases e
   show _=some ((s1.heap.get? p.2).getD _)
   rw [ho']; rfl
  ·cases e
 have hof:∀ p∈clos,∀ o,s1.heap.get? p.2=some o→L.lookup p.2=some o:=fun p hp o e=>by
  rw [hLk,if_pos (List.mem_map.mpr ⟨p,hp,rfl⟩)]
  show some ((s1.heap.get? p.2).getD _)=_
  rw [e]; rfl
 have hnew:∀ a o,L.lookup a=some o→H1 a=none:=fun a o e=>by
  obtain ⟨p,hp,rfl,_⟩:=hin a o e
  exact I1.freeC p.1 p.2 (hcl p hp).1
 have hget:∀ a o,L.lookup a=some o→s1.heap.get? a=some o:=fun a o e=>let ⟨_,_,_,z⟩:=hin a o e; z
 have habove:∀ a o,L.lookup a=some o→X.s₀.heap.objs.size≤a:=fun a o e=>by
  obtain ⟨p,hp,rfl,_⟩:=hin a o e
  exact I1.ok.cab p.1 p.2 (hfn _) (hcl p hp).1
 have hnf:∀ a o,L.lookup a=some o→a ∉ frs X.stack:=fun a o e hb=>by
  have ab:=habove a o e
  obtain ⟨p,hp,rfl,_⟩:=hin a o e
  rcases List.mem_cons.mp (I1.stkSub _ hb) with z | z
  ·exact I1.cne p.1 p.2 (hcl p hp).1 z
  ·obtain ⟨_,o',ho',_⟩:=I1.ok.funs.mem z
   exact absurd (Nat.lt_of_lt_of_le (Heap.lt_size ho') ab) (Nat.lt_irrefl _)
 have CA:CellsAt X.N clos σ H1 L:=by
  refine ⟨hnew,fun p hp=>?_,fun p hp i v hi hv=>?_⟩
  ·obtain ⟨v,o,ho,hd⟩:=hcell p hp
   exact ⟨o,v,hof p hp o ho,hd⟩
  ·obtain ⟨m,hns,hloc⟩:=I1.loc
   obtain ⟨u,ru,hlook⟩:=hloc i p.1 v hi hv (.inr (.inl (hcl p hp).2))
   rcases hlook with ⟨k1,_⟩ | ⟨_,c,hc,o,ho,hd⟩
   ·rw [(hcl p hp).2] at k1; cases k1
   ·rw [(hcl p hp).1] at hc; cases hc
    exact ⟨o,u,hof p hp o ho,hd,ru⟩
 have hsp:=q L CA
 have e0:Env0 X.prog X.w X.K X.mg X.base X.A X.stack s1 (tkd H1 L):=by
  have z:=I1.env0
  refine ⟨z.frames,z.mod,fun b o e=>?_,z.bsz,z.funs,fun b hb=>?_,z.hok.tkd hnew hget,z.bare⟩
  ·refine ⟨(z.bs b o e).1,?_⟩
   cases q:L.lookup b with
   | none=>rw [Zbb q]; exact (z.bs b o e).2
   | some o'=>exact absurd (Nat.lt_of_lt_of_le (Heap.lt_size e) (Nat.le_trans I1.ok.bsz (habove b o' q))) (Nat.lt_irrefl _)
  ·cases q:L.lookup b with
   | none=>rw [Zbb q]; exact z.frf b hb
   | some o'=>exact absurd hb (hnf b o' q)
 have hl:us.length=ps.length:=by rw [← r.length]; exact F.len _ _ _ _ hsp
 have hbd:=hb s1 us I1.kIn (by rw [List.append_nil]; exact hl)
 rw [List.append_nil] at hbd
 refine wpAny_call (codeAny_mono (F.run X.A X.stack s1 (tkd H1 L) ⟨us,[]⟩ us vs _ E0 (hr.mono hj) e0 hbd r hsp) fun rs s' hq=>?_)
 cases rs with
 | error e=>exact pass0 pins σ H1 s1 e s' I1 (by exact hq)
 | ok fl =>
  cases fl with
  | ret u =>
   obtain ⟨v,H2,os,bare,un,hok,rv,hkp,q2⟩:=hq
   exact I1.after ⟨v,utk H2 L,os,bare,un.utk hok hnew hget hnf hkp,hok.utk hkp,rv,q2⟩
  | next=>exact False.elim hq
  | brk=>exact False.elim hq
  | cont=>exact False.elim hq
end
def cxCl (P:Program) (w:World) (K:Frag) (mg:Str→Option Value) (base:Heap) (N:List Str) (qual:Str) (scope:Scope) (f:Addr) (cd:Value) (clos:List (Str × Addr)) (A:Around) (outer:List Env) (s:Shared) (H Hx:Hp) (E:XK):Cx where
 prog:=P
 w:=w
 K:=K
 mg:=mg
 base:=base
 A:=A.deeper (envX qual scope s.heap.objs.size f cd clos)
 N:=N
 s₀:=s
 H₀:=H
 env:=envX qual scope s.heap.objs.size f cd clos
 outer:=outer
 stack:=envX qual scope s.heap.objs.size f cd clos :: outer
 ex:=[]
 calm:=true
 fn:=fun _=>false
 pn:=[]
 xe:=fun e s'=>wpAny (model P w) (A.deeper (envX qual scope s.heap.objs.size f cd clos)) (leaving (envX qual scope s.heap.objs.size f cd clos) e) (fun _ s''=>CX0 outer Hx s E e s'') (fun e' s''=>CX0 outer Hx s E e' s'') s'
structure LamScope (pn:Str) (fs:List Str) (sc:Scope):Prop where
 kind:sc.kind=.function
 co:sc.isCoroutine=false
 gen:sc.isGenerator=false
 par:sc.names.lookup pn=some .local
 nocell:∀ y∈sc.names,y.2≠.cell
 free:∀ y,sc.names.lookup y=some .free→y∈fs
 isfree:∀ y∈fs,sc.names.lookup y=some .free
theorem fv_lam {P:Program} {w:World} {K:Frag} {mg:Str→Option Value} {base:Heap} {k:Nat} {H:Hp} {f c':Addr} {params:Arguments} {body:Expr} {scope:Scope} {qual pn:Str} {ctv:Value} {fs:List Str} {clos:List (Str × Addr)} {cv:List V} {L:List (Addr × Obj)} {te:TE}
  (hf:H f=some (ObjO f (lamObj mg qual params body scope clos c' ctv))) (hc:H c'=some (CodeO c' qual)) (S:LamScope pn fs scope) (hlen:cv.length=fs.length) (hkeys:∀ y,(∃ c,clos.lookup y=some c)↔y∈fs) (hinj:∀ x y c,clos.lookup x=some c→clos.lookup y=some c→x=y)
  (hL:∀ a o,L.lookup a=some o→H a=some (ObjO a o)) (hcell:∀ p∈clos,∃ o v,L.lookup p.2=some o∧o.data=.cell v) (hval:∀ p∈clos,∀ (i:Nat) (v:V),fs[i]?=some p.1→cv[i]?=some v→∃ o u,L.lookup p.2=some o∧o.data=.cell (some u)∧RelV v u)
  (hb:∀ (s:Shared) (u:Value),BindsTo s (kla_fn "<lambda>" qual params body scope clos ((mg "__name__").getD .none) (.ref c') ctv) ⟨[u],[]⟩ ([pn].zip [u]))
  (hbody:∀ (A:Around) (outer:List Env) (s:Shared) (H Hx:Hp) (E:XK),Room k (A.deeper (envX qual scope s.heap.objs.size f (.ref c') clos))→PE (cxCl P w K mg base (pn :: fs) qual scope f (.ref c') clos A outer s H Hx E) body te) :
  FvOk P w K mg base (k+1) H f (fun vs H' Q _=>∃ v,vs=[v]∧te (some v :: cv.map some) (utk H' L) (fun v' H2=>Q v' (tkd H2 L))):=by
 refine ⟨⟨_,_,hf,rfl⟩,fun A outer s H' us vs Q E sm hr e0 r h=>?_⟩
 obtain ⟨v,rfl,h⟩:=h
 obtain ⟨u,rfl,ru⟩:=vals1 r
 have hL':∀ a o,L.lookup a=some o→H' a=some (ObjO a o):=fun a o e=>sm _ _ (hL a o e)
 have hget:∀ a o,L.lookup a=some o→s.heap.get? a=some o:=fun a o e=>(show ObjOk P w H' s.heap a (ObjO a o) from e0.hok a _ (hL' a o e)).1
 have lim:s.heap.NoLimit:=e0.mod.nolimit.keeps fun b o e=>(e0.bs b o e).1
 have ho:s.heap.get? f=some (lamObj mg qual params body scope clos c' ctv):=(show ObjOk P w H' s.heap f (ObjO f _) from e0.hok f _ (sm _ _ hf)).1
 refine kla_callFunE hr.depth ho rfl S.co S.gen rfl (codeO_rec (e0.hok c' _ (sm _ _ hc))) (hb s u _ _ _ _ ?_)
 refine wpAny_newFunctionEnv S.nocell (fun y hy=>?_) (fun h1 hns hsb=>?_) S.kind
 ·rw [List.mem_singleton.mp (show y∈[(pn,u)] from hy)]; exact S.par
 have hk:∀ b o,s.heap.get? b=some o→h1.get? b=some o:=fun b o e=>hsb.extBut b o (Nat.ne_of_lt (Heap.lt_size e)) (Heap.get?_push_of_some _ e)
 refine ⟨lim.keeps hk,?_⟩
 show codeAny _ _ (.expr body (envX qual scope s.heap.objs.size f (.ref c') clos)) _ _
 refine kla_codeExpr ?_
 have noA:∀ b:Addr,b ∉ (cxCl P w K mg base (pn :: fs) qual scope f (.ref c') clos A outer s (utk H' L) H' E).ex:=fun b z=>absurd (show b∈([]:List Addr) from z) (by simp)
 have mem:∀ y c,clos.lookup y=some c→(y,c)∈clos:=fun y c e=>PySem.mem_of_lookup e
 have I:Inv (cxCl P w K mg base (pn :: fs) qual scope f (.ref c') clos A outer s (utk H' L) H' E) [] (some v :: cv.map some) (utk H' L) { s with heap:=h1,toks:=s.toks+([pn].zip [u]).length }:=by
  refine ⟨⟨e0.mod,S.kind,rfl,rfl,Nat.le_refl _,hinj,fun y hy=>?_,fun y c z=>absurd z (by simp [cxCl]),fun _=>hr.hd,Around.frames_deeper e0.frames,.inr ⟨rfl,rfl⟩,fun b z=>absurd z (noA b),fun b o e=>⟨(e0.bs b o e).1,Zdj (e0.bs b o e).2⟩,e0.bsz,fun b _ _=>noA b,fun b z=>absurd z (noA b),e0.funs,fun b hb=>Zdj (e0.frf b hb)⟩,
   rfl,e0.bare,Un.kept hk,⟨_,hns,fun i y vv h1' h2 h3=>?_⟩,fun y c e=>?_,Zdj (e0.hok.fresh (Nat.le_refl _)),fun y c e=>?_,fun p hp=>absurd (show p∈([]:List (Addr × Obj)) from hp) (by simp),(e0.hok.utk hL').kept hk,?_⟩
  ·have hy:scope.names.lookup y=some .cell∨scope.names.lookup y=some .free:=hy
   rcases hy with hy | hy
   ·exact absurd rfl (S.nocell _ (PySem.mem_of_lookup hy))
   ·exact (hkeys y).mpr (S.free y hy)
  ·have h1':(pn :: fs)[i]?=some y:=h1'
   cases i with
   | zero =>
    cases h1'
    cases h2
    exact ⟨u,ru,.inl ⟨S.par,by simp⟩⟩
   | succ i =>
    have h1':fs[i]?=some y:=h1'
    have h2:(cv.map some)[i]?=some (some vv):=h2
    rw [List.getElem?_map] at h2
    obtain ⟨z,hz,e⟩:=Option.map_eq_some_iff.mp h2
    cases e
    obtain ⟨c,hc'⟩:=(hkeys y).mpr (List.mem_of_getElem? h1')
    obtain ⟨o,u',ho',hd,rv⟩:=hval (y,c) (mem y c hc') i vv h1' hz
    exact ⟨u',rv,.inr ⟨.inr (S.isfree y (List.mem_of_getElem? h1')),c,hc',o,hk _ _ (hget _ _ ho'),hd⟩⟩
  ·obtain ⟨o,vv,ho',hd⟩:=hcell (y,c) (mem y c e)
   exact ⟨vv,o,hk _ _ (hget _ _ ho'),hd⟩
  ·obtain ⟨o,vv,ho',hd⟩:=hcell (y,c) (mem y c e)
   exact Zgj ho'
  ·show (some v :: cv.map some).length=(pn :: fs).length
   rw [List.length_cons,List.length_cons,List.length_map,hlen]
 refine wpAny_mono (hbody A outer s (utk H' L) H' E (hr.deeper _) [] _ _ _ _ I h) (fun u2 s' ⟨v2,H2,J,rv,q⟩=>?_) fun e s' z=>z
 have un:Un (frs outer) [] (utk H' L) H2 s.heap s'.heap:=J.base
 have hnf:∀ a o,L.lookup a=some o→a ∉ frs outer:=fun a o e hb=>by
  have:=e0.frf a hb
  rw [hL' a o e] at this; cases this
 exact ⟨v2,tkd H2 L,J.os,J.bare,un.tkd hL',J.hok.tkd (fun a o e=>un.free a o (hget a o e) (Zgj e) (by simp)) (fun a o e=>un.keep a o (hget a o e) (Zgj e) (hnf a o e) (by simp)),rv,q⟩
theorem TabOk.lamC {clos:List (Str × Addr)} {mg:Str→Option Value} {pos:Pos} {qual:Str} {T:Addr} {params:Arguments} {body:Expr} {scope:Scope} {σ:St} {H:Hp} {Q:VK} (h:TabOk pos qual T H)
  (q:∀ c' f ctv H',SameX T H H'→TabOk pos qual T H'→H' f=some (ObjO f (lamObj mg qual params body scope clos c' ctv))→H' c'=some (CodeO c' qual)→(∀ b,H b=none→H' b=none∨b=c'∨b=f)→Q (.ref f) H'):tLam mg T pos params body scope clos qual σ H Q:=by
 obtain ⟨ps,e,t,c⟩:=h
 refine ⟨ps,e,t,?_⟩
 rcases c with c | ⟨c',c1,c2⟩
 ·refine .inl ⟨c,fun c' f ctv hc hf n1 n2 n3=>?_⟩
  have eT:(upd (upd (upd H T (.tbl (ps++#[rawInt pos.line,rawInt pos.col,.ref c']))) c' (CodeO c' qual)) f (ObjO f (lamObj mg qual params body scope clos c' ctv))) T=some (.tbl (ps++#[rawInt pos.line,rawInt pos.col,.ref c'])):=by
   rw [Zag (Ne.symm n3),Zag (Ne.symm n2),upd_same]
  have eC:(upd (upd (upd H T (.tbl (ps++#[rawInt pos.line,rawInt pos.col,.ref c']))) c' (CodeO c' qual)) f (ObjO f (lamObj mg qual params body scope clos c' ctv))) c'=some (CodeO c' qual):=by
   rw [Zag n1,upd_same]
  refine q c' f ctv _ (fun a o ea no=>?_) ⟨_,eT,?_,.inr ⟨c',?_,eC⟩⟩ upd_same eC fun b hb=>?_
  ·rw [Zag (Zad no hf),Zag (Zad no hc),Zag ea]
   exact no
  ·rw [Array.toList_append]
   exact Zep (c:=0) _ t
  ·rw [Array.toList_append]
   exact codeAmong_snoc _ t c
  ·by_cases h1:b=f
   ·exact .inr (.inr h1)
   ·by_cases h2:b=c'
    ·exact .inr (.inl h2)
    ·refine .inl ?_
     rw [Zag h1,Zag h2,Zag (fun z=>by rw [z,e] at hb; cases hb)]
     exact hb
 ·refine .inr ⟨c',c1,c2,fun f ctv hf=>?_⟩
  have s:Same H (upd H f (ObjO f (lamObj mg qual params body scope clos c' ctv))):=Same.new hf
  refine q c' f ctv _ s.x (TabOk.same ⟨ps,e,t,.inr ⟨c',c1,c2⟩⟩ s) upd_same (s _ _ c2) fun b hb=>?_
  by_cases h1:b=f
  ·exact .inr (.inr h1)
  ·exact .inl (by rw [Zag h1]; exact hb)
theorem TabOk.tbl {pos:Pos} {qual:Str} {T:Addr} {H:Hp} (h:TabOk pos qual T H):∃ ps,H T=some (.tbl ps):=let ⟨ps,e,_⟩:=h; ⟨ps,e⟩
theorem SameX.toN {T:Addr} {H H':Hp} (s:SameX T H H') (hT:∃ ps,H T=some (.tbl ps)):SameN H H':=fun a o e n=>s a o (fun z=>by obtain ⟨ps,e'⟩:=hT; rw [z,e'] at e; cases e; exact n _ rfl) e
theorem same_utk {H H':Hp} {L:List (Addr × Obj)} (hL:∀ a o,L.lookup a=some o→H a=none) (s:Same (tkd H L) H'):Same H (utk H' L)∧∀ a o,L.lookup a=some o→H' a=some (ObjO a o) :=
 ⟨fun a o e=>by
  have n:=Zes hL e
  rw [Zb5 n]; exact s _ _ (by rw [Zbb n]; exact e),fun a o e=>s _ _ (Zia e)⟩
theorem Zkw {H:Hp} {L:List (Addr × Obj)} {a:Addr} {u:HO} (hL:∀ a o,L.lookup a=some o→H a=some (ObjO a o)) (e:H a=some u) (n:∀ o,u≠ObjO a o):utk H L a=some u:=by rw [Zb5 (Zeh hL e n)]; exact e
end L2
namespace L2
open PySem PySem.Spec PyProof.Rows PySem.W
section
variable {X:Cx}
end
end L2
namespace L2
open PySem PySem.Spec PyProof.Rows PySem.W
theorem HOk.thaw {P:Program} {w:World} {H:Hp} {h:Heap} {a:Addr} {ob:Obj} {u:HO} (ok:HOk P w H h) (e:H a=some (.frz ob u)):HOk P w (upd H a u) h:=fun b v q=>by
 have ho:∀ b y,H b=some (.own y)→(upd H a u) b=some (.own y):=fun b y z=>by rw [Zag (fun c=>by rw [c,e] at z; cases z)]; exact z
 have ht:∀ b xs,H b=some (.tup xs)→(upd H a u) b=some (.tup xs):=fun b xs z=>by rw [Zag (fun c=>by rw [c,e] at z; cases z)]; exact z
 by_cases hb:b=a
 ·subst hb
  rw [upd_same] at q
  cases q
  exact (show h.get? b=some ob∧ObjOk P w H h b u from ok b _ e).2.stay (fun _ _ _ r=>r) (fun c r=>ho c _ r) ht
 ·rw [Zag hb] at q
  exact (ok b v q).stay (fun _ _ _ r=>r) (fun c r=>ho c _ r) ht
theorem Inv.thaw {X:Cx} {pins:List (Addr × Obj)} {σ:St} {H:Hp} {s:Shared} {a:Addr} {ob:Obj} {u:HO} (I:Inv X pins σ H s) (e:H a=some (.frz ob u)) (n:∀ o v,X.H₀ a≠some (.frz o v)):Inv X pins σ (upd H a u) s:=by
 have ne:∀ {b:Addr},H b=none→b≠a:=fun z c=>by rw [c,e] at z; cases z
 refine ⟨I.ok,I.os,I.bare,⟨I.base.keep,I.base.slot,fun b o q r hx=>?_,I.base.there,fun b xs q=>?_,fun b o v q=>?_,fun b ps q=>?_⟩,I.loc,I.cell,?_,fun x c q=>?_,fun p hp=>?_,I.hok.thaw e,I.len⟩
 ·have:=I.base.free b o q r hx
  rw [Zag (ne this)]; exact this
 ·have:=I.base.tups b xs q
  rw [Zag (fun c=>by rw [c,e] at this; cases this)]; exact this
 ·have:=I.base.frzs b o v q
  rw [Zag (fun c=>by rw [c] at q; exact n o v q)]; exact this
 ·obtain ⟨more,this⟩:=I.base.tbls b ps q
  exact ⟨more,by rw [Zag (fun c=>by rw [c,e] at this; cases this)]; exact this⟩
 ·rw [Zag (ne I.free)]; exact I.free
 ·rw [Zag (ne (I.freeC x c q))]; exact I.freeC x c q
 ·obtain ⟨p1,p2,p3⟩:=I.pin p hp
  exact ⟨p1,by rw [Zag (ne p2)]; exact p2,p3⟩
def tThaw (H₀:Hp) (te:TE):TE:=fun σ H Q=>te σ H fun v H'=>∃ (a:Addr) (ob:Obj) (u:HO),H' a=some (.frz ob u)∧(∀ o w,H₀ a≠some (.frz o w))∧Q v (upd H' a u)
theorem pe_thaw {X:Cx} {e:Expr} {te:TE} (h:PE X e te):PE X e (tThaw X.H₀ te):=by
 intro pins s σ H Q I q
 refine thn (h pins s σ H _ I q) fun u s1 ⟨x,H1,I1,rx,a,ob,w,ea,n,q1⟩=>⟨x,_,I1.thaw ea n,rx,q1⟩
theorem Zix {a:Addr} {ob:Obj} {kvs:List (List Key × V)} {g:TG} {tc:TT} {te:TE} {σ:St} {H1:Hp} {acc:Addr} {Qr:Hp→Prop} (Pv:Nat→List V→St→Hp→Prop) (h0:Pv 0 [] σ (upd H1 acc (.lst [])))
  (hq:∀ i xs σ H,i≤kvs.length→H acc=some (.lst xs)→Pv i xs σ H→H a=some (.frz ob (.dT kvs)))
  (hs:∀ i p t b xs σ H,kvs[i]?=some p→i < kvs.length→xs.length≤i→H acc=some (.lst xs)→Pv i xs σ H→H b=some (.tup (p.1.map kV))→H t=none→g (.ref t) σ (upd H t (.tup [.ref b,p.2])) fun σ2 H2=>tc σ2 H2 fun b Hb=>match b with
   | true=>te σ2 Hb fun v H3=>fNx acc kvs.length Pv i σ2 v H3
   | false=>fSk acc kvs.length Pv i σ2 Hb)
  (hd:∀ xs σ H,xs.length≤kvs.length→H acc=some (.lst xs)→Pv kvs.length xs σ H→Qr H) :
  ∃ W:Nat→Nat→St→Hp→Prop,(∃ m,W 0 m σ (upd H1 acc (.lst [])))∧∀ i m σ1 H2,W i m σ1 H2 →
   ((Itn a ob).stop i H2∧Qr H2)∨((Itn a ob).go i H2∧∀ x H3,(Itn a ob).yld i H2 x H3→g x σ1 H3 fun σ4 H4=>tc σ4 H4 fun b Hb=>match b with
    | true=>te σ4 Hb fun v H5=>∃ xs,H5 acc=some (.lst xs)∧xs.length < sizeLine∧∃ m',m' < m∧W (i+1) m' σ4 (upd H5 acc (.lst (xs++[v])))
    | false=>∃ m',m' < m∧W (i+1) m' σ4 Hb):=by
 refine ⟨fW acc kvs.length Pv,⟨kvs.length,Nat.zero_le _,rfl,[],Nat.le_refl _,upd_same,h0⟩,?_⟩
 rintro i m σ1 H2 ⟨hi,rfl,xs,hl,ha,hp⟩
 have hsq:=hq i xs σ1 H2 hi ha hp
 rcases Nat.lt_or_ge i kvs.length with h | h
 ·refine .inr ⟨⟨kvs,kvs[i],hsq,List.getElem?_eq_getElem h⟩,?_⟩
  rintro x H3 ⟨t,b,z,hz,hb,rfl,ht,rfl⟩
  exact hs i z t b xs σ1 _ (hz kvs hsq) h hl ha hp hb ht
 ·have e:i=kvs.length:=Nat.le_antisymm hi h
  subst e
  exact .inl ⟨⟨kvs,hsq,Nat.le_refl _⟩,hd xs σ1 H2 hl ha hp⟩
theorem pe_fldK {X:Cx} {K:Frag} {e:Expr} {f:Str} {pos:Pos} {ta:TE} (he:PE X e ta) (hb:attributeBase e f X.env (eval e X.env)=eval e X.env) (hK:X.K=K:=by rfl):PE X (.Attribute e f pos) (tFld K ta f):=by subst hK; exact Zcg he hb
def tDispT (tk tv:TE):TE:=fun σ H Q=>∀ p,H p=none→tk σ (upd H p (.dT [])) fun x H1=>tv σ H1 fun y H2=>H2 p=some (.dT [])∧∃ (b:Addr) (ks:List Key),x=.ref b∧H2 b=some (.tup (ks.map kV))∧Q (.ref p) (upd H2 p (.dT [(ks,y)]))
theorem pe_dispT {X:Cx} {pos:Pos} {k v:Expr} {tk tv:TE} (hu:X.A.units+1 < cLine) (hk:PE X k tk) (hv:PE X v tv):PE X (.Dict [some k] [v] pos) (tDispT tk tv):=by
 intro pins s σ H Q I q
 have hn:=I.hok.fresh (Nat.le_refl s.heap.objs.size)
 have I1:=I.laid (a:=s.heap.objs.size) (o:=.dT []) (h':=s.heap.push { cls:=.type "dict",data:=.dict #[] }) (t':=s.toks) (fun _ _ q=>Heap.get?_push_of_some _ q) (Nat.le_refl _) (dt_empty s.heap I.big)
 have hp:PPs X pos [some k] [v] [(tk,tv)]:=pps_cons hk hv pps_nil
 have hl:=pairTrees_length [some k] [v] X.env pos rfl rfl
 have hl1:(pairTrees [some k] [v] X.env pos).length=1:=hl
 rw [arm_eval_Dict,zip_pairTrees [some k] [v] X.env pos rfl rfl,dictDisplay_pairs _ (fun z=>by rw [z] at hl1; simp at hl1) (by omega)]
 refine wpAny_bind (wpAny_standAt (wpAny_bind ?_))
 unfold subDict
 refine wpAny_bind (wpAny_alloc ?_)
 refine wpAny_bind (wpAny_holding ?_)
 rw [if_pos (by omega)]
 refine wpAny_bind (thn (hp pins _ σ _ (fun ps H2=>match ps with
  | [(x,y)]=>H2 s.heap.objs.size=some (.dT [])∧∃ (b:Addr) (ks:List Key),x=.ref b∧H2 b=some (.tup (ks.map kV))∧Q (.ref s.heap.objs.size) (upd H2 s.heap.objs.size (.dT [(ks,y)]))
  | _=>False) I1 (q _ hn)) fun ws s2 ⟨ps,H2,I2,rel,z⟩=>?_)
 match ps,z,rel with
 | [(x,y)],⟨e,b,ks,ex,eb,q2⟩,.cons (b:=u) hxy .nil =>
  obtain ⟨u1,u2⟩:=u
  subst ex
  obtain ⟨rx,ry⟩:=hxy
  cases (show u1=Value.ref b from rx)
  obtain ⟨z0,hd,xs,rel0,dd⟩:=dt_of I2.hok e
  cases rel0
  refine wpAny_holding ?_
  rw [List.forIn_cons]
  refine wpAny_bind (wpAny_bind (wpAny_bind (wpAny_dictSet_heap (knd:=tupleKind (Zbn X.prog X.w)) (show X.A.units < cLine by omega) (key_of I2.hok eb) dd (fun h' dd' hs=>wpAny_pure ?_) (Nat.zero_le _))))
  dsimp only
  rw [List.forIn_nil]
  refine wpAny_pure (wpAny_pure (wpAny_pure (wpAny_pure ⟨.ref s.heap.objs.size,_,?_,rfl,q2⟩)))
  obtain ⟨o,es,ep,hq,h2,h3,h4,_,h5⟩:=dd'
  refine Zke I2 (by rw [e]; exact True.intro) hs ⟨o,hq⟩ ⟨(show 1≤sizeLine from by decide),hd,_,(KT.put (kvs:=[]) (xs:=[]) .nil ks eb ry).keeps fun c ys ec=>?_,o,es,ep,hq,h2,h3,h4,h5⟩
  rw [Zag (ne_of ec e (fun z=>nomatch z))]
  exact ec
structure MdOkX (P:Program) (w:World) (K:PySem.W.Frag) (mg:Str→Option Value) (base:Heap) (k:Nat) (C:Addr) (m:Str) (ps:List Str) (sp:Sp):Prop where
 cl:Cls K C
 ex:∃ (f:Addr) (fd:FuncData),Meth K C m f∧FnOk P w K mg base (CX1 P w) k f fd ps sp∧Binds K fd ps []
section
variable {X:Cx} {k j:Nat} {x m:Str} {C:Addr} {ps:List Str} {sp:Sp} {p pos apos:Pos} {e o:Expr} {es:List Expr} {t:TA} {ta:TE} {E₁:XK}
theorem pe_mdx {pl:Sem Bool} (D:MdOkX X.prog X.w X.K X.mg X.base k C m ps sp) (hr:Room j X.A) (hx:Passes (CX1 X.prog X.w) X E₁) (he:PE X o ta) (ha:PA X (e :: es) t) (hj:k≤j:=by decide)
    (hst:starEach (e :: es) X.env=(false,eval e X.env) :: starEach es X.env:=by rfl) (hpl:(backTo pos (starEach es X.env)).any (·.1)=false:=by rfl)
    (ht:eval (.Call (.Attribute o m apos) (e :: es) [] pos) X.env=(do
      let ov ← eval o X.env
      standAt apos.atName
      let (f,first) ← holding [ov] (getMethod ov m pl)
      callWith pos f first (backTo pos (starEach (e :: es) X.env)) (backToKw pos (keywordEach [] X.env))):=by rfl):PE X (.Call (.Attribute o m apos) (e :: es) [] pos) (tMeth C m sp [] E₁ ta t):=by
  obtain ⟨f,fd,M,F,hb⟩:=D.ex
  exact pe_meth he D.cl M F (hr.mono hj) hb .nil hx ha hst hpl ht
end
structure FunF (K:PySem.W.Frag) (x qual:Str) (st:Stmt) (f:Addr) (fd:FuncData) (dv:Value):Prop where
 ex:∃ (oc:Value) (od:Option Addr) (T:Addr) (kV doc pm:Value) (an:Option Addr) (cdv ct:Value) (osl:Array (Option Value)) (o:Obj) (n:Nat),
  fd=PySem.W.fnOf x qual (Zak st) (Zai st) (Zab st) (.ref T) kV doc pm an cdv ct∧K.lookup f=some ⟨oc,od,.func fd,osl⟩∧PySem.W.codeIn K cdv qual=true∧K.lookup T=some o∧o.data=.seq #[dv] n
 kp:PySem.W.keepIn K (.ref f)=true
theorem FunF.okx {P:Program} {w:World} {K:PySem.W.Frag} {mg:Str→Option Value} {base:Heap} {x qual:Str} {st:Stmt} {f:Addr} {fd:FuncData} {dv:Value} {N ps:List Str} {k:Nat} {sp:Sp} (F:FunF K x qual st f fd dv) (S:Zan N ps (Zab st)) (len:∀ vs H Q E,sp vs H Q E→vs.length=ps.length)
  (hbody:∀ (cdv:Value) (A:Around) (outer:List Env) (s:Shared) (H:Hp) (vs:List V) (Q:VK) (E:XK),Room k (A.deeper (envOfC qual (Zab st) s.heap.objs.size f cdv))→sp vs H Q E →
   ∃ t,PSs (cxOf (CX1 P w) P w K mg base N qual (Zab st) f cdv A outer s H E) (Zai st) t∧t { nx:=fun _ H'=>Q .non H',rt:=Q } (start N vs) H):FnOk P w K mg base (CX1 P w) (k+1) f fd ps sp:=by
 obtain ⟨oc,od,T,kV,doc,pm,an,cdv,ct,osl,o,n,rfl,lk,hcd,lT,dT⟩:=F.ex
 exact fn_of lk hcd S len fun A outer s H vs Q E hr hsp=>hbody cdv A outer s H vs Q E hr hsp
theorem FunF.binds {K:PySem.W.Frag} {x qual:Str} {st:Stmt} {f:Addr} {fd:FuncData} {dv:Value} {ps:List Str} {ds:List Value} (F:FunF K x qual st f fd dv)
  (h:∀ (T:Addr) (kV doc pm:Value) (an:Option Addr) (cdv ct:Value) (us:List Value),(us++ds).length=ps.length→∃ k:Option (Array Value)→Sem (List (Str × Value)),
   bindArgs (PySem.W.fnOf x qual (Zak st) (Zai st) (Zab st) (.ref T) kV doc pm an cdv ct) ⟨us,[]⟩=seqItems? (.ref T) >>= k∧k (some #[dv])=pure (ps.zip (us++ds))):Binds K fd ps ds:=by
 obtain ⟨oc,od,T,kV,doc,pm,an,cdv,ct,osl,o,n,rfl,lk,hcd,lT,dT⟩:=F.ex
 intro s us X hl
 obtain ⟨k,h1,h2⟩:=h T kV doc pm an cdv ct us hl
 exact .of_defaults rfl (X _ _ lT) dT h1 h2
section
variable {X:Cx} {k j:Nat} {x m:Str} {C:Addr} {ps:List Str} {sp:Sp} {p pos apos:Pos} {e o:Expr} {es:List Expr} {t:TA} {ta:TE} {E:XK}
end
end L2
namespace L2
open PySem PySem.Spec PyProof.Rows PySem.W
section
variable {X:Cx} {i:Nat} {n g:Str} {G:Addr} {value:Expr} {b₀:Stmt} {suite:List Stmt} {np apos gp hpos pos:Pos} {te:XK→TE} {ts:TS}
end
end L2
namespace L2
open PySem PySem.Spec PyProof.Rows PySem.W
def tMethK (C:Addr) (m:Str) (sp:Sp) (gV:List V→List V→List V) (E:XK) (ta:TE) (t tk:TA):TE:=fun σ H Q=>ta σ H fun x H1=>∃ a dx fs,x=.ref a∧H1 a=some (.ins C dx fs)∧fs.lookup m=none ∧
 t σ H1 fun vs H2=>tk σ H2 fun zs H3=>sp (gV (x :: vs) zs) H3 Q E
section
variable {X:Cx} {CX:CXT} {k:Nat} {f C:Addr} {fd:FuncData} {ps ks:List Str} {sp:Sp} {E:XK} {x m:Str} {p pos apos kpos:Pos} {e o:Expr} {es:List Expr} {kws:List Keyword} {te ta:TE} {t tk:TA} {g:List Value→List Value→List Value} {gV:List V→List V→List V}
end
structure MdK (P:Program) (w:World) (K:Frag) (mg:Str→Option Value) (base:Heap) (k:Nat) (C:Addr) (m:Str) (ps ks:List Str) (g:List Value→List Value→List Value) (gV:List V→List V→List V) (sp:Sp):Prop where
 cl:Cls K C
 ex:∃ (f:Addr) (fd:FuncData),Meth K C m f∧FnOk P w K mg base (CX1 P w) k f fd ps sp∧KBinds K fd ps ks g gV
theorem FunF.kbinds {K:PySem.W.Frag} {x qual:Str} {st:Stmt} {f:Addr} {fd:FuncData} {dv:Value} {ps ks:List Str} {g:List Value→List Value→List Value} {gV:List V→List V→List V} (F:FunF K x qual st f fd dv)
  (h:∀ (T:Addr) (kV doc pm:Value) (an:Option Addr) (cdv ct:Value) (us ws:List Value),(g us ws).length=ps.length→∃ k:Option (Array Value)→Sem (List (Str × Value)),
   bindArgs (PySem.W.fnOf x qual (Zak st) (Zai st) (Zab st) (.ref T) kV doc pm an cdv ct) ⟨us,ks.zip ws⟩=seqItems? (.ref T) >>= k∧k (some #[dv])=pure (ps.zip (g us ws)))
  (hr:∀ {vs:List V} {us:List Value} {zs:List V} {ws:List Value},Vals vs us→Vals zs ws→Vals (gV vs zs) (g us ws)):KBinds K fd ps ks g gV:=by
 obtain ⟨oc,od,T,kV,doc,pm,an,cdv,ct,osl,o,n,rfl,lk,hcd,lT,dT⟩:=F.ex
 refine ⟨fun s us ws X hl=>?_,hr⟩
 obtain ⟨k,h1,h2⟩:=h T kV doc pm an cdv ct us ws hl
 exact .of_defaults rfl (X _ _ lT) dT h1 h2
section
variable {X:Cx} {k j i:Nat} {x m n:Str} {C:Addr} {ps ks:List Str} {sp:Sp} {p pos apos np:Pos} {e o value:Expr} {es:List Expr} {kws:List Keyword} {t tk:TA} {ta:TE} {te:XK→TE} {E:XK} {g:List Value→List Value→List Value} {gV:List V→List V→List V}
theorem px_mdK {pl:Sem Bool} (D:MdK X.prog X.w X.K X.mg X.base k C m ps ks g gV sp) (hr:Room j X.A) (ho:PE X.nox o ta) (ha:PA X.nox (e :: es) t) (hkw:PK X.nox kws tk) (hj:k≤j:=by decide)
    (hall:(backToKw pos (keywordEach kws X.env)).all (·.1.isSome)=true:=by rfl) (hks:(backToKw pos (keywordEach kws X.env)).filterMap (·.1)=ks:=by rfl)
    (hst:starEach (e :: es) X.env=(false,eval e X.env) :: starEach es X.env:=by rfl) (hpl:((backTo pos (starEach (e :: es) X.env)).any (·.1) || (backToKw pos (keywordEach kws X.env)).any (·.1.isNone))=false:=by rfl)
    (ht:eval (.Call (.Attribute o m apos) (e :: es) kws pos) X.env=(do
      let ov ← eval o X.env
      standAt apos.atName
      let (f,first) ← holding [ov] (getMethod ov m pl)
      callWith pos f first (backTo pos (starEach (e :: es) X.env)) (backToKw pos (keywordEach kws X.env))):=by rfl):PX X (.Call (.Attribute o m apos) (e :: es) kws pos) (tMethK C m sp gV E ta t tk) E:=by
  obtain ⟨f,fd,M,F,hb⟩:=D.ex
  intro pins s σ H Q Ex I h hx
  refine PySem.W.methodCall_KW (pl:=pl) (wpAny_mono (ho pins s σ H _ (I.wish _) h) (fun u s1 ⟨y,H1,I1',rx,a,dx,fs,ex,ea,l,q⟩=>?_) fun _ _ z=>False.elim z) ht
  have I1:Inv X pins σ H1 s1:=I1'.unwish
  subst ex
  obtain rfl:u=Value.ref a:=rx
  refine Zek I1 ea D.cl M l ?_
  refine PySem.W.callWith_KW (first:=[.ref a]) (h₀:=X.base) I.ok.mod.kin M.kp hall (wpAny_mono (ha pos pins s1 σ H1 _ (I1.wish _) q) (fun us s2 ⟨vs,H2,I2',r,q2⟩=>?_) fun _ _ z=>False.elim z) hpl hst
  refine wpAny_mono (hkw pos pins s2 σ H2 _ I2' q2) (fun ws s3 ⟨zs,H3,I3',rz,q3⟩=>⟨I3'.unwish.kIn,?_⟩) fun _ _ z=>False.elim z
  have I3:Inv X pins σ H3 s3:=I3'.unwish
  rw [hks]
  have r2:Vals (.ref a :: vs) (Value.ref a :: us):=.cons rfl r
  have r3:=hb.rel r2 rz
  have hl:(g (Value.ref a :: us) ws).length=ps.length:=by rw [← r3.length]; exact F.len _ _ _ _ q3
  refine wpAny_call (codeAny_mono (F.run X.A X.stack s3 H3 ⟨Value.ref a :: us,ks.zip ws⟩ (g (Value.ref a :: us) ws) (gV (.ref a :: vs) zs) Q E (hr.mono hj) I3.env0 (hb.to s3 _ ws I3.kIn hl) r3 q3) fun r s' hq=>?_)
  cases r with
  | error e =>
    obtain ⟨x,T,C,d,H',rfl,os,bare,un,hok,fl,q'⟩:=hq
    exact hx x T C d H' s' (I3.call' (ch:=[]) os un hok bare (fun b z=>absurd z (by simp))) fl q'
  | ok fl =>
    cases fl with
    | ret u=>exact I3.after hq
    | next=>exact False.elim hq
    | brk=>exact False.elim hq
    | cont=>exact False.elim hq
def tSetX (i:Nat) (te:XK→TE):XK→TS:=fun E D σ H=>te E σ H (fun v H1=>D.nx (σ.set i (some v)) H1)
theorem Zjr (hN:X.N.Nodup) (hi:X.N[i]?=some n) (hx:Loc X.env.scope n) (he:∀ E,PX X value (te E) E) (hsw:swapsWith value (some (.Name n np)) apos.line X.env=pure false:=by rfl) (hf:X.fn n=true∨X.env.scope.names.lookup n=some .local:=by first | exact .inl rfl | exact .inr rfl | assumption) :
  PXS X (.Assign [.Name n np] value apos) (tSetX i te):=by
 intro E pins s σ H D Ex I h hx'
 refine wpAny_Assign_Name (thn (he E pins s σ H _ _ I h hx') fun v s1 ⟨y,H1,I1,r1,q1⟩=>?_) hsw
 exact Ze1 I1 hN hi hx r1 (fun s2 I2=>⟨_,H1,I2,q1⟩) hf
end
end L2
namespace K70
open PySem L2
def top (i:Nat):Stmt:=PySem.Challenge.pw_glazebench_k70_a_pane_cut.main.body.getD i (.Pass ⟨0,0,0,0⟩)
abbrev Zbh:Stmt:=Zax (top 4) 0
abbrev Zbi:Stmt:=Zax (top 6) 0
abbrev Zcn:Stmt:=top 9
abbrev Zc5:Stmt:=top 10
abbrev Zc4:Stmt:=top 11
abbrev Zc6:Stmt:=top 12
abbrev Zbr:Stmt:=top 13
abbrev Zb2:Stmt:=Zax (top 19) 0
abbrev Zbg:Stmt:=Zax (top 20) 0
abbrev Zb3:Stmt:=Zax (top 21) 0
abbrev Zcq:Stmt:=top 25
abbrev Zcb:Stmt:=top 26
abbrev Zby:Stmt:=top 27
abbrev Zbq:Stmt:=top 29
abbrev Zbp:Stmt:=top 30
abbrev Zbo:Stmt:=top 32
abbrev Zca:Stmt:=top 33
abbrev Zco:Stmt:=top 36
abbrev Zbe:Stmt:=top 37
abbrev Zed:Stmt:=top 40
abbrev Zcp:Stmt:=top 41
abbrev Zbd:Stmt:=top 42
abbrev Zb4:Stmt:=Zax (top 43) 0
abbrev Zaz:Stmt:=Zax (top 43) 1
abbrev Za6:Stmt:=Zax (top 43) 2
abbrev Zba:Stmt:=Zax (top 43) 3
abbrev Zbj:Stmt:=Zax (top 43) 4
abbrev Zbs:Stmt:=Zax (top 43) 5
abbrev Za5:Stmt:=Zax (top 43) 6
abbrev Zcf:Stmt:=Zax (top 43) 7
abbrev Zce:Stmt:=top 45
abbrev Zcd:Stmt:=top 46
abbrev Zbz:Stmt:=top 47
abbrev Zcc:Stmt:=top 48
abbrev Zbl:Stmt:=top 49
abbrev Zb0:Stmt:=top 50
abbrev Zbf:Stmt:=top 51
abbrev Zb1:Stmt:=top 52
abbrev Zc7:Stmt:=top 53
abbrev Zdc:Stmt:=top 54
def refs {α:Type} (ts:List (Addr × α)):List V:=ts.map fun t=>V.ref t.1
theorem Zbt {α:Type} {ts:List (Addr × α)} {i:Nat} {x:V} (h:(refs ts)[i]?=some x):∃ u,ts[i]?=some u∧x=.ref u.1:=by
 rw [refs,List.getElem?_map] at h
 cases e:ts[i]? with
 | none=>rw [e] at h; cases h
 | some u=>rw [e] at h; exact ⟨u,rfl,(Option.some.inj h).symm⟩
theorem Zal {α:Type} (ts:List (Addr × α)):(refs ts).length=ts.length:=List.length_map ..
theorem Zho {xs:List Int} {i:Nat} {x:V} (h:(xs.map V.int)[i]?=some x):∃ z,xs[i]?=some z∧x=.int z:=by
 rw [List.getElem?_map] at h
 cases e:xs[i]? with
 | none=>rw [e] at h; cases h
 | some z=>rw [e] at h; exact ⟨z,rfl,(Option.some.inj h).symm⟩
theorem Zc0 {H H':Hp} (s:Same H H') {a:Addr} (h:H' a=none):H a=none:=by
 cases q:H a with
 | none=>rfl
 | some o=>rw [s a o q] at h; cases h
def wd (u:Bool):Str:=if u=true then "upright" else "level"
theorem Zgi (u v:Bool):decide (V.str (wd u)=V.str (wd v))=(u == v):=by cases u <;> cases v <;> decide +kernel
theorem Zkt (u:Bool):decide (V.str (wd u)=V.str "whole")=false:=by cases u <;> decide +kernel
inductive Tr where
 | whole (m:Option Int)
 | cut (u:Bool) (k:Int) (x y:Tr)
def Tr.dp:Tr→Nat
 | .whole _=>0
 | .cut _ _ x y=>max x.dp y.dp+1
def markV:Option Int→V
 | none=>.non
 | some i=>.int i
def Told (H:Hp):Tr→V→Prop
 | .whole m,v=>∃ a,v=.ref a∧H a=some (.tup [.str "whole",markV m])
 | .cut u k x y,v=>∃ a vx vy,v=.ref a∧H a=some (.tup [.str (wd u),.int k,vx,vy])∧Told H x vx∧Told H y vy
theorem Told.same {H H':Hp} (s:Same H H'):∀ {t:Tr} {v:V},Told H t v→Told H' t v
 | .whole m,v,h=>by
  rw [Told] at h ⊢
  obtain ⟨a,e,h⟩:=h
  exact ⟨a,e,s _ _ h⟩
 | .cut u k x y,v,h=>by
  rw [Told] at h ⊢
  obtain ⟨a,vx,vy,e,h,h1,h2⟩:=h
  exact ⟨a,vx,vy,e,s _ _ h,Told.same s h1,Told.same s h2⟩
theorem Told.samex {l:Addr} {xs:List V} {H H':Hp} (s:SameX l H H') (hl:H l=some (.lst xs)):∀ {t:Tr} {v:V},Told H t v→Told H' t v
 | .whole m,v,h=>by
  rw [Told] at h ⊢
  obtain ⟨a,e,h⟩:=h
  exact ⟨a,e,s _ _ (ne_of h hl (by intro z; cases z)) h⟩
 | .cut u k x y,v,h=>by
  rw [Told] at h ⊢
  obtain ⟨a,vx,vy,e,h,h1,h2⟩:=h
  exact ⟨a,vx,vy,e,s _ _ (ne_of h hl (by intro z; cases z)) h,Told.samex s hl h1,Told.samex s hl h2⟩
theorem Zch {x0 x1:V}:atI [x0,x1] 0=some x0:=rfl
theorem Zcj {x0 x1:V}:atI [x0,x1] 1=some x1:=rfl
theorem divL {j:Int} (z:Int) (h:0 < j) (h2:j < 18446744073709551616):CDivL z j:=⟨h,Nat.lt_trans (Zgq (k:=64) (by decide) (by lia)) (by decide)⟩
theorem mul64 {a b:Int} (h1:-18446744073709551616 < a) (h2:a < 18446744073709551616) (h3:-18446744073709551616 < b) (h4:b < 18446744073709551616):IntMulOk a b:=by
 have c:(2:Nat)^128=340282366920938463463374607431768211456:=by decide +kernel
 refine mulOk_of ?_ ?_ <;> rw [c] <;> lia
theorem at_ints {ns:List Int} {k:Int} (h0:0≤k) (h1:k < (ns.length:Int)):∃ z,atI (ns.map V.int) k=some (.int z):=by
 have hk:k.toNat < ns.length:=by lia
 have hz:(ns.map V.int)[k.toNat]?=some (.int ns[k.toNat]):=by rw [List.getElem?_map,List.getElem?_eq_getElem hk]; rfl
 have e:=Zcw hz
 rw [Int.toNat_of_nonneg h0] at e
 exact ⟨_,e⟩
theorem Zkx {H:Hp} {a:Addr} {xs:List V} (h:H a=some (.tup xs)):tyS H (.ref a)=some "tuple":=by
 show tyO (H a)=some "tuple"
 rw [h]; rfl
theorem at0 {x0 x1 x2 x3:V}:atI [x0,x1,x2,x3] 0=some x0:=rfl
theorem at1 {x0 x1 x2 x3:V}:atI [x0,x1,x2,x3] 1=some x1:=rfl
theorem at2 {x0 x1 x2 x3:V}:atI [x0,x1,x2,x3] 2=some x2:=rfl
theorem at3 {x0 x1 x2 x3:V}:atI [x0,x1,x2,x3] 3=some x3:=rfl
theorem at3_0 {x0 x1 x2:V}:atI [x0,x1,x2] 0=some x0:=rfl
theorem at3_1 {x0 x1 x2:V}:atI [x0,x1,x2] 1=some x1:=rfl
theorem at3_2 {x0 x1 x2:V}:atI [x0,x1,x2] 2=some x2:=rfl
theorem at_fst {x:V} {r:List V}:atI (x :: r) 0=some x:=Zcw (xs:=x :: r) (j:=0) (v:=x) rfl
def Zg5:Sp:=fun vs H Q _=>∃ i:Int,vs=[.int i]∧Q (.bl true) H
def Zg7:Sp:=fun vs H Q _=>∃ i:Int,vs=[.int i]∧1≤i∧i≤12∧Q (.bl true) H
def Zg6:Sp:=fun vs H Q _=>∃ w h:Int,vs=[.int w,.int h]∧1≤w∧w≤12∧1≤h∧h≤12∧∀ H',Same H H'→Q .non H'
def Zjn (K:PySem.W.Frag):Sp:=fun vs H Q _=>∃ (a:Addr) (ns:List Int) (k:Int),vs=[.ref a,.int k]∧SqL K H a (ns.map V.int)∧0≤k∧∀ z,Q (.int z) H
def Zjm:Sp:=fun vs H Q _=>∃ (c n m:Int),vs=[.int c,.int n,.int m]∧0≤n∧n≤1000∧0 < m∧∀ r,0≤r→r < m→Q (.int r) H
inductive En where
 | w (m:Option Int)
 | c (u:Bool) (k:Int)
def enV:En→List V
 | .w m=>[.str "whole",markV m]
 | .c u k=>[.str (wd u),.int k]
abbrev Rk:=GB.Rc
abbrev Rk.vs (p:Rk):List V:=[.int p.t,.int p.l,.int p.b,.int p.r]
def Rk.len (p:Rk) (u:Bool):Int:=if u then p.r - p.l else p.b - p.t
def Rk.fst (p:Rk) (u:Bool) (k:Int):Rk:=if u then ⟨p.t,p.l,p.b,p.l+k⟩ else ⟨p.t,p.l,p.t+k,p.r⟩
def Rk.oth (p:Rk) (u:Bool) (k:Int):Rk:=if u then ⟨p.t,p.l+k,p.b,p.r⟩ else ⟨p.t+k,p.l,p.b,p.r⟩
abbrev Want:=Int × Int × Bool
def WOk (t:Want):Prop:=1≤t.1∧t.1≤12∧1≤t.2.1∧t.2.1≤12
def waysOf (t:Want):List (Int × Int):=if t.2.2=true then [(t.1,t.2.1),(t.2.1,t.1)] else [(t.1,t.2.1)]
def TupL (H:Hp) (l:Addr) (zs:List (Int × Int)):Prop:=∃ ts:List (Addr × Int × Int),H l=some (.lst (refs ts))∧(∀ t∈ts,H t.1=some (.tup [.int t.2.1,.int t.2.2]))∧ts.map (·.2)=zs
theorem TupL.same {H H':Hp} {l:Addr} {zs:List (Int × Int)} (h:TupL H l zs) (s:Same H H'):TupL H' l zs :=
 let ⟨ts,a,b,c⟩:=h; ⟨ts,s _ _ a,fun t ht=>s _ _ (b t ht),c⟩
def heldW (t:Want) (w h:Int):List (Int × Int):=(waysOf t).filter fun z=>decide (z.1≤w) && decide (z.2≤h)
def Zji:Sp:=fun vs H Q _=>∃ (a:Addr) (t:Want),vs=[.ref a]∧H a=some (.tup [.int t.1,.int t.2.1,.bl t.2.2])∧∀ l H',Same H H'→H l=none→TupL H' l (waysOf t)→Q (.ref l) H'
def Ze2:Sp:=fun vs H Q _=>∃ (a:Addr) (t:Want) (w h:Int),vs=[.ref a,.int w,.int h]∧H a=some (.tup [.int t.1,.int t.2.1,.bl t.2.2])∧∀ l H',Same H H'→H l=none→TupL H' l (heldW t w h)→Q (.ref l) H'
def SOk (z:Int × Int):Prop:=1≤z.1∧z.1≤12∧1≤z.2∧z.2≤12
def Zg8:Sp:=fun vs H Q _=>∃ (a:Addr) (z:Int × Int),vs=[.ref a]∧H a=some (.tup [.int z.1,.int z.2])∧SOk z∧Q (.bl true) H
def Zea:Sp:=fun vs H Q _=>∃ (a:Addr) (ss:List (Int × Int)),vs=[.ref a]∧TupL H a ss∧1≤ss.length∧ss.length≤4∧(∀ z∈ss,SOk z)∧∀ H',Same H H'→Q .non H'
structure Txt (mg:Str→Option Value) (tk:Tok × Tok × Tok × Tok × Tok × Tok):Prop where
 z_isinstance:mg "isinstance"=none
 z_int:mg "int"=none
 z_bool:mg "bool"=none
 z_tuple:mg "tuple"=none
 z_len:mg "len"=none
 z_range:mg "range"=none
 z_sorted:mg "sorted"=none
 z_sum:mg "sum"=none
 z_min:mg "min"=none
 z_enumerate:mg "enumerate"=none
 z_list:mg "list"=none
 z_all:mg "all"=none
 z_reversed:mg "reversed"=none
 g_LONGEST_SIDE:mg "LONGEST_SIDE"=some (.int 12 tk.1)
 g_WHOLE:mg "WHOLE"=some (.str "whole" tk.2.1)
 g_UPRIGHT:mg "UPRIGHT"=some (.str "upright" tk.2.2.1)
 g_LEVEL:mg "LEVEL"=some (.str "level" tk.2.2.2.1)
 g_MOST_SHEETS:mg "MOST_SHEETS"=some (.int 4 tk.2.2.2.2.1)
 g_MOST_CUT:mg "MOST_CUT"=some (.int 60 tk.2.2.2.2.2)
section
variable {P:Program} {w:World} {K:PySem.W.Frag} {mg:Str→Option Value} {base:Heap} {tk:Tok × Tok × Tok × Tok × Tok × Tok} {cB cG cT cW cU cL:Addr}
theorem S_is_whole:Zan ["thing"] ["thing"] (Zab Zcn):=⟨rfl,rfl,rfl,by decide +kernel,rfl,by decide +kernel,by decide +kernel⟩
theorem Zj1 {f:Addr} {fd:FuncData} (F:Fun K "is_whole" "is_whole" Zcn f fd) (T:Txt mg tk):FnOk P w K mg base CX0 1 f fd ["thing"] Zg5:=by
 have S:=S_is_whole
 refine F.ok S (fun vs H Q E h=>?_) (fun cdv A outer s H vs Q E hr h=>?_)
 ·obtain ⟨i,rfl,_⟩:=h; rfl
 ·obtain ⟨i,rfl,q⟩:=h
  refine ⟨_,(Zah (Zat (Zfi (Zao Zbv rfl T.z_isinstance rfl (Zaa (pv 0) (Zaa (Zc1 (v:=.ty "int") rfl T.z_int rfl rfl) Zac))) (Zfg (Zk9 (Zao Zbv rfl T.z_isinstance rfl (Zaa (pv 0) (Zaa (Zc1 (v:=.ty "bool") rfl T.z_bool rfl rfl) Zac)))))))),?_⟩
  refine ⟨_,rfl,.int i,"int","int",rfl,rfl,.inl rfl,_,rfl,ite3 (fun h=>?_) (fun h=>absurd h (by decide))⟩
  refine ⟨_,rfl,.int i,"int","bool",rfl,rfl,.inr (.inl rfl),_,rfl,?_⟩
  have e:(!isB "int" "bool")=true:=by decide
  rw [e]
  exact q
theorem S_is_side:Zan ["thing"] ["thing"] (Zab Zc5):=⟨rfl,rfl,rfl,by decide +kernel,rfl,by decide +kernel,by decide +kernel⟩
theorem ok_is_side {f:Addr} {fd:FuncData} (F:Fun K "is_side" "is_side" Zc5 f fd) (T:Txt mg tk) (D_is_whole:DefOk P w K mg base 1 "is_whole" ["thing"] Zg5):FnOk P w K mg base CX0 2 f fd ["thing"] Zg7:=by
 have S:=S_is_side
 refine F.ok S (fun vs H Q E h=>?_) (fun cdv A outer s H vs Q E hr h=>?_)
 ·obtain ⟨i,rfl,_⟩:=h; rfl
 ·obtain ⟨i,rfl,i1,i2,q⟩:=h
  refine ⟨_,(Zah (Zat (Zfi (Za2 D_is_whole hr (Zaa (pv 0) Zac)) (Zfg (pe_chain op_le op_le Zaf (pv 0) (Za3 (v:=.int 12) rfl T.g_LONGEST_SIDE ⟨_,rfl⟩)))))),?_⟩
  refine ⟨_,rfl,i,rfl,_,rfl,iteT ⟨_,rfl,_,_,rfl,rfl,_,rfl,ite3 (fun h=>?_) (fun h=>absurd i1 (of_decide_eq_false h))⟩⟩
  refine ⟨_,_,rfl,rfl,?_⟩
  show Q (.bl (decide (i≤12))) H
  rw [decide_eq_true i2]
  exact q
theorem Zh5:Zan ["width","height","side"] ["width","height"] (Zab Zbr):=⟨rfl,rfl,rfl,by decide +kernel,rfl,by decide +kernel,by decide +kernel⟩
theorem Zf9 {f:Addr} {fd:FuncData} (F:Fun K "check_sides" "check_sides" Zbr f fd) (D_is_side:DefOk P w K mg base 2 "is_side" ["thing"] Zg7):FnOk P w K mg base CX0 3 f fd ["width","height"] Zg6:=by
 have S:=Zh5
 refine F.ok S (fun vs H Q E h=>?_) (fun cdv A outer s H vs Q E hr h=>?_)
 ·obtain ⟨w,h,rfl,_⟩:=h; rfl
 ·obtain ⟨w,h,rfl,w1,w2,h1,h2,q⟩:=h
  refine ⟨_,(Zah (Zdy PassesOwn.never rfl (pi_tup (Zas (Zaa (pv 0) (Zaa (pv 1) Zac)))) (Zap (i:=2) S.nd rfl (Or.inl rfl)) (Zah (Zbm (Zck (Zb7 (Za2 D_is_side hr (Zaa (pv 2) Zac)))) (Zah Zhd) Zaw)))),?_⟩
  refine ⟨_,rfl,_,rfl,lenOk 2,fun t nt=>⟨t,rfl,⟨_,SqT.of upd_same⟩,for_tup (K:=K) (a:=t) (xs:=[.int w,.int h]) (fun i σ H'=>(∃ y,σ=[some (.int w),some (.int h),y])∧H'=upd H t (.tup [.int w,.int h])) ⟨⟨none,rfl⟩,rfl⟩ (fun i σ H' _ hp=>by rw [hp.2]; exact SqT.of upd_same) ?_ ?_⟩⟩
  ·rintro i x σ H' hx ⟨⟨y,rfl⟩,rfl⟩
   obtain ⟨z,rfl,z1,z2⟩:∃ z:Int,x=.int z∧1≤z∧z≤12:=by
    match i,hx with
    | 0,hx=>cases hx; exact ⟨_,rfl,w1,w2⟩
    | 1,hx=>cases hx; exact ⟨_,rfl,h1,h2⟩
    | i+2,hx=>cases hx
   exact ⟨_,rfl,z,rfl,z1,z2,_,rfl,iteF ⟨⟨_,rfl⟩,rfl⟩⟩
  ·rintro σ H' ⟨_,rfl⟩
   exact q _ (Same.new nt)
theorem fn_none {f:Addr} {fd:FuncData} {x qual:Str} {st:Stmt} {N ps:List Str} {k:Nat} {sp:Sp} (F:Fun K x qual st f fd) (S:Zan N ps (Zab st)) (h:∀ vs H Q E,¬ sp vs H Q E):FnOk P w K mg base CX0 (k+1) f fd ps sp :=
 F.ok S (fun vs H Q E z=>absurd z (h vs H Q E)) (fun cdv A outer s H vs Q E hr z=>absurd z (h vs H Q E))
theorem S_law_cell:Zan ["_law_script","_law_k"] ["_law_script","_law_k"] (Zab Zce):=⟨rfl,rfl,rfl,by decide +kernel,rfl,by decide +kernel,by decide +kernel⟩
theorem Zj0 {f:Addr} {fd:FuncData} (F:Fun K "_law_cell" "_law_cell" Zce f fd) (T:Txt mg tk):FnOk P w K mg base CX0 1 f fd ["_law_script","_law_k"] (Zjn K):=by
 have S:=S_law_cell
 refine F.ok S (fun vs H Q E h=>?_) (fun cdv A outer s H vs Q E hr h=>?_)
 ·obtain ⟨a,ns,k,rfl,_⟩:=h; rfl
 ·obtain ⟨a,ns,k,rfl,hS,k0,q⟩:=h
  refine ⟨_,(Zae (Zbm (Zau op_lt (pv 1) (Zao Za1 rfl T.z_len rfl (Zaa (pv 0) Zac)) (nomark _)) (Zah (Zat (Zam Za8 (pv 0) (pv 1) (fun _ _=>rfl)))) Zaw)
   (Zah (Zat Zaf))),?_⟩
  refine ⟨_,rfl,_,rfl,a,_,rfl,.inl hS,_,_,rfl,rfl,_,rfl,ite3 (fun c=>?_) (fun c=>q 0)⟩
  have c:=of_decide_eq_true c
  rw [List.length_map] at c
  obtain ⟨z,hz⟩:=at_ints k0 c
  exact ⟨_,rfl,_,rfl,a,_,_,_,rfl,rfl,hS,hz,q _⟩
theorem S_law_draw:Zan ["_law_cell_here","_law_nth","_law_many","_law_number"] ["_law_cell_here","_law_nth","_law_many"] (Zab Zcd):=⟨rfl,rfl,rfl,by decide +kernel,rfl,by decide +kernel,by decide +kernel⟩
theorem Zjz {f:Addr} {fd:FuncData} (F:Fun K "_law_draw" "_law_draw" Zcd f fd):FnOk P w K mg base CX0 1 f fd ["_law_cell_here","_law_nth","_law_many"] Zjm:=by
 have S:=S_law_draw
 refine F.ok S (fun vs H Q E h=>?_) (fun cdv A outer s H vs Q E hr h=>?_)
 ·obtain ⟨c,n,m,rfl,_⟩:=h; rfl
 ·obtain ⟨c,n,m,rfl,n0,n1,m0,q⟩:=h
  refine ⟨_,(Zae (Zav (i:=3) S.nd rfl (Or.inl rfl) (Za7 Zde (Za7 Zc2 (Za7 Zcs (Za7 Zcs (Za7 Zde (pv 0) Zaf) Zaf) (Za7 Zc2 (pv 1) (pv 1))) Zaf) Zaf))
   (Zah (Zat (Za7 Zde (Za7 Zcs (Za7 Ze7 (pv 3) Zaf) (Za7 Zc2 (Za7 Zde (pv 3) Zaf) (pv 1))) (pv 2))))),?_⟩
  have a:=Int.emod_nonneg c (b:=899809363) (by decide)
  have b:=Int.emod_lt_of_pos c (b:=899809363) (by decide)
  have nn:0≤n * n∧n * n≤1000000:=⟨Int.mul_nonneg n0 n0,Int.le_trans (Int.mul_le_mul n1 n1 n0 (by decide)) (by decide)⟩
  refine ⟨_,rfl,_,_,rfl,rfl,(show (0:Int) < 899809363 from by decide),_,_,rfl,rfl,_,rfl,_,rfl,_,_,rfl,rfl,mul64 (by lia) (by lia) (by lia) (by lia),_,_,rfl,rfl,_,_,rfl,rfl,mul64 (by lia) (by lia) (by decide) (by decide),_,_,rfl,rfl,(show (0:Int) < 899809363 from by decide),?_⟩
  have g0:=Int.emod_nonneg ((c % 899809363+3+n * n) * 60919 % 899809363) (b:=1013) (by decide)
  have g1:=Int.emod_lt_of_pos ((c % 899809363+3+n * n) * 60919 % 899809363) (b:=1013) (by decide)
  exact ⟨_,rfl,_,_,rfl,rfl,divL _ (by decide) (by decide),_,rfl,_,_,rfl,rfl,(show (0:Int) < 1013 from by decide),_,rfl,_,_,rfl,rfl,mul64 (by lia) (by lia) (by lia) (by lia),_,_,rfl,rfl,_,rfl,_,_,rfl,rfl,m0,q _ (Int.emod_nonneg _ (by lia)) (Int.emod_lt_of_pos _ m0)⟩
def Zk3:Sp:=fun vs H Q _=>∃ (a:Addr) (p:Rk) (u:Bool) (k:Int),vs=[.ref a,.str (wd u),.int k]∧H a=some (.tup p.vs)∧∀ x,H x=none→Q (.ref x) (upd H x (.tup (p.fst u k).vs))
def Zk1:Sp:=fun vs H Q _=>∃ (a:Addr) (p:Rk) (u:Bool) (k:Int),vs=[.ref a,.str (wd u),.int k]∧H a=some (.tup p.vs)∧∀ x,H x=none→Q (.ref x) (upd H x (.tup (p.oth u k).vs))
theorem Zh4:Zan ["piece","word","at"] ["piece","word","at"] (Zab Zbq):=⟨rfl,rfl,rfl,by decide +kernel,rfl,by decide +kernel,by decide +kernel⟩
theorem Zf8 {f:Addr} {fd:FuncData} (F:Fun K "first_piece" "first_piece" Zbq f fd) (T:Txt mg tk):FnOk P w K mg base CX0 1 f fd ["piece","word","at"] Zk3:=by
 have S:=Zh4
 refine F.ok S (fun vs H Q E h=>?_) (fun cdv A outer s H vs Q E hr h=>?_)
 ·obtain ⟨a,p,u,k,rfl,_⟩:=h; rfl
 ·obtain ⟨a,p,u,k,rfl,ha,q⟩:=h
  refine ⟨_,(Zae (Zbm (Zau Zfj (pv 1) (Za3 (v:=.str "upright") rfl T.g_UPRIGHT ⟨_,rfl⟩) (nomark _)) (Zah (Zat (Zas (Zaa (Zam Zaj (pv 0) Zaf (fun _ _=>rfl)) (Zaa (Zam Zaj (pv 0) Zaf (fun _ _=>rfl)) (Zaa (Zam Zaj (pv 0) Zaf (fun _ _=>rfl)) (Zaa (Za7 Zcs (Zam Zaj (pv 0) Zaf (fun _ _=>rfl)) (pv 2)) Zac))))))) Zaw)
   (Zah (Zat (Zas (Zaa (Zam Zaj (pv 0) Zaf (fun _ _=>rfl)) (Zaa (Zam Zaj (pv 0) Zaf (fun _ _=>rfl)) (Zaa (Za7 Zcs (Zam Zaj (pv 0) Zaf (fun _ _=>rfl)) (pv 2)) (Zaa (Zam Zaj (pv 0) Zaf (fun _ _=>rfl)) Zac)))))))),?_⟩
  cases u with
  | true=>exact ⟨_,rfl,rfl,_,rfl,iteP (Zgi true true) ⟨_,rfl,a,_,_,_,rfl,rfl,SqT.of ha,at0,_,rfl,a,_,_,_,rfl,rfl,SqT.of ha,at1,_,rfl,a,_,_,_,rfl,rfl,SqT.of ha,at2,_,rfl,a,_,_,_,rfl,rfl,SqT.of ha,at1,_,rfl,_,_,rfl,rfl,lenOk 4,q⟩⟩
  | false=>exact ⟨_,rfl,rfl,_,rfl,iteN (Zgi false true) ⟨_,rfl,a,_,_,_,rfl,rfl,SqT.of ha,at0,_,rfl,a,_,_,_,rfl,rfl,SqT.of ha,at1,_,rfl,a,_,_,_,rfl,rfl,SqT.of ha,at0,_,rfl,_,_,rfl,rfl,_,rfl,a,_,_,_,rfl,rfl,SqT.of ha,at3,lenOk 4,q⟩⟩
theorem Zh3:Zan ["piece","word","at"] ["piece","word","at"] (Zab Zbp):=⟨rfl,rfl,rfl,by decide +kernel,rfl,by decide +kernel,by decide +kernel⟩
theorem Zf7 {f:Addr} {fd:FuncData} (F:Fun K "other_piece" "other_piece" Zbp f fd) (T:Txt mg tk):FnOk P w K mg base CX0 1 f fd ["piece","word","at"] Zk1:=by
 have S:=Zh3
 refine F.ok S (fun vs H Q E h=>?_) (fun cdv A outer s H vs Q E hr h=>?_)
 ·obtain ⟨a,p,u,k,rfl,_⟩:=h; rfl
 ·obtain ⟨a,p,u,k,rfl,ha,q⟩:=h
  refine ⟨_,(Zae (Zbm (Zau Zfj (pv 1) (Za3 (v:=.str "upright") rfl T.g_UPRIGHT ⟨_,rfl⟩) (nomark _)) (Zah (Zat (Zas (Zaa (Zam Zaj (pv 0) Zaf (fun _ _=>rfl)) (Zaa (Za7 Zcs (Zam Zaj (pv 0) Zaf (fun _ _=>rfl)) (pv 2)) (Zaa (Zam Zaj (pv 0) Zaf (fun _ _=>rfl)) (Zaa (Zam Zaj (pv 0) Zaf (fun _ _=>rfl)) Zac))))))) Zaw)
   (Zah (Zat (Zas (Zaa (Za7 Zcs (Zam Zaj (pv 0) Zaf (fun _ _=>rfl)) (pv 2)) (Zaa (Zam Zaj (pv 0) Zaf (fun _ _=>rfl)) (Zaa (Zam Zaj (pv 0) Zaf (fun _ _=>rfl)) (Zaa (Zam Zaj (pv 0) Zaf (fun _ _=>rfl)) Zac)))))))),?_⟩
  cases u with
  | true=>exact ⟨_,rfl,rfl,_,rfl,iteP (Zgi true true) ⟨_,rfl,a,_,_,_,rfl,rfl,SqT.of ha,at0,_,rfl,a,_,_,_,rfl,rfl,SqT.of ha,at1,_,rfl,_,_,rfl,rfl,_,rfl,a,_,_,_,rfl,rfl,SqT.of ha,at2,_,rfl,a,_,_,_,rfl,rfl,SqT.of ha,at3,lenOk 4,q⟩⟩
  | false=>exact ⟨_,rfl,rfl,_,rfl,iteN (Zgi false true) ⟨_,rfl,a,_,_,_,rfl,rfl,SqT.of ha,at0,_,rfl,_,_,rfl,rfl,_,rfl,a,_,_,_,rfl,rfl,SqT.of ha,at1,_,rfl,a,_,_,_,rfl,rfl,SqT.of ha,at2,_,rfl,a,_,_,_,rfl,rfl,SqT.of ha,at3,lenOk 4,q⟩⟩
theorem Zh2:Zan ["want"] ["want"] (Zab Zbo):=⟨rfl,rfl,rfl,by decide +kernel,rfl,by decide +kernel,by decide +kernel⟩
theorem Zf6 {f:Addr} {fd:FuncData} (F:Fun K "ways_to_lie" "ways_to_lie" Zbo f fd):FnOk P w K mg base CX0 1 f fd ["want"] Zji:=by
 have S:=Zh2
 refine F.ok S (fun vs H Q E h=>?_) (fun cdv A outer s H vs Q E hr h=>?_)
 ·obtain ⟨a,t,rfl,_⟩:=h; rfl
 ·obtain ⟨a,t,rfl,ha,q⟩:=h
  refine ⟨_,(Zae (Zbm (Zdx (Zam Zaj (pv 0) Zaf (fun _ _=>rfl)) (fun _=>rfl)) (Zah (Zat (Zcy (Zaa (Zas (Zaa (Zam Zaj (pv 0) Zaf (fun _ _=>rfl)) (Zaa (Zam Zaj (pv 0) Zaf (fun _ _=>rfl)) Zac))) (Zaa (Zas (Zaa (Zam Zaj (pv 0) Zaf (fun _ _=>rfl)) (Zaa (Zam Zaj (pv 0) Zaf (fun _ _=>rfl)) Zac))) Zac))))) Zaw)
   (Zah (Zat (Zcy (Zaa (Zas (Zaa (Zam Zaj (pv 0) Zaf (fun _ _=>rfl)) (Zaa (Zam Zaj (pv 0) Zaf (fun _ _=>rfl)) Zac))) Zac))))),?_⟩
  refine ⟨_,rfl,a,_,_,_,rfl,rfl,SqT.of ha,at3_2,_,rfl,ite3 (fun h=>?_) (fun h=>?_)⟩
  ·refine ⟨_,rfl,a,_,_,_,rfl,rfl,SqT.of ha,at3_0,_,rfl,a,_,_,_,rfl,rfl,SqT.of ha,at3_1,lenOk 2,fun p hp=>?_⟩
   have s1:Same H (upd H p (.tup [.int t.1,.int t.2.1])):=Same.new hp
   refine ⟨_,rfl,a,_,_,_,rfl,rfl,SqT.of (s1 _ _ ha),at3_1,_,rfl,a,_,_,_,rfl,rfl,SqT.of (s1 _ _ ha),at3_0,lenOk 2,fun p' hp'=>⟨lenOk 2,fun l hl=>?_⟩⟩
   have s2:Same (upd H p (.tup [.int t.1,.int t.2.1])) (upd (upd H p (.tup [.int t.1,.int t.2.1])) p' (.tup [.int t.2.1,.int t.1])):=Same.new hp'
   have s3:Same (upd (upd H p (.tup [.int t.1,.int t.2.1])) p' (.tup [.int t.2.1,.int t.1])) (upd (upd (upd H p (.tup [.int t.1,.int t.2.1])) p' (.tup [.int t.2.1,.int t.1])) l (.lst [.ref p,.ref p'])):=Same.new hl
   refine q l _ (s1.trans (s2.trans s3)) (Zc0 (s1.trans s2) hl) ⟨[(p,t.1,t.2.1),(p',t.2.1,t.1)],upd_same,fun u hu=>?_,?_⟩
   ·simp only [List.mem_cons,List.not_mem_nil,or_false] at hu
    rcases hu with rfl | rfl
    ·exact s3 _ _ (s2 _ _ upd_same)
    ·exact s3 _ _ upd_same
   ·unfold waysOf; rw [if_pos h]; rfl
  ·refine ⟨_,rfl,a,_,_,_,rfl,rfl,SqT.of ha,at3_0,_,rfl,a,_,_,_,rfl,rfl,SqT.of ha,at3_1,lenOk 2,fun p hp=>⟨lenOk 1,fun l hl=>?_⟩⟩
   have s1:Same H (upd H p (.tup [.int t.1,.int t.2.1])):=Same.new hp
   have s3:Same (upd H p (.tup [.int t.1,.int t.2.1])) (upd (upd H p (.tup [.int t.1,.int t.2.1])) l (.lst [.ref p])):=Same.new hl
   refine q l _ (s1.trans s3) (Zc0 s1 hl) ⟨[(p,t.1,t.2.1)],upd_same,fun u hu=>?_,?_⟩
   ·rw [List.mem_singleton.mp hu]
    exact s3 _ _ upd_same
   ·unfold waysOf; rw [if_neg (by rw [h]; exact Bool.false_ne_true)]; rfl
theorem Zkl:Zan ["want","width","height"] ["want","width","height"] (Zab Zca):=⟨rfl,rfl,rfl,by decide +kernel,rfl,by decide +kernel,by decide +kernel⟩
theorem waysOf_len (t:Want):(waysOf t).length≤2:=by unfold waysOf; split <;> simp
theorem Zii {f:Addr} {fd:FuncData} (F:Fun K "ways_held" "ways_held" Zca f fd) (D_ways_to_lie:DefOk P w K mg base 1 "ways_to_lie" ["want"] Zji):FnOk P w K mg base CX0 2 f fd ["want","width","height"] Ze2:=by
 have S:=Zkl
 refine F.ok S (fun vs H Q E h=>?_) (fun cdv A outer s H vs Q E hr h=>?_)
 ·obtain ⟨a,t,w,h,rfl,_⟩:=h; rfl
 ·obtain ⟨a,t,ww,hh,rfl,ha,q⟩:=h
  refine ⟨_,(Zah (Zat (Ze6 rfl (Zda (Za2 D_ways_to_lie hr (Zaa (pv 0) Zac))) (fun _ _ _ _ _=>(Zap (i:=0) (show List.Nodup (["size","width","height"]:List Str) from by decide +kernel) rfl (Or.inl rfl))) (fun _ _ _ _ _=>(PW.pt (Zfd (Zau op_le (Zam (Zhn (K:=K)) (pv 0) Zaf (fun _ _=>rfl)) (pv 1) (nomark _)) (Zee (Zau op_le (Zam (Zhn (K:=K)) (pv 0) Zaf (fun _ _=>rfl)) (pv 2) (nomark _)))))) (fun _ _ _ _ _=>(pv 0)) (N:=["size","width","height"]) (fr:=[none,some 1,some 2])))),?_⟩
  refine ⟨_,rfl,a,t,rfl,ha,fun l H1 s1 nl hl=>?_⟩
  obtain ⟨us,e1,e2,e3⟩:=hl
  have ul:us.length=(waysOf t).length:=by rw [← e3,List.length_map]
  have sz:(refs us).length≤sizeLine:=Nat.le_of_lt (Zaq (by rw [Zal]; have:=waysOf_len t; lia))
  refine ⟨l,rfl,⟨_,SqL.of e1⟩,fun acc na=>Zdl (K:=K) (a:=l) (ys:=refs us) (fun i zs σ H'=>(∃ x,σ=[x,some (.int ww),some (.int hh)])∧Same H1 H'∧∃ vs:List (Addr × Int × Int),zs=refs vs∧(∀ v∈vs,v∈us)∧vs.map (·.2)=((waysOf t).take i).filter fun z=>decide (z.1≤ww) && decide (z.2≤hh))
   ⟨⟨none,rfl⟩,Same.new na,[],rfl,(fun v hv=>nomatch hv),rfl⟩ (fun i zs σ H' _ _ hp=>SqL.of (hp.2.1 _ _ e1)) ?_ ?_⟩
  ·rintro i x zs σ H2 hx hi hl' ha' ⟨⟨x0,rfl⟩,s2,vs,rfl,hvs,hm⟩
   obtain ⟨v,hv,rfl⟩:=Zbt hx
   have hv2:=s2 _ _ (e2 v (List.mem_of_getElem? hv))
   have tk1:(waysOf t).take (i+1)=(waysOf t).take i++[v.2]:=by rw [← e3,List.take_succ,List.getElem?_map,hv]; rfl
   refine ⟨_,rfl,v.1,_,_,_,rfl,rfl,SqT.of hv2,Zch,_,rfl,_,_,rfl,rfl,_,rfl,ite3 (fun c1=>?_) (fun c1=>?_)⟩
   ·refine ⟨_,rfl,v.1,_,_,_,rfl,rfl,SqT.of hv2,Zcj,_,rfl,_,_,rfl,rfl,?_⟩
    cases c2:decide (v.2.2≤hh) with
    | true =>
     refine ⟨true,congrArg V.bl c2,_,rfl,fNx.mk sz hi hl' ha' ⟨⟨_,rfl⟩,fun d o e=>by rw [Zag (Zad e na)]; exact s2 d o e,vs++[v],by rw [refs,refs,List.map_append]; rfl,fun u hu=>?_,?_⟩⟩
     ·rcases List.mem_append.mp hu with hu | hu
      ·exact hvs u hu
      ·rw [List.mem_singleton.mp hu]; exact List.mem_of_getElem? hv
     ·rw [tk1,List.filter_append,List.filter_cons,if_pos (by rw [c1,c2]; rfl),List.map_append,hm]; rfl
    | false =>
     refine ⟨false,congrArg V.bl c2,fSk.mk hi hl' ha' ⟨⟨_,rfl⟩,s2,vs,rfl,hvs,?_⟩⟩
     rw [tk1,List.filter_append,List.filter_cons,if_neg (by rw [c2,Bool.and_false]; exact Bool.false_ne_true),hm]
     simp
   ·refine fSk.mk hi hl' ha' ⟨⟨_,rfl⟩,s2,vs,rfl,hvs,?_⟩
    rw [tk1,List.filter_append,List.filter_cons,if_neg (by rw [c1,Bool.false_and]; exact Bool.false_ne_true),hm]
    simp
  ·rintro zs σ H2 hl' ha' ⟨_,s2,vs,rfl,hvs,hm⟩
   rw [Zal,ul,List.take_length] at hm
   exact q acc H2 (s1.trans s2) (Zc0 s1 na) ⟨vs,ha',fun v hv=>s2 _ _ (e2 v (hvs v hv)),hm⟩
theorem S_is_sheet:Zan ["thing"] ["thing"] (Zab Zco):=⟨rfl,rfl,rfl,by decide +kernel,rfl,by decide +kernel,by decide +kernel⟩
theorem Zj2 {f:Addr} {fd:FuncData} (F:Fun K "is_sheet" "is_sheet" Zco f fd) (T:Txt mg tk) (D_is_side:DefOk P w K mg base 2 "is_side" ["thing"] Zg7):FnOk P w K mg base CX0 3 f fd ["thing"] Zg8:=by
 have S:=S_is_sheet
 refine F.ok S (fun vs H Q E h=>?_) (fun cdv A outer s H vs Q E hr h=>?_)
 ·obtain ⟨a,z,rfl,_⟩:=h; rfl
 ·obtain ⟨a,z,rfl,ha,⟨w1,w2,h1,h2⟩,q⟩:=h
  refine ⟨_,(Zae (Zbm (PW.pt (Zfc (Zck (Zb7 (Zao Zbv rfl T.z_isinstance rfl (Zaa (pv 0) (Zaa (Zc1 (v:=.ty "tuple") rfl T.z_tuple rfl rfl) Zac))))) (Zer (Zau op_ne (Zao Za1 rfl T.z_len rfl (Zaa (pv 0) Zac)) Zaf (nomark _))))) (Zah (Zat Zjv)) Zaw)
   (Zah (Zat (Zfi (Za2 D_is_side hr (Zaa (Zam Zaj (pv 0) Zaf (fun _ _=>rfl)) Zac)) (Zfg (Za2 D_is_side hr (Zaa (Zam Zaj (pv 0) Zaf (fun _ _=>rfl)) Zac))))))),?_⟩
  refine ⟨_,rfl,.ref a,"tuple","tuple",rfl,Zkx ha,.inr (.inr (.inl rfl)),_,rfl,ite3 (fun z=>absurd z (by decide)) (fun _=>?_)⟩
  refine ⟨_,rfl,a,_,rfl,.inr (SqT.of ha),rfl,_,rfl,iteN (show (!decide (V.int ((2:Nat):Int)=V.int 2))=false from by decide) ?_⟩
  exact ⟨_,rfl,a,_,_,_,rfl,rfl,SqT.of ha,Zch,z.1,rfl,w1,w2,_,rfl,iteT ⟨_,rfl,a,_,_,_,rfl,rfl,SqT.of ha,Zcj,z.2,rfl,h1,h2,q⟩⟩
theorem Zgd:Zan ["sheets","place","sheet"] ["sheets"] (Zab Zbe):=⟨rfl,rfl,rfl,by decide +kernel,rfl,by decide +kernel,by decide +kernel⟩
theorem Zfk {f:Addr} {fd:FuncData} (F:Fun K "check_sheets" "check_sheets" Zbe f fd) (T:Txt mg tk) (D_is_sheet:DefOk P w K mg base 3 "is_sheet" ["thing"] Zg8):FnOk P w K mg base CX0 4 f fd ["sheets"] Zea:=by
 have S:=Zgd
 refine F.ok S (fun vs H Q E h=>?_) (fun cdv A outer s H vs Q E hr h=>?_)
 ·obtain ⟨a,ss,rfl,_⟩:=h; rfl
 ·obtain ⟨a,ss,rfl,⟨ts,ha,ht,rfl⟩,l1,l2,so,q⟩:=h
  rw [List.length_map] at l1 l2
  refine ⟨_,(Zae (Zbm (Zck (pt_chain op_le op_le Zaf (Zao Za1 rfl T.z_len rfl (Zaa (pv 0) Zac)) (Za3 (v:=.int 4) rfl T.g_MOST_SHEETS ⟨_,rfl⟩))) (Zah Zhd) Zaw)
   (Zah (Zdy PassesOwn.never rfl (Zju rfl T.z_enumerate (Zaa (pv 0) Zac)) (Zff rfl (Zar (Zap (i:=1) S.nd rfl (Or.inl rfl)) (Zar (Zap (i:=2) S.nd rfl (Or.inl rfl)) Zbx))) (Zah (Zbm (Zck (Zb7 (Za2 D_is_sheet hr (Zaa (pv 2) Zac)))) (Zah Zhd) Zaw))))),?_⟩
  refine ⟨_,rfl,a,_,rfl,.inl (SqL.of ha),_,_,rfl,rfl,_,rfl,ite3 (fun _=>?_) (fun z=>absurd (of_decide_eq_false z) (by rw [Zal]; lia))⟩
  refine ⟨_,_,rfl,rfl,_,rfl,iteN (show (!decide (((refs ts).length:Int)≤4))=false from by rw [decide_eq_true (by rw [Zal]; lia)]; rfl) ?_⟩
  refine ⟨_,rfl,a,rfl,⟨_,SqL.of ha⟩,for_enum (K:=K) (a:=a) (xs:=refs ts) (fun i σ H'=>(∃ x y,σ=[some (.ref a),x,y])∧Same H H') ⟨⟨none,none,rfl⟩,Same.refl H⟩ (fun i σ H' _ hp=>SqL.of (hp.2 _ _ ha)) ?_ ?_⟩
  ·rintro i x σ H1 t hx ⟨⟨x0,y0,rfl⟩,s1⟩ nt
   obtain ⟨u,hu,rfl⟩:=Zbt hx
   have hm:=List.mem_of_getElem? hu
   have s2:Same H1 (upd H1 t (.tup [.int i,.ref u.1])):=Same.new nt
   refine ⟨t,_,rfl,SqT.of upd_same,rfl,_,_,rfl,_,_,rfl,rfl,_,rfl,u.1,u.2,rfl,s2 _ _ (s1 _ _ (ht u hm)),so _ (List.mem_map.mpr ⟨u,hm,rfl⟩),_,rfl,iteF ⟨⟨_,_,rfl⟩,s1.trans s2⟩⟩
  ·rintro σ H1 ⟨_,s1⟩
   exact q H1 s1
def Ze3:Sp:=fun vs H Q _=>∃ (a:Addr) (p:Rk),vs=[.ref a]∧H a=some (.tup p.vs)∧∀ c,H c=none→Q (.ref c) (upd H c (.tup [.int (p.len true),.int (p.len false)]))
theorem S_size_of:Zan ["rectangle"] ["rectangle"] (Zab Zc4):=⟨rfl,rfl,rfl,by decide +kernel,rfl,by decide +kernel,by decide +kernel⟩
theorem ok_size_of {f:Addr} {fd:FuncData} (F:Fun K "size_of" "size_of" Zc4 f fd):FnOk P w K mg base CX0 1 f fd ["rectangle"] Ze3:=by
 have S:=S_size_of
 refine F.ok S (fun vs H Q E h=>?_) (fun cdv A outer s H vs Q E hr h=>?_)
 ·obtain ⟨a,p,rfl,_⟩:=h; rfl
 ·obtain ⟨a,p,rfl,ha,q⟩:=h
  refine ⟨_,(Zah (Zat (Zas (Zaa (Za7 Zgo (Zam Zaj (pv 0) Zaf (fun _ _=>rfl)) (Zam Zaj (pv 0) Zaf (fun _ _=>rfl))) (Zaa (Za7 Zgo (Zam Zaj (pv 0) Zaf (fun _ _=>rfl)) (Zam Zaj (pv 0) Zaf (fun _ _=>rfl))) Zac))))),?_⟩
  exact ⟨_,rfl,a,_,_,_,rfl,rfl,SqT.of ha,at3,_,rfl,a,_,_,_,rfl,rfl,SqT.of ha,at1,_,_,rfl,rfl,_,rfl,a,_,_,_,rfl,rfl,SqT.of ha,at2,_,rfl,a,_,_,_,rfl,rfl,SqT.of ha,at0,_,_,rfl,rfl,lenOk 2,fun c hc=>q c hc⟩
def PcOk (p:Rk):Prop:=0≤p.t∧p.t < p.b∧p.b≤12∧0≤p.l∧p.l < p.r∧p.r≤12
def arR (p:Rk):Int:=p.len false * p.len true
def Ze5:Sp:=fun vs H Q _=>∃ (a:Addr) (p:Rk),vs=[.ref a]∧H a=some (.tup p.vs)∧PcOk p∧Q (.int (arR p)) H
theorem S_area_of:Zan ["rectangle"] ["rectangle"] (Zab Zc6):=⟨rfl,rfl,rfl,by decide +kernel,rfl,by decide +kernel,by decide +kernel⟩
theorem ok_area_of {f:Addr} {fd:FuncData} (F:Fun K "area_of" "area_of" Zc6 f fd):FnOk P w K mg base CX0 1 f fd ["rectangle"] Ze5:=by
 have S:=S_area_of
 refine F.ok S (fun vs H Q E h=>?_) (fun cdv A outer s H vs Q E hr h=>?_)
 ·obtain ⟨a,p,rfl,_⟩:=h; rfl
 ·obtain ⟨a,p,rfl,ha,⟨p1,p2,p3,p4,p5,p6⟩,q⟩:=h
  refine ⟨_,(Zah (Zat (Za7 Zc2 (Za7 Zgo (Zam Zaj (pv 0) Zaf (fun _ _=>rfl)) (Zam Zaj (pv 0) Zaf (fun _ _=>rfl))) (Za7 Zgo (Zam Zaj (pv 0) Zaf (fun _ _=>rfl)) (Zam Zaj (pv 0) Zaf (fun _ _=>rfl)))))),?_⟩
  exact ⟨_,rfl,a,_,_,_,rfl,rfl,SqT.of ha,at2,_,rfl,a,_,_,_,rfl,rfl,SqT.of ha,at0,_,_,rfl,rfl,_,rfl,a,_,_,_,rfl,rfl,SqT.of ha,at3,_,rfl,a,_,_,_,rfl,rfl,SqT.of ha,at1,_,_,rfl,rfl,_,_,rfl,rfl,mul64 (by lia) (by lia) (by lia) (by lia),q⟩
theorem TupL.len {H:Hp} {l:Addr} {zs:List (Int × Int)} (h:TupL H l zs):∃ xs,H l=some (.lst xs)∧xs.length=zs.length:=by
 obtain ⟨ts,a,_,rfl⟩:=h
 exact ⟨_,a,by rw [Zal,List.length_map]⟩
def Zg9:Sp:=fun vs H Q _=>∃ (a c:Addr) (p:Rk) (t:Want),vs=[.ref a,.ref c]∧H a=some (.tup p.vs)∧H c=some (.tup [.int t.1,.int t.2.1,.bl t.2.2])∧∀ H',Same H H'→Q (.bl (decide (heldW t (p.len true) (p.len false)≠[]))) H'
theorem S_holds:Zan ["piece","want","size"] ["piece","want"] (Zab Zed):=⟨rfl,rfl,rfl,by decide +kernel,rfl,by decide +kernel,by decide +kernel⟩
theorem ok_holds {f:Addr} {fd:FuncData} (F:Fun K "holds" "holds" Zed f fd) (T:Txt mg tk) (D_size_of:DefOk P w K mg base 1 "size_of" ["rectangle"] Ze3) (D_ways_held:DefOk P w K mg base 2 "ways_held" ["want","width","height"] Ze2):FnOk P w K mg base CX0 3 f fd ["piece","want"] Zg9:=by
 have S:=S_holds
 refine F.ok S (fun vs H Q E h=>?_) (fun cdv A outer s H vs Q E hr h=>?_)
 ·obtain ⟨a,c,p,t,rfl,_⟩:=h; rfl
 ·obtain ⟨a,c,p,t,rfl,ha,hc,q⟩:=h
  refine ⟨_,(Zae (Zav (i:=2) S.nd rfl (Or.inl rfl) (Za2 D_size_of hr (Zaa (pv 0) Zac)))
   (Zah (Zat (Zfh op_gt (Zao Za1 rfl T.z_len rfl (Zaa (Za2 D_ways_held hr (Zaa (pv 1) (Zaa (Zam Zaj (pv 2) Zaf (fun _ _=>rfl)) (Zaa (Zam Zaj (pv 2) Zaf (fun _ _=>rfl)) Zac)))) Zac)) Zaf (nomark _))))),?_⟩
  refine ⟨_,rfl,a,p,rfl,ha,fun z hz=>?_⟩
  have s1:Same H (upd H z (.tup [.int (p.len true),.int (p.len false)])):=Same.new hz
  have e1:(upd H z (.tup [.int (p.len true),.int (p.len false)])) z=some (.tup [.int (p.len true),.int (p.len false)]):=upd_same
  generalize upd H z (.tup [.int (p.len true),.int (p.len false)])=H1 at s1 e1 ⊢
  refine ⟨_,rfl,_,rfl,z,_,_,_,rfl,rfl,SqT.of e1,Zch,_,rfl,z,_,_,_,rfl,rfl,SqT.of e1,Zcj,c,t,_,_,rfl,s1 _ _ hc,fun l H2 s2 nl tl=>?_⟩
  obtain ⟨xs,hx,lx⟩:=tl.len
  refine ⟨l,xs,rfl,.inl (SqL.of hx),_,_,rfl,rfl,?_⟩
  have e:decide (((xs.length:Nat):Int) > 0)=decide (heldW t (p.len true) (p.len false)≠[]):=by
   rw [lx]
   cases heldW t (p.len true) (p.len false) with
   | nil=>rfl
   | cons x r=>rw [decide_eq_true (by rw [List.length_cons]; lia),decide_eq_true (by intro z; cases z)]
  have e2:=q H2 (s1.trans s2)
  rw [← e] at e2
  exact e2
def rkK (p:Rk):List Key:=[.inl p.t,.inl p.l,.inl p.b,.inl p.r]
theorem rkK_inj {p q:Rk} (h:rkK p=rkK q):p=q:=by
 obtain ⟨a,b,c,d⟩:=p
 obtain ⟨a',b',c',d'⟩:=q
 simp only [rkK,List.cons.injEq,Sum.inl.injEq] at h
 obtain ⟨rfl,rfl,rfl,rfl,_⟩:=h
 rfl
abbrev KV:=List (Rk × En)
def putE (kv:KV) (p:Rk) (e:En):KV:=if kv.any (fun x=>decide (rkK x.1=rkK p)) then kv.map (fun x=>if rkK x.1=rkK p then (p,e) else x) else kv++[(p,e)]
def KvAt (H:Hp):List (List Key × V)→KV→Prop
 | [],[]=>True
 | x :: r,y :: q=>(x.1=rkK y.1∧∃ a,x.2=.ref a∧H a=some (.tup (enV y.2)))∧KvAt H r q
 | _,_=>False
theorem KvAt.len {H:Hp}:∀ {kvs:List (List Key × V)} {kv:KV},KvAt H kvs kv→kvs.length=kv.length
 | [],[],_=>rfl
 | x :: r,y :: q,h=>by rw [List.length_cons,List.length_cons,KvAt.len h.2]
 | [],_ :: _,h=>h.elim
 | _ :: _,[],h=>h.elim
theorem KvAt.tups {H H':Hp} (s:∀ a xs,H a=some (.tup xs)→H' a=some (.tup xs)):∀ {kvs:List (List Key × V)} {kv:KV},KvAt H kvs kv→KvAt H' kvs kv
 | [],[],_=>trivial
 | x :: r,y :: q,h=>⟨⟨h.1.1,let ⟨a,b,c⟩:=h.1.2; ⟨a,b,s _ _ c⟩⟩,KvAt.tups s h.2⟩
 | [],_ :: _,h=>h.elim
 | _ :: _,[],h=>h.elim
theorem KvAt.get {H:Hp}:∀ {kvs:List (List Key × V)} {kv:KV} {i:Nat} {x:List Key × V},KvAt H kvs kv→kvs[i]?=some x→∃ y a,kv[i]?=some y∧x=(rkK y.1,.ref a)∧H a=some (.tup (enV y.2))
 | x :: r,y :: q,0,z,h,e=>by
  cases e
  obtain ⟨⟨h1,a,h2,h3⟩,_⟩:=h
  exact ⟨y,a,rfl,by rw [← h1,← h2],h3⟩
 | x :: r,y :: q,i+1,z,h,e=>KvAt.get (i:=i) h.2 e
 | [],[],i,z,_,e=>by simp at e
 | [],_ :: _,_,_,h,_=>h.elim
 | _ :: _,[],_,_,h,_=>h.elim
theorem KvAt.any {H:Hp} {k:List Key}:∀ {kvs:List (List Key × V)} {kv:KV},KvAt H kvs kv→(kvs.any fun x=>decide (x.1=k))=kv.any fun x=>decide (rkK x.1=k)
 | [],[],_=>rfl
 | x :: r,y :: q,h=>by rw [List.any_cons,List.any_cons,KvAt.any h.2,h.1.1]
 | [],_ :: _,h=>h.elim
 | _ :: _,[],h=>h.elim
theorem KvAt.mapPut {H:Hp} {p:Rk} {e:En} {c:Addr} (hc:H c=some (.tup (enV e))):∀ {kvs:List (List Key × V)} {kv:KV},KvAt H kvs kv→KvAt H (kvs.map fun x=>if x.1=rkK p then (x.1,.ref c) else x) (kv.map fun x=>if rkK x.1=rkK p then (p,e) else x)
 | [],[],_=>trivial
 | x :: r,y :: q,h=>by
  refine ⟨?_,KvAt.mapPut hc h.2⟩
  dsimp only
  by_cases z:rkK y.1=rkK p
  ·rw [if_pos (h.1.1.trans z),if_pos z]
   exact ⟨h.1.1.trans z,c,rfl,hc⟩
  ·rw [if_neg (fun w=>z (h.1.1.symm.trans w)),if_neg z]
   exact h.1
 | [],_ :: _,h=>h.elim
 | _ :: _,[],h=>h.elim
theorem KvAt.snoc {H:Hp} {p:Rk} {e:En} {c:Addr} (hc:H c=some (.tup (enV e))):∀ {kvs:List (List Key × V)} {kv:KV},KvAt H kvs kv→KvAt H (kvs++[(rkK p,.ref c)]) (kv++[(p,e)])
 | [],[],_=>⟨⟨rfl,c,rfl,hc⟩,trivial⟩
 | x :: r,y :: q,h=>⟨h.1,KvAt.snoc hc h.2⟩
 | [],_ :: _,h=>h.elim
 | _ :: _,[],h=>h.elim
theorem Zdw (kv:KV) (p:Rk) (e:En):(putE kv p e).length≤kv.length+1:=by
 unfold putE
 split
 ·rw [List.length_map]; lia
 ·rw [List.length_append,List.length_singleton]; exact Nat.le_refl _
theorem KvAt.put {H:Hp} {p:Rk} {e:En} {c:Addr} {kvs:List (List Key × V)} {kv:KV} (h:KvAt H kvs kv) (hc:H c=some (.tup (enV e))):KvAt H (putK kvs (rkK p) (.ref c)) (putE kv p e):=by
 unfold putK putE
 rw [h.any]
 split
 ·exact h.mapPut hc
 ·exact h.snoc hc
def cutS (u:Bool) (k:Int) (s:KV × Rk):KV × Rk:=if k < s.2.len u then (putE (putE s.1 s.2 (.c u k)) (s.2.oth u k) (.w none),s.2.fst u k) else s
def cutB (kv:KV) (p:Rk) (z:Int × Int):KV × Rk:=cutS false z.2 (cutS true z.1 (kv,p))
def cutE (kv:KV) (p:Rk) (z:Int × Int) (n:Int):KV:=putE (cutB kv p z).1 (cutB kv p z).2 (.w (some n))
theorem cutS_len {u:Bool} {k:Int} {s:KV × Rk}:(cutS u k s).1.length≤s.1.length+2:=by
 unfold cutS
 split
 ·have h1:=Zdw s.1 s.2 (.c u k)
  have h2:=Zdw (putE s.1 s.2 (.c u k)) (s.2.oth u k) (.w none)
  show (putE (putE s.1 s.2 (.c u k)) (s.2.oth u k) (.w none)).length≤_
  lia
 ·lia
theorem cutS_lenF {k:Int} {s:KV × Rk}:(cutS true k s).2.len false=s.2.len false:=by
 unfold cutS
 split <;> rfl
def stp (kv:KV) (p:Rk) (z:Int × Int):Nat→KV × Rk
 | 0=>(kv,p)
 | 1=>cutS true z.1 (kv,p)
 | _=>cutB kv p z
def Zd8:Sp:=fun vs H Q _=>∃ (d a c:Addr) (n:Int) (p:Rk) (t:Want) (z:Int × Int) (r:List (Int × Int)) (kvs:List (List Key × V)) (kv:KV),vs=[.ref d,.ref a,.ref c,.int n]∧H d=some (.dT kvs)∧KvAt H kvs kv∧kv.length≤500∧H a=some (.tup p.vs)∧H c=some (.tup [.int t.1,.int t.2.1,.bl t.2.2])∧heldW t (p.len true) (p.len false)=z :: r ∧
 ∀ b kvs' H',SameX d H H'→H' d=some (.dT kvs')→KvAt H' kvs' (cutE kv p z n)→H' b=some (.tup (cutB kv p z).2.vs)→Q (.ref b) H'
abbrev N_cp:List Str:=["entries","piece","want","number","size","lies","word","at","length"]
theorem S_cut_pane:Zan N_cp ["entries","piece","want","number"] (Zab Zcp):=⟨rfl,rfl,rfl,by decide +kernel,rfl,by decide +kernel,by decide +kernel⟩
theorem Zj3 {f:Addr} {fd:FuncData} (F:Fun K "cut_pane" "cut_pane" Zcp f fd) (T:Txt mg tk) (D_size_of:DefOk P w K mg base 1 "size_of" ["rectangle"] Ze3) (D_ways_held:DefOk P w K mg base 2 "ways_held" ["want","width","height"] Ze2) (D_first_piece:DefOk P w K mg base 1 "first_piece" ["piece","word","at"] Zk3) (D_other_piece:DefOk P w K mg base 1 "other_piece" ["piece","word","at"] Zk1):FnOk P w K mg base CX0 3 f fd ["entries","piece","want","number"] Zd8:=by
 have S:=S_cut_pane
 refine F.ok S (fun vs H Q E h=>?_) (fun cdv A outer s H vs Q E hr h=>?_)
 ·obtain ⟨d,a,c,n,p,t,z,r,kvs,kv,rfl,_⟩:=h; rfl
 ·obtain ⟨d,a,c,n,p,t,z,r,kvs,kv,rfl,hd,hkv,few,ha,hc,hh,q⟩:=h
  have hu:=hu_of hr
  refine ⟨_,(Zae (Zav (i:=4) S.nd rfl (Or.inl rfl) (Za2 D_size_of hr (Zaa (pv 1) Zac)))
   (Zae (Zav (i:=5) S.nd rfl (Or.inl rfl) (Zam Za8 (Za2 D_ways_held hr (Zaa (pv 2) (Zaa (Zam Zaj (pv 4) Zaf (fun _ _=>rfl)) (Zaa (Zam Zaj (pv 4) Zaf (fun _ _=>rfl)) Zac)))) Zaf (fun _ _=>rfl)))
   (Zae (Zdy PassesOwn.never rfl (pi_tup (Zas (Zaa (Zas (Zaa (Za3 (v:=.str "upright") rfl T.g_UPRIGHT ⟨_,rfl⟩) (Zaa (Zam Zaj (pv 5) Zaf (fun _ _=>rfl)) (Zaa (Zam Zaj (pv 4) Zaf (fun _ _=>rfl)) Zac)))) (Zaa (Zas (Zaa (Za3 (v:=.str "level") rfl T.g_LEVEL ⟨_,rfl⟩) (Zaa (Zam Zaj (pv 5) Zaf (fun _ _=>rfl)) (Zaa (Zam Zaj (pv 4) Zaf (fun _ _=>rfl)) Zac)))) Zac)))) (Zff rfl (Zar (Zap (i:=6) S.nd rfl (Or.inl rfl)) (Zar (Zap (i:=7) S.nd rfl (Or.inl rfl)) (Zar (Zap (i:=8) S.nd rfl (Or.inl rfl)) Zbx)))) (Zah (Zbm (Zau op_lt (pv 7) (pv 8) (nomark _)) (Zae (Zjt hu (pv 0) (pv 1) (Zas (Zaa (pv 6) (Zaa (pv 7) Zac))) rfl)
   (Zae (Zjt hu (pv 0) (Za2 D_other_piece hr (Zaa (pv 1) (Zaa (pv 6) (Zaa (pv 7) Zac)))) (Zas (Zaa (Za3 (v:=.str "whole") rfl T.g_WHOLE ⟨_,rfl⟩) (Zaa Zb8 Zac))) rfl)
   (Zah (Zav (i:=1) S.nd rfl (Or.inl rfl) (Za2 D_first_piece hr (Zaa (pv 1) (Zaa (pv 6) (Zaa (pv 7) Zac)))))))) Zaw)))
   (Zae (Zjt hu (pv 0) (pv 1) (Zas (Zaa (Za3 (v:=.str "whole") rfl T.g_WHOLE ⟨_,rfl⟩) (Zaa (pv 3) Zac))) rfl)
   (Zah (Zat (pv 1))))))),?_⟩
  refine ⟨_,rfl,a,p,rfl,ha,fun y hy=>?_⟩
  have s1:Same H (upd H y (.tup [.int (p.len true),.int (p.len false)])):=Same.new hy
  have e1:(upd H y (.tup [.int (p.len true),.int (p.len false)])) y=some (.tup [.int (p.len true),.int (p.len false)]):=upd_same
  generalize upd H y (.tup [.int (p.len true),.int (p.len false)])=H1 at s1 e1 ⊢
  refine ⟨_,rfl,_,rfl,y,_,_,_,rfl,rfl,SqT.of e1,Zch,_,rfl,y,_,_,_,rfl,rfl,SqT.of e1,Zcj,c,t,_,_,rfl,s1 _ _ hc,fun l H2 s2 nl tl=>?_⟩
  rw [hh] at tl
  obtain ⟨ts,l2,l3,l4⟩:=tl
  obtain ⟨x0,ts',rfl,rfl⟩:∃ x0 ts',ts=x0 :: ts'∧x0.2=z:=by
   match ts,l4 with
   | x :: r',l4=>exact ⟨x,r',rfl,(List.cons.inj l4).1⟩
  have hz:=l3 x0 List.mem_cons_self
  refine ⟨l,_,_,_,rfl,rfl,SqL.of l2,at_fst,?_⟩
  have s12:=s1.trans s2
  have y2:=s2 _ _ e1
  refine ⟨_,rfl,x0.1,_,_,_,rfl,rfl,SqT.of hz,Zch,_,rfl,y,_,_,_,rfl,rfl,SqT.of y2,Zch,lenOk 3,fun b1 n1=>?_⟩
  have s3:Same H2 (upd H2 b1 (.tup [.str "upright",.int x0.2.1,.int (p.len true)])):=Same.new n1
  have e3:(upd H2 b1 (.tup [.str "upright",.int x0.2.1,.int (p.len true)])) b1=some (.tup [.str (wd true),.int x0.2.1,.int (p.len true)]):=upd_same
  generalize upd H2 b1 (.tup [.str "upright",.int x0.2.1,.int (p.len true)])=H3 at s3 e3 ⊢
  refine ⟨_,rfl,x0.1,_,_,_,rfl,rfl,SqT.of (s3 _ _ hz),Zcj,_,rfl,y,_,_,_,rfl,rfl,SqT.of (s3 _ _ y2),Zcj,lenOk 3,fun b2 n2=>?_⟩
  have s4:Same H3 (upd H3 b2 (.tup [.str "level",.int x0.2.2,.int (p.len false)])):=Same.new n2
  have e4:(upd H3 b2 (.tup [.str "level",.int x0.2.2,.int (p.len false)])) b2=some (.tup [.str (wd false),.int x0.2.2,.int (p.len false)]):=upd_same
  generalize upd H3 b2 (.tup [.str "level",.int x0.2.2,.int (p.len false)])=H4 at s4 e4 ⊢
  refine ⟨lenOk 2,fun bt nt=>?_⟩
  have s5:Same H4 (upd H4 bt (.tup [.ref b1,.ref b2])):=Same.new nt
  have e5:(upd H4 bt (.tup [.ref b1,.ref b2])) bt=some (.tup [.ref b1,.ref b2]):=upd_same
  generalize upd H4 bt (.tup [.ref b1,.ref b2])=H5 at s5 e5 ⊢
  have s05:=s12.trans (s3.trans (s4.trans s5))
  have d5:=s05 _ _ hd
  have b15:=(s4.trans s5) _ _ e3
  have b25:=s5 _ _ e4
  have ned:∀ {x:Addr} {xs:List V},H5 x=some (.tup xs)→x≠d:=fun e z=>by rw [z,d5] at e; cases e
  refine ⟨bt,rfl,⟨_,SqT.of e5⟩,for_tup (K:=K) (a:=bt) (xs:=[.ref b1,.ref b2]) (fun i σ H'=>∃ (a':Addr) (w6 w7 w8:Option V) (kvs':List (List Key × V)),σ=[some (.ref d),some (.ref a'),some (.ref c),some (.int n),some (.ref y),some (.ref x0.1),w6,w7,w8]∧SameX d H5 H'∧H' d=some (.dT kvs')∧KvAt H' kvs' (stp kv p x0.2 i).1∧(stp kv p x0.2 i).1.length≤500+2 * i∧H' a'=some (.tup (stp kv p x0.2 i).2.vs))
   ⟨a,none,none,none,kvs,rfl,SameX.refl,d5,hkv.tups fun b xs e=>s05 _ _ e,few,s05 _ _ ha⟩ (fun i σ H' _ hp=>by obtain ⟨_,_,_,_,_,_,sx,_⟩:=hp; exact SqT.of (sx _ _ (ned e5) e5)) ?_ ?_⟩
  ·rintro i x σ H' hx ⟨a',w6,w7,w8,kvs',rfl,sx,d6,kv6,few6,a6⟩
   obtain ⟨b,u,k,rfl,hb,hst⟩:∃ (b:Addr) (u:Bool) (k:Int),x=.ref b∧H5 b=some (.tup [.str (wd u),.int k,.int ((stp kv p x0.2 i).2.len u)])∧stp kv p x0.2 (i+1)=cutS u k (stp kv p x0.2 i):=by
    match i,hx with
    | 0,hx=>cases hx; exact ⟨b1,true,x0.2.1,rfl,b15,rfl⟩
    | 1,hx=>cases hx; exact ⟨b2,false,x0.2.2,rfl,by show H5 b2=some (.tup [.str (wd false),.int x0.2.2,.int ((cutS true x0.2.1 (kv,p)).2.len false)]); rw [cutS_lenF]; exact b25,rfl⟩
   rw [hst]
   generalize stp kv p x0.2 i=S0 at kv6 few6 a6 hb ⊢
   obtain ⟨kv0,p0⟩:=S0
   have kv6:KvAt H' kvs' kv0:=kv6
   have a6:H' a'=some (.tup p0.vs):=a6
   have hb6:=sx _ _ (ned hb) hb
   refine ⟨b,_,rfl,SqT.of hb6,rfl,_,_,rfl,_,_,rfl,_,_,rfl,rfl,?_⟩
   refine ⟨_,rfl,_,rfl,_,_,rfl,rfl,_,rfl,ite3 (fun cc=>?_) (fun cc=>?_)⟩
   ·have k1:=of_decide_eq_true cc
    have fk0:kv0.length≤500+2 * i:=few6
    have i2:i < 2:=by
     match i,hx with
     | 0,_=>lia
     | 1,_=>lia
    have kl:=kv6.len
    refine ⟨_,rfl,_,rfl,lenOk 2,fun v1 nv1=>?_⟩
    have t1:SameX d H5 (upd H' v1 (.tup [.str (wd u),.int k])):=sx.trans (SameX.new nv1)
    have f1:(upd H' v1 (.tup [.str (wd u),.int k])) v1=some (.tup (enV (.c u k))):=upd_same
    have g1:Same H' (upd H' v1 (.tup [.str (wd u),.int k])):=Same.new nv1
    generalize upd H' v1 (.tup [.str (wd u),.int k])=H6 at t1 f1 g1 ⊢
    have d7:=g1 _ _ d6
    have a7:=g1 _ _ a6
    refine ⟨_,rfl,_,rfl,d,_,rfl,DPut.t (k:=rkK p0) d7 a7 (Nat.lt_of_le_of_lt (Nat.le_of_eq kl) (Zaq (by lia))),?_⟩
    have kv7:=(kv6.tups fun b xs e=>g1 _ _ e).put (p:=p0) f1
    have t2:SameX d H6 (upd H6 d (.dT (putK kvs' (rkK p0) (.ref v1)))):=SameX.upd
    have d8:(upd H6 d (.dT (putK kvs' (rkK p0) (.ref v1)))) d=some (.dT (putK kvs' (rkK p0) (.ref v1))):=upd_same
    have nt2:∀ {x:Addr} {xs:List V},H6 x=some (.tup xs)→x≠d:=fun e z=>by rw [z,d7] at e; cases e
    generalize upd H6 d (.dT (putK kvs' (rkK p0) (.ref v1)))=H7 at t2 d8 ⊢
    have a8:=t2 _ _ (nt2 a7) a7
    have kv8:=kv7.tups fun b xs e=>t2 _ _ (nt2 e) e
    refine ⟨lenOk 2,fun v2 nv2=>?_⟩
    have g3:Same H7 (upd H7 v2 (.tup [.str "whole",.non])):=Same.new nv2
    have f3:(upd H7 v2 (.tup [.str "whole",.non])) v2=some (.tup (enV (.w none))):=upd_same
    generalize upd H7 v2 (.tup [.str "whole",.non])=H8 at g3 f3 ⊢
    refine ⟨_,rfl,_,rfl,_,rfl,_,rfl,a',p0,u,k,rfl,g3 _ _ a8,fun x1 nx1=>?_⟩
    have g4:Same H8 (upd H8 x1 (.tup (p0.oth u k).vs)):=Same.new nx1
    have f4:(upd H8 x1 (.tup (p0.oth u k).vs)) x1=some (.tup (p0.oth u k).vs):=upd_same
    generalize upd H8 x1 (.tup (p0.oth u k).vs)=H9 at g4 f4 ⊢
    have g34:=g3.trans g4
    have d9:=g34 _ _ d8
    have kv9:=kv8.tups fun b xs e=>g34 _ _ e
    have l9:=kv9.len
    have pl:=Zdw kv0 p0 (.c u k)
    refine ⟨d,_,rfl,DPut.t (k:=rkK (p0.oth u k)) d9 f4 (Nat.lt_of_le_of_lt (Nat.le_of_eq l9) (Zaq (by lia))),?_⟩
    have kv10:=kv9.put (p:=p0.oth u k) (g4 _ _ f3)
    have t5:SameX d H9 (upd H9 d (.dT (putK (putK kvs' (rkK p0) (.ref v1)) (rkK (p0.oth u k)) (.ref v2)))):=SameX.upd
    have d10:(upd H9 d (.dT (putK (putK kvs' (rkK p0) (.ref v1)) (rkK (p0.oth u k)) (.ref v2)))) d=some (.dT (putK (putK kvs' (rkK p0) (.ref v1)) (rkK (p0.oth u k)) (.ref v2))):=upd_same
    have nt5:∀ {x:Addr} {xs:List V},H9 x=some (.tup xs)→x≠d:=fun e z=>by rw [z,d9] at e; cases e
    generalize upd H9 d (.dT (putK (putK kvs' (rkK p0) (.ref v1)) (rkK (p0.oth u k)) (.ref v2)))=H10 at t5 d10 ⊢
    have a9:=g34 _ _ a8
    refine ⟨_,rfl,_,rfl,_,rfl,a',p0,u,k,rfl,t5 _ _ (nt5 a9) a9,fun x2 nx2=>?_⟩
    have g6:Same H10 (upd H10 x2 (.tup (p0.fst u k).vs)):=Same.new nx2
    have f6:(upd H10 x2 (.tup (p0.fst u k).vs)) x2=some (.tup (p0.fst u k).vs):=upd_same
    generalize upd H10 x2 (.tup (p0.fst u k).vs)=H11 at g6 f6 ⊢
    have cS:cutS u k (kv0,p0)=(putE (putE kv0 p0 (.c u k)) (p0.oth u k) (.w none),p0.fst u k):=by unfold cutS; rw [if_pos k1]
    rw [cS]
    have pl2:=Zdw (putE kv0 p0 (.c u k)) (p0.oth u k) (.w none)
    refine ⟨x2,_,_,_,_,rfl,t1.trans (t2.trans (g34.x.trans (t5.trans g6.x))),g6 _ _ d10,(kv10.tups fun b xs e=>t5 _ _ (nt5 e) e).tups fun b xs e=>g6 _ _ e,?_,f6⟩
    show (putE (putE kv0 p0 (.c u k)) (p0.oth u k) (.w none)).length≤_
    lia
   ·refine ⟨a',_,_,_,kvs',rfl,sx,d6,?_,?_,?_⟩
    all_goals rw [show cutS u k (kv0,p0)=(kv0,p0) from by unfold cutS; rw [if_neg (of_decide_eq_false cc)]]
    ·exact kv6
    ·show kv0.length≤_
     have:kv0.length≤500+2 * i:=few6
     lia
    ·exact a6
  ·rintro σ H' ⟨a',w6,w7,w8,kvs',rfl,sx,d6,kv6,few6,a6⟩
   have kl:=kv6.len
   have few6:(stp kv p x0.2 2).1.length≤504:=few6
   have kv6:KvAt H' kvs' (cutB kv p x0.2).1:=kv6
   have few7:(cutB kv p x0.2).1.length≤504:=few6
   have a6:H' a'=some (.tup (cutB kv p x0.2).2.vs):=a6
   refine ⟨_,rfl,lenOk 2,fun v1 nv1=>?_⟩
   have g1:Same H' (upd H' v1 (.tup [.str "whole",.int n])):=Same.new nv1
   have f1:(upd H' v1 (.tup [.str "whole",.int n])) v1=some (.tup (enV (.w (some n)))):=upd_same
   generalize upd H' v1 (.tup [.str "whole",.int n])=H6 at g1 f1 ⊢
   have d7:=g1 _ _ d6
   have a7:=g1 _ _ a6
   have kl':=kv6.len
   refine ⟨_,rfl,_,rfl,d,_,rfl,DPut.t (k:=rkK (cutB kv p x0.2).2) d7 a7 (Nat.lt_of_le_of_lt (Nat.le_of_eq kl') (Zaq (by lia))),?_⟩
   have kv7:=(kv6.tups fun b xs e=>g1 _ _ e).put (p:=(cutB kv p x0.2).2) f1
   have t2:SameX d H6 (upd H6 d (.dT (putK kvs' (rkK (cutB kv p x0.2).2) (.ref v1)))):=SameX.upd
   have nt2:∀ {x:Addr} {xs:List V},H6 x=some (.tup xs)→x≠d:=fun e z=>by rw [z,d7] at e; cases e
   exact ⟨_,rfl,q a' _ _ (s05.x.trans (sx.trans (g1.x.trans t2))) upd_same (kv7.tups fun b xs e=>t2 _ _ (nt2 e) e) (t2 _ _ (nt2 a7) a7)⟩
structure BCls (K:PySem.W.Frag) (C:Addr):Prop where
 cl:Cls K C
 n_stock:NoAttr K C "stock"
 n_taken:NoAttr K C "taken"
def bnF (ls lt:Addr):List (Str × V):=putF "taken" (.ref lt) (putF "stock" (.ref ls) [])
theorem bnF_s (ls lt:Addr):(bnF ls lt).lookup ("stock":Str)=some (.ref ls):=by
 unfold bnF; rw [Zay,if_neg (by decide +kernel),Zay,if_pos rfl]
theorem Zkj (ls lt:Addr):(bnF ls lt).lookup ("taken":Str)=some (.ref lt):=by
 unfold bnF; rw [Zay,if_pos rfl]
abbrev Tk1:=Addr × Int × Addr × List (List Key × V) × KV
def TkAt (H:Hp) (t:Tk1):Prop:=H t.1=some (.tup [.int t.2.1,.ref t.2.2.1])∧H t.2.2.1=some (.dT t.2.2.2.1)∧KvAt H t.2.2.2.1 t.2.2.2.2
structure BnAt (C a dx ls lt:Addr) (H:Hp) (ss:List (Addr × Int × Int)) (tn:List Tk1):Prop where
 ob:H a=some (.ins C dx (bnF ls lt))
 lst:H ls=some (.lst (refs ss))
 stk:∀ t∈ss,H t.1=some (.tup (Rk.vs ⟨0,0,t.2.2,t.2.1⟩))
 tak:H lt=some (.lst (refs tn))
 tks:∀ t∈tn,TkAt H t
 dis:(tn.map fun t=>t.2.2.1).Nodup
theorem TkAt.same {H H':Hp} {t:Tk1} (h:TkAt H t) (s:Same H H'):TkAt H' t:=⟨s _ _ h.1,s _ _ h.2.1,h.2.2.tups fun a xs e=>s _ _ e⟩
theorem BnAt.same {C a dx ls lt:Addr} {H H':Hp} {ss:List (Addr × Int × Int)} {tn:List Tk1} (h:BnAt C a dx ls lt H ss tn) (s:Same H H'):BnAt C a dx ls lt H' ss tn :=
 ⟨s _ _ h.ob,s _ _ h.lst,fun t ht=>s _ _ (h.stk t ht),s _ _ h.tak,fun t ht=>(h.tks t ht).same s,h.dis⟩
def wh1 (i:Int) (kv:KV):List (Int × Rk × Option Int):=kv.filterMap fun x=>match x.2 with
 | .w m=>some (i,x.1,m)
 | .c _ _=>none
def whs:Int→List KV→List (Int × Rk × Option Int)
 | _,[]=>[]
 | i,kv :: r=>wh1 i kv++whs (i+1) r
theorem Zks:∀ (i:Int) (r:List KV) (kv:KV),whs i (r++[kv])=whs i r++wh1 (i+r.length) kv
 | i,[],kv=>by show wh1 i kv++[]=[]++wh1 (i+0) kv; rw [List.append_nil,Int.add_zero]; rfl
 | i,x :: r,kv=>by
  show wh1 i x++whs (i+1) (r++[kv])=(wh1 i x++whs (i+1) r)++wh1 (i+((r.length+1:Nat):Int)) kv
  rw [Zks (i+1) r kv,List.append_assoc,show i+1+(r.length:Int)=i+((r.length+1:Nat):Int) by lia]
abbrev Wr:=Addr × Addr × Int × Rk × Option Int
def WrAt (H:Hp) (t:Wr):Prop:=H t.1=some (.tup [.int t.2.2.1,.ref t.2.1,markV t.2.2.2.2])∧H t.2.1=some (.tup t.2.2.2.1.vs)
theorem WrAt.tups {H H':Hp} (s:∀ a xs,H a=some (.tup xs)→H' a=some (.tup xs)) {t:Wr} (h:WrAt H t):WrAt H' t:=⟨s _ _ h.1,s _ _ h.2⟩
def Zdk (C:Addr):Sp:=fun vs H Q _=>∃ (a dx ls lt:Addr) (ss:List (Addr × Int × Int)) (tn:List Tk1),vs=[.ref a]∧BnAt C a dx ls lt H ss tn∧tn.length≤100∧(∀ t∈tn,t.2.2.2.2.length≤250) ∧
 ∀ l ts H',Same H H'→H l=none→H' l=some (.lst (refs ts))→(∀ t∈ts,WrAt H' t)→ts.map (fun t:Wr=>t.2.2)=whs 0 (tn.map fun t=>t.2.2.2.2)→Q (.ref l) H'
theorem Zdn:Zan ["self","found","number","sheet"] ["self"] (Zab Zaz):=⟨rfl,rfl,rfl,by decide +kernel,rfl,by decide +kernel,by decide +kernel⟩
theorem Zdf {f:Addr} {fd:FuncData} {C:Addr} (F:Fun K "whole_pieces" "Bench.whole_pieces" Zaz f fd) (T:Txt mg tk) (BC:BCls K C):FnOk P w K mg base CX0 1 f fd ["self"] (Zdk C):=by
 have S:=Zdn
 refine F.ok S (fun vs H Q E h=>?_) (fun cdv A outer s H vs Q E hr h=>?_)
 ·obtain ⟨a,dx,ls,lt,ss,tn,rfl,_⟩:=h; rfl
 ·obtain ⟨a,dx,ls,lt,ss,tn,rfl,bn,few,fk,q⟩:=h
  refine ⟨_,(Zae (Zav (i:=1) S.nd rfl (Or.inl rfl) (Zcy Zac))
   (Zae (Zdy PassesOwn.never rfl (Zju rfl T.z_enumerate (Zaa (Zcg (pv 0) rfl) Zac)) (Zff rfl (Zar (Zap (i:=2) S.nd rfl (Or.inr rfl)) (Zar (Zap (i:=3) S.nd rfl (Or.inl rfl)) Zbx))) (Zah (Zbw (Zeg PySem.F.plainAttrs_list PySem.F.slot_list_extend PySem.F.type_list_extend mt_extend (pv 1) (Zaa (pe_thaw (Ze6 rfl (pi_itemsT (Zam Zaj (pv 3) Zaf (fun _ _=>rfl))) (fun _ _ _ _ _=>(Zdb (K:=K) (n:=2) rfl (Zar (Zap (i:=0) (show List.Nodup (["piece","entry","number"]:List Str) from by decide +kernel) rfl (Or.inl rfl)) (Zar (Zap (i:=1) (show List.Nodup (["piece","entry","number"]:List Str) from by decide +kernel) rfl (Or.inl rfl)) Zbx)))) (fun _ _ _ _ _=>(Zau Zfj (Zam (Zhn (K:=K)) (pv 1) Zaf (fun _ _=>rfl)) (Za3 (v:=.str "whole") rfl T.g_WHOLE ⟨_,rfl⟩) (nomark _))) (fun _ _ _ _ _=>(Zas (Zaa (pv 2) (Zaa (pv 0) (Zaa (Zam (Zhn (K:=K)) (pv 1) Zaf (fun _ _=>rfl)) Zac))))) (N:=["piece","entry","number"]) (fr:=[none,none,some 2]))) Zac)))))
   (Zah (Zat (pv 1))))),?_⟩
  refine ⟨lenOk 0,fun l nl=>?_⟩
  have s0:Same H (upd H l (.lst [])):=Same.new nl
  have e0:(upd H l (.lst [])) l=some (.lst []):=upd_same
  generalize upd H l (.lst [])=H0 at s0 e0 ⊢
  have bn0:=bn.same s0
  refine ⟨_,rfl,a,C,dx,_,_,rfl,bn0.ob,BC.cl,BC.n_taken,Zkj _ _,?_⟩
  refine ⟨lt,rfl,⟨_,SqL.of bn0.tak⟩,for_enum (K:=K) (a:=lt) (xs:=refs tn) (fun i σ H'=>∃ (w2 w3:Option V) (ts:List Wr),σ=[some (.ref a),some (.ref l),w2,w3]∧Same H H'∧H' l=some (.lst (refs ts))∧(∀ t∈ts,WrAt H' t)∧ts.map (fun t:Wr=>t.2.2)=whs 0 ((tn.take i).map fun t=>t.2.2.2.2)∧ts.length≤250 * i)
   ⟨none,none,[],rfl,s0,e0,(fun t ht=>nomatch ht),rfl,Nat.le_refl _⟩ (fun i σ H' _ hp=>by obtain ⟨_,_,_,_,s',_⟩:=hp; exact SqL.of (s' _ _ bn.tak)) ?_ ?_⟩
  ·rintro i x σ H1 t0 hx ⟨w2,w3,ts,rfl,s1,l1,wr1,eq1,len1⟩ nt0
   obtain ⟨u,hu',rfl⟩:=Zbt hx
   have um:=List.mem_of_getElem? hu'
   have s2:Same H1 (upd H1 t0 (.tup [.int i,.ref u.1])):=Same.new nt0
   have e2:(upd H1 t0 (.tup [.int i,.ref u.1])) t0=some (.tup [.int i,.ref u.1]):=upd_same
   generalize upd H1 t0 (.tup [.int i,.ref u.1])=H2 at s2 e2 ⊢
   have s02:=s1.trans s2
   have tk2:=(bn.tks u um).same s02
   obtain ⟨g1,g2,g3⟩:=tk2
   have fku:=fk u um
   have kl:=g3.len
   refine ⟨t0,_,rfl,SqT.of e2,rfl,_,_,rfl,_,_,rfl,rfl,?_⟩
   refine ⟨_,rfl,.inl ⟨rfl,_,SqL.of (s2 _ _ l1)⟩,?_⟩
   refine ⟨_,rfl,u.1,_,_,_,rfl,rfl,SqT.of g1,Zcj,u.2.2.1,_,rfl,g2,fun ob acc hacc=>?_⟩
   have nd:∀ {b:Addr},(upd H2 u.2.2.1 (.frz ob (.dT u.2.2.2.1))) b=none→b≠u.2.2.1:=fun z c=>by rw [c,upd_same] at z; cases z
   have fd:(upd H2 u.2.2.1 (.frz ob (.dT u.2.2.2.1))) u.2.2.1=some (.frz ob (.dT u.2.2.2.1)):=upd_same
   have fo:∀ {b:Addr} {o:HO},b≠u.2.2.1→H2 b=some o→(upd H2 u.2.2.1 (.frz ob (.dT u.2.2.2.1))) b=some o:=fun n e=>by rw [Zag n]; exact e
   have nacc:=nd hacc
   have tupd:∀ {b:Addr} {xs:List V},H2 b=some (.tup xs)→b≠u.2.2.1:=fun e z=>by rw [z,g2] at e; cases e
   have ld:l≠u.2.2.1:=fun z=>by have:=s2 _ _ l1; rw [z,g2] at this; cases this
   have lacc:l≠acc:=fun z=>by have:=fo ld (s2 _ _ l1); rw [z,hacc] at this; cases this
   generalize hHf:upd H2 u.2.2.1 (.frz ob (.dT u.2.2.2.1))=Hf at hacc nd fd fo ⊢
   have g3f:KvAt Hf u.2.2.2.1 u.2.2.2.2:=g3.tups fun b xs e=>fo (tupd e) e
   refine Zix (a:=u.2.2.1) (ob:=ob) (kvs:=u.2.2.2.1) (fun j zs σ H'=>(∃ y z,σ=[y,z,some (.int i)])∧Same Hf H'∧∃ us:List Wr,zs=refs us∧(∀ t∈us,WrAt H' t)∧us.map (fun t:Wr=>t.2.2)=wh1 i (u.2.2.2.2.take j)) ⟨⟨none,none,rfl⟩,Same.new hacc,[],rfl,(fun t ht=>nomatch ht),rfl⟩ (fun j zs σ H' _ _ hp=>hp.2.1 _ _ fd) ?_ ?_
   ·rintro j p t1 b zs σ H' hp hj hl' hacc' ⟨⟨y,z,rfl⟩,hs,us,rfl,wu,eu⟩ hb ht1
    obtain ⟨ye,c,e1,rfl,e3⟩:=g3f.get hp
    have e3':=hs _ _ e3
    have s3:Same H' (upd H' t1 (.tup [.ref b,.ref c])):=Same.new ht1
    have f3:(upd H' t1 (.tup [.ref b,.ref c])) t1=some (.tup [.ref b,.ref c]):=upd_same
    have tk1:u.2.2.2.2.take (j+1)=u.2.2.2.2.take j++[ye]:=by rw [List.take_succ,e1]; rfl
    dsimp only
    generalize upd H' t1 (.tup [.ref b,.ref c])=H3 at s3 f3 ⊢
    obtain ⟨pe,ee⟩:=ye
    have hb3:H3 b=some (.tup pe.vs):=s3 _ _ hb
    have e33:=s3 _ _ e3'
    refine ⟨t1,_,rfl,SqT.of f3,rfl,_,_,rfl,_,_,rfl,rfl,?_⟩
    cases ee with
    | w m =>
     refine ⟨_,rfl,c,_,_,_,rfl,rfl,SqT.of e33,Zch,rfl,true,congrArg V.bl (decide_eq_true rfl),?_⟩
     refine ⟨_,rfl,_,rfl,_,rfl,c,_,_,_,rfl,rfl,SqT.of e33,Zcj,lenOk 3,fun r1 nr1=>?_⟩
     have s4:Same H3 (upd H3 r1 (.tup [.int i,.ref b,markV m])):=Same.new nr1
     have f4:(upd H3 r1 (.tup [.int i,.ref b,markV m])) r1=some (.tup [.int i,.ref b,markV m]):=upd_same
     generalize upd H3 r1 (.tup [.int i,.ref b,markV m])=H4 at s4 f4 ⊢
     have s34:=s3.trans s4
     have a4:=s34 _ _ hacc'
     refine fNx.mk (Nat.le_of_lt (Zaq (by lia))) hj hl' a4 ⟨⟨_,_,rfl⟩,fun d o e=>by rw [Zag (Zad e hacc)]; exact s34 _ _ (hs d o e),us++[(r1,b,(i:Int),pe,m)],by rw [refs,refs,List.map_append]; rfl,fun t ht=>?_,?_⟩
     ·have kp:∀ x xs,H4 x=some (.tup xs)→(upd H4 acc (.lst (refs us++[.ref r1]))) x=some (.tup xs):=fun x xs e=>by rw [Zag (fun z=>by rw [z,a4] at e; cases e)]; exact e
      rcases List.mem_append.mp ht with ht | ht
      ·exact ((wu t ht).tups fun x xs e=>s34 _ _ e).tups kp
      ·rw [List.mem_singleton.mp ht]
       exact ⟨kp _ _ f4,kp _ _ (s4 _ _ hb3)⟩
     ·rw [List.map_append,eu,tk1]
      unfold wh1
      rw [List.filterMap_append]; rfl
    | c uu k =>
     refine ⟨_,rfl,c,_,_,_,rfl,rfl,SqT.of e33,Zch,rfl,false,congrArg V.bl (Zkt uu),?_⟩
     refine fSk.mk hj hl' (s3 _ _ hacc') ⟨⟨_,_,rfl⟩,hs.trans s3,us,rfl,fun t ht=>(wu t ht).tups fun x xs e=>s3 _ _ e,?_⟩
     rw [eu,tk1]
     unfold wh1
     rw [List.filterMap_append]
     exact (List.append_nil _).symm
   ·rintro zs σ H' hl' hacc' ⟨_,hs,us,rfl,wu,eu⟩
    rw [kl,List.take_length] at eu
    have lu:=congrArg List.length eu
    rw [List.length_map] at lu
    have lw:(wh1 i u.2.2.2.2).length≤u.2.2.2.2.length:=List.length_filterMap_le _ _
    refine ⟨u.2.2.1,ob,_,hs _ _ fd,(fun o w z=>by have z:H u.2.2.1=some (.frz o w):=z; rw [(bn.tks u um).2.1] at z; cases z),?_⟩
    have s3:Same H2 (upd H' u.2.2.1 (.dT u.2.2.2.1)):=fun b o e=>by
     by_cases hb:b=u.2.2.1
     ·rw [hb] at e ⊢; rw [g2] at e; cases e; exact upd_same
     ·rw [Zag hb]; exact hs _ _ (fo hb e)
    have kp:∀ x xs,H' x=some (.tup xs)→(upd H' u.2.2.1 (.dT u.2.2.2.1)) x=some (.tup xs):=fun x xs e=>by rw [Zag (fun z=>by rw [z,hs _ _ fd] at e; cases e)]; exact e
    have a3:(upd H' u.2.2.1 (.dT u.2.2.2.1)) acc=some (.lst (refs us)):=by rw [Zag nacc]; exact hacc'
    have wu3:=fun t ht=>(wu t ht).tups kp
    generalize upd H' u.2.2.1 (.dT u.2.2.2.1)=H3 at s3 a3 wu3 ⊢
    have l3:=s3 _ _ (s2 _ _ l1)
    refine ⟨l,acc,_,_,rfl,rfl,l3,a3,?_,?_⟩
    ·have i100:i < tn.length:=(List.getElem?_eq_some_iff.mp hu').1
     exact Nat.le_of_lt (small4 (by rw [Zal,Zal]; lia))
    have kp4:∀ x xs,H3 x=some (.tup xs)→(upd H3 l (.lst (refs ts++refs us))) x=some (.tup xs):=fun x xs e=>by rw [Zag (fun z=>by rw [z,l3] at e; cases e)]; exact e
    have s23:=s2.trans s3
    refine ⟨_,_,ts++us,rfl,fun b o e=>by rw [Zag (Zad e nl)]; exact s23 _ _ (s1 _ _ e),by rw [upd_same,refs,refs,refs,List.map_append],fun t ht=>?_,?_,?_⟩
    ·rcases List.mem_append.mp ht with ht | ht
     ·exact ((wr1 t ht).tups fun x xs e=>s23 _ _ e).tups kp4
     ·exact (wu3 t ht).tups kp4
    ·rw [List.map_append,eq1,eu,List.take_succ,hu',List.map_append]
     show _=whs 0 (_++[u.2.2.2.2])
     rw [Zks,List.length_map,List.length_take,Int.zero_add]
     have:min i tn.length=i:=Nat.min_eq_left (Nat.le_of_lt (List.getElem?_eq_some_iff.mp hu').1)
     rw [this]
    ·rw [List.length_append]; lia
  ·rintro σ H1 ⟨w2,w3,ts,rfl,s1,l1,wr1,eq1,len1⟩
   rw [Zal,List.take_length] at eq1
   exact ⟨_,rfl,q l ts H1 s1 nl l1 wr1 eq1⟩
theorem Zcv (ls lt:Addr) {m:Str} (h1:¬ m="taken") (h2:¬ m="stock"):(bnF ls lt).lookup m=none:=by
 unfold bnF; rw [Zay,if_neg h1,Zay,if_neg h2]; rfl
def BnOk (tn:List Tk1):Prop:=tn.length≤100∧(∀ t∈tn,t.2.2.2.2.length≤250)∧(whs 0 (tn.map fun t=>t.2.2.2.2)).length≤60
def pnsOf (L:List (Int × Rk × Option Int)):List Rk:=L.filterMap fun x=>match x.2.2 with
 | some _=>some x.2.1
 | none=>none
abbrev Pr1:=Addr × Rk
def Zc9 (C:Addr):Sp:=fun vs H Q _=>∃ (a dx ls lt:Addr) (ss:List (Addr × Int × Int)) (tn:List Tk1),vs=[.ref a]∧BnAt C a dx ls lt H ss tn∧BnOk tn ∧
 ∀ l ts H',Same H H'→H l=none→H' l=some (.lst (refs ts))→(∀ t∈ts,H' t.1=some (.tup t.2.vs))→ts.map (fun t:Pr1=>t.2)=pnsOf (whs 0 (tn.map fun t=>t.2.2.2.2))→Q (.ref l) H'
theorem Zeo:Zan ["self"] ["self"] (Zab Za6):=⟨rfl,rfl,rfl,by decide +kernel,rfl,by decide +kernel,by decide +kernel⟩
theorem Zd2 {f:Addr} {fd:FuncData} {C:Addr} (F:Fun K "panes_cut" "Bench.panes_cut" Za6 f fd) (BC:BCls K C) (M_Bench_whole_pieces:MdOk P w K mg base 1 C "whole_pieces" ["self"] (Zdk C)):FnOk P w K mg base CX0 2 f fd ["self"] (Zc9 C):=by
 have S:=Zeo
 refine F.ok S (fun vs H Q E h=>?_) (fun cdv A outer s H vs Q E hr h=>?_)
 ·obtain ⟨a,dx,ls,lt,ss,tn,rfl,_⟩:=h; rfl
 ·obtain ⟨a,dx,ls,lt,ss,tn,rfl,bn,⟨few,fk,fw⟩,q⟩:=h
  refine ⟨_,(Zah (Zat (Ze6 rfl (Zda (Zdd M_Bench_whole_pieces hr (pv 0))) (fun _ _ _ _ _=>(Zdb (K:=K) (n:=3) rfl (Zar (Zap (i:=0) (show List.Nodup (["number","piece","mark"]:List Str) from by decide +kernel) rfl (Or.inl rfl)) (Zar (Zap (i:=1) (show List.Nodup (["number","piece","mark"]:List Str) from by decide +kernel) rfl (Or.inl rfl)) (Zar (Zap (i:=2) (show List.Nodup (["number","piece","mark"]:List Str) from by decide +kernel) rfl (Or.inl rfl)) Zbx))))) (fun _ _ _ _ _=>(Zau Zjw (pv 2) Zb8 (nomark _))) (fun _ _ _ _ _=>(pv 1)) (N:=["number","piece","mark"]) (fr:=[none,none,none])))),?_⟩
  refine ⟨_,rfl,a,dx,_,rfl,bn.ob,Zcv _ _ (by decide +kernel) (by decide +kernel),a,dx,ls,lt,ss,tn,rfl,bn,few,fk,fun l ts H1 s1 nl hl wr eq=>?_⟩
  have tl:=congrArg List.length eq
  rw [List.length_map] at tl
  refine ⟨l,rfl,⟨_,SqL.of hl⟩,fun acc hacc=>Zdl (K:=K) (a:=l) (ys:=refs ts) (fun i zs σ H'=>(∃ x y z,σ=[x,y,z])∧Same H1 H'∧∃ us:List Pr1,zs=refs us∧(∀ t∈us,H' t.1=some (.tup t.2.vs))∧us.map (fun t:Pr1=>t.2)=pnsOf ((ts.map fun t:Wr=>t.2.2).take i)) ⟨⟨none,none,none,rfl⟩,Same.new hacc,[],rfl,(fun t ht=>nomatch ht),rfl⟩ (fun i zs σ H' _ _ hp=>SqL.of (hp.2.1 _ _ hl)) ?_ ?_⟩
  ·rintro i x zs σ H' hx hi hl' hacc' ⟨⟨x0,y0,z0,rfl⟩,hs,us,rfl,wu,eu⟩
   obtain ⟨t,ht,rfl⟩:=Zbt hx
   obtain ⟨w1,w2⟩:=(wr t (List.mem_of_getElem? ht)).tups fun x xs e=>hs _ _ e
   obtain ⟨ta,tb,tn',tp,tm⟩:=t
   have tk1:(ts.map fun t:Wr=>t.2.2).take (i+1)=(ts.map fun t:Wr=>t.2.2).take i++[(tn',tp,tm)]:=by rw [List.take_succ,List.getElem?_map,ht]; rfl
   refine ⟨ta,_,rfl,SqT.of w1,rfl,_,_,rfl,_,_,rfl,_,_,rfl,rfl,?_⟩
   cases tm with
   | some m =>
    refine ⟨_,rfl,rfl,true,congrArg V.bl (by rw [decide_eq_false (by intro z; cases z)]; rfl),?_⟩
    refine ⟨_,rfl,fNx.mk (Nat.le_of_lt (Zaq (by rw [Zal]; lia))) hi hl' hacc' ⟨⟨_,_,_,rfl⟩,fun d o e=>by rw [Zag (Zad e hacc)]; exact hs d o e,us++[(tb,tp)],by rw [refs,refs,List.map_append]; rfl,fun u hu=>?_,?_⟩⟩
    ·have kp:∀ x xs,H' x=some (.tup xs)→(upd H' acc (.lst (refs us++[.ref tb]))) x=some (.tup xs):=fun x xs e=>by rw [Zag (fun z=>by rw [z,hacc'] at e; cases e)]; exact e
     rcases List.mem_append.mp hu with hu | hu
     ·exact kp _ _ (wu u hu)
     ·rw [List.mem_singleton.mp hu]; exact kp _ _ w2
    ·rw [List.map_append,eu,tk1]
     unfold pnsOf
     rw [List.filterMap_append]; rfl
   | none =>
    refine ⟨_,rfl,rfl,false,congrArg V.bl (by show (!decide (V.non=V.non))=false; rw [decide_eq_true rfl]; rfl),?_⟩
    refine fSk.mk hi hl' hacc' ⟨⟨_,_,_,rfl⟩,hs,us,rfl,wu,?_⟩
    rw [eu,tk1]
    unfold pnsOf
    rw [List.filterMap_append]
    exact (List.append_nil _).symm
  ·rintro zs σ H' hl' hacc' ⟨_,hs,us,rfl,wu,eu⟩
   rw [Zal,← List.length_map (f:=fun t:Wr=>t.2.2),List.take_length,eq] at eu
   exact q acc us H' (s1.trans hs) (Zc0 s1 hacc) hacc' wu eu
def offOf (L:List (Int × Rk × Option Int)):List (Int × Rk):=L.filterMap fun x=>match x.2.2 with
 | some _=>none
 | none=>some (x.1,x.2.1)
abbrev Of1:=Addr × Addr × Int × Rk
def toR (t:Of1):Rwt:=(t.1,[t.2.2.1],t.2.1,[t.2.2.2.t,t.2.2.2.l,t.2.2.2.b,t.2.2.2.r])
def key5:List Int→Int
 | [n,t,l,b,r]=>(((n * 13+t) * 13+l) * 13+b) * 13+r
 | _=>0
def keyO (y:Int × Rk):Int:=key5 [y.1,y.2.t,y.2.l,y.2.b,y.2.r]
theorem lex5 {n t l b r n' t' l' b' r':Int} (h:0≤t∧t≤12∧0≤l∧l≤12∧0≤b∧b≤12∧0≤r∧r≤12) (h':0≤t'∧t'≤12∧0≤l'∧l'≤12∧0≤b'∧b'≤12∧0≤r'∧r'≤12):HT.lexLt [n,t,l,b,r] [n',t',l',b',r']=decide (key5 [n,t,l,b,r] < key5 [n',t',l',b',r']):=by
 simp only [HT.lexLt_cons,HT.lexLt_nil_nil,key5]
 by_cases e1:n=n'
 ·rw [if_pos e1]
  by_cases e2:t=t'
  ·rw [if_pos e2]
   by_cases e3:l=l'
   ·rw [if_pos e3]
    by_cases e4:b=b'
    ·rw [if_pos e4]
     by_cases e5:r=r'
     ·rw [if_pos e5]; exact (decide_eq_false (by lia)).symm
     ·rw [if_neg e5]; exact decide_eq_decide.mpr (by lia)
    ·rw [if_neg e4]; exact decide_eq_decide.mpr (by lia)
   ·rw [if_neg e3]; exact decide_eq_decide.mpr (by lia)
  ·rw [if_neg e2]; exact decide_eq_decide.mpr (by lia)
 ·rw [if_neg e1]; exact decide_eq_decide.mpr (by lia)
theorem Zig {p:Rk} (h:PcOk p):0≤p.t∧p.t≤12∧0≤p.l∧p.l≤12∧0≤p.b∧p.b≤12∧0≤p.r∧p.r≤12:=by
 obtain ⟨a,b,c,d,e,f⟩:=h
 lia
def OfAt (H:Hp) (t:Of1):Prop:=H t.1=some (.tup [.int t.2.2.1,.ref t.2.1])∧H t.2.1=some (.tup t.2.2.2.vs)
theorem OfAt.tups {H H':Hp} (s:∀ a xs,H a=some (.tup xs)→H' a=some (.tup xs)) {t:Of1} (h:OfAt H t):OfAt H' t:=⟨s _ _ h.1,s _ _ h.2⟩
def Zc3 (C:Addr):Sp:=fun vs H Q _=>∃ (a dx ls lt:Addr) (ss:List (Addr × Int × Int)) (tn:List Tk1),vs=[.ref a]∧BnAt C a dx ls lt H ss tn∧BnOk tn∧(∀ y∈offOf (whs 0 (tn.map fun t=>t.2.2.2.2)),PcOk y.2) ∧
 ∀ l ts H',Same H H'→H l=none→H' l=some (.lst (refs ts))→(∀ t∈ts,OfAt H' t)→(ts.map (fun t:Of1=>t.2.2)).Perm (offOf (whs 0 (tn.map fun t=>t.2.2.2.2)))→(ts.map fun t:Of1=>keyO t.2.2).Pairwise (·≤·)→Q (.ref l) H'
theorem Zf3:Zan ["self"] ["self"] (Zab Zba):=⟨rfl,rfl,rfl,by decide +kernel,rfl,by decide +kernel,by decide +kernel⟩
theorem Zew {f:Addr} {fd:FuncData} {C:Addr} (F:Fun K "offcuts" "Bench.offcuts" Zba f fd) (T:Txt mg tk) (BC:BCls K C) (M_Bench_whole_pieces:MdOk P w K mg base 1 C "whole_pieces" ["self"] (Zdk C)):FnOk P w K mg base CX0 2 f fd ["self"] (Zc3 C):=by
 have S:=Zf3
 refine F.ok S (fun vs H Q E h=>?_) (fun cdv A outer s H vs Q E hr h=>?_)
 ·obtain ⟨a,dx,ls,lt,ss,tn,rfl,_⟩:=h; rfl
 ·obtain ⟨a,dx,ls,lt,ss,tn,rfl,bn,⟨few,fk,fw⟩,pok,q⟩:=h
  refine ⟨_,(Zah (Zat (Zao (Zd6 hr) rfl T.z_sorted rfl (Zaa (Ze6 rfl (Zda (Zdd M_Bench_whole_pieces hr (pv 0))) (fun _ _ _ _ _=>(Zdb (K:=K) (n:=3) rfl (Zar (Zap (i:=0) (show List.Nodup (["number","piece","mark"]:List Str) from by decide +kernel) rfl (Or.inl rfl)) (Zar (Zap (i:=1) (show List.Nodup (["number","piece","mark"]:List Str) from by decide +kernel) rfl (Or.inl rfl)) (Zar (Zap (i:=2) (show List.Nodup (["number","piece","mark"]:List Str) from by decide +kernel) rfl (Or.inl rfl)) Zbx))))) (fun _ _ _ _ _=>(Zau Zih (pv 2) Zb8 (nomark _))) (fun _ _ _ _ _=>(Zas (Zaa (pv 0) (Zaa (pv 1) Zac)))) (N:=["number","piece","mark"]) (fr:=[none,none,none])) Zac)))),?_⟩
  refine ⟨_,rfl,a,dx,_,rfl,bn.ob,Zcv _ _ (by decide +kernel) (by decide +kernel),a,dx,ls,lt,ss,tn,rfl,bn,few,fk,fun l ts H1 s1 nl hl wr eq=>?_⟩
  have tl:=congrArg List.length eq
  rw [List.length_map] at tl
  refine ⟨l,rfl,⟨_,SqL.of hl⟩,fun acc hacc=>Zdl (K:=K) (a:=l) (ys:=refs ts) (fun i zs σ H'=>(∃ x y z,σ=[x,y,z])∧Same H1 H'∧∃ us:List Of1,zs=refs us∧(∀ t∈us,OfAt H' t)∧us.map (fun t:Of1=>t.2.2)=offOf ((ts.map fun t:Wr=>t.2.2).take i)) ⟨⟨none,none,none,rfl⟩,Same.new hacc,[],rfl,(fun t ht=>nomatch ht),rfl⟩ (fun i zs σ H' _ _ hp=>SqL.of (hp.2.1 _ _ hl)) ?_ ?_⟩
  ·rintro i x zs σ H' hx hi hl' hacc' ⟨⟨x0,y0,z0,rfl⟩,hs,us,rfl,wu,eu⟩
   obtain ⟨t,ht,rfl⟩:=Zbt hx
   obtain ⟨w1,w2⟩:=(wr t (List.mem_of_getElem? ht)).tups fun x xs e=>hs _ _ e
   obtain ⟨ta,tb,tn',tp,tm⟩:=t
   have tk1:(ts.map fun t:Wr=>t.2.2).take (i+1)=(ts.map fun t:Wr=>t.2.2).take i++[(tn',tp,tm)]:=by rw [List.take_succ,List.getElem?_map,ht]; rfl
   refine ⟨ta,_,rfl,SqT.of w1,rfl,_,_,rfl,_,_,rfl,_,_,rfl,rfl,?_⟩
   cases tm with
   | none =>
    refine ⟨_,rfl,rfl,true,congrArg V.bl (decide_eq_true rfl),?_⟩
    refine ⟨_,rfl,_,rfl,lenOk 2,fun r1 nr1=>?_⟩
    have s4:Same H' (upd H' r1 (.tup [.int tn',.ref tb])):=Same.new nr1
    have f4:(upd H' r1 (.tup [.int tn',.ref tb])) r1=some (.tup [.int tn',.ref tb]):=upd_same
    generalize upd H' r1 (.tup [.int tn',.ref tb])=H4 at s4 f4 ⊢
    have a4:=s4 _ _ hacc'
    refine fNx.mk (Nat.le_of_lt (Zaq (by rw [Zal]; lia))) hi hl' a4 ⟨⟨_,_,_,rfl⟩,fun d o e=>by rw [Zag (Zad e hacc)]; exact s4 _ _ (hs d o e),us++[(r1,tb,tn',tp)],by rw [refs,refs,List.map_append]; rfl,fun u hu=>?_,?_⟩
    ·have kp:∀ x xs,H4 x=some (.tup xs)→(upd H4 acc (.lst (refs us++[.ref r1]))) x=some (.tup xs):=fun x xs e=>by rw [Zag (fun z=>by rw [z,a4] at e; cases e)]; exact e
     rcases List.mem_append.mp hu with hu | hu
     ·exact ((wu u hu).tups fun x xs e=>s4 _ _ e).tups kp
     ·rw [List.mem_singleton.mp hu]; exact ⟨kp _ _ f4,kp _ _ (s4 _ _ w2)⟩
    ·rw [List.map_append,eu,tk1]
     unfold offOf
     rw [List.filterMap_append]; rfl
   | some m =>
    refine ⟨_,rfl,rfl,false,congrArg V.bl (decide_eq_false (by intro z; cases z)),?_⟩
    refine fSk.mk hi hl' hacc' ⟨⟨_,_,_,rfl⟩,hs,us,rfl,wu,?_⟩
    rw [eu,tk1]
    unfold offOf
    rw [List.filterMap_append]
    exact (List.append_nil _).symm
  ·rintro zs σ H' hl' hacc' ⟨_,hs,us,rfl,wu,eu⟩
   rw [Zal,← List.length_map (f:=fun t:Wr=>t.2.2),List.take_length,eq] at eu
   have rr:refs us=(us.map toR).map fun t=>V.ref t.1:=by rw [List.map_map]; rfl
   have pk:∀ u∈us,PcOk u.2.2.2:=fun u hu=>pok u.2.2 (by rw [← eu]; exact List.mem_map.mpr ⟨u,hu,rfl⟩)
   refine ⟨acc,us.map toR,0,3,key5,rfl,by rw [← rr]; exact SqL.of hacc',(by rw [List.length_map]; have h1:=congrArg List.length eu; rw [List.length_map] at h1; have h2:(offOf (whs 0 (tn.map fun t=>t.2.2.2.2))).length≤(whs 0 (tn.map fun t=>t.2.2.2.2)).length:=List.length_filterMap_le _ _; have h3:=fw; lia),fun t ht=>?_,fun t ht u hu=>?_,fun l2 ts2 nl2 pm2 srt=>?_⟩
   ·obtain ⟨x,hx,rfl⟩:=List.mem_map.mp ht
    exact ⟨(wu x hx).1,(wu x hx).2,rfl,rfl⟩
   ·obtain ⟨x,hx,rfl⟩:=List.mem_map.mp ht
    obtain ⟨y,hy,rfl⟩:=List.mem_map.mp hu
    exact lex5 (Zig (pk x hx)) (Zig (pk y hy))
   ·obtain ⟨us2,pu,rfl⟩:=Zhf (f:=toR) (l:=ts2) (m:=us.map toR) pm2 us rfl
    have r2:((us2.map toR).map fun t=>V.ref t.1)=refs us2:=by rw [List.map_map]; rfl
    rw [r2]
    have s5:Same H' (upd H' l2 (.lst (refs us2))):=Same.new nl2
    refine q l2 us2 _ (s1.trans (hs.trans s5)) (Zc0 (s1.trans hs) nl2) upd_same (fun t ht=>(wu t (pu.mem_iff.mp ht)).tups fun x xs e=>s5 _ _ e) (by rw [← eu]; exact pu.map _) ?_
    rw [List.map_map] at srt
    exact srt
def Zhb (C:Addr):Sp:=fun vs H Q _=>∃ (a dx l:Addr) (ss:List (Int × Int)),vs=[.ref a,.ref l]∧H a=some (.ins C dx [])∧TupL H l ss∧1≤ss.length∧ss.length≤4∧(∀ z∈ss,SOk z) ∧
 ∀ ls lt us H',H ls=none→H lt=none→ls≠lt→SameX a H H'→BnAt C a dx ls lt H' us []→us.map (fun t:Addr × Int × Int=>t.2)=ss→Q .non H'
theorem Zi9:Zan ["self","sheets"] ["self","sheets"] (Zab Zb4):=⟨rfl,rfl,rfl,by decide +kernel,rfl,by decide +kernel,by decide +kernel⟩
theorem Zhj {f:Addr} {fd:FuncData} {C:Addr} (F:Fun K "__init__" "Bench.__init__" Zb4 f fd) (BC:BCls K C) (D_check_sheets:DefOk P w K mg base 4 "check_sheets" ["sheets"] Zea):FnOk P w K mg base CX0 5 f fd ["self","sheets"] (Zhb C):=by
 have S:=Zi9
 refine F.ok S (fun vs H Q E h=>?_) (fun cdv A outer s H vs Q E hr h=>?_)
 ·obtain ⟨a,dx,l,ss,rfl,_⟩:=h; rfl
 ·obtain ⟨a,dx,l,ss,rfl,hob,tl,l1,l2,so,q⟩:=h
  refine ⟨_,(Zae (Zbw (Za2 D_check_sheets hr (Zaa (pv 1) Zac)))
   (Zae (Zdz (pv 0) (Zef rfl (Zda (pv 1)) (fun _ _ _ _ _=>(Zdb (K:=K) (n:=2) rfl (Zar (Zap (i:=0) (show List.Nodup (["width","height"]:List Str) from by decide +kernel) rfl (Or.inl rfl)) (Zar (Zap (i:=1) (show List.Nodup (["width","height"]:List Str) from by decide +kernel) rfl (Or.inl rfl)) Zbx)))) (fun _ _ _ _ _=>(Zas (Zaa Zaf (Zaa Zaf (Zaa (pv 1) (Zaa (pv 0) Zac)))))) (N:=["width","height"]) (fr:=[none,none])) rfl)
   (Zah (Zdz (pv 0) (Zcy Zac) rfl)))),?_⟩
  refine ⟨_,rfl,l,ss,rfl,tl,l1,l2,so,fun H1 s1=>?_⟩
  obtain ⟨ts,t1,t2,t3⟩:=tl.same s1
  have tl':=congrArg List.length t3
  rw [List.length_map] at tl'
  refine ⟨_,rfl,l,rfl,⟨_,SqL.of t1⟩,fun acc hacc=>Zdh (K:=K) (a:=l) (ys:=refs ts) (fun i zs σ H'=>(∃ x y,σ=[x,y])∧Same H1 H'∧∃ us:List (Addr × Int × Int),zs=refs us∧(∀ t∈us,H' t.1=some (.tup (Rk.vs ⟨0,0,t.2.2,t.2.1⟩)))∧us.map (fun t:Addr × Int × Int=>t.2)=ss.take i) ⟨⟨none,none,rfl⟩,Same.new hacc,[],rfl,(fun t ht=>nomatch ht),rfl⟩ (fun i zs σ H' _ _ hp=>SqL.of (hp.2.1 _ _ t1)) ?_ ?_⟩
  ·rintro i x zs σ H' hx hi hl' hacc' ⟨⟨x0,y0,rfl⟩,hs,us,rfl,wu,eu⟩
   obtain ⟨t,ht,rfl⟩:=Zbt hx
   have w1:=hs _ _ (t2 t (List.mem_of_getElem? ht))
   have tk1:ss.take (i+1)=ss.take i++[t.2]:=by rw [← t3,List.take_succ,List.getElem?_map,ht]; rfl
   refine ⟨t.1,_,rfl,SqT.of w1,rfl,_,_,rfl,_,_,rfl,rfl,_,rfl,_,rfl,lenOk 4,fun r1 nr1=>?_⟩
   have s4:Same H' (upd H' r1 (.tup [.int 0,.int 0,.int t.2.2,.int t.2.1])):=Same.new nr1
   have f4:(upd H' r1 (.tup [.int 0,.int 0,.int t.2.2,.int t.2.1])) r1=some (.tup (Rk.vs ⟨0,0,t.2.2,t.2.1⟩)):=upd_same
   generalize upd H' r1 (.tup [.int 0,.int 0,.int t.2.2,.int t.2.1])=H4 at s4 f4 ⊢
   have a4:=s4 _ _ hacc'
   refine cNx.mk (Nat.le_of_lt (Zaq (by rw [Zal]; lia))) hi hl' a4 ⟨⟨_,_,rfl⟩,fun d o e=>by rw [Zag (Zad e hacc)]; exact s4 _ _ (hs d o e),us++[(r1,t.2)],by rw [refs,refs,List.map_append]; rfl,fun u hu=>?_,?_⟩
   ·have kp:∀ x xs,H4 x=some (.tup xs)→(upd H4 acc (.lst (refs us++[.ref r1]))) x=some (.tup xs):=fun x xs e=>by rw [Zag (fun z=>by rw [z,a4] at e; cases e)]; exact e
    rcases List.mem_append.mp hu with hu | hu
    ·exact kp _ _ (s4 _ _ (wu u hu))
    ·rw [List.mem_singleton.mp hu]; exact kp _ _ f4
   ·rw [List.map_append,eu,tk1]; rfl
  ·rintro zs σ H2 hl' hacc' ⟨_,hs,us,rfl,wu,eu⟩
   rw [Zal,tl',List.take_length] at eu
   have s2:=s1.trans hs
   have ob2:=s2 _ _ hob
   refine ⟨_,rfl,a,C,dx,_,rfl,ob2,BC.cl,BC.n_stock,(by show 0 < 1000; decide),?_⟩
   have x3:SameX a H2 (upd H2 a (.ins C dx (putF "stock" (.ref acc) []))):=SameX.upd
   have e3:(upd H2 a (.ins C dx (putF "stock" (.ref acc) []))) a=some (.ins C dx (putF "stock" (.ref acc) [])):=upd_same
   generalize upd H2 a (.ins C dx (putF "stock" (.ref acc) []))=H3 at x3 e3 ⊢
   have na:∀ {x:Addr} {o:HO},H2 x=some o→(∀ C dx fs,o≠.ins C dx fs)→x≠a:=fun e n z=>by rw [z,ob2] at e; cases e; exact n _ _ _ rfl
   refine ⟨lenOk 0,fun lt nlt=>?_⟩
   have s4:Same H3 (upd H3 lt (.lst [])):=Same.new nlt
   have e4:(upd H3 lt (.lst [])) lt=some (.lst []):=upd_same
   generalize upd H3 lt (.lst [])=H4 at s4 e4 ⊢
   have ob4:=s4 _ _ e3
   refine ⟨_,rfl,a,C,dx,_,rfl,ob4,BC.cl,BC.n_taken,(by show 1 < 1000; decide),?_⟩
   have x5:SameX a H4 (upd H4 a (.ins C dx (putF "taken" (.ref lt) (putF "stock" (.ref acc) [])))):=SameX.upd
   have lta:lt≠a:=fun z=>by rw [z,ob4] at e4; cases e4
   have x25:SameX a H2 (upd H4 a (.ins C dx (putF "taken" (.ref lt) (putF "stock" (.ref acc) [])))):=x3.trans (s4.x.trans x5)
   have nlt0:H lt=none:=by
    cases z:H lt with
    | none=>rfl
    | some o =>
     have e3':=s2 _ _ z
     by_cases c:lt=a
     ·exact absurd c lta
     ·rw [x3 _ _ c e3'] at nlt; cases nlt
   have nal:acc≠lt:=fun z=>by rw [← z,x3 _ _ (na hacc' (by intro _ _ _ z; cases z)) hacc'] at nlt; cases nlt
   refine q acc lt us _ (Zc0 s1 hacc) nlt0 nal (s2.x.trans x25) ⟨upd_same,?_,fun t ht=>?_,?_,(fun t ht=>nomatch ht),List.nodup_nil⟩ eu
   ·exact x25 _ _ (na hacc' (by intro _ _ _ z; cases z)) hacc'
   ·exact x25 _ _ (na (wu t ht) (by intro _ _ _ z; cases z)) (wu t ht)
   ·exact x5 _ _ lta e4
theorem Zk7 {L M:List Int} (h:L.Perm M):L.sum=M.sum:=by
 induction h with
 | nil=>rfl
 | cons x _ ih=>rw [List.sum_cons,List.sum_cons,ih]
 | swap x y l=>rw [List.sum_cons,List.sum_cons,List.sum_cons,List.sum_cons]; lia
 | trans _ _ a b=>exact a.trans b
def aSum (L:List Rk):Int:=(L.map arR).sum
def Zha (C:Addr):Sp:=fun vs H Q _=>∃ (a dx ls lt:Addr) (ss:List (Addr × Int × Int)) (tn:List Tk1) (nz:List (Int × Int)),vs=[.ref a]∧BnAt C a dx ls lt H ss tn∧BnOk tn∧(∀ t∈ss,SOk t.2)∧(∀ y∈offOf (whs 0 (tn.map fun t=>t.2.2.2.2)),PcOk y.2)∧(∀ y∈pnsOf (whs 0 (tn.map fun t=>t.2.2.2.2)),PcOk y) ∧
 (∀ (i:Nat) (t:Tk1),tn[i]?=some t→0≤t.2.1∧∃ z,nz[i]?=some z∧(ss.map (·.2))[t.2.1.toNat]?=some z)∧nz.length=tn.length ∧
 ∀ c H',Same H H'→H' c=some (.tup [.int (nz.map fun z=>z.2 * z.1).sum,.int (aSum (pnsOf (whs 0 (tn.map fun t=>t.2.2.2.2)))),.int (aSum ((offOf (whs 0 (tn.map fun t=>t.2.2.2.2))).map (·.2)))])→Q (.ref c) H'
theorem Zh6:Zan ["self","taken","cut","left"] ["self"] (Zab Zbs):=⟨rfl,rfl,rfl,by decide +kernel,rfl,by decide +kernel,by decide +kernel⟩
theorem Zga {f:Addr} {fd:FuncData} {C:Addr} (F:Fun K "areas" "Bench.areas" Zbs f fd) (T:Txt mg tk) (BC:BCls K C) (D_area_of:DefOk P w K mg base 1 "area_of" ["rectangle"] Ze5) (M_Bench_panes_cut:MdOk P w K mg base 2 C "panes_cut" ["self"] (Zc9 C)) (M_Bench_offcuts:MdOk P w K mg base 2 C "offcuts" ["self"] (Zc3 C)):FnOk P w K mg base CX0 3 f fd ["self"] (Zha C):=by
 have S:=Zh6
 refine F.ok S (fun vs H Q E h=>?_) (fun cdv A outer s H vs Q E hr h=>?_)
 ·obtain ⟨a,dx,ls,lt,ss,tn,nz,rfl,_⟩:=h; rfl
 ·obtain ⟨a,dx,ls,lt,ss,tn,nz,rfl,bn,bok,so,pok,ppk,nzi,nzl,q⟩:=h
  refine ⟨_,(Zae (Zav (i:=1) S.nd rfl (Or.inl rfl) (Zao Zhz rfl T.z_sum rfl (Zaa (Zef rfl (Zda (Zcg (pv 0) rfl)) (fun _ _ _ _ _=>(Zdb (K:=K) (n:=2) rfl (Zar (Zap (i:=0) (show List.Nodup (["number","entries","self"]:List Str) from by decide +kernel) rfl (Or.inl rfl)) (Zar (Zap (i:=1) (show List.Nodup (["number","entries","self"]:List Str) from by decide +kernel) rfl (Or.inl rfl)) Zbx)))) (fun _ _ _ _ _=>(Za2 D_area_of hr (Zaa (Zam (ix_listK (K:=K)) (pe_fldK (K:=K) (pv 2) rfl) (pv 0) (fun _ _=>rfl)) Zac))) (N:=["number","entries","self"]) (fr:=[none,none,some 0])) Zac)))
   (Zae (Zav (i:=2) S.nd rfl (Or.inl rfl) (Zao Zhz rfl T.z_sum rfl (Zaa (Zef rfl (Zda (Zdd M_Bench_panes_cut hr (pv 0))) (fun _ _ _ _ _=>(Zap (i:=0) (show List.Nodup (["piece"]:List Str) from by decide +kernel) rfl (Or.inl rfl))) (fun _ _ _ _ _=>(Za2 D_area_of hr (Zaa (pv 0) Zac))) (N:=["piece"]) (fr:=[none])) Zac)))
   (Zae (Zav (i:=3) S.nd rfl (Or.inl rfl) (Zao Zhz rfl T.z_sum rfl (Zaa (Zef rfl (Zda (Zdd M_Bench_offcuts hr (pv 0))) (fun _ _ _ _ _=>(Zdb (K:=K) (n:=2) rfl (Zar (Zap (i:=0) (show List.Nodup (["number","piece"]:List Str) from by decide +kernel) rfl (Or.inl rfl)) (Zar (Zap (i:=1) (show List.Nodup (["number","piece"]:List Str) from by decide +kernel) rfl (Or.inl rfl)) Zbx)))) (fun _ _ _ _ _=>(Za2 D_area_of hr (Zaa (pv 1) Zac))) (N:=["number","piece"]) (fr:=[none,none])) Zac)))
   (Zah (Zat (Zas (Zaa (pv 1) (Zaa (pv 2) (Zaa (pv 3) Zac))))))))),?_⟩
  refine ⟨_,rfl,a,C,dx,_,_,rfl,bn.ob,BC.cl,BC.n_taken,Zkj _ _,lt,rfl,⟨_,SqL.of bn.tak⟩,fun acc hacc=>Zdh (K:=K) (a:=lt) (ys:=refs tn) (fun i zs σ H'=>(∃ x y,σ=[x,y,some (.ref a)])∧Same H H'∧zs=((nz.take i).map fun z=>V.int (z.2 * z.1))) ⟨⟨none,none,rfl⟩,Same.new hacc,rfl⟩ (fun i zs σ H' _ _ hp=>SqL.of (hp.2.1 _ _ bn.tak)) ?_ ?_⟩
  ·rintro i x zs σ H' hx hi hl' hacc' ⟨⟨x0,y0,rfl⟩,hs,rfl⟩
   obtain ⟨t,ht,rfl⟩:=Zbt hx
   have bn':=bn.same hs
   obtain ⟨g1,g2,g3⟩:=bn'.tks t (List.mem_of_getElem? ht)
   obtain ⟨p0,z,hz,hz2⟩:=nzi i t ht
   rw [List.getElem?_map] at hz2
   obtain ⟨u,hu',rfl⟩:=Option.map_eq_some_iff.mp hz2
   have um:=List.mem_of_getElem? hu'
   have at1:atI (refs ss) t.2.1=some (.ref u.1):=by
    have:=Zcw (xs:=refs ss) (j:=t.2.1.toNat) (v:=.ref u.1) (by unfold refs; rw [List.getElem?_map,hu']; rfl)
    rwa [Int.toNat_of_nonneg p0] at this
   obtain ⟨w1,w2,h1,h2⟩:=so u um
   refine ⟨t.1,_,rfl,SqT.of g1,rfl,_,_,rfl,_,_,rfl,rfl,?_⟩
   refine ⟨_,rfl,a,C,dx,_,_,rfl,bn'.ob,BC.cl,BC.n_stock,bnF_s _ _,_,rfl,ls,_,_,_,rfl,rfl,SqL.of bn'.lst,at1,u.1,_,rfl,bn'.stk u um,⟨Int.le_refl _,show (0:Int) < u.2.2 by lia,h2,Int.le_refl _,show (0:Int) < u.2.1 by lia,w2⟩,?_⟩
   have av:arR ⟨0,0,u.2.2,u.2.1⟩=u.2.2 * u.2.1:=by show (u.2.2 - 0) * (u.2.1 - 0)=_; rw [Int.sub_zero,Int.sub_zero]
   rw [av]
   refine cNx.mk (Nat.le_of_lt (Zaq (by rw [Zal]; have:=bok.1; lia))) hi hl' hacc' ⟨⟨_,_,rfl⟩,fun d o e=>by rw [Zag (Zad e hacc)]; exact hs d o e,?_⟩
   rw [List.take_succ,hz,List.map_append]; rfl
  ·rintro zs σ H1 hl' hacc' ⟨_,hs,rfl⟩
   rw [Zal,← nzl,List.take_length] at hacc'
   have in1:(nz.map fun z=>V.int (z.2 * z.1))=(nz.map fun z=>z.2 * z.1).map V.int:=by rw [List.map_map]; rfl
   rw [in1] at hacc'
   refine ⟨acc,_,rfl,SqL.of hacc',rfl,?_⟩
   have bn1:=bn.same hs
   refine ⟨_,rfl,a,dx,_,rfl,bn1.ob,Zcv _ _ (by decide +kernel) (by decide +kernel),a,dx,ls,lt,ss,tn,rfl,bn1,bok,fun l2 ts2 H2 s2 nl2 hl2 w2 eq2=>?_⟩
   have tl2:=congrArg List.length eq2
   rw [List.length_map] at tl2
   have pl2:(pnsOf (whs 0 (tn.map fun t=>t.2.2.2.2))).length≤(whs 0 (tn.map fun t=>t.2.2.2.2)).length:=List.length_filterMap_le _ _
   have bw:=bok.2.2
   refine ⟨l2,rfl,⟨_,SqL.of hl2⟩,fun acc2 hacc2=>Zdh (K:=K) (a:=l2) (ys:=refs ts2) (fun i zs σ H'=>(∃ x,σ=[x])∧Same H2 H'∧zs=((((ts2.map fun t:Pr1=>t.2).take i).map arR).map V.int)) ⟨⟨none,rfl⟩,Same.new hacc2,rfl⟩ (fun i zs σ H' _ _ hp=>SqL.of (hp.2.1 _ _ hl2)) ?_ ?_⟩
   ·rintro i x zs σ H' hx hi hl' hacc2' ⟨⟨x0,rfl⟩,hs2,rfl⟩
    obtain ⟨t,ht,rfl⟩:=Zbt hx
    have tm:=List.mem_of_getElem? ht
    refine ⟨_,rfl,t.1,t.2,rfl,hs2 _ _ (w2 t tm),ppk t.2 (by rw [← eq2]; exact List.mem_map.mpr ⟨t,tm,rfl⟩),?_⟩
    refine cNx.mk (Nat.le_of_lt (Zaq (by rw [Zal]; lia))) hi hl' hacc2' ⟨⟨_,rfl⟩,fun d o e=>by rw [Zag (Zad e hacc2)]; exact hs2 d o e,?_⟩
    rw [List.take_succ,List.getElem?_map,ht,List.map_append,List.map_append]; rfl
   ·rintro zs σ H3 hl' hacc2' ⟨_,hs3,rfl⟩
    rw [Zal,← List.length_map (f:=fun t:Pr1=>t.2),List.take_length,eq2] at hacc2'
    refine ⟨acc2,_,rfl,SqL.of hacc2',rfl,?_⟩
    have s3:=s2.trans hs3
    have bn3:=bn1.same s3
    refine ⟨_,rfl,a,dx,_,rfl,bn3.ob,Zcv _ _ (by decide +kernel) (by decide +kernel),a,dx,ls,lt,ss,tn,rfl,bn3,bok,pok,fun l4 ts4 H4 s4 nl4 hl4 w4 pm4 _=>?_⟩
    have tl4:=pm4.length_eq
    rw [List.length_map] at tl4
    have pl4:(offOf (whs 0 (tn.map fun t=>t.2.2.2.2))).length≤(whs 0 (tn.map fun t=>t.2.2.2.2)).length:=List.length_filterMap_le _ _
    refine ⟨l4,rfl,⟨_,SqL.of hl4⟩,fun acc4 hacc4=>Zdh (K:=K) (a:=l4) (ys:=refs ts4) (fun i zs σ H'=>(∃ x y,σ=[x,y])∧Same H4 H'∧zs=((((ts4.map fun t:Of1=>t.2.2.2).take i).map arR).map V.int)) ⟨⟨none,none,rfl⟩,Same.new hacc4,rfl⟩ (fun i zs σ H' _ _ hp=>SqL.of (hp.2.1 _ _ hl4)) ?_ ?_⟩
    ·rintro i x zs σ H' hx hi hl' hacc4' ⟨⟨x0,y0,rfl⟩,hs5,rfl⟩
     obtain ⟨t,ht,rfl⟩:=Zbt hx
     have tm:=List.mem_of_getElem? ht
     obtain ⟨o1,o2⟩:=(w4 t tm).tups fun x xs e=>hs5 _ _ e
     refine ⟨t.1,_,rfl,SqT.of o1,rfl,_,_,rfl,_,_,rfl,rfl,_,rfl,t.2.1,t.2.2.2,rfl,o2,pok t.2.2 (pm4.mem_iff.mp (List.mem_map.mpr ⟨t,tm,rfl⟩)),?_⟩
     refine cNx.mk (Nat.le_of_lt (Zaq (by rw [Zal]; lia))) hi hl' hacc4' ⟨⟨_,_,rfl⟩,fun d o e=>by rw [Zag (Zad e hacc4)]; exact hs5 d o e,?_⟩
     rw [List.take_succ,List.getElem?_map,ht,List.map_append,List.map_append]; rfl
    ·rintro zs σ H5 hl' hacc4' ⟨_,hs5,rfl⟩
     rw [Zal,← List.length_map (f:=fun t:Of1=>t.2.2.2),List.take_length] at hacc4'
     refine ⟨acc4,_,rfl,SqL.of hacc4',rfl,?_⟩
     have se:((ts4.map fun t:Of1=>t.2.2.2).map arR).sum=aSum ((offOf (whs 0 (tn.map fun t=>t.2.2.2.2))).map (·.2)):=by
      have e5:(ts4.map fun t:Of1=>t.2.2.2)=(ts4.map fun t:Of1=>t.2.2).map (fun y:Int × Rk=>y.2):=by rw [List.map_map]; rfl
      rw [e5]
      exact Zk7 ((pm4.map (fun y:Int × Rk=>y.2)).map arR)
     rw [se]
     refine ⟨_,rfl,_,rfl,_,rfl,lenOk 3,fun c nc=>?_⟩
     exact q c _ (hs.trans (s3.trans (s4.trans (hs5.trans (Same.new nc))))) upd_same
def glF (t:Want):List (Str × V):=[(("width":Str),V.int t.1),(("height":Str),V.int t.2.1)]
def hld (t:Want) (p:Rk):Prop:=heldW t (p.len true) (p.len false)≠[]
abbrev shR (z:Int × Int):Rk:=⟨0,0,z.2,z.1⟩
def key6:List Int→Int
 | [ar,n,t,l,b,r]=>((((ar * 1000+n) * 13+t) * 13+l) * 13+b) * 13+r
 | _=>0
def keyG (y:Int × Rk):Int:=key6 [arR y.2,y.1,y.2.t,y.2.l,y.2.b,y.2.r]
theorem lex6 {ar ar' n t l b r n' t' l' b' r':Int} (hn:0≤n∧n≤999) (hn':0≤n'∧n'≤999) (h:0≤t∧t≤12∧0≤l∧l≤12∧0≤b∧b≤12∧0≤r∧r≤12) (h':0≤t'∧t'≤12∧0≤l'∧l'≤12∧0≤b'∧b'≤12∧0≤r'∧r'≤12):HT.lexLt [ar,n,t,l,b,r] [ar',n',t',l',b',r']=decide (key6 [ar,n,t,l,b,r] < key6 [ar',n',t',l',b',r']):=by
 rw [HT.lexLt_cons]
 have e5:=lex5 (n:=n) (n':=n') h h'
 by_cases e:ar=ar'
 ·rw [if_pos e,e5]
  apply decide_eq_decide.mpr
  simp only [key5,key6]
  lia
 ·rw [if_neg e]
  apply decide_eq_decide.mpr
  simp only [key6]
  lia
def key2:List Int→Int
 | [ar,k]=>ar * 10+k
 | _=>0
theorem lex2 {ar ar' k k':Int} (h:0≤k∧k≤9) (h':0≤k'∧k'≤9):HT.lexLt [ar,k] [ar',k']=decide (key2 [ar,k] < key2 [ar',k']):=by
 rw [HT.lexLt_cons,HT.lexLt_cons,HT.lexLt_nil_nil]
 by_cases e:ar=ar'
 ·rw [if_pos e]
  by_cases e2:k=k'
  ·rw [if_pos e2]; exact (decide_eq_false (by simp only [key2]; lia)).symm
  ·rw [if_neg e2]; apply decide_eq_decide.mpr; simp only [key2]; lia
 ·rw [if_neg e]; apply decide_eq_decide.mpr; simp only [key2]; lia
abbrev Gd:=Addr × Addr × Int × Rk
def GdAt (H:Hp) (t:Gd):Prop:=H t.1=some (.tup [.int (arR t.2.2.2),.int t.2.2.1,.ref t.2.1])∧H t.2.1=some (.tup t.2.2.2.vs)
theorem GdAt.tups {H H':Hp} (s:∀ a xs,H a=some (.tup xs)→H' a=some (.tup xs)) {t:Gd} (h:GdAt H t):GdAt H' t:=⟨s _ _ h.1,s _ _ h.2⟩
def toG (t:Gd):Rwt:=(t.1,[arR t.2.2.2,t.2.2.1],t.2.1,[t.2.2.2.t,t.2.2.2.l,t.2.2.2.b,t.2.2.2.r])
noncomputable instance hldD (t:Want) (p:Rk):Decidable (hld t p):=inferInstanceAs (Decidable (heldW t (p.len true) (p.len false)≠[]))
def Zdq (C cG:Addr):Sp:=fun vs H Q E=>∃ (a dx ls lt c:Addr) (ss:List (Addr × Int × Int)) (tn:List Tk1) (t:Want),vs=[.ref a,.ref c]∧BnAt C a dx ls lt H ss tn∧BnOk tn∧ss.length≤4∧(∀ t∈ss,SOk t.2)∧H c=some (.tup [.int t.1,.int t.2.1,.bl t.2.2]) ∧
 (∀ y∈offOf (whs 0 (tn.map fun t=>t.2.2.2.2)),PcOk y.2∧0≤y.1∧y.1≤999) ∧
 (∀ y∈offOf (whs 0 (tn.map fun t=>t.2.2.2.2)),hld t y.2→(∀ y'∈offOf (whs 0 (tn.map fun t=>t.2.2.2.2)),hld t y'.2→keyG y≤keyG y')→∀ r b H',Same H H'→H' r=some (.tup [.int y.1,.ref b])→H' b=some (.tup y.2.vs)→Q (.ref r) H') ∧
 ((∀ y∈offOf (whs 0 (tn.map fun t=>t.2.2.2.2)),¬ hld t y.2)→∀ (k:Nat) (u:Addr × Int × Int),ss[k]?=some u→hld t (shR u.2)→(∀ (k':Nat) (u':Addr × Int × Int),ss[k']?=some u'→hld t (shR u'.2)→key2 [arR (shR u.2),k]≤key2 [arR (shR u'.2),k']) →
  ∀ r tA dA eA H',H dA=none→SameX lt H H'→BnAt C a dx ls lt H' ss (tn++[(tA,(k:Int),dA,[(rkK (shR u.2),.ref eA)],[(shR u.2,.w none)])])→H' r=some (.tup [.int tn.length,.ref u.1])→Q (.ref r) H') ∧
 ((∀ y∈offOf (whs 0 (tn.map fun t=>t.2.2.2.2)),¬ hld t y.2)→(∀ u∈ss,¬ hld t (shR u.2))→Rf H E cG fun fs _=>fs=glF t)
abbrev N_pf:List Str:=["self","want","good","new","number"]
theorem Zen:Zan N_pf ["self","want"] (Zab Za5):=⟨rfl,rfl,rfl,by decide +kernel,rfl,by decide +kernel,by decide +kernel⟩
theorem Zd1 {f:Addr} {fd:FuncData} {C cG:Addr} (F:Fun K "piece_for" "Bench.piece_for" Za5 f fd) (T:Txt mg tk) (BC:BCls K C) (X_NoGlass:XMkOk P w K mg base 1 "NoGlass" cG ["self","width","height"] ["width","height"]) (D_area_of:DefOk P w K mg base 1 "area_of" ["rectangle"] Ze5) (D_holds:DefOk P w K mg base 3 "holds" ["piece","want"] Zg9) (M_Bench_offcuts:MdOk P w K mg base 2 C "offcuts" ["self"] (Zc3 C)):FnOk P w K mg base (CX1 P w) 4 f fd ["self","want"] (Zdq C cG):=by
 have S:=Zen
 refine F.okx S (fun vs H Q E h=>?_) (fun cdv A outer s H vs Q E hr h=>?_)
 ·obtain ⟨a,dx,ls,lt,c,ss,tn,t,rfl,_⟩:=h; rfl
 ·obtain ⟨a,dx,ls,lt,c,ss,tn,t,rfl,bn,bok,s4,so,hc,ok1,qA,qB,qC⟩:=h
  have hu:=hu_of hr
  refine ⟨_,(Zae (Zfe rfl (Zap (i:=2) S.nd rfl (Or.inl rfl)) (Zda (Zdd M_Bench_offcuts hr (pv 0))) (fun _ _ _ _ _=>(Zdb (K:=K) (n:=2) rfl (Zar (Zap (i:=0) (show List.Nodup (["number","piece","want"]:List Str) from by decide +kernel) rfl (Or.inl rfl)) (Zar (Zap (i:=1) (show List.Nodup (["number","piece","want"]:List Str) from by decide +kernel) rfl (Or.inl rfl)) Zbx)))) (fun _ _ _ _ _=>(Zb7 (Za2 D_holds hr (Zaa (pv 1) (Zaa (pv 2) Zac))))) (fun _ _ _ _ _=>(Zas (Zaa (Za2 D_area_of hr (Zaa (pv 1) Zac)) (Zaa (pv 0) (Zaa (pv 1) Zac))))) (N:=["number","piece","want"]) (fr:=[none,none,some 1]))
   (Zae (Zbm (Zdx (pv 2) (fun _=>rfl)) (Zah (Zat (pe_slice sl_tup (Zao (call_minR hr) rfl T.z_min rfl (Zaa (pv 2) Zac)) (po_some Zaf) po_none))) Zaw)
   (Zae (Zfe rfl (Zap (i:=3) S.nd rfl (Or.inl rfl)) (Zju rfl T.z_enumerate (Zaa (Zcg (pv 0) rfl) Zac)) (fun _ _ _ _ _=>(Zdb (K:=K) (n:=2) rfl (Zar (Zap (i:=0) (show List.Nodup (["number","piece","want"]:List Str) from by decide +kernel) rfl (Or.inl rfl)) (Zar (Zap (i:=1) (show List.Nodup (["number","piece","want"]:List Str) from by decide +kernel) rfl (Or.inl rfl)) Zbx)))) (fun _ _ _ _ _=>(Zb7 (Za2 D_holds hr (Zaa (pv 1) (Zaa (pv 2) Zac))))) (fun _ _ _ _ _=>(Zas (Zaa (Za2 D_area_of hr (Zaa (pv 1) Zac)) (Zaa (pv 0) Zac)))) (N:=["number","piece","want"]) (fr:=[none,none,some 1]))
   (Zae (Zbm (Zck (Zdx (pv 3) (fun _=>rfl))) (Zah (Zk5 Zjc X_NoGlass hr (Zaa (Zam Zaj (pv 1) Zaf (fun _ _=>rfl)) (Zaa (Zam Zaj (pv 1) Zaf (fun _ _=>rfl)) Zac)))) Zaw)
   (Zae (Zav (i:=4) S.nd rfl (Or.inl rfl) (Zam Zaj (Zao (call_minI hr) rfl T.z_min rfl (Zaa (pv 3) Zac)) Zaf (fun _ _=>rfl)))
   (Zae (Zbw (Zeg PySem.F.plainAttrs_list PySem.F.slot_list_append PySem.F.type_list_append Za9 (Zcg (pv 0) rfl) (Zaa (Zas (Zaa (pv 4) (Zaa (pe_dispT hu (Zam Za8 (Zcg (pv 0) rfl) (pv 4) (fun _ _=>rfl)) (Zas (Zaa (Za3 (v:=.str "whole") rfl T.g_WHOLE ⟨_,rfl⟩) (Zaa Zb8 Zac)))) Zac))) Zac)))
   (Zah (Zat (Zas (Zaa (Za7 Zgo (Zao Za1 rfl T.z_len rfl (Zaa (Zcg (pv 0) rfl) Zac)) Zaf) (Zaa (Zam Za8 (Zcg (pv 0) rfl) (pv 4) (fun _ _=>rfl)) Zac))))))))))),?_⟩
  generalize hof:offOf (whs 0 (tn.map fun t=>t.2.2.2.2))=off at ok1 qA qB qC
  refine ⟨_,rfl,a,dx,_,rfl,bn.ob,Zcv _ _ (by decide +kernel) (by decide +kernel),a,dx,ls,lt,ss,tn,rfl,bn,bok,(fun y hy=>by rw [hof] at hy; exact (ok1 y hy).1),fun l ts H1 s1 nl hl wf pm srt=>?_⟩
  rw [hof] at pm
  have bw:=bok.2.2
  have ol:off.length≤(whs 0 (tn.map fun t=>t.2.2.2.2)).length:=by rw [← hof]; exact List.length_filterMap_le _ _
  have tl:=pm.length_eq
  rw [List.length_map] at tl
  refine ⟨l,rfl,⟨_,SqL.of hl⟩,fun acc hacc=>Zdl (K:=K) (a:=l) (ys:=refs ts) (fun i zs σ H'=>(∃ x y,σ=[x,y,some (.ref c)])∧Same H1 H'∧∃ us:List Gd,zs=refs us∧(∀ t∈us,GdAt H' t)∧us.map (fun t:Gd=>t.2.2)=((ts.map fun t:Of1=>t.2.2).take i).filter fun y=>decide (hld t y.2)) ⟨⟨none,none,rfl⟩,Same.new hacc,[],rfl,(fun t ht=>nomatch ht),rfl⟩ (fun i zs σ H' _ _ hp=>SqL.of (hp.2.1 _ _ hl)) ?_ ?_⟩
  ·rintro i x zs σ H' hx hi hl' hacc' ⟨⟨x0,y0,rfl⟩,hs,us,rfl,wu,eu⟩
   obtain ⟨o,ho,rfl⟩:=Zbt hx
   have om:=List.mem_of_getElem? ho
   obtain ⟨o1,o2⟩:=(wf o om).tups fun x xs e=>hs _ _ e
   have tk1:(ts.map fun t:Of1=>t.2.2).take (i+1)=(ts.map fun t:Of1=>t.2.2).take i++[o.2.2]:=by rw [List.take_succ,List.getElem?_map,ho]; rfl
   have pk:=(ok1 o.2.2 (pm.mem_iff.mp (List.mem_map.mpr ⟨o,om,rfl⟩))).1
   refine ⟨o.1,_,rfl,SqT.of o1,rfl,_,_,rfl,_,_,rfl,rfl,?_⟩
   refine ⟨_,rfl,_,rfl,o.2.1,c,o.2.2.2,t,rfl,o2,(s1.trans hs) _ _ hc,fun H2 s2=>⟨_,rfl,?_⟩⟩
   have hdec:decide (heldW t (o.2.2.2.len true) (o.2.2.2.len false)≠[])=decide (hld t o.2.2.2):=rfl
   rw [hdec]
   have hacc2:=s2 _ _ hacc'
   cases hd:decide (hld t o.2.2.2) with
   | true =>
    refine ⟨_,rfl,o.2.1,o.2.2.2,rfl,s2 _ _ o2,pk,_,rfl,_,rfl,lenOk 3,fun r1 nr1=>?_⟩
    have s4:Same H2 (upd H2 r1 (.tup [.int (arR o.2.2.2),.int o.2.2.1,.ref o.2.1])):=Same.new nr1
    have f4:(upd H2 r1 (.tup [.int (arR o.2.2.2),.int o.2.2.1,.ref o.2.1])) r1=some (.tup [.int (arR o.2.2.2),.int o.2.2.1,.ref o.2.1]):=upd_same
    generalize upd H2 r1 (.tup [.int (arR o.2.2.2),.int o.2.2.1,.ref o.2.1])=H4 at s4 f4 ⊢
    have s24:=s2.trans s4
    have a4:=s4 _ _ hacc2
    refine fNx.mk (Nat.le_of_lt (Zaq (by rw [Zal]; lia))) hi hl' a4 ⟨⟨_,_,rfl⟩,fun d o e=>by rw [Zag (Zad e hacc)]; exact s24 _ _ (hs d o e),us++[(r1,o.2.1,o.2.2)],by rw [refs,refs,List.map_append]; rfl,fun u hu=>?_,?_⟩
    ·have kp:∀ x xs,H4 x=some (.tup xs)→(upd H4 acc (.lst (refs us++[.ref r1]))) x=some (.tup xs):=fun x xs e=>by rw [Zag (fun z=>by rw [z,a4] at e; cases e)]; exact e
     rcases List.mem_append.mp hu with hu | hu
     ·exact ((wu u hu).tups fun x xs e=>s24 _ _ e).tups kp
     ·rw [List.mem_singleton.mp hu]; exact ⟨kp _ _ f4,kp _ _ (s24 _ _ o2)⟩
    ·rw [List.map_append,eu,tk1,List.filter_append,List.filter_cons,if_pos hd]; rfl
   | false =>
    refine fSk.mk hi hl' hacc2 ⟨⟨_,_,rfl⟩,hs.trans s2,us,rfl,fun u hu=>(wu u hu).tups fun x xs e=>s2 _ _ e,?_⟩
    rw [eu,tk1,List.filter_append,List.filter_cons,if_neg (by rw [hd]; exact Bool.false_ne_true)]
    exact (List.append_nil _).symm
  ·rintro zs σ H2 hl' hacc' ⟨_,hs,us,rfl,wu,eu⟩
   rw [Zal,← List.length_map (f:=fun t:Of1=>t.2.2),List.take_length] at eu
   have s2:=s1.trans hs
   have um:∀ y,y∈us.map (fun t:Gd=>t.2.2)↔y∈off∧hld t y.2:=fun y=>by
    rw [eu,List.mem_filter,pm.mem_iff,decide_eq_true_iff]
   refine ⟨_,rfl,_,.inl ⟨_,SqL.of hacc',rfl⟩,?_⟩
   cases us with
   | cons u0 ur =>
    refine iteP rfl ?_
    have gm:∀ t∈u0 :: ur,PcOk t.2.2.2∧0≤t.2.2.1∧t.2.2.1≤999:=fun g hg=>ok1 g.2.2 ((um g.2.2).mp (List.mem_map.mpr ⟨g,hg,rfl⟩)).1
    have rr:refs (u0 :: ur)=((u0 :: ur).map toG).map fun t=>V.ref t.1:=by rw [List.map_map]; rfl
    refine ⟨_,rfl,acc,(u0 :: ur).map toG,1,3,key6,rfl,by rw [← rr]; exact SqL.of hacc',rfl,(by intro z; cases z),fun g hg=>?_,fun g hg g' hg'=>?_,fun g hg least=>?_⟩
    ·obtain ⟨x,hx,rfl⟩:=List.mem_map.mp hg
     exact ⟨(wu x hx).1,(wu x hx).2,rfl,rfl⟩
    ·obtain ⟨x,hx,rfl⟩:=List.mem_map.mp hg
     obtain ⟨y,hy,rfl⟩:=List.mem_map.mp hg'
     exact lex6 (gm x hx).2 (gm y hy).2 (Zig (gm x hx).1) (Zig (gm y hy).1)
    ·obtain ⟨x,hx,rfl⟩:=List.mem_map.mp hg
     have xm:=(um x.2.2).mp (List.mem_map.mpr ⟨x,hx,rfl⟩)
     refine ⟨1,rfl,x.1,_,rfl,SqT.of (wu x hx).1,(fun z=>by have z1:HT.sIx 3 0 (some 1)=0:=z.1; exact absurd z1 (by decide)),fun r nr=>?_⟩
     have s5:Same H2 (upd H2 r (.tup [.int x.2.2.1,.ref x.2.1])):=Same.new nr
     refine qA x.2.2 xm.1 xm.2 (fun y' hy' hh'=>?_) r x.2.1 _ (s2.trans s5) upd_same (s5 _ _ (wu x hx).2)
     obtain ⟨g,hg',e⟩:=List.mem_map.mp ((um y').mpr ⟨hy',hh'⟩)
     have:=least (toG g) (List.mem_map.mpr ⟨g,hg',rfl⟩)
     rw [← e]
     exact this
   | nil =>
    refine iteN rfl ?_
    have no:∀ y∈off,¬ hld t y.2:=fun y hy z=>by
     have:=(um y).mpr ⟨hy,z⟩
     simp at this
    have bn2:=bn.same s2
    refine ⟨_,rfl,a,C,dx,_,_,rfl,bn2.ob,BC.cl,BC.n_stock,bnF_s _ _,ls,rfl,⟨_,SqL.of bn2.lst⟩,fun acc2 hacc2=>comp_enumF (K:=K) (a:=ls) (ys:=refs ss) (fun i zs σ H'=>(∃ x y,σ=[x,y,some (.ref c)])∧Same H2 H'∧∃ us:List (Addr × List Int),zs=refs us∧(∀ t∈us,H' t.1=some (.tup (t.2.map V.int)))∧∀ ns,ns∈us.map (fun t:Addr × List Int=>t.2)↔∃ (k:Nat) (u:Addr × Int × Int),k < i∧ss[k]?=some u∧hld t (shR u.2)∧ns=[arR (shR u.2),(k:Int)]) ⟨⟨none,none,rfl⟩,Same.new hacc2,[],rfl,(fun t ht=>nomatch ht),fun ns=>⟨(fun z=>by simp at z),(fun ⟨k,u,z,_⟩=>absurd z (Nat.not_lt_zero _))⟩⟩ (fun i zs σ H' _ _ hp=>SqL.of (hp.2.1 _ _ bn2.lst)) ?_ ?_⟩
    ·rintro i x t1 zs σ H' hx hi hl2 hacc2' ⟨⟨x0,y0,rfl⟩,hs2,us2,rfl,wu2,iu2⟩ nt1
     obtain ⟨u,hu',rfl⟩:=Zbt hx
     have um2:=List.mem_of_getElem? hu'
     have s3:Same H' (upd H' t1 (.tup [.int i,.ref u.1])):=Same.new nt1
     have f3:(upd H' t1 (.tup [.int i,.ref u.1])) t1=some (.tup [.int i,.ref u.1]):=upd_same
     generalize upd H' t1 (.tup [.int i,.ref u.1])=H3 at s3 f3 ⊢
     have st3:=(hs2.trans s3) _ _ (bn2.stk u um2)
     obtain ⟨w1,w2,h1,h2⟩:=so u um2
     have pk:PcOk (shR u.2):=⟨Int.le_refl _,show (0:Int) < u.2.2 by lia,h2,Int.le_refl _,show (0:Int) < u.2.1 by lia,w2⟩
     refine ⟨t1,_,rfl,SqT.of f3,rfl,_,_,rfl,_,_,rfl,rfl,?_⟩
     refine ⟨_,rfl,_,rfl,u.1,c,shR u.2,t,rfl,st3,(s2.trans (hs2.trans s3)) _ _ hc,fun H4 s4=>⟨_,rfl,?_⟩⟩
     have hdec:decide (heldW t ((shR u.2).len true) ((shR u.2).len false)≠[])=decide (hld t (shR u.2)):=rfl
     rw [hdec]
     have s34:=s3.trans s4
     have hacc4:=s34 _ _ hacc2'
     cases hd:decide (hld t (shR u.2)) with
     | true =>
      refine ⟨_,rfl,u.1,shR u.2,rfl,s4 _ _ st3,pk,_,rfl,lenOk 2,fun r1 nr1=>?_⟩
      have s5:Same H4 (upd H4 r1 (.tup [.int (arR (shR u.2)),.int i])):=Same.new nr1
      have f5:(upd H4 r1 (.tup [.int (arR (shR u.2)),.int i])) r1=some (.tup ([arR (shR u.2),(i:Int)].map V.int)):=upd_same
      generalize upd H4 r1 (.tup [.int (arR (shR u.2)),.int i])=H5 at s5 f5 ⊢
      have s35:=s34.trans s5
      have a5:=s5 _ _ hacc4
      refine fNx.mk (Nat.le_of_lt (Zaq (by rw [Zal]; lia))) hi hl2 a5 ⟨⟨_,_,rfl⟩,fun d o e=>by rw [Zag (Zad e hacc2)]; exact s35 _ _ (hs2 d o e),us2++[(r1,[arR (shR u.2),(i:Int)])],by rw [refs,refs,List.map_append]; rfl,fun v hv=>?_,fun ns=>?_⟩
      ·have kp:∀ x xs,H5 x=some (.tup xs)→(upd H5 acc2 (.lst (refs us2++[.ref r1]))) x=some (.tup xs):=fun x xs e=>by rw [Zag (fun z=>by rw [z,a5] at e; cases e)]; exact e
       rcases List.mem_append.mp hv with hv | hv
       ·exact kp _ _ (s35 _ _ (wu2 v hv))
       ·rw [List.mem_singleton.mp hv]; exact kp _ _ f5
      ·rw [List.map_append,List.mem_append,iu2 ns]
       constructor
       ·rintro (⟨k,u',k1,k2,k3,k4⟩ | hm)
        ·exact ⟨k,u',by lia,k2,k3,k4⟩
        ·exact ⟨i,u,by lia,hu',of_decide_eq_true hd,List.mem_singleton.mp hm⟩
       ·rintro ⟨k,u',k1,k2,k3,k4⟩
        rcases Nat.lt_or_ge k i with hk | hk
        ·exact .inl ⟨k,u',hk,k2,k3,k4⟩
        ·have:k=i:=by lia
         subst this
         rw [hu'] at k2
         cases k2
         exact .inr (List.mem_singleton.mpr k4)
     | false =>
      refine fSk.mk hi hl2 hacc4 ⟨⟨_,_,rfl⟩,hs2.trans s34,us2,rfl,fun v hv=>s34 _ _ (wu2 v hv),fun ns=>?_⟩
      rw [iu2 ns]
      constructor
      ·rintro ⟨k,u',k1,k2,k3,k4⟩
       exact ⟨k,u',by lia,k2,k3,k4⟩
      ·rintro ⟨k,u',k1,k2,k3,k4⟩
       rcases Nat.lt_or_ge k i with hk | hk
       ·exact ⟨k,u',hk,k2,k3,k4⟩
       ·have:k=i:=by lia
        subst this
        rw [hu'] at k2
        cases k2
        rw [decide_eq_true k3] at hd
        cases hd
    ·rintro zs σ H3 hl2 hacc2' ⟨_,hs3,us2,rfl,wu2,iu2⟩
     have s03:=s2.trans hs3
     have bn3:=bn.same s03
     have hc3:=s03 _ _ hc
     rw [Zal] at iu2
     refine ⟨_,rfl,_,.inl ⟨_,SqL.of hacc2',rfl⟩,?_⟩
     cases us2 with
     | nil =>
      refine iteP rfl ?_
      have none':∀ u∈ss,¬ hld t (shR u.2):=fun u hu' z=>by
       obtain ⟨k,hk⟩:=List.mem_iff_getElem?.mp hu'
       have:=(iu2 _).mpr ⟨k,u,(List.getElem?_eq_some_iff.mp hk).1,hk,z,rfl⟩
       simp at this
      exact ⟨_,rfl,c,_,_,_,rfl,rfl,SqT.of hc3,at3_0,_,rfl,c,_,_,_,rfl,rfl,SqT.of hc3,at3_1,rfl,fun y dx' T' H4 hy s4' e ed nd hT nT=>(qC no none').raise s03 hy s4' e ed nd hT rfl⟩
     | cons u0 ur =>
      refine iteN rfl ?_
      have rr:refs (u0 :: ur)=(u0 :: ur).map fun t=>V.ref t.1:=rfl
      have mm:∀ g∈u0 :: ur,∃ (k:Nat) (u:Addr × Int × Int),k < ss.length∧ss[k]?=some u∧hld t (shR u.2)∧g.2=[arR (shR u.2),(k:Int)]:=fun g hg=>(iu2 g.2).mp (List.mem_map.mpr ⟨g,hg,rfl⟩)
      refine ⟨_,rfl,acc2,u0 :: ur,key2,rfl,SqL.of hacc2',rfl,(by intro z; cases z),wu2,fun g hg g' hg'=>?_,fun g hg least=>?_⟩
      ·obtain ⟨k,u,k1,k2,k3,k4⟩:=mm g hg
       obtain ⟨k',u',k1',k2',k3',k4'⟩:=mm g' hg'
       rw [k4,k4']
       exact lex2 ⟨by lia,by lia⟩ ⟨by lia,by lia⟩
      ·obtain ⟨k,u,k1,k2,k3,k4⟩:=mm g hg
       have hg3:=wu2 g hg
       rw [k4] at hg3
       have um3:=List.mem_of_getElem? k2
       refine ⟨g.1,_,_,_,rfl,rfl,SqT.of hg3,Zcj,?_⟩
       have least':∀ (k':Nat) (u':Addr × Int × Int),ss[k']?=some u'→hld t (shR u'.2)→key2 [arR (shR u.2),(k:Int)]≤key2 [arR (shR u'.2),(k':Int)]:=fun k' u' e1 e2=>by
        obtain ⟨g',hg',e⟩:=List.mem_map.mp ((iu2 _).mpr ⟨k',u',(List.getElem?_eq_some_iff.mp e1).1,e1,e2,rfl⟩)
        have:=least g' hg'
        rw [k4,e] at this
        exact this
       have atk:atI (refs ss) (k:Int)=some (.ref u.1):=Zcw (xs:=refs ss) (j:=k) (v:=.ref u.1) (by unfold refs; rw [List.getElem?_map,k2]; rfl)
       refine ⟨_,rfl,a,C,dx,_,_,rfl,bn3.ob,BC.cl,BC.n_taken,Zkj _ _,.inl ⟨rfl,_,SqL.of bn3.tak⟩,_,rfl,fun dA ndA=>?_⟩
       have d1:Same H3 (upd H3 dA (.dT [])):=Same.new ndA
       have d1e:(upd H3 dA (.dT [])) dA=some (.dT []):=upd_same
       generalize upd H3 dA (.dT [])=H4 at d1 d1e ⊢
       have bn4:=bn3.same d1
       refine ⟨_,rfl,a,C,dx,_,_,rfl,bn4.ob,BC.cl,BC.n_stock,bnF_s _ _,_,rfl,ls,_,_,_,rfl,rfl,SqL.of bn4.lst,atk,lenOk 2,fun eA neA=>?_⟩
       have d2:Same H4 (upd H4 eA (.tup [.str "whole",.non])):=Same.new neA
       have d2e:(upd H4 eA (.tup [.str "whole",.non])) eA=some (.tup (enV (.w none))):=upd_same
       generalize upd H4 eA (.tup [.str "whole",.non])=H5 at d2 d2e ⊢
       have bn5:=bn4.same d2
       refine ⟨d2 _ _ d1e,u.1,rkK (shR u.2),rfl,bn5.stk u um3,?_⟩
       have dA5:=d2 _ _ d1e
       have d35:Same H3 (upd H5 dA (.dT [(rkK (shR u.2),.ref eA)])):=fun b o e=>by rw [Zag (Zad e ndA)]; exact (d1.trans d2) _ _ e
       have d3e:(upd H5 dA (.dT [(rkK (shR u.2),.ref eA)])) dA=some (.dT [(rkK (shR u.2),.ref eA)]):=upd_same
       have e3e:(upd H5 dA (.dT [(rkK (shR u.2),.ref eA)])) eA=some (.tup (enV (.w none))):=by rw [Zag (fun z=>by rw [z,dA5] at d2e; cases d2e)]; exact d2e
       generalize upd H5 dA (.dT [(rkK (shR u.2),.ref eA)])=H6 at d35 d3e e3e ⊢
       refine ⟨lenOk 2,fun tA ntA=>?_⟩
       have d4:Same H6 (upd H6 tA (.tup [.int (k:Int),.ref dA])):=Same.new ntA
       have d4e:(upd H6 tA (.tup [.int (k:Int),.ref dA])) tA=some (.tup [.int (k:Int),.ref dA]):=upd_same
       generalize upd H6 tA (.tup [.int (k:Int),.ref dA])=H7 at d4 d4e ⊢
       have d37:=d35.trans d4
       have bn7:=bn3.same d37
       have few:=bok.1
       refine ⟨lt,_,_,rfl,rfl,bn7.tak,Nat.lt_of_le_of_lt (Nat.le_of_eq (Zal _)) (Zaq (by lia)),?_⟩
       have x8:SameX lt H7 (upd H7 lt (.lst (refs tn++[.ref tA]))):=SameX.upd
       have x8e:(upd H7 lt (.lst (refs tn++[.ref tA]))) lt=some (.lst (refs tn++[.ref tA])):=upd_same
       generalize upd H7 lt (.lst (refs tn++[.ref tA]))=H8 at x8 x8e ⊢
       have nlt:∀ {x:Addr} {o:HO},H7 x=some o→(∀ xs,o≠.lst xs)→x≠lt:=fun e n z=>by rw [z,bn7.tak] at e; cases e; exact n _ rfl
       have k8:∀ {x:Addr} {o:HO},H7 x=some o→(∀ xs,o≠.lst xs)→H8 x=some o:=fun e n=>x8 _ _ (nlt e n) e
       have lls:ls≠lt:=fun z=>by
        have e1:=bn7.lst
        rw [z,bn7.tak] at e1
        have e1:refs tn=refs ss:=by injection e1 with e1; injection e1
        have e2:(refs tn)[k]?=some (.ref u.1):=by rw [e1]; unfold refs; rw [List.getElem?_map,k2]; rfl
        obtain ⟨t',ht',e3⟩:=Zbt e2
        have g1:=(bn7.tks t' (List.mem_of_getElem? ht')).1
        have g2:=bn7.stk u um3
        have e4:t'.1=u.1:=by injection e3 with e3; exact e3.symm
        rw [e4,g2] at g1
        have:=congrArg List.length (HO.tup.inj (Option.some.inj g1))
        simp at this
       have tn8:refs tn++[V.ref tA]=refs (tn++[(tA,(k:Int),dA,[(rkK (shR u.2),V.ref eA)],[(shR u.2,En.w none)])]):=by rw [refs,refs,List.map_append]; rfl
       have bn8:BnAt C a dx ls lt H8 ss (tn++[(tA,(k:Int),dA,[(rkK (shR u.2),.ref eA)],[(shR u.2,.w none)])]):=by
        refine ⟨k8 bn7.ob (by intro xs z; cases z),x8 _ _ lls bn7.lst,fun t' ht'=>k8 (bn7.stk t' ht') (by intro xs z; cases z),by rw [← tn8]; exact x8e,fun t' ht'=>?_,?_⟩
        ·rcases List.mem_append.mp ht' with ht' | ht'
         ·obtain ⟨g1,g2,g3⟩:=bn7.tks t' ht'
          exact ⟨k8 g1 (by intro xs z; cases z),k8 g2 (by intro xs z; cases z),g3.tups fun b xs e=>k8 e (by intro xs z; cases z)⟩
         ·rw [List.mem_singleton.mp ht']
          exact ⟨k8 d4e (by intro xs z; cases z),k8 (d4 _ _ d3e) (by intro xs z; cases z),⟨rfl,eA,rfl,k8 (d4 _ _ e3e) (by intro xs z; cases z)⟩,trivial⟩
        ·rw [List.map_append,List.nodup_append]
         refine ⟨bn.dis,by simp,fun x hx y hy=>?_⟩
         obtain ⟨t',ht',rfl⟩:=List.mem_map.mp hx
         rw [List.mem_singleton.mp hy]
         exact fun z=>by have:=(bn3.tks t' ht').2.1; rw [z,ndA] at this; cases this
       have x08:SameX lt H H8:=s03.x.trans (d37.x.trans x8)
       refine ⟨_,rfl,a,C,dx,_,_,rfl,bn8.ob,BC.cl,BC.n_taken,Zkj _ _,lt,_,rfl,.inl (SqL.of bn8.tak),_,_,rfl,rfl,?_⟩
       refine ⟨_,rfl,a,C,dx,_,_,rfl,bn8.ob,BC.cl,BC.n_stock,bnF_s _ _,_,rfl,ls,_,_,_,rfl,rfl,SqL.of bn8.lst,atk,lenOk 2,fun r nr=>?_⟩
       have ln:(((refs (tn++[((tA,(k:Int),dA,[(rkK (shR u.2),V.ref eA)],[(shR u.2,En.w none)]):Tk1)])).length:Nat):Int) - 1=(tn.length:Int):=by rw [Zal,List.length_append,List.length_singleton]; lia
       have s9:=Same.new (o:=.tup [(fun i j=>V.int (i - j)) (((refs (tn++[((tA,(k:Int),dA,[(rkK (shR u.2),V.ref eA)],[(shR u.2,En.w none)]):Tk1)])).length:Nat):Int) 1,.ref u.1]) nr
       exact qB no k u k2 k3 least' r tA dA eA _ (Zc0 s03 ndA) (x08.trans s9.x) (bn8.same s9) (upd_same.trans (by show some (HO.tup [V.int ((((refs (tn++[((tA,(k:Int),dA,[(rkK (shR u.2),V.ref eA)],[(shR u.2,En.w none)]):Tk1)])).length:Nat):Int) - 1),V.ref u.1])=_; rw [ln]))
def setT (tn:List Tk1) (i:Nat) (kvs:List (List Key × V)) (kv:KV):List Tk1:=match tn[i]? with
 | some t=>tn.set i (t.1,t.2.1,t.2.2.1,kvs,kv)
 | none=>tn
theorem BnAt.setd {C a dx ls lt:Addr} {H H':Hp} {ss:List (Addr × Int × Int)} {tn:List Tk1} {i:Nat} {t:Tk1} {kvs:List (List Key × V)} {kv:KV} (bn:BnAt C a dx ls lt H ss tn) (ht:tn[i]?=some t) (s:SameX t.2.2.1 H H') (hd:H' t.2.2.1=some (.dT kvs)) (hk:KvAt H' kvs kv):BnAt C a dx ls lt H' ss (setT tn i kvs kv):=by
 obtain ⟨hi,he⟩:=List.getElem?_eq_some_iff.mp ht
 have tm:=List.mem_of_getElem? ht
 have hD:=(bn.tks t tm).2.1
 have kp:∀ {x:Addr} {o:HO},H x=some o→(∀ ks,o≠.dT ks)→H' x=some o:=fun e n=>s _ _ (fun z=>by rw [z,hD] at e; cases e; exact n _ rfl) e
 have e1:setT tn i kvs kv=tn.set i (t.1,t.2.1,t.2.2.1,kvs,kv):=by unfold setT; rw [ht]
 rw [e1]
 have m1:∀ {β:Type} (f:Tk1→β),f (t.1,t.2.1,t.2.2.1,kvs,kv)=f t→(tn.set i (t.1,t.2.1,t.2.2.1,kvs,kv)).map f=tn.map f:=fun f hf=>by
  rw [List.map_set,hf]
  apply List.ext_getElem (by simp)
  intro j h1 h2
  rw [List.getElem_set]
  split
  ·rename_i h; subst h; rw [List.getElem_map,he]
  ·rfl
 refine ⟨kp bn.ob (by intro ks z; cases z),kp bn.lst (by intro ks z; cases z),fun u hu=>kp (bn.stk u hu) (by intro ks z; cases z),?_,fun u hu=>?_,?_⟩
 ·have:refs (tn.set i (t.1,t.2.1,t.2.2.1,kvs,kv))=refs tn:=m1 (fun x=>V.ref x.1) rfl
  rw [this]
  exact kp bn.tak (by intro ks z; cases z)
 ·obtain ⟨j,hj⟩:=List.mem_iff_getElem?.mp hu
  rw [List.getElem?_set] at hj
  split at hj
  ·cases hj
   exact ⟨kp (bn.tks t tm).1 (by intro ks z; cases z),hd,hk⟩
  ·obtain ⟨g1,g2,g3⟩:=bn.tks u (List.mem_of_getElem? hj)
   have nd:u.2.2.1≠t.2.2.1:=fun z=>by
    have p:=List.pairwise_iff_getElem.mp (show (tn.map fun t=>t.2.2.1).Pairwise (·≠·) from bn.dis)
    obtain ⟨hj',ej⟩:=List.getElem?_eq_some_iff.mp hj
    rcases Nat.lt_or_gt_of_ne (show i≠j by assumption) with l | l
    ·have:=p i j (by simpa using hi) (by simpa using hj') l
     rw [List.getElem_map,List.getElem_map,he,ej] at this
     exact this z.symm
    ·have:=p j i (by simpa using hj') (by simpa using hi) l
     rw [List.getElem_map,List.getElem_map,he,ej] at this
     exact this z
   exact ⟨kp g1 (by intro ks z; cases z),s _ _ nd g2,g3.tups fun b xs e=>kp e (by intro ks z; cases z)⟩
 ·rw [m1 (fun t=>t.2.2.1) rfl]; exact bn.dis
def Zdu (C cG:Addr):Sp:=fun vs H Q E=>∃ (a dx ls lt:Addr) (ss:List (Addr × Int × Int)) (tn:List Tk1) (t:Want),vs=[.ref a,.int t.1,.int t.2.1,.bl t.2.2]∧BnAt C a dx ls lt H ss tn∧BnOk tn∧ss.length≤4∧(∀ t∈ss,SOk t.2)∧WOk t∧(pnsOf (whs 0 (tn.map fun t=>t.2.2.2.2))).length < 60 ∧
 (∀ y∈offOf (whs 0 (tn.map fun t=>t.2.2.2.2)),PcOk y.2∧0≤y.1∧y.1 < tn.length) ∧
 (∀ y∈offOf (whs 0 (tn.map fun t=>t.2.2.2.2)),hld t y.2→(∀ y'∈offOf (whs 0 (tn.map fun t=>t.2.2.2.2)),hld t y'.2→keyG y≤keyG y')→∀ (u:Tk1) z rest kvs r b H',tn[y.1.toNat]?=some u→heldW t (y.2.len true) (y.2.len false)=z :: rest→SameX u.2.2.1 H H' →
  BnAt C a dx ls lt H' ss (setT tn y.1.toNat kvs (cutE u.2.2.2.2 y.2 z ((pnsOf (whs 0 (tn.map fun t=>t.2.2.2.2))).length:Int)))→H' r=some (.tup [.int y.1,.ref b])→H' b=some (.tup (cutB u.2.2.2.2 y.2 z).2.vs)→Q (.ref r) H') ∧
 ((∀ y∈offOf (whs 0 (tn.map fun t=>t.2.2.2.2)),¬ hld t y.2)→∀ (k:Nat) (u:Addr × Int × Int),ss[k]?=some u→hld t (shR u.2)→(∀ (k':Nat) (u':Addr × Int × Int),ss[k']?=some u'→hld t (shR u'.2)→key2 [arR (shR u.2),k]≤key2 [arR (shR u'.2),k']) →
  ∀ z rest tA dA kvs r b H',H dA=none→heldW t ((shR u.2).len true) ((shR u.2).len false)=z :: rest→SameX lt H H'→BnAt C a dx ls lt H' ss (tn++[(tA,(k:Int),dA,kvs,cutE [(shR u.2,.w none)] (shR u.2) z ((pnsOf (whs 0 (tn.map fun t=>t.2.2.2.2))).length:Int))])→H' r=some (.tup [.int tn.length,.ref b])→H' b=some (.tup (cutB [(shR u.2,.w none)] (shR u.2) z).2.vs)→Q (.ref r) H') ∧
 ((∀ y∈offOf (whs 0 (tn.map fun t=>t.2.2.2.2)),¬ hld t y.2)→(∀ u∈ss,¬ hld t (shR u.2))→Rf H E cG fun fs _=>fs=glF t)
abbrev N_ct:List Str:=["self","width","height","turns","number","want","place","entries"]
theorem Zkq:Zan N_ct ["self","width","height","turns"] (Zab Zcf):=⟨rfl,rfl,rfl,by decide +kernel,rfl,by decide +kernel,by decide +kernel⟩
theorem Zcz {f:Addr} {fd:FuncData} {C cG cM:Addr} {dv:Value} (F:FunF K "cut" "Bench.cut" Zcf f fd dv) (T:Txt mg tk) (BC:BCls K C) (X_TooMany:XMkOk P w K mg base 1 "TooMany" cM ["self","many"] ["many"]) (D_check_sides:DefOk P w K mg base 3 "check_sides" ["width","height"] Zg6) (D_cut_pane:DefOk P w K mg base 3 "cut_pane" ["entries","piece","want","number"] Zd8) (M_Bench_panes_cut:MdOk P w K mg base 2 C "panes_cut" ["self"] (Zc9 C)) (M_Bench_piece_for:MdOkX P w K mg base 4 C "piece_for" ["self","want"] (Zdq C cG)):FnOk P w K mg base (CX1 P w) 5 f fd ["self","width","height","turns"] (Zdu C cG):=by
 have S:=Zkq
 refine F.okx S (fun vs H Q E h=>?_) (fun cdv A outer s H vs Q E hr h=>?_)
 ·obtain ⟨a,dx,ls,lt,ss,tn,t,rfl,_⟩:=h; rfl
 ·obtain ⟨a,dx,ls,lt,ss,tn,t,rfl,bn,bok,s4,so,wok,np,ok1,qA,qB,qC⟩:=h
  have hu:=hu_of hr
  refine ⟨_,(Zae (Zbw (Za2 D_check_sides hr (Zaa (pv 1) (Zaa (pv 2) Zac))))
   (Zae (Zav (i:=4) S.nd rfl (Or.inl rfl) (Zao Za1 rfl T.z_len rfl (Zaa (Zdd M_Bench_panes_cut hr (pv 0)) Zac)))
   (Zae (Zbm (Zau Zfj (pv 4) (Za3 (v:=.int 60) rfl T.g_MOST_CUT ⟨_,rfl⟩) (nomark _)) (Zah (Zk5 Zjc X_TooMany hr (Zaa (Za7 Zcs (Za3 (v:=.int 60) rfl T.g_MOST_CUT ⟨_,rfl⟩) Zaf) Zac))) Zaw)
   (Zae (Zav (i:=5) S.nd rfl (Or.inl rfl) (Zas (Zaa (pv 1) (Zaa (pv 2) (Zaa (pv 3) Zac)))))
   (Zae (Zav (i:=6) S.nd rfl (Or.inl rfl) (pe_mdx M_Bench_piece_for hr (pass_x Zjc (pass_u (H:=H) (E:=E))) (pv 0) (Zaa (pv 5) Zac)))
   (Zae (Zav (i:=7) S.nd rfl (Or.inl rfl) (Zam Zaj (Zam Za8 (Zcg (pv 0) rfl) (Zam Zaj (pv 6) Zaf (fun _ _=>rfl)) (fun _ _=>rfl)) Zaf (fun _ _=>rfl)))
   (Zah (Zat (Zas (Zaa (Zam Zaj (pv 6) Zaf (fun _ _=>rfl)) (Zaa (Za2 D_cut_pane hr (Zaa (pv 7) (Zaa (Zam Zaj (pv 6) Zaf (fun _ _=>rfl)) (Zaa (pv 5) (Zaa (pv 4) Zac))))) Zac))))))))))),?_⟩
  generalize hof:offOf (whs 0 (tn.map fun t=>t.2.2.2.2))=off at ok1 qA qB qC
  generalize hnp:(pnsOf (whs 0 (tn.map fun t=>t.2.2.2.2))).length=np' at np qA qB
  refine ⟨_,rfl,_,rfl,t.1,t.2.1,rfl,wok.1,wok.2.1,wok.2.2.1,wok.2.2.2,fun H1 s1=>?_⟩
  have bn1:=bn.same s1
  refine ⟨_,rfl,a,dx,_,rfl,bn1.ob,Zcv _ _ (by decide +kernel) (by decide +kernel),a,dx,ls,lt,ss,tn,rfl,bn1,bok,fun l ts H2 s2 nl hl wt eq=>?_⟩
  have tl:=congrArg List.length eq
  rw [List.length_map,hnp] at tl
  refine ⟨l,_,rfl,.inl (SqL.of hl),?_⟩
  rw [Zal,tl]
  have s12:=s1.trans s2
  refine ⟨_,rfl,rfl,_,rfl,iteN (decide_eq_false (fun z=>by have:=V.int.inj z; lia)) ?_⟩
  refine ⟨_,rfl,_,rfl,_,rfl,lenOk 3,fun c nc=>?_⟩
  have s3:Same H2 (upd H2 c (.tup [.int t.1,.int t.2.1,.bl t.2.2])):=Same.new nc
  have e3:(upd H2 c (.tup [.int t.1,.int t.2.1,.bl t.2.2])) c=some (.tup [.int t.1,.int t.2.1,.bl t.2.2]):=upd_same
  generalize upd H2 c (.tup [.int t.1,.int t.2.1,.bl t.2.2])=H3 at s3 e3 ⊢
  have s03:=s12.trans s3
  have bn3:=bn.same s03
  have few:=bok.1
  refine ⟨_,rfl,a,dx,_,rfl,bn3.ob,Zcv _ _ (by decide +kernel) (by decide +kernel),_,rfl,a,dx,ls,lt,c,ss,tn,t,rfl,bn3,bok,s4,so,e3,?_,?_,?_,?_⟩
  ·rw [hof]; exact fun y hy=>⟨(ok1 y hy).1,(ok1 y hy).2.1,by have:=(ok1 y hy).2.2; lia⟩
  ·rw [hof]
   intro y hy hh least r b H4 s4' hr4 hb4
   obtain ⟨pk,y0,y1⟩:=ok1 y hy
   have bn4:=bn3.same s4'
   obtain ⟨u,hu4⟩:∃ u,tn[y.1.toNat]?=some u:=⟨_,List.getElem?_eq_getElem (by lia)⟩
   have um:=List.mem_of_getElem? hu4
   obtain ⟨g1,g2,g3⟩:=bn4.tks u um
   have atk:atI (refs tn) y.1=some (.ref u.1):=by
    have:=Zcw (xs:=refs tn) (j:=y.1.toNat) (v:=.ref u.1) (by unfold refs; rw [List.getElem?_map,hu4]; rfl)
    rwa [Int.toNat_of_nonneg y0] at this
   obtain ⟨z,rest,hz⟩:∃ z rest,heldW t (y.2.len true) (y.2.len false)=z :: rest:=by
    cases q:heldW t (y.2.len true) (y.2.len false) with
    | nil=>exact absurd q hh
    | cons z rest=>exact ⟨z,rest,rfl⟩
   refine ⟨_,rfl,a,C,dx,_,_,rfl,bn4.ob,BC.cl,BC.n_taken,Zkj _ _,_,rfl,r,_,_,_,rfl,rfl,SqT.of hr4,Zch,lt,_,_,_,rfl,rfl,SqL.of bn4.tak,atk,u.1,_,_,_,rfl,rfl,SqT.of g1,Zcj,?_⟩
   refine ⟨_,rfl,r,_,_,_,rfl,rfl,SqT.of hr4,Zch,_,rfl,_,rfl,r,_,_,_,rfl,rfl,SqT.of hr4,Zcj,_,rfl,_,rfl,u.2.2.1,b,c,_,y.2,t,z,rest,u.2.2.2.1,u.2.2.2.2,rfl,g2,g3,?_,hb4,s4' _ _ e3,hz,fun b' kvs' H5 x5 d5 kv5 b5=>?_⟩
   ·have:=bok.2.1 u um; lia
   refine ⟨lenOk 2,fun r2 nr2=>?_⟩
   have s6:Same H5 (upd H5 r2 (.tup [.int y.1,.ref b'])):=Same.new nr2
   have s04:=s03.trans s4'
   exact qA y hy hh least u z rest kvs' r2 b' _ hu4 hz (s04.x.trans (x5.trans s6.x)) ((bn4.setd hu4 x5 d5 kv5).same s6) upd_same (s6 _ _ b5)
  ·rw [hof]
   intro no k u k2 k3 least r tA dA eA H4 ndA x4 bn4 hr4
   have um:=List.mem_of_getElem? k2
   have hb4:=bn4.stk u um
   have tm:((tA,(k:Int),dA,[(rkK (shR u.2),V.ref eA)],[(shR u.2,En.w none)]):Tk1)∈tn++[(tA,(k:Int),dA,[(rkK (shR u.2),V.ref eA)],[(shR u.2,En.w none)])]:=List.mem_append_right _ (List.mem_singleton.mpr rfl)
   obtain ⟨g1,g2,g3⟩:=bn4.tks _ tm
   have ix:(tn++[((tA,(k:Int),dA,[(rkK (shR u.2),V.ref eA)],[(shR u.2,En.w none)]):Tk1)])[tn.length]?=some (tA,(k:Int),dA,[(rkK (shR u.2),V.ref eA)],[(shR u.2,En.w none)]):=by
    rw [List.getElem?_append_right (Nat.le_refl _),Nat.sub_self]; rfl
   have atk:atI (refs (tn++[((tA,(k:Int),dA,[(rkK (shR u.2),V.ref eA)],[(shR u.2,En.w none)]):Tk1)])) (tn.length:Int)=some (.ref tA):=Zcw (xs:=refs (tn++[((tA,(k:Int),dA,[(rkK (shR u.2),V.ref eA)],[(shR u.2,En.w none)]):Tk1)])) (j:=tn.length) (v:=.ref tA) (by unfold refs; rw [List.getElem?_map,ix]; rfl)
   obtain ⟨z,rest,hz⟩:∃ z rest,heldW t ((shR u.2).len true) ((shR u.2).len false)=z :: rest:=by
    cases q:heldW t ((shR u.2).len true) ((shR u.2).len false) with
    | nil=>exact absurd q k3
    | cons z rest=>exact ⟨z,rest,rfl⟩
   have nc:c≠lt:=fun zz=>by have:=bn3.tak; rw [← zz,e3] at this; cases this
   refine ⟨_,rfl,a,C,dx,_,_,rfl,bn4.ob,BC.cl,BC.n_taken,Zkj _ _,_,rfl,r,_,_,_,rfl,rfl,SqT.of hr4,Zch,lt,_,_,_,rfl,rfl,SqL.of bn4.tak,atk,tA,_,_,_,rfl,rfl,SqT.of g1,Zcj,?_⟩
   refine ⟨_,rfl,r,_,_,_,rfl,rfl,SqT.of hr4,Zch,_,rfl,_,rfl,r,_,_,_,rfl,rfl,SqT.of hr4,Zcj,_,rfl,_,rfl,dA,u.1,c,_,shR u.2,t,z,rest,_,_,rfl,g2,g3,(show 1≤500 by lia),hb4,x4 _ _ nc e3,hz,fun b' kvs' H5 x5 d5 kv5 b5=>?_⟩
   refine ⟨lenOk 2,fun r2 nr2=>?_⟩
   have s6:Same H5 (upd H5 r2 (.tup [.int tn.length,.ref b'])):=Same.new nr2
   have nd0:H dA=none:=Zc0 s03 ndA
   have xx:SameX lt H H5:=fun x o n e=>x5 _ _ (Zad e nd0) (x4 _ _ n (s03 _ _ e))
   have bn5:=(bn4.setd ix x5 d5 kv5).same s6
   have st:setT (tn++[((tA,(k:Int),dA,[(rkK (shR u.2),V.ref eA)],[(shR u.2,En.w none)]):Tk1)]) tn.length kvs' (cutE [(shR u.2,En.w none)] (shR u.2) z (np':Int))=tn++[(tA,(k:Int),dA,kvs',cutE [(shR u.2,En.w none)] (shR u.2) z (np':Int))]:=by
    unfold setT
    rw [ix]
    show (tn++[_]).set tn.length _=_
    rw [List.set_append_right _ _ (Nat.le_refl _),Nat.sub_self]; rfl
   rw [st] at bn5
   exact qB no k u k2 k3 least z rest tA dA kvs' r2 b' _ nd0 hz (xx.trans s6.x) bn5 upd_same (s6 _ _ b5)
  ·rw [hof]
   intro no none'
   exact rf_u s03 (qC no none') (fun _ _ _ _ _ _ h _ _=>h)
theorem len1 {α:Type} {us:List α} (h:us.length=1):∃ a,us=[a]:=List.length_eq_one_iff.mp h
theorem len2 {α:Type} {us:List α} (h:us.length=2):∃ a b,us=[a,b]:=by
 cases us with
 | nil=>cases h
 | cons a r=>obtain ⟨b,rfl⟩:=len1 (Nat.succ.inj h); exact ⟨a,b,rfl⟩
theorem len3 {α:Type} {us:List α} (h:us.length=3):∃ a b c,us=[a,b,c]:=by
 cases us with
 | nil=>cases h
 | cons a r=>obtain ⟨b,c,rfl⟩:=len2 (Nat.succ.inj h); exact ⟨a,b,c,rfl⟩
theorem len4 {α:Type} {us:List α} (h:us.length=4):∃ a b c d,us=[a,b,c,d]:=by
 cases us with
 | nil=>cases h
 | cons a r=>obtain ⟨b,c,d,rfl⟩:=len3 (Nat.succ.inj h); exact ⟨a,b,c,d,rfl⟩
theorem xfin {H:Hp} {x d:Addr} {o1 o2:HO} {E1:HO} (hx:H x=some E1) (hd:H d=none):(upd (upd H d o1) x o2) x=some o2∧(upd (upd H d o1) x o2) d=some o1∧∀ a o,a≠x→H a=some o→(upd (upd H d o1) x o2) a=some o :=
 ⟨upd_same,by rw [Zag (Ne.symm (Zad hx hd)),upd_same],fun a o ne e=>by rw [Zag ne,Zag (Zad e hd)]; exact e⟩
theorem xmore {H H1:Hp} {x d:Addr} {o1 o2:HO} (hd:H d=none) (ne:d≠x) (h1:H1 x=some o1) (hs:∀ a o,a≠x→H a=some o→H1 a=some o):(upd H1 d o2) x=some o1∧(upd H1 d o2) d=some o2∧∀ a o,a≠x→H a=some o→(upd H1 d o2) a=some o :=
 ⟨by rw [Zag (Ne.symm ne)]; exact h1,upd_same,fun a o na e=>by rw [Zag (Zad e hd)]; exact hs a o na e⟩
theorem Zgf:Zan ["self","many"] ["self","many"] (Zab Zbh):=⟨rfl,rfl,rfl,by decide +kernel,rfl,by decide +kernel,by decide +kernel⟩
theorem Zfm {f C:Addr} {fd:FuncData} (F:Fun K "__init__" "TooMany.__init__" Zbh f fd) (R:XCls K C) (n1:NoAttr K C "many"):FnOk P w K mg base CX0 1 f fd ["self","many"] (sp_x C ["many"]):=by
 have S:=Zgf
 refine F.ok S (fun vs H Q E h=>?_) (fun cdv A outer s H vs Q E hr h=>?_)
 ·obtain ⟨x,ws,rfl,hl,_⟩:=h; rw [List.length_cons,hl]; rfl
 ·obtain ⟨x,ws,rfl,hl,hx,q⟩:=h
  obtain ⟨v0,rfl⟩:=len1 hl
  refine ⟨_,(Zah (Zjs (pv 0) (pv 1) rfl)),?_⟩
  refine ⟨_,rfl,_,rfl,x,C,rfl,R,n1,.inl ⟨hx,fun d hd=>?_⟩⟩
  obtain ⟨e1,e2,e3⟩:=xfin (o1:=ExcD d [("many",v0)]) (o2:=ExcO C d x) hx hd
  exact q d _ hd e1 e2 e3
theorem Zgg:Zan ["self","width","height"] ["self","width","height"] (Zab Zbi):=⟨rfl,rfl,rfl,by decide +kernel,rfl,by decide +kernel,by decide +kernel⟩
theorem Zfn {f C:Addr} {fd:FuncData} (F:Fun K "__init__" "NoGlass.__init__" Zbi f fd) (R:XCls K C) (n1:NoAttr K C "width") (n2:NoAttr K C "height"):FnOk P w K mg base CX0 1 f fd ["self","width","height"] (sp_x C ["width","height"]):=by
 have S:=Zgg
 refine F.ok S (fun vs H Q E h=>?_) (fun cdv A outer s H vs Q E hr h=>?_)
 ·obtain ⟨x,ws,rfl,hl,_⟩:=h; rw [List.length_cons,hl]; rfl
 ·obtain ⟨x,ws,rfl,hl,hx,q⟩:=h
  obtain ⟨v0,v1,rfl⟩:=len2 hl
  refine ⟨_,(Zae (Zjs (pv 0) (pv 1) rfl)
   (Zah (Zjs (pv 0) (pv 2) rfl))),?_⟩
  refine ⟨_,rfl,_,rfl,x,C,rfl,R,n1,.inl ⟨hx,fun d hd=>?_⟩⟩
  obtain ⟨e1,e2,e3⟩:=xfin (o1:=ExcD d [("width",v0)]) (o2:=ExcO C d x) hx hd
  generalize upd (upd H d (ExcD d [("width",v0)])) x (ExcO C d x)=H1 at e1 e2 e3 ⊢
  have nd:d≠x:=Ne.symm (Zad hx hd)
  have p1:putF "height" v1 [(("width":Str),v0)]=[(("width":Str),v0),(("height":Str),v1)]:=by
   rw [putF,if_neg (by decide +kernel)]; rfl
  refine ⟨_,rfl,_,rfl,x,C,rfl,R,n2,.inr ⟨d,_,e1,e2,by show 1 < 1000; decide,?_⟩⟩
  rw [p1]
  obtain ⟨f1,f2,f3⟩:=xmore (o2:=ExcD d [(("width":Str),v0),(("height":Str),v1)]) hd nd e1 e3
  exact q d _ hd f1 f2 f3
def cutC (cU cL:Addr) (u:Bool):Addr:=if u then cU else cL
abbrev wF (m:V):List (Str × V):=putF "mark" m []
abbrev cF (k:Int) (vx vy:V):List (Str × V):=putF "other" vy (putF "first" vx (putF "at" (.int k) []))
def Obj (cW cU cL:Addr) (H:Hp):Tr→V→Prop
 | .whole m,v=>∃ a dx,v=.ref a∧H a=some (.ins cW dx (wF (markV m)))
 | .cut u k x y,v=>∃ a dx vx vy,v=.ref a∧H a=some (.ins (cutC cU cL u) dx (cF k vx vy))∧Obj cW cU cL H x vx∧Obj cW cU cL H y vy
theorem Obj.same {H H':Hp} (s:Same H H'):∀ {t:Tr} {v:V},Obj cW cU cL H t v→Obj cW cU cL H' t v
 | .whole m,v,h=>by
  rw [Obj] at h ⊢
  obtain ⟨a,dx,e,h⟩:=h
  exact ⟨a,dx,e,s _ _ h⟩
 | .cut u k x y,v,h=>by
  rw [Obj] at h ⊢
  obtain ⟨a,dx,vx,vy,e,h,h1,h2⟩:=h
  exact ⟨a,dx,vx,vy,e,s _ _ h,Obj.same s h1,Obj.same s h2⟩
structure RT (mg:Str→Option Value) (K:PySem.W.Frag) (cT cW cU cL:Addr):Prop where
 g_Tree:mg "Tree"=some (.ref cT)
 g_Whole:mg "Whole"=some (.ref cW)
 g_Upright:mg "Upright"=some (.ref cU)
 g_Level:mg "Level"=some (.ref cL)
 iW:ICls K cW
 iC:∀ u,ICls K (cutC cU cL u)
 n_mark:NoAttr K cW "mark"
 n_at:∀ u,NoAttr K (cutC cU cL u) "at"
 n_first:∀ u,NoAttr K (cutC cU cL u) "first"
 n_other:∀ u,NoAttr K (cutC cU cL u) "other"
 kWW:PySem.W.kitOne K (.ref cW) (.ref cW)=some true
 kWC:∀ u,PySem.W.kitOne K (.ref cW) (.ref (cutC cU cL u))=some false
 kCW:∀ u,PySem.W.kitOne K (.ref (cutC cU cL u)) (.ref cW)=some false
 kCC:∀ u v,PySem.W.kitOne K (.ref (cutC cU cL u)) (.ref (cutC cU cL v))=some (u == v)
 kWT:PySem.W.kitOne K (.ref cW) (.ref cT)=some true
 kCT:∀ u,PySem.W.kitOne K (.ref (cutC cU cL u)) (.ref cT)=some true
def sp_iW (C:Addr):Sp:=fun vs H Q _=>∃ (a dx:Addr) (m:V),vs=[.ref a,m]∧H a=some (.ins C dx [])∧Q .non (upd H a (.ins C dx (wF m)))
def sp_iC (C:Addr):Sp:=fun vs H Q _=>∃ (a dx:Addr) (k:Int) (vx vy:V),vs=[.ref a,.int k,vx,vy]∧H a=some (.ins C dx [])∧∀ H',SameX a H H'→H' a=some (.ins C dx (cF k vx vy))→Q .non H'
theorem Zi7:Zan ["self","mark"] ["self","mark"] (Zab Zb2):=⟨rfl,rfl,rfl,by decide +kernel,rfl,by decide +kernel,by decide +kernel⟩
theorem Zhh {f:Addr} {fd:FuncData} (F:FunD K "__init__" "Whole.__init__" Zb2 f fd) (R:RT mg K cT cW cU cL):FnOk P w K mg base CX0 1 f fd ["self","mark"] (sp_iW cW):=by
 have S:=Zi7
 refine F.ok S (fun vs H Q E h=>?_) (fun cdv A outer s H vs Q E hr h=>?_)
 ·obtain ⟨a,dx,m,rfl,_⟩:=h; rfl
 ·obtain ⟨a,dx,m,rfl,ha,q⟩:=h
  refine ⟨_,(Zah (Zdz (pv 0) (pv 1) rfl)),?_⟩
  exact ⟨_,rfl,_,rfl,a,cW,dx,_,rfl,ha,R.iW.cl,R.n_mark,(by show 0 < 1000; decide),q⟩
theorem Zge:Zan ["self","at","first","other"] ["self","at","first","other"] (Zab Zbg):=⟨rfl,rfl,rfl,by decide +kernel,rfl,by decide +kernel,by decide +kernel⟩
theorem Zfl {f:Addr} {fd:FuncData} (F:Fun K "__init__" "Upright.__init__" Zbg f fd) (R:RT mg K cT cW cU cL):FnOk P w K mg base CX0 1 f fd ["self","at","first","other"] (sp_iC cU):=by
 have S:=Zge
 refine F.ok S (fun vs H Q E h=>?_) (fun cdv A outer s H vs Q E hr h=>?_)
 ·obtain ⟨a,dx,k,vx,vy,rfl,_⟩:=h; rfl
 ·obtain ⟨a,dx,k,vx,vy,rfl,ha,q⟩:=h
  refine ⟨_,(Zae (Zdz (pv 0) (pv 1) rfl)
   (Zae (Zdz (pv 0) (pv 2) rfl)
   (Zah (Zdz (pv 0) (pv 3) rfl)))),?_⟩
  refine ⟨_,rfl,_,rfl,a,cU,dx,_,rfl,ha,(R.iC true).cl,R.n_at true,(by show 0 < 1000; decide),?_⟩
  refine ⟨_,rfl,_,rfl,a,cU,dx,_,rfl,upd_same,(R.iC true).cl,R.n_first true,(by show 1 < 1000; decide),?_⟩
  refine ⟨_,rfl,_,rfl,a,cU,dx,_,rfl,upd_same,(R.iC true).cl,R.n_other true,(by show 2 < 1000; decide),?_⟩
  exact q _ ((SameX.upd.trans SameX.upd).trans SameX.upd) upd_same
theorem Zi8:Zan ["self","at","first","other"] ["self","at","first","other"] (Zab Zb3):=⟨rfl,rfl,rfl,by decide +kernel,rfl,by decide +kernel,by decide +kernel⟩
theorem Zhi {f:Addr} {fd:FuncData} (F:Fun K "__init__" "Level.__init__" Zb3 f fd) (R:RT mg K cT cW cU cL):FnOk P w K mg base CX0 1 f fd ["self","at","first","other"] (sp_iC cL):=by
 have S:=Zi8
 refine F.ok S (fun vs H Q E h=>?_) (fun cdv A outer s H vs Q E hr h=>?_)
 ·obtain ⟨a,dx,k,vx,vy,rfl,_⟩:=h; rfl
 ·obtain ⟨a,dx,k,vx,vy,rfl,ha,q⟩:=h
  refine ⟨_,(Zae (Zdz (pv 0) (pv 1) rfl)
   (Zae (Zdz (pv 0) (pv 2) rfl)
   (Zah (Zdz (pv 0) (pv 3) rfl)))),?_⟩
  refine ⟨_,rfl,_,rfl,a,cL,dx,_,rfl,ha,(R.iC false).cl,R.n_at false,(by show 0 < 1000; decide),?_⟩
  refine ⟨_,rfl,_,rfl,a,cL,dx,_,rfl,upd_same,(R.iC false).cl,R.n_first false,(by show 1 < 1000; decide),?_⟩
  refine ⟨_,rfl,_,rfl,a,cL,dx,_,rfl,upd_same,(R.iC false).cl,R.n_other false,(by show 2 < 1000; decide),?_⟩
  exact q _ ((SameX.upd.trans SameX.upd).trans SameX.upd) upd_same
theorem Zfq {H:Hp} {x dx:Addr} {o1 o2:HO} (hx:H x=none) (hd:H dx=none):Same H (upd (upd H dx o1) x o2):=fun b o e=>by
 rw [Zag (Zad e hx),Zag (Zad e hd)]; exact e
theorem fW (m:V):(wF m).lookup ("mark":Str)=some m:=by rw [Zay,if_pos rfl]
theorem fC_at (k:Int) (vx vy:V):(cF k vx vy).lookup ("at":Str)=some (.int k):=by rw [Zay,if_neg (by decide +kernel),Zay,if_neg (by decide +kernel),Zay,if_pos rfl]
theorem fC_first (k:Int) (vx vy:V):(cF k vx vy).lookup ("first":Str)=some vx:=by rw [Zay,if_neg (by decide +kernel),Zay,if_pos rfl]
theorem fC_other (k:Int) (vx vy:V):(cF k vx vy).lookup ("other":Str)=some vy:=by rw [Zay,if_pos rfl]
theorem refU {C:Addr}:∀ u',RelV (.ref C) u'→u'=.ref C:=fun _ z=>z
def ents:Tr→List En
 | .whole m=>[.w m]
 | .cut u k x y=>.c u k :: (ents x++ents y)
def Tr.nd:Tr→Nat
 | .whole _=>1
 | .cut _ _ x y=>x.nd+y.nd+1
theorem Zd4:∀ t:Tr,(ents t).length=t.nd
 | .whole _=>rfl
 | .cut _ _ x y=>by rw [ents,List.length_cons,List.length_append,Zd4 x,Zd4 y]; rfl
theorem nd_pos:∀ t:Tr,0 < t.nd
 | .whole _=>Nat.one_pos
 | .cut _ _ x y=>Nat.succ_pos _
def Kp (H H':Hp):Prop:=∀ b o,H b=some o→(∀ xs,o≠.lst xs)→H' b=some o
theorem Zj8 {H H':Hp} (s:Same H H'):Kp H H':=fun b o e _=>s b o e
theorem Kp.trans {H H1 H2:Hp} (a:Kp H H1) (b:Kp H1 H2):Kp H H2:=fun c o e n=>b c o (a c o e n) n
theorem Kp.put {H:Hp} {l:Addr} {xs ys:List V} (h:H l=some (.lst xs)):Kp H (upd H l (.lst ys)):=fun b o e n=>by
 rw [Zag (ne_of e h (n xs))]; exact e
theorem Obj.kp {H H':Hp} (s:Kp H H'):∀ {t:Tr} {v:V},Obj cW cU cL H t v→Obj cW cU cL H' t v
 | .whole m,v,h=>by
  rw [Obj] at h ⊢
  obtain ⟨a,dx,e,h⟩:=h
  exact ⟨a,dx,e,s _ _ h (by intro xs z; cases z)⟩
 | .cut u k x y,v,h=>by
  rw [Obj] at h ⊢
  obtain ⟨a,dx,vx,vy,e,h,h1,h2⟩:=h
  exact ⟨a,dx,vx,vy,e,s _ _ h (by intro xs z; cases z),Obj.kp s h1,Obj.kp s h2⟩
def EnsAt (H:Hp):List V→List En→Prop
 | [],[]=>True
 | v :: r,e :: q=>(∃ a,v=.ref a∧H a=some (.tup (enV e)))∧EnsAt H r q
 | _,_=>False
theorem EnsAt.kp {H H':Hp} (s:Kp H H'):∀ {vs:List V} {es:List En},EnsAt H vs es→EnsAt H' vs es
 | [],[],_=>trivial
 | v :: r,e :: q,h=>⟨let ⟨a,b,c⟩:=h.1; ⟨a,b,s _ _ c (by intro xs z; cases z)⟩,EnsAt.kp s h.2⟩
 | [],_ :: _,h=>h
 | _ :: _,[],h=>h
theorem EnsAt.snoc {H:Hp} {a:Addr} {e:En} (ha:H a=some (.tup (enV e))):∀ {vs:List V} {es:List En},EnsAt H vs es→EnsAt H (vs++[.ref a]) (es++[e])
 | [],[],_=>⟨⟨a,rfl,ha⟩,trivial⟩
 | v :: r,e' :: q,h=>⟨h.1,EnsAt.snoc ha h.2⟩
 | [],_ :: _,h=>h.elim
 | _ :: _,[],h=>h.elim
theorem EnsAt.len {H:Hp}:∀ {vs:List V} {es:List En},EnsAt H vs es→vs.length=es.length
 | [],[],_=>rfl
 | v :: r,e' :: q,h=>by rw [List.length_cons,List.length_cons,EnsAt.len h.2]
 | [],_ :: _,h=>h.elim
 | _ :: _,[],h=>h.elim
theorem EnsAt.get {H:Hp}:∀ {vs:List V} {es:List En} {i:Nat} {v:V},EnsAt H vs es→vs[i]?=some v→∃ e a,es[i]?=some e∧v=.ref a∧H a=some (.tup (enV e))
 | v :: r,e :: q,0,_,h,hv=>by
  cases hv
  obtain ⟨a,b,c⟩:=h.1
  exact ⟨e,a,rfl,b,c⟩
 | v :: r,e :: q,i+1,_,h,hv=>EnsAt.get (i:=i) h.2 hv
 | [],[],_,_,_,hv=>by cases hv
 | [],_ :: _,_,_,h,_=>h.elim
 | _ :: _,[],_,_,h,_=>h.elim
def flat (ws:List (V × Tr)):List En:=ws.reverse.flatMap fun p=>ents p.2
theorem Zcu (ws:List (V × Tr)) (p:V × Tr):flat (ws++[p])=ents p.2++flat ws:=by
 unfold flat
 rw [List.reverse_append,List.reverse_singleton,List.singleton_append,List.flatMap_cons]
def cnt (ws:List (V × Tr)):Nat:=(ws.map fun p=>p.2.nd).sum
theorem Zd5 (ws:List (V × Tr)) (p:V × Tr):cnt (ws++[p])=cnt ws+p.2.nd:=by
 unfold cnt
 rw [List.map_append,List.sum_append,List.map_singleton,List.sum_singleton]
theorem Zkh:∀ ws:List (V × Tr),ws.length≤cnt ws
 | []=>Nat.le_refl 0
 | p :: r=>by
  have:=Zkh r
  have:=nd_pos p.2
  show r.length+1≤p.2.nd+cnt r
  lia
theorem Zfw (p:V × Tr) (r:List (V × Tr)):flat (p :: r)=flat r++ents p.2:=by
 unfold flat
 rw [List.reverse_cons,List.flatMap_append,List.flatMap_cons,List.flatMap_nil,List.append_nil]
theorem Zht:∀ ws:List (V × Tr),(flat ws).length=cnt ws
 | []=>rfl
 | p :: r=>by
  rw [Zfw,List.length_append,Zd4,Zht r]
  show _=p.2.nd+cnt r
  lia
theorem Zec {α:Type} (ws:List α):ws=[]∨∃ ws0 p,ws=ws0++[p]:=by
 by_cases h:ws=[]
 ·exact .inl h
 ·exact .inr ⟨ws.dropLast,ws.getLast h,(List.dropLast_concat_getLast h).symm⟩
theorem last_map {ws0:List (V × Tr)} {p:V × Tr}:((ws0++[p]).map (·.1))[((ws0++[p]).map (·.1)).length - 1]?=some p.1:=by
 rw [List.length_map,List.length_append,List.length_singleton,Nat.add_sub_cancel,List.getElem?_map,List.getElem?_append_right (Nat.le_refl _),Nat.sub_self]; rfl
theorem drop_map {ws0:List (V × Tr)} {p:V × Tr}:((ws0++[p]).map (·.1)).dropLast=ws0.map (·.1):=by rw [List.map_append,List.map_singleton,List.dropLast_concat]
def wt:En→Int
 | .w _=>1
 | .c _ _=>-1
def wts (es:List En):Int:=(es.map wt).sum
theorem Zje (a b:List En):wts (a++b)=wts a+wts b:=by
 unfold wts
 rw [List.map_append,List.sum_append]
theorem Zkr (e:En) (b:List En):wts (e :: b)=wt e+wts b:=by
 unfold wts
 rw [List.map_cons,List.sum_cons]
theorem Zdi:∀ t:Tr,wts (ents t)=1
 | .whole _=>rfl
 | .cut u k x y=>by
  rw [ents,Zkr,Zje,Zdi x,Zdi y]; rfl
theorem Zg2:∀ ws:List (V × Tr),wts (flat ws)=ws.length
 | []=>rfl
 | p :: r=>by rw [Zfw,Zje,Zdi,Zg2 r,List.length_cons]; lia
theorem Zjd:∀ (t:Tr) (a b:List En),ents t=a++b→b≠[]→1≤wts b
 | .whole m,a,b,h,hb=>by
  have h:[En.w m]=a++b:=h
  cases a with
  | nil=>rw [List.nil_append] at h; rw [← h]; exact Int.le_refl 1
  | cons e r =>
   have:=congrArg List.length h
   simp only [List.length_append,List.length_cons,List.length_nil] at this
   exact absurd (List.length_eq_zero_iff.mp (by lia)) hb
 | .cut u k x y,a,b,h,hb=>by
  cases a with
  | nil =>
   rw [List.nil_append] at h
   rw [← h,Zdi]
   decide
  | cons e r =>
   rw [ents,List.cons_append] at h
   have h2:=List.cons.inj h |>.2
   rcases List.append_eq_append_iff.mp h2 with ⟨c,hc,hd⟩ | ⟨c,hc,hd⟩
   ·exact Zjd y c b hd hb
   ·rw [hd,Zje,Zdi]
    by_cases e:c=[]
    ·rw [e]; decide
    ·have:=Zjd x r c hc e
     lia
theorem Zhv:∀ (t t':Tr) (r r':List En),ents t++r=ents t'++r'→t=t'∧r=r'
 | .whole m,.whole m',r,r',h=>by
  have h:En.w m :: r=En.w m' :: r':=h
  injection h with h1 h2
  injection h1 with h1
  exact ⟨by rw [h1],h2⟩
 | .whole m,.cut u k x y,r,r',h=>by
  have h:En.w m :: r=En.c u k :: (ents x++ents y++r'):=h
  injection h with h1 _
  cases h1
 | .cut u k x y,.whole m,r,r',h=>by
  have h:En.c u k :: (ents x++ents y++r)=En.w m :: r':=h
  injection h with h1 _
  cases h1
 | .cut u k x y,.cut u' k' x' y',r,r',h=>by
  have h:En.c u k :: (ents x++ents y++r)=En.c u' k' :: (ents x'++ents y'++r'):=h
  injection h with h1 h2
  injection h1 with h3 h4
  rw [List.append_assoc,List.append_assoc] at h2
  obtain ⟨e1,h5⟩:=Zhv x x' _ _ h2
  obtain ⟨e2,h6⟩:=Zhv y y' _ _ h5
  exact ⟨by rw [h3,h4,e1,e2],h6⟩
def Zd9 (cW cU cL:Addr):Sp:=fun vs H Q _=>∃ (u:Bool) (k:Int) (v1 v2:V) (y1 y2:Tr),vs=[.str (wd u),.int k,v1,v2]∧Obj cW cU cL H y1 v1∧Obj cW cU cL H y2 v2∧∀ v' H',Same H H'→Obj cW cU cL H' (.cut u k y1 y2) v'→Q v' H'
theorem S_cut_from:Zan ["word","at","first","other"] ["word","at","first","other"] (Zab Zcq):=⟨rfl,rfl,rfl,by decide +kernel,rfl,by decide +kernel,by decide +kernel⟩
theorem Zj4 {f:Addr} {fd:FuncData} (F:Fun K "cut_from" "cut_from" Zcq f fd) (T:Txt mg tk) (K_Upright:MkOk P w K mg base 1 "Upright" cU ["self","at","first","other"] (sp_iC cU)) (K_Level:MkOk P w K mg base 1 "Level" cL ["self","at","first","other"] (sp_iC cL)) :
  FnOk P w K mg base CX0 3 f fd ["word","at","first","other"] (Zd9 cW cU cL):=by
 have S:=S_cut_from
 refine F.ok S (fun vs H Q E h=>?_) (fun cdv A outer s H vs Q E hr h=>?_)
 ·obtain ⟨u,k,v1,v2,y1,y2,rfl,_⟩:=h; rfl
 ·obtain ⟨u,k,v1,v2,y1,y2,rfl,o1,o2,q⟩:=h
  refine ⟨_,(Zae (Zbm (Zau Zfj (pv 0) (Za3 (v:=.str "upright") rfl T.g_UPRIGHT ⟨_,rfl⟩) (nomark _)) (Zah (Zat (pe_mk K_Upright hr (Zaa (pv 1) (Zaa (pv 2) (Zaa (pv 3) Zac)))))) Zaw)
   (Zah (Zat (pe_mk K_Level hr (Zaa (pv 1) (Zaa (pv 2) (Zaa (pv 3) Zac))))))),?_⟩
  cases u with
  | true =>
   refine ⟨_,rfl,rfl,_,rfl,iteP (Zgi true true) ⟨_,rfl,_,rfl,_,rfl,fun x dx nx ndx nex=>⟨x,dx,k,v1,v2,rfl,upd_same,fun H3 s3 e3=>⟨rfl,?_⟩⟩⟩⟩
   have s4:Same H H3:=fun b o e=>s3 b o (Zad e nx) (Zfq nx ndx b o e)
   exact q _ _ s4 (by rw [Obj]; exact ⟨x,dx,v1,v2,rfl,e3,o1.same s4,o2.same s4⟩)
  | false =>
   refine ⟨_,rfl,rfl,_,rfl,iteN (Zgi false true) ⟨_,rfl,_,rfl,_,rfl,fun x dx nx ndx nex=>⟨x,dx,k,v1,v2,rfl,upd_same,fun H3 s3 e3=>⟨rfl,?_⟩⟩⟩⟩
   have s4:Same H H3:=fun b o e=>s3 b o (Zad e nx) (Zfq nx ndx b o e)
   exact q _ _ s4 (by rw [Obj]; exact ⟨x,dx,v1,v2,rfl,e3,o1.same s4,o2.same s4⟩)
def Zjl (K:PySem.W.Frag) (cW cU cL:Addr):Sp:=fun vs H Q _=>∃ (l:Addr) (xs:List V) (t:Tr),vs=[.ref l]∧SqL K H l xs∧EnsAt H xs (ents t)∧t.nd≤400∧∀ v' H',Same H H'→Obj cW cU cL H' t v'→Q v' H'
theorem Zkm:Zan ["entries","done","word","number","first","other"] ["entries"] (Zab Zcb):=⟨rfl,rfl,rfl,by decide +kernel,rfl,by decide +kernel,by decide +kernel⟩
theorem drop_last {es:List En} {i:Nat} {e:En} (hi:i < es.length) (h:es[es.length - 1 - i]?=some e):es.drop (es.length - (i+1))=e :: es.drop (es.length - i):=by
 have hk:es.length - 1 - i < es.length:=by lia
 rw [show es.length - (i+1)=es.length - 1 - i by lia,List.drop_eq_getElem_cons hk]
 rw [List.getElem?_eq_getElem hk] at h
 rw [Option.some.inj h,show es.length - 1 - i+1=es.length - i by lia]
theorem Zij {f:Addr} {fd:FuncData} (F:Fun K "tree_from" "tree_from" Zcb f fd) (T:Txt mg tk) (R:RT mg K cT cW cU cL) (K_Whole:MkOk P w K mg base 1 "Whole" cW ["self","mark"] (sp_iW cW)) (D_cut_from:DefOk P w K mg base 3 "cut_from" ["word","at","first","other"] (Zd9 cW cU cL)) :
  FnOk P w K mg base CX0 4 f fd ["entries"] (Zjl K cW cU cL):=by
 have S:=Zkm
 refine F.ok S (fun vs H Q E h=>?_) (fun cdv A outer s H vs Q E hr h=>?_)
 ·obtain ⟨l,xs,t,rfl,_⟩:=h; rfl
 ·obtain ⟨l,xs,t,rfl,hl,hen,hn,q⟩:=h
  refine ⟨_,(Zae (Zav (i:=1) S.nd rfl (Or.inl rfl) (Zcy Zac))
   (Zae (Zdy PassesOwn.never rfl (pi_revd rfl T.z_reversed (Zaa (pv 0) Zac)) (Zff rfl (Zar (Zap (i:=2) S.nd rfl (Or.inl rfl)) (Zar (Zap (i:=3) S.nd rfl (Or.inl rfl)) Zbx))) (Zah (Zbm (Zau Zfj (pv 2) (Za3 (v:=.str "whole") rfl T.g_WHOLE ⟨_,rfl⟩) (nomark _)) (Zah (Zbw (Zeg PySem.F.plainAttrs_list PySem.F.slot_list_append PySem.F.type_list_append Za9 (pv 1) (Zaa (pe_mk K_Whole hr (Zaa (pv 3) Zac)) Zac)))) (Zae (Zav (i:=4) S.nd rfl (Or.inl rfl) (Zla PySem.F.plainAttrs_list PySem.F.slot_list_pop PySem.F.type_list_pop Zld (pv 1)))
   (Zae (Zav (i:=5) S.nd rfl (Or.inl rfl) (Zla PySem.F.plainAttrs_list PySem.F.slot_list_pop PySem.F.type_list_pop Zld (pv 1)))
   (Zah (Zbw (Zeg PySem.F.plainAttrs_list PySem.F.slot_list_append PySem.F.type_list_append Za9 (pv 1) (Zaa (Za2 D_cut_from hr (Zaa (pv 2) (Zaa (pv 3) (Zaa (pv 4) (Zaa (pv 5) Zac))))) Zac)))))))))
   (Zah (Zat (Zla PySem.F.plainAttrs_list PySem.F.slot_list_pop PySem.F.type_list_pop Zld (pv 1)))))),?_⟩
  refine ⟨lenOk 0,fun ld hld=>⟨_,rfl,l,xs,rfl,(Same.new hld).seq hl,?_⟩⟩
  have hxl:=hen.len
  have hel:=Zd4 t
  refine for_rev (K:=K) (a:=l) (xs:=xs) (fun i σ H'=>∃ (ws:List (V × Tr)) (x2 x3 x4 x5:Option V),σ=[some (.ref l),some (.ref ld),x2,x3,x4,x5]∧Same H H'∧H' ld=some (.lst (ws.map (·.1)))∧(∀ p∈ws,Obj cW cU cL H' p.2 p.1)∧(ents t).drop ((ents t).length - i)=flat ws)
   ⟨[],_,_,_,_,rfl,Same.new hld,upd_same,(fun p hp=>(nomatch hp)),by rw [Nat.sub_zero,List.drop_length]; rfl⟩ (fun i σ H' _ hp=>let ⟨_,_,_,_,_,_,s,_⟩:=hp; s.seq hl) ?_ ?_
  ·rintro i v σ H' hv hi ⟨ws,x2,x3,x4,x5,rfl,s1,hd,hob,heq⟩
   obtain ⟨e,a,he,rfl,ha⟩:=hen.get hv
   have ha':=s1 _ _ ha
   rw [hxl] at he hi
   have hdr:=drop_last hi he
   have wl:ws.length≤400:=by
    have h1:=Zkh ws
    have h2:=Zht ws
    rw [← heq,List.length_drop] at h2
    lia
   cases e with
   | w m =>
    refine ⟨a,_,rfl,SqT.of ha',rfl,_,_,rfl,_,_,rfl,rfl,?_⟩
    refine ⟨_,rfl,rfl,_,rfl,iteP (decide_eq_true rfl) ?_⟩
    refine ⟨_,rfl,.inl ⟨rfl,_,SqL.of hd⟩,_,rfl,fun x dx nx ndx nex=>⟨x,dx,_,rfl,upd_same,rfl,?_⟩⟩
    have s2:Same H' (upd (upd (upd H' dx (.own x)) x (.ins cW dx [])) x (.ins cW dx (wF (markV m)))):=fun b o e=>by
     rw [Zag (Zad e nx)]; exact Zfq nx ndx b o e
    have e2:(upd (upd (upd H' dx (.own x)) x (.ins cW dx [])) x (.ins cW dx (wF (markV m)))) x=some (.ins cW dx (wF (markV m))):=upd_same
    generalize upd (upd (upd H' dx (.own x)) x (.ins cW dx [])) x (.ins cW dx (wF (markV m)))=H2 at s2 e2 ⊢
    have d2:=s2 _ _ hd
    refine ⟨ld,_,.ref x,rfl,rfl,d2,Zaq (by rw [List.length_map]; lia),?_⟩
    have k3:Kp H2 (upd H2 ld (.lst (ws.map (·.1)++[.ref x]))):=Kp.put d2
    refine ⟨ws++[(.ref x,.whole m)],_,_,_,_,rfl,fun b o e=>?_,?_,fun p hp=>?_,?_⟩
    ·rw [Zag (Zad e hld)]; exact s2 b o (s1 b o e)
    ·rw [upd_same,List.map_append]; rfl
    ·rcases List.mem_append.mp hp with hp | hp
     ·exact ((hob p hp).same s2).kp k3
     ·rw [List.mem_singleton.mp hp,Obj]; exact ⟨x,dx,rfl,k3 _ _ e2 (by intro xs z; cases z)⟩
    ·rw [hdr,heq,Zcu]; rfl
   | c u k =>
    have big:2≤ws.length:=by
     have h1:=Zjd t ((ents t).take ((ents t).length - (i+1))) ((ents t).drop ((ents t).length - (i+1))) (List.take_append_drop _ _).symm (by rw [hdr]; intro z; cases z)
     rw [hdr,heq,Zkr,Zg2] at h1
     have:wt (.c u k)=-1:=rfl
     lia
    obtain rfl | ⟨ws1,p1,rfl⟩:=Zec ws
    ·exact absurd big (by decide)
    obtain rfl | ⟨ws2,p2,rfl⟩:=Zec ws1
    ·exact absurd big (by simp)
    refine ⟨a,_,rfl,SqT.of ha',rfl,_,_,rfl,_,_,rfl,rfl,?_⟩
    refine ⟨_,rfl,rfl,_,rfl,iteN (Zkt u) ?_⟩
    refine ⟨_,rfl,.inl ⟨rfl,_,SqL.of hd⟩,ld,_,p1.1,rfl,rfl,hd,last_map,?_⟩
    rw [drop_map]
    have k2:Kp H' (upd H' ld (.lst ((ws2++[p2]).map (·.1)))):=Kp.put hd
    have s2:Same H (upd H' ld (.lst ((ws2++[p2]).map (·.1)))):=fun b o e=>by rw [Zag (Zad e hld)]; exact s1 b o e
    have d2:(upd H' ld (.lst ((ws2++[p2]).map (·.1)))) ld=some (.lst ((ws2++[p2]).map (·.1))):=upd_same
    generalize upd H' ld (.lst ((ws2++[p2]).map (·.1)))=H2 at k2 s2 d2 ⊢
    refine ⟨_,rfl,.inl ⟨rfl,_,SqL.of d2⟩,ld,_,p2.1,rfl,rfl,d2,last_map,?_⟩
    rw [drop_map]
    have k3:Kp H2 (upd H2 ld (.lst (ws2.map (·.1)))):=Kp.put d2
    have s3:Same H (upd H2 ld (.lst (ws2.map (·.1)))):=fun b o e=>by rw [Zag (Zad e hld)]; exact s2 b o e
    have d3:(upd H2 ld (.lst (ws2.map (·.1)))) ld=some (.lst (ws2.map (·.1))):=upd_same
    generalize upd H2 ld (.lst (ws2.map (·.1)))=H3 at k3 s3 d3 ⊢
    have kk:=k2.trans k3
    refine ⟨_,rfl,.inl ⟨rfl,_,SqL.of d3⟩,_,rfl,_,rfl,_,rfl,_,rfl,u,k,p1.1,p2.1,p1.2,p2.2,rfl,(hob p1 (by simp)).kp kk,(hob p2 (by simp)).kp kk,fun v' H4 s4 o4=>?_⟩
    have d4:=s4 _ _ d3
    rw [List.length_append,List.length_append] at wl
    refine ⟨ld,_,v',rfl,rfl,d4,Zaq (by rw [List.length_map]; lia),?_⟩
    have k5:Kp H4 (upd H4 ld (.lst (ws2.map (·.1)++[v']))):=Kp.put d4
    refine ⟨ws2++[(v',.cut u k p1.2 p2.2)],_,_,_,_,rfl,fun b o e=>?_,?_,fun p hp=>?_,?_⟩
    ·rw [Zag (Zad e hld)]; exact s4 b o (s3 b o e)
    ·rw [upd_same,List.map_append]; rfl
    ·rcases List.mem_append.mp hp with hp | hp
     ·exact ((((hob p (by simp [hp])).kp kk).same s4)).kp k5
     ·rw [List.mem_singleton.mp hp]; exact o4.kp k5
    ·rw [hdr,heq,Zcu,Zcu,Zcu]
     show .c u k :: (ents p1.2++(ents p2.2++flat ws2))=.c u k :: (ents p1.2++ents p2.2)++flat ws2
     rw [List.cons_append,List.append_assoc]
  ·rintro σ H' ⟨ws,x2,x3,x4,x5,rfl,s1,hd,hob,heq⟩
   rw [hxl,Nat.sub_self,List.drop_zero] at heq
   have one:ws.length=1:=by
    have h1:=Zdi t
    rw [heq,Zg2] at h1
    lia
   obtain ⟨p,rfl⟩:∃ p,ws=[p]:=by
    match ws,one with
    | [p],_=>exact ⟨p,rfl⟩
   have hp:=hob p (by simp)
   have et:p.2=t:=by
    have h1:ents t++[]=ents p.2++[]:=by
     rw [List.append_nil,heq]; rfl
    exact (Zhv _ _ _ _ h1).1.symm
   refine ⟨_,rfl,.inl ⟨rfl,_,SqL.of hd⟩,ld,_,p.1,rfl,rfl,hd,rfl,?_⟩
   rw [et] at hp
   exact q _ _ (fun b o e=>by rw [Zag (Zad e hld)]; exact s1 b o e) (hp.kp (Kp.put hd))
def PsAt (H:Hp) (ws:List (Addr × Rk × Tr)):Prop:=∀ p∈ws,H p.1=some (.tup p.2.1.vs)
abbrev trs (ws:List (Addr × Rk × Tr)):List (V × Tr):=ws.map fun p=>(V.ref p.1,p.2.2)
abbrev prefs (ws:List (Addr × Rk × Tr)):List V:=ws.map fun p=>V.ref p.1
theorem PsAt.kp {H H':Hp} {ws:List (Addr × Rk × Tr)} (h:PsAt H ws) (k:Kp H H'):PsAt H' ws:=fun p hp=>k _ _ (h p hp) (by intro xs z; cases z)
theorem last_pref {ws0:List (Addr × Rk × Tr)} {p:Addr × Rk × Tr}:(prefs (ws0++[p]))[(prefs (ws0++[p])).length - 1]?=some (.ref p.1):=by
 rw [List.length_map,List.length_append,List.length_singleton,Nat.add_sub_cancel,List.getElem?_map,List.getElem?_append_right (Nat.le_refl _),Nat.sub_self]; rfl
theorem drop_pref {ws0:List (Addr × Rk × Tr)} {p:Addr × Rk × Tr}:(prefs (ws0++[p])).dropLast=prefs ws0:=by
 show (List.map (fun p=>V.ref p.1) (ws0++[p])).dropLast=_
 rw [List.map_append,List.map_singleton,List.dropLast_concat]
theorem Zcx (ws:List (Addr × Rk × Tr)) (p:Addr × Rk × Tr):trs (ws++[p])=trs ws++[(V.ref p.1,p.2.2)]:=by
 show List.map (fun p=>(V.ref p.1,p.2.2)) (ws++[p])=_
 rw [List.map_append]; rfl
theorem Zie (ws:List (Addr × Rk × Tr)) (p:Addr × Rk × Tr):prefs (ws++[p])=prefs ws++[V.ref p.1]:=by
 show List.map (fun p=>V.ref p.1) (ws++[p])=_
 rw [List.map_append]; rfl
theorem TabOk.upd {pos:Pos} {qual:Str} {T l:Addr} {H:Hp} {xs ys:List V} (h:TabOk pos qual T H) (hl:H l=some (.lst xs)):TabOk pos qual T (upd H l (.lst ys)):=by
 obtain ⟨ps,e,t,c⟩:=h
 refine ⟨ps,by rw [Zag (fun z=>by rw [z,hl] at e; cases e)]; exact e,t,?_⟩
 rcases c with c | ⟨c',c1,c2⟩
 ·exact .inl c
 ·exact .inr ⟨c',c1,by rw [Zag (fun z=>by rw [z,hl] at c2; cases c2)]; exact c2⟩
theorem Told.n {H H':Hp} (s:SameN H H'):∀ {t:Tr} {v:V},Told H t v→Told H' t v
 | .whole m,v,h=>by
  rw [Told] at h ⊢
  obtain ⟨a,e,h⟩:=h
  exact ⟨a,e,s.tup h⟩
 | .cut u k x y,v,h=>by
  rw [Told] at h ⊢
  obtain ⟨a,vx,vy,e,h,h1,h2⟩:=h
  exact ⟨a,vx,vy,e,s.tup h,Told.n s h1,Told.n s h2⟩
theorem Obj.n {H H':Hp} (s:SameN H H'):∀ {t:Tr} {v:V},Obj cW cU cL H t v→Obj cW cU cL H' t v
 | .whole m,v,h=>by
  rw [Obj] at h ⊢
  obtain ⟨a,dx,e,h⟩:=h
  exact ⟨a,dx,e,s _ _ h fun _ z=>nomatch z⟩
 | .cut u k x y,v,h=>by
  rw [Obj] at h ⊢
  obtain ⟨a,dx,vx,vy,e,h,h1,h2⟩:=h
  exact ⟨a,dx,vx,vy,e,s _ _ h (fun _ z=>nomatch z),Obj.n s h1,Obj.n s h2⟩
theorem none_of {H H':Hp} {l:Addr} (s:Same H H') (h:H' l=none):H l=none:=by
 cases e:H l with
 | none=>rfl
 | some o=>rw [s _ _ e] at h; cases h
theorem Zkz {H:Hp} {t:Tr} {v:V} (h:Told H t v):∃ a,v=.ref a:=by
 cases t <;> rw [Told] at h
 ·obtain ⟨a,rfl,_⟩:=h; exact ⟨a,rfl⟩
 ·obtain ⟨a,_,_,rfl,_⟩:=h; exact ⟨a,rfl⟩
def Zds:Sp:=fun vs H Q _=>∃ i:Int,vs=[.int i]∧Q (.bl true) H
theorem Zkn:Zan ["_law_found"] ["_law_found"] (Zab Zbz):=⟨rfl,rfl,rfl,by decide +kernel,rfl,by decide +kernel,by decide +kernel⟩
theorem Zik {f:Addr} {fd:FuncData} (F:Fun K "_law_whole" "_law_whole" Zbz f fd) (T:Txt mg tk):FnOk P w K mg base CX0 1 f fd ["_law_found"] Zds:=by
 have S:=Zkn
 refine F.ok S (fun vs H Q E h=>?_) (fun cdv A outer s H vs Q E hr h=>?_)
 ·obtain ⟨i,rfl,_⟩:=h; rfl
 ·obtain ⟨i,rfl,q⟩:=h
  refine ⟨_,(Zah (Zat (Zfi (Zao Zbv rfl T.z_isinstance rfl (Zaa (pv 0) (Zaa (Zc1 (v:=.ty "int") rfl T.z_int rfl rfl) Zac))) (Zfg (Zk9 (Zao Zbv rfl T.z_isinstance rfl (Zaa (pv 0) (Zaa (Zc1 (v:=.ty "bool") rfl T.z_bool rfl rfl) Zac)))))))),?_⟩
  exact ⟨_,rfl,_,"int","int",rfl,rfl,.inl rfl,_,rfl,iteP (by decide) ⟨_,rfl,_,"int","bool",rfl,rfl,.inr (.inl rfl),_,rfl,q⟩⟩
def Zdt (cW cU cL:Addr) (n:Nat):Sp:=fun vs H Q _=>∃ (v:V) (t:Tr),vs=[v]∧Obj cW cU cL H t v∧t.dp < n∧∀ v' H',Same H H'→Told H' t v'→Q v' H'
theorem ltold0 {vs:List V} {H:Hp} {Q:VK} {E:XK}:¬ Zdt cW cU cL 0 vs H Q E:=by
 rintro ⟨v,t,_,_,h,_⟩
 lia
theorem Zg1:Zan ["_law_tree","_law_word","_law_first","_law_other"] ["_law_tree"] (Zab Zcc):=⟨rfl,rfl,rfl,by decide +kernel,rfl,by decide +kernel,by decide +kernel⟩
theorem Zez {H:Hp} {t:Tr} {v:V} (h:Told H t v):decide (v=V.non)=false:=by
 cases t <;> rw [Told] at h
 ·obtain ⟨a,rfl,_⟩:=h; exact decide_eq_false (by intro z; cases z)
 ·obtain ⟨a,_,_,rfl,_⟩:=h; exact decide_eq_false (by intro z; cases z)
theorem Zjx {f:Addr} {fd:FuncData} {n:Nat} (F:Fun K "_law_told" "_law_told" Zcc f fd) (T:Txt mg tk) (R:RT mg K cT cW cU cL) (D__law_whole:DefOk P w K mg base 1 "_law_whole" ["_law_found"] Zds) (D__law_told:DefOk P w K mg base (n+3) "_law_told" ["_law_tree"] (Zdt cW cU cL n)):FnOk P w K mg base CX0 (n+4) f fd ["_law_tree"] (Zdt cW cU cL (n+1)):=by
 have S:=Zg1
 refine F.ok S (fun vs H Q E h=>?_) (fun cdv A outer s H vs Q E hr h=>?_)
 ·obtain ⟨v,t,rfl,_⟩:=h; rfl
 ·obtain ⟨v,t,rfl,ho,hd,q⟩:=h
  refine ⟨_,(Zae (Zbm (Zb7 (Zao Zdm rfl T.z_isinstance rfl (Zaa (pv 0) (Zaa (Za3 (v:=.ref (cW)) rfl R.g_Whole rfl) Zac)))) (Zae (Zbm (PW.pt (Zfd (Zau Zjw (Zcg (pv 0) rfl) Zb8 (nomark _)) (Zee (Zck (Zb7 (Za2 D__law_whole hr (Zaa (Zcg (pv 0) rfl) Zac) (by omega))))))) (Zah (Zat Zb8)) Zaw)
   (Zah (Zat (Zas (Zaa Zdo (Zaa (Zcg (pv 0) rfl) Zac)))))) Zaw)
   (Zae (Zbm (PW.pt (Zfd (Zck (Zb7 (Zao Zdm rfl T.z_isinstance rfl (Zaa (pv 0) (Zaa (Za3 (v:=.ref (cU)) rfl R.g_Upright rfl) Zac))))) (Zee (Zck (Zb7 (Zao Zdm rfl T.z_isinstance rfl (Zaa (pv 0) (Zaa (Za3 (v:=.ref (cL)) rfl R.g_Level rfl) Zac)))))))) (Zah (Zat Zb8)) Zaw)
   (Zae (Zav (i:=1) S.nd rfl (Or.inl rfl) Zdo)
   (Zae (Zbm (Zb7 (Zao Zdm rfl T.z_isinstance rfl (Zaa (pv 0) (Zaa (Za3 (v:=.ref (cU)) rfl R.g_Upright rfl) Zac)))) (Zah (Zav (i:=1) S.nd rfl (Or.inl rfl) Zdo)) Zaw)
   (Zae (Zav (i:=2) S.nd rfl (Or.inl rfl) (Za2 D__law_told hr (Zaa (Zcg (pv 0) rfl) Zac) (by omega)))
   (Zae (Zav (i:=3) S.nd rfl (Or.inl rfl) (Za2 D__law_told hr (Zaa (Zcg (pv 0) rfl) Zac) (by omega)))
   (Zae (Zbm (PW.pt (Zfc (Zck (Zb7 (Za2 D__law_whole hr (Zaa (Zcg (pv 0) rfl) Zac) (by omega)))) (Zfc (Zau Zih (pv 2) Zb8 (nomark _)) (Zer (Zau Zih (pv 3) Zb8 (nomark _)))))) (Zah (Zat Zb8)) Zaw)
   (Zah (Zat (Zas (Zaa (pv 1) (Zaa (Zcg (pv 0) rfl) (Zaa (pv 2) (Zaa (pv 3) Zac)))))))))))))),?_⟩
  cases t with
  | whole m =>
   rw [Obj] at ho
   obtain ⟨x,dx,rfl,hx⟩:=ho
   refine ⟨_,rfl,x,cW,dx,_,_,.ref cW,true,rfl,hx,R.iW,rfl,refU,R.kWW,_,rfl,iteP rfl ?_⟩
   refine ⟨_,rfl,x,cW,dx,_,_,rfl,hx,R.iW.cl,R.n_mark,fW _,rfl,_,rfl,?_⟩
   have fin:∀ a,H a=none→Q (.ref a) (upd H a (.tup [.str "whole",markV m])):=fun a ha=>q _ _ (Same.new ha) (by rw [Told]; exact ⟨a,rfl,upd_same⟩)
   cases m with
   | none=>exact iteN (by show (!decide (V.non=V.non))=false; rw [decide_eq_true rfl]; rfl) (iteN rfl ⟨_,rfl,x,cW,dx,_,_,rfl,hx,R.iW.cl,R.n_mark,fW _,lenOk 2,fin⟩)
   | some i=>exact iteP (by show (!decide (V.int i=V.non))=true; rw [decide_eq_false (by intro z; cases z)]; rfl) ⟨_,rfl,x,cW,dx,_,_,rfl,hx,R.iW.cl,R.n_mark,fW _,i,rfl,_,rfl,iteN rfl ⟨_,rfl,x,cW,dx,_,_,rfl,hx,R.iW.cl,R.n_mark,fW _,lenOk 2,fin⟩⟩
  | cut u k y1 y2 =>
   rw [Obj] at ho
   obtain ⟨x,dx,w1,w2,rfl,hx,o1,o2⟩:=ho
   have hd:max y1.dp y2.dp+1 < n+1:=hd
   refine ⟨_,rfl,x,_,dx,_,_,.ref cW,false,rfl,hx,R.iC u,rfl,refU,R.kCW u,_,rfl,iteN rfl ?_⟩
   have go:∀ H1:Hp,H1=H→∀ z:Str,z=wd u→True:=fun _ _ _ _=>trivial
   cases u with
   | true =>
    refine ⟨_,rfl,x,_,dx,_,_,.ref cU,true,rfl,hx,R.iC true,rfl,refU,R.kCC true true,_,rfl,iteN rfl (iteN rfl ?_)⟩
    refine ⟨_,rfl,x,_,dx,_,_,.ref cU,true,rfl,hx,R.iC true,rfl,refU,R.kCC true true,_,rfl,iteP rfl ?_⟩
    refine ⟨_,rfl,x,_,dx,_,_,rfl,hx,(R.iC true).cl,R.n_first true,fC_first _ _ _,w1,y1,rfl,o1,by lia,fun v1 H1 s1 t1=>?_⟩
    have hx1:=s1 _ _ hx
    refine ⟨_,rfl,x,_,dx,_,_,rfl,hx1,(R.iC true).cl,R.n_other true,fC_other _ _ _,w2,y2,rfl,o2.same s1,by lia,fun v2 H2 s2 t2=>?_⟩
    have hx2:=s2 _ _ hx1
    have t1':=t1.same s2
    refine ⟨_,rfl,x,_,dx,_,_,rfl,hx2,(R.iC true).cl,R.n_at true,fC_at _ _ _,k,rfl,_,rfl,iteN rfl ?_⟩
    refine ⟨_,rfl,rfl,_,rfl,iteN (Zez t1') ⟨_,rfl,rfl,_,rfl,iteN (Zez t2) ?_⟩⟩
    refine ⟨_,rfl,_,rfl,x,_,dx,_,_,rfl,hx2,(R.iC true).cl,R.n_at true,fC_at _ _ _,_,rfl,_,rfl,lenOk 4,fun a ha=>?_⟩
    have s3:Same H2 (upd H2 a (.tup [.str (wd true),.int k,v1,v2])):=Same.new ha
    exact q _ _ ((s1.trans s2).trans s3) (by rw [Told]; exact ⟨a,v1,v2,rfl,upd_same,t1'.same s3,t2.same s3⟩)
   | false =>
    refine ⟨_,rfl,x,_,dx,_,_,.ref cU,false,rfl,hx,R.iC false,rfl,refU,R.kCC false true,_,rfl,iteP rfl ?_⟩
    refine ⟨_,rfl,x,_,dx,_,_,.ref cL,true,rfl,hx,R.iC false,rfl,refU,R.kCC false false,_,rfl,iteN rfl ?_⟩
    refine ⟨_,rfl,x,_,dx,_,_,.ref cU,false,rfl,hx,R.iC false,rfl,refU,R.kCC false true,_,rfl,iteN rfl ?_⟩
    refine ⟨_,rfl,x,_,dx,_,_,rfl,hx,(R.iC false).cl,R.n_first false,fC_first _ _ _,w1,y1,rfl,o1,by lia,fun v1 H1 s1 t1=>?_⟩
    have hx1:=s1 _ _ hx
    refine ⟨_,rfl,x,_,dx,_,_,rfl,hx1,(R.iC false).cl,R.n_other false,fC_other _ _ _,w2,y2,rfl,o2.same s1,by lia,fun v2 H2 s2 t2=>?_⟩
    have hx2:=s2 _ _ hx1
    have t1':=t1.same s2
    refine ⟨_,rfl,x,_,dx,_,_,rfl,hx2,(R.iC false).cl,R.n_at false,fC_at _ _ _,k,rfl,_,rfl,iteN rfl ?_⟩
    refine ⟨_,rfl,rfl,_,rfl,iteN (Zez t1') ⟨_,rfl,rfl,_,rfl,iteN (Zez t2) ?_⟩⟩
    refine ⟨_,rfl,_,rfl,x,_,dx,_,_,rfl,hx2,(R.iC false).cl,R.n_at false,fC_at _ _ _,_,rfl,_,rfl,lenOk 4,fun a ha=>?_⟩
    have s3:Same H2 (upd H2 a (.tup [.str (wd false),.int k,v1,v2])):=Same.new ha
    exact q _ _ ((s1.trans s2).trans s3) (by rw [Told]; exact ⟨a,v1,v2,rfl,upd_same,t1'.same s3,t2.same s3⟩)
theorem Ze9 {H:Hp} {x acc:Addr} {xs ys zs:List V} (e:H x=some (.tup xs)) (ha:H acc=some (.lst ys)):(upd H acc (.lst zs)) x=some (.tup xs):=by
 rw [Zag (fun z=>by rw [z,ha] at e; cases e)]; exact e
def Grow (en:Rk→En) (D:Rk→Prop):Tr→Rk→Prop
 | .whole m,p=>D p∧en p=.w m
 | .cut u k x y,p=>D p∧en p=.c u k∧Grow en D x (p.fst u k)∧Grow en D y (p.oth u k)
def spE (en:Rk→En) (D:Rk→Prop):Sp:=fun vs H Q _=>∃ (a:Addr) (p:Rk),vs=[.ref a]∧H a=some (.tup p.vs)∧D p∧∀ e H',Same H H'→H' e=some (.tup (enV (en p)))→Q (.ref e) H'
def sp_by (P:Program) (w:World) (K:PySem.W.Frag) (mg:Str→Option Value) (base:Heap):Sp:=fun vs H Q _=>∃ (a f:Addr) (p:Rk) (t:Tr) (en:Rk→En) (D:Rk→Prop),vs=[.ref a,.ref f]∧H a=some (.tup p.vs)∧FvOk P w K mg base 3 H f (spE en D)∧Grow en D t p∧t.nd≤400∧∀ l xs H',Same H H'→H l=none→H' l=some (.lst xs)→EnsAt H' xs (ents t)→Q (.ref l) H'
theorem Zi6:Zan ["sheet","entry_at","entries","waiting","piece","entry"] ["sheet","entry_at"] (Zab Zby):=⟨rfl,rfl,rfl,by decide +kernel,rfl,by decide +kernel,by decide +kernel⟩
abbrev BInv (en:Rk→En) (D:Rk→Prop) (H:Hp) (a f:Addr) (t:Tr) (le lw:Addr) (m:Nat) (σ:St) (H':Hp):Prop:=∃ (xs:List V) (es:List En) (ws:List (Addr × Rk × Tr)) (x4 x5:Option V),σ=[some (.ref a),some (.ref f),some (.ref le),some (.ref lw),x4,x5]∧Same H H'∧H' le=some (.lst xs)∧EnsAt H' xs es∧H' lw=some (.lst (prefs ws))∧PsAt H' ws∧(∀ p∈ws,Grow en D p.2.2 p.2.1)∧es++flat (trs ws)=ents t∧m=cnt (trs ws)
theorem in_words (e:En):inV ((enV e).headD .non) [V.str "upright",V.str "level"]=match e with
  | .w _=>false
  | .c _ _=>true:=by
 cases e with
 | w m =>
  show (eqV (V.str "upright") (V.str "whole") || (eqV (V.str "level") (V.str "whole") || false))=false
  decide +kernel
 | c u k =>
  cases u
  ·show (eqV (V.str "upright") (V.str "level") || (eqV (V.str "level") (V.str "level") || false))=true
   decide +kernel
  ·show (eqV (V.str "upright") (V.str "upright") || (eqV (V.str "level") (V.str "upright") || false))=true
   decide +kernel
theorem Zhg {f:Addr} {fd:FuncData} (F:Fun K "entries_by" "entries_by" Zby f fd) (T:Txt mg tk) (D_first_piece:DefOk P w K mg base 1 "first_piece" ["piece","word","at"] Zk3) (D_other_piece:DefOk P w K mg base 1 "other_piece" ["piece","word","at"] Zk1):FnOk P w K mg base CX0 4 f fd ["sheet","entry_at"] (sp_by P w K mg base):=by
 have S:=Zi6
 refine F.ok S (fun vs H Q E h=>?_) (fun cdv A outer s H vs Q E hr h=>?_)
 ·obtain ⟨a,f,p,t,en,D,rfl,_⟩:=h; rfl
 ·obtain ⟨a,fv,p,t,en,D,rfl,ha,hfv,gr,hn,q⟩:=h
  refine ⟨_,(Zae (Zav (i:=2) S.nd rfl (Or.inl rfl) (Zcy Zac))
   (Zae (Zav (i:=3) S.nd rfl (Or.inl rfl) (Zcy (Zaa (pv 0) Zac)))
   (Zae (ps_while PassesOwn.never (Zdx (pv 3) (fun _=>rfl)) (Zae (Zav (i:=4) S.nd rfl (Or.inl rfl) (Zla PySem.F.plainAttrs_list PySem.F.slot_list_pop PySem.F.type_list_pop Zld (pv 3)))
   (Zae (Zav (i:=5) S.nd rfl (Or.inl rfl) (pe_fv (k:=3) hr (pv 1) (Zaa (pv 4) Zac)))
   (Zae (Zbw (Zeg PySem.F.plainAttrs_list PySem.F.slot_list_append PySem.F.type_list_append Za9 (pv 2) (Zaa (pv 5) Zac)))
   (Zah (Zbm (Zau op_in_seq (Zam Zaj (pv 5) Zaf (fun _ _=>rfl)) (Zas (Zaa (Za3 (v:=.str "upright") rfl T.g_UPRIGHT ⟨_,rfl⟩) (Zaa (Za3 (v:=.str "level") rfl T.g_LEVEL ⟨_,rfl⟩) Zac))) rfl) (Zae (Zbw (Zeg PySem.F.plainAttrs_list PySem.F.slot_list_append PySem.F.type_list_append Za9 (pv 3) (Zaa (Za2 D_other_piece hr (Zaa (pv 4) (Zaa (Zam Zaj (pv 5) Zaf (fun _ _=>rfl)) (Zaa (Zam Zaj (pv 5) Zaf (fun _ _=>rfl)) Zac)))) Zac)))
   (Zah (Zbw (Zeg PySem.F.plainAttrs_list PySem.F.slot_list_append PySem.F.type_list_append Za9 (pv 3) (Zaa (Za2 D_first_piece hr (Zaa (pv 4) (Zaa (Zam Zaj (pv 5) Zaf (fun _ _=>rfl)) (Zaa (Zam Zaj (pv 5) Zaf (fun _ _=>rfl)) Zac)))) Zac))))) Zaw))))))
   (Zah (Zat (pv 2)))))),?_⟩
  refine ⟨lenOk 0,fun le hle=>⟨_,rfl,lenOk 1,fun lw hlw=>?_⟩⟩
  have nel:le≠lw:=Zad upd_same hlw
  have s0:Same H (upd (upd H le (.lst [])) lw (.lst [.ref a])):=(Same.new hle).trans (Same.new hlw)
  have hlw0:H lw=none:=none_of (Same.new hle) hlw
  refine ⟨BInv en D H a fv t le lw,
   ⟨_,[],[],[(a,p,t)],none,none,rfl,s0,by rw [Zag nel]; exact upd_same,trivial,upd_same,fun r hr=>?_,fun r hr=>?_,?_,rfl⟩,?_⟩
  ·rw [List.mem_singleton.mp hr]; exact s0 _ _ ha
  ·rw [List.mem_singleton.mp hr]; exact gr
  ·show []++flat [(V.ref a,t)]=ents t
   rw [Zfw]; rfl
  rintro m σ H' ⟨xs,es,ws,x4,x5,rfl,s1,hl,hen,hw,hps,hgr,heq,rfl⟩
  have tot:es.length+cnt (trs ws)=t.nd:=by rw [← Zd4,← heq,List.length_append,Zht]
  rcases Zec ws with rfl | ⟨ws0,r,rfl⟩
  ·refine ⟨_,rfl,_,.inl ⟨_,SqL.of hw,rfl⟩,iteN rfl ⟨_,rfl,q le xs H' s1 hle hl ?_⟩⟩
   rw [← heq]
   show EnsAt H' xs (es++[])
   rw [List.append_nil]; exact hen
  ·refine ⟨_,rfl,_,.inl ⟨_,SqL.of hw,rfl⟩,iteP (by simp) ⟨fun σ' H''=>∃ m',m' < cnt (trs (ws0++[r]))∧BInv en D H a fv t le lw m' σ' H'',fun σ' H'' z=>z,?_⟩⟩
   obtain ⟨pa,pk,pt⟩:=r
   have hp0:=hps (pa,pk,pt) (by simp)
   have hg0:=hgr (pa,pk,pt) (by simp)
   refine ⟨_,rfl,.inl ⟨rfl,_,SqL.of hw⟩,lw,_,_,rfl,rfl,hw,last_pref,?_⟩
   rw [drop_pref]
   have k2:Kp H' (upd H' lw (.lst (prefs ws0))):=Kp.put hw
   have s2:Same H (upd H' lw (.lst (prefs ws0))):=fun b o e=>by rw [Zag (Zad e hlw0)]; exact s1 b o e
   have l2:(upd H' lw (.lst (prefs ws0))) le=some (.lst xs):=by rw [Zag nel]; exact hl
   have w2:(upd H' lw (.lst (prefs ws0))) lw=some (.lst (prefs ws0)):=upd_same
   generalize upd H' lw (.lst (prefs ws0))=H2 at k2 s2 l2 w2 ⊢
   have hp2:=k2 _ _ hp0 (by intro xs z; cases z)
   have ps2:PsAt H2 ws0:=fun r hr=>k2 _ _ (hps r (List.mem_append_left _ hr)) (by intro xs z; cases z)
   have gr2:∀ r∈ws0,Grow en D r.2.2 r.2.1:=fun r hr=>hgr r (List.mem_append_left _ hr)
   have hen2:=hen.kp k2
   rw [Zcx,Zcu] at heq
   rw [Zcx,Zd5] at tot
   have hxl:=hen.len
   have np:=nd_pos pt
   have hDp:D pk:=by cases pt <;> exact hg0.1
   refine ⟨_,rfl,fv,spE en D,rfl,hfv.same s2,_,rfl,Same.refl H2,pa,pk,rfl,hp2,hDp,fun ea H3 s3 e3=>?_⟩
   have l3:=s3 _ _ l2
   refine ⟨_,rfl,.inl ⟨rfl,_,SqL.of l3⟩,_,rfl,le,xs,.ref ea,rfl,rfl,l3,Zaq (by lia),?_⟩
   have k4:Kp H3 (upd H3 le (.lst (xs++[.ref ea]))):=Kp.put l3
   have s4:Same H (upd H3 le (.lst (xs++[.ref ea]))):=fun b o e=>by rw [Zag (Zad e hle)]; exact s3 b o (s2 b o e)
   have l4:(upd H3 le (.lst (xs++[.ref ea]))) le=some (.lst (xs++[.ref ea])):=upd_same
   have w4:(upd H3 le (.lst (xs++[.ref ea]))) lw=some (.lst (prefs ws0)):=by rw [Zag (Ne.symm nel)]; exact s3 _ _ w2
   have en4:EnsAt (upd H3 le (.lst (xs++[.ref ea]))) (xs++[.ref ea]) (es++[en pk]):=((hen2.kp (Zj8 s3)).kp k4).snoc (k4 _ _ e3 (by intro xs z; cases z))
   have kk:=(Zj8 s3).trans k4
   have e4:=k4 _ _ e3 (by intro xs z; cases z)
   generalize upd H3 le (.lst (xs++[.ref ea]))=H4 at k4 s4 l4 w4 en4 kk e4 ⊢
   have hp4:=kk _ _ hp2 (by intro xs z; cases z)
   have ps4:PsAt H4 ws0:=ps2.kp kk
   cases pt with
   | whole m =>
    have een:en pk=.w m:=hg0.2
    rw [een] at e4 en4
    refine ⟨_,rfl,ea,_,_,_,rfl,rfl,SqT.of e4,Zch,lenOk 2,fun tt ntt=>?_⟩
    have s5:Same H4 (upd H4 tt (.tup [.str "upright",.str "level"])):=Same.new ntt
    have e5:(upd H4 tt (.tup [.str "upright",.str "level"])) tt=some (.tup [.str "upright",.str "level"]):=upd_same
    generalize upd H4 tt (.tup [.str "upright",.str "level"])=H5 at s5 e5 ⊢
    refine ⟨tt,_,rfl,.inr (SqT.of e5),rfl,rfl,_,rfl,iteN (by rw [if_neg Bool.false_ne_true]; exact in_words (.w m)) ?_⟩
    refine ⟨cnt (trs ws0),by rw [Zcx,Zd5]; exact Nat.lt_succ_self _,_,_,ws0,_,_,rfl,s4.trans s5,s5 _ _ l4,en4.kp (Zj8 s5),s5 _ _ w4,ps4.kp (Zj8 s5),gr2,?_,rfl⟩
    rw [← heq,List.append_assoc]; rfl
   | cut u k y1 y2 =>
    obtain ⟨_,een,g1,g2⟩:=hg0
    have een:en pk=.c u k:=een
    rw [een] at e4 en4
    refine ⟨_,rfl,ea,_,_,_,rfl,rfl,SqT.of e4,Zch,lenOk 2,fun tt ntt=>?_⟩
    have s5:Same H4 (upd H4 tt (.tup [.str "upright",.str "level"])):=Same.new ntt
    have e5:(upd H4 tt (.tup [.str "upright",.str "level"])) tt=some (.tup [.str "upright",.str "level"]):=upd_same
    generalize upd H4 tt (.tup [.str "upright",.str "level"])=H5 at s5 e5 ⊢
    refine ⟨tt,_,rfl,.inr (SqT.of e5),rfl,rfl,_,rfl,iteP (by rw [if_neg Bool.false_ne_true]; exact in_words (.c u k)) ?_⟩
    have e55:=s5 _ _ e4
    have w5:=s5 _ _ w4
    have hp5:=s5 _ _ hp4
    refine ⟨_,rfl,.inl ⟨rfl,_,SqL.of w5⟩,_,rfl,_,rfl,ea,_,_,_,rfl,rfl,SqT.of e55,Zch,_,rfl,ea,_,_,_,rfl,rfl,SqT.of e55,Zcj,pa,pk,u,k,rfl,hp5,fun t6 n6=>?_⟩
    have s6:Same H5 (upd H5 t6 (.tup (pk.oth u k).vs)):=Same.new n6
    have e6:(upd H5 t6 (.tup (pk.oth u k).vs)) t6=some (.tup (pk.oth u k).vs):=upd_same
    generalize upd H5 t6 (.tup (pk.oth u k).vs)=H6 at s6 e6 ⊢
    have w6:=s6 _ _ w5
    have cl:=Zkh (trs ws0)
    rw [List.length_map] at cl
    have ndp:(Tr.cut u k y1 y2).nd=y1.nd+y2.nd+1:=rfl
    refine ⟨lw,_,_,rfl,rfl,w6,Zaq (by rw [List.length_map]; lia),?_⟩
    have k7:Kp H6 (upd H6 lw (.lst (prefs ws0++[.ref t6]))):=Kp.put w6
    have s7:Same H (upd H6 lw (.lst (prefs ws0++[.ref t6]))):=fun b o e=>by rw [Zag (Zad e hlw0)]; exact s6 _ _ (s5 _ _ (s4 b o e))
    have l7:(upd H6 lw (.lst (prefs ws0++[.ref t6]))) le=some (.lst (xs++[.ref ea])):=by rw [Zag nel]; exact s6 _ _ (s5 _ _ l4)
    have w7:(upd H6 lw (.lst (prefs ws0++[.ref t6]))) lw=some (.lst (prefs ws0++[.ref t6])):=upd_same
    have kk7:=((Zj8 s5).trans (Zj8 s6)).trans k7
    have e7:=k7 _ _ e6 (by intro xs z; cases z)
    generalize upd H6 lw (.lst (prefs ws0++[.ref t6]))=H7 at k7 s7 l7 w7 kk7 e7 ⊢
    have ea7:=kk7 _ _ e4 (by intro xs z; cases z)
    have hp7:=kk7 _ _ hp4 (by intro xs z; cases z)
    refine ⟨_,rfl,.inl ⟨rfl,_,SqL.of w7⟩,_,rfl,_,rfl,ea,_,_,_,rfl,rfl,SqT.of ea7,Zch,_,rfl,ea,_,_,_,rfl,rfl,SqT.of ea7,Zcj,pa,pk,u,k,rfl,hp7,fun t8 n8=>?_⟩
    have s8:Same H7 (upd H7 t8 (.tup (pk.fst u k).vs)):=Same.new n8
    have e8:(upd H7 t8 (.tup (pk.fst u k).vs)) t8=some (.tup (pk.fst u k).vs):=upd_same
    generalize upd H7 t8 (.tup (pk.fst u k).vs)=H8 at s8 e8 ⊢
    have w8:=s8 _ _ w7
    refine ⟨lw,_,_,rfl,rfl,w8,Zaq (by rw [List.length_append,List.length_map,List.length_singleton]; lia),?_⟩
    have k9:Kp H8 (upd H8 lw (.lst (prefs ws0++[.ref t6]++[.ref t8]))):=Kp.put w8
    have kk9:=(Zj8 s8).trans k9
    have kall:=kk7.trans kk9
    refine ⟨cnt (trs (ws0++[(t6,pk.oth u k,y2)]++[(t8,pk.fst u k,y1)])),?_,xs++[.ref ea],es++[.c u k],ws0++[(t6,pk.oth u k,y2)]++[(t8,pk.fst u k,y1)],_,_,rfl,fun b o e=>?_,?_,en4.kp kall,?_,fun r hr=>?_,fun r hr=>?_,?_,rfl⟩
    ·rw [Zcx,Zcx,Zd5,Zd5,Zcx,Zd5]
     show cnt (trs ws0)+y2.nd+y1.nd < cnt (trs ws0)+(y1.nd+y2.nd+1)
     lia
    ·rw [Zag (Zad e hlw0)]; exact s8 b o (s7 b o e)
    ·rw [Zag nel]; exact s8 _ _ l7
    ·rw [upd_same,Zie,Zie]
    ·rcases List.mem_append.mp hr with hr | hr
     ·rcases List.mem_append.mp hr with hr | hr
      ·exact kall _ _ (ps4 r hr) (by intro xs z; cases z)
      ·rw [List.mem_singleton.mp hr]; exact kk9 _ _ e7 (by intro xs z; cases z)
     ·rw [List.mem_singleton.mp hr]; exact k9 _ _ e8 (by intro xs z; cases z)
    ·rcases List.mem_append.mp hr with hr | hr
     ·rcases List.mem_append.mp hr with hr | hr
      ·exact gr2 r hr
      ·rw [List.mem_singleton.mp hr]; exact g2
     ·rw [List.mem_singleton.mp hr]; exact g1
    ·rw [Zcx,Zcx,Zcu,Zcu,← heq]
     show es++[.c u k]++(ents y1++(ents y2++flat (trs ws0)))=es++(.c u k :: (ents y1++ents y2)++flat (trs ws0))
     simp [List.append_assoc]
def lamE2:Expr:=match (Zai Zbd).getD 0 (.Pass ⟨0,0,0,0⟩) with
 | .Return (some (.Call _ [.Call _ [_,k] _ _] _ _)) _=>k
 | _=>.Constant .none 0 ⟨0,0,0,0⟩
def lamP2:Arguments:=match lamE2 with | .Lambda p _ _ _=>p | _=>Zak Zbd
def lamB2:Expr:=match lamE2 with | .Lambda _ b _ _=>b | e=>e
def lamS2:Scope:=match lamE2 with | .Lambda _ _ s _=>s | _=>Zab Zbd
def lamQ2:Pos:=match lamE2 with | .Lambda _ _ _ q=>q | _=>⟨0,0,0,0⟩
def lamN2:Str:="tree_in.<locals>.<lambda>"
theorem S_lam2:LamScope "piece" ["entries"] lamS2:=⟨rfl,rfl,rfl,rfl,by decide +kernel,fun y hy=>(by decide +kernel:∀ p∈lamS2.names,p.2=.free→p.1∈(["entries"]:List Str)) _ (PySem.mem_of_lookup hy) rfl,by decide +kernel⟩
abbrev clos2 (L:Nat):List (Str × Addr):=[("entries",L+1)]
theorem EnsAt.tups {H H':Hp} (s:∀ a xs,H a=some (.tup xs)→H' a=some (.tup xs)):∀ {vs:List V} {es:List En},EnsAt H vs es→EnsAt H' vs es
 | [],[],_=>trivial
 | v :: r,e :: q,h=>⟨let ⟨a,b,c⟩:=h.1; ⟨a,b,s _ _ c⟩,EnsAt.tups s h.2⟩
 | [],_ :: _,h=>h
 | _ :: _,[],h=>h
def Zfa (tb2 cW cU cL:Addr):Sp:=fun vs H Q _=>∃ (d a:Addr) (kvs:List (List Key × V)) (p:Rk) (t:Tr) (en:Rk→En) (D:Rk→Prop),vs=[.ref d,.ref a]∧H d=some (.dT kvs)∧H a=some (.tup p.vs)∧(∀ q,D q→∃ c,valV kvs (rkK q)=some (.ref c)∧H c=some (.tup (enV (en q))))∧Grow en D t p∧t.nd≤400∧TabOk lamQ2 lamN2 tb2 H ∧
 ∀ v H',SameX tb2 H H'→TabOk lamQ2 lamN2 tb2 H'→Obj cW cU cL H' t v→Q v H'
theorem S_tree_in:Zan ["entries","sheet"] ["entries","sheet"] (Zab Zbd):=⟨rfl,rfl,rfl,by decide +kernel,rfl,by decide +kernel,by decide +kernel⟩
theorem ok_tree_in {f:Addr} {fd:FuncData} {c tb2:Addr} (F:FunC K "tree_in" "tree_in" Zbd f fd c) (hC:codeTB K c tb2=true) (hB:BmIn K mg) (D_entries_by:DefOk P w K mg base 4 "entries_by" ["sheet","entry_at"] (sp_by P w K mg base)) (D_tree_from:DefOk P w K mg base 4 "tree_from" ["entries"] (Zjl K cW cU cL)) :
  FnOk P w K mg base CX0 5 f fd ["entries","sheet"] (Zfa tb2 cW cU cL):=by
 have S:=S_tree_in
 refine F.ok S (fun vs H Q E h=>?_) (fun A outer s H vs Q E hr h=>?_)
 ·obtain ⟨d,a,kvs,p,t,en,D,rfl,_⟩:=h; rfl
 ·obtain ⟨d,a,kvs,p,t,en,D,rfl,hd,ha,he,gr,tn,tb,q⟩:=h
  have hlam:=pe_lam (X:=(cxOf CX0 P w K mg base ["entries","sheet"] "tree_in" (Zab Zbd) f (.ref c) A outer s H E).nox) (params:=lamP2) (body:=lamB2) (scope:=lamS2) (pos:=lamQ2) (qual:=lamN2) (clos:=clos2 s.heap.objs.size) rfl (codeTB_of hC) hB rfl rfl rfl
  have hcl:∀ p∈clos2 s.heap.objs.size,(cxOf CX0 P w K mg base ["entries","sheet"] "tree_in" (Zab Zbd) f (.ref c) A outer s H E).nox.env.cells.lookup p.1=some p.2∧(cxOf CX0 P w K mg base ["entries","sheet"] "tree_in" (Zab Zbd) f (.ref c) A outer s H E).nox.env.kindOf p.1=some .cell:=fun p hp=>by
   rw [List.mem_singleton.mp hp]; exact ⟨rfl,rfl⟩
  refine ⟨_,(Zah (Zat (Za2 D_tree_from hr (Zaa (pe_fnC (clos:=clos2 s.heap.objs.size) D_entries_by hr (Zaa (pv 1) (Zaa hlam Zac)) hcl (fun _=>rfl) rfl) Zac)))),?_⟩
  have tbl:=tb.tbl
  refine ⟨_,rfl,TabOk.lamC tb fun c' fl ctv H1 s1 tab1 hf hc hnew=>?_⟩
  have ne1:∀ {x:Addr} {u:HO},H x=some u→(∀ ps,u≠.tbl ps)→x≠tb2:=fun {x u} e n z=>by obtain ⟨ps,e'⟩:=tbl; rw [z,e'] at e; cases e; exact n _ rfl
  intro Lc CA
  have tup1:∀ {x:Addr} {xs:List V},H x=some (.tup xs)→H1 x=some (.tup xs):=fun e=>s1 _ _ (ne1 e (by intro ps z; cases z)) e
  have hd1:H1 d=some (.dT kvs):=s1 _ _ (ne1 hd (by intro ps z; cases z)) hd
  have up:∀ {x:Addr} {u:HO},H1 x=some u→(tkd H1 Lc) x=some u:=fun e=>by rw [Zbb (Zes CA.new e)]; exact e
  have fv:=fv_lam (P:=P) (w:=w) (K:=K) (mg:=mg) (base:=base) (k:=2) (H:=tkd H1 Lc) (f:=fl) (c':=c') (params:=lamP2) (body:=lamB2) (scope:=lamS2) (qual:=lamN2) (pn:="piece") (ctv:=ctv) (fs:=["entries"]) (clos:=clos2 s.heap.objs.size) (cv:=[.ref d]) (L:=Lc)
   (te:=tDGet (tVar 1) (tVar 0))
   (up hf) (up hc) S_lam2 rfl (fun y=>?_) (fun x y cc h1 h2=>?_) (fun a o e=>Zia e) CA.has (fun p hp i v hi hv=>?_) (fun _ _=>.of_eq rfl)
   (fun A' outer' s' H' Hx E' hr'=>pe_dget (hu_of hr') (pv 1) (pv 0) (fun _ _=>rfl))
  ·refine ⟨a,fl,p,t,_,_,rfl,up (tup1 ha),fv.imp fun vs H' Q' E' sm' hsp=>?_,gr,tn,fun l xs H2 s2 nl hl hens=>?_⟩
   ·obtain ⟨a',p',rfl,ha',ins2,q'⟩:=hsp
    have hL':∀ a o,Lc.lookup a=some o→H' a=some (ObjO a o):=fun a o e=>sm' _ _ (Zia e)
    have kp:∀ {x:Addr} {u:HO},H1 x=some u→(∀ o,u≠ObjO x o)→(utk H' Lc) x=some u:=fun e n=>Zkw hL' (sm' _ _ (up e)) n
    obtain ⟨c1,e1,e2⟩:=he p' ins2
    have dg:=DGet.t (k:=rkK p') (kp hd1 (by intro o z; cases z)) (show (utk H' Lc) a'=some (.tup ((rkK p').map kV)) from Zkw hL' ha' (by intro o z; cases z))
    rw [e1] at dg
    refine ⟨_,rfl,_,rfl,_,rfl,d,_,rfl,dg,q' _ _ (fun x o e=>?_) ?_⟩
    ·cases q:Lc.lookup x with
     | some o'=>rw [hL' x o' q] at e; cases e; exact Zia q
     | none=>rw [Zbb q,Zb5 q]; exact e
    ·rw [Zbb (Zes CA.new (tup1 e2))]
     exact kp (tup1 e2) (by intro o z; cases z)
   ·obtain ⟨sU,hk⟩:=same_utk CA.new s2
    refine ⟨hk,l,xs,t,rfl,SqL.of (Zkw hk hl (by intro o z; cases z)),hens.tups (fun a xs e=>Zkw hk e (by intro o z; cases z)),by lia,fun v' H3 s3 ob=>?_⟩
    exact q v' H3 (s1.trans (sU.x.trans s3.x)) ((tab1.same sU).same s3) ob
  ·constructor
   ·rintro ⟨cc,h⟩
    have:=PySem.mem_of_lookup h
    cases List.mem_singleton.mp this; simp
   ·intro hy
    rw [List.mem_singleton.mp hy]; exact ⟨_,rfl⟩
  ·have m1:=List.mem_singleton.mp (PySem.mem_of_lookup h1)
   have m2:=List.mem_singleton.mp (PySem.mem_of_lookup h2)
   exact (congrArg Prod.fst m1).trans (congrArg Prod.fst m2).symm
  ·have hp':=List.mem_singleton.mp hp
   subst hp'
   match i,hi with
   | 0,_ =>
    cases hv
    exact CA.val _ hp 0 _ rfl rfl
theorem TkAt.n {H H':Hp} {t:Tk1} (h:TkAt H t) (s:SameN H H'):TkAt H' t:=⟨s.tup h.1,s _ _ h.2.1 (fun _ z=>nomatch z),h.2.2.tups fun a xs e=>s.tup e⟩
theorem BnAt.n {C a dx ls lt:Addr} {H H':Hp} {ss:List (Addr × Int × Int)} {tn:List Tk1} (h:BnAt C a dx ls lt H ss tn) (s:SameN H H'):BnAt C a dx ls lt H' ss tn :=
 ⟨s _ _ h.ob (fun _ z=>nomatch z),s.lst h.lst,fun t ht=>s.tup (h.stk t ht),s.lst h.tak,fun t ht=>(h.tks t ht).n s,h.dis⟩
def Grown (H:Hp) (ss:List (Addr × Int × Int)) (t:Tk1) (r:Tr):Prop:=0≤t.2.1∧∃ u,ss[t.2.1.toNat]?=some u∧∃ (en:Rk→En) (D:Rk→Prop),(∀ q,D q→∃ c,valV t.2.2.2.1 (rkK q)=some (.ref c)∧H c=some (.tup (enV (en q))))∧Grow en D r (shR u.2)∧r.nd≤400
def Zeb (tb2 C cW cU cL:Addr):Sp:=fun vs H Q _=>∃ (a dx ls lt:Addr) (ss:List (Addr × Int × Int)) (tn:List Tk1) (tr:Nat→Tr),vs=[.ref a]∧BnAt C a dx ls lt H ss tn∧tn.length≤100∧TabOk lamQ2 lamN2 tb2 H∧(∀ i t,tn[i]?=some t→Grown H ss t (tr i)) ∧
 ∀ l (ts:List (Addr × V)) H',SameX tb2 H H'→TabOk lamQ2 lamN2 tb2 H'→H l=none→H' l=some (.lst (refs ts))→ts.length=tn.length→(∀ i x t,ts[i]?=some x→tn[i]?=some t→H' x.1=some (.tup [.int t.2.1,x.2])∧Obj cW cU cL H' (tr i) x.2)→Q (.ref l) H'
theorem Zgh:Zan ["self"] ["self"] (Zab Zbj):=⟨rfl,rfl,rfl,by decide +kernel,rfl,by decide +kernel,by decide +kernel⟩
theorem Zfo {f tb2:Addr} {fd:FuncData} {C:Addr} (F:Fun K "sheets" "Bench.sheets" Zbj f fd) (BC:BCls K C) (D_tree_in:DefOk P w K mg base 5 "tree_in" ["entries","sheet"] (Zfa tb2 cW cU cL)):FnOk P w K mg base CX0 6 f fd ["self"] (Zeb tb2 C cW cU cL):=by
 have S:=Zgh
 refine F.ok S (fun vs H Q E h=>?_) (fun cdv A outer s H vs Q E hr h=>?_)
 ·obtain ⟨a,dx,ls,lt,ss,tn,tr,rfl,_⟩:=h; rfl
 ·obtain ⟨a,dx,ls,lt,ss,tn,tr,rfl,bn,few,tb,each,q⟩:=h
  have tbl:=tb.tbl
  refine ⟨_,(Zah (Zat (Zef rfl (Zda (Zcg (pv 0) rfl)) (fun _ _ _ _ _=>(Zdb (K:=K) (n:=2) rfl (Zar (Zap (i:=0) (show List.Nodup (["number","entries","self"]:List Str) from by decide +kernel) rfl (Or.inl rfl)) (Zar (Zap (i:=1) (show List.Nodup (["number","entries","self"]:List Str) from by decide +kernel) rfl (Or.inl rfl)) Zbx)))) (fun _ _ _ _ _=>(Zas (Zaa (pv 0) (Zaa (Za2 D_tree_in hr (Zaa (pv 1) (Zaa (Zam (ix_listK (K:=K)) (pe_fldK (K:=K) (pv 2) rfl) (pv 0) (fun _ _=>rfl)) Zac))) Zac)))) (N:=["number","entries","self"]) (fr:=[none,none,some 0])))),?_⟩
  have snew:∀ {l:Addr},H l=none→l≠tb2:=fun e z=>by obtain ⟨ps,e'⟩:=tbl; rw [z,e'] at e; cases e
  refine ⟨_,rfl,a,C,dx,_,_,rfl,bn.ob,BC.cl,BC.n_taken,Zkj _ _,lt,rfl,⟨_,SqL.of bn.tak⟩,fun acc hacc=>Zdh (K:=K) (a:=lt) (ys:=refs tn) (fun i zs σ H'=>(∃ x y,σ=[x,y,some (.ref a)])∧SameX tb2 H H'∧TabOk lamQ2 lamN2 tb2 H'∧∃ ts:List (Addr × V),zs=refs ts∧ts.length=i∧∀ j x t,ts[j]?=some x→tn[j]?=some t→H' x.1=some (.tup [.int t.2.1,x.2])∧Obj cW cU cL H' (tr j) x.2)
   ⟨⟨none,none,rfl⟩,(Same.new hacc).x,tb.same (Same.new hacc),[],rfl,rfl,fun j x t e=>by cases e⟩ (fun i zs σ H' _ _ hp=>SqL.of ((hp.2.1.toN tbl).lst bn.tak)) ?_ ?_⟩
  ·rintro i x zs σ H1 hx hi hl' hacc' ⟨⟨x0,y0,rfl⟩,sx,tb1,ts,rfl,lts,hts⟩
   obtain ⟨t,ht,rfl⟩:=Zbt hx
   have sN:=sx.toN tbl
   have bn1:=bn.n sN
   obtain ⟨g1,g2,g3⟩:=bn1.tks t (List.mem_of_getElem? ht)
   obtain ⟨p0,u,hu',en,D,he,gr,nd⟩:=each i t ht
   have um:=List.mem_of_getElem? hu'
   have at1:atI (refs ss) t.2.1=some (.ref u.1):=by
    have:=Zcw (xs:=refs ss) (j:=t.2.1.toNat) (v:=.ref u.1) (by unfold refs; rw [List.getElem?_map,hu']; rfl)
    rwa [Int.toNat_of_nonneg p0] at this
   refine ⟨t.1,_,rfl,SqT.of g1,rfl,_,_,rfl,_,_,rfl,rfl,?_⟩
   refine ⟨_,rfl,_,rfl,_,rfl,a,C,dx,_,_,rfl,bn1.ob,BC.cl,BC.n_stock,bnF_s _ _,_,rfl,ls,_,_,_,rfl,rfl,SqL.of bn1.lst,at1,t.2.2.1,u.1,t.2.2.2.1,shR u.2,tr i,en,D,rfl,g2,bn1.stk u um,(fun q hq=>let ⟨c,e1,e2⟩:=he q hq; ⟨c,e1,sN.tup e2⟩),gr,nd,tb1,fun v H2 s2 tb3 ob=>⟨lenOk 2,fun p np=>?_⟩⟩
   have s3:Same H2 (upd H2 p (.tup [.int t.2.1,v])):=Same.new np
   have e3:(upd H2 p (.tup [.int t.2.1,v])) p=some (.tup [.int t.2.1,v]):=upd_same
   generalize upd H2 p (.tup [.int t.2.1,v])=H3 at s3 e3 ⊢
   have ac3:=s3 _ _ (s2 _ _ (snew hacc) hacc')
   have s13:SameX tb2 H1 H3:=s2.trans s3.x
   have sN3:SameN H1 H3:=s13.toN tb1.tbl
   have kp:Kp H3 (upd H3 acc (.lst (refs ts++[.ref p]))):=Kp.put ac3
   refine cNx.mk (Nat.le_of_lt (Zaq (by rw [Zal]; lia))) hi hl' ac3 ⟨⟨_,_,rfl⟩,fun d o nd e=>by rw [Zag (Zad e hacc)]; exact s13 _ _ nd (sx d o nd e),TabOk.upd (tb3.same s3) ac3,ts++[(p,v)],by unfold refs; rw [List.map_append]; rfl,by rw [List.length_append,List.length_singleton,lts],fun j y t' hj hj'=>?_⟩
   rcases Nat.lt_or_ge j ts.length with jl | jl
   ·rw [List.getElem?_append_left jl] at hj
    obtain ⟨a1,a2⟩:=hts j y t' hj hj'
    exact ⟨Ze9 (sN3.tup a1) ac3,(Obj.n sN3 a2).kp kp⟩
   ·have ej:j=ts.length:=by
     rcases Nat.lt_or_ge ts.length j with h | h
     ·rw [List.getElem?_eq_none (by rw [List.length_append,List.length_singleton]; lia)] at hj; cases hj
     ·lia
    subst ej
    rw [List.getElem?_append_right (Nat.le_refl _),Nat.sub_self] at hj
    cases hj
    rw [lts,ht] at hj'
    cases hj'
    rw [lts]
    exact ⟨Ze9 e3 ac3,(ob.same s3).kp kp⟩
  ·rintro zs σ H1 hl' hacc' ⟨_,sx,tb1,ts,rfl,lts,hts⟩
   rw [Zal] at lts
   exact q acc ts H1 sx tb1 hacc hacc' lts hts
theorem held_1 {t:Want} {W T:Int} (h1:t.1≤W) (h2:t.2.1≤T):∃ r,heldW t W T=(t.1,t.2.1) :: r:=by
 unfold heldW waysOf
 split
 ·rw [List.filter_cons,if_pos (by rw [decide_eq_true h1,decide_eq_true h2]; rfl)]; exact ⟨_,rfl⟩
 ·rw [List.filter_cons,if_pos (by rw [decide_eq_true h1,decide_eq_true h2]; rfl)]; exact ⟨_,rfl⟩
theorem held_2 {t:Want} {W T:Int} (h:¬ (t.1≤W∧t.2.1≤T)) (h0:t.2.2=true) (h1:t.2.1≤W) (h2:t.1≤T):heldW t W T=[(t.2.1,t.1)]:=by
 unfold heldW waysOf
 rw [if_pos h0,List.filter_cons,if_neg (by intro z; rw [Bool.and_eq_true] at z; exact h ⟨of_decide_eq_true z.1,of_decide_eq_true z.2⟩),List.filter_cons,if_pos (by rw [decide_eq_true h1,decide_eq_true h2]; rfl)]; rfl
theorem held_0 {t:Want} {W T:Int} (h:¬ (t.1≤W∧t.2.1≤T)) (h0:¬ (t.2.2=true∧t.2.1≤W∧t.1≤T)):heldW t W T=[]:=by
 have n1:¬ (decide (t.1≤W) && decide (t.2.1≤T))=true:=by intro z; rw [Bool.and_eq_true] at z; exact h ⟨of_decide_eq_true z.1,of_decide_eq_true z.2⟩
 unfold heldW waysOf
 split
 ·rename_i c
  rw [List.filter_cons,if_neg n1,List.filter_cons,if_neg (by intro z; rw [Bool.and_eq_true] at z; exact h0 ⟨c,of_decide_eq_true z.1,of_decide_eq_true z.2⟩)]; rfl
 ·rw [List.filter_cons,if_neg n1]; rfl
def Ze4:Sp:=fun vs H Q _=>∃ (s:Addr) (W T:Int) (t:Want),vs=[.ref s,.int t.1,.int t.2.1,.bl t.2.2]∧H s=some (.tup [.int W,.int T])∧(heldW t W T=[]→Q .non H)∧∀ z r,heldW t W T=z :: r→∀ c,H c=none→Q (.ref c) (upd H c (.tup [.int z.1,.int z.2]))
theorem S_law_held:Zan ["_law_size","_law_width","_law_height","_law_flip"] ["_law_size","_law_width","_law_height","_law_flip"] (Zab Zbl):=⟨rfl,rfl,rfl,by decide +kernel,rfl,by decide +kernel,by decide +kernel⟩
theorem Zjy {f:Addr} {fd:FuncData} (F:Fun K "_law_held" "_law_held" Zbl f fd):FnOk P w K mg base CX0 1 f fd ["_law_size","_law_width","_law_height","_law_flip"] Ze4:=by
 have S:=S_law_held
 refine F.ok S (fun vs H Q E h=>?_) (fun cdv A outer s H vs Q E hr h=>?_)
 ·obtain ⟨s,W,T,t,rfl,_⟩:=h; rfl
 ·obtain ⟨sz,W,T,t,rfl,hs,q0,q1⟩:=h
  obtain ⟨tB,hB,kB⟩:∃ rd,PSs (cxOf CX0 P w K mg base ["_law_size","_law_width","_law_height","_law_flip"] "_law_held" (Zab Zbl) f cdv A outer s H E).nox ((Zai Zbl).drop 1) rd∧(¬ (t.1≤W∧t.2.1≤T)→rd { nx:=fun _ H'=>Q .non H',rt:=Q } [some (.ref sz),some (.int t.1),some (.int t.2.1),some (.bl t.2.2)] H):=by
   refine ⟨_,(Zae (Zbm (PW.pt (Zfd (Zdx (pv 3) (fun _=>rfl)) (Zfd (Zau op_ge (Zam Zaj (pv 0) Zaf (fun _ _=>rfl)) (pv 2) (nomark _)) (Zee (Zau op_ge (Zam Zaj (pv 0) Zaf (fun _ _=>rfl)) (pv 1) (nomark _)))))) (Zah (Zat (Zas (Zaa (pv 2) (Zaa (pv 1) Zac))))) Zaw)
   (Zah (Zat Zb8))),fun no=>?_⟩
   refine ⟨_,rfl,_,rfl,?_⟩
   cases ht:t.2.2 with
   | false=>exact iteN rfl (q0 (held_0 no (fun z=>by rw [ht] at z; cases z.1)))
   | true =>
    refine iteP rfl ?_
    refine ⟨_,rfl,sz,_,_,_,rfl,rfl,SqT.of hs,Zch,_,rfl,_,_,rfl,rfl,_,rfl,ite3 (fun c1=>?_) (fun c1=>q0 (held_0 no (fun z=>of_decide_eq_false c1 z.2.1)))⟩
    refine ⟨_,rfl,sz,_,_,_,rfl,rfl,SqT.of hs,Zcj,_,rfl,_,_,rfl,rfl,_,rfl,ite3 (fun c2=>?_) (fun c2=>q0 (held_0 no (fun z=>of_decide_eq_false c2 z.2.2)))⟩
    exact ⟨_,rfl,_,rfl,lenOk 2,fun c hc=>q1 _ _ (held_2 no ht (of_decide_eq_true c1) (of_decide_eq_true c2)) c hc⟩
  refine ⟨_,(Zae (Zbm (PW.pt (Zfd (Zau op_ge (Zam Zaj (pv 0) Zaf (fun _ _=>rfl)) (pv 1) (nomark _)) (Zee (Zau op_ge (Zam Zaj (pv 0) Zaf (fun _ _=>rfl)) (pv 2) (nomark _))))) (Zah (Zat (Zas (Zaa (pv 1) (Zaa (pv 2) Zac))))) Zaw)
   hB),?_⟩
  refine ⟨_,rfl,sz,_,_,_,rfl,rfl,SqT.of hs,Zch,_,rfl,_,_,rfl,rfl,_,rfl,ite3 (fun c1=>?_) (fun c1=>kB (fun z=>of_decide_eq_false c1 z.1))⟩
  refine ⟨_,rfl,sz,_,_,_,rfl,rfl,SqT.of hs,Zcj,_,rfl,_,_,rfl,rfl,_,rfl,ite3 (fun c2=>?_) (fun c2=>kB (fun z=>of_decide_eq_false c2 z.2))⟩
  obtain ⟨r,e⟩:=held_1 (of_decide_eq_true c1) (of_decide_eq_true c2)
  exact ⟨_,rfl,_,rfl,lenOk 2,fun c hc=>q1 _ _ e c hc⟩
def optV:Option Nat→V
 | none=>.non
 | some k=>.int k
def Lst (t:Want) (zs:List (Int × Int)) (i:Nat):Option Nat→Prop
 | none=>∀ j z,j < i→zs[j]?=some z→heldW t z.1 z.2=[]
 | some k=>k < i∧∃ z,zs[k]?=some z∧heldW t z.1 z.2≠[]∧∀ j y,j < i→zs[j]?=some y→heldW t y.1 y.2≠[]→z.1 * z.2≤y.1 * y.2∧(j < k→z.1 * z.2 < y.1 * y.2)
theorem Lst.skip {t:Want} {zs:List (Int × Int)} {i:Nat} {u:Int × Int}:∀ {o:Option Nat},Lst t zs i o→zs[i]?=some u→heldW t u.1 u.2=[]→Lst t zs (i+1) o
 | none,h,hu,e=>fun j z hj hz=>by
  rcases Nat.lt_or_ge j i with ji | ji
  ·exact h j z ji hz
  ·have:j=i:=by lia
   subst this
   rw [hu] at hz; cases hz; exact e
 | some k,⟨ki,z,hz,ne,mn⟩,hu,e=>⟨by lia,z,hz,ne,fun j y hj hy ny=>by
  rcases Nat.lt_or_ge j i with ji | ji
  ·exact mn j y ji hy ny
  ·have:j=i:=by lia
   subst this
   rw [hu] at hy; cases hy; exact absurd e ny⟩
theorem Lst.first {t:Want} {zs:List (Int × Int)} {i:Nat} {u:Int × Int} (h:Lst t zs i none) (hu:zs[i]?=some u) (e:heldW t u.1 u.2≠[]):Lst t zs (i+1) (some i):=⟨Nat.lt_succ_self _,u,hu,e,fun j y hj hy ny=>by
 rcases Nat.lt_or_ge j i with ji | ji
 ·exact absurd (h j y ji hy) ny
 ·have:j=i:=by lia
  subst this
  rw [hu] at hy; cases hy; exact ⟨Int.le_refl _,fun z=>absurd z (Nat.lt_irrefl _)⟩⟩
theorem Lst.less {t:Want} {zs:List (Int × Int)} {i k:Nat} {u z:Int × Int} (h:Lst t zs i (some k)) (hz:zs[k]?=some z) (hu:zs[i]?=some u) (e:heldW t u.1 u.2≠[]) (lt:u.1 * u.2 < z.1 * z.2):Lst t zs (i+1) (some i):=by
 obtain ⟨ki,z',hz',ne,mn⟩:=h
 rw [hz] at hz'; cases hz'
 refine ⟨Nat.lt_succ_self _,u,hu,e,fun j y hj hy ny=>?_⟩
 rcases Nat.lt_or_ge j i with ji | ji
 ·have:=(mn j y ji hy ny).1
  exact ⟨by lia,fun _=>by lia⟩
 ·have:j=i:=by lia
  subst this
  rw [hu] at hy; cases hy; exact ⟨Int.le_refl _,fun z=>absurd z (Nat.lt_irrefl _)⟩
theorem Lst.more {t:Want} {zs:List (Int × Int)} {i k:Nat} {u z:Int × Int} (h:Lst t zs i (some k)) (hz:zs[k]?=some z) (hu:zs[i]?=some u) (le:¬ u.1 * u.2 < z.1 * z.2):Lst t zs (i+1) (some k):=by
 obtain ⟨ki,z',hz',ne,mn⟩:=h
 rw [hz] at hz'; cases hz'
 refine ⟨by lia,z,hz,ne,fun j y hj hy ny=>?_⟩
 rcases Nat.lt_or_ge j i with ji | ji
 ·exact mn j y ji hy ny
 ·have:j=i:=by lia
  subst this
  rw [hu] at hy; cases hy; exact ⟨by lia,fun w=>by lia⟩
def Zfb:Sp:=fun vs H Q _=>∃ (l:Addr) (ss:List (Addr × Int × Int)) (t:Want),vs=[.ref l,.int t.1,.int t.2.1,.bl t.2.2]∧H l=some (.lst (refs ss))∧(∀ u∈ss,H u.1=some (.tup [.int u.2.1,.int u.2.2]))∧ss.length≤4∧(∀ u∈ss,SOk u.2) ∧
 ∀ o H',Same H H'→Lst t (ss.map (·.2)) ss.length o→Q (optV o) H'
abbrev N_lsh:List Str:=["_law_sheets","_law_width","_law_height","_law_flip","_law_found","_law_k","_law_squares"]
theorem Zko:Zan N_lsh ["_law_sheets","_law_width","_law_height","_law_flip"] (Zab Zb0):=⟨rfl,rfl,rfl,by decide +kernel,rfl,by decide +kernel,by decide +kernel⟩
theorem Zil {f:Addr} {fd:FuncData} (F:Fun K "_law_sheet" "_law_sheet" Zb0 f fd) (T:Txt mg tk) (D__law_held:DefOk P w K mg base 1 "_law_held" ["_law_size","_law_width","_law_height","_law_flip"] Ze4):FnOk P w K mg base CX0 2 f fd ["_law_sheets","_law_width","_law_height","_law_flip"] Zfb:=by
 have S:=Zko
 refine F.ok S (fun vs H Q E h=>?_) (fun cdv A outer s H vs Q E hr h=>?_)
 ·obtain ⟨l,ss,t,rfl,_⟩:=h; rfl
 ·obtain ⟨l,ss,t,rfl,el,hss,few,so,q⟩:=h
  refine ⟨_,(Zae (Zav (i:=4) S.nd rfl (Or.inl rfl) Zb8)
   (Zae (Zdy PassesOwn.never rfl (Zd0 rfl T.z_range (Zaa (Zao Za1 rfl T.z_len rfl (Zaa (pv 0) Zac)) Zac)) (Zap (i:=5) S.nd rfl (Or.inl rfl)) (Zah (Zbm (Zau Zjw (Za2 D__law_held hr (Zaa (Zam Za8 (pv 0) (pv 5) (fun _ _=>rfl)) (Zaa (pv 1) (Zaa (pv 2) (Zaa (pv 3) Zac))))) Zb8 (nomark _)) (Zae (Zav (i:=6) S.nd rfl (Or.inl rfl) (Za7 Zc2 (Zam Zaj (Zam Za8 (pv 0) (pv 5) (fun _ _=>rfl)) Zaf (fun _ _=>rfl)) (Zam Zaj (Zam Za8 (pv 0) (pv 5) (fun _ _=>rfl)) Zaf (fun _ _=>rfl))))
   (Zah (Zbm (PW.pt (Zfc (Zau Zih (pv 4) Zb8 (nomark _)) (Zer (Zau op_lt (pv 6) (Za7 Zc2 (Zam Zaj (Zam Za8 (pv 0) (pv 4) (fun _ _=>rfl)) Zaf (fun _ _=>rfl)) (Zam Zaj (Zam Za8 (pv 0) (pv 4) (fun _ _=>rfl)) Zaf (fun _ _=>rfl))) (nomark _))))) (Zah (Zav (i:=4) S.nd rfl (Or.inl rfl) (pv 5))) Zaw))) Zaw)))
   (Zah (Zat (pv 4))))),?_⟩
  have at_:∀ {i:Nat} {u:Addr × Int × Int},ss[i]?=some u→atI (refs ss) (i:Int)=some (.ref u.1):=fun {i u} h=>Zcw (by unfold refs; rw [List.getElem?_map,h]; rfl)
  have sq:∀ u∈ss,IntMulOk u.2.1 u.2.2:=fun u hu=>by
   obtain ⟨w1,w2,h1,h2⟩:=so u hu
   exact mul64 (by lia) (by lia) (by lia) (by lia)
  refine ⟨_,rfl,l,_,rfl,.inl (SqL.of el),_,rfl,by rw [Zal]; lia,by rw [Zal]; lia,Zd3 (lo:=0) (n:=((refs ss).length:Int).toNat) (fun i σ H'=>∃ (o:Option Nat) (x5 x6:Option V),σ=[some (.ref l),some (.int t.1),some (.int t.2.1),some (.bl t.2.2),some (optV o),x5,x6]∧Same H H'∧Lst t (ss.map (·.2)) i o) ⟨none,none,none,rfl,Same.refl H,fun j z hj=>absurd hj (Nat.not_lt_zero _)⟩ ?_ ?_⟩
  ·rintro i σ H1 hi ⟨o,x5,x6,rfl,s1,ls⟩
   rw [Int.toNat_natCast,Zal] at hi
   obtain ⟨u,hu⟩:∃ u,ss[i]?=some u:=⟨_,List.getElem?_eq_getElem hi⟩
   have um:=List.mem_of_getElem? hu
   have hz:(ss.map (·.2))[i]?=some u.2:=by rw [List.getElem?_map,hu]; rfl
   have oi:optV (some i)=V.int (0+(i:Int)):=by rw [Int.zero_add]; rfl
   have ai:atI (refs ss) (0+(i:Int))=some (.ref u.1):=by rw [Int.zero_add]; exact at_ hu
   refine ⟨_,rfl,_,rfl,l,_,_,_,rfl,rfl,SqL.of (s1 _ _ el),ai,_,rfl,_,rfl,_,rfl,u.1,u.2.1,u.2.2,t,rfl,s1 _ _ (hss u um),fun e0=>?_,fun z r ez c nc=>?_⟩
   ·exact ⟨rfl,_,rfl,iteN (by rw [decide_eq_true rfl]; rfl) ⟨o,_,_,rfl,s1,ls.skip hz e0⟩⟩
   ·have s2:Same H1 (upd H1 c (.tup [.int z.1,.int z.2])):=Same.new nc
    generalize upd H1 c (.tup [.int z.1,.int z.2])=H2 at s2 ⊢
    have s02:=s1.trans s2
    have el2:=s02 _ _ el
    have hu2:=s02 _ _ (hss u um)
    have ne:heldW t u.2.1 u.2.2≠[]:=fun z=>by rw [z] at ez; cases ez
    refine ⟨rfl,_,rfl,iteP (by rw [decide_eq_false (fun z=>by cases z)]; rfl) ?_⟩
    refine ⟨_,rfl,_,rfl,l,_,_,_,rfl,rfl,SqL.of el2,ai,u.1,_,_,_,rfl,rfl,SqT.of hu2,Zch,_,rfl,_,rfl,l,_,_,_,rfl,rfl,SqL.of el2,ai,u.1,_,_,_,rfl,rfl,SqT.of hu2,Zcj,_,_,rfl,rfl,sq u um,?_⟩
    cases o with
    | none=>
     exact ⟨_,rfl,rfl,_,rfl,iteP (decide_eq_true rfl) ⟨_,rfl,some i,some (.int (0+(i:Int))),some (.int (u.2.1 * u.2.2)),by rw [oi]; rfl,s02,ls.first hz ne⟩⟩
    | some k =>
     obtain ⟨ki,z',hz',_⟩:=id ls
     rw [List.getElem?_map] at hz'
     obtain ⟨v,hv,ev⟩:=Option.map_eq_some_iff.mp hz'
     have vm:=List.mem_of_getElem? hv
     have hv2:=s02 _ _ (hss v vm)
     have hzk:(ss.map (·.2))[k]?=some v.2:=by rw [List.getElem?_map,hv]; rfl
     refine ⟨_,rfl,rfl,_,rfl,iteN (decide_eq_false (fun z=>by cases z)) ?_⟩
     refine ⟨_,rfl,_,rfl,_,rfl,l,_,_,_,rfl,rfl,SqL.of el2,at_ hv,v.1,_,_,_,rfl,rfl,SqT.of hv2,Zch,_,rfl,_,rfl,l,_,_,_,rfl,rfl,SqL.of el2,at_ hv,v.1,_,_,_,rfl,rfl,SqT.of hv2,Zcj,_,_,rfl,rfl,sq v vm,_,_,rfl,rfl,_,rfl,ite3 (fun c=>?_) (fun c=>?_)⟩
     ·exact ⟨_,rfl,some i,some (.int (0+(i:Int))),some (.int (u.2.1 * u.2.2)),by rw [oi]; rfl,s02,ls.less hzk hz ne (of_decide_eq_true c)⟩
     ·exact ⟨some k,_,_,rfl,s02,ls.more hzk hz (of_decide_eq_false c)⟩
  ·rintro σ H1 ⟨o,x5,x6,rfl,s1,ls⟩
   rw [Int.toNat_natCast,Zal] at ls
   exact ⟨_,rfl,q o H1 s1 ls⟩
def dueT1 (T:Int) (z:Int × Int):Tr:=if z.2 < T then .cut false z.2 (.whole (some 0)) (.whole none) else .whole (some 0)
def dueT (W T:Int) (z:Int × Int):Tr:=if z.1 < W then .cut true z.1 (dueT1 T z) (.whole none) else dueT1 T z
def dueO1 (T:Int) (z:Int × Int):List (Int × Rk):=if z.2 < T then [(0,⟨z.2,0,T,z.1⟩)] else []
def dueO (W T:Int) (z:Int × Int):List (Int × Rk):=dueO1 T z++if z.1 < W then [(0,⟨0,z.1,T,W⟩)] else []
def Zjj:Sp:=fun vs H Q _=>∃ (s:Addr) (W T:Int) (z:Int × Int),vs=[.ref s,.int z.1,.int z.2]∧H s=some (.tup [.int W,.int T])∧1≤z.1∧z.1≤W∧W≤12∧1≤z.2∧z.2≤T∧T≤12 ∧
 ∀ c v l (ts:List Of1) H',Same H H'→H' c=some (.tup [v,.ref l])→Told H' (dueT W T z) v→H' l=some (.lst (refs ts))→(∀ t∈ts,OfAt H' t)→(ts.map fun t:Of1=>t.2.2).Perm (dueO W T z)→(ts.map fun t:Of1=>keyO t.2.2).Pairwise (·≤·)→Q (.ref c) H'
abbrev N_ldue:List Str:=["_law_size","_law_wide","_law_high","_law_tree","_law_offcuts"]
theorem S_law_due:Zan N_ldue ["_law_size","_law_wide","_law_high"] (Zab Zbf):=⟨rfl,rfl,rfl,by decide +kernel,rfl,by decide +kernel,by decide +kernel⟩
theorem ok_law_due {f:Addr} {fd:FuncData} (F:Fun K "_law_due" "_law_due" Zbf f fd) (T:Txt mg tk):FnOk P w K mg base CX0 1 f fd ["_law_size","_law_wide","_law_high"] Zjj:=by
 have S:=S_law_due
 refine F.ok S (fun vs H Q E h=>?_) (fun cdv A outer s H vs Q E hr h=>?_)
 ·obtain ⟨s,W,T,z,rfl,_⟩:=h; rfl
 ·obtain ⟨sz,W,T',z,rfl,hs,z1,zW,W12,z2,zT,T12,q⟩:=h
  obtain ⟨t4,h4,k4⟩:∃ rd,PSs (cxOf CX0 P w K mg base N_ldue "_law_due" (Zab Zbf) f cdv A outer s H E).nox ((Zai Zbf).drop 4) rd∧∀ (v:V) (l:Addr) (us:List Of1) (H1:Hp),Same H H1→Told H1 (dueT W T' z) v→H1 l=some (.lst (refs us))→(∀ t∈us,OfAt H1 t)→us.map (fun t:Of1=>t.2.2)=dueO W T' z →
    rd { nx:=fun _ H'=>Q .non H',rt:=Q } [some (.ref sz),some (.int z.1),some (.int z.2),some v,some (.ref l)] H1:=by
   refine ⟨_,(Zah (Zat (Zas (Zaa (pv 3) (Zaa (Zao (Zd6 hr) rfl T.z_sorted rfl (Zaa (pv 4) Zac)) Zac))))),?_⟩
   intro v l us H1 s1 told el wu eu
   have pk:∀ u∈us,PcOk u.2.2.2:=fun u hu=>by
    have hm:u.2.2∈dueO W T' z:=by rw [← eu]; exact List.mem_map.mpr ⟨u,hu,rfl⟩
    unfold dueO dueO1 at hm
    rcases List.mem_append.mp hm with hm | hm
    ·split at hm
     ·rw [List.mem_singleton.mp hm]; exact ⟨by show 0≤z.2; lia,by show z.2 < T'; lia,T12,by show (0:Int)≤0; lia,by show 0 < z.1; lia,by show z.1≤12; lia⟩
     ·cases hm
    ·split at hm
     ·rw [List.mem_singleton.mp hm]; exact ⟨by show (0:Int)≤0; lia,by show 0 < T'; lia,T12,by show 0≤z.1; lia,by show z.1 < W; lia,W12⟩
     ·cases hm
   have few:us.length≤2:=by
    have h1:=congrArg List.length eu
    rw [List.length_map] at h1
    have:(dueO W T' z).length≤2:=by
     unfold dueO dueO1
     rw [List.length_append]
     split <;> split <;> simp
    lia
   have rr:refs us=(us.map toR).map fun t=>V.ref t.1:=by rw [List.map_map]; rfl
   refine ⟨_,rfl,_,rfl,l,us.map toR,0,3,key5,rfl,by rw [← rr]; exact SqL.of el,(by rw [List.length_map]; lia),fun t ht=>?_,fun t ht u hu=>?_,fun l2 ts2 nl2 pm2 srt=>?_⟩
   ·obtain ⟨x,hx,rfl⟩:=List.mem_map.mp ht
    exact ⟨(wu x hx).1,(wu x hx).2,rfl,rfl⟩
   ·obtain ⟨x,hx,rfl⟩:=List.mem_map.mp ht
    obtain ⟨y,hy,rfl⟩:=List.mem_map.mp hu
    exact lex5 (Zig (pk x hx)) (Zig (pk y hy))
   ·obtain ⟨us2,pu,rfl⟩:=Zhf (f:=toR) (l:=ts2) (m:=us.map toR) pm2 us rfl
    have r2:((us2.map toR).map fun t=>V.ref t.1)=refs us2:=by rw [List.map_map]; rfl
    rw [r2]
    have s5:Same H1 (upd H1 l2 (.lst (refs us2))):=Same.new nl2
    have e5:(upd H1 l2 (.lst (refs us2))) l2=some (.lst (refs us2)):=upd_same
    generalize upd H1 l2 (.lst (refs us2))=H2 at s5 e5 ⊢
    refine ⟨lenOk 2,fun c nc=>?_⟩
    have s6:Same H2 (upd H2 c (.tup [v,.ref l2])):=Same.new nc
    have s56:=s5.trans s6
    refine q c v l2 us2 _ (s1.trans s56) upd_same (told.same s56) (s6 _ _ e5) (fun t ht=>(wu t (pu.mem_iff.mp ht)).tups fun x xs e=>s56 _ _ e) (by rw [← eu]; exact pu.map _) ?_
    rw [List.map_map] at srt
    exact srt
  obtain ⟨t3,h3,k3⟩:∃ rd,PSs (cxOf CX0 P w K mg base N_ldue "_law_due" (Zab Zbf) f cdv A outer s H E).nox ((Zai Zbf).drop 3) rd∧∀ (v:V) (l:Addr) (us:List Of1) (H1:Hp),Same H H1→H l=none→Told H1 (dueT1 T' z) v→H1 l=some (.lst (refs us))→(∀ t∈us,OfAt H1 t)→us.map (fun t:Of1=>t.2.2)=dueO1 T' z →
    rd { nx:=fun _ H'=>Q .non H',rt:=Q } [some (.ref sz),some (.int z.1),some (.int z.2),some v,some (.ref l)] H1:=by
   refine ⟨_,(Zae (Zbm (Zau op_gt (Zam Zaj (pv 0) Zaf (fun _ _=>rfl)) (pv 1) (nomark _)) (Zae (Zav (i:=3) S.nd rfl (Or.inl rfl) (Zas (Zaa Zdo (Zaa (pv 1) (Zaa (pv 3) (Zaa (Zas (Zaa Zdo (Zaa Zb8 Zac))) Zac))))))
   (Zah (Zbw (Zeg PySem.F.plainAttrs_list PySem.F.slot_list_append PySem.F.type_list_append Za9 (pv 4) (Zaa (Zas (Zaa Zaf (Zaa (Zas (Zaa Zaf (Zaa (pv 1) (Zaa (Zam Zaj (pv 0) Zaf (fun _ _=>rfl)) (Zaa (Zam Zaj (pv 0) Zaf (fun _ _=>rfl)) Zac))))) Zac))) Zac))))) Zaw)
   h4),?_⟩
   intro v l us H1 s1 nl told el wu eu
   have hs1:=s1 _ _ hs
   refine ⟨_,rfl,sz,_,_,_,rfl,rfl,SqT.of hs1,Zch,_,rfl,_,_,rfl,rfl,_,rfl,ite3 (fun c=>?_) (fun c=>?_)⟩
   ·have lt:z.1 < W:=of_decide_eq_true c
    refine ⟨_,rfl,_,rfl,lenOk 2,fun w1 n1=>⟨lenOk 4,fun p2 n2=>?_⟩⟩
    have y1:Same H1 (upd H1 w1 (.tup [.str "whole",.non])):=Same.new n1
    have e1:(upd H1 w1 (.tup [.str "whole",.non])) w1=some (.tup [.str "whole",.non]):=upd_same
    generalize upd H1 w1 (.tup [.str "whole",.non])=H2 at y1 e1 n2 ⊢
    have y2:Same H2 (upd H2 p2 (.tup [.str "upright",.int z.1,v,.ref w1])):=Same.new n2
    have e2:(upd H2 p2 (.tup [.str "upright",.int z.1,v,.ref w1])) p2=some (.tup [.str "upright",.int z.1,v,.ref w1]):=upd_same
    generalize upd H2 p2 (.tup [.str "upright",.int z.1,v,.ref w1])=H3 at y2 e2 ⊢
    have s13:=y1.trans y2
    have told3:Told H3 (dueT W T' z) (.ref p2):=by
     unfold dueT
     rw [if_pos lt,Told]
     exact ⟨p2,v,.ref w1,rfl,e2,told.same s13,by rw [Told]; exact ⟨w1,rfl,y2 _ _ e1⟩⟩
    have el3:=s13 _ _ el
    have hs3:=s13 _ _ hs1
    refine ⟨_,rfl,.inl ⟨rfl,_,SqL.of el3⟩,_,rfl,_,rfl,sz,_,_,_,rfl,rfl,SqT.of hs3,Zcj,_,rfl,sz,_,_,_,rfl,rfl,SqT.of hs3,Zch,lenOk 4,fun r1 m1=>⟨lenOk 2,fun r2 m2=>?_⟩⟩
    have y4:Same H3 (upd H3 r1 (.tup [.int 0,.int z.1,.int T',.int W])):=Same.new m1
    have e4:(upd H3 r1 (.tup [.int 0,.int z.1,.int T',.int W])) r1=some (.tup [.int 0,.int z.1,.int T',.int W]):=upd_same
    generalize upd H3 r1 (.tup [.int 0,.int z.1,.int T',.int W])=H4 at y4 e4 m2 ⊢
    have y5:Same H4 (upd H4 r2 (.tup [.int 0,.ref r1])):=Same.new m2
    have e5:(upd H4 r2 (.tup [.int 0,.ref r1])) r2=some (.tup [.int 0,.ref r1]):=upd_same
    generalize upd H4 r2 (.tup [.int 0,.ref r1])=H5 at y5 e5 ⊢
    have s35:=y4.trans y5
    have el5:=s35 _ _ el3
    have l1:us.length≤1:=by
     have h1:=congrArg List.length eu
     rw [List.length_map] at h1
     rw [h1]; unfold dueO1; split <;> simp
    refine ⟨l,_,_,rfl,rfl,el5,Zaq (by rw [Zal]; lia),?_⟩
    have s15:=s13.trans s35
    have kp:∀ x xs,H5 x=some (.tup xs)→(upd H5 l (.lst (refs us++[.ref r2]))) x=some (.tup xs):=fun x xs e=>Ze9 e el5
    refine k4 _ l (us++[(r2,r1,0,⟨0,z.1,T',W⟩)]) _ (fun x o e=>by rw [Zag (Zad e nl)]; exact s15 _ _ (s1 x o e)) ?_ (by rw [upd_same]; simp [refs]) (fun t ht=>?_) ?_
    ·exact Told.samex (fun x o nx e=>by rw [Zag nx]; exact e) el5 (told3.same s35)
    ·rcases List.mem_append.mp ht with ht | ht
     ·exact ((wu t ht).tups fun x xs e=>s15 _ _ e).tups kp
     ·rw [List.mem_singleton.mp ht]; exact ⟨kp _ _ e5,kp _ _ (y5 _ _ e4)⟩
    ·rw [List.map_append,eu]; unfold dueO; rw [if_pos lt]; rfl
   ·have nlt:¬ z.1 < W:=of_decide_eq_false c
    exact k4 v l us H1 s1 (by unfold dueT; rw [if_neg nlt]; exact told) el wu (by unfold dueO; rw [if_neg nlt,List.append_nil]; exact eu)
  refine ⟨_,(Zae (Zav (i:=3) S.nd rfl (Or.inl rfl) (Zas (Zaa Zdo (Zaa Zaf Zac))))
   (Zae (Zav (i:=4) S.nd rfl (Or.inl rfl) (Zcy Zac))
   (Zae (Zbm (Zau op_gt (Zam Zaj (pv 0) Zaf (fun _ _=>rfl)) (pv 2) (nomark _)) (Zae (Zav (i:=3) S.nd rfl (Or.inl rfl) (Zas (Zaa Zdo (Zaa (pv 2) (Zaa (pv 3) (Zaa (Zas (Zaa Zdo (Zaa Zb8 Zac))) Zac))))))
   (Zah (Zbw (Zeg PySem.F.plainAttrs_list PySem.F.slot_list_append PySem.F.type_list_append Za9 (pv 4) (Zaa (Zas (Zaa Zaf (Zaa (Zas (Zaa (pv 2) (Zaa Zaf (Zaa (Zam Zaj (pv 0) Zaf (fun _ _=>rfl)) (Zaa (pv 1) Zac))))) Zac))) Zac))))) Zaw)
   h3))),?_⟩
  refine ⟨lenOk 2,fun w0 n0=>⟨lenOk 0,fun l nl=>?_⟩⟩
  have y1:Same H (upd H w0 (.tup [.str "whole",.int 0])):=Same.new n0
  have e1:(upd H w0 (.tup [.str "whole",.int 0])) w0=some (.tup [.str "whole",.int 0]):=upd_same
  generalize upd H w0 (.tup [.str "whole",.int 0])=H1 at y1 e1 nl ⊢
  have nl0:H l=none:=Zc0 y1 nl
  have y2:Same H1 (upd H1 l (.lst [])):=Same.new nl
  have e2:(upd H1 l (.lst [])) l=some (.lst []):=upd_same
  generalize upd H1 l (.lst [])=H2 at y2 e2 ⊢
  have s02:=y1.trans y2
  have hs2:=s02 _ _ hs
  have told2:Told H2 (.whole (some 0)) (.ref w0):=by rw [Told]; exact ⟨w0,rfl,y2 _ _ e1⟩
  refine ⟨_,rfl,sz,_,_,_,rfl,rfl,SqT.of hs2,Zcj,_,rfl,_,_,rfl,rfl,_,rfl,ite3 (fun c=>?_) (fun c=>?_)⟩
  ·have lt:z.2 < T':=of_decide_eq_true c
   refine ⟨_,rfl,_,rfl,lenOk 2,fun w1 n1=>⟨lenOk 4,fun p2 n2=>?_⟩⟩
   have x1:Same H2 (upd H2 w1 (.tup [.str "whole",.non])):=Same.new n1
   have f1:(upd H2 w1 (.tup [.str "whole",.non])) w1=some (.tup [.str "whole",.non]):=upd_same
   generalize upd H2 w1 (.tup [.str "whole",.non])=H3 at x1 f1 n2 ⊢
   have x2:Same H3 (upd H3 p2 (.tup [.str "level",.int z.2,.ref w0,.ref w1])):=Same.new n2
   have f2:(upd H3 p2 (.tup [.str "level",.int z.2,.ref w0,.ref w1])) p2=some (.tup [.str "level",.int z.2,.ref w0,.ref w1]):=upd_same
   generalize upd H3 p2 (.tup [.str "level",.int z.2,.ref w0,.ref w1])=H4 at x2 f2 ⊢
   have s24:=x1.trans x2
   have told4:Told H4 (dueT1 T' z) (.ref p2):=by
    unfold dueT1
    rw [if_pos lt,Told]
    exact ⟨p2,.ref w0,.ref w1,rfl,f2,told2.same s24,by rw [Told]; exact ⟨w1,rfl,x2 _ _ f1⟩⟩
   have el4:=s24 _ _ e2
   have hs4:=s24 _ _ hs2
   refine ⟨_,rfl,.inl ⟨rfl,_,SqL.of el4⟩,_,rfl,_,rfl,sz,_,_,_,rfl,rfl,SqT.of hs4,Zcj,_,rfl,lenOk 4,fun r1 m1=>⟨lenOk 2,fun r2 m2=>?_⟩⟩
   have y4:Same H4 (upd H4 r1 (.tup [.int z.2,.int 0,.int T',.int z.1])):=Same.new m1
   have e4:(upd H4 r1 (.tup [.int z.2,.int 0,.int T',.int z.1])) r1=some (.tup [.int z.2,.int 0,.int T',.int z.1]):=upd_same
   generalize upd H4 r1 (.tup [.int z.2,.int 0,.int T',.int z.1])=H5 at y4 e4 m2 ⊢
   have y5:Same H5 (upd H5 r2 (.tup [.int 0,.ref r1])):=Same.new m2
   have e5:(upd H5 r2 (.tup [.int 0,.ref r1])) r2=some (.tup [.int 0,.ref r1]):=upd_same
   generalize upd H5 r2 (.tup [.int 0,.ref r1])=H6 at y5 e5 ⊢
   have s46:=y4.trans y5
   have el6:=s46 _ _ el4
   refine ⟨l,_,_,rfl,rfl,el6,Zaq (show 0≤1000 by decide),?_⟩
   have s06:=s02.trans (s24.trans s46)
   refine k3 _ l [(r2,r1,0,⟨z.2,0,T',z.1⟩)] _ (fun x o e=>by rw [Zag (Zad e nl0)]; exact s06 x o e) nl0 ?_ upd_same (fun t ht=>?_) ?_
   ·exact Told.samex (fun x o nx e=>by rw [Zag nx]; exact e) el6 (told4.same s46)
   ·rw [List.mem_singleton.mp ht]; exact ⟨Ze9 e5 el6,Ze9 (y5 _ _ e4) el6⟩
   ·unfold dueO1; rw [if_pos lt]; rfl
  ·have nlt:¬ z.2 < T':=of_decide_eq_false c
   exact k3 _ l [] H2 s02 nl0 (by unfold dueT1; rw [if_neg nlt]; exact told2) e2 (fun t ht=>nomatch ht) (by unfold dueO1; rw [if_neg nlt]; rfl)
theorem Zi1 {X:Cx}:CallR X (.builtin "isinstance") (fun xs H Q=>∃ a C t c1 c2 c3,xs=[.ref a,.ref t]∧IsExc H a C∧XCls X.K C∧H t=some (.tup [.ref c1,.ref c2,.ref c3])∧PySem.W.kitOne X.K (.ref C) (.ref c1)=some false∧PySem.W.kitOne X.K (.ref C) (.ref c2)=some false∧PySem.W.kitOne X.K (.ref C) (.ref c3)=some false∧Q (.bl false) H):=by
 intro pins s σ H xs us Q I r h
 obtain ⟨a,C,t,c1,c2,c3,rfl,he,hc,ht,k1,k2,k3,q⟩:=h
 obtain ⟨v1,v2,rfl,r1,r2⟩:=vals2 r
 cases r1
 cases r2
 obtain ⟨its,rt,hp,_⟩:=I.tuple (SqT.of (K:=X.K) ht)
 cases rt with
 | cons q1 rt=>cases rt with
  | cons q2 rt=>cases rt with
   | cons q3 rt =>
    cases rt
    cases q1
    cases q2
    cases q3
    obtain ⟨⟨cls,dd,data,sl⟩,ho,ec,n,ed⟩:=hp
    simp only at ec ed
    subst ec ed
    exact PySem.W.kia_tup (kitx_exc hc) I.kIn (Zgu I he) ho (by simp [PySem.W.kitAny,k1,k2,k3]) (fun z=>nomatch z) fun tk=>⟨.bl false,H,I.tok tk,rfl,q⟩
theorem Zh0 {X:Cx} {K:PySem.W.Frag} (hK:X.K=K:=by rfl):CallR X (.builtin "isinstance") (fun xs H Q=>∃ a C t c1 c2 c3,xs=[.ref a,.ref t]∧IsExc H a C∧XCls K C∧H t=some (.tup [.ref c1,.ref c2,.ref c3])∧PySem.W.kitOne K (.ref C) (.ref c1)=some false∧PySem.W.kitOne K (.ref C) (.ref c2)=some false∧PySem.W.kitOne K (.ref C) (.ref c3)=some false∧Q (.bl false) H):=by subst hK; exact Zi1
theorem Zk8 {X:Cx} {K:PySem.W.Frag} {e:Expr} {f:Str} {pos:Pos} {ta:TE} (he:PE X e ta) (hb:attributeBase e f X.env (eval e X.env)=eval e X.env) (hK:X.K=K:=by rfl):PE X (.Attribute e f pos) (tXFld K ta f):=by subst hK; exact pe_xfld he hb
theorem Zki {X:Cx} {K:PySem.W.Frag} (hK:X.K=K:=by rfl):CallR X (.builtin "isinstance") (fun xs H Q=>∃ a C c u b,xs=[.ref a,c]∧IsExc H a C∧XCls K C∧RelV c u∧(∀ u',RelV c u'→u'=u)∧PySem.W.kitOne K (.ref C) u=some b∧Q (.bl b) H):=by subst hK; exact call_isinX
structure RG (mg:Str→Option Value) (K:PySem.W.Frag) (cE cG cH cS cM:Addr):Prop where
 g_GlassError:mg "GlassError"=some (.ref cE)
 g_NoGlass:mg "NoGlass"=some (.ref cG)
 g_NoSheet:mg "NoSheet"=some (.ref cH)
 g_NoSide:mg "NoSide"=some (.ref cS)
 g_TooMany:mg "TooMany"=some (.ref cM)
 x_GlassError:PySem.W.excIn K cE vErr "ValueError.__new__"=true
 mG:PySem.W.mroIn K cG (.ref cE)=some true
 clG:XCls K cG
 n_width:NoAttr K cG "width"
 n_height:NoAttr K cG "height"
 kGG:PySem.W.kitOne K (.ref cG) (.ref cG)=some true
 kGH:PySem.W.kitOne K (.ref cG) (.ref cH)=some false
 kGS:PySem.W.kitOne K (.ref cG) (.ref cS)=some false
 kGM:PySem.W.kitOne K (.ref cG) (.ref cM)=some false
theorem glF_w (t:Want):(glF t).lookup ("width":Str)=some (.int t.1):=by unfold glF; simp [List.lookup]
theorem glF_h (t:Want):(glF t).lookup ("height":Str)=some (.int t.2.1):=by
 unfold glF
 have:(("height":Str) == ("width":Str))=false:=by decide +kernel
 simp [List.lookup,this]
def kg (us ws:List Value):List Value:=match us,ws with
 | [a,b,c],[d]=>[a,b,c,d]
 | _,_=>[]
def kgV (vs zs:List V):List V:=match vs,zs with
 | [a,b,c],[d]=>[a,b,c,d]
 | _,_=>[]
theorem kg_rel {vs:List V} {us:List Value} {zs:List V} {ws:List Value} (r:Vals vs us) (q:Vals zs ws):Vals (kgV vs zs) (kg us ws):=by
 cases r with
 | nil=>exact .nil
 | cons r1 r=>cases r with
  | nil=>exact .nil
  | cons r2 r=>cases r with
   | nil=>exact .nil
   | cons r3 r=>cases r with
    | cons r4 r=>exact .nil
    | nil=>cases q with
     | nil=>exact .nil
     | cons q1 q=>cases q with
      | nil=>exact .cons r1 (.cons r2 (.cons r3 (.cons q1 .nil)))
      | cons q2 q=>exact .nil
theorem kg_len {us ws:List Value} (h:(kg us ws).length=4):∃ a b c d,us=[a,b,c]∧ws=[d]:=by
 unfold kg at h
 split at h
 ·exact ⟨_,_,_,_,rfl,rfl⟩
 ·cases h
def Zjk (C:Addr):Sp:=fun vs H Q _=>∃ (a dx ls lt:Addr) (ss:List (Addr × Int × Int)) (t:Want) (way:Int),vs=[.ref a,.int t.1,.int t.2.1,.bl t.2.2,.int way]∧(way=0→t.2.2=false)∧BnAt C a dx ls lt H ss []∧ss.length≤4∧(∀ t∈ss,SOk t.2)∧WOk t ∧
 (∀ (k:Nat) (u:Addr × Int × Int),ss[k]?=some u→hld t (shR u.2)→(∀ (k':Nat) (u':Addr × Int × Int),ss[k']?=some u'→hld t (shR u'.2)→key2 [arR (shR u.2),k]≤key2 [arR (shR u'.2),k']) →
  ∀ z rest tA dA kvs r b H',H dA=none→heldW t ((shR u.2).len true) ((shR u.2).len false)=z :: rest→SameX lt H H'→BnAt C a dx ls lt H' ss [(tA,(k:Int),dA,kvs,cutE [(shR u.2,.w none)] (shR u.2) z 0)]→H' r=some (.tup [.int 0,.ref b])→H' b=some (.tup (cutB [(shR u.2,.w none)] (shR u.2) z).2.vs)→Q (.ref r) H') ∧
 ((∀ u∈ss,¬ hld t (shR u.2))→∀ c H',Same H H'→H' c=some (.tup [.str "none",.int t.1,.int t.2.1])→Q (.ref c) H')
abbrev N_la:List Str:=["_law_bench","_law_width","_law_height","_law_flip","_law_way","_law_told_here","e"]
theorem Zkp:Zan N_la ["_law_bench","_law_width","_law_height","_law_flip","_law_way"] (Zab Zb1):=⟨rfl,rfl,rfl,by decide +kernel,rfl,by decide +kernel,by decide +kernel⟩
theorem Zim {f:Addr} {fd:FuncData} {C cE cG cH cS cM:Addr} (F:Fun K "_law_asked" "_law_asked" Zb1 f fd) (T:Txt mg tk) (R:RG mg K cE cG cH cS cM) (M2_Bench_cut:MdK P w K mg base 5 C "cut" ["self","width","height","turns"] [] (fun us _=>us++[.bool false]) (fun vs _=>vs++[.bl false]) (Zdu C cG)) (Mk_Bench_cut:MdK P w K mg base 5 C "cut" ["self","width","height","turns"] ["turns"] kg kgV (Zdu C cG)) (M3_Bench_cut:MdK P w K mg base 5 C "cut" ["self","width","height","turns"] [] (fun us _=>us) (fun vs _=>vs) (Zdu C cG)) :
  FnOk P w K mg base CX0 6 f fd ["_law_bench","_law_width","_law_height","_law_flip","_law_way"] (Zjk C):=by
 have S:=Zkp
 refine F.ok S (fun vs H Q E h=>?_) (fun cdv A outer s H vs Q E hr h=>?_)
 ·obtain ⟨a,dx,ls,lt,ss,t,way,rfl,_⟩:=h; rfl
 ·obtain ⟨a,dx,ls,lt,ss,t,way,rfl,w0,bn,s4,so,wok,qB,qC⟩:=h
  refine ⟨_,(Zae (Zav (i:=5) S.nd rfl (Or.inl rfl) Zb8)
   (Zae (ps_tryas (im:=6) S.nd rfl rfl (pxs_if (Zau Zfj (pv 4) Zaf (nomark _)) (Zjr (i:=5) S.nd rfl (Or.inl rfl) (fun _=>px_mdK M2_Bench_cut hr (pv 0) (Zaa (pv 1) (Zaa (pv 2) Zac)) pk_nil)) (pxs_if (Zau Zfj (pv 4) Zaf (nomark _)) (Zjr (i:=5) S.nd rfl (Or.inl rfl) (fun _=>px_mdK Mk_Bench_cut hr (pv 0) (Zaa (pv 1) (Zaa (pv 2) Zac)) (pk_cons (pv 3) pk_nil))) (Zjr (i:=5) S.nd rfl (Or.inl rfl) (fun _=>px_mdK M3_Bench_cut hr (pv 0) (Zaa (pv 1) (Zaa (pv 2) (Zaa (pv 3) Zac))) pk_nil)))) rfl R.g_GlassError R.x_GlassError rfl rfl (fun _=>(Zah (Zbm (PW.pt (Zfd (Zb7 (Zao (Zki (K:=K)) rfl T.z_isinstance rfl (Zaa (pv 6) (Zaa (Za3 (v:=.ref (cG)) rfl R.g_NoGlass rfl) Zac)))) (Zee (Zck (Zb7 (Zao (Zh0 (K:=K)) rfl T.z_isinstance rfl (Zaa (pv 6) (Zaa (Zas (Zaa (Za3 (v:=.ref (cH)) rfl R.g_NoSheet rfl) (Zaa (Za3 (v:=.ref (cS)) rfl R.g_NoSide rfl) (Zaa (Za3 (v:=.ref (cM)) rfl R.g_TooMany rfl) Zac)))) Zac)))))))) (Zah (Zav (i:=5) S.nd rfl (Or.inl rfl) (Zas (Zaa Zdo (Zaa (Zk8 (K:=K) (pv 6) rfl) (Zaa (Zk8 (K:=K) (pv 6) rfl) Zac)))))) Zaw))))
   (Zah (Zat (pv 5))))),?_⟩
  have core:∀ {Q':VK} {b:Bool},b=t.2.2→(∀ v H',Q v H'→Q' v H')→Zdu C cG [.ref a,.int t.1,.int t.2.1,.bl b] H Q' (XE H (fun C' fs _=>C'=cG∧fs=glF t∧(∀ u∈ss,¬ hld t (shR u.2)))):=fun {Q' b} eb up =>
   ⟨a,dx,ls,lt,ss,[],t,(by rw [eb]),bn,⟨Nat.zero_le _,(fun t ht=>nomatch ht),Nat.zero_le _⟩,s4,so,wok,(by decide),(fun y hy=>nomatch hy),(fun y hy=>nomatch hy),
    (fun _ k u k2 k3 least z rest tA dA kvs r b H' h0 h1 h2 h3 h4 h5=>up _ _ (qB k u k2 k3 least z rest tA dA kvs r b H' h0 h1 h2 h3 h4 h5)),fun _ none'=>XE.rf fun fs H' hp=>⟨rfl,hp,none'⟩⟩
  refine ⟨XE H (fun C' fs _=>C'=cG∧fs=glF t∧(∀ u∈ss,¬ hld t (shR u.2))),?_,?_⟩
  ·refine ⟨_,rfl,rfl,_,rfl,ite3 (fun c=>?_) (fun c=>⟨_,rfl,rfl,_,rfl,ite3 (fun c=>?_) (fun c=>?_)⟩)⟩
   ·have e:way=0:=by have:=of_decide_eq_true c; injection this
    refine ⟨_,rfl,a,dx,_,rfl,bn.ob,Zcv _ _ (by decide +kernel) (by decide +kernel),_,rfl,_,rfl,?_⟩
    dsimp only [tNil,List.cons_append,List.nil_append]
    exact core (w0 e).symm (fun v H' h=>⟨_,rfl,h⟩)
   ·refine ⟨_,rfl,a,dx,_,rfl,bn.ob,Zcv _ _ (by decide +kernel) (by decide +kernel),_,rfl,_,rfl,_,rfl,?_⟩
    dsimp only [tNil,List.cons_append,List.nil_append]
    exact core rfl (fun v H' h=>⟨_,rfl,h⟩)
   ·refine ⟨_,rfl,a,dx,_,rfl,bn.ob,Zcv _ _ (by decide +kernel) (by decide +kernel),_,rfl,_,rfl,_,rfl,?_⟩
    dsimp only [tNil,List.cons_append,List.nil_append]
    exact core rfl (fun v H' h=>⟨_,rfl,h⟩)
  ·rintro x' C' d T0 T2 H' ⟨x2,C2,dx',fs,ev,rfl,hx,s34,xr,rfl,rfl,none'⟩ fl hT2 nT2
   obtain rfl:x'=x2:=Value.ref.inj ev
   obtain ⟨rfl,xr',s5⟩:=xr_on hx s34 xr fl hT2
   obtain ⟨⟨dx2,ed,ndx,hd⟩,T3,hxT⟩:=xr'
   cases ed
   generalize thrown H' x' C2 (some dx') T2=H5 at hd hxT s5 ⊢
   refine ⟨R.mG,?_⟩
   have he5:IsExc H5 x' C2:=.inl ⟨dx',_,.inr ⟨T3,hxT⟩,hd⟩
   refine ⟨_,rfl,x',C2,.ref C2,.ref C2,true,rfl,he5,R.clG,rfl,(fun _ z=>z),R.kGG,_,rfl,iteP rfl ?_⟩
   refine ⟨_,rfl,lenOk 3,fun tt ntt=>?_⟩
   have s6:Same H5 (upd H5 tt (.tup [.ref cH,.ref cS,.ref cM])):=Same.new ntt
   have e6:(upd H5 tt (.tup [.ref cH,.ref cS,.ref cM])) tt=some (.tup [.ref cH,.ref cS,.ref cM]):=upd_same
   generalize upd H5 tt (.tup [.ref cH,.ref cS,.ref cM])=H6 at s6 e6 ⊢
   have he6:IsExc H6 x' C2:=.inl ⟨dx',_,.inr ⟨T3,s6 _ _ hxT⟩,s6 _ _ hd⟩
   refine ⟨x',C2,tt,cH,cS,cM,rfl,he6,R.clG,e6,R.kGH,R.kGS,R.kGM,_,rfl,iteP rfl ?_⟩
   refine ⟨_,rfl,x',C2,dx',_,_,rfl,.inr ⟨T3,s6 _ _ hxT⟩,s6 _ _ hd,R.clG,R.n_width,glF_w t,_,rfl,x',C2,dx',_,_,rfl,.inr ⟨T3,s6 _ _ hxT⟩,s6 _ _ hd,R.clG,R.n_height,glF_h t,lenOk 3,fun c nc=>?_⟩
   have s7:Same H6 (upd H6 c (.tup [.str "none",.int t.1,.int t.2.1])):=Same.new nc
   exact ⟨_,rfl,qC none' c _ (s5.trans (s6.trans s7)) upd_same⟩
def enOf:KV→Rk→En
 | [],_=>.w none
 | x :: r,q=>if rkK x.1=rkK q then x.2 else enOf r q
theorem KvAt.val {H:Hp} {q:Rk}:∀ {kvs:List (List Key × V)} {kv:KV},KvAt H kvs kv→(∃ e,(q,e)∈kv)→∃ c,valV kvs (rkK q)=some (.ref c)∧H c=some (.tup (enV (enOf kv q)))
 | [],[],_,⟨_,h⟩=>nomatch h
 | x :: r,y :: s,⟨⟨h1,a,h2,h3⟩,h⟩,⟨e,he⟩=>by
  by_cases z:rkK y.1=rkK q
  ·refine ⟨a,?_,?_⟩
   ·rw [Zex (h1.trans z),h2]
   ·unfold enOf; rw [if_pos z]; exact h3
  ·obtain ⟨c,c1,c2⟩:=KvAt.val h ⟨e,by
    rcases List.mem_cons.mp he with w | w
    ·exact absurd (by rw [← w]) z
    ·exact w⟩
   refine ⟨c,?_,?_⟩
   ·rw [Zey (fun w=>z (h1.symm.trans w)),c1]
   ·unfold enOf; rw [if_neg z]; exact c2
 | [],_ :: _,h,_=>h.elim
 | _ :: _,[],h,_=>h.elim
def oneK (W T:Int) (z:Int × Int):KV:=cutE [(⟨0,0,T,W⟩,.w none)] ⟨0,0,T,W⟩ z 0
theorem Zb6 {p q:Rk} (h:p.t≠q.t∨p.l≠q.l∨p.b≠q.b∨p.r≠q.r):¬ rkK p=rkK q:=fun z=>by
 have:=rkK_inj z
 subst this
 rcases h with h | h | h | h <;> exact h rfl
theorem oneK_cc {W T:Int} {z:Int × Int} (w1:1≤z.1) (w2:z.1 < W) (h1:1≤z.2) (h2:z.2 < T):oneK W T z=[(⟨0,0,T,W⟩,.c true z.1),(⟨0,z.1,T,W⟩,.w none),(⟨0,0,T,z.1⟩,.c false z.2),(⟨z.2,0,T,z.1⟩,.w none),(⟨0,0,z.2,z.1⟩,.w (some 0))]:=by
 have n1:¬ rkK (⟨0,0,T,W⟩:Rk)=rkK ⟨0,z.1,T,W⟩:=Zb6 (.inr (.inl (by show (0:Int)≠z.1; lia)))
 have n2:¬ rkK (⟨0,0,T,W⟩:Rk)=rkK ⟨0,0,T,z.1⟩:=Zb6 (.inr (.inr (.inr (by show W≠z.1; lia))))
 have n3:¬ rkK (⟨0,z.1,T,W⟩:Rk)=rkK ⟨0,0,T,z.1⟩:=Zb6 (.inr (.inl (by show z.1≠0; lia)))
 have n4:¬ rkK (⟨0,0,T,W⟩:Rk)=rkK ⟨z.2,0,T,z.1⟩:=Zb6 (.inl (by show (0:Int)≠z.2; lia))
 have n5:¬ rkK (⟨0,z.1,T,W⟩:Rk)=rkK ⟨z.2,0,T,z.1⟩:=Zb6 (.inl (by show (0:Int)≠z.2; lia))
 have n6:¬ rkK (⟨0,0,T,z.1⟩:Rk)=rkK ⟨z.2,0,T,z.1⟩:=Zb6 (.inl (by show (0:Int)≠z.2; lia))
 have n7:¬ rkK (⟨0,0,T,W⟩:Rk)=rkK ⟨0,0,z.2,z.1⟩:=Zb6 (.inr (.inr (.inl (by show T≠z.2; lia))))
 have n8:¬ rkK (⟨0,z.1,T,W⟩:Rk)=rkK ⟨0,0,z.2,z.1⟩:=Zb6 (.inr (.inl (by show z.1≠0; lia)))
 have n9:¬ rkK (⟨0,0,T,z.1⟩:Rk)=rkK ⟨0,0,z.2,z.1⟩:=Zb6 (.inr (.inr (.inl (by show T≠z.2; lia))))
 have n10:¬ rkK (⟨z.2,0,T,z.1⟩:Rk)=rkK ⟨0,0,z.2,z.1⟩:=Zb6 (.inl (by show z.2≠0; lia))
 have a1:Rk.len ⟨0,0,T,W⟩ true=W:=Int.sub_zero W
 have a2:Rk.len ⟨0,0,T,z.1⟩ false=T:=Int.sub_zero T
 have f1:Rk.fst ⟨0,0,T,W⟩ true z.1=⟨0,0,T,z.1⟩:=by show (⟨0,0,T,0+z.1⟩:Rk)=_; rw [Int.zero_add]
 have f2:Rk.oth ⟨0,0,T,W⟩ true z.1=⟨0,z.1,T,W⟩:=by show (⟨0,0+z.1,T,W⟩:Rk)=_; rw [Int.zero_add]
 have f3:Rk.fst ⟨0,0,T,z.1⟩ false z.2=⟨0,0,z.2,z.1⟩:=by show (⟨0,0,0+z.2,z.1⟩:Rk)=_; rw [Int.zero_add]
 have f4:Rk.oth ⟨0,0,T,z.1⟩ false z.2=⟨z.2,0,T,z.1⟩:=by show (⟨0+z.2,0,T,z.1⟩:Rk)=_; rw [Int.zero_add]
 unfold oneK cutE cutB cutS
 simp only [a1,w2,if_true,f1,f2,a2,h2,f3,f4]
 simp [putE,n1,n2,n3,n4,n5,n6,n7,n8,n9,n10]
theorem oneK_cn {W T:Int} {z:Int × Int} (w1:1≤z.1) (w2:z.1 < W) (h2:¬ z.2 < T):oneK W T z=[(⟨0,0,T,W⟩,.c true z.1),(⟨0,z.1,T,W⟩,.w none),(⟨0,0,T,z.1⟩,.w (some 0))]:=by
 have n1:¬ rkK (⟨0,0,T,W⟩:Rk)=rkK ⟨0,z.1,T,W⟩:=Zb6 (.inr (.inl (by show (0:Int)≠z.1; lia)))
 have n2:¬ rkK (⟨0,0,T,W⟩:Rk)=rkK ⟨0,0,T,z.1⟩:=Zb6 (.inr (.inr (.inr (by show W≠z.1; lia))))
 have n3:¬ rkK (⟨0,z.1,T,W⟩:Rk)=rkK ⟨0,0,T,z.1⟩:=Zb6 (.inr (.inl (by show z.1≠0; lia)))
 have a1:Rk.len ⟨0,0,T,W⟩ true=W:=Int.sub_zero W
 have a2:Rk.len ⟨0,0,T,z.1⟩ false=T:=Int.sub_zero T
 have f1:Rk.fst ⟨0,0,T,W⟩ true z.1=⟨0,0,T,z.1⟩:=by show (⟨0,0,T,0+z.1⟩:Rk)=_; rw [Int.zero_add]
 have f2:Rk.oth ⟨0,0,T,W⟩ true z.1=⟨0,z.1,T,W⟩:=by show (⟨0,0+z.1,T,W⟩:Rk)=_; rw [Int.zero_add]
 unfold oneK cutE cutB cutS
 simp only [a1,w2,if_true,f1,f2,a2,h2,if_false]
 simp [putE,n1,n2,n3]
theorem oneK_nc {W T:Int} {z:Int × Int} (w2:¬ z.1 < W) (h1:1≤z.2) (h2:z.2 < T):oneK W T z=[(⟨0,0,T,W⟩,.c false z.2),(⟨z.2,0,T,W⟩,.w none),(⟨0,0,z.2,W⟩,.w (some 0))]:=by
 have n1:¬ rkK (⟨0,0,T,W⟩:Rk)=rkK ⟨z.2,0,T,W⟩:=Zb6 (.inl (by show (0:Int)≠z.2; lia))
 have n2:¬ rkK (⟨0,0,T,W⟩:Rk)=rkK ⟨0,0,z.2,W⟩:=Zb6 (.inr (.inr (.inl (by show T≠z.2; lia))))
 have n3:¬ rkK (⟨z.2,0,T,W⟩:Rk)=rkK ⟨0,0,z.2,W⟩:=Zb6 (.inl (by show z.2≠0; lia))
 have a1:Rk.len ⟨0,0,T,W⟩ true=W:=Int.sub_zero W
 have a2:Rk.len ⟨0,0,T,W⟩ false=T:=Int.sub_zero T
 have f1:Rk.fst ⟨0,0,T,W⟩ false z.2=⟨0,0,z.2,W⟩:=by show (⟨0,0,0+z.2,W⟩:Rk)=_; rw [Int.zero_add]
 have f2:Rk.oth ⟨0,0,T,W⟩ false z.2=⟨z.2,0,T,W⟩:=by show (⟨0+z.2,0,T,W⟩:Rk)=_; rw [Int.zero_add]
 unfold oneK cutE cutB cutS
 simp only [a1,w2,if_true,f1,f2,a2,h2,if_false]
 simp [putE,n1,n2,n3]
theorem oneK_nn {W T:Int} {z:Int × Int} (w2:¬ z.1 < W) (h2:¬ z.2 < T):oneK W T z=[(⟨0,0,T,W⟩,.w (some 0))]:=by
 have a1:Rk.len ⟨0,0,T,W⟩ true=W:=Int.sub_zero W
 have a2:Rk.len ⟨0,0,T,W⟩ false=T:=Int.sub_zero T
 unfold oneK cutE cutB cutS
 simp only [a1,w2,if_true,a2,h2,if_false]
 simp [putE]
structure One (W T:Int) (z:Int × Int):Prop where
 grow:Grow (enOf (oneK W T z)) (fun q=>∃ e,(q,e)∈oneK W T z) (dueT W T z) ⟨0,0,T,W⟩
 off:(offOf (whs 0 [oneK W T z])).Perm (dueO W T z)
 pane:pnsOf (whs 0 [oneK W T z])=[⟨0,0,z.2,z.1⟩]
theorem one_ok {W T:Int} {z:Int × Int} (w1:1≤z.1) (w2:z.1≤W) (h1:1≤z.2) (h2:z.2≤T):One W T z:=by
 by_cases cw:z.1 < W
 ·have f1:Rk.fst ⟨0,0,T,W⟩ true z.1=⟨0,0,T,z.1⟩:=by show (⟨0,0,T,0+z.1⟩:Rk)=_; rw [Int.zero_add]
  have f2:Rk.oth ⟨0,0,T,W⟩ true z.1=⟨0,z.1,T,W⟩:=by show (⟨0,0+z.1,T,W⟩:Rk)=_; rw [Int.zero_add]
  have n1:¬ rkK (⟨0,0,T,W⟩:Rk)=rkK ⟨0,z.1,T,W⟩:=Zb6 (.inr (.inl (by show (0:Int)≠z.1; lia)))
  have n2:¬ rkK (⟨0,0,T,W⟩:Rk)=rkK ⟨0,0,T,z.1⟩:=Zb6 (.inr (.inr (.inr (by show W≠z.1; lia))))
  have n3:¬ rkK (⟨0,z.1,T,W⟩:Rk)=rkK ⟨0,0,T,z.1⟩:=Zb6 (.inr (.inl (by show z.1≠0; lia)))
  by_cases ch:z.2 < T
  ·have f3:Rk.fst ⟨0,0,T,z.1⟩ false z.2=⟨0,0,z.2,z.1⟩:=by show (⟨0,0,0+z.2,z.1⟩:Rk)=_; rw [Int.zero_add]
   have f4:Rk.oth ⟨0,0,T,z.1⟩ false z.2=⟨z.2,0,T,z.1⟩:=by show (⟨0+z.2,0,T,z.1⟩:Rk)=_; rw [Int.zero_add]
   have n4:¬ rkK (⟨0,0,T,W⟩:Rk)=rkK ⟨z.2,0,T,z.1⟩:=Zb6 (.inl (by show (0:Int)≠z.2; lia))
   have n5:¬ rkK (⟨0,z.1,T,W⟩:Rk)=rkK ⟨z.2,0,T,z.1⟩:=Zb6 (.inl (by show (0:Int)≠z.2; lia))
   have n6:¬ rkK (⟨0,0,T,z.1⟩:Rk)=rkK ⟨z.2,0,T,z.1⟩:=Zb6 (.inl (by show (0:Int)≠z.2; lia))
   have n7:¬ rkK (⟨0,0,T,W⟩:Rk)=rkK ⟨0,0,z.2,z.1⟩:=Zb6 (.inr (.inr (.inl (by show T≠z.2; lia))))
   have n8:¬ rkK (⟨0,z.1,T,W⟩:Rk)=rkK ⟨0,0,z.2,z.1⟩:=Zb6 (.inr (.inl (by show z.1≠0; lia)))
   have n9:¬ rkK (⟨0,0,T,z.1⟩:Rk)=rkK ⟨0,0,z.2,z.1⟩:=Zb6 (.inr (.inr (.inl (by show T≠z.2; lia))))
   have n10:¬ rkK (⟨z.2,0,T,z.1⟩:Rk)=rkK ⟨0,0,z.2,z.1⟩:=Zb6 (.inl (by show z.2≠0; lia))
   have e:=oneK_cc w1 cw h1 ch
   refine ⟨?_,?_,?_⟩
   ·rw [e]
    unfold dueT dueT1
    rw [if_pos cw,if_pos ch]
    refine ⟨⟨_,.head _⟩,by simp [enOf],?_,?_⟩
    ·rw [f1]
     refine ⟨⟨_,.tail _ (.tail _ (.head _))⟩,by simp [enOf,n2,n3],?_,?_⟩
     ·rw [f3]; exact ⟨⟨_,.tail _ (.tail _ (.tail _ (.tail _ (.head _))))⟩,by simp [enOf,n7,n8,n9,n10]⟩
     ·rw [f4]; exact ⟨⟨_,.tail _ (.tail _ (.tail _ (.head _)))⟩,by simp [enOf,n4,n5,n6]⟩
    ·rw [f2]; exact ⟨⟨_,.tail _ (.head _)⟩,by simp [enOf,n1]⟩
   ·rw [e]; unfold dueO dueO1; rw [if_pos cw,if_pos ch]; exact List.Perm.swap _ _ _
   ·rw [e]; rfl
  ·have e:=oneK_cn w1 cw ch
   have eT:z.2=T:=by lia
   refine ⟨?_,?_,?_⟩
   ·rw [e]
    unfold dueT dueT1
    rw [if_pos cw,if_neg ch]
    refine ⟨⟨_,.head _⟩,by simp [enOf],?_,?_⟩
    ·rw [f1]; exact ⟨⟨_,.tail _ (.tail _ (.head _))⟩,by simp [enOf,n2,n3]⟩
    ·rw [f2]; exact ⟨⟨_,.tail _ (.head _)⟩,by simp [enOf,n1]⟩
   ·rw [e]; unfold dueO dueO1; rw [if_pos cw,if_neg ch]; exact List.Perm.refl _
   ·rw [e,eT]; rfl
 ·have eW:z.1=W:=by lia
  by_cases ch:z.2 < T
  ·have f1:Rk.fst ⟨0,0,T,W⟩ false z.2=⟨0,0,z.2,W⟩:=by show (⟨0,0,0+z.2,W⟩:Rk)=_; rw [Int.zero_add]
   have f2:Rk.oth ⟨0,0,T,W⟩ false z.2=⟨z.2,0,T,W⟩:=by show (⟨0+z.2,0,T,W⟩:Rk)=_; rw [Int.zero_add]
   have n1:¬ rkK (⟨0,0,T,W⟩:Rk)=rkK ⟨z.2,0,T,W⟩:=Zb6 (.inl (by show (0:Int)≠z.2; lia))
   have n2:¬ rkK (⟨0,0,T,W⟩:Rk)=rkK ⟨0,0,z.2,W⟩:=Zb6 (.inr (.inr (.inl (by show T≠z.2; lia))))
   have n3:¬ rkK (⟨z.2,0,T,W⟩:Rk)=rkK ⟨0,0,z.2,W⟩:=Zb6 (.inl (by show z.2≠0; lia))
   have e:=oneK_nc cw h1 ch
   refine ⟨?_,?_,?_⟩
   ·rw [e]
    unfold dueT dueT1
    rw [if_neg cw,if_pos ch]
    refine ⟨⟨_,.head _⟩,by simp [enOf],?_,?_⟩
    ·rw [f1]; exact ⟨⟨_,.tail _ (.tail _ (.head _))⟩,by simp [enOf,n2,n3]⟩
    ·rw [f2]; exact ⟨⟨_,.tail _ (.head _)⟩,by simp [enOf,n1]⟩
   ·rw [e]; unfold dueO dueO1; rw [if_neg cw,if_pos ch,eW]; exact List.Perm.refl _
   ·rw [e,eW]; rfl
  ·have e:=oneK_nn cw ch
   have eT:z.2=T:=by lia
   refine ⟨?_,?_,?_⟩
   ·rw [e]
    unfold dueT dueT1
    rw [if_neg cw,if_neg ch]
    exact ⟨⟨_,.head _⟩,by simp [enOf]⟩
   ·rw [e]; unfold dueO dueO1; rw [if_neg cw,if_neg ch]; exact List.Perm.refl _
   ·rw [e,eW,eT]; rfl
theorem ty_lst {H:Hp} {a:Addr} {xs:List V} (h:H a=some (.lst xs)):tyS H (.ref a)=some "list":=by
 show tyO (H a)=some "list"
 rw [h]; rfl
def trD:Tr→D
 | .whole m=>.tup (.cons (.at (.str "whole")) (.cons (.at (markV m)) .nil))
 | .cut u k x y=>.tup (.cons (.at (.str (wd u))) (.cons (.at (.int k)) (.cons (trD x) (.cons (trD y) .nil))))
theorem mark_flat (m:Option Int):flatV (markV m)=true:=by cases m <;> rfl
theorem Zky {K:PySem.W.Frag} {H:Hp}:∀ {t:Tr} {v:V},Told H t v→DIs K H (trD t) v
 | .whole m,v,h=>by
  rw [Told] at h
  obtain ⟨a,rfl,h⟩:=h
  rw [trD,DIs]
  refine ⟨a,_,rfl,SqT.of h,?_⟩
  rw [DIss]
  refine ⟨_,_,rfl,by rw [DIs]; exact ⟨rfl,rfl⟩,?_⟩
  rw [DIss]
  exact ⟨_,_,rfl,by rw [DIs]; exact ⟨rfl,mark_flat m⟩,by rw [DIss]⟩
 | .cut u k x y,v,h=>by
  rw [Told] at h
  obtain ⟨a,vx,vy,rfl,h,h1,h2⟩:=h
  rw [trD,DIs]
  refine ⟨a,_,rfl,SqT.of h,?_⟩
  rw [DIss]
  refine ⟨_,_,rfl,by rw [DIs]; exact ⟨rfl,rfl⟩,?_⟩
  rw [DIss]
  refine ⟨_,_,rfl,by rw [DIs]; exact ⟨rfl,rfl⟩,?_⟩
  rw [DIss]
  refine ⟨_,_,rfl,Zky h1,?_⟩
  rw [DIss]
  exact ⟨_,_,rfl,Zky h2,by rw [DIss]⟩
theorem Zjh:∀ t:Tr,dep (trD t)≤t.dp+1
 | .whole m=>by rw [trD,dep,deps,deps,deps,dep,dep]; lia
 | .cut u k x y=>by
  have:=Zjh x
  have:=Zjh y
  rw [trD,dep,deps,deps,deps,deps,deps,dep,dep,Tr.dp]; lia
def rowD (y:Int × Rk):D:=.tup (.cons (.at (.int y.1)) (.cons (.tup (intsD' [y.2.t,y.2.l,y.2.b,y.2.r])) .nil))
theorem Zjq {K:PySem.W.Frag} {H:Hp} {t:Of1} (h:OfAt H t):DIs K H (rowD t.2.2) (.ref t.1):=by
 unfold rowD
 rw [DIs]
 refine ⟨_,_,rfl,SqT.of h.1,?_⟩
 rw [DIss]
 refine ⟨_,_,rfl,by rw [DIs]; exact ⟨rfl,rfl⟩,?_⟩
 rw [DIss]
 refine ⟨_,_,rfl,?_,by rw [DIss]⟩
 rw [DIs]
 exact ⟨_,_,rfl,SqT.of h.2,Zct [t.2.2.2.t,t.2.2.2.l,t.2.2.2.b,t.2.2.2.r]⟩
theorem Zk4 (y:Int × Rk):dep (rowD y)≤4:=by
 unfold rowD
 rw [dep,deps,deps,deps,dep,dep,Zc8]
 decide
def rowsD:List (Int × Rk)→Ds
 | []=>.nil
 | y :: r=>.cons (rowD y) (rowsD r)
theorem Zhc {K:PySem.W.Frag} {H:Hp}:∀ (ts:List Of1),(∀ t∈ts,OfAt H t)→DIss K H (rowsD (ts.map fun t:Of1=>t.2.2)) (refs ts)
 | [],_=>by show DIss K H .nil []; rw [DIss]
 | t :: r,h=>by
  show DIss K H (.cons (rowD t.2.2) (rowsD (r.map fun t:Of1=>t.2.2))) (.ref t.1 :: refs r)
  rw [DIss]
  exact ⟨_,_,rfl,Zjq (h t List.mem_cons_self),Zhc r fun u hu=>h u (List.mem_cons_of_mem _ hu)⟩
theorem Zib:∀ (L:List (Int × Rk)),deps (rowsD L)≤4
 | []=>by rw [rowsD,deps]; lia
 | y :: r=>by
  have:=Zib r
  have:=Zk4 y
  rw [rowsD,deps]; lia
theorem Rk.ext4 {p q:Rk} (h:p.t=q.t∧p.l=q.l∧p.b=q.b∧p.r=q.r):p=q:=by
 obtain ⟨a,b,c,d⟩:=p
 obtain ⟨a',b',c',d'⟩:=q
 obtain ⟨h1,h2,h3,h4⟩:=h
 dsimp only at h1 h2 h3 h4
 rw [h1,h2,h3,h4]
theorem key5_inj {n t l b r n' t' l' b' r':Int} (h:0≤t∧t≤12∧0≤l∧l≤12∧0≤b∧b≤12∧0≤r∧r≤12) (h':0≤t'∧t'≤12∧0≤l'∧l'≤12∧0≤b'∧b'≤12∧0≤r'∧r'≤12) (e:key5 [n,t,l,b,r]=key5 [n',t',l',b',r']):n=n'∧t=t'∧l=l'∧b=b'∧r=r':=by
 simp only [key5] at e
 lia
theorem keyO_inj {y y':Int × Rk} (h:PcOk y.2) (h':PcOk y'.2) (e:keyO y=keyO y'):y=y':=by
 obtain ⟨a,b,c,d,f⟩:=key5_inj (Zig h) (Zig h') e
 exact Prod.ext a (Rk.ext4 ⟨b,c,d,f⟩)
theorem rise_eq {L M:List (Int × Rk)} (ok:∀ y∈L,PcOk y.2) (pm:L.Perm M) (r1:(L.map keyO).Pairwise (·≤·)) (r2:(M.map keyO).Pairwise (·≤·)):L=M:=by
 rw [List.pairwise_map] at r1 r2
 exact List.Perm.eq_of_pairwise (fun a b ha hb h1 h2=>keyO_inj (ok a ha) (ok b (pm.mem_iff.mpr hb)) (Int.le_antisymm h1 h2)) r1 r2 pm
theorem held_in {t:Want} {W T:Int} {z:Int × Int} {r:List (Int × Int)} (wk:WOk t) (h:heldW t W T=z :: r):0 < z.1∧0 < z.2∧z.1≤W∧z.2≤T:=by
 have hm:z∈heldW t W T:=by rw [h]; exact List.mem_cons_self
 unfold heldW at hm
 rw [List.mem_filter,Bool.and_eq_true,decide_eq_true_iff,decide_eq_true_iff] at hm
 obtain ⟨hw,h1,h2⟩:=hm
 unfold WOk at wk
 unfold waysOf at hw
 split at hw
 ·rcases List.mem_cons.mp hw with rfl | hw
  ·exact ⟨by show 0 < t.1; lia,by show 0 < t.2.1; lia,h1,h2⟩
  ·rw [List.mem_singleton.mp hw] at h1 h2 ⊢
   exact ⟨by show 0 < t.2.1; lia,by show 0 < t.1; lia,h1,h2⟩
 ·rw [List.mem_singleton.mp hw] at h1 h2 ⊢
  exact ⟨by show 0 < t.1; lia,by show 0 < t.2.1; lia,h1,h2⟩
theorem fst_all {p:Rk} {u:Bool} {k:Int} (h:¬ k < p.len u) (h':k≤p.len u):p.fst u k=p:=by
 cases u with
 | true=>have h:¬ k < p.r - p.l:=h; have h':k≤p.r - p.l:=h'; exact Rk.ext4 ⟨rfl,rfl,rfl,by show p.l+k=p.r; lia⟩
 | false=>have h:¬ k < p.b - p.t:=h; have h':k≤p.b - p.t:=h'; exact Rk.ext4 ⟨rfl,rfl,by show p.t+k=p.b; lia,rfl⟩
theorem cutS_2 {kv:KV} {p:Rk} {u:Bool} {k:Int} (h':k≤p.len u):(cutS u k (kv,p)).2=p.fst u k:=by
 unfold cutS
 by_cases h:k < p.len u
 ·rw [if_pos h]
 ·rw [if_neg h]; exact (fst_all h h').symm
theorem cutB_2 {kv:KV} {p:Rk} {z:Int × Int} (h1:z.1≤p.len true) (h2:z.2≤p.len false):(cutB kv p z).2=(p.fst true z.1).fst false z.2:=by
 unfold cutB
 have e:=cutS_2 (kv:=kv) h1
 generalize cutS true z.1 (kv,p)=s1 at e ⊢
 obtain ⟨kv',p'⟩:=s1
 have e:p'=p.fst true z.1:=e
 subst e
 exact cutS_2 (h':=h2)
theorem hld_sh {t:Want} {z:Int × Int}:hld t (shR z)↔heldW t z.1 z.2≠[]:=by
 show heldW t (z.1 - 0) (z.2 - 0)≠[]↔_
 rw [Int.sub_zero,Int.sub_zero]
theorem ar_sh (z:Int × Int):arR (shR z)=z.1 * z.2:=by
 show (z.2 - 0) * (z.1 - 0)=_
 rw [Int.sub_zero,Int.sub_zero,Int.mul_comm]
structure IsAt (C a dx ls lt tA oA aA:Addr) (H:Hp) (ss:List (Addr × Int × Int)) (tn:List Tk1) (tr:Nat→Tr) (tk:List (Addr × V)) (os:List Of1) (nz:List (Int × Int)):Prop where
 bn:BnAt C a dx ls lt H ss tn
 bok:BnOk tn
 gr:∀ i t,tn[i]?=some t→Grown H ss t (tr i)∧(tr i).dp < 3
 hT:H tA=some (.lst (refs tk))
 tl:tk.length=tn.length
 tt:∀ i x t,tk[i]?=some x→tn[i]?=some t→H x.1=some (.tup [.int t.2.1,x.2])∧Told H (tr i) x.2
 hO:H oA=some (.lst (refs os))
 oo:∀ t∈os,OfAt H t
 po:(os.map fun t:Of1=>t.2.2).Perm (offOf (whs 0 (tn.map fun t=>t.2.2.2.2)))
 ro:(os.map fun t:Of1=>keyO t.2.2).Pairwise (·≤·)
 so:∀ t∈ss,SOk t.2
 p1:∀ y∈offOf (whs 0 (tn.map fun t=>t.2.2.2.2)),PcOk y.2
 p2:∀ y∈pnsOf (whs 0 (tn.map fun t=>t.2.2.2.2)),PcOk y
 n1:∀ (i:Nat) (t:Tk1),tn[i]?=some t→0≤t.2.1∧∃ z,nz[i]?=some z∧(ss.map (·.2))[t.2.1.toNat]?=some z
 n2:nz.length=tn.length
 hA:H aA=some (.tup ([(nz.map fun z=>z.2 * z.1).sum,aSum (pnsOf (whs 0 (tn.map fun t=>t.2.2.2.2))),aSum ((offOf (whs 0 (tn.map fun t=>t.2.2.2.2))).map (·.2))].map V.int))
theorem Grown.n {H H':Hp} {ss:List (Addr × Int × Int)} {t:Tk1} {r:Tr} (h:Grown H ss t r) (s:SameN H H'):Grown H' ss t r:=by
 obtain ⟨p,u,hu,en,D,he,g⟩:=h
 exact ⟨p,u,hu,en,D,fun q hq=>let ⟨c,c1,c2⟩:=he q hq; ⟨c,c1,s.tup c2⟩,g⟩
theorem IsAt.n {C a dx ls lt tA oA aA:Addr} {H H':Hp} {ss:List (Addr × Int × Int)} {tn:List Tk1} {tr:Nat→Tr} {tk:List (Addr × V)} {os:List Of1} {nz:List (Int × Int)} (h:IsAt C a dx ls lt tA oA aA H ss tn tr tk os nz) (s:SameN H H'):IsAt C a dx ls lt tA oA aA H' ss tn tr tk os nz :=
 ⟨h.bn.n s,h.bok,fun i t e=>⟨(h.gr i t e).1.n s,(h.gr i t e).2⟩,s.lst h.hT,h.tl,fun i x t e f=>⟨s.tup (h.tt i x t e f).1,(h.tt i x t e f).2.n s⟩,s.lst h.hO,fun t ht=>(h.oo t ht).tups fun _ _ e=>s.tup e,h.po,h.ro,h.so,h.p1,h.p2,h.n1,h.n2,s.tup h.hA⟩
def Zk2 (tb2 C:Addr):Sp:=fun vs H Q _=>∃ (a dx ls lt tA oA aA:Addr) (ss:List (Addr × Int × Int)) (tn:List Tk1) (tr:Nat→Tr) (tk:List (Addr × V)) (os:List Of1) (nz:List (Int × Int)),vs=[.ref a,.ref tA,.ref oA,.ref aA]∧IsAt C a dx ls lt tA oA aA H ss tn tr tk os nz∧TabOk lamQ2 lamN2 tb2 H ∧
 ∀ H',SameX tb2 H H'→TabOk lamQ2 lamN2 tb2 H'→Q (.bl true) H'
abbrev N_li:List Str:=["_law_bench","_law_taken","_law_offcuts","_law_areas","_law_again","_law_found","_law_k","_law_some"]
theorem S_law_is:Zan N_li ["_law_bench","_law_taken","_law_offcuts","_law_areas"] (Zab Zc7):=⟨rfl,rfl,rfl,by decide +kernel,rfl,by decide +kernel,by decide +kernel⟩
theorem ok_law_is {f:Addr} {fd:FuncData} {C tb2:Addr} (F:Fun K "_law_is" "_law_is" Zc7 f fd) (T:Txt mg tk) (D__law_whole:DefOk P w K mg base 1 "_law_whole" ["_law_found"] Zds) (D__law_told:DefOk P w K mg base 6 "_law_told" ["_law_tree"] (Zdt cW cU cL 3)) (M_Bench_sheets:MdOk P w K mg base 6 C "sheets" ["self"] (Zeb tb2 C cW cU cL)) (M_Bench_offcuts:MdOk P w K mg base 2 C "offcuts" ["self"] (Zc3 C)) (M_Bench_areas:MdOk P w K mg base 3 C "areas" ["self"] (Zha C)) :
  FnOk P w K mg base CX0 7 f fd ["_law_bench","_law_taken","_law_offcuts","_law_areas"] (Zk2 tb2 C):=by
 have S:=S_law_is
 refine F.ok S (fun vs H Q E h=>?_) (fun cdv A outer s H vs Q E hr h=>?_)
 ·obtain ⟨a,dx,ls,lt,tA,oA,aA,ss,tn,tr,tk,os,nz,rfl,_⟩:=h; rfl
 ·obtain ⟨a,dx,ls,lt,tA,oA,aA,ss,tn,tr,tk,os,nz,rfl,is,tab,q⟩:=h
  have tbl:=tab.tbl
  have tnl:tn.length≤100:=is.bok.1
  refine ⟨_,(Zae (Zdy PassesOwn.never rfl (Zd0 rfl T.z_range (Zaa Zaf Zac)) (Zap (i:=4) S.nd rfl (Or.inl rfl)) (Zae (Zav (i:=5) S.nd rfl (Or.inl rfl) (Zdd M_Bench_sheets hr (pv 0)))
   (Zae (Zbm (PW.pt (Zfc (Zck (Zb7 (Zao Zbv rfl T.z_isinstance rfl (Zaa (pv 5) (Zaa (Zc1 (v:=.ty "list") rfl T.z_list rfl rfl) Zac))))) (Zer (Zau op_ne (Zao Za1 rfl T.z_len rfl (Zaa (pv 5) Zac)) (Zao Za1 rfl T.z_len rfl (Zaa (pv 1) Zac)) (nomark _))))) (Zah (Zat Zjv)) Zaw)
   (Zae (Zdy PassesOwn.never rfl (Zd0 rfl T.z_range (Zaa (Zao Za1 rfl T.z_len rfl (Zaa (pv 1) Zac)) Zac)) (Zap (i:=6) S.nd rfl (Or.inl rfl)) (Zae (Zbm (PW.pt (Zfc (Zck (Zb7 (Zao Zbv rfl T.z_isinstance rfl (Zaa (Zam Za8 (pv 5) (pv 6) (fun _ _=>rfl)) (Zaa (Zc1 (v:=.ty "tuple") rfl T.z_tuple rfl rfl) Zac))))) (Zfc (Zau op_ne (Zao Za1 rfl T.z_len rfl (Zaa (Zam Za8 (pv 5) (pv 6) (fun _ _=>rfl)) Zac)) Zaf (nomark _)) (Zer (Zck (Zb7 (Za2 D__law_whole hr (Zaa (Zam Zaj (Zam Za8 (pv 5) (pv 6) (fun _ _=>rfl)) Zaf (fun _ _=>rfl)) Zac)))))))) (Zah (Zat Zjv)) Zaw)
   (Zah (Zbm (PW.pt (Zfc (Zau op_ne (Zam Zaj (Zam Za8 (pv 5) (pv 6) (fun _ _=>rfl)) Zaf (fun _ _=>rfl)) (Zam Zaj (Zam Za8 (pv 1) (pv 6) (fun _ _=>rfl)) Zaf (fun _ _=>rfl)) (nomark _)) (Zer (Zau (Zlb hr) (Za2 D__law_told hr (Zaa (Zam Zaj (Zam Za8 (pv 5) (pv 6) (fun _ _=>rfl)) Zaf (fun _ _=>rfl)) Zac)) (Zam Zaj (Zam Za8 (pv 1) (pv 6) (fun _ _=>rfl)) Zaf (fun _ _=>rfl)) (nomark _))))) (Zah (Zat Zjv)) Zaw))))
   (Zae (Zav (i:=7) S.nd rfl (Or.inl rfl) (Zdd M_Bench_offcuts hr (pv 0)))
   (Zae (Zbm (PW.pt (Zfc (Zck (Zb7 (Zao Zbv rfl T.z_isinstance rfl (Zaa (pv 7) (Zaa (Zc1 (v:=.ty "list") rfl T.z_list rfl rfl) Zac))))) (Zfc (Zau (Zlb hr) (pv 7) (pv 2) (nomark _)) (Zer (Zau (Zlb hr) (Zdd M_Bench_areas hr (pv 0)) (pv 3) (nomark _)))))) (Zah (Zat Zjv)) Zaw)
   (Zae (Zbw (Zeg PySem.F.plainAttrs_list PySem.F.slot_list_append PySem.F.type_list_append Za9 (pv 5) (Zaa Zaf Zac)))
   (Zah (Zbw (Zeg PySem.F.plainAttrs_list PySem.F.slot_list_append PySem.F.type_list_append Za9 (pv 7) (Zaa (Zas (Zaa Zaf (Zaa (Zas (Zaa Zaf (Zaa Zaf (Zaa Zaf (Zaa Zaf Zac))))) Zac))) Zac)))))))))))
   (Zah (Zat (Zfi (Zao Zbv rfl T.z_isinstance rfl (Zaa (Zdd M_Bench_areas hr (pv 0)) (Zaa (Zc1 (v:=.ty "tuple") rfl T.z_tuple rfl rfl) Zac))) (Zfg (Zao call_all rfl T.z_all rfl (Zaa (Zef rfl (pi_tup (Zdd M_Bench_areas hr (pv 0))) (fun _ _ _ _ _=>(Zap (i:=0) (show List.Nodup (["_law_number"]:List Str) from by decide +kernel) rfl (Or.inl rfl))) (fun _ _ _ _ _=>(Za2 D__law_whole hr (Zaa (pv 0) Zac))) (N:=["_law_number"]) (fr:=[none])) Zac))))))),?_⟩
  refine ⟨2,rfl,by decide,by decide,Zd3 (lo:=0) (n:=2) (fun i σ H'=>(∃ x4 x5 x6 x7,σ=[some (.ref a),some (.ref tA),some (.ref oA),some (.ref aA),x4,x5,x6,x7])∧SameX tb2 H H'∧TabOk lamQ2 lamN2 tb2 H') ⟨⟨none,none,none,none,rfl⟩,fun _ _ _ e=>e,tab⟩ ?_ ?_⟩
  ·rintro i σ H1 hi ⟨⟨x4,x5,x6,x7,rfl⟩,sx1,tab1⟩
   have is1:=is.n (sx1.toN tbl)
   refine ⟨_,rfl,a,dx,_,rfl,is1.bn.ob,Zcv _ _ (by decide +kernel) (by decide +kernel),a,dx,ls,lt,ss,tn,tr,rfl,is1.bn,tnl,tab1,(fun i t e=>(is1.gr i t e).1),fun l ts H2 sx2 tab2 nl hl tsl each=>?_⟩
   have sN2:=sx2.toN tab1.tbl
   have is2:=is1.n sN2
   have nl1:=nl
   refine ⟨_,rfl,_,"list","list",rfl,ty_lst hl,.inr (.inr (.inr (.inl rfl))),_,rfl,iteN (by decide) ?_⟩
   refine ⟨_,rfl,l,_,rfl,.inl (SqL.of hl),_,rfl,tA,_,rfl,.inl (SqL.of is2.hT),rfl,_,rfl,iteN (by rw [Zal,Zal,tsl,is.tl]; simp) ?_⟩
   refine ⟨_,rfl,tA,_,rfl,.inl (SqL.of is2.hT),_,rfl,by rw [Zal,is.tl]; lia,by rw [Zal,is.tl]; lia,Zd3 (lo:=0) (n:=((refs tk).length:Int).toNat) (fun j σ H'=>(∃ x6,σ=[some (.ref a),some (.ref tA),some (.ref oA),some (.ref aA),some (.int (0+(i:Int))),some (.ref l),x6,x7])∧Same H2 H') ⟨⟨_,rfl⟩,Same.refl H2⟩ ?_ ?_⟩
   ·rintro j σ H3 hj ⟨⟨y6,rfl⟩,s3⟩
    rw [Int.toNat_natCast,Zal] at hj
    have is3:=is2.n s3.n
    obtain ⟨x,hx⟩:∃ x,tk[j]?=some x:=⟨_,List.getElem?_eq_getElem hj⟩
    obtain ⟨t,ht⟩:∃ t,tn[j]?=some t:=⟨_,List.getElem?_eq_getElem (by rw [← is.tl]; exact hj)⟩
    obtain ⟨y,hy⟩:∃ y,ts[j]?=some y:=⟨_,List.getElem?_eq_getElem (by rw [tsl,← is.tl]; exact hj)⟩
    obtain ⟨t1,t2⟩:=is3.tt j x t hx ht
    obtain ⟨y1,y2⟩:=each j y t hy ht
    have y1':=s3 _ _ y1
    have l3:=s3 _ _ hl
    have ay:atI (refs ts) (0+(j:Int))=some (.ref y.1):=by rw [Int.zero_add]; exact Zcw (by unfold refs; rw [List.getElem?_map,hy]; rfl)
    have ax:atI (refs tk) (0+(j:Int))=some (.ref x.1):=by rw [Int.zero_add]; exact Zcw (by unfold refs; rw [List.getElem?_map,hx]; rfl)
    refine ⟨_,rfl,_,rfl,l,_,_,_,rfl,rfl,SqL.of l3,ay,_,"tuple","tuple",rfl,Zkx y1',.inr (.inr (.inl rfl)),_,rfl,iteN (by decide) ?_⟩
    refine ⟨_,rfl,_,rfl,l,_,_,_,rfl,rfl,SqL.of l3,ay,y.1,_,rfl,.inr (SqT.of y1'),rfl,_,rfl,iteN (by simp) ?_⟩
    refine ⟨_,rfl,_,rfl,l,_,_,_,rfl,rfl,SqL.of l3,ay,y.1,_,_,_,rfl,rfl,SqT.of y1',Zch,_,rfl,_,rfl,iteN rfl ?_⟩
    refine ⟨_,rfl,_,rfl,l,_,_,_,rfl,rfl,SqL.of l3,ay,y.1,_,_,_,rfl,rfl,SqT.of y1',Zch,_,rfl,_,rfl,tA,_,_,_,rfl,rfl,SqL.of is3.hT,ax,x.1,_,_,_,rfl,rfl,SqT.of t1,Zch,rfl,_,rfl,iteN (by simp) ?_⟩
    refine ⟨_,rfl,_,rfl,l,_,_,_,rfl,rfl,SqL.of l3,ay,y.1,_,_,_,rfl,rfl,SqT.of y1',Zcj,y.2,tr j,rfl,y2.same s3,(is.gr j t ht).2,fun v4 H4 s4 told4=>?_⟩
    have t4:=t2.same s4
    have D1:DIs K H4 (trD (tr j)) v4:=Zky told4
    have D2:DIs K H4 (trD (tr j)) x.2:=Zky t4
    refine ⟨_,rfl,_,rfl,tA,_,_,_,rfl,rfl,SqL.of (s4 _ _ is3.hT),ax,x.1,_,_,_,rfl,rfl,SqT.of (s4 _ _ t1),Zcj,_,_,D1,D2,Zkz told4,Zkz t4,by have:=Zjh (tr j); have:=(is.gr j t ht).2; lia,_,rfl,iteN (by rw [if_pos rfl,Zcm _ D2]; rfl) ⟨⟨_,rfl⟩,s3.trans s4⟩⟩
   ·rintro σ H3 ⟨⟨y6,rfl⟩,s3⟩
    have is3:=is2.n s3.n
    have l3:=s3 _ _ hl
    refine ⟨_,rfl,a,dx,_,rfl,is3.bn.ob,Zcv _ _ (by decide +kernel) (by decide +kernel),a,dx,ls,lt,ss,tn,rfl,is3.bn,is.bok,is.p1,fun lo us H4 s4 nlo hlo wf pm srt=>?_⟩
    have is4:=is3.n s4.n
    refine ⟨_,rfl,_,"list","list",rfl,ty_lst hlo,.inr (.inr (.inr (.inl rfl))),_,rfl,iteN (by decide) ?_⟩
    have eqL:us.map (fun t:Of1=>t.2.2)=os.map (fun t:Of1=>t.2.2):=by
     refine rise_eq (fun y hy=>is.p1 y (pm.mem_iff.mp hy)) (pm.trans is.po.symm) ?_ ?_
     ·rw [List.map_map]; exact srt
     ·rw [List.map_map]; exact is.ro
    have D1:DIs K H4 (.lst (rowsD (us.map fun t:Of1=>t.2.2))) (.ref lo):=by
     rw [DIs]
     exact ⟨_,_,rfl,SqL.of hlo,Zhc us wf⟩
    have D2:DIs K H4 (.lst (rowsD (us.map fun t:Of1=>t.2.2))) (.ref oA):=by
     rw [DIs,eqL]
     exact ⟨_,_,rfl,SqL.of is4.hO,Zhc os is4.oo⟩
    refine ⟨_,rfl,_,rfl,_,_,D1,D2,⟨_,rfl⟩,⟨_,rfl⟩,by have:=Zib (us.map fun t:Of1=>t.2.2); rw [dep]; lia,_,rfl,iteN (by rw [if_pos rfl,Zcm _ D2]; rfl) ?_⟩
    refine ⟨_,rfl,a,dx,_,rfl,is4.bn.ob,Zcv _ _ (by decide +kernel) (by decide +kernel),a,dx,ls,lt,ss,tn,nz,rfl,is4.bn,is.bok,is.so,is.p1,is.p2,is.n1,is.n2,fun c5 H5 s5 e5=>?_⟩
    have is5:=is4.n s5.n
    have D3:DIs K H5 (.tup (intsD' [(nz.map fun z=>z.2 * z.1).sum,aSum (pnsOf (whs 0 (tn.map fun t=>t.2.2.2.2))),aSum ((offOf (whs 0 (tn.map fun t=>t.2.2.2.2))).map (·.2))])) (.ref c5):=by rw [DIs]; exact ⟨_,_,rfl,SqT.of e5,Zct _⟩
    have D4:DIs K H5 (.tup (intsD' [(nz.map fun z=>z.2 * z.1).sum,aSum (pnsOf (whs 0 (tn.map fun t=>t.2.2.2.2))),aSum ((offOf (whs 0 (tn.map fun t=>t.2.2.2.2))).map (·.2))])) (.ref aA):=by rw [DIs]; exact ⟨_,_,rfl,SqT.of is5.hA,Zct _⟩
    refine ⟨_,rfl,_,_,D3,D4,⟨_,rfl⟩,⟨_,rfl⟩,by rw [dep,Zc8]; lia,_,rfl,iteN (by rw [if_pos rfl,Zcm _ D3]; rfl) ?_⟩
    have s35:=s4.trans s5
    have l5:=s35 _ _ l3
    refine ⟨_,rfl,.inl ⟨rfl,_,SqL.of l5⟩,l,_,_,rfl,rfl,l5,Zaq (by rw [Zal,tsl]; lia),?_⟩
    have lo5:=s5 _ _ hlo
    have nlol:lo≠l:=fun z=>by rw [z,l3] at nlo; cases nlo
    have u6:∀ {y:Addr} {o:HO},y≠l→H5 y=some o→(upd H5 l (.lst (refs ts++[.int 1]))) y=some o:=fun n e=>by rw [Zag n]; exact e
    have lo6:=u6 nlol lo5
    have l6:(upd H5 l (.lst (refs ts++[.int 1]))) l=some (.lst (refs ts++[.int 1])):=upd_same
    have tb6:=TabOk.upd (ys:=refs ts++[.int 1]) ((tab2.same s3).same s35) l5
    generalize hG:upd H5 l (.lst (refs ts++[.int 1]))=H6 at u6 lo6 l6 tb6 ⊢
    refine ⟨_,rfl,.inl ⟨rfl,_,SqL.of lo6⟩,lenOk 4,fun b1 n1=>⟨lenOk 2,fun b2 n2=>?_⟩⟩
    have s7:Same H6 (upd H6 b1 (.tup [.int 0,.int 0,.int 1,.int 1])):=Same.new n1
    generalize upd H6 b1 (.tup [.int 0,.int 0,.int 1,.int 1])=H7 at s7 n2 ⊢
    have s8:Same H7 (upd H7 b2 (.tup [.int 0,.ref b1])):=Same.new n2
    generalize upd H7 b2 (.tup [.int 0,.ref b1])=H8 at s8 ⊢
    have s68:=s7.trans s8
    have lo8:=s68 _ _ lo6
    refine ⟨lo,_,_,rfl,rfl,lo8,Zaq (by rw [Zal]; have h1:=pm.length_eq; rw [List.length_map] at h1; have h2:(offOf (whs 0 (tn.map fun t=>t.2.2.2.2))).length≤(whs 0 (tn.map fun t=>t.2.2.2.2)).length:=List.length_filterMap_le _ _; have h3:=is.bok.2.2; lia),?_⟩
    refine ⟨⟨_,_,_,_,rfl⟩,fun y o n e=>?_,TabOk.upd (tb6.same s68) lo8⟩
    have e1:=sx1 y o n e
    have e2:=sx2 y o n e1
    have e3:=s3 _ _ e2
    have e5':=s35 _ _ e3
    have yl:y≠l:=Zad e1 nl
    have ylo:y≠lo:=Zad e3 nlo
    rw [Zag ylo]
    exact s68 _ _ (u6 yl e5')
  ·rintro σ H1 ⟨⟨x4,x5,x6,x7,rfl⟩,sx1,tab1⟩
   have is1:=is.n (sx1.toN tbl)
   refine ⟨_,rfl,a,dx,_,rfl,is1.bn.ob,Zcv _ _ (by decide +kernel) (by decide +kernel),a,dx,ls,lt,ss,tn,nz,rfl,is1.bn,is.bok,is.so,is.p1,is.p2,is.n1,is.n2,fun c2 H2 s2 e2=>?_⟩
   have is2:=is1.n s2.n
   refine ⟨_,"tuple","tuple",rfl,Zkx e2,.inr (.inr (.inl rfl)),_,rfl,iteP (by decide) ?_⟩
   refine ⟨_,rfl,a,dx,_,rfl,is2.bn.ob,Zcv _ _ (by decide +kernel) (by decide +kernel),a,dx,ls,lt,ss,tn,nz,rfl,is2.bn,is.bok,is.so,is.p1,is.p2,is.n1,is.n2,fun c3 H3 s3 e3=>?_⟩
   generalize (nz.map fun z=>z.2 * z.1).sum=A1 at e3
   generalize aSum (pnsOf (whs 0 (tn.map fun t=>t.2.2.2.2)))=A2 at e3
   generalize aSum ((offOf (whs 0 (tn.map fun t=>t.2.2.2.2))).map (·.2))=A3 at e3
   refine ⟨c3,rfl,⟨_,SqT.of e3⟩,fun acc hacc=>comp_tup (K:=K) (a:=c3) (ys:=[.int A1,.int A2,.int A3]) (fun i zs σ H'=>(∃ y,σ=[y])∧Same H3 H'∧zs=List.replicate i (V.bl true)) ⟨⟨none,rfl⟩,Same.new hacc,rfl⟩ (fun i zs σ H' _ _ hp=>SqT.of (hp.2.1 _ _ e3)) ?_ ?_⟩
   ·rintro i v zs σ H' hx hi hl' hacc' ⟨⟨x0,rfl⟩,hs,rfl⟩
    obtain ⟨k,rfl⟩:∃ k,v=.int k:=by
     match i,hx with
     | 0,hx=>cases hx; exact ⟨_,rfl⟩
     | 1,hx=>cases hx; exact ⟨_,rfl⟩
     | 2,hx=>cases hx; exact ⟨_,rfl⟩
    refine ⟨_,rfl,k,rfl,?_⟩
    refine cNx.mk (Nat.le_of_lt (Zaq (show 3≤1000 by decide))) hi hl' hacc' ⟨⟨_,rfl⟩,fun d o e=>by rw [Zag (Zad e hacc)]; exact hs d o e,by rw [List.replicate_succ']⟩
   ·rintro zs σ H4 hl' hacc' ⟨_,s4,rfl⟩
    refine ⟨acc,[true,true,true],rfl,SqL.of hacc',rfl,?_⟩
    exact q H4 (sx1.trans (s2.trans (s3.trans s4)).x) (((tab1.same s2).same s3).same s4)
theorem dueO_pk {W T:Int} {z:Int × Int} (z1:1≤z.1) (zW:z.1≤W) (W12:W≤12) (z2:1≤z.2) (zT:z.2≤T) (T12:T≤12):∀ y∈dueO W T z,PcOk y.2:=fun y hm=>by
 unfold dueO dueO1 at hm
 rcases List.mem_append.mp hm with hm | hm
 ·split at hm
  ·rw [List.mem_singleton.mp hm]; exact ⟨by show 0≤z.2; lia,by show z.2 < T; lia,T12,by show (0:Int)≤0; lia,by show 0 < z.1; lia,by show z.1≤12; lia⟩
  ·cases hm
 ·split at hm
  ·rw [List.mem_singleton.mp hm]; exact ⟨by show (0:Int)≤0; lia,by show 0 < T; lia,T12,by show 0≤z.1; lia,by show z.1 < W; lia,W12⟩
  ·cases hm
theorem dueO_ar {W T:Int} {z:Int × Int} (zW:z.1≤W) (zT:z.2≤T):aSum ((dueO W T z).map (·.2))=W * T - z.1 * z.2:=by
 have e1:aSum ((dueO1 T z).map (·.2))=(T - z.2) * z.1:=by
  unfold dueO1
  split
  ·show (T - z.2) * (z.1 - 0)+0=_
   rw [Int.sub_zero,Int.add_zero]
  ·have:T - z.2=0:=by lia
   rw [this,Int.zero_mul]; rfl
 have e2:aSum ((if z.1 < W then [((0:Int),(⟨0,z.1,T,W⟩:Rk))] else []).map (·.2))=T * (W - z.1):=by
  split
  ·show (T - 0) * (W - z.1)+0=_
   rw [Int.sub_zero,Int.add_zero]
  ·have:W - z.1=0:=by lia
   rw [this,Int.mul_zero]; rfl
 unfold dueO
 rw [List.map_append]
 unfold aSum at e1 e2 ⊢
 rw [List.map_append,List.sum_append,e1,e2,Int.sub_mul,Int.mul_sub,Int.mul_comm T W,Int.mul_comm z.2 z.1]
 lia
theorem oneK_len {W T:Int} {z:Int × Int}:(oneK W T z).length≤6:=by
 have h1:=Zdw (cutB [((⟨0,0,T,W⟩:Rk),En.w none)] ⟨0,0,T,W⟩ z).1 (cutB [((⟨0,0,T,W⟩:Rk),En.w none)] ⟨0,0,T,W⟩ z).2 (.w (some 0))
 have h2:=cutS_len (u:=false) (k:=z.2) (s:=cutS true z.1 ([((⟨0,0,T,W⟩:Rk),En.w none)],⟨0,0,T,W⟩))
 have h3:=cutS_len (u:=true) (k:=z.1) (s:=([((⟨0,0,T,W⟩:Rk),En.w none)],⟨0,0,T,W⟩))
 have h4:([((⟨0,0,T,W⟩:Rk),En.w none)]).length=1:=rfl
 unfold oneK cutE
 unfold cutB at h1 ⊢
 simp only [] at h3
 lia
theorem whs_one (kv:KV):(whs 0 [kv]).length≤kv.length:=by
 show (wh1 0 kv++[]).length≤_
 rw [List.append_nil]
 exact List.length_filterMap_le _ _
theorem dueT_dp (W T:Int) (z:Int × Int):(dueT W T z).dp < 3∧(dueT W T z).nd≤400:=by
 unfold dueT dueT1
 split <;> split <;> simp [Tr.dp,Tr.nd]
def zsD:List (Int × Int)→Ds
 | []=>.nil
 | z :: r=>.cons (.tup (intsD' [z.1,z.2])) (zsD r)
theorem zsD_is {K:PySem.W.Frag} {H:Hp}:∀ (ts:List (Addr × Int × Int)),(∀ t∈ts,H t.1=some (.tup [.int t.2.1,.int t.2.2]))→DIss K H (zsD (ts.map (·.2))) (refs ts)
 | [],_=>by show DIss K H .nil []; rw [DIss]
 | t :: r,h=>by
  show DIss K H (.cons (.tup (intsD' [t.2.1,t.2.2])) (zsD (r.map (·.2)))) (.ref t.1 :: refs r)
  rw [DIss]
  refine ⟨_,_,rfl,?_,zsD_is r fun u hu=>h u (List.mem_cons_of_mem _ hu)⟩
  rw [DIs]
  exact ⟨_,_,rfl,SqT.of (h t List.mem_cons_self),Zct [t.2.1,t.2.2]⟩
theorem zsD_dep:∀ (L:List (Int × Int)),deps (zsD L)≤4
 | []=>by rw [zsD,deps]; lia
 | y :: r=>by
  have:=zsD_dep r
  rw [zsD,deps,dep,Zc8]; lia
theorem TabOk.samex {pos:Pos} {qual:Str} {T l:Addr} {H H':Hp} {xs:List V} (h:TabOk pos qual T H) (s:SameX l H H') (hl:H l=some (.lst xs)):TabOk pos qual T H':=by
 obtain ⟨ps,e,t,c⟩:=h
 refine ⟨ps,s _ _ (fun z=>by rw [z,hl] at e; cases e) e,t,?_⟩
 rcases c with c | ⟨c',c1,c2⟩
 ·exact .inl c
 ·exact .inr ⟨c',c1,s _ _ (fun z=>by rw [z,hl] at c2; cases c2) c2⟩
theorem is_none {C a dx ls lt tA oA aA:Addr} {H:Hp} {ss:List (Addr × Int × Int)} (bn:BnAt C a dx ls lt H ss []) (so:∀ t∈ss,SOk t.2) (hT:H tA=some (.lst [])) (hO:H oA=some (.lst [])) (hA:H aA=some (.tup [.int 0,.int 0,.int 0])):IsAt C a dx ls lt tA oA aA H ss [] (fun _=>.whole none) [] [] [] :=
 ⟨bn,⟨Nat.zero_le _,(fun t ht=>nomatch ht),Nat.zero_le _⟩,(fun i t e=>by cases e),hT,rfl,(fun i x t e=>by cases e),hO,(fun t ht=>nomatch ht),List.Perm.refl _,List.Pairwise.nil,so,(fun y hy=>nomatch hy),(fun y hy=>nomatch hy),(fun i t e=>by cases e),rfl,hA⟩
theorem is_one {C a dx ls lt tA oA aA x:Addr} {v:V} {H:Hp} {ss:List (Addr × Int × Int)} {tA' dA:Addr} {k:Nat} {kvs:List (List Key × V)} {u:Addr × Int × Int} {z:Int × Int} {os:List Of1} (hu:ss[k]?=some u) (bn:BnAt C a dx ls lt H ss [(tA',(k:Int),dA,kvs,oneK u.2.1 u.2.2 z)]) (so:∀ t∈ss,SOk t.2) (z1:1≤z.1) (zW:z.1≤u.2.1) (z2:1≤z.2) (zT:z.2≤u.2.2)
  (hT:H tA=some (.lst [.ref x])) (hx:H x=some (.tup [.int k,v])) (tv:Told H (dueT u.2.1 u.2.2 z) v) (hO:H oA=some (.lst (refs os))) (oo:∀ t∈os,OfAt H t) (po:(os.map fun t:Of1=>t.2.2).Perm (dueO u.2.1 u.2.2 z)) (ro:(os.map fun t:Of1=>keyO t.2.2).Pairwise (·≤·))
  (hA:H aA=some (.tup [.int (u.2.1 * u.2.2),.int (z.1 * z.2),.int (u.2.1 * u.2.2 - z.1 * z.2)])):IsAt C a dx ls lt tA oA aA H ss [(tA',(k:Int),dA,kvs,oneK u.2.1 u.2.2 z)] (fun _=>dueT u.2.1 u.2.2 z) [(x,v)] os [u.2]:=by
 obtain ⟨w1,w2,h1,h2⟩:=so u (List.mem_of_getElem? hu)
 have on:=one_ok (W:=u.2.1) (T:=u.2.2) z1 zW z2 zT
 have one1:∀ {β:Type} {b:β} {i:Nat} {t:β},[b][i]?=some t→i=0∧t=b:=fun {β b i t} e=>by
  cases i with
  | zero=>cases e; exact ⟨rfl,rfl⟩
  | succ i=>cases e
 have l6:=oneK_len (W:=u.2.1) (T:=u.2.2) (z:=z)
 have wl:=whs_one (oneK u.2.1 u.2.2 z)
 refine ⟨bn,⟨show 1≤100 by decide,fun t ht=>by rw [List.mem_singleton.mp ht]; show (oneK u.2.1 u.2.2 z).length≤250; lia,by show (whs 0 [oneK u.2.1 u.2.2 z]).length≤60; lia⟩,fun i t e=>?_,hT,rfl,fun i y t e f=>?_,hO,oo,po.trans on.off.symm,ro,so,fun y hy=>dueO_pk z1 zW w2 z2 zT h2 y (on.off.mem_iff.mp hy),fun y hy=>?_,fun i t e=>?_,rfl,?_⟩
 ·obtain ⟨rfl,rfl⟩:=one1 e
  obtain ⟨g1,g2,g3⟩:=bn.tks _ (List.mem_singleton.mpr rfl)
  exact ⟨⟨by show (0:Int)≤(k:Int); lia,u,hu,_,_,fun q hq=>KvAt.val g3 hq,on.grow,(dueT_dp _ _ _).2⟩,(dueT_dp _ _ _).1⟩
 ·obtain ⟨rfl,rfl⟩:=one1 e
  obtain ⟨_,rfl⟩:=one1 f
  exact ⟨hx,tv⟩
 ·have hy:y∈pnsOf (whs 0 [oneK u.2.1 u.2.2 z]):=hy
  rw [on.pane] at hy
  rw [List.mem_singleton.mp hy]
  exact ⟨Int.le_refl _,show (0:Int) < z.2 by lia,show z.2≤12 by lia,Int.le_refl _,show (0:Int) < z.1 by lia,show z.1≤12 by lia⟩
 ·obtain ⟨rfl,rfl⟩:=one1 e
  exact ⟨by show (0:Int)≤(k:Int); lia,u.2,rfl,by show (ss.map (·.2))[k]?=_; rw [List.getElem?_map,hu]; rfl⟩
 ·have e1:([u.2].map fun z=>z.2 * z.1).sum=u.2.1 * u.2.2:=by show u.2.2 * u.2.1+0=_; rw [Int.add_zero,Int.mul_comm]
  have e2:aSum (pnsOf (whs 0 [oneK u.2.1 u.2.2 z]))=z.1 * z.2:=by
   rw [on.pane]
   show (z.2 - 0) * (z.1 - 0)+0=_
   rw [Int.add_zero,Int.sub_zero,Int.sub_zero,Int.mul_comm]
  have e3:aSum ((offOf (whs 0 [oneK u.2.1 u.2.2 z])).map (·.2))=u.2.1 * u.2.2 - z.1 * z.2:=by
   rw [← dueO_ar zW zT]
   exact Zk7 ((on.off.map (·.2)).map arR)
  show H aA=some (.tup ([([u.2].map fun z=>z.2 * z.1).sum,aSum (pnsOf (whs 0 [oneK u.2.1 u.2.2 z])),aSum ((offOf (whs 0 [oneK u.2.1 u.2.2 z])).map (·.2))].map V.int))
  rw [e1,e2,e3]
  exact hA
theorem least_one {t:Want} {us:List (Addr × Int × Int)} {zs:List (Int × Int)} {k k0:Nat} {u:Addr × Int × Int} (eu:us.map (fun t=>t.2)=zs) (l4:us.length≤4) (hu:us[k]?=some u) (hd:hld t (shR u.2)) (least:∀ (k':Nat) (u':Addr × Int × Int),us[k']?=some u'→hld t (shR u'.2)→key2 [arR (shR u.2),k]≤key2 [arR (shR u'.2),k']) (ls:Lst t zs zs.length (some k0)):k0=k:=by
 obtain ⟨kl,z0,hz0,h0,mn⟩:=ls
 rw [← eu,List.getElem?_map] at hz0
 obtain ⟨u0,hu0,rfl⟩:=Option.map_eq_some_iff.mp hz0
 have a1:=least k0 u0 hu0 (hld_sh.mpr h0)
 have hk:=(List.getElem?_eq_some_iff.mp hu).1
 have hk0:=(List.getElem?_eq_some_iff.mp hu0).1
 have a2:=mn k u.2 (by rw [← eu,List.length_map]; exact hk) (by rw [← eu,List.getElem?_map,hu]; rfl) (hld_sh.mp hd)
 rw [ar_sh,ar_sh] at a1
 simp only [key2] at a1
 generalize u0.2.1 * u0.2.2=A at a1 a2
 generalize u.2.1 * u.2.2=B at a1 a2
 lia
abbrev N_law:List Str:=["_law_script","_law_sheets","_law_k","_law_cell_here","_law_handed","_law_bench","_law_width","_law_height","_law_short","_law_flip","_law_told_here","_law_at","_law_wide","_law_high","_law_tree","_law_offcuts","_law_full"]
theorem S_law:Zan N_law ["_law_script"] (Zab Zdc):=⟨rfl,rfl,rfl,by decide +kernel,rfl,by decide +kernel,by decide +kernel⟩
def sp_law (tb2:Addr) (K:PySem.W.Frag):Sp:=fun vs H Q _=>∃ (a:Addr) (ns:List Int),vs=[.ref a]∧SqL K H a (ns.map V.int)∧ns.length≤63∧H tb2=some (.tbl #[])∧∀ H',Q (.bl true) H'
theorem ok_law {f tb2:Addr} {fd:FuncData} {C:Addr} (F:Fun K "law" "law" Zdc f fd) (T:Txt mg tk) (K_Bench:MkOk P w K mg base 5 "Bench" C ["self","sheets"] (Zhb C)) (D__law_cell:DefOk P w K mg base 1 "_law_cell" ["_law_script","_law_k"] (Zjn K)) (D__law_draw:DefOk P w K mg base 1 "_law_draw" ["_law_cell_here","_law_nth","_law_many"] Zjm) (D__law_asked:DefOk P w K mg base 6 "_law_asked" ["_law_bench","_law_width","_law_height","_law_flip","_law_way"] (Zjk C)) (D__law_sheet:DefOk P w K mg base 2 "_law_sheet" ["_law_sheets","_law_width","_law_height","_law_flip"] Zfb) (D__law_held:DefOk P w K mg base 1 "_law_held" ["_law_size","_law_width","_law_height","_law_flip"] Ze4) (D__law_due:DefOk P w K mg base 1 "_law_due" ["_law_size","_law_wide","_law_high"] Zjj) (D__law_is:DefOk P w K mg base 7 "_law_is" ["_law_bench","_law_taken","_law_offcuts","_law_areas"] (Zk2 tb2 C)) :
  FnOk P w K mg base CX0 8 f fd ["_law_script"] (sp_law tb2 K):=by
 have S:=S_law
 refine F.ok S (fun vs H Q E h=>?_) (fun cdv A outer s H vs Q E hr h=>?_)
 ·obtain ⟨a,ns,rfl,_⟩:=h; rfl
 ·obtain ⟨a,ns,rfl,hS0,hlen,htb,q⟩:=h
  obtain ⟨tE,hE,kE⟩:∃ rd,PSs (cxOf CX0 P w K mg base N_law "law" (Zab Zdc) f cdv A outer s H E).nox ((Zai Zdc).drop 14) rd∧∀ (sh a0 dx ls lt:Addr) (ts us:List (Addr × Int × Int)) (v u:Addr × Int × Int) (t:Want) (k:Nat) (x2 x3 x4 x8:Option V) (z:Int × Int) (rest:List (Int × Int)) (tA dA r b:Addr) (kvs:List (List Key × V)) (H1:Hp),
    H1 sh=some (.lst (refs ts))→(∀ t∈ts,H1 t.1=some (.tup [.int t.2.1,.int t.2.2]))→ts[k]?=some v→us[k]?=some u→v.2=u.2→(∀ t∈us,SOk t.2)→WOk t→heldW t u.2.1 u.2.2=z :: rest→BnAt C a0 dx ls lt H1 us [(tA,(k:Int),dA,kvs,oneK u.2.1 u.2.2 z)]→H1 r=some (.tup [.int 0,.ref b])→H1 b=some (.tup (Rk.vs ⟨0,0,z.2,z.1⟩))→TabOk lamQ2 lamN2 tb2 H1 →
    rd { nx:=fun _ H'=>Q .non H',rt:=Q } [some (.ref a),some (.ref sh),x2,x3,x4,some (.ref a0),some (.int t.1),some (.int t.2.1),x8,some (.bl t.2.2),some (.ref r),some (.int k),none,none,none,none,none] H1:=by
   refine ⟨_,(Zae (ps_asg (Za2 D__law_held hr (Zaa (Zam Za8 (pv 1) (pv 11) (fun _ _=>rfl)) (Zaa (pv 6) (Zaa (pv 7) (Zaa (pv 9) Zac))))) (Zff rfl (Zar (Zap (i:=12) S.nd rfl (Or.inl rfl)) (Zar (Zap (i:=13) S.nd rfl (Or.inl rfl)) Zbx))))
   (Zae (Zbm (PW.pt (Zfc (Zck (Zb7 (Zao Zbv rfl T.z_isinstance rfl (Zaa (pv 10) (Zaa (Zc1 (v:=.ty "tuple") rfl T.z_tuple rfl rfl) Zac))))) (Zer (Zau (Zlb hr) (pv 10) (Zas (Zaa Zaf (Zaa (Zas (Zaa Zaf (Zaa Zaf (Zaa (pv 13) (Zaa (pv 12) Zac))))) Zac))) (nomark _))))) (Zah (Zat Zjv)) Zaw)
   (Zae (ps_asg (Za2 D__law_due hr (Zaa (Zam Za8 (pv 1) (pv 11) (fun _ _=>rfl)) (Zaa (pv 12) (Zaa (pv 13) Zac)))) (Zff rfl (Zar (Zap (i:=14) S.nd rfl (Or.inl rfl)) (Zar (Zap (i:=15) S.nd rfl (Or.inl rfl)) Zbx))))
   (Zae (Zav (i:=16) S.nd rfl (Or.inl rfl) (Za7 Zc2 (Zam Zaj (Zam Za8 (pv 1) (pv 11) (fun _ _=>rfl)) Zaf (fun _ _=>rfl)) (Zam Zaj (Zam Za8 (pv 1) (pv 11) (fun _ _=>rfl)) Zaf (fun _ _=>rfl))))
   (Zah (Zat (Za2 D__law_is hr (Zaa (pv 5) (Zaa (Zcy (Zaa (Zas (Zaa (pv 11) (Zaa (pv 14) Zac))) Zac)) (Zaa (pv 15) (Zaa (Zas (Zaa (pv 16) (Zaa (Za7 Zc2 (pv 12) (pv 13)) (Zaa (Za7 Zgo (pv 16) (Za7 Zc2 (pv 12) (pv 13))) Zac)))) Zac))))))))))),?_⟩
   intro sh a0 dx ls lt ts us v u t k x2 x3 x4 x8 z rest tA dA r b kvs H1 hsh hts hv hu evu so wok hz bn hr1 hb1 tab
   have vm:=hts v (List.mem_of_getElem? hv)
   have av:atI (refs ts) (k:Int)=some (.ref v.1):=Zcw (by unfold refs; rw [List.getElem?_map,hv]; rfl)
   rw [evu] at vm
   obtain ⟨z1,z2,zW,zT⟩:=held_in wok hz
   obtain ⟨w1,w2,h1,h2⟩:=so u (List.mem_of_getElem? hu)
   have mz:IntMulOk z.1 z.2:=mul64 (by lia) (by lia) (by lia) (by lia)
   have mu:IntMulOk u.2.1 u.2.2:=mul64 (by lia) (by lia) (by lia) (by lia)
   refine ⟨_,rfl,_,rfl,sh,_,_,_,rfl,rfl,SqL.of hsh,av,_,rfl,_,rfl,_,rfl,v.1,u.2.1,u.2.2,t,rfl,vm,(fun e=>by rw [hz] at e; cases e),fun z' r' ez c nc=>?_⟩
   rw [hz] at ez
   cases ez
   have s2:Same H1 (upd H1 c (.tup [.int z.1,.int z.2])):=Same.new nc
   have e2:(upd H1 c (.tup [.int z.1,.int z.2])) c=some (.tup [.int z.1,.int z.2]):=upd_same
   generalize upd H1 c (.tup [.int z.1,.int z.2])=H2 at s2 e2 ⊢
   refine ⟨c,_,rfl,SqT.of e2,rfl,_,_,rfl,_,_,rfl,rfl,?_⟩
   have hr2:=s2 _ _ hr1
   refine ⟨_,rfl,_,"tuple","tuple",rfl,Zkx hr2,.inr (.inr (.inl rfl)),_,rfl,iteN (by decide) ?_⟩
   refine ⟨_,rfl,_,rfl,_,rfl,lenOk 4,fun b3 n3=>⟨lenOk 2,fun b4 n4=>?_⟩⟩
   have s3:Same H2 (upd H2 b3 (.tup [.int 0,.int 0,.int z.2,.int z.1])):=Same.new n3
   have e3:(upd H2 b3 (.tup [.int 0,.int 0,.int z.2,.int z.1])) b3=some (.tup [.int 0,.int 0,.int z.2,.int z.1]):=upd_same
   generalize upd H2 b3 (.tup [.int 0,.int 0,.int z.2,.int z.1])=H3 at s3 e3 n4 ⊢
   have s4:Same H3 (upd H3 b4 (.tup [.int 0,.ref b3])):=Same.new n4
   have e4:(upd H3 b4 (.tup [.int 0,.ref b3])) b4=some (.tup [.int 0,.ref b3]):=upd_same
   generalize upd H3 b4 (.tup [.int 0,.ref b3])=H4 at s4 e4 ⊢
   have s24:=s3.trans s4
   have s14:=s2.trans s24
   have D1:DIs K H4 (rowD (0,⟨0,0,z.2,z.1⟩)) (.ref r):=Zjq (t:=(r,b,0,⟨0,0,z.2,z.1⟩)) ⟨s14 _ _ hr1,s14 _ _ hb1⟩
   have D2:DIs K H4 (rowD (0,⟨0,0,z.2,z.1⟩)) (.ref b4):=Zjq (t:=(b4,b3,0,⟨0,0,z.2,z.1⟩)) ⟨e4,s4 _ _ e3⟩
   refine ⟨_,_,D1,D2,⟨_,rfl⟩,⟨_,rfl⟩,Nat.le_trans (Zk4 _) (by decide),_,rfl,iteN (by rw [if_pos rfl,Zcm _ D2]; rfl) ?_⟩
   have hsh4:=s14 _ _ hsh
   have vm4:=s14 _ _ vm
   refine ⟨_,rfl,_,rfl,sh,_,_,_,rfl,rfl,SqL.of hsh4,av,_,rfl,_,rfl,v.1,u.2.1,u.2.2,z,rfl,vm4,by lia,zW,w2,by lia,zT,h2,fun c5 v5 l5 os H5 s5 e5 told5 hl5 oo5 po ro=>?_⟩
   have hsh5:=s5 _ _ hsh4
   have vm5:=s5 _ _ vm4
   refine ⟨c5,_,rfl,SqT.of e5,rfl,_,_,rfl,_,_,rfl,rfl,?_⟩
   refine ⟨_,rfl,_,rfl,sh,_,_,_,rfl,rfl,SqL.of hsh5,av,v.1,_,_,_,rfl,rfl,SqT.of vm5,Zch,_,rfl,_,rfl,sh,_,_,_,rfl,rfl,SqL.of hsh5,av,v.1,_,_,_,rfl,rfl,SqT.of vm5,Zcj,_,_,rfl,rfl,mu,?_⟩
   refine ⟨_,rfl,_,rfl,_,rfl,lenOk 2,fun p6 n6=>⟨lenOk 1,fun t7 n7=>?_⟩⟩
   have s6:Same H5 (upd H5 p6 (.tup [.int k,v5])):=Same.new n6
   have e6:(upd H5 p6 (.tup [.int k,v5])) p6=some (.tup [.int k,v5]):=upd_same
   generalize upd H5 p6 (.tup [.int k,v5])=H6 at s6 e6 n7 ⊢
   have s7:Same H6 (upd H6 t7 (.lst [.ref p6])):=Same.new n7
   have e7:(upd H6 t7 (.lst [.ref p6])) t7=some (.lst [.ref p6]):=upd_same
   generalize upd H6 t7 (.lst [.ref p6])=H7 at s7 e7 ⊢
   refine ⟨_,rfl,_,rfl,_,rfl,_,rfl,_,_,rfl,rfl,mz,_,rfl,_,rfl,_,rfl,_,_,rfl,rfl,mz,_,_,rfl,rfl,lenOk 3,fun a8 n8=>?_⟩
   have s8:Same H7 (upd H7 a8 (.tup [.int (u.2.1 * u.2.2),.int (z.1 * z.2),.int (u.2.1 * u.2.2 - z.1 * z.2)])):=Same.new n8
   have e8:(upd H7 a8 (.tup [.int (u.2.1 * u.2.2),.int (z.1 * z.2),.int (u.2.1 * u.2.2 - z.1 * z.2)])) a8=some (.tup [.int (u.2.1 * u.2.2),.int (z.1 * z.2),.int (u.2.1 * u.2.2 - z.1 * z.2)]):=upd_same
   show Zk2 tb2 C [.ref a0,.ref t7,.ref l5,.ref a8] (upd H7 a8 (.tup [.int (u.2.1 * u.2.2),.int (z.1 * z.2),.int (u.2.1 * u.2.2 - z.1 * z.2)])) _ E
   generalize upd H7 a8 (.tup [.int (u.2.1 * u.2.2),.int (z.1 * z.2),.int (u.2.1 * u.2.2 - z.1 * z.2)])=H8 at s8 e8 ⊢
   have s58:=s6.trans (s7.trans s8)
   have s18:=s14.trans (s5.trans s58)
   exact ⟨a0,dx,ls,lt,t7,l5,a8,us,_,_,_,os,_,rfl,is_one hu (bn.same s18) so (by lia) zW (by lia) zT (s8 _ _ e7) (s7.trans s8 _ _ e6) (told5.same s58) (s58 _ _ hl5) (fun t ht=>(oo5 t ht).tups fun _ _ e=>s58 _ _ e) po ro e8,tab.same s18,fun H9 _ _=>q H9⟩
  obtain ⟨tD,hD,kD⟩:∃ rd,PSs (cxOf CX0 P w K mg base N_law "law" (Zab Zdc) f cdv A outer s H E).nox ((Zai Zdc).drop 10) rd∧∀ (sh l a0 dx ls lt:Addr) (ts us:List (Addr × Int × Int)) (t:Want) (short:Bool) (x2 x3:Option V) (H1:Hp),SameN H H1→H l=none →
    H1 sh=some (.lst (refs ts))→(∀ t∈ts,H1 t.1=some (.tup [.int t.2.1,.int t.2.2]))→H1 l=some (.lst (refs ts))→sh≠l→l≠ls→l≠lt→sh≠lt→us.map (fun t:Addr × Int × Int=>t.2)=ts.map (fun t=>t.2)→ts.length≤4→(∀ t∈us,SOk t.2)→WOk t→(short=true→t.2.2=false)→BnAt C a0 dx ls lt H1 us []→TabOk lamQ2 lamN2 tb2 H1 →
    rd { nx:=fun _ H'=>Q .non H',rt:=Q } [some (.ref a),some (.ref sh),x2,x3,some (.ref l),some (.ref a0),some (.int t.1),some (.int t.2.1),some (.bl short),some (.bl t.2.2),none,none,none,none,none,none,none] H1:=by
   refine ⟨_,(Zae (Zbw (Zeg PySem.F.plainAttrs_list PySem.F.slot_list_append PySem.F.type_list_append Za9 (pv 4) (Zaa (Zas (Zaa Zaf (Zaa Zaf Zac))) Zac)))
   (Zae (Zav (i:=10) S.nd rfl (Or.inl rfl) (Za2 D__law_asked hr (Zaa (pv 5) (Zaa (pv 6) (Zaa (pv 7) (Zaa (pv 9) (Zaa (Za7 Zc2 (Zif call_int1 rfl T.z_int rfl (Zaa (Zk9 (pv 8)) Zac)) (Za7 Zcs Zaf (Za7 Zde (Za7 Ze7 (Za2 D__law_cell hr (Zaa (pv 0) (Zaa Zaf Zac))) Zaf) Zaf))) Zac)))))))
   (Zae (Zav (i:=11) S.nd rfl (Or.inl rfl) (Za2 D__law_sheet hr (Zaa (pv 1) (Zaa (pv 6) (Zaa (pv 7) (Zaa (pv 9) Zac))))))
   (Zae (Zbm (Zau Zih (pv 11) Zb8 (nomark _)) (Zah (Zat (Zfi (Zfh (op_eqD hr) (pv 10) (Zas (Zaa Zdo (Zaa (pv 6) (Zaa (pv 7) Zac)))) (nomark _)) (Zfg (Za2 D__law_is hr (Zaa (pv 5) (Zaa (Zcy Zac) (Zaa (Zcy Zac) (Zaa (Zas (Zaa Zaf (Zaa Zaf (Zaa Zaf Zac)))) Zac))))))))) Zaw)
   hE)))),?_⟩
   intro sh l a0 dx ls lt ts us t short x2 x3 H1 sN0 nl0 hsh hts hl nsl nlls nllt nshlt eu l4 so wok hsf bn tab
   have ul:us.length=ts.length:=by have:=congrArg List.length eu; rwa [List.length_map,List.length_map] at this
   refine ⟨_,rfl,.inl ⟨rfl,_,SqL.of hl⟩,lenOk 2,fun p2 n2=>?_⟩
   have s2:Same H1 (upd H1 p2 (.tup [.int 12,.int 12])):=Same.new n2
   generalize upd H1 p2 (.tup [.int 12,.int 12])=H2 at s2 ⊢
   have hl2:=s2 _ _ hl
   refine ⟨l,_,_,rfl,rfl,hl2,Zaq (by rw [Zal]; lia),?_⟩
   have sx3:SameX l H2 (upd H2 l (.lst (refs ts++[.ref p2]))):=SameX.upd
   have tb3:=TabOk.upd (ys:=refs ts++[.ref p2]) (tab.same s2) hl2
   generalize upd H2 l (.lst (refs ts++[.ref p2]))=H3 at sx3 tb3 ⊢
   have tp3:∀ x xs,H1 x=some (.tup xs)→H3 x=some (.tup xs):=fun x xs e=>sx3 _ _ (fun z=>by rw [z,hl] at e; cases e) (s2 _ _ e)
   have bn3:BnAt C a0 dx ls lt H3 us []:=⟨sx3 _ _ (fun z=>by have:=bn.ob; rw [z,hl] at this; cases this) (s2 _ _ bn.ob),sx3 _ _ (Ne.symm nlls) (s2 _ _ bn.lst),fun t ht=>tp3 _ _ (bn.stk t ht),sx3 _ _ (Ne.symm nllt) (s2 _ _ bn.tak),(fun t ht=>nomatch ht),bn.dis⟩
   have hsh3:=sx3 _ _ nsl (s2 _ _ hsh)
   have hts3:∀ t∈ts,H3 t.1=some (.tup [.int t.2.1,.int t.2.2]):=fun t ht=>tp3 _ _ (hts t ht)
   have hS3:SqL K H3 a (ns.map V.int):=SameN.seq (fun x o e no=>sx3 _ _ (Zad e nl0) (s2 _ _ (sN0 x o e no))) hS0
   have tsO:∀ t∈ts,SOk t.2:=fun t ht=>by
    have:t.2∈us.map (fun t:Addr × Int × Int=>t.2):=by rw [eu]; exact List.mem_map.mpr ⟨t,ht,rfl⟩
    obtain ⟨u,hu,e⟩:=List.mem_map.mp this
    rw [← e]; exact so u hu
   refine ⟨_,rfl,_,rfl,_,rfl,_,rfl,_,rfl,short,rfl,.inr ⟨_,rfl,_,rfl,a,ns,7,rfl,hS3,by decide,fun zc=>⟨_,_,rfl,rfl,divL _ (by decide) (by decide),_,_,rfl,rfl,(show (0:Int) < 2 from by decide),_,_,rfl,rfl,_,_,rfl,rfl,?_⟩⟩⟩
   have c0:=Int.emod_nonneg (zc / 24) (b:=2) (by decide)
   have c1:=Int.emod_lt_of_pos (zc / 24) (b:=2) (by decide)
   refine ⟨?_,?_⟩
   ·cases short
    ·exact mul64 (by show _ < (1:Int); decide) (by show (1:Int) < _; decide) (by lia) (by lia)
    ·exact mul64 (by show _ < (0:Int); decide) (by show (0:Int) < _; decide) (by lia) (by lia)
   refine ⟨a0,dx,ls,lt,us,t,_,rfl,?_,bn3,by lia,so,wok,?_,?_⟩
   ·intro e
    cases short
    ·have e:(1:Int) * (1+zc / 24 % 2)=0:=e
     lia
    ·exact hsf rfl
   ·intro k u hu hd least z rest tA dA kvs r b H4 ndA hz sx4 bn4 hr4 hb4
    have hz':heldW t u.2.1 u.2.2=z :: rest:=by
     have:heldW t (u.2.1 - 0) (u.2.2 - 0)=z :: rest:=hz
     rwa [Int.sub_zero,Int.sub_zero] at this
    have lt3:=bn3.tak
    have hsh4:=sx4 _ _ nshlt hsh3
    have hts4:∀ t∈ts,H4 t.1=some (.tup [.int t.2.1,.int t.2.2]):=fun t ht=>sx4 _ _ (fun z=>by have:=hts3 t ht; rw [z,lt3] at this; cases this) (hts3 t ht)
    have tb4:TabOk lamQ2 lamN2 tb2 H4:=TabOk.samex tb3 sx4 lt3
    refine ⟨_,rfl,_,rfl,_,rfl,_,rfl,sh,ts,t,rfl,hsh4,hts4,l4,tsO,fun o H5 s5 lst=>?_⟩
    cases o with
    | none=>exact absurd (lst k u.2 (by rw [← ul]; exact (List.getElem?_eq_some_iff.mp hu).1) (by show (ts.map (fun t=>t.2))[k]?=_; rw [← eu,List.getElem?_map,hu]; rfl)) (hld_sh.mp hd)
    | some k0 =>
     have ek:k0=k:=least_one (zs:=ts.map (fun t=>t.2)) eu (by lia) hu hd least (by rw [List.length_map]; exact lst)
     subst ek
     refine ⟨_,rfl,rfl,_,rfl,iteN (decide_eq_false (fun z=>by cases z)) ?_⟩
     obtain ⟨v,hv,ev⟩:∃ v,ts[k0]?=some v∧v.2=u.2:=by
      have h1:(ts.map (fun t=>t.2))[k0]?=some u.2:=by rw [← eu,List.getElem?_map,hu]; rfl
      rw [List.getElem?_map] at h1
      exact Option.map_eq_some_iff.mp h1
     obtain ⟨z1,z2,zW,zT⟩:=held_in wok hz'
     have eb:(cutB [(shR u.2,.w none)] (shR u.2) z).2=⟨0,0,z.2,z.1⟩:=by
      rw [cutB_2 (by show z.1≤u.2.1 - 0; lia) (by show z.2≤u.2.2 - 0; lia)]
      show (⟨0,0,0+z.2,0+z.1⟩:Rk)=_
      rw [Int.zero_add,Int.zero_add]
     rw [eb] at hb4
     exact kE sh a0 dx ls lt ts us v u t k0 _ _ _ _ z rest tA dA r b kvs H5 (s5 _ _ hsh4) (fun t ht=>s5 _ _ (hts4 t ht)) hv hu ev so wok hz' (bn4.same s5) (s5 _ _ hr4) (s5 _ _ hb4) (tb4.same s5)
   ·intro none' c H4 s4 e4
    have hsh4:=s4 _ _ hsh3
    refine ⟨_,rfl,_,rfl,_,rfl,_,rfl,sh,ts,t,rfl,hsh4,(fun t ht=>s4 _ _ (hts3 t ht)),l4,tsO,fun o H5 s5 lst=>?_⟩
    cases o with
    | some k0 =>
     obtain ⟨kl,z0,hz0,h0,_⟩:=lst
     rw [← eu,List.getElem?_map] at hz0
     obtain ⟨u0,hu0,rfl⟩:=Option.map_eq_some_iff.mp hz0
     exact absurd (hld_sh.mpr h0) (none' u0 (List.mem_of_getElem? hu0))
    | none =>
     refine ⟨_,rfl,rfl,_,rfl,iteP (decide_eq_true rfl) ?_⟩
     refine ⟨_,rfl,_,rfl,_,rfl,lenOk 3,fun c6 n6=>?_⟩
     have s6:Same H5 (upd H5 c6 (.tup [.str "none",.int t.1,.int t.2.1])):=Same.new n6
     have e6:(upd H5 c6 (.tup [.str "none",.int t.1,.int t.2.1])) c6=some (.tup [.str "none",.int t.1,.int t.2.1]):=upd_same
     generalize upd H5 c6 (.tup [.str "none",.int t.1,.int t.2.1])=H6 at s6 e6 ⊢
     have e56:=s5.trans s6 _ _ e4
     have dd:∀ {x:Addr},H6 x=some (.tup [.str "none",.int t.1,.int t.2.1])→DIs K H6 (.tup (.cons (.at (.str "none")) (.cons (.at (.int t.1)) (.cons (.at (.int t.2.1)) .nil)))) (.ref x):=fun e=>by
      rw [DIs]
      refine ⟨_,_,rfl,SqT.of e,?_⟩
      rw [DIss]
      refine ⟨_,_,rfl,by rw [DIs]; exact ⟨rfl,rfl⟩,?_⟩
      rw [DIss]
      refine ⟨_,_,rfl,by rw [DIs]; exact ⟨rfl,rfl⟩,?_⟩
      rw [DIss]
      exact ⟨_,_,rfl,by rw [DIs]; exact ⟨rfl,rfl⟩,by rw [DIss]⟩
     have D1:=dd e56
     have D2:=dd e6
     refine ⟨_,_,D1,D2,⟨_,rfl⟩,⟨_,rfl⟩,by rw [dep,deps,deps,deps,deps,dep,dep,dep]; decide,_,rfl,iteP (by rw [if_neg Bool.false_ne_true,Zcm _ D1]) ?_⟩
     refine ⟨_,rfl,lenOk 0,fun l7 n7=>⟨lenOk 0,fun l8 n8=>⟨lenOk 3,fun a9 n9=>?_⟩⟩⟩
     have s7:Same H6 (upd H6 l7 (.lst [])):=Same.new n7
     have e7:(upd H6 l7 (.lst [])) l7=some (.lst []):=upd_same
     generalize upd H6 l7 (.lst [])=H7 at s7 e7 n8 n9 ⊢
     have s8:Same H7 (upd H7 l8 (.lst [])):=Same.new n8
     have e8:(upd H7 l8 (.lst [])) l8=some (.lst []):=upd_same
     generalize upd H7 l8 (.lst [])=H8 at s8 e8 n9 ⊢
     have s9:Same H8 (upd H8 a9 (.tup [.int 0,.int 0,.int 0])):=Same.new n9
     have e9:(upd H8 a9 (.tup [.int 0,.int 0,.int 0])) a9=some (.tup [.int 0,.int 0,.int 0]):=upd_same
     generalize upd H8 a9 (.tup [.int 0,.int 0,.int 0])=H9 at s9 e9 ⊢
     have s39:=s4.trans (s5.trans (s6.trans (s7.trans (s8.trans s9))))
     exact ⟨a0,dx,ls,lt,l7,l8,a9,us,[],_,[],[],[],rfl,is_none (bn3.same s39) so ((s8.trans s9) _ _ e7) (s9 _ _ e8) e9,tb3.same s39,fun H' _ _=>q H'⟩
  obtain ⟨tC,hC,kC⟩:∃ rd,PSs (cxOf CX0 P w K mg base N_law "law" (Zab Zdc) f cdv A outer s H E).nox ((Zai Zdc).drop 8) rd∧∀ (sh l a0 dx ls lt:Addr) (ts us:List (Addr × Int × Int)) (t:Want) (short:Bool) (x2 x3:Option V) (H1:Hp),SameN H H1→H l=none →
    H1 sh=some (.lst (refs ts))→(∀ t∈ts,H1 t.1=some (.tup [.int t.2.1,.int t.2.2]))→H1 l=some (.lst (refs ts))→sh≠l→l≠ls→l≠lt→sh≠lt→us.map (fun t:Addr × Int × Int=>t.2)=ts.map (fun t=>t.2)→ts.length≤4→(∀ t∈us,SOk t.2)→WOk t→(short=true→t.2.2=false)→BnAt C a0 dx ls lt H1 us []→TabOk lamQ2 lamN2 tb2 H1 →
    rd { nx:=fun _ H'=>Q .non H',rt:=Q } [some (.ref a),some (.ref sh),x2,x3,some (.ref l),some (.ref a0),some (.int t.1),some (.int t.2.1),some (.bl short),some (.bl t.2.2),none,none,none,none,none,none,none] H1:=by
   refine ⟨_,(Zae (Zbm (Zck (Zb7 (Za2 D__law_is hr (Zaa (pv 5) (Zaa (Zcy Zac) (Zaa (Zcy Zac) (Zaa (Zas (Zaa Zaf (Zaa Zaf (Zaa Zaf Zac)))) Zac))))))) (Zah (Zat Zjv)) Zaw)
   (Zae (Zbm (Zau Zfj (Za7 Zde (Za7 Ze7 (Za2 D__law_cell hr (Zaa (pv 0) (Zaa Zaf Zac))) Zaf) Zaf) Zaf (nomark _)) (Zah (Zat (Zfh (op_eqD hr) (pv 4) (pv 1) (nomark _)))) Zaw)
   hD)),?_⟩
   intro sh l a0 dx ls lt ts us t short x2 x3 H1 sN0 nl0 hsh hts hl nsl nlls nllt nshlt eu l4 so wok hsf bn tab
   refine ⟨_,rfl,lenOk 0,fun l7 n7=>⟨lenOk 0,fun l8 n8=>⟨lenOk 3,fun a9 n9=>?_⟩⟩⟩
   have s7:Same H1 (upd H1 l7 (.lst [])):=Same.new n7
   have e7:(upd H1 l7 (.lst [])) l7=some (.lst []):=upd_same
   generalize upd H1 l7 (.lst [])=H7 at s7 e7 n8 n9 ⊢
   have s8:Same H7 (upd H7 l8 (.lst [])):=Same.new n8
   have e8:(upd H7 l8 (.lst [])) l8=some (.lst []):=upd_same
   generalize upd H7 l8 (.lst [])=H8 at s8 e8 n9 ⊢
   have s9:Same H8 (upd H8 a9 (.tup [.int 0,.int 0,.int 0])):=Same.new n9
   have e9:(upd H8 a9 (.tup [.int 0,.int 0,.int 0])) a9=some (.tup [.int 0,.int 0,.int 0]):=upd_same
   generalize upd H8 a9 (.tup [.int 0,.int 0,.int 0])=H9 at s9 e9 ⊢
   have s19:=s7.trans (s8.trans s9)
   refine ⟨a0,dx,ls,lt,l7,l8,a9,us,[],_,[],[],[],rfl,is_none (bn.same s19) so ((s8.trans s9) _ _ e7) (s9 _ _ e8) e9,tab.same s19,fun H2 sx2 tb2'=>⟨_,rfl,iteN rfl ?_⟩⟩
   have sN:SameN H1 H2:=s19.n.trans (sx2.toN (tab.same s19).tbl)
   have hS2:SqL K H2 a (ns.map V.int):=(sN0.trans sN).seq hS0
   have hl2:=sN.lst hl
   have hsh2:=sN.lst hsh
   have hts2:∀ t∈ts,H2 t.1=some (.tup [.int t.2.1,.int t.2.2]):=fun t ht=>sN.tup (hts t ht)
   refine ⟨_,rfl,a,ns,7,rfl,hS2,by decide,fun zc=>⟨_,_,rfl,rfl,divL _ (by decide) (by decide),_,_,rfl,rfl,(show (0:Int) < 4 from by decide),rfl,_,rfl,ite3 (fun c=>?_) (fun c=>?_)⟩⟩
   ·have D1:DIs K H2 (.lst (zsD (ts.map (·.2)))) (.ref l):=by rw [DIs]; exact ⟨_,_,rfl,SqL.of hl2,zsD_is ts hts2⟩
    have D2:DIs K H2 (.lst (zsD (ts.map (·.2)))) (.ref sh):=by rw [DIs]; exact ⟨_,_,rfl,SqL.of hsh2,zsD_is ts hts2⟩
    refine ⟨_,rfl,_,rfl,_,_,D1,D2,⟨_,rfl⟩,⟨_,rfl⟩,by have:=zsD_dep (ts.map (·.2)); rw [dep]; lia,?_⟩
    rw [if_neg Bool.false_ne_true,Zcm _ D1]
    exact q _
   ·exact kD sh l a0 dx ls lt ts us t short x2 x3 H2 (sN0.trans sN) nl0 hsh2 hts2 hl2 nsl nlls nllt nshlt eu l4 so wok hsf (bn.n sN) tb2'
  obtain ⟨tB,hB,kB⟩:∃ rd,PSs (cxOf CX0 P w K mg base N_law "law" (Zab Zdc) f cdv A outer s H E).nox ((Zai Zdc).drop 2) rd∧∀ (sh:Addr) (ts:List (Addr × Int × Int)) (x2 x3:Option V) (H1:Hp),Same H H1→H sh=none →
    H1 sh=some (.lst (refs ts))→(∀ t∈ts,H1 t.1=some (.tup [.int t.2.1,.int t.2.2]))→1≤ts.length→ts.length≤4→(∀ t∈ts,SOk t.2) →
    rd { nx:=fun _ H'=>Q .non H',rt:=Q } [some (.ref a),some (.ref sh),x2,x3,none,none,none,none,none,none,none,none,none,none,none,none,none] H1:=by
   refine ⟨_,(Zae (Zav (i:=4) S.nd rfl (Or.inl rfl) (Zif Zi0 rfl T.z_list rfl (Zaa (pv 1) Zac)))
   (Zae (Zav (i:=5) S.nd rfl (Or.inl rfl) (pe_mk K_Bench hr (Zaa (pv 4) Zac)))
   (Zae (Zav (i:=6) S.nd rfl (Or.inl rfl) (Za7 Zcs Zaf (Za7 Zde (Za2 D__law_cell hr (Zaa (pv 0) (Zaa Zaf Zac))) Zaf)))
   (Zae (Zav (i:=7) S.nd rfl (Or.inl rfl) (Za7 Zcs Zaf (Za7 Zde (Za2 D__law_cell hr (Zaa (pv 0) (Zaa Zaf Zac))) Zaf)))
   (Zae (Zav (i:=8) S.nd rfl (Or.inl rfl) (Zfh Zfj (Za7 Zde (Za2 D__law_cell hr (Zaa (pv 0) (Zaa Zaf Zac))) Zaf) Zaf (nomark _)))
   (Zae (Zav (i:=9) S.nd rfl (Or.inl rfl) (Zfi (Zk9 (pv 8)) (Zfg (Zfh Zfj (Za7 Zde (Za7 Ze7 (Za2 D__law_cell hr (Zaa (pv 0) (Zaa Zaf Zac))) Zaf) Zaf) Zaf (nomark _)))))
   hC)))))),?_⟩
   intro sh ts x2 x3 H1 s01 nsh hsh hts l1 l4 so
   refine ⟨_,rfl,sh,_,rfl,.inl (SqL.of hsh),fun l nl=>?_⟩
   have sA:Same H1 (upd H1 l (.lst (refs ts))):=Same.new nl
   have eA:(upd H1 l (.lst (refs ts))) l=some (.lst (refs ts)):=upd_same
   generalize upd H1 l (.lst (refs ts))=HA at sA eA ⊢
   refine ⟨_,rfl,fun a0 dx0 na0 ndx0 nex0=>?_⟩
   have sB:Same HA (upd (upd HA dx0 (.own a0)) a0 (.ins C dx0 [])):=fun b o e=>by rw [Zag (Zad e na0),Zag (Zad e ndx0)]; exact e
   have eB:(upd (upd HA dx0 (.own a0)) a0 (.ins C dx0 [])) a0=some (.ins C dx0 []):=upd_same
   generalize upd (upd HA dx0 (.own a0)) a0 (.ins C dx0 [])=HB at sB eB ⊢
   have sAB:=sA.trans sB
   refine ⟨a0,dx0,l,ts.map (·.2),rfl,eB,⟨ts,sB _ _ eA,fun t ht=>sAB _ _ (hts t ht),rfl⟩,by rw [List.length_map]; exact l1,by rw [List.length_map]; exact l4,(fun z hz=>by obtain ⟨t,ht,rfl⟩:=List.mem_map.mp hz; exact so t ht),fun ls lt us HC nls nlt ne0 xC bnC eu=>⟨rfl,?_⟩⟩
   have sC:Same HA HC:=fun b o e=>xC _ _ (Zad e na0) (sB _ _ e)
   have s1C:=sA.trans sC
   have sHC:=s01.trans s1C
   have hSC:SqL K HC a (ns.map V.int):=sHC.seq hS0
   have soU:∀ t∈us,SOk t.2:=fun t ht=>by
    have:t.2∈ts.map (·.2):=by rw [← eu]; exact List.mem_map.mpr ⟨t,ht,rfl⟩
    obtain ⟨u,hu,e⟩:=List.mem_map.mp this
    rw [← e]; exact so u hu
   have n1:sh≠l:=Zad hsh nl
   have n2:l≠ls:=Zad (sB _ _ eA) nls
   have n3:l≠lt:=Zad (sB _ _ eA) nlt
   have n4:sh≠lt:=Zad (sAB _ _ hsh) nlt
   have n5:H l=none:=Zc0 s01 nl
   have tabC:TabOk lamQ2 lamN2 tb2 HC:=(TabOk.new htb).same sHC
   have m12:∀ c:Int,1≤1+c % 12∧1+c % 12≤12:=fun c=>by
    have h1:=Int.emod_nonneg c (b:=12) (by decide)
    have h2:=Int.emod_lt_of_pos c (b:=12) (by decide)
    lia
   refine ⟨_,rfl,a,ns,5,rfl,hSC,by decide,fun c5=>⟨_,_,rfl,rfl,(show (0:Int) < 12 from by decide),_,_,rfl,rfl,?_⟩⟩
   refine ⟨_,rfl,a,ns,6,rfl,hSC,by decide,fun c6=>⟨_,_,rfl,rfl,(show (0:Int) < 12 from by decide),_,_,rfl,rfl,?_⟩⟩
   refine ⟨_,rfl,a,ns,7,rfl,hSC,by decide,fun c7=>⟨_,_,rfl,rfl,(show (0:Int) < 3 from by decide),rfl,?_⟩⟩
   have wk:∀ fl:Bool,WOk (1+c5 % 12,1+c6 % 12,fl):=fun fl=>⟨(m12 c5).1,(m12 c5).2,(m12 c6).1,(m12 c6).2⟩
   cases hs3:decide (V.int (c7 % 3)=V.int 0) with
   | true =>
    refine ⟨_,rfl,_,rfl,_,rfl,iteN rfl ?_⟩
    exact kC sh l a0 dx0 ls lt ts us (1+c5 % 12,1+c6 % 12,false) true x2 x3 HC sHC.n n5 (s1C _ _ hsh) (fun t ht=>s1C _ _ (hts t ht)) (sC _ _ eA) n1 n2 n3 n4 eu l4 soU (wk _) (fun _=>rfl) bnC tabC
   | false =>
    refine ⟨_,rfl,_,rfl,_,rfl,iteP rfl ?_⟩
    refine ⟨_,rfl,a,ns,7,rfl,hSC,by decide,fun c8=>⟨_,_,rfl,rfl,divL _ (by decide) (by decide),_,_,rfl,rfl,(show (0:Int) < 2 from by decide),rfl,?_⟩⟩
    exact kC sh l a0 dx0 ls lt ts us (1+c5 % 12,1+c6 % 12,_) false x2 x3 HC sHC.n n5 (s1C _ _ hsh) (fun t ht=>s1C _ _ (hts t ht)) (sC _ _ eA) n1 n2 n3 n4 eu l4 soU (wk _) (fun z=>by cases z) bnC tabC
  refine ⟨_,(Zae (Zav (i:=1) S.nd rfl (Or.inl rfl) (Zcy Zac))
   (Zae (Zdy PassesOwn.never rfl (Zd0 rfl T.z_range (Zaa (Za7 Zcs Zaf (Za7 Zde (Za2 D__law_cell hr (Zaa (pv 0) (Zaa Zaf Zac))) Zaf)) Zac)) (Zap (i:=2) S.nd rfl (Or.inl rfl)) (Zae (Zav (i:=3) S.nd rfl (Or.inl rfl) (Za2 D__law_cell hr (Zaa (pv 0) (Zaa (Za7 Zcs Zaf (pv 2)) Zac))))
   (Zah (Zbw (Zeg PySem.F.plainAttrs_list PySem.F.slot_list_append PySem.F.type_list_append Za9 (pv 1) (Zaa (Zas (Zaa (Za7 Zcs Zaf (Za2 D__law_draw hr (Zaa (pv 3) (Zaa Zaf (Zaa Zaf Zac))))) (Zaa (Za7 Zcs Zaf (Za2 D__law_draw hr (Zaa (pv 3) (Zaa Zaf (Zaa Zaf Zac))))) Zac))) Zac))))))
   hB)),?_⟩
  refine ⟨lenOk 0,fun sh nsh=>?_⟩
  have s0:Same H (upd H sh (.lst [])):=Same.new nsh
  have e0:(upd H sh (.lst [])) sh=some (.lst []):=upd_same
  generalize upd H sh (.lst [])=H0 at s0 e0 ⊢
  refine ⟨_,rfl,a,ns,0,rfl,s0.seq hS0,by decide,fun z=>⟨_,_,rfl,rfl,(show (0:Int) < 4 from by decide),_,_,rfl,rfl,_,rfl,?_⟩⟩
  have z0:=Int.emod_nonneg z (b:=4) (by decide)
  have z4:=Int.emod_lt_of_pos z (b:=4) (by decide)
  refine ⟨by lia,by lia,Zd3 (lo:=0) (n:=(1+z % 4).toNat) (fun i σ H'=>(∃ w2 w3,σ=[some (.ref a),some (.ref sh),w2,w3,none,none,none,none,none,none,none,none,none,none,none,none,none])∧Same H H'∧∃ ts:List (Addr × Int × Int),H' sh=some (.lst (refs ts))∧(∀ t∈ts,H' t.1=some (.tup [.int t.2.1,.int t.2.2]))∧ts.length=i∧∀ t∈ts,SOk t.2)
   ⟨⟨_,_,rfl⟩,s0,[],e0,(fun t ht=>nomatch ht),rfl,(fun t ht=>nomatch ht)⟩ ?_ ?_⟩
  ·rintro i σ H1 hi ⟨⟨w2,w3,rfl⟩,s1,ts,t1,t2,t3,t4⟩
   refine ⟨_,rfl,_,rfl,_,_,rfl,rfl,a,ns,_,rfl,s1.seq hS0,by show (0:Int)≤1+(0+(i:Int)); lia,fun c=>?_⟩
   refine ⟨_,rfl,.inl ⟨rfl,_,SqL.of t1⟩,_,rfl,c,1,12,rfl,by decide,by decide,by decide,fun r1 r10 r11=>⟨_,_,rfl,rfl,_,rfl,c,2,12,rfl,by decide,by decide,by decide,fun r2 r20 r21=>⟨_,_,rfl,rfl,lenOk 2,fun b nb=>?_⟩⟩⟩
   have s2:Same H1 (upd H1 b (.tup [(fun i j=>V.int (i+j)) 1 r1,(fun i j=>V.int (i+j)) 1 r2])):=Same.new nb
   have e2:(upd H1 b (.tup [(fun i j=>V.int (i+j)) 1 r1,(fun i j=>V.int (i+j)) 1 r2])) b=some (.tup [.int (1+r1),.int (1+r2)]):=upd_same
   generalize upd H1 b (.tup [(fun i j=>V.int (i+j)) 1 r1,(fun i j=>V.int (i+j)) 1 r2])=H2 at s2 e2 ⊢
   have t1':=s2 _ _ t1
   refine ⟨sh,_,_,rfl,rfl,t1',Zaq (by rw [Zal]; lia),?_⟩
   have te:refs ts++[V.ref b]=refs (ts++[((b,1+r1,1+r2):Addr × Int × Int)]):=by rw [refs,refs,List.map_append]; rfl
   rw [te]
   have kp:∀ x xs,H2 x=some (.tup xs)→(upd H2 sh (.lst (refs (ts++[((b,1+r1,1+r2):Addr × Int × Int)])))) x=some (.tup xs):=fun x xs e=>by rw [Zag (fun z=>by rw [z,t1'] at e; cases e)]; exact e
   refine ⟨⟨_,_,rfl⟩,fun y o e=>by rw [Zag (Zad e nsh)]; exact s2 _ _ (s1 _ _ e),_,upd_same,fun t ht=>?_,by rw [List.length_append,t3]; rfl,fun t ht=>?_⟩
   ·rcases List.mem_append.mp ht with ht | ht
    ·exact kp _ _ (s2 _ _ (t2 t ht))
    ·rw [List.mem_singleton.mp ht]; exact kp _ _ e2
   ·rcases List.mem_append.mp ht with ht | ht
    ·exact t4 t ht
    ·rw [List.mem_singleton.mp ht]
     exact ⟨by show 1≤1+r1; lia,by show 1+r1≤12; lia,by show 1≤1+r2; lia,by show 1+r2≤12; lia⟩
  ·rintro σ H1 ⟨⟨w2,w3,rfl⟩,s1,ts,t1,t2,t3,t4⟩
   exact kB sh ts w2 w3 H1 s1 nsh t1 t2 (by rw [t3]; lia) (by rw [t3]; lia) t4
def icB (K:PySem.W.Frag) (C:Addr):Bool:=PySem.W.plainGet K C Str.empty && (PySem.W.hasDictIn K C && (PySem.W.plainOver K C && ((PySem.W.findIn K (.ref C) "__setattr__" == some (some (.builtin "object.__setattr__"))) && ((PySem.W.findIn K (.ref C) "__class__" == some (some (.builtin "object.__class__"))) &&
 ((PySem.W.specialIn K (.builtin "object.__class__") "__get__" == some (some (.builtin "getset_descriptor.__get__"))) && ((PySem.W.takesIn K (.builtin "object.__class__") == some true) && ((PySem.W.mroIn K C (.type "object") == some true) && (PySem.W.makesIn K C && PySem.W.keepIn K (.ref C)))))))))
theorem icB_of {C:Addr} (h:icB K C=true):ICls K C∧PySem.W.makesIn K C=true∧PySem.W.keepIn K (.ref C)=true:=by
 unfold icB at h
 simp only [Bool.and_eq_true,beq_iff_eq] at h
 obtain ⟨a,b,c,d,e,f,g,i,j,l⟩:=h
 exact ⟨⟨⟨a,b,c,d⟩,e,f,g,i⟩,j,l⟩
def kitB (K:PySem.W.Frag) (cT cW cU cL:Addr):Bool:=([(cW,"mark"),(cU,"at"),(cU,"first"),(cU,"other"),(cL,"at"),(cL,"first"),(cL,"other")]:List (Addr × Str)).all (fun p=>PySem.W.findIn K (.ref p.1) p.2 == some none) &&
 ([(cW,cW,true),(cW,cU,false),(cW,cL,false),(cU,cW,false),(cL,cW,false),(cU,cU,true),(cU,cL,false),(cL,cU,false),(cL,cL,true),(cW,cT,true),(cU,cT,true),(cL,cT,true)]:List (Addr × Addr × Bool)).all (fun p=>PySem.W.kitOne K (.ref p.1) (.ref p.2.1) == some p.2.2)
theorem rt_of (h:kitB K cT cW cU cL=true) (iW:ICls K cW) (iU:ICls K cU) (iL:ICls K cL) (gT:mg "Tree"=some (.ref cT)) (gW:mg "Whole"=some (.ref cW)) (gU:mg "Upright"=some (.ref cU)) (gL:mg "Level"=some (.ref cL)):RT mg K cT cW cU cL:=by
 unfold kitB at h
 rw [Bool.and_eq_true,List.all_eq_true,List.all_eq_true] at h
 obtain ⟨h1,h2⟩:=h
 have f1:∀ p∈([(cW,"mark"),(cU,"at"),(cU,"first"),(cU,"other"),(cL,"at"),(cL,"first"),(cL,"other")]:List (Addr × Str)),PySem.W.findIn K (.ref p.1) p.2=some none:=fun p hp=>beq_iff_eq.mp (h1 p hp)
 have f2:∀ p∈([(cW,cW,true),(cW,cU,false),(cW,cL,false),(cU,cW,false),(cL,cW,false),(cU,cU,true),(cU,cL,false),(cL,cU,false),(cL,cL,true),(cW,cT,true),(cU,cT,true),(cL,cT,true)]:List (Addr × Addr × Bool)),PySem.W.kitOne K (.ref p.1) (.ref p.2.1)=some p.2.2:=fun p hp=>beq_iff_eq.mp (h2 p hp)
 simp only [List.forall_mem_cons,List.not_mem_nil,false_implies,implies_true,and_true] at f1 f2
 obtain ⟨a1,a2,a3,a4,a5,a6,a7⟩:=f1
 obtain ⟨k1,k2,k3,k4,k5,k6,k7,k8,k9,k10,k11,k12⟩:=f2
 refine ⟨gT,gW,gU,gL,iW,?_,a1,?_,?_,?_,k1,?_,?_,?_,k10,?_⟩
 ·intro u; cases u; exact iL; exact iU
 ·intro u; cases u; exact a5; exact a2
 ·intro u; cases u; exact a6; exact a3
 ·intro u; cases u; exact a7; exact a4
 ·intro u; cases u; exact k3; exact k2
 ·intro u; cases u; exact k5; exact k4
 ·intro u v; cases u <;> cases v; exact k9; exact k8; exact k7; exact k6
 ·intro u; cases u; exact k12; exact k11
end
theorem len5 {α:Type} {us:List α} (h:us.length=5):∃ a b c d e,us=[a,b,c,d,e]:=by
 match us,h with
 | [a,b,c,d,e],_=>exact ⟨a,b,c,d,e,rfl⟩
theorem all_mk {l:PySem.W.OpenLaw} {w:World} {K:PySem.W.Frag} {h:Heap} {mg:Str→Option Value} {fa:Addr} (X:K.In h) (G:h.Ns mainGlobals mg) (hfa:mg "law"=some (.ref fa))
  {C:Addr} (aC:PySem.W.nsIn K mainGlobals "Bench"=some (some (.ref C)))
  (pg_C:PySem.W.plainGet K C Str.empty=true)
  (hd_C:PySem.W.hasDictIn K C=true)
  (po_C:PySem.W.plainOver K C=true)
  (sa_C:PySem.W.findIn K (.ref C) "__setattr__"=some (some (.builtin "object.__setattr__")))
  (mk_C:PySem.W.makesIn K C=true)
  (kc_C:PySem.W.keepIn K (.ref C)=true)
  (n_C_stock:PySem.W.findIn K (.ref C) "stock"=some none)
  (n_C_taken:PySem.W.findIn K (.ref C) "taken"=some none)
  {cT:Addr} (aT:PySem.W.nsIn K mainGlobals "Tree"=some (some (.ref cT)))
  {cW:Addr} (aC_cW:PySem.W.nsIn K mainGlobals "Whole"=some (some (.ref cW))) (ic_cW:icB K cW=true)
  {f_cW:Addr} {od_cW an_cW:Option Addr} {sl_cW:Array (Option Value)} {oc_cW kV_cW dc_cW pm_cW cd_cW ct_cW:Value} {T_cW:Addr} {to_cW:Value} {td_cW:Option Addr} {ts_cW:Array (Option Value)} {ti_cW:Array Value} {tn_cW:Nat} (a_cWcW:PySem.W.findIn K (.ref cW) "__init__"=some (some (.ref f_cW))) (i_cW:PySem.W.isFn K (.ref f_cW)=true) (l_cW:K.lookup f_cW=some ⟨oc_cW,od_cW,.func (PySem.W.fnOf "__init__" "Whole.__init__" (Zak Zb2) (Zai Zb2) (Zab Zb2) (.ref T_cW) kV_cW dc_cW pm_cW an_cW cd_cW ct_cW),sl_cW⟩) (cc_cW:PySem.W.codeIn K cd_cW "Whole.__init__"=true) (k_cW:PySem.W.keepIn K (.ref f_cW)=true) (lT_cW:K.lookup T_cW=some ⟨to_cW,td_cW,.seq ti_cW tn_cW,ts_cW⟩) (eT_cW:ti_cW=#[.none])
  {cU:Addr} (aC_cU:PySem.W.nsIn K mainGlobals "Upright"=some (some (.ref cU))) (ic_cU:icB K cU=true)
  {f_cU:Addr} {od_cU an_cU:Option Addr} {sl_cU:Array (Option Value)} {oc_cU kV_cU dc_cU pm_cU cd_cU ct_cU:Value} (a_cUcU:PySem.W.findIn K (.ref cU) "__init__"=some (some (.ref f_cU))) (i_cU:PySem.W.isFn K (.ref f_cU)=true) (l_cU:K.lookup f_cU=some ⟨oc_cU,od_cU,.func (PySem.W.fnOf "__init__" "Upright.__init__" (Zak Zbg) (Zai Zbg) (Zab Zbg) .none kV_cU dc_cU pm_cU an_cU cd_cU ct_cU),sl_cU⟩) (cc_cU:PySem.W.codeIn K cd_cU "Upright.__init__"=true) (k_cU:PySem.W.keepIn K (.ref f_cU)=true)
  {cL:Addr} (aC_cL:PySem.W.nsIn K mainGlobals "Level"=some (some (.ref cL))) (ic_cL:icB K cL=true)
  {f_cL:Addr} {od_cL an_cL:Option Addr} {sl_cL:Array (Option Value)} {oc_cL kV_cL dc_cL pm_cL cd_cL ct_cL:Value} (a_cLcL:PySem.W.findIn K (.ref cL) "__init__"=some (some (.ref f_cL))) (i_cL:PySem.W.isFn K (.ref f_cL)=true) (l_cL:K.lookup f_cL=some ⟨oc_cL,od_cL,.func (PySem.W.fnOf "__init__" "Level.__init__" (Zak Zb3) (Zai Zb3) (Zab Zb3) .none kV_cL dc_cL pm_cL an_cL cd_cL ct_cL),sl_cL⟩) (cc_cL:PySem.W.codeIn K cd_cL "Level.__init__"=true) (k_cL:PySem.W.keepIn K (.ref f_cL)=true)
  (kit:kitB K cT cW cU cL=true)
  {cG:Addr} (aG:PySem.W.nsIn K mainGlobals "GlassError"=some (some (.ref cG))) (eG:PySem.W.excIn K cG vErr "ValueError.__new__"=true)
  {cGl:Addr} (aC_cGl:PySem.W.nsIn K mainGlobals "NoGlass"=some (some (.ref cGl))) (kC_cGl:PySem.W.keepIn K (.ref cGl)=true) (nC_cGl:PySem.W.findIn K (.ref cGl) "width"=some none) (nC2_cGl:PySem.W.findIn K (.ref cGl) "height"=some none)
  {f_cGl:Addr} {od_cGl an_cGl:Option Addr} {sl_cGl:Array (Option Value)} {oc_cGl kV_cGl dc_cGl pm_cGl cd_cGl ct_cGl:Value} (a_cGlcGl:PySem.W.findIn K (.ref cGl) "__init__"=some (some (.ref f_cGl))) (i_cGl:PySem.W.isFn K (.ref f_cGl)=true) (l_cGl:K.lookup f_cGl=some ⟨oc_cGl,od_cGl,.func (PySem.W.fnOf "__init__" "NoGlass.__init__" (Zak Zbi) (Zai Zbi) (Zab Zbi) .none kV_cGl dc_cGl pm_cGl an_cGl cd_cGl ct_cGl),sl_cGl⟩) (cc_cGl:PySem.W.codeIn K cd_cGl "NoGlass.__init__"=true) (k_cGl:PySem.W.keepIn K (.ref f_cGl)=true)
  (ei_cGl:excInI K cGl f_cGl=true) (xc_cGl:xclsB K cGl=true) (xm_cGl:PySem.W.mroIn K cGl (.ref cG)=some true)
  {cM:Addr} (aC_cM:PySem.W.nsIn K mainGlobals "TooMany"=some (some (.ref cM))) (kC_cM:PySem.W.keepIn K (.ref cM)=true) (nC_cM:PySem.W.findIn K (.ref cM) "many"=some none)
  {f_cM:Addr} {od_cM an_cM:Option Addr} {sl_cM:Array (Option Value)} {oc_cM kV_cM dc_cM pm_cM cd_cM ct_cM:Value} (a_cMcM:PySem.W.findIn K (.ref cM) "__init__"=some (some (.ref f_cM))) (i_cM:PySem.W.isFn K (.ref f_cM)=true) (l_cM:K.lookup f_cM=some ⟨oc_cM,od_cM,.func (PySem.W.fnOf "__init__" "TooMany.__init__" (Zak Zbh) (Zai Zbh) (Zab Zbh) .none kV_cM dc_cM pm_cM an_cM cd_cM ct_cM),sl_cM⟩) (cc_cM:PySem.W.codeIn K cd_cM "TooMany.__init__"=true) (k_cM:PySem.W.keepIn K (.ref f_cM)=true)
  (ei_cM:excInI K cM f_cM=true) (xc_cM:xclsB K cM=true) (xm_cM:PySem.W.mroIn K cM (.ref cG)=some true)
  {cH:Addr} (aC_cH:PySem.W.nsIn K mainGlobals "NoSheet"=some (some (.ref cH)))
  {cS:Addr} (aC_cS:PySem.W.nsIn K mainGlobals "NoSide"=some (some (.ref cS)))
  (kt0:(PySem.W.kitOne K (.ref cGl) (.ref cGl) == some true)=true)
  (kt1:(PySem.W.kitOne K (.ref cGl) (.ref cH) == some false)=true)
  (kt2:(PySem.W.kitOne K (.ref cGl) (.ref cS) == some false)=true)
  (kt3:(PySem.W.kitOne K (.ref cGl) (.ref cM) == some false)=true)
  {f0:Addr} {od0 an0:Option Addr} {sl0:Array (Option Value)} {oc0 kV0 dc0 pm0 cd0 ct0:Value} (a0:PySem.W.nsIn K mainGlobals "is_whole"=some (some (.ref f0))) (l0:K.lookup f0=some ⟨oc0,od0,.func (PySem.W.fnOf "is_whole" "is_whole" (Zak Zcn) (Zai Zcn) (Zab Zcn) .none kV0 dc0 pm0 an0 cd0 ct0),sl0⟩) (cc0:PySem.W.codeIn K cd0 "is_whole"=true) (k0:PySem.W.keepIn K (.ref f0)=true)
  {f1:Addr} {od1 an1:Option Addr} {sl1:Array (Option Value)} {oc1 kV1 dc1 pm1 cd1 ct1:Value} (a1:PySem.W.nsIn K mainGlobals "is_side"=some (some (.ref f1))) (l1:K.lookup f1=some ⟨oc1,od1,.func (PySem.W.fnOf "is_side" "is_side" (Zak Zc5) (Zai Zc5) (Zab Zc5) .none kV1 dc1 pm1 an1 cd1 ct1),sl1⟩) (cc1:PySem.W.codeIn K cd1 "is_side"=true) (k1:PySem.W.keepIn K (.ref f1)=true)
  {f2:Addr} {od2 an2:Option Addr} {sl2:Array (Option Value)} {oc2 kV2 dc2 pm2 cd2 ct2:Value} (a2:PySem.W.nsIn K mainGlobals "size_of"=some (some (.ref f2))) (l2:K.lookup f2=some ⟨oc2,od2,.func (PySem.W.fnOf "size_of" "size_of" (Zak Zc4) (Zai Zc4) (Zab Zc4) .none kV2 dc2 pm2 an2 cd2 ct2),sl2⟩) (cc2:PySem.W.codeIn K cd2 "size_of"=true) (k2:PySem.W.keepIn K (.ref f2)=true)
  {f3:Addr} {od3 an3:Option Addr} {sl3:Array (Option Value)} {oc3 kV3 dc3 pm3 cd3 ct3:Value} (a3:PySem.W.nsIn K mainGlobals "area_of"=some (some (.ref f3))) (l3:K.lookup f3=some ⟨oc3,od3,.func (PySem.W.fnOf "area_of" "area_of" (Zak Zc6) (Zai Zc6) (Zab Zc6) .none kV3 dc3 pm3 an3 cd3 ct3),sl3⟩) (cc3:PySem.W.codeIn K cd3 "area_of"=true) (k3:PySem.W.keepIn K (.ref f3)=true)
  {f4:Addr} {od4 an4:Option Addr} {sl4:Array (Option Value)} {oc4 kV4 dc4 pm4 cd4 ct4:Value} (a4:PySem.W.nsIn K mainGlobals "check_sides"=some (some (.ref f4))) (l4:K.lookup f4=some ⟨oc4,od4,.func (PySem.W.fnOf "check_sides" "check_sides" (Zak Zbr) (Zai Zbr) (Zab Zbr) .none kV4 dc4 pm4 an4 cd4 ct4),sl4⟩) (cc4:PySem.W.codeIn K cd4 "check_sides"=true) (k4:PySem.W.keepIn K (.ref f4)=true)
  {f5:Addr} {od5 an5:Option Addr} {sl5:Array (Option Value)} {oc5 kV5 dc5 pm5 cd5 ct5:Value} (a5:PySem.W.nsIn K mainGlobals "cut_from"=some (some (.ref f5))) (l5:K.lookup f5=some ⟨oc5,od5,.func (PySem.W.fnOf "cut_from" "cut_from" (Zak Zcq) (Zai Zcq) (Zab Zcq) .none kV5 dc5 pm5 an5 cd5 ct5),sl5⟩) (cc5:PySem.W.codeIn K cd5 "cut_from"=true) (k5:PySem.W.keepIn K (.ref f5)=true)
  {f6:Addr} {od6 an6:Option Addr} {sl6:Array (Option Value)} {oc6 kV6 dc6 pm6 cd6 ct6:Value} (a6:PySem.W.nsIn K mainGlobals "tree_from"=some (some (.ref f6))) (l6:K.lookup f6=some ⟨oc6,od6,.func (PySem.W.fnOf "tree_from" "tree_from" (Zak Zcb) (Zai Zcb) (Zab Zcb) .none kV6 dc6 pm6 an6 cd6 ct6),sl6⟩) (cc6:PySem.W.codeIn K cd6 "tree_from"=true) (k6:PySem.W.keepIn K (.ref f6)=true)
  {f7:Addr} {od7 an7:Option Addr} {sl7:Array (Option Value)} {oc7 kV7 dc7 pm7 cd7 ct7:Value} (a7:PySem.W.nsIn K mainGlobals "first_piece"=some (some (.ref f7))) (l7:K.lookup f7=some ⟨oc7,od7,.func (PySem.W.fnOf "first_piece" "first_piece" (Zak Zbq) (Zai Zbq) (Zab Zbq) .none kV7 dc7 pm7 an7 cd7 ct7),sl7⟩) (cc7:PySem.W.codeIn K cd7 "first_piece"=true) (k7:PySem.W.keepIn K (.ref f7)=true)
  {f8:Addr} {od8 an8:Option Addr} {sl8:Array (Option Value)} {oc8 kV8 dc8 pm8 cd8 ct8:Value} (a8:PySem.W.nsIn K mainGlobals "other_piece"=some (some (.ref f8))) (l8:K.lookup f8=some ⟨oc8,od8,.func (PySem.W.fnOf "other_piece" "other_piece" (Zak Zbp) (Zai Zbp) (Zab Zbp) .none kV8 dc8 pm8 an8 cd8 ct8),sl8⟩) (cc8:PySem.W.codeIn K cd8 "other_piece"=true) (k8:PySem.W.keepIn K (.ref f8)=true)
  {f9:Addr} {od9 an9:Option Addr} {sl9:Array (Option Value)} {oc9 kV9 dc9 pm9 cd9 ct9:Value} (a9:PySem.W.nsIn K mainGlobals "entries_by"=some (some (.ref f9))) (l9:K.lookup f9=some ⟨oc9,od9,.func (PySem.W.fnOf "entries_by" "entries_by" (Zak Zby) (Zai Zby) (Zab Zby) .none kV9 dc9 pm9 an9 cd9 ct9),sl9⟩) (cc9:PySem.W.codeIn K cd9 "entries_by"=true) (k9:PySem.W.keepIn K (.ref f9)=true)
  {f10:Addr} {od10 an10:Option Addr} {sl10:Array (Option Value)} {oc10 kV10 dc10 pm10 cd10 ct10:Value} (a10:PySem.W.nsIn K mainGlobals "ways_to_lie"=some (some (.ref f10))) (l10:K.lookup f10=some ⟨oc10,od10,.func (PySem.W.fnOf "ways_to_lie" "ways_to_lie" (Zak Zbo) (Zai Zbo) (Zab Zbo) .none kV10 dc10 pm10 an10 cd10 ct10),sl10⟩) (cc10:PySem.W.codeIn K cd10 "ways_to_lie"=true) (k10:PySem.W.keepIn K (.ref f10)=true)
  {f11:Addr} {od11 an11:Option Addr} {sl11:Array (Option Value)} {oc11 kV11 dc11 pm11 cd11 ct11:Value} (a11:PySem.W.nsIn K mainGlobals "ways_held"=some (some (.ref f11))) (l11:K.lookup f11=some ⟨oc11,od11,.func (PySem.W.fnOf "ways_held" "ways_held" (Zak Zca) (Zai Zca) (Zab Zca) .none kV11 dc11 pm11 an11 cd11 ct11),sl11⟩) (cc11:PySem.W.codeIn K cd11 "ways_held"=true) (k11:PySem.W.keepIn K (.ref f11)=true)
  {f12:Addr} {od12 an12:Option Addr} {sl12:Array (Option Value)} {oc12 kV12 dc12 pm12 cd12 ct12:Value} (a12:PySem.W.nsIn K mainGlobals "is_sheet"=some (some (.ref f12))) (l12:K.lookup f12=some ⟨oc12,od12,.func (PySem.W.fnOf "is_sheet" "is_sheet" (Zak Zco) (Zai Zco) (Zab Zco) .none kV12 dc12 pm12 an12 cd12 ct12),sl12⟩) (cc12:PySem.W.codeIn K cd12 "is_sheet"=true) (k12:PySem.W.keepIn K (.ref f12)=true)
  {f13:Addr} {od13 an13:Option Addr} {sl13:Array (Option Value)} {oc13 kV13 dc13 pm13 cd13 ct13:Value} (a13:PySem.W.nsIn K mainGlobals "check_sheets"=some (some (.ref f13))) (l13:K.lookup f13=some ⟨oc13,od13,.func (PySem.W.fnOf "check_sheets" "check_sheets" (Zak Zbe) (Zai Zbe) (Zab Zbe) .none kV13 dc13 pm13 an13 cd13 ct13),sl13⟩) (cc13:PySem.W.codeIn K cd13 "check_sheets"=true) (k13:PySem.W.keepIn K (.ref f13)=true)
  {f14:Addr} {od14 an14:Option Addr} {sl14:Array (Option Value)} {oc14 kV14 dc14 pm14 cd14 ct14:Value} (a14:PySem.W.nsIn K mainGlobals "holds"=some (some (.ref f14))) (l14:K.lookup f14=some ⟨oc14,od14,.func (PySem.W.fnOf "holds" "holds" (Zak Zed) (Zai Zed) (Zab Zed) .none kV14 dc14 pm14 an14 cd14 ct14),sl14⟩) (cc14:PySem.W.codeIn K cd14 "holds"=true) (k14:PySem.W.keepIn K (.ref f14)=true)
  {f15:Addr} {od15 an15:Option Addr} {sl15:Array (Option Value)} {oc15 kV15 dc15 pm15 cd15 ct15:Value} (a15:PySem.W.nsIn K mainGlobals "cut_pane"=some (some (.ref f15))) (l15:K.lookup f15=some ⟨oc15,od15,.func (PySem.W.fnOf "cut_pane" "cut_pane" (Zak Zcp) (Zai Zcp) (Zab Zcp) .none kV15 dc15 pm15 an15 cd15 ct15),sl15⟩) (cc15:PySem.W.codeIn K cd15 "cut_pane"=true) (k15:PySem.W.keepIn K (.ref f15)=true)
  {f16:Addr} {od16 an16:Option Addr} {sl16:Array (Option Value)} {oc16 kV16 dc16 pm16 cd16 ct16:Value} (a16:PySem.W.nsIn K mainGlobals "tree_in"=some (some (.ref f16))) (l16:K.lookup f16=some ⟨oc16,od16,.func (PySem.W.fnOf "tree_in" "tree_in" (Zak Zbd) (Zai Zbd) (Zab Zbd) .none kV16 dc16 pm16 an16 cd16 ct16),sl16⟩) (cc16:PySem.W.codeIn K cd16 "tree_in"=true) (k16:PySem.W.keepIn K (.ref f16)=true) {c16 tb2:Addr} (ec16:cd16=.ref c16) (hC16:codeTB K c16 tb2=true)
  {f17:Addr} {od17 an17:Option Addr} {sl17:Array (Option Value)} {oc17 kV17 dc17 pm17 cd17 ct17:Value} (a17C:PySem.W.findIn K (.ref C) "__init__"=some (some (.ref f17))) (i17:PySem.W.isFn K (.ref f17)=true) (l17:K.lookup f17=some ⟨oc17,od17,.func (PySem.W.fnOf "__init__" "Bench.__init__" (Zak Zb4) (Zai Zb4) (Zab Zb4) .none kV17 dc17 pm17 an17 cd17 ct17),sl17⟩) (cc17:PySem.W.codeIn K cd17 "Bench.__init__"=true) (k17:PySem.W.keepIn K (.ref f17)=true)
  {f18:Addr} {od18 an18:Option Addr} {sl18:Array (Option Value)} {oc18 kV18 dc18 pm18 cd18 ct18:Value} (a18C:PySem.W.findIn K (.ref C) "whole_pieces"=some (some (.ref f18))) (i18:PySem.W.isFn K (.ref f18)=true) (l18:K.lookup f18=some ⟨oc18,od18,.func (PySem.W.fnOf "whole_pieces" "Bench.whole_pieces" (Zak Zaz) (Zai Zaz) (Zab Zaz) .none kV18 dc18 pm18 an18 cd18 ct18),sl18⟩) (cc18:PySem.W.codeIn K cd18 "Bench.whole_pieces"=true) (k18:PySem.W.keepIn K (.ref f18)=true)
  {f19:Addr} {od19 an19:Option Addr} {sl19:Array (Option Value)} {oc19 kV19 dc19 pm19 cd19 ct19:Value} (a19C:PySem.W.findIn K (.ref C) "panes_cut"=some (some (.ref f19))) (i19:PySem.W.isFn K (.ref f19)=true) (l19:K.lookup f19=some ⟨oc19,od19,.func (PySem.W.fnOf "panes_cut" "Bench.panes_cut" (Zak Za6) (Zai Za6) (Zab Za6) .none kV19 dc19 pm19 an19 cd19 ct19),sl19⟩) (cc19:PySem.W.codeIn K cd19 "Bench.panes_cut"=true) (k19:PySem.W.keepIn K (.ref f19)=true)
  {f20:Addr} {od20 an20:Option Addr} {sl20:Array (Option Value)} {oc20 kV20 dc20 pm20 cd20 ct20:Value} (a20C:PySem.W.findIn K (.ref C) "offcuts"=some (some (.ref f20))) (i20:PySem.W.isFn K (.ref f20)=true) (l20:K.lookup f20=some ⟨oc20,od20,.func (PySem.W.fnOf "offcuts" "Bench.offcuts" (Zak Zba) (Zai Zba) (Zab Zba) .none kV20 dc20 pm20 an20 cd20 ct20),sl20⟩) (cc20:PySem.W.codeIn K cd20 "Bench.offcuts"=true) (k20:PySem.W.keepIn K (.ref f20)=true)
  {f21:Addr} {od21 an21:Option Addr} {sl21:Array (Option Value)} {oc21 kV21 dc21 pm21 cd21 ct21:Value} (a21C:PySem.W.findIn K (.ref C) "sheets"=some (some (.ref f21))) (i21:PySem.W.isFn K (.ref f21)=true) (l21:K.lookup f21=some ⟨oc21,od21,.func (PySem.W.fnOf "sheets" "Bench.sheets" (Zak Zbj) (Zai Zbj) (Zab Zbj) .none kV21 dc21 pm21 an21 cd21 ct21),sl21⟩) (cc21:PySem.W.codeIn K cd21 "Bench.sheets"=true) (k21:PySem.W.keepIn K (.ref f21)=true)
  {f22:Addr} {od22 an22:Option Addr} {sl22:Array (Option Value)} {oc22 kV22 dc22 pm22 cd22 ct22:Value} (a22C:PySem.W.findIn K (.ref C) "areas"=some (some (.ref f22))) (i22:PySem.W.isFn K (.ref f22)=true) (l22:K.lookup f22=some ⟨oc22,od22,.func (PySem.W.fnOf "areas" "Bench.areas" (Zak Zbs) (Zai Zbs) (Zab Zbs) .none kV22 dc22 pm22 an22 cd22 ct22),sl22⟩) (cc22:PySem.W.codeIn K cd22 "Bench.areas"=true) (k22:PySem.W.keepIn K (.ref f22)=true)
  {f23:Addr} {od23 an23:Option Addr} {sl23:Array (Option Value)} {oc23 kV23 dc23 pm23 cd23 ct23:Value} (a23C:PySem.W.findIn K (.ref C) "piece_for"=some (some (.ref f23))) (i23:PySem.W.isFn K (.ref f23)=true) (l23:K.lookup f23=some ⟨oc23,od23,.func (PySem.W.fnOf "piece_for" "Bench.piece_for" (Zak Za5) (Zai Za5) (Zab Za5) .none kV23 dc23 pm23 an23 cd23 ct23),sl23⟩) (cc23:PySem.W.codeIn K cd23 "Bench.piece_for"=true) (k23:PySem.W.keepIn K (.ref f23)=true)
  {f24:Addr} {od24 an24:Option Addr} {sl24:Array (Option Value)} {oc24 kV24 dc24 pm24 cd24 ct24:Value} {T24:Addr} {to24:Value} {td24:Option Addr} {ts24:Array (Option Value)} {ti24:Array Value} {tn24:Nat} (a24C:PySem.W.findIn K (.ref C) "cut"=some (some (.ref f24))) (i24:PySem.W.isFn K (.ref f24)=true) (l24:K.lookup f24=some ⟨oc24,od24,.func (PySem.W.fnOf "cut" "Bench.cut" (Zak Zcf) (Zai Zcf) (Zab Zcf) (.ref T24) kV24 dc24 pm24 an24 cd24 ct24),sl24⟩) (cc24:PySem.W.codeIn K cd24 "Bench.cut"=true) (k24:PySem.W.keepIn K (.ref f24)=true) (lT24:K.lookup T24=some ⟨to24,td24,.seq ti24 tn24,ts24⟩) (eT24:ti24=#[.bool false])
  {f25:Addr} {od25 an25:Option Addr} {sl25:Array (Option Value)} {oc25 kV25 dc25 pm25 cd25 ct25:Value} (a25:PySem.W.nsIn K mainGlobals "_law_cell"=some (some (.ref f25))) (l25:K.lookup f25=some ⟨oc25,od25,.func (PySem.W.fnOf "_law_cell" "_law_cell" (Zak Zce) (Zai Zce) (Zab Zce) .none kV25 dc25 pm25 an25 cd25 ct25),sl25⟩) (cc25:PySem.W.codeIn K cd25 "_law_cell"=true) (k25:PySem.W.keepIn K (.ref f25)=true)
  {f26:Addr} {od26 an26:Option Addr} {sl26:Array (Option Value)} {oc26 kV26 dc26 pm26 cd26 ct26:Value} (a26:PySem.W.nsIn K mainGlobals "_law_draw"=some (some (.ref f26))) (l26:K.lookup f26=some ⟨oc26,od26,.func (PySem.W.fnOf "_law_draw" "_law_draw" (Zak Zcd) (Zai Zcd) (Zab Zcd) .none kV26 dc26 pm26 an26 cd26 ct26),sl26⟩) (cc26:PySem.W.codeIn K cd26 "_law_draw"=true) (k26:PySem.W.keepIn K (.ref f26)=true)
  {f27:Addr} {od27 an27:Option Addr} {sl27:Array (Option Value)} {oc27 kV27 dc27 pm27 cd27 ct27:Value} (a27:PySem.W.nsIn K mainGlobals "_law_whole"=some (some (.ref f27))) (l27:K.lookup f27=some ⟨oc27,od27,.func (PySem.W.fnOf "_law_whole" "_law_whole" (Zak Zbz) (Zai Zbz) (Zab Zbz) .none kV27 dc27 pm27 an27 cd27 ct27),sl27⟩) (cc27:PySem.W.codeIn K cd27 "_law_whole"=true) (k27:PySem.W.keepIn K (.ref f27)=true)
  {f28:Addr} {od28 an28:Option Addr} {sl28:Array (Option Value)} {oc28 kV28 dc28 pm28 cd28 ct28:Value} (a28:PySem.W.nsIn K mainGlobals "_law_told"=some (some (.ref f28))) (l28:K.lookup f28=some ⟨oc28,od28,.func (PySem.W.fnOf "_law_told" "_law_told" (Zak Zcc) (Zai Zcc) (Zab Zcc) .none kV28 dc28 pm28 an28 cd28 ct28),sl28⟩) (cc28:PySem.W.codeIn K cd28 "_law_told"=true) (k28:PySem.W.keepIn K (.ref f28)=true)
  {f29:Addr} {od29 an29:Option Addr} {sl29:Array (Option Value)} {oc29 kV29 dc29 pm29 cd29 ct29:Value} (a29:PySem.W.nsIn K mainGlobals "_law_held"=some (some (.ref f29))) (l29:K.lookup f29=some ⟨oc29,od29,.func (PySem.W.fnOf "_law_held" "_law_held" (Zak Zbl) (Zai Zbl) (Zab Zbl) .none kV29 dc29 pm29 an29 cd29 ct29),sl29⟩) (cc29:PySem.W.codeIn K cd29 "_law_held"=true) (k29:PySem.W.keepIn K (.ref f29)=true)
  {f30:Addr} {od30 an30:Option Addr} {sl30:Array (Option Value)} {oc30 kV30 dc30 pm30 cd30 ct30:Value} (a30:PySem.W.nsIn K mainGlobals "_law_sheet"=some (some (.ref f30))) (l30:K.lookup f30=some ⟨oc30,od30,.func (PySem.W.fnOf "_law_sheet" "_law_sheet" (Zak Zb0) (Zai Zb0) (Zab Zb0) .none kV30 dc30 pm30 an30 cd30 ct30),sl30⟩) (cc30:PySem.W.codeIn K cd30 "_law_sheet"=true) (k30:PySem.W.keepIn K (.ref f30)=true)
  {f31:Addr} {od31 an31:Option Addr} {sl31:Array (Option Value)} {oc31 kV31 dc31 pm31 cd31 ct31:Value} (a31:PySem.W.nsIn K mainGlobals "_law_due"=some (some (.ref f31))) (l31:K.lookup f31=some ⟨oc31,od31,.func (PySem.W.fnOf "_law_due" "_law_due" (Zak Zbf) (Zai Zbf) (Zab Zbf) .none kV31 dc31 pm31 an31 cd31 ct31),sl31⟩) (cc31:PySem.W.codeIn K cd31 "_law_due"=true) (k31:PySem.W.keepIn K (.ref f31)=true)
  {f32:Addr} {od32 an32:Option Addr} {sl32:Array (Option Value)} {oc32 kV32 dc32 pm32 cd32 ct32:Value} (a32:PySem.W.nsIn K mainGlobals "_law_asked"=some (some (.ref f32))) (l32:K.lookup f32=some ⟨oc32,od32,.func (PySem.W.fnOf "_law_asked" "_law_asked" (Zak Zb1) (Zai Zb1) (Zab Zb1) .none kV32 dc32 pm32 an32 cd32 ct32),sl32⟩) (cc32:PySem.W.codeIn K cd32 "_law_asked"=true) (k32:PySem.W.keepIn K (.ref f32)=true)
  {f33:Addr} {od33 an33:Option Addr} {sl33:Array (Option Value)} {oc33 kV33 dc33 pm33 cd33 ct33:Value} (a33:PySem.W.nsIn K mainGlobals "_law_is"=some (some (.ref f33))) (l33:K.lookup f33=some ⟨oc33,od33,.func (PySem.W.fnOf "_law_is" "_law_is" (Zak Zc7) (Zai Zc7) (Zab Zc7) .none kV33 dc33 pm33 an33 cd33 ct33),sl33⟩) (cc33:PySem.W.codeIn K cd33 "_law_is"=true) (k33:PySem.W.keepIn K (.ref f33)=true)
  {f34:Addr} {od34 an34:Option Addr} {sl34:Array (Option Value)} {oc34 kV34 dc34 pm34 cd34 ct34:Value} (a34:PySem.W.nsIn K mainGlobals "law"=some (some (.ref f34))) (l34:K.lookup f34=some ⟨oc34,od34,.func (PySem.W.fnOf "law" "law" (Zak Zdc) (Zai Zdc) (Zab Zdc) .none kV34 dc34 pm34 an34 cd34 ct34),sl34⟩) (cc34:PySem.W.codeIn K cd34 "law"=true) (k34:PySem.W.keepIn K (.ref f34)=true)
  {bm:Addr} {bsl:Array (Option Value)} (abm:PySem.W.nsIn K mainGlobals "__builtins__"=some (some (.ref bm))) (lbm:K.lookup bm=some ⟨.type "module",some builtinsNs,.plain,bsl⟩) (nbm1:bm≠builtinsNs) (nbm2:bm≠mainGlobals)
  (z0:PySem.W.nsIn K mainGlobals "isinstance"=some none)
  (z1:PySem.W.nsIn K mainGlobals "int"=some none)
  (z2:PySem.W.nsIn K mainGlobals "bool"=some none)
  (z3:PySem.W.nsIn K mainGlobals "tuple"=some none)
  (z4:PySem.W.nsIn K mainGlobals "len"=some none)
  (z5:PySem.W.nsIn K mainGlobals "range"=some none)
  (z6:PySem.W.nsIn K mainGlobals "sorted"=some none)
  (z7:PySem.W.nsIn K mainGlobals "sum"=some none)
  (z8:PySem.W.nsIn K mainGlobals "min"=some none)
  (z9:PySem.W.nsIn K mainGlobals "enumerate"=some none)
  (z10:PySem.W.nsIn K mainGlobals "list"=some none)
  (z11:PySem.W.nsIn K mainGlobals "all"=some none)
  (z12:PySem.W.nsIn K mainGlobals "reversed"=some none)
  {tk0:Tok} (g0:PySem.W.nsIn K mainGlobals "LONGEST_SIDE"=some (some (.int 12 tk0)))
  {tk1:Tok} (g1:PySem.W.nsIn K mainGlobals "WHOLE"=some (some (.str "whole" tk1)))
  {tk2:Tok} (g2:PySem.W.nsIn K mainGlobals "UPRIGHT"=some (some (.str "upright" tk2)))
  {tk3:Tok} (g3:PySem.W.nsIn K mainGlobals "LEVEL"=some (some (.str "level" tk3)))
  {tk4:Tok} (g4:PySem.W.nsIn K mainGlobals "MOST_SHEETS"=some (some (.int 4 tk4)))
  {tk5:Tok} (g5:PySem.W.nsIn K mainGlobals "MOST_CUT"=some (some (.int 60 tk5)))
  : ∃ fd:FuncData,(∀ (s:Shared) (v:Value),BindsTo s fd ⟨[v],[]⟩ [("_law_script",v)])∧∀ base:Heap,K.In base→base.Ns mainGlobals mg→FnOk l.prog w K mg base CX0 8 fa fd ["_law_script"] (sp_law tb2 K):=by
 have e:=hfa.symm.trans (PySem.W.mg_of X G a34)
 cases e
 have T:Txt mg (tk0,tk1,tk2,tk3,tk4,tk5):=⟨PySem.W.mg_none_of X G z0,PySem.W.mg_none_of X G z1,PySem.W.mg_none_of X G z2,PySem.W.mg_none_of X G z3,PySem.W.mg_none_of X G z4,PySem.W.mg_none_of X G z5,PySem.W.mg_none_of X G z6,PySem.W.mg_none_of X G z7,PySem.W.mg_none_of X G z8,PySem.W.mg_none_of X G z9,PySem.W.mg_none_of X G z10,PySem.W.mg_none_of X G z11,PySem.W.mg_none_of X G z12,PySem.W.mg_of X G g0,PySem.W.mg_of X G g1,PySem.W.mg_of X G g2,PySem.W.mg_of X G g3,PySem.W.mg_of X G g4,PySem.W.mg_of X G g5⟩
 have BC:BCls K C:=⟨⟨pg_C,hd_C,po_C,sa_C⟩,n_C_stock,n_C_taken⟩
 obtain ⟨I_cW,mk_cW,kc_cW⟩:=icB_of ic_cW
 obtain ⟨I_cU,mk_cU,kc_cU⟩:=icB_of ic_cU
 obtain ⟨I_cL,mk_cL,kc_cL⟩:=icB_of ic_cL
 have R0:RT mg K cT cW cU cL:=rt_of kit I_cW I_cU I_cL (PySem.W.mg_of X G aT) (PySem.W.mg_of X G aC_cW) (PySem.W.mg_of X G aC_cU) (PySem.W.mg_of X G aC_cL)
 have kq0:=beq_iff_eq.mp kt0
 have kq1:=beq_iff_eq.mp kt1
 have kq2:=beq_iff_eq.mp kt2
 have kq3:=beq_iff_eq.mp kt3
 have hB0:BmIn K mg:=⟨bm,bsl,PySem.W.mg_of X G abm,nbm1,nbm2,lbm⟩
 have RG0:RG mg K cG cGl cH cS cM:=⟨PySem.W.mg_of X G aG,PySem.W.mg_of X G aC_cGl,PySem.W.mg_of X G aC_cH,PySem.W.mg_of X G aC_cS,PySem.W.mg_of X G aC_cM,eG,xm_cGl,XCls.of xc_cGl,nC_cGl,nC2_cGl,kq0,kq1,kq2,kq3⟩
 have F_cW:FunD K "__init__" "Whole.__init__" Zb2 f_cW _:=⟨⟨_,_,_,_,_,_,_,_,_,_,_,tn_cW,rfl,l_cW,cc_cW,lT_cW,by rw [eT_cW]⟩,k_cW⟩
 have b_cW:=F_cW.binds (ps:=["self","mark"]) (ds:=[]) fun _ _ _ _ _ _ _ us hl=>by obtain ⟨u0,u1,rfl⟩:=len2 ((List.append_nil us) ▸ hl); exact ⟨_,rfl,rfl⟩
 have F_cU:=Za0 (st:=Zbg) l_cU cc_cU k_cU
 have b_cU:=F_cU.binds (ps:=["self","at","first","other"]) fun _ _ _ _ _ _ us hl=>by obtain ⟨u0,u1,u2,u3,rfl⟩:=len4 hl; rfl
 have F_cL:=Za0 (st:=Zb3) l_cL cc_cL k_cL
 have b_cL:=F_cL.binds (ps:=["self","at","first","other"]) fun _ _ _ _ _ _ us hl=>by obtain ⟨u0,u1,u2,u3,rfl⟩:=len4 hl; rfl
 have F_cGl:=Za0 (st:=Zbi) l_cGl cc_cGl k_cGl
 have b_cGl:=F_cGl.binds (ps:=["self","width","height"]) fun _ _ _ _ _ _ us hl=>by obtain ⟨u0,u1,u2,rfl⟩:=len3 hl; rfl
 have F_cM:=Za0 (st:=Zbh) l_cM cc_cM k_cM
 have b_cM:=F_cM.binds (ps:=["self","many"]) fun _ _ _ _ _ _ us hl=>by obtain ⟨u0,u1,rfl⟩:=len2 hl; rfl
 have F0:=Za0 (st:=Zcn) l0 cc0 k0
 have b0:=F0.binds (ps:=["thing"]) fun _ _ _ _ _ _ us hl=>by obtain ⟨u0,rfl⟩:=len1 hl; rfl
 have F1:=Za0 (st:=Zc5) l1 cc1 k1
 have b1:=F1.binds (ps:=["thing"]) fun _ _ _ _ _ _ us hl=>by obtain ⟨u0,rfl⟩:=len1 hl; rfl
 have F2:=Za0 (st:=Zc4) l2 cc2 k2
 have b2:=F2.binds (ps:=["rectangle"]) fun _ _ _ _ _ _ us hl=>by obtain ⟨u0,rfl⟩:=len1 hl; rfl
 have F3:=Za0 (st:=Zc6) l3 cc3 k3
 have b3:=F3.binds (ps:=["rectangle"]) fun _ _ _ _ _ _ us hl=>by obtain ⟨u0,rfl⟩:=len1 hl; rfl
 have F4:=Za0 (st:=Zbr) l4 cc4 k4
 have b4:=F4.binds (ps:=["width","height"]) fun _ _ _ _ _ _ us hl=>by obtain ⟨u0,u1,rfl⟩:=len2 hl; rfl
 have F5:=Za0 (st:=Zcq) l5 cc5 k5
 have b5:=F5.binds (ps:=["word","at","first","other"]) fun _ _ _ _ _ _ us hl=>by obtain ⟨u0,u1,u2,u3,rfl⟩:=len4 hl; rfl
 have F6:=Za0 (st:=Zcb) l6 cc6 k6
 have b6:=F6.binds (ps:=["entries"]) fun _ _ _ _ _ _ us hl=>by obtain ⟨u0,rfl⟩:=len1 hl; rfl
 have F7:=Za0 (st:=Zbq) l7 cc7 k7
 have b7:=F7.binds (ps:=["piece","word","at"]) fun _ _ _ _ _ _ us hl=>by obtain ⟨u0,u1,u2,rfl⟩:=len3 hl; rfl
 have F8:=Za0 (st:=Zbp) l8 cc8 k8
 have b8:=F8.binds (ps:=["piece","word","at"]) fun _ _ _ _ _ _ us hl=>by obtain ⟨u0,u1,u2,rfl⟩:=len3 hl; rfl
 have F9:=Za0 (st:=Zby) l9 cc9 k9
 have b9:=F9.binds (ps:=["sheet","entry_at"]) fun _ _ _ _ _ _ us hl=>by obtain ⟨u0,u1,rfl⟩:=len2 hl; rfl
 have F10:=Za0 (st:=Zbo) l10 cc10 k10
 have b10:=F10.binds (ps:=["want"]) fun _ _ _ _ _ _ us hl=>by obtain ⟨u0,rfl⟩:=len1 hl; rfl
 have F11:=Za0 (st:=Zca) l11 cc11 k11
 have b11:=F11.binds (ps:=["want","width","height"]) fun _ _ _ _ _ _ us hl=>by obtain ⟨u0,u1,u2,rfl⟩:=len3 hl; rfl
 have F12:=Za0 (st:=Zco) l12 cc12 k12
 have b12:=F12.binds (ps:=["thing"]) fun _ _ _ _ _ _ us hl=>by obtain ⟨u0,rfl⟩:=len1 hl; rfl
 have F13:=Za0 (st:=Zbe) l13 cc13 k13
 have b13:=F13.binds (ps:=["sheets"]) fun _ _ _ _ _ _ us hl=>by obtain ⟨u0,rfl⟩:=len1 hl; rfl
 have F14:=Za0 (st:=Zed) l14 cc14 k14
 have b14:=F14.binds (ps:=["piece","want"]) fun _ _ _ _ _ _ us hl=>by obtain ⟨u0,u1,rfl⟩:=len2 hl; rfl
 have F15:=Za0 (st:=Zcp) l15 cc15 k15
 have b15:=F15.binds (ps:=["entries","piece","want","number"]) fun _ _ _ _ _ _ us hl=>by obtain ⟨u0,u1,u2,u3,rfl⟩:=len4 hl; rfl
 have F16:=func_mk (st:=Zbd) l16 cc16 k16 ec16
 have b16:=F16.fn.binds (ps:=["entries","sheet"]) fun _ _ _ _ _ _ us hl=>by obtain ⟨u0,u1,rfl⟩:=len2 hl; rfl
 have F17:=Za0 (st:=Zb4) l17 cc17 k17
 have b17:=F17.binds (ps:=["self","sheets"]) fun _ _ _ _ _ _ us hl=>by obtain ⟨u0,u1,rfl⟩:=len2 hl; rfl
 have F18:=Za0 (st:=Zaz) l18 cc18 k18
 have b18:=F18.binds (ps:=["self"]) fun _ _ _ _ _ _ us hl=>by obtain ⟨u0,rfl⟩:=len1 hl; rfl
 have F19:=Za0 (st:=Za6) l19 cc19 k19
 have b19:=F19.binds (ps:=["self"]) fun _ _ _ _ _ _ us hl=>by obtain ⟨u0,rfl⟩:=len1 hl; rfl
 have F20:=Za0 (st:=Zba) l20 cc20 k20
 have b20:=F20.binds (ps:=["self"]) fun _ _ _ _ _ _ us hl=>by obtain ⟨u0,rfl⟩:=len1 hl; rfl
 have F21:=Za0 (st:=Zbj) l21 cc21 k21
 have b21:=F21.binds (ps:=["self"]) fun _ _ _ _ _ _ us hl=>by obtain ⟨u0,rfl⟩:=len1 hl; rfl
 have F22:=Za0 (st:=Zbs) l22 cc22 k22
 have b22:=F22.binds (ps:=["self"]) fun _ _ _ _ _ _ us hl=>by obtain ⟨u0,rfl⟩:=len1 hl; rfl
 have F23:=Za0 (st:=Za5) l23 cc23 k23
 have b23:=F23.binds (ps:=["self","want"]) fun _ _ _ _ _ _ us hl=>by obtain ⟨u0,u1,rfl⟩:=len2 hl; rfl
 have F24:FunF K "cut" "Bench.cut" Zcf f24 _ (.bool false):=⟨⟨_,_,_,_,_,_,_,_,_,_,_,tn24,rfl,l24,cc24,lT24,by rw [eT24]⟩,k24⟩
 have b24:=F24.binds (ps:=["self","width","height","turns"]) (ds:=[]) fun _ _ _ _ _ _ _ us hl=>by obtain ⟨u0,u1,u2,u3,rfl⟩:=len4 ((List.append_nil us) ▸ hl); exact ⟨_,rfl,rfl⟩
 have F25:=Za0 (st:=Zce) l25 cc25 k25
 have b25:=F25.binds (ps:=["_law_script","_law_k"]) fun _ _ _ _ _ _ us hl=>by obtain ⟨u0,u1,rfl⟩:=len2 hl; rfl
 have F26:=Za0 (st:=Zcd) l26 cc26 k26
 have b26:=F26.binds (ps:=["_law_cell_here","_law_nth","_law_many"]) fun _ _ _ _ _ _ us hl=>by obtain ⟨u0,u1,u2,rfl⟩:=len3 hl; rfl
 have F27:=Za0 (st:=Zbz) l27 cc27 k27
 have b27:=F27.binds (ps:=["_law_found"]) fun _ _ _ _ _ _ us hl=>by obtain ⟨u0,rfl⟩:=len1 hl; rfl
 have F28:=Za0 (st:=Zcc) l28 cc28 k28
 have b28:=F28.binds (ps:=["_law_tree"]) fun _ _ _ _ _ _ us hl=>by obtain ⟨u0,rfl⟩:=len1 hl; rfl
 have F29:=Za0 (st:=Zbl) l29 cc29 k29
 have b29:=F29.binds (ps:=["_law_size","_law_width","_law_height","_law_flip"]) fun _ _ _ _ _ _ us hl=>by obtain ⟨u0,u1,u2,u3,rfl⟩:=len4 hl; rfl
 have F30:=Za0 (st:=Zb0) l30 cc30 k30
 have b30:=F30.binds (ps:=["_law_sheets","_law_width","_law_height","_law_flip"]) fun _ _ _ _ _ _ us hl=>by obtain ⟨u0,u1,u2,u3,rfl⟩:=len4 hl; rfl
 have F31:=Za0 (st:=Zbf) l31 cc31 k31
 have b31:=F31.binds (ps:=["_law_size","_law_wide","_law_high"]) fun _ _ _ _ _ _ us hl=>by obtain ⟨u0,u1,u2,rfl⟩:=len3 hl; rfl
 have F32:=Za0 (st:=Zb1) l32 cc32 k32
 have b32:=F32.binds (ps:=["_law_bench","_law_width","_law_height","_law_flip","_law_way"]) fun _ _ _ _ _ _ us hl=>by obtain ⟨u0,u1,u2,u3,u4,rfl⟩:=len5 hl; rfl
 have F33:=Za0 (st:=Zc7) l33 cc33 k33
 have b33:=F33.binds (ps:=["_law_bench","_law_taken","_law_offcuts","_law_areas"]) fun _ _ _ _ _ _ us hl=>by obtain ⟨u0,u1,u2,u3,rfl⟩:=len4 hl; rfl
 have F34:=Za0 (st:=Zdc) l34 cc34 k34
 refine ⟨PySem.W.fnOf "law" "law" (Zak Zdc) (Zai Zdc) (Zab Zdc) .none kV34 dc34 pm34 an34 cd34 ct34,fun s v=>.of_eq rfl,fun base _ _=>?_⟩
 have K_Whole:MkOk l.prog w K mg base 1 "Whole" cW ["self","mark"] (sp_iW cW):=⟨_,_,⟨mk_cW,a_cWcW,i_cW,kc_cW⟩,Zhh F_cW R0,PySem.W.mg_of X G aC_cW,b_cW⟩
 have K_Upright:MkOk l.prog w K mg base 1 "Upright" cU ["self","at","first","other"] (sp_iC cU):=⟨_,_,⟨mk_cU,a_cUcU,i_cU,kc_cU⟩,Zfl F_cU R0,PySem.W.mg_of X G aC_cU,b_cU⟩
 have K_Level:MkOk l.prog w K mg base 1 "Level" cL ["self","at","first","other"] (sp_iC cL):=⟨_,_,⟨mk_cL,a_cLcL,i_cL,kc_cL⟩,Zhi F_cL R0,PySem.W.mg_of X G aC_cL,b_cL⟩
 have X_NoGlass:XMkOk l.prog w K mg base 1 "NoGlass" cGl ["self","width","height"] ["width","height"]:=⟨by decide,f_cGl,_,⟨XCls.of xc_cGl,ei_cGl,kC_cGl,i_cGl⟩,Zfn F_cGl (XCls.of xc_cGl) nC_cGl nC2_cGl,PySem.W.mg_of X G aC_cGl,b_cGl⟩
 have X_TooMany:XMkOk l.prog w K mg base 1 "TooMany" cM ["self","many"] ["many"]:=⟨by decide,f_cM,_,⟨XCls.of xc_cM,ei_cM,kC_cM,i_cM⟩,Zfm F_cM (XCls.of xc_cM) nC_cM,PySem.W.mg_of X G aC_cM,b_cM⟩
 have D_is_whole:DefOk l.prog w K mg base 1 "is_whole" ["thing"] Zg5:=⟨_,_,Zj1 F0 T,PySem.W.mg_of X G a0,k0,b0⟩
 have D_is_side:DefOk l.prog w K mg base 2 "is_side" ["thing"] Zg7:=⟨_,_,ok_is_side F1 T D_is_whole,PySem.W.mg_of X G a1,k1,b1⟩
 have D_size_of:DefOk l.prog w K mg base 1 "size_of" ["rectangle"] Ze3:=⟨_,_,ok_size_of F2,PySem.W.mg_of X G a2,k2,b2⟩
 have D_area_of:DefOk l.prog w K mg base 1 "area_of" ["rectangle"] Ze5:=⟨_,_,ok_area_of F3,PySem.W.mg_of X G a3,k3,b3⟩
 have D_check_sides:DefOk l.prog w K mg base 3 "check_sides" ["width","height"] Zg6:=⟨_,_,Zf9 F4 D_is_side,PySem.W.mg_of X G a4,k4,b4⟩
 have D_cut_from:DefOk l.prog w K mg base 3 "cut_from" ["word","at","first","other"] (Zd9 cW cU cL):=⟨_,_,Zj4 F5 T K_Upright K_Level,PySem.W.mg_of X G a5,k5,b5⟩
 have D_tree_from:DefOk l.prog w K mg base 4 "tree_from" ["entries"] (Zjl K cW cU cL):=⟨_,_,Zij F6 T R0 K_Whole D_cut_from,PySem.W.mg_of X G a6,k6,b6⟩
 have D_first_piece:DefOk l.prog w K mg base 1 "first_piece" ["piece","word","at"] Zk3:=⟨_,_,Zf8 F7 T,PySem.W.mg_of X G a7,k7,b7⟩
 have D_other_piece:DefOk l.prog w K mg base 1 "other_piece" ["piece","word","at"] Zk1:=⟨_,_,Zf7 F8 T,PySem.W.mg_of X G a8,k8,b8⟩
 have D_entries_by:DefOk l.prog w K mg base 4 "entries_by" ["sheet","entry_at"] (sp_by l.prog w K mg base):=⟨_,_,Zhg F9 T D_first_piece D_other_piece,PySem.W.mg_of X G a9,k9,b9⟩
 have D_ways_to_lie:DefOk l.prog w K mg base 1 "ways_to_lie" ["want"] Zji:=⟨_,_,Zf6 F10,PySem.W.mg_of X G a10,k10,b10⟩
 have D_ways_held:DefOk l.prog w K mg base 2 "ways_held" ["want","width","height"] Ze2:=⟨_,_,Zii F11 D_ways_to_lie,PySem.W.mg_of X G a11,k11,b11⟩
 have D_is_sheet:DefOk l.prog w K mg base 3 "is_sheet" ["thing"] Zg8:=⟨_,_,Zj2 F12 T D_is_side,PySem.W.mg_of X G a12,k12,b12⟩
 have D_check_sheets:DefOk l.prog w K mg base 4 "check_sheets" ["sheets"] Zea:=⟨_,_,Zfk F13 T D_is_sheet,PySem.W.mg_of X G a13,k13,b13⟩
 have D_holds:DefOk l.prog w K mg base 3 "holds" ["piece","want"] Zg9:=⟨_,_,ok_holds F14 T D_size_of D_ways_held,PySem.W.mg_of X G a14,k14,b14⟩
 have D_cut_pane:DefOk l.prog w K mg base 3 "cut_pane" ["entries","piece","want","number"] Zd8:=⟨_,_,Zj3 F15 T D_size_of D_ways_held D_first_piece D_other_piece,PySem.W.mg_of X G a15,k15,b15⟩
 have D_tree_in:DefOk l.prog w K mg base 5 "tree_in" ["entries","sheet"] (Zfa tb2 cW cU cL):=⟨_,_,ok_tree_in F16 hC16 hB0 D_entries_by D_tree_from,PySem.W.mg_of X G a16,k16,b16⟩
 have K_Bench:MkOk l.prog w K mg base 5 "Bench" C ["self","sheets"] (Zhb C):=⟨_,_,⟨mk_C,a17C,i17,kc_C⟩,Zhj F17 BC D_check_sheets,PySem.W.mg_of X G aC,b17⟩
 have M_Bench_whole_pieces:MdOk l.prog w K mg base 1 C "whole_pieces" ["self"] (Zdk C):=⟨⟨pg_C,hd_C,po_C,sa_C⟩,_,_,⟨a18C,i18,k18⟩,Zdf F18 T BC,b18⟩
 have M_Bench_panes_cut:MdOk l.prog w K mg base 2 C "panes_cut" ["self"] (Zc9 C):=⟨⟨pg_C,hd_C,po_C,sa_C⟩,_,_,⟨a19C,i19,k19⟩,Zd2 F19 BC M_Bench_whole_pieces,b19⟩
 have M_Bench_offcuts:MdOk l.prog w K mg base 2 C "offcuts" ["self"] (Zc3 C):=⟨⟨pg_C,hd_C,po_C,sa_C⟩,_,_,⟨a20C,i20,k20⟩,Zew F20 T BC M_Bench_whole_pieces,b20⟩
 have M_Bench_sheets:MdOk l.prog w K mg base 6 C "sheets" ["self"] (Zeb tb2 C cW cU cL):=⟨⟨pg_C,hd_C,po_C,sa_C⟩,_,_,⟨a21C,i21,k21⟩,Zfo F21 BC D_tree_in,b21⟩
 have M_Bench_areas:MdOk l.prog w K mg base 3 C "areas" ["self"] (Zha C):=⟨⟨pg_C,hd_C,po_C,sa_C⟩,_,_,⟨a22C,i22,k22⟩,Zga F22 T BC D_area_of M_Bench_panes_cut M_Bench_offcuts,b22⟩
 have M_Bench_piece_for:MdOkX l.prog w K mg base 4 C "piece_for" ["self","want"] (Zdq C cGl):=⟨⟨pg_C,hd_C,po_C,sa_C⟩,_,_,⟨a23C,i23,k23⟩,Zd1 F23 T BC X_NoGlass D_area_of D_holds M_Bench_offcuts,b23⟩
 have M_Bench_cut:MdOkX l.prog w K mg base 5 C "cut" ["self","width","height","turns"] (Zdu C cGl):=⟨⟨pg_C,hd_C,po_C,sa_C⟩,_,_,⟨a24C,i24,k24⟩,Zcz F24 T BC X_TooMany D_check_sides D_cut_pane M_Bench_panes_cut M_Bench_piece_for,b24⟩
 have M2_Bench_cut:MdK l.prog w K mg base 5 C "cut" ["self","width","height","turns"] [] (fun us _=>us++[.bool false]) (fun vs _=>vs++[.bl false]) (Zdu C cGl):=⟨⟨pg_C,hd_C,po_C,sa_C⟩,_,_,⟨a24C,i24,k24⟩,Zcz F24 T BC X_TooMany D_check_sides D_cut_pane M_Bench_panes_cut M_Bench_piece_for,F24.kbinds (fun _ _ _ _ _ _ _ us ws hl=>by obtain ⟨u0,u1,u2,rfl⟩:=len3 (by rw [List.length_append] at hl; exact Nat.succ.inj hl); exact ⟨_,rfl,rfl⟩) (fun r _=>r.append (.cons rfl .nil))⟩
 have Mk_Bench_cut:MdK l.prog w K mg base 5 C "cut" ["self","width","height","turns"] ["turns"] kg kgV (Zdu C cGl):=⟨⟨pg_C,hd_C,po_C,sa_C⟩,_,_,⟨a24C,i24,k24⟩,Zcz F24 T BC X_TooMany D_check_sides D_cut_pane M_Bench_panes_cut M_Bench_piece_for,F24.kbinds (fun _ _ _ _ _ _ _ us ws hl=>by obtain ⟨u0,u1,u2,u3,rfl,rfl⟩:=kg_len hl; exact ⟨_,rfl,rfl⟩) (kg_rel)⟩
 have M3_Bench_cut:MdK l.prog w K mg base 5 C "cut" ["self","width","height","turns"] [] (fun us _=>us) (fun vs _=>vs) (Zdu C cGl):=⟨⟨pg_C,hd_C,po_C,sa_C⟩,_,_,⟨a24C,i24,k24⟩,Zcz F24 T BC X_TooMany D_check_sides D_cut_pane M_Bench_panes_cut M_Bench_piece_for,F24.kbinds (fun _ _ _ _ _ _ _ us ws hl=>by obtain ⟨u0,u1,u2,u3,rfl⟩:=len4 hl; exact ⟨_,rfl,rfl⟩) (fun r _=>r)⟩
 have D__law_cell:DefOk l.prog w K mg base 1 "_law_cell" ["_law_script","_law_k"] (Zjn K):=⟨_,_,Zj0 F25 T,PySem.W.mg_of X G a25,k25,b25⟩
 have D__law_draw:DefOk l.prog w K mg base 1 "_law_draw" ["_law_cell_here","_law_nth","_law_many"] Zjm:=⟨_,_,Zjz F26,PySem.W.mg_of X G a26,k26,b26⟩
 have D__law_whole:DefOk l.prog w K mg base 1 "_law_whole" ["_law_found"] Zds:=⟨_,_,Zik F27 T,PySem.W.mg_of X G a27,k27,b27⟩
 have A__law_told:∀ n:Nat,DefOk l.prog w K mg base (n+3) "_law_told" ["_law_tree"] (Zdt cW cU cL n):=fun n=>by
  induction n with
  | zero=>exact ⟨_,_,fn_none F28 Zg1 (fun _ _ _ _=>ltold0),PySem.W.mg_of X G a28,k28,b28⟩
  | succ n ih=>exact ⟨_,_,Zjx F28 T R0 D__law_whole ih,PySem.W.mg_of X G a28,k28,b28⟩
 have D__law_told:=A__law_told 3
 have D__law_held:DefOk l.prog w K mg base 1 "_law_held" ["_law_size","_law_width","_law_height","_law_flip"] Ze4:=⟨_,_,Zjy F29,PySem.W.mg_of X G a29,k29,b29⟩
 have D__law_sheet:DefOk l.prog w K mg base 2 "_law_sheet" ["_law_sheets","_law_width","_law_height","_law_flip"] Zfb:=⟨_,_,Zil F30 T D__law_held,PySem.W.mg_of X G a30,k30,b30⟩
 have D__law_due:DefOk l.prog w K mg base 1 "_law_due" ["_law_size","_law_wide","_law_high"] Zjj:=⟨_,_,ok_law_due F31 T,PySem.W.mg_of X G a31,k31,b31⟩
 have D__law_asked:DefOk l.prog w K mg base 6 "_law_asked" ["_law_bench","_law_width","_law_height","_law_flip","_law_way"] (Zjk C):=⟨_,_,Zim F32 T RG0 M2_Bench_cut Mk_Bench_cut M3_Bench_cut,PySem.W.mg_of X G a32,k32,b32⟩
 have D__law_is:DefOk l.prog w K mg base 7 "_law_is" ["_law_bench","_law_taken","_law_offcuts","_law_areas"] (Zk2 tb2 C):=⟨_,_,ok_law_is F33 T D__law_whole D__law_told M_Bench_sheets M_Bench_offcuts M_Bench_areas,PySem.W.mg_of X G a33,k33,b33⟩
 exact ok_law F34 T K_Bench D__law_cell D__law_draw D__law_asked D__law_sheet D__law_held D__law_due D__law_is
theorem walk (tb2:Addr) {l:PySem.W.OpenLaw} {q:Program} {loose:List Str} {XP:(Str→Option Value)→Heap→Prop} {YP:World→Heap→Prop} {d:DefRec} {K:Params→PySem.W.Frag} {Ts:List Addr} (hm_tb2:tb2∈Ts) (hn:l.most=some 63) (hdf:d.params.defaults=[])
  (hY:∀ (w:World) (h:Heap),YP w h→(K w.params).In h) (hT:∀ (w:World) (h:Heap),YP w h→∀ T∈Ts,h.get? T=some (PySem.W.tabObj #[])∧(K w.params).lookup T=none∧∃ c,PySem.W.CodeHd h c T)
  (F:∀ (w:World) (mg:Str→Option Value) (fa:Addr) (h:Heap),(K w.params).In h→h.Ns mainGlobals mg→mg d.name=some (.ref fa) →
   ∃ fd:FuncData,(∀ (s:Shared) (u:Value),BindsTo s fd ⟨[u],[]⟩ [("_law_script",u)])∧∀ base:Heap,(K w.params).In base→base.Ns mainGlobals mg→FnOk l.prog w (K w.params) mg base CX0 8 fa fd ["_law_script"] (sp_law tb2 (K w.params))) :
  PySem.W.WalkO q loose XP YP l.row.toRowW d [] (fun f vs=>PySem.call f vs) :=
 L2.walk_ofT (n:=63) (k:=8) (x:="_law_script") (CX:=fun _=>CX0) (sp:=fun w=>sp_law tb2 (K w.params)) hn (by decide) hdf ⟨rfl,by decide,by decide⟩ hY hT F (fun _ _ a ns hl hO hS=>⟨a,ns,rfl,hS,hl,hO.2 tb2 hm_tb2,fun _=>rfl⟩) fun _ _ _ _ _ z=>z
end K70
open PySem PySem.W PyProof.Rows
set_option maxRecDepth 100000 in
set_option maxHeartbeats 0 in
theorem PySem.Challenge.cw_glazebench_k70_a_pane_cut_holds : PySem.Challenge.rw_glazebench_k70_a_pane_cut.Holds := by
 refine KH.prep fun said => ?_
 have fx : ∀ s, KH.Xp PySem.Challenge.pw_glazebench_k70_a_pane_cut s = true → XL (KH.qv PySem.Challenge.pw_glazebench_k70_a_pane_cut) [] (s.heap.nsMap mainGlobals) s.heap := fun s e => xl_of s (Bool.and_eq_true_iff.mp e).1
 have fr : ∀ s, KH.Xp PySem.Challenge.pw_glazebench_k70_a_pane_cut s = true → RecFacts (RowW.records (OpenRow.toRowW PySem.Challenge.rw_glazebench_k70_a_pane_cut.row)) s.heap := fun s e => recFacts_of (Bool.and_eq_true_iff.mp e).2
 refine holds_open (XP := XL (KH.qv PySem.Challenge.pw_glazebench_k70_a_pane_cut) []) KH.left (L2.hookT (kHook KH.KK KH.kas KH.kas_is) KH.Ts).of (L2.hookT (kHook KH.KK KH.kas KH.kas_is) KH.Ts).keeps fx XL.keeps (by rfl) (by rfl) (by rfl) fr (by rfl) said (by decide +kernel) ?hb ?hw ?hc
 case hb => exact ⟨rfl,rfl, rfl,rfl, rfl, by decide +kernel⟩
 case hw => w_witness2
 case hc =>
  k_fill
  refine K70.walk (l := PySem.Challenge.rw_glazebench_k70_a_pane_cut) (Ts := KH.Ts) 355 (by simp [KH.Ts]) rfl rfl (fun w h Y => PySem.W.kIn_of Y.1) ?HT ?F
  case HT =>
   intro w h Y T hT
   refine ⟨Y.2 T hT, ?_⟩
   have hT : T ∈ [355] := hT
   simp only [List.mem_cons, List.not_mem_nil, or_false] at hT
   subst hT
   ·exact ⟨by kernel_rfl, 359, L2.codeTB_of (c := 359) (T := 355) (by kernel_rfl) h (PySem.W.kIn_of Y.1)⟩
  case F =>
   intro w mg fa h KX G hmg
   refine' K70.all_mk (tb2 := 355) KX G hmg ?my_aC ?my_pg_C ?my_hd_C ?my_po_C ?my_sa_C ?my_mk_C ?my_kc_C ?my_n_C_stock ?my_n_C_taken ?my_aT ?my_aC_cW ?my_ic_cW ?my_a_cWcW ?my_i_cW ?my_l_cW ?my_cc_cW ?my_k_cW ?my_lT_cW ?my_eT_cW ?my_aC_cU ?my_ic_cU ?my_a_cUcU ?my_i_cU ?my_l_cU ?my_cc_cU ?my_k_cU ?my_aC_cL ?my_ic_cL ?my_a_cLcL ?my_i_cL ?my_l_cL ?my_cc_cL ?my_k_cL ?my_kit ?my_aG ?my_eG ?my_aC_cGl ?my_kC_cGl ?my_nC_cGl ?my_nC2_cGl ?my_a_cGlcGl ?my_i_cGl ?my_l_cGl ?my_cc_cGl ?my_k_cGl ?my_ei_cGl ?my_xc_cGl ?my_xm_cGl ?my_aC_cM ?my_kC_cM ?my_nC_cM ?my_a_cMcM ?my_i_cM ?my_l_cM ?my_cc_cM ?my_k_cM ?my_ei_cM ?my_xc_cM ?my_xm_cM ?my_aC_cH ?my_aC_cS ?my_kt0 ?my_kt1 ?my_kt2 ?my_kt3 ?my_a0 ?my_l0 ?my_cc0 ?my_k0 ?my_a1 ?my_l1 ?my_cc1 ?my_k1 ?my_a2 ?my_l2 ?my_cc2 ?my_k2 ?my_a3 ?my_l3 ?my_cc3 ?my_k3 ?my_a4 ?my_l4 ?my_cc4 ?my_k4 ?my_a5 ?my_l5 ?my_cc5 ?my_k5 ?my_a6 ?my_l6 ?my_cc6 ?my_k6 ?my_a7 ?my_l7 ?my_cc7 ?my_k7 ?my_a8 ?my_l8 ?my_cc8 ?my_k8 ?my_a9 ?my_l9 ?my_cc9 ?my_k9 ?my_a10 ?my_l10 ?my_cc10 ?my_k10 ?my_a11 ?my_l11 ?my_cc11 ?my_k11 ?my_a12 ?my_l12 ?my_cc12 ?my_k12 ?my_a13 ?my_l13 ?my_cc13 ?my_k13 ?my_a14 ?my_l14 ?my_cc14 ?my_k14 ?my_a15 ?my_l15 ?my_cc15 ?my_k15 ?my_a16 ?my_l16 ?my_cc16 ?my_k16 ?my_ec16 ?my_hC16 ?my_a17C ?my_i17 ?my_l17 ?my_cc17 ?my_k17 ?my_a18C ?my_i18 ?my_l18 ?my_cc18 ?my_k18 ?my_a19C ?my_i19 ?my_l19 ?my_cc19 ?my_k19 ?my_a20C ?my_i20 ?my_l20 ?my_cc20 ?my_k20 ?my_a21C ?my_i21 ?my_l21 ?my_cc21 ?my_k21 ?my_a22C ?my_i22 ?my_l22 ?my_cc22 ?my_k22 ?my_a23C ?my_i23 ?my_l23 ?my_cc23 ?my_k23 ?my_a24C ?my_i24 ?my_l24 ?my_cc24 ?my_k24 ?my_lT24 ?my_eT24 ?my_a25 ?my_l25 ?my_cc25 ?my_k25 ?my_a26 ?my_l26 ?my_cc26 ?my_k26 ?my_a27 ?my_l27 ?my_cc27 ?my_k27 ?my_a28 ?my_l28 ?my_cc28 ?my_k28 ?my_a29 ?my_l29 ?my_cc29 ?my_k29 ?my_a30 ?my_l30 ?my_cc30 ?my_k30 ?my_a31 ?my_l31 ?my_cc31 ?my_k31 ?my_a32 ?my_l32 ?my_cc32 ?my_k32 ?my_a33 ?my_l33 ?my_cc33 ?my_k33 ?my_a34 ?my_l34 ?my_cc34 ?my_k34 ?my_abm ?my_lbm ?my_nbm1 ?my_nbm2 ?my_z0 ?my_z1 ?my_z2 ?my_z3 ?my_z4 ?my_z5 ?my_z6 ?my_z7 ?my_z8 ?my_z9 ?my_z10 ?my_z11 ?my_z12 ?my_g0 ?my_g1 ?my_g2 ?my_g3 ?my_g4 ?my_g5
   (case my_aC => k_is); (case my_pg_C => k_is); (case my_hd_C => k_is); (case my_po_C => k_is); (case my_sa_C => k_is); (case my_mk_C => k_is); (case my_kc_C => k_is); (case my_n_C_stock => k_is)
   (case my_n_C_taken => k_is); (case my_aT => k_is); (case my_aC_cW => k_is); (case my_a_cWcW => k_is); (case my_i_cW => k_is); (case my_l_cW => k_is); (case my_cc_cW => k_is); (case my_k_cW => k_is)
   (case my_lT_cW => k_is); (case my_aC_cU => k_is); (case my_a_cUcU => k_is); (case my_i_cU => k_is); (case my_l_cU => k_is); (case my_cc_cU => k_is); (case my_k_cU => k_is); (case my_aC_cL => k_is)
   (case my_a_cLcL => k_is); (case my_i_cL => k_is); (case my_l_cL => k_is); (case my_cc_cL => k_is); (case my_k_cL => k_is); (case my_aG => k_is); (case my_aC_cGl => k_is); (case my_kC_cGl => k_is)
   (case my_nC_cGl => k_is); (case my_nC2_cGl => k_is); (case my_a_cGlcGl => k_is); (case my_i_cGl => k_is); (case my_l_cGl => k_is); (case my_cc_cGl => k_is); (case my_k_cGl => k_is); (case my_xm_cGl => k_is)
   (case my_aC_cM => k_is); (case my_kC_cM => k_is); (case my_nC_cM => k_is); (case my_a_cMcM => k_is); (case my_i_cM => k_is); (case my_l_cM => k_is); (case my_cc_cM => k_is); (case my_k_cM => k_is)
   (case my_xm_cM => k_is); (case my_aC_cH => k_is); (case my_aC_cS => k_is); (case my_a0 => k_is); (case my_l0 => k_is); (case my_cc0 => k_is); (case my_k0 => k_is); (case my_a1 => k_is)
   (case my_l1 => k_is); (case my_cc1 => k_is); (case my_k1 => k_is); (case my_a2 => k_is); (case my_l2 => k_is); (case my_cc2 => k_is); (case my_k2 => k_is); (case my_a3 => k_is)
   (case my_l3 => k_is); (case my_cc3 => k_is); (case my_k3 => k_is); (case my_a4 => k_is); (case my_l4 => k_is); (case my_cc4 => k_is); (case my_k4 => k_is); (case my_a5 => k_is)
   (case my_l5 => k_is); (case my_cc5 => k_is); (case my_k5 => k_is); (case my_a6 => k_is); (case my_l6 => k_is); (case my_cc6 => k_is); (case my_k6 => k_is); (case my_a7 => k_is)
   (case my_l7 => k_is); (case my_cc7 => k_is); (case my_k7 => k_is); (case my_a8 => k_is); (case my_l8 => k_is); (case my_cc8 => k_is); (case my_k8 => k_is); (case my_a9 => k_is)
   (case my_l9 => k_is); (case my_cc9 => k_is); (case my_k9 => k_is); (case my_a10 => k_is); (case my_l10 => k_is); (case my_cc10 => k_is); (case my_k10 => k_is); (case my_a11 => k_is)
   (case my_l11 => k_is); (case my_cc11 => k_is); (case my_k11 => k_is); (case my_a12 => k_is); (case my_l12 => k_is); (case my_cc12 => k_is); (case my_k12 => k_is); (case my_a13 => k_is)
   (case my_l13 => k_is); (case my_cc13 => k_is); (case my_k13 => k_is); (case my_a14 => k_is); (case my_l14 => k_is); (case my_cc14 => k_is); (case my_k14 => k_is); (case my_a15 => k_is)
   (case my_l15 => k_is); (case my_cc15 => k_is); (case my_k15 => k_is); (case my_a16 => k_is); (case my_l16 => k_is); (case my_cc16 => k_is); (case my_k16 => k_is); (case my_a17C => k_is)
   (case my_i17 => k_is); (case my_l17 => k_is); (case my_cc17 => k_is); (case my_k17 => k_is); (case my_a18C => k_is); (case my_i18 => k_is); (case my_l18 => k_is); (case my_cc18 => k_is)
   (case my_k18 => k_is); (case my_a19C => k_is); (case my_i19 => k_is); (case my_l19 => k_is); (case my_cc19 => k_is); (case my_k19 => k_is); (case my_a20C => k_is); (case my_i20 => k_is)
   (case my_l20 => k_is); (case my_cc20 => k_is); (case my_k20 => k_is); (case my_a21C => k_is); (case my_i21 => k_is); (case my_l21 => k_is); (case my_cc21 => k_is); (case my_k21 => k_is)
   (case my_a22C => k_is); (case my_i22 => k_is); (case my_l22 => k_is); (case my_cc22 => k_is); (case my_k22 => k_is); (case my_a23C => k_is); (case my_i23 => k_is); (case my_l23 => k_is)
   (case my_cc23 => k_is); (case my_k23 => k_is); (case my_a24C => k_is); (case my_i24 => k_is); (case my_l24 => k_is); (case my_cc24 => k_is); (case my_k24 => k_is); (case my_lT24 => k_is)
   (case my_a25 => k_is); (case my_l25 => k_is); (case my_cc25 => k_is); (case my_k25 => k_is); (case my_a26 => k_is); (case my_l26 => k_is); (case my_cc26 => k_is); (case my_k26 => k_is)
   (case my_a27 => k_is); (case my_l27 => k_is); (case my_cc27 => k_is); (case my_k27 => k_is); (case my_a28 => k_is); (case my_l28 => k_is); (case my_cc28 => k_is); (case my_k28 => k_is)
   (case my_a29 => k_is); (case my_l29 => k_is); (case my_cc29 => k_is); (case my_k29 => k_is); (case my_a30 => k_is); (case my_l30 => k_is); (case my_cc30 => k_is); (case my_k30 => k_is)
   (case my_a31 => k_is); (case my_l31 => k_is); (case my_cc31 => k_is); (case my_k31 => k_is); (case my_a32 => k_is); (case my_l32 => k_is); (case my_cc32 => k_is); (case my_k32 => k_is)
   (case my_a33 => k_is); (case my_l33 => k_is); (case my_cc33 => k_is); (case my_k33 => k_is); (case my_a34 => k_is); (case my_l34 => k_is); (case my_cc34 => k_is); (case my_k34 => k_is)
   (case my_abm => k_is); (case my_lbm => k_is); (case my_z0 => k_is); (case my_z1 => k_is); (case my_z2 => k_is); (case my_z3 => k_is); (case my_z4 => k_is); (case my_z5 => k_is)
   (case my_z6 => k_is); (case my_z7 => k_is); (case my_z8 => k_is); (case my_z9 => k_is); (case my_z10 => k_is); (case my_z11 => k_is); (case my_z12 => k_is); (case my_g0 => k_is)
   (case my_g1 => k_is); (case my_g2 => k_is); (case my_g3 => k_is); (case my_g4 => k_is); (case my_g5 => k_is); (case my_eT_cW => rfl); (case my_ec16 => rfl); (case my_eT24 => rfl)
   (case my_ic_cW => kernel_rfl); (case my_ic_cU => kernel_rfl); (case my_ic_cL => kernel_rfl); (case my_kit => kernel_rfl); (case my_eG => kernel_rfl); (case my_ei_cGl => kernel_rfl); (case my_xc_cGl => kernel_rfl); (case my_ei_cM => kernel_rfl)
   (case my_xc_cM => kernel_rfl); (case my_kt0 => kernel_rfl); (case my_kt1 => kernel_rfl); (case my_kt2 => kernel_rfl); (case my_kt3 => kernel_rfl); (case my_hC16 => kernel_rfl); (case my_nbm1 => decide); (case my_nbm2 => decide)
