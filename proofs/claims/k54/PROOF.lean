import PyProof.Rows.All
import Wide.All
import OpenK.AllK
import Wide.FinOn
import Lean
import PyProof.EqAt
import PyProof.EqKinds
import PyProof.TupleCall
import PyProof.Rows.SortRuns
import PyProof.NeKinds
import PyProof.ExcAttrAll.ValueError
import PyProof.StationsW
import PyProof.PassesOwn
import PyProof.RulesAs
import PyProof.NsDelKeeps
import PyProof.CompMap
import PyProof.DictItems
import KE.KPairComp
import KE.KMinKey
import KE.KDictList
import KE.KDictOf
import KE.KEqDict
import PyProof.DictIter
import PyProof.DictWalks
import PyProof.Rows.DictUnroll
import KE.KRevIter
import KE.KLam
import KE.KSortKey
import KE.KSortTup
import PyProof.Rows.StrJoin2
import PyProof.Rows.StrNews
import PyProof.StrLawsTight
import PyProof.StrWalks
import PyProof.StrBlockH
import KE.KIntText
import KE.LcSums
import KE.KNest
import PySem.Challenge.RW_glazebench_k54_flawed_worths
set_option Elab.async false
set_option linter.all false
set_option maxRecDepth 100000
namespace L2
open PySem PySem.Spec PyProof.Rows
abbrev Key:=Sum Int Str
def keyIs:Key→Value→Bool
 | .inl k,v=>Value.isInt k v
 | .inr x,v=>Value.isStrOf x v
def keyH (w:World):Key→Int
 | .inl k=>hashInt k
 | .inr x=>hashStr w x
theorem Zbl:∀ {k:Key} {v:Value},keyIs k v=true→(∃ i t,k=Sum.inl i∧v=Value.int i t)∨(∃ x t,k=Sum.inr x∧v=Value.str x t)
 | .inl i,v,h=>by
  obtain ⟨t,e⟩:=Value.isInt_shape (k:=i) (v:=v) h
  exact .inl ⟨i,t,rfl,e⟩
 | .inr x,v,h=>by
  obtain ⟨t,e⟩:=Value.isStrOf_shape (x:=x) (v:=v) h
  exact .inr ⟨x,t,rfl,e⟩
theorem keyIs_int (i:Int) (t:Tok):keyIs (.inl i) (.int i t)=true:=by simp [keyIs,Value.isInt]
theorem keyIs_str (x:Str) (t:Tok):keyIs (.inr x) (.str x t)=true:=by simp [keyIs,Value.isStrOf]
theorem key_ll (a b:Int):decide ((Sum.inl a:Key)=Sum.inl b)=(a == b):=by
 by_cases e:a=b
 ·subst e; simp
 ·have h:¬ (Sum.inl a:Key)=Sum.inl b:=fun q=>e (Sum.inl.inj q)
  rw [decide_eq_false h]
  exact (beq_eq_false_iff_ne.mpr e).symm
theorem key_rr (a b:Str):decide ((Sum.inr a:Key)=Sum.inr b)=decide (a=b):=by
 by_cases e:a=b
 ·subst e; simp
 ·have h:¬ (Sum.inr a:Key)=Sum.inr b:=fun q=>e (Sum.inr.inj q)
  rw [decide_eq_false h,decide_eq_false e]
theorem key_lr (a:Int) (b:Str):decide ((Sum.inl a:Key)=Sum.inr b)=false:=decide_eq_false (fun q=>nomatch q)
theorem key_rl (a:Str) (b:Int):decide ((Sum.inr a:Key)=Sum.inl b)=false:=decide_eq_false (fun q=>nomatch q)
def Zbd (prog:Program) (w:World):PySem.KeyKind prog w Key where
 is:=keyIs
 hash:=keyH w
 inj:=fun v a b ha hb=>by
  rcases Zbl ha with ⟨i,t,rfl,rfl⟩ | ⟨x,t,rfl,rfl⟩
  ·rcases Zbl hb with ⟨j,u,rfl,e⟩ | ⟨y,u,rfl,e⟩
   ·injection e with e1 _; rw [e1]
   ·exact nomatch e
  ·rcases Zbl hb with ⟨j,u,rfl,e⟩ | ⟨y,u,rfl,e⟩
   ·exact nomatch e
   ·injection e with e1 _; rw [e1]
 byValue:=fun k v h=>by
  rcases Zbl h with ⟨i,t,rfl,rfl⟩ | ⟨x,t,rfl,rfl⟩ <;> rfl
 pyHash:=fun hv h=>by
  rcases Zbl hv with ⟨i,t,rfl,rfl⟩ | ⟨x,t,rfl,rfl⟩
  ·exact wpAny_pyHash_int h
  ·exact wpAny_pyHash_str h
 eqBool:=fun hu hv h=>by
  rcases Zbl hu with ⟨i,t,rfl,rfl⟩ | ⟨x,t,rfl,rfl⟩
  ·rcases Zbl hv with ⟨j,u,rfl,rfl⟩ | ⟨y,u,rfl,rfl⟩
   ·rw [key_ll] at h; exact wpAny_eqBool_int h
   ·rw [key_lr] at h; exact SeqAt.EqAt.int_str i t y u _ _ _ _ h
  ·rcases Zbl hv with ⟨j,u,rfl,rfl⟩ | ⟨y,u,rfl,rfl⟩
   ·rw [key_rl] at h; exact SeqAt.EqAt.str_int x t j u _ _ _ _ h
   ·rw [key_rr] at h; exact wpAny_eqBool_str h
 «strs»:=fun k x t v h=>by
  rcases Zbl h with ⟨i,u,rfl,e⟩ | ⟨y,u,rfl,e⟩
  ·exact nomatch e
  ·injection e with e1 _
   subst e1
   cases v <;> rfl
theorem Zks (prog:Program) (w:World) (i:Int) (t:Tok):(Zbd prog w).is (.inl i) (.int i t)=true:=keyIs_int i t
theorem Zkr (prog:Program) (w:World) (x:Str) (t:Tok):(Zbd prog w).is (.inr x) (.str x t)=true:=keyIs_str x t
end L2
namespace L2
open PySem PySem.Spec PyProof.Rows
inductive V where
 | non | bl (b:Bool) | int (i:Int) | str (x:Str) | byt (b:Array UInt8) | flt (b:UInt64) | ref (a:Addr) | ty (n:String)
 deriving DecidableEq
def RelV:V→Value→Prop
 | .non,u=>u=Value.none
 | .bl b,u=>u=Value.bool b
 | .int i,u=>∃ t,u=Value.int i t
 | .str x,u=>∃ t,u=Value.str x t
 | .byt b,u=>∃ t,u=Value.bytes b t
 | .flt b,u=>∃ t,u=Value.float b t
 | .ref a,u=>u=Value.ref a
 | .ty n,u=>u=Value.type n
abbrev Vals:List V→List Value→Prop:=Paired RelV
theorem Vals.length {xs:List V} {us:List Value} (r:Vals xs us):xs.length=us.length:=Paired.length r
theorem Vals.get:∀ {xs:List V} {us:List Value} {i:Nat} {x:V},Vals xs us→xs[i]?=some x→∃ u,us[i]?=some u∧RelV x u
 | _,_,_,_,.nil,e=>by simp at e
 | _,_,0,_,.cons r _,e=>by simp at e; subst e; exact ⟨_,rfl,r⟩
 | _,_,i+1,x,.cons _ t,e=>by
  obtain ⟨u,h1,h2⟩:=Vals.get (i:=i) (x:=x) t (by simpa using e)
  exact ⟨u,by simpa using h1,h2⟩
theorem Vals.append:∀ {xs ys:List V} {us ws:List Value},Vals xs us→Vals ys ws→Vals (xs++ys) (us++ws)
 | _,_,_,_,.nil,s=>s
 | _,_,_,_,.cons r t,s=>.cons r (Vals.append t s)
theorem Vals.take:∀ {xs:List V} {us:List Value} (n:Nat),Vals xs us→Vals (xs.take n) (us.take n)
 | _,_,0,_=>.nil
 | _,_,_+1,.nil=>.nil
 | _,_,n+1,.cons r t=>.cons r (Vals.take n t)
theorem Vals.drop:∀ {xs:List V} {us:List Value} (n:Nat),Vals xs us→Vals (xs.drop n) (us.drop n)
 | _,_,0,r=>r
 | _,_,_+1,.nil=>.nil
 | _,_,n+1,.cons _ t=>Vals.drop n t
def RelO:Option V→Option Value→Prop
 | some v,some u=>RelV v u
 | none,none=>True
 | _,_=>False
def KV {κ:Type}:List (κ × V)→List (κ × Value)→Prop:=Paired fun (p:κ × V) (q:κ × Value)=>p.1=q.1∧RelV p.2 q.2
def kV:Key→V
 | .inl i=>.int i
 | .inr x=>.str x
inductive HO where
 | lst (xs:List V)
 | tup (xs:List V)
 | dK (kvs:List (Key × V)) | dT (kvs:List (List Key × V))
 | set (S:Int→Bool) (n:Nat)
 | ins (C dx:Addr) (fs:List (Str × V))
 | own (x:Addr)
 | xd (fs:List (Str × V))
 | met (f x:Addr)
 | rng (lo hi:Int)
 | frz (o:Obj) (u:HO)
 | tbl (ps:Array Value)
 | ext (φ:Heap→Prop)
abbrev Hp:=Addr→Option HO
def upd (H:Hp) (a:Addr) (o:HO):Hp:=fun b=>if b=a then some o else H b
theorem Zab {H:Hp} {a:Addr} {o:HO}:upd H a o a=some o:=by unfold upd; rw [if_pos rfl]
theorem Zaj {H:Hp} {a b:Addr} {o:HO} (h:b≠a):upd H a o b=H b:=by unfold upd; rw [if_neg h]
theorem ne_of {H:Hp} {a b:Addr} {o u:HO} (h:H a=some o) (h':H b=some u) (d:o≠u):a≠b:=by
 intro e; subst e; rw [h] at h'; exact d (Option.some.inj h')
theorem Zah {H:Hp} {a b:Addr} {o:HO} (h:H a=some o) (h':H b=none):a≠b:=by
 intro e; subst e; rw [h] at h'; cases h'
section
variable (P:Program) (w:World)
def ObjOk (H:Hp) (h:Heap) (a:Addr):HO→Prop
 | .lst xs=>xs.length≤sizeLine∧∃ (its:List Value) (n:Nat),Vals xs its∧h.get? a=some { cls:=.type "list",data:=.seq its.toArray n }
 | .tup xs=>xs.length≤sizeLine∧∃ its:List Value,Vals xs its∧IsTup h a its.toArray
 | .dK kvs=>kvs.length≤sizeLine∧(a == sysModules)=false∧∃ vs,KV kvs vs∧h.DictOf (Zbd P w) a vs
 | .dT kvs=>kvs.length≤sizeLine∧(a == sysModules)=false∧∃ xs:List (List Key × Addr × Value),
   Paired (fun (p:List Key × V) (q:List Key × Addr × Value)=>p.1=q.1∧H q.2.1=some (.tup (p.1.map kV))∧RelV p.2 q.2.2) kvs xs ∧
   ∃ o es ep,h.get? a=some o∧o.ExactDict∧o.data=.dict es ep∧es.toList=xs.map (entryOfKey (tupleKind (Zbd P w)))∧(xs.map (·.1)).Nodup
 | .set S n=>h.SetOf (intKind P w) a S n
 | .ins C dx fs=>H dx=some (.own a)∧fs.length≤1000∧dx≠a∧h.get? a=some (PySem.W.instObj C dx) ∧
   ∃ mA,h.Ns1 dx mA∧(∀ f,RelO (fs.lookup f) (mA f))∧PySem.Within mA (fs.map (·.1))
 | .own _=>∃ o,h.get? a=some o
 | .xd fs=>∃ mA,h.Ns1 a mA∧∀ f,RelO (fs.lookup f) (mA f)
 | .rng lo hi=>∃ t u v,h.get? a=some { cls:=.type "range",data:=.fields #[.int lo t,.int hi u,.int 1 v] }
 | .frz o u=>h.get? a=some o∧ObjOk H h a u
 | .tbl ps=>h.get? a=some { cls:=.none,data:=.fields ps }
 | .met f x=>h.get? a=some (PySem.W.methodObj (.ref f) (.ref x))
 | .ext φ=>φ h∧(∃ o,h.get? a=some o)∧∀ h1 h2:Heap,φ h1→(∀ o,h1.get? a=some o→h2.get? a=some o)→φ h2
def HOk (H:Hp) (h:Heap):Prop:=∀ a o,H a=some o→ObjOk P w H h a o
end
section
variable {P:Program} {w:World} {H H':Hp} {h h':Heap} {a:Addr} {o:HO}
theorem ObjOk.lt (x:ObjOk P w H h a o):a < h.objs.size:=by
 cases o with
 | lst xs=>obtain ⟨_,_,_,_,e⟩:=x; exact Heap.lt_size e
 | tup xs=>obtain ⟨_,_,_,p⟩:=x; exact p.lt
 | dK kvs=>obtain ⟨_,_,_,_,o,_,_,e,_⟩:=x; exact Heap.lt_size e
 | dT kvs=>obtain ⟨_,_,_,_,o,_,_,e,_⟩:=x; exact Heap.lt_size e
 | set S n=>obtain ⟨o,_,_,_,e,_⟩:=x; exact Heap.lt_size e
 | ins C dx fs=>obtain ⟨_,_,_,e,_⟩:=x; exact Heap.lt_size e
 | own y=>obtain ⟨_,e⟩:=x; exact Heap.lt_size e
 | xd fs=>obtain ⟨_,⟨_,_,_,e,_⟩,_⟩:=x; exact Heap.lt_size e
 | rng lo hi=>obtain ⟨_,_,_,e⟩:=x; exact Heap.lt_size e
 | frz ob u=>obtain ⟨e,_⟩:=x; exact Heap.lt_size e
 | tbl ps=>exact Heap.lt_size (show h.get? a=some _ from x)
 | met f y=>exact Heap.lt_size (show h.get? a=some _ from x)
 | ext φ=>obtain ⟨_,⟨_,e⟩,_⟩:=x; exact Heap.lt_size e
theorem Paired.mapP {α β:Type} {F G:α→β→Prop}:∀ {l₁:List α} {l₂:List β},Paired F l₁ l₂→(∀ a b,F a b→G a b)→Paired G l₁ l₂
 | _,_,.nil,_=>.nil
 | _,_,.cons r t,f=>.cons (f _ _ r) (Paired.mapP t f)
theorem ObjOk.stay (x:ObjOk P w H h a o) (k:∀ b u,(b=a∨H b=some (.own a))→h.get? b=some u→h'.get? b=some u)
  (ho:∀ b,H b=some (.own a)→H' b=some (.own a)) (ht:∀ b xs,H b=some (.tup xs)→H' b=some (.tup xs)):ObjOk P w H' h' a o:=by
 induction o with
 | lst xs=>obtain ⟨z,its,n,r,e⟩:=x; exact ⟨z,its,n,r,k _ _ (.inl rfl) e⟩
 | tup xs=>obtain ⟨z,its,r,ob,e,c⟩:=x; exact ⟨z,its,r,ob,k _ _ (.inl rfl) e,c⟩
 | dK kvs=>obtain ⟨z,y,vs,r,ob,es,ep,e,c⟩:=x; exact ⟨z,y,vs,r,ob,es,ep,k _ _ (.inl rfl) e,c⟩
 | dT kvs =>
  obtain ⟨z,y,xs,r,ob,es,ep,e,c⟩:=x
  exact ⟨z,y,xs,Paired.mapP r fun p q z=>⟨z.1,ht _ _ z.2.1,z.2.2⟩,ob,es,ep,k _ _ (.inl rfl) e,c⟩
 | set S n=>obtain ⟨ob,es,ep,t,e,c⟩:=x; exact ⟨ob,es,ep,t,k _ _ (.inl rfl) e,c⟩
 | ins C dx fs =>
  obtain ⟨d,z,ne,e,mA,⟨od,es,ep,e2,c⟩,r⟩:=x
  exact ⟨ho _ d,z,ne,k _ _ (.inl rfl) e,mA,⟨od,es,ep,k _ _ (.inr d) e2,c⟩,r⟩
 | own y=>obtain ⟨ob,e⟩:=x; exact ⟨ob,k _ _ (.inl rfl) e⟩
 | xd fs=>obtain ⟨mA,⟨od,es,ep,e,c⟩,r⟩:=x; exact ⟨mA,⟨od,es,ep,k _ _ (.inl rfl) e,c⟩,r⟩
 | rng lo hi=>obtain ⟨t,u,v,e⟩:=x; exact ⟨t,u,v,k _ _ (.inl rfl) e⟩
 | frz ob u ih=>obtain ⟨e,q⟩:=x; exact ⟨k _ _ (.inl rfl) e,ih q⟩
 | tbl ps =>
  have e:h.get? a=some { cls:=.none,data:=.fields ps }:=x
  show h'.get? a=some { cls:=.none,data:=.fields ps }
  exact k a _ (.inl rfl) e
 | met f y =>
  have e:h.get? a=some (PySem.W.methodObj (.ref f) (.ref y)):=x
  show h'.get? a=some (PySem.W.methodObj (.ref f) (.ref y))
  exact k a _ (.inl rfl) e
 | ext φ=>obtain ⟨p,⟨o,e⟩,st⟩:=x; exact ⟨st _ _ p fun o q=>k _ _ (.inl rfl) q,⟨o,k _ _ (.inl rfl) e⟩,st⟩
theorem HOk.lt (x:HOk P w H h) (e:H a=some o):a < h.objs.size:=(x a o e).lt
theorem HOk.fresh (x:HOk P w H h) (e:h.objs.size≤a):H a=none:=by
 cases q:H a with
 | none=>rfl
 | some u=>exact absurd (Nat.lt_of_lt_of_le (x.lt q) e) (Nat.lt_irrefl _)
theorem HOk.kept (x:HOk P w H h) (k:∀ b u,h.get? b=some u→h'.get? b=some u):HOk P w H h':=fun a o e =>
 (x a o e).stay (fun b u _ q=>k b u q) (fun _ q=>q) fun _ _ q=>q
theorem HOk.laid (x:HOk P w H h) (k:∀ b u,h.get? b=some u→h'.get? b=some u) (hp:h.objs.size≤a) (new:ObjOk P w (upd H a o) h' a o):HOk P w (upd H a o) h':=fun b u e=>by
 have hn:=x.fresh hp
 by_cases hb:b=a
 ·subst hb; rw [Zab] at e; cases e; exact new
 ·rw [Zaj hb] at e
  exact (x b u e).stay (fun c v _ q=>k c v q) (fun c q=>by rw [Zaj (Zah q hn)]; exact q) fun c xs q=>by rw [Zaj (Zah q hn)]; exact q
end
def Rd (H:Hp) (a:Addr) (u:HO):Prop:=H a=some u∨∃ o,H a=some (.frz o u)
theorem Rd.ok {P:Program} {w:World} {H:Hp} {h:Heap} {a:Addr} {u:HO} (r:Rd H a u) (x:HOk P w H h):ObjOk P w H h a u:=by
 rcases r with r | ⟨o,r⟩
 ·exact x a u r
 ·obtain ⟨_,q⟩:=x a _ r
  exact q
def Mut:Option HO→Prop
 | some (.lst _)=>True
 | some (.dK _)=>True
 | some (.dT _)=>True
 | some (.set _ _)=>True
 | some (.ins _ _ _)=>True
 | some (.ext _)=>True
 | _=>False
section
variable {P:Program} {w:World} {H:Hp} {h h':Heap} {x e:Addr} {o':HO}
theorem HOk.write (ok:HOk P w H h) (mu:Mut (H x)) (he:e=x∨H e=some (.own x)) (k:∀ b u,b≠e→h.get? b=some u→h'.get? b=some u) (heo:∃ u,h'.get? e=some u)
  (new:ObjOk P w (upd H x o') h' x o'):HOk P w (upd H x o') h':=fun b u q=>by
 have nown:∀ c y,H c=some (.own y)→c≠x:=fun c y r z=>by subst z; rw [r] at mu; exact mu
 have ntup:∀ c xs,H c=some (.tup xs)→c≠x:=fun c xs r z=>by subst z; rw [r] at mu; exact mu
 by_cases hb:b=x
 ·subst hb; rw [Zab] at q; cases q; exact new
 ·rw [Zaj hb] at q
  by_cases hbe:b=e
  ·have q':H b=some (.own x):=by
    rcases he with z | z
    ·exact absurd (hbe.trans z) hb
    ·rw [hbe]; exact z
   rw [q] at q'; cases q'
   obtain ⟨v,hv⟩:=heo
   exact ⟨v,by rw [hbe]; exact hv⟩
  ·refine (ok b u q).stay (fun c v hc r=>k c v ?_ r) (fun c r=>by rw [Zaj (nown c b r)]; exact r) fun c xs r=>by rw [Zaj (ntup c xs r)]; exact r
   rcases hc with rfl | hc
   ·exact hbe
   ·rintro rfl
    rcases he with z | z
    ·exact nown c b hc z
    ·rw [hc] at z; cases z; exact hb rfl
end
structure Un (fs ex:List Addr) (H H':Hp) (h h':Heap):Prop where
 keep:∀ b o,h.get? b=some o→H b=none→b ∉ fs→b ∉ ex→h'.get? b=some o
 slot:∀ b o,h.get? b=some o→H b=none→b∈fs→b ∉ ex→∃ sl,h'.get? b=some { o with slots:=sl }
 free:∀ b o,h.get? b=some o→H b=none→b ∉ ex→H' b=none
 there:∀ b o,h.get? b=some o→b ∉ ex→∃ o',h'.get? b=some o'
 tups:∀ b xs,H b=some (.tup xs)→H' b=some (.tup xs)
 frzs:∀ b o u,H b=some (.frz o u)→H' b=some (.frz o u)
 tbls:∀ b ps,H b=some (.tbl ps)→∃ more,H' b=some (.tbl (ps++more))
section
variable {fs fs' ex ex':List Addr} {H H1 H2:Hp} {h h1 h2 h':Heap} {a x e:Addr} {o:HO}
theorem Un.any (u:Un fs ex H H1 h h1) {b:Addr} {ob:Obj} (q:h.get? b=some ob) (n:H b=none) (hx:b ∉ ex):∃ sl,h1.get? b=some { ob with slots:=sl }:=by
 by_cases hb:b∈fs
 ·exact u.slot b ob q n hb hx
 ·exact ⟨ob.slots,u.keep b ob q n hb hx⟩
theorem Un.kept (k:∀ b u,h.get? b=some u→h'.get? b=some u):Un fs ex H H h h' :=
 ⟨fun b ob q _ _ _=>k b ob q,fun b ob q _ _ _=>⟨ob.slots,k b ob q⟩,fun _ _ _ n _=>n,fun b ob q _=>⟨ob,k b ob q⟩,fun _ _ q=>q,fun _ _ _ q=>q,fun _ ps q=>⟨#[],by rw [q]; simp⟩⟩
theorem Un.refl:Un fs ex H H h h:=Un.kept fun _ _ q=>q
theorem Un.laid (k:∀ b u,h.get? b=some u→h'.get? b=some u) (hp:h.objs.size≤a) (hn:H a=none):Un fs ex H (upd H a o) h h' where
 keep:=fun b u q _ _ _=>k b u q
 slot:=fun b u q _ _ _=>⟨u.slots,k b u q⟩
 free:=fun b u q n _=>by rw [Zaj (Nat.ne_of_lt (Nat.lt_of_lt_of_le (Heap.lt_size q) hp))]; exact n
 there:=fun b u q _=>⟨u,k b u q⟩
 tups:=fun b xs q=>by rw [Zaj (Zah q hn)]; exact q
 frzs:=fun b u xs q=>by rw [Zaj (Zah q hn)]; exact q
 tbls:=fun b ps q=>⟨#[],by rw [Zaj (Zah q hn),q]; simp⟩
theorem Un.write (mu:Mut (H x)) (he:e=x∨H e=some (.own x)) (k:∀ b u,b≠e→h.get? b=some u→h'.get? b=some u) (heo:∃ u,h'.get? e=some u):Un fs ex H (upd H x o) h h':=by
 have hx:∀ b,H b=none→b≠x:=fun b n z=>by subst z; rw [n] at mu; exact mu
 have hb:∀ b,H b=none→b≠e:=fun b n z=>by
  subst z
  rcases he with r | r
  ·exact hx b n r
  ·rw [n] at r; cases r
 have hm:∀ b u,H b=some u→¬ Mut (some u)→b≠x:=fun b u q nm z=>by subst z; rw [q] at mu; exact nm mu
 refine ⟨fun b u q n _ _=>k b u (hb b n) q,fun b u q n _ _=>⟨u.slots,k b u (hb b n) q⟩,fun b u q n _=>by rw [Zaj (hx b n)]; exact n,fun b u q _=>?_,
  fun b xs q=>by rw [Zaj (hm b _ q fun z=>z)]; exact q,fun b u xs q=>by rw [Zaj (hm b _ q fun z=>z)]; exact q,fun b ps q=>⟨#[],by rw [Zaj (hm b _ q fun z=>z),q]; simp⟩⟩
 by_cases hbe:b=e
 ·subst hbe; exact heo
 ·exact ⟨u,k b u hbe q⟩
end
def trk (h:Heap) (H:Hp):List Addr:=(List.range h.objs.size).filter fun a=>(H a).isSome
def hidT (h:Heap) (H:Hp):Heap:=PySem.W.hideAll h (trk h H)
theorem Zje (h:Heap) (H:Hp):(hidT h H).objs.size=h.objs.size:=PySem.W.hideAll_size _ _
theorem hidT_get {h:Heap} {H:Hp} {b:Addr} {o:Obj} (e:h.get? b=some o) (n:H b=none):(hidT h H).get? b=some o :=
 PySem.W.hideAll_get _ e fun hm=>by
  have q:(H b).isSome=true:=(List.mem_filter.mp hm).2
  rw [n] at q; simp at q
theorem of_hidT {h:Heap} {H:Hp} {b:Addr} {o:Obj} (e:(hidT h H).get? b=some o):h.get? b=some o∧H b=none:=by
 have e':h.get? b=some o:=PySem.W.of_hideAll (trk h H) e
 refine ⟨e',?_⟩
 cases q:H b with
 | none=>rfl
 | some x =>
  have hm:b∈trk h H:=List.mem_filter.mpr ⟨List.mem_range.mpr (Heap.lt_size e'),by simp [q]⟩
  have z:(hidT h H).get? b=none:=PySem.W.hideAll_none (trk h H) hm
  rw [z] at e; cases e
def allNews (g h:Heap) (L:Addr):List (Addr × Obj):=(List.range h.objs.size).filterMap fun a=>if a=L∨(g.get? a).isSome=true then none else (h.get? a).map fun o=>(a,o)
def rest (g h:Heap) (L d:Addr):List (Addr × Obj):=(allNews g h L).filter fun p=>decide (p.1≠d)
end L2
namespace L2
open PySem PySem.Spec PyProof.Rows
structure Mod (K:PySem.W.Frag) (mg:Str→Option Value) (base:Heap):Prop where
 kin:K.In base
 glob:base.Ns mainGlobals mg
 blt:∃ mb,base.Ns builtinsNs mb∧∀ x:Str,x≠"__name__"→mb x=bootBuiltins x
 nolimit:base.NoLimit
structure Cx where
 prog:Program
 w:World
 K:PySem.W.Frag
 mg:Str→Option Value
 base:Heap
 A:Around
 N:List Str
 s₀:Shared
 H₀:Hp
 env:Env
 outer:List Env
 stack:List Env
 ex:List Addr
 fn:Str→Bool
 calm:Bool
 pn:List (Addr × Obj)
 xe:Value→Shared→Prop
def frs (l:List Env):List Addr:=l.filterMap (·.frame)
abbrev Cx.fs (X:Cx):List Addr:=frs X.outer
def Vis (sc:Scope) (x:Str):Prop:=sc.names.lookup x=some .local∨sc.names.lookup x=some .cell∨sc.names.lookup x=some .free
def Loc (sc:Scope) (x:Str):Prop:=sc.names.lookup x=some .local∨sc.names.lookup x=some .cell
def Look (env:Env) (h:Heap) (m:Str→Option Value) (x:Str) (u:Value):Prop :=
 (env.kindOf x=some .local∧m x=some u)∨((env.kindOf x=some .cell∨env.kindOf x=some .free)∧∃ c,env.cells.lookup x=some c∧h.IsCell c (some u))
structure Cx.Ok (X:Cx):Prop where
 mod:Mod X.K X.mg X.base
 kind:X.env.scope.kind=.function
 glob:X.env.globals=mainGlobals
 blt:X.env.builtins=builtinsNs
 above:X.s₀.heap.objs.size≤X.env.locals
 inj:∀ x y c,X.env.cells.lookup x=some c→X.env.cells.lookup y=some c→x=y
 has:∀ x,(X.env.kindOf x=some .cell∨X.env.kindOf x=some .free)→∃ c,X.env.cells.lookup x=some c
 cab:∀ x c,X.fn x=true→X.env.cells.lookup x=some c→X.s₀.heap.objs.size≤c
 hd:X.calm=true→X.A.handled=none
 frames:X.A.frames=some X.stack
 stk:X.stack=X.outer∨(X.stack=X.env :: X.outer∧X.env.frame=some X.env.locals)
 exf:∀ b∈X.ex,b≠X.env.locals∧∀ x c,X.env.cells.lookup x=some c→c≠b
 bs:∀ b o,X.base.get? b=some o→X.s₀.heap.get? b=some o∧X.H₀ b=none
 bsz:X.base.objs.size≤X.s₀.heap.objs.size
 noex:∀ b o,X.base.get? b=some o→b ∉ X.ex
 exfs:∀ b∈X.ex,b ∉ X.fs
 funs:X.s₀.heap.FunFrames X.base X.outer
 frf:∀ b∈X.fs,X.H₀ b=none
structure Inv (X:Cx) (pins:List (Addr × Obj)) (σ:List (Option V)) (H:Hp) (s:Shared):Prop where
 ok:X.Ok
 os:s.os=X.s₀.os
 bare:AllBare s.gens
 base:Un X.fs X.ex X.H₀ H X.s₀.heap s.heap
 loc:∃ m,s.heap.Ns X.env.locals m∧∀ (i:Nat) (x:Str) (v:V),X.N[i]?=some x→σ[i]?=some (some v)→Vis X.env.scope x→∃ u,RelV v u∧Look X.env s.heap m x u
 cell:∀ x c,X.env.cells.lookup x=some c→∃ v,s.heap.IsCell c v
 free:H X.env.locals=none
 freeC:∀ x c,X.env.cells.lookup x=some c→H c=none
 pin:∀ p∈X.pn++pins,s.heap.get? p.1=some p.2∧H p.1=none∧p.1≠X.env.locals∧p.1 ∉ X.fs∧∀ v,p.2.data≠.cell v
 hok:HOk X.prog X.w H s.heap
 len:σ.length=X.N.length
section
variable {X:Cx} {pins:List (Addr × Obj)} {σ:List (Option V)} {H H':Hp} {s:Shared} {h':Heap}
theorem Cx.Ok.nofr (ok:X.Ok) {b:Addr} {o:Obj} (e:X.base.get? b=some o):b ∉ X.fs:=fun hb=>by
 have:=(ok.funs.mem hb).1
 rw [e] at this; cases this
theorem Inv.bs (I:Inv X pins σ H s):∀ b o,X.base.get? b=some o→s.heap.get? b=some o∧H b=none:=fun b o e =>
 ⟨I.base.keep b o (I.ok.bs b o e).1 (I.ok.bs b o e).2 (I.ok.nofr e) (I.ok.noex b o e),I.base.free b o (I.ok.bs b o e).1 (I.ok.bs b o e).2 (I.ok.noex b o e)⟩
theorem Inv.bk (I:Inv X pins σ H s):∀ b o,X.base.get? b=some o→s.heap.get? b=some o:=fun b o e=>(I.bs b o e).1
theorem Inv.mod (I:Inv X pins σ H s):Mod X.K X.mg X.base:=I.ok.mod
theorem Inv.kIn (I:Inv X pins σ H s):X.K.In s.heap:=I.ok.mod.kin.keeps I.bk
theorem Inv.lt (I:Inv X pins σ H s):X.env.locals < s.heap.objs.size:=let ⟨_,hn,_⟩:=I.loc; hn.lt
theorem Inv.sz (I:Inv X pins σ H s):X.s₀.heap.objs.size≤s.heap.objs.size:=Nat.le_trans I.ok.above (Nat.le_of_lt I.lt)
theorem Inv.nofs (I:Inv X pins σ H s) {a:Addr} (h:s.heap.objs.size≤a):a ∉ X.fs:=fun hb=>by
 obtain ⟨_,o,ho,_⟩:=I.ok.funs.mem hb
 exact absurd (Nat.lt_of_lt_of_le (Heap.lt_size ho) (Nat.le_trans I.sz h)) (Nat.lt_irrefl _)
theorem Inv.cne (I:Inv X pins σ H s):∀ x c,X.env.cells.lookup x=some c→c≠X.env.locals:=fun x c e z=>by
 obtain ⟨v,o,ho,hd⟩:=I.cell x c e
 obtain ⟨m,⟨o',es,ep,ho',hd',_⟩,_⟩:=I.loc
 rw [z,ho'] at ho; cases ho; rw [hd'] at hd; cases hd
theorem Inv.funs (I:Inv X pins σ H s):s.heap.FunFrames X.base X.outer:=by
 have all:∀ (l:List Env),(∀ b∈frs l,b∈X.fs)→X.s₀.heap.FunFrames X.base l→s.heap.FunFrames X.base l:=by
  intro l
  induction l with
  | nil=>intro _ _; trivial
  | cons env r ih =>
   intro hs hl
   obtain ⟨hk,⟨L,o,hf,hn,ho,hd⟩,hr⟩:=hl
   have hL:L∈X.fs:=hs L (by unfold frs; rw [List.filterMap_cons,hf]; exact List.mem_cons_self)
   obtain ⟨sl,e⟩:=I.base.slot L o ho (I.ok.frf L hL) hL fun z=>I.ok.exfs L z hL
   exact ⟨hk,⟨L,_,hf,hn,e,hd⟩,ih (fun b hb=>hs b (by unfold frs; rw [List.filterMap_cons,hf]; exact List.mem_cons_of_mem _ hb)) hr⟩
 exact all X.outer (fun _ hb=>hb) I.ok.funs
theorem Inv.stack (I:Inv X pins σ H s):s.heap.FunFrames X.base X.stack:=by
 rcases I.ok.stk with e | ⟨e,hf⟩
 ·rw [e]; exact I.funs
 ·rw [e]
  obtain ⟨m,hn,_⟩:=I.loc
  refine .cons (by rw [I.ok.kind]; decide) hf hn ?_ I.funs
  exact Heap.get?_none_of_le (Nat.le_trans I.ok.bsz I.ok.above)
theorem Inv.stkSub (I:Inv X pins σ H s):∀ b∈frs X.stack,b∈X.env.locals :: X.fs:=fun b hb=>by
 rcases I.ok.stk with e | ⟨e,hf⟩
 ·rw [e] at hb; exact List.mem_cons_of_mem _ hb
 ·rw [e] at hb
  unfold frs at hb
  rw [List.filterMap_cons,hf] at hb
  exact hb
theorem Inv.stkFree (I:Inv X pins σ H s):∀ b∈frs X.stack,H b=none:=fun b hb=>by
 rcases List.mem_cons.mp (I.stkSub b hb) with e | hb
 ·rw [e]; exact I.free
 ·obtain ⟨_,o,ho,_⟩:=I.ok.funs.mem hb
  exact I.base.free b o ho (I.ok.frf b hb) fun z=>I.ok.exfs b z hb
theorem Inv.step {g':Array GenState} {t':Nat} {d':Drawn} {ch:List Addr} (I:Inv X pins σ H s)
  (hch:∀ b∈ch,(b∈X.ex∨X.s₀.heap.objs.size≤b)∧b≠X.env.locals∧(∀ x c,X.env.cells.lookup x=some c→c≠b)∧∀ p∈X.pn++pins,p.1≠b)
  (keep:∀ b o,b≠X.env.locals→b ∉ X.fs→b ∉ ch→s.heap.get? b=some o→H b=none→h'.get? b=some o)
  (slot:∀ b o,b≠X.env.locals→b∈X.fs→b ∉ ch→s.heap.get? b=some o→H b=none→∃ sl,h'.get? b=some { o with slots:=sl }) (free:∀ b o,b ∉ ch→s.heap.get? b=some o→H b=none→H' b=none)
  (there:∀ b o,b ∉ ch→s.heap.get? b=some o→∃ o',h'.get? b=some o')
  (tups:∀ b xs,H b=some (.tup xs)→H' b=some (.tup xs)) (frzs:∀ b o u,H b=some (.frz o u)→H' b=some (.frz o u)) (tbls:∀ b ps,H b=some (.tbl ps)→∃ more,H' b=some (.tbl (ps++more)))
  (ns:∀ m,s.heap.Ns X.env.locals m→h'.Ns X.env.locals m) (hok:HOk X.prog X.w H' h') (hg:AllBare g') :
  Inv X pins σ H' { s with heap:=h',gens:=g',drawn:=d',toks:=t' }:=by
 have neL:∀ b o,X.s₀.heap.get? b=some o→b≠X.env.locals:=fun b o e=>Nat.ne_of_lt (Nat.lt_of_lt_of_le (Heap.lt_size e) I.ok.above)
 have neC:∀ b o,X.s₀.heap.get? b=some o→b ∉ X.ex→b ∉ ch:=fun b o e hx hb=>by
  rcases (hch b hb).1 with z | z
  ·exact hx z
  ·exact absurd (Nat.lt_of_lt_of_le (Heap.lt_size e) z) (Nat.lt_irrefl _)
 have cellK:∀ x c,X.env.cells.lookup x=some c→∀ v,s.heap.IsCell c v→h'.IsCell c v:=fun x c e v ⟨o,ho,hd⟩=>by
  have nch:c ∉ ch:=fun z=>(hch c z).2.2.1 x c e rfl
  by_cases hc:c∈X.fs
  ·obtain ⟨sl,q⟩:=slot c o (I.cne x c e) hc nch ho (I.freeC x c e)
   exact ⟨_,q,hd⟩
  ·exact ⟨o,keep c o (I.cne x c e) hc nch ho (I.freeC x c e),hd⟩
 refine ⟨I.ok,I.os,hg,⟨fun b o e n hb hx=>?_,fun b o e n hb hx=>?_,fun b o e n hx=>?_,fun b o e hx=>?_,fun b xs e=>tups b xs (I.base.tups b xs e),fun b o xs e=>frzs b o xs (I.base.frzs b o xs e),fun b ps e=>?_⟩,?_,fun x c e=>?_,?_,fun x c e=>?_,fun p hp=>?_,hok,I.len⟩
 ·exact keep b o (neL b o e) hb (neC b o e hx) (I.base.keep b o e n hb hx) (I.base.free b o e n hx)
 ·obtain ⟨sl,e1⟩:=I.base.slot b o e n hb hx
  obtain ⟨sl',e2⟩:=slot b _ (neL b o e) hb (neC b o e hx) e1 (I.base.free b o e n hx)
  exact ⟨sl',e2⟩
 ·obtain ⟨o',e1⟩:=I.base.there b o e hx
  exact free b o' (neC b o e hx) e1 (I.base.free b o e n hx)
 ·obtain ⟨o',e1⟩:=I.base.there b o e hx
  exact there b o' (neC b o e hx) e1
 ·obtain ⟨m1,e1⟩:=I.base.tbls b ps e
  obtain ⟨m2,e2⟩:=tbls b _ e1
  exact ⟨m1++m2,by rw [e2,Array.append_assoc]⟩
 ·obtain ⟨m,hn,hl⟩:=I.loc
  refine ⟨m,ns m hn,fun i x v e1 e2 e3=>?_⟩
  obtain ⟨u,r,l⟩:=hl i x v e1 e2 e3
  refine ⟨u,r,?_⟩
  rcases l with l | ⟨k,c,e,z⟩
  ·exact .inl l
  ·exact .inr ⟨k,c,e,cellK x c e _ z⟩
 ·obtain ⟨v,z⟩:=I.cell x c e
  exact ⟨v,cellK x c e v z⟩
 ·obtain ⟨m,⟨o,_,_,ho,_⟩,_⟩:=I.loc
  exact free _ o (fun z=>(hch _ z).2.1 rfl) ho I.free
 ·obtain ⟨v,o,ho,hd⟩:=I.cell x c e
  exact free c o (fun z=>(hch c z).2.2.1 x c e rfl) ho (I.freeC x c e)
 ·obtain ⟨e,n,ne,nf,d⟩:=I.pin p hp
  have nch:p.1 ∉ ch:=fun z=>(hch p.1 z).2.2.2 p hp rfl
  exact ⟨keep p.1 p.2 ne nf nch e n,free p.1 p.2 nch e n,ne,nf,d⟩
theorem Inv.un {t':Nat} (I:Inv X pins σ H s) (u:Un X.fs [] H H' s.heap h') (hok:HOk X.prog X.w H' h'):Inv X pins σ H' { s with heap:=h',toks:=t' }:=by
 obtain ⟨m,⟨o,es,ep,ho,r⟩,_⟩:=id I.loc
 obtain ⟨sl,hL⟩:=u.any ho I.free (by simp)
 exact I.step (g':=s.gens) (d':=s.drawn) (ch:=[]) (fun _ z=>nomatch z) (fun b o _ hb _ e n=>u.keep b o e n hb (by simp)) (fun b o _ hb _ e n=>u.slot b o e n hb (by simp)) (fun b o _ e n=>u.free b o e n (by simp)) (fun b o _ e=>u.there b o e (by simp)) u.tups u.frzs u.tbls (fun m' hm=>by
  obtain ⟨o',es',ep',ho',r'⟩:=hm
  rw [ho] at ho'; cases ho'
  exact ⟨_,es',ep',hL,r'⟩) hok I.bare
theorem Inv.call {g':Array GenState} {t':Nat} {d':Drawn} {ch:List Addr} (I:Inv X pins σ H s) (u:Un (frs X.stack) ch H H' s.heap h') (hok:HOk X.prog X.w H' h') (hg:AllBare g')
  (hch:∀ b∈ch,(b∈X.ex∨X.s₀.heap.objs.size≤b)∧b≠X.env.locals∧(∀ x c,X.env.cells.lookup x=some c→c≠b)∧∀ p∈X.pn++pins,p.1≠b) :
  Inv X pins σ H' { s with heap:=h',gens:=g',drawn:=d',toks:=t' }:=by
 obtain ⟨m,⟨o,es,ep,ho,r⟩,_⟩:=id I.loc
 obtain ⟨sl,hL⟩:=u.any ho I.free fun z=>(hch _ z).2.1 rfl
 exact I.step (ch:=ch) hch (fun b o hL hb hc e n=>u.keep b o e n (fun z=>(List.mem_cons.mp (I.stkSub b z)).elim hL hb) hc) (fun b o _ _ hc e n=>u.any e n hc) (fun b o hc e n=>u.free b o e n hc) (fun b o hc e=>u.there b o e hc) u.tups u.frzs u.tbls (fun m' hm=>by
  obtain ⟨o',es',ep',ho',r'⟩:=hm
  rw [ho] at ho'; cases ho'
  exact ⟨_,es',ep',hL,r'⟩) hok hg
theorem Inv.turned {t':Nat} {it:Addr} (I:Inv X pins σ H s) (k:∀ b o,b≠it→s.heap.get? b=some o→h'.get? b=some o) (hn:H it=none) (hL:it≠X.env.locals)
  (h1:it∈X.ex∨X.s₀.heap.objs.size≤it) (h2:∀ x c,X.env.cells.lookup x=some c→c≠it) (h3:∀ p∈X.pn++pins,p.1≠it):Inv X pins σ H { s with heap:=h',toks:=t' }:=by
 have nit:∀ b u,H b=some u→b≠it:=fun b u e z=>by rw [z,hn] at e; cases e
 refine I.step (g':=s.gens) (d':=s.drawn) (ch:=[it]) (fun b hb=>?_) (fun b o _ _ hc e _=>k b o (fun z=>hc (by simp [z])) e) (fun b o _ _ hc e _=>⟨o.slots,k b o (fun z=>hc (by simp [z])) e⟩) (fun _ _ _ _ n=>n)
  (fun b o hc e=>⟨o,k b o (fun z=>hc (by simp [z])) e⟩) (fun _ _ e=>e) (fun _ _ _ e=>e) (fun b ps e=>⟨#[],by rw [e]; simp⟩) (fun m hm=>?_) (fun b u e=>?_) I.bare
 ·have e:b=it:=by simpa using hb
  subst e
  exact ⟨h1,hL,h2,h3⟩
 ·obtain ⟨o,es,ep,ho,r⟩:=hm
  exact ⟨o,es,ep,k _ o (Ne.symm hL) ho,r⟩
 ·refine (I.hok b u e).stay (fun c v hc q=>k c v ?_ q) (fun _ q=>q) fun _ _ q=>q
  rcases hc with z | z
  ·rw [z]; exact nit b u e
  ·exact nit c _ z
theorem Inv.tok (I:Inv X pins σ H s) (t:Nat):Inv X pins σ H { s with toks:=t }:=I.un (h':=s.heap) (t':=t) Un.refl I.hok
theorem Inv.kept {t':Nat} (I:Inv X pins σ H s) (k:∀ b u,s.heap.get? b=some u→h'.get? b=some u):Inv X pins σ H { s with heap:=h',toks:=t' }:=I.un (Un.kept k) (I.hok.kept k)
theorem Inv.laid {a:Addr} {o:HO} {t':Nat} (I:Inv X pins σ H s) (k:∀ b u,s.heap.get? b=some u→h'.get? b=some u) (hp:s.heap.objs.size≤a) (new:ObjOk X.prog X.w (upd H a o) h' a o) :
  Inv X pins σ (upd H a o) { s with heap:=h',toks:=t' }:=I.un (Un.laid k hp (I.hok.fresh hp)) (I.hok.laid k hp new)
theorem Inv.write {x e:Addr} {o:HO} {t':Nat} (I:Inv X pins σ H s) (mu:Mut (H x)) (he:e=x∨H e=some (.own x)) (k:∀ b u,b≠e→s.heap.get? b=some u→h'.get? b=some u) (heo:∃ u,h'.get? e=some u)
  (new:ObjOk X.prog X.w (upd H x o) h' x o):Inv X pins σ (upd H x o) { s with heap:=h',toks:=t' }:=I.un (Un.write mu he k heo) (I.hok.write mu he k heo new)
theorem Inv.pins_of {pins':List (Addr × Obj)} (I:Inv X pins σ H s) (h:∀ p∈pins',s.heap.get? p.1=some p.2∧H p.1=none∧p.1≠X.env.locals∧p.1 ∉ X.fs∧∀ v,p.2.data≠.cell v):Inv X pins' σ H s :=
 ⟨I.ok,I.os,I.bare,I.base,I.loc,I.cell,I.free,I.freeC,fun p hp=>(List.mem_append.mp hp).elim (fun z=>I.pin p (List.mem_append_left _ z)) (h p),I.hok,I.len⟩
theorem nodup_ix {N:List Str} (hN:N.Nodup) {i j:Nat} {x:Str} (a:N[i]?=some x) (b:N[j]?=some x):i=j:=by
 obtain ⟨h1,e1⟩:=List.getElem?_eq_some_iff.mp a
 obtain ⟨h2,e2⟩:=List.getElem?_eq_some_iff.mp b
 exact (List.getElem_inj hN).mp (e1.trans e2.symm)
theorem store_ok2 {M:Model} {A:Around} {E:Value→Shared→Prop} {i:Nat} {x:Str} {v:V} {u:Value} {Q:Unit→Shared→Prop} (I:Inv X pins σ H s) (hN:X.N.Nodup) (hi:X.N[i]?=some x) (hx:Loc X.env.scope x) (r:RelV v u)
  (h:∀ s',Inv X pins (σ.set i (some v)) H s'→(∃ a,Heap.SameBut a s.heap s'.heap∧(a=X.env.locals∨X.env.cells.lookup x=some a))→Q () s') (hf:X.fn x=true∨X.env.scope.names.lookup x=some .local:=by first | exact .inl rfl | exact .inr rfl | assumption):wpAny M A (storeName X.env x u) Q E s:=by
 obtain ⟨m,hn,hl⟩:=id I.loc
 have hcls:(X.env.scope.kind == .class || (X.env.scope.kind == .module && X.env.locals != X.env.globals))=false:=by rw [I.ok.kind]; rfl
 have hiσ:i < σ.length:=by rw [I.len]; exact (List.getElem?_eq_some_iff.mp hi).1
 have cne:=I.cne
 have tracked:∀ {a:Addr} {h':Heap},(∃ o,s.heap.get? a=some o∧H a=none)→Heap.SameBut a s.heap h'→HOk X.prog X.w H h':=fun {a h'} ha hs b ob e=>by
  obtain ⟨_,_,hfree⟩:=ha
  refine (I.hok b ob e).stay (fun c w' hc q=>(hs.2 c ?_).trans q) (fun _ q=>q) fun _ _ q=>q
  rintro rfl
  rcases hc with rfl | hc
  ·rw [hfree] at e; cases e
  ·rw [hfree] at hc; cases hc
 rcases hx with hk | hk
 ·refine wpAny_storeName_local hk hn (fun h' hn' hs=>?_) hcls
  obtain ⟨oL,_,_,hoL,_⟩:=id hn
  refine h _ ⟨I.ok,I.os,I.bare,⟨fun b o e n hb hx=>?_,fun b o e n hb hx=>?_,I.base.free,fun b o e hx=>?_,I.base.tups,I.base.frzs,I.base.tbls⟩,⟨_,hn',fun j y v' e1 e2 e3=>?_⟩,fun y c e=>?_,I.free,I.freeC,fun p hp=>?_,tracked ⟨oL,hoL,I.free⟩ hs,by simpa using I.len⟩ ⟨_,hs,.inl rfl⟩
  ·exact (hs.2 b (Nat.ne_of_lt (Nat.lt_of_lt_of_le (Heap.lt_size e) I.ok.above))).trans (I.base.keep b o e n hb hx)
  ·obtain ⟨sl,e1⟩:=I.base.slot b o e n hb hx
   exact ⟨sl,(hs.2 b (Nat.ne_of_lt (Nat.lt_of_lt_of_le (Heap.lt_size e) I.ok.above))).trans e1⟩
  ·obtain ⟨o',e1⟩:=I.base.there b o e hx
   exact ⟨o',(hs.2 b (Nat.ne_of_lt (Nat.lt_of_lt_of_le (Heap.lt_size e) I.ok.above))).trans e1⟩
  ·by_cases hj:j=i
   ·subst hj
    rw [hi] at e1; cases e1
    rw [List.getElem?_set_self hiσ] at e2
    cases e2
    exact ⟨u,r,.inl ⟨hk,by simp⟩⟩
   ·rw [List.getElem?_set_ne (Ne.symm hj)] at e2
    obtain ⟨u',r',q⟩:=hl j y v' e1 e2 e3
    refine ⟨u',r',?_⟩
    rcases q with ⟨k,e⟩ | ⟨k,c,e,z⟩
    ·refine .inl ⟨k,?_⟩
     have:y≠x:=fun e=>hj (nodup_ix hN e1 (e ▸ hi))
     simp [this,e]
    ·exact .inr ⟨k,c,e,z.sameBut hs (cne y c e)⟩
  ·obtain ⟨w',z⟩:=I.cell y c e
   exact ⟨w',z.sameBut hs (cne y c e)⟩
  ·obtain ⟨e,n,ne,nf,d⟩:=I.pin p hp
   exact ⟨(hs.2 p.1 ne).trans e,n,ne,nf,d⟩
 ·have hfn:X.fn x=true:=by
   rcases hf with z | z
   ·exact z
   ·rw [z] at hk; cases hk
  obtain ⟨c,hc⟩:=I.ok.has x (.inl hk)
  obtain ⟨w',z⟩:=I.cell x c hc
  refine wpAny_storeName_cell I.ok.kind hk hc z (fun h' hc' hs=>?_)
  obtain ⟨oc,hoc,hocd⟩:=id z
  refine h { s with heap:=h' } ⟨I.ok,I.os,I.bare,⟨fun b o e n hb hx=>?_,fun b o e n hb hx=>?_,I.base.free,fun b o e hx=>?_,I.base.tups,I.base.frzs,I.base.tbls⟩,⟨m,hn.sameBut hs (Ne.symm (cne x c hc)),fun j y v' e1 e2 e3=>?_⟩,fun y c' e=>?_,I.free,I.freeC,fun p hp=>?_,tracked ⟨oc,hoc,I.freeC x c hc⟩ hs,by simpa using I.len⟩ ⟨c,hs,.inr hc⟩
  ·exact (hs.2 b (Nat.ne_of_lt (Nat.lt_of_lt_of_le (Heap.lt_size e) (I.ok.cab x c hfn hc)))).trans (I.base.keep b o e n hb hx)
  ·obtain ⟨sl,e1⟩:=I.base.slot b o e n hb hx
   exact ⟨sl,(hs.2 b (Nat.ne_of_lt (Nat.lt_of_lt_of_le (Heap.lt_size e) (I.ok.cab x c hfn hc)))).trans e1⟩
  ·obtain ⟨o',e1⟩:=I.base.there b o e hx
   exact ⟨o',(hs.2 b (Nat.ne_of_lt (Nat.lt_of_lt_of_le (Heap.lt_size e) (I.ok.cab x c hfn hc)))).trans e1⟩
  ·by_cases hj:j=i
   ·subst hj
    rw [hi] at e1; cases e1
    rw [List.getElem?_set_self hiσ] at e2
    cases e2
    exact ⟨u,r,.inr ⟨.inl hk,c,hc,hc'⟩⟩
   ·rw [List.getElem?_set_ne (Ne.symm hj)] at e2
    obtain ⟨u',r',q⟩:=hl j y v' e1 e2 e3
    refine ⟨u',r',?_⟩
    rcases q with q | ⟨k,c',e,z'⟩
    ·exact .inl q
    ·refine .inr ⟨k,c',e,z'.sameBut hs ?_⟩
     rintro rfl
     exact hj (nodup_ix hN e1 (I.ok.inj _ _ _ e hc ▸ hi))
  ·by_cases hcc:c'=c
   ·subst hcc; exact ⟨_,hc'⟩
   ·obtain ⟨w2,z2⟩:=I.cell y c' e
    exact ⟨w2,z2.sameBut hs hcc⟩
  ·obtain ⟨e,n,ne,nf,d⟩:=I.pin p hp
   refine ⟨(hs.2 p.1 ?_).trans e,n,ne,nf,d⟩
   intro q
   rw [q,hoc] at e
   have q':oc=p.2:=Option.some.inj e
   exact d w' (by rw [← q']; exact hocd)
theorem store_ok {M:Model} {A:Around} {E:Value→Shared→Prop} {i:Nat} {x:Str} {v:V} {u:Value} {Q:Unit→Shared→Prop} (I:Inv X pins σ H s) (hN:X.N.Nodup) (hi:X.N[i]?=some x) (hx:Loc X.env.scope x) (r:RelV v u)
  (h:∀ s',Inv X pins (σ.set i (some v)) H s'→Q () s') (hf:X.fn x=true∨X.env.scope.names.lookup x=some .local:=by first | exact .inl rfl | exact .inr rfl | assumption):wpAny M A (storeName X.env x u) Q E s :=
 store_ok2 I hN hi hx r (fun s' I' _=>h s' I') hf
theorem Inv.call' {s':Shared} {ch:List Addr} (I:Inv X pins σ H s) (ho:s'.os=s.os) (u:Un (frs X.stack) ch H H' s.heap s'.heap) (hok:HOk X.prog X.w H' s'.heap) (hg:AllBare s'.gens)
  (hch:∀ b∈ch,(b∈X.ex∨X.s₀.heap.objs.size≤b)∧b≠X.env.locals∧(∀ x c,X.env.cells.lookup x=some c→c≠b)∧∀ p∈X.pn++pins,p.1≠b):Inv X pins σ H' s':=by
 obtain ⟨h',g',d',t',o'⟩:=s'
 have e:o'=s.os:=ho
 subst e
 exact I.call (g':=g') (t':=t') (d':=d') u hok hg hch
end
abbrev XK:=Value→Option Addr→Hp→Prop
abbrev St:=List (Option V)
abbrev VK:=V→Hp→Prop
abbrev TE:=St→Hp→VK→Prop
abbrev TT:=St→Hp→(Bool→Hp→Prop)→Prop
abbrev TA:=St→Hp→(List V→Hp→Prop)→Prop
structure Ends where
 nx:St→Hp→Prop
 rt:VK
 bk:St→Hp→Prop:=fun _ _=>False
 ct:St→Hp→Prop:=fun _ _=>False
abbrev TS:=Ends→St→Hp→Prop
def EP (X:Cx) (pins:List (Addr × Obj)) (σ:St) (Q:VK) (u:Value) (s':Shared):Prop:=∃ v H',Inv X pins σ H' s'∧RelV v u∧Q v H'
def TP (X:Cx) (pins:List (Addr × Obj)) (σ:St) (Q:Bool→Hp→Prop) (b:Bool) (s':Shared):Prop:=∃ H',Inv X pins σ H' s'∧Q b H'
def AP (X:Cx) (pins:List (Addr × Obj)) (σ:St) (Q:List V→Hp→Prop) (us:List Value) (s':Shared):Prop:=∃ vs H',Inv X pins σ H' s'∧Vals vs us∧Q vs H'
def SP (X:Cx) (pins:List (Addr × Obj)) (D:Ends) (f:Flow) (s':Shared):Prop :=
 match f with
 | .next=>∃ σ' H',Inv X pins σ' H' s'∧D.nx σ' H'
 | .brk=>∃ σ' H',Inv X pins σ' H' s'∧D.bk σ' H'
 | .cont=>∃ σ' H',Inv X pins σ' H' s'∧D.ct σ' H'
 | .ret u=>∃ v σ' H',Inv X pins σ' H' s'∧RelV v u∧D.rt v H'
def PE (X:Cx) (e:Expr) (t:TE):Prop :=
 ∀ (pins:List (Addr × Obj)) (s:Shared) (σ:St) (H:Hp) (Q:VK),Inv X pins σ H s→t σ H Q→wpAny (model X.prog X.w) X.A (eval e X.env) (EP X pins σ Q) X.xe s
def PT (X:Cx) (e:Expr) (t:TT):Prop :=
 ∀ (pins:List (Addr × Obj)) (s:Shared) (σ:St) (H:Hp) (Q:Bool→Hp→Prop),Inv X pins σ H s→t σ H Q→wpAny (model X.prog X.w) X.A (isTrue e X.env (eval e X.env)) (TP X pins σ Q) X.xe s
def PW (X:Cx) (e:Expr) (t:TT):Prop :=
 ∀ (whole:Sem Value) (pins:List (Addr × Obj)) (s:Shared) (σ:St) (H:Hp) (Q:Bool→Hp→Prop),Inv X pins σ H s→t σ H Q→wpAny (model X.prog X.w) X.A (isTrue e X.env whole) (TP X pins σ Q) X.xe s
theorem PW.pt {X:Cx} {e:Expr} {t:TT} (h:PW X e t):PT X e t:=h _
def PA (X:Cx) (es:List Expr) (t:TA):Prop :=
 ∀ (pos:Pos) (pins:List (Addr × Obj)) (s:Shared) (σ:St) (H:Hp) (Q:List V→Hp→Prop),Inv X pins σ H s→t σ H Q→wpAny (model X.prog X.w) X.A (spliced (backTo pos (starEach es X.env))) (AP X pins σ Q) X.xe s
def PS (X:Cx) (st:Stmt) (t:TS):Prop :=
 ∀ (pins:List (Addr × Obj)) (s:Shared) (σ:St) (H:Hp) (D:Ends),Inv X pins σ H s→t D σ H→wpAny (model X.prog X.w) X.A (exec st X.env) (SP X pins D) X.xe s
def PSs (X:Cx) (st:List Stmt) (t:TS):Prop :=
 ∀ (pins:List (Addr × Obj)) (s:Shared) (σ:St) (H:Hp) (D:Ends),Inv X pins σ H s→t D σ H→wpAny (model X.prog X.w) X.A (execs st X.env) (SP X pins D) X.xe s
theorem thn {α:Type} {t:Sem α} {Q Q':α→Shared→Prop} {M:Model} {A:Around} {E:Value→Shared→Prop} {s:Shared} (h:wpAny M A t Q E s) (hQ:∀ a s,Q a s→Q' a s):wpAny M A t Q' E s:=wpAny_mono h hQ fun _ _ x=>x
end L2
namespace L2
open PySem PySem.Spec PyProof.Rows
section
variable {X:Cx}
def tVar (i:Nat):TE:=fun σ H Q=>∃ v,σ[i]?=some (some v)∧Q v H
def tC (v:V):TE:=fun _ H Q=>Q v H
theorem pe_var {i:Nat} {x:Str} {pos:Pos} (hN:X.N[i]?=some x) (hv:Vis X.env.scope x) (hd:(x == ("__debug__":Str))=false:=by decide) (hcd:(x == ("__classdict__":Str))=false:=by decide):PE X (.Name x pos) (tVar i):=by
 intro pins s σ H Q I h
 obtain ⟨v,e,h⟩:=h
 obtain ⟨m,hn,hl⟩:=I.loc
 obtain ⟨u,r,l⟩:=hl i x v hN e hv
 have fin:EP X pins σ Q u s:=⟨v,H,I,r,h⟩
 rcases l with ⟨hk,hm⟩ | ⟨hk,c,hc,hcell⟩
 ·exact wpAny_Name (wpAny_loadName_local I.ok.kind hk hn hm fin) hd
 ·rcases hk with hk | hk
  ·exact wpAny_Name (wpAny_loadName_cell I.ok.kind hk hc hcell fin) hd
  ·exact wpAny_Name (wpAny_loadName_free I.ok.kind hk hc hcell fin hcd) hd
theorem Zae {i j pos}:PE X (.Constant (.int i) j pos) (tC (.int i)):=fun _ _ _ H _ I h=>wpAny_Constant_int ⟨.int i,H,I.tok _,⟨_,rfl⟩,h⟩
theorem Zer {b j pos}:PE X (.Constant (.bool b) j pos) (tC (.bl b)):=fun _ _ _ H _ I h=>Constant_bool ⟨.bl b,H,I,rfl,h⟩
theorem Zc7 {j pos}:PE X (.Constant .none j pos) (tC .non):=fun _ _ _ H _ I h=>Constant_none ⟨.non,H,I,rfl,h⟩
theorem Zg3 {x j pos}:PE X (.Constant (.str x) j pos) (tC (.str x)):=fun _ _ _ H _ I h=>Calls.Constant_str ⟨.str x,H,I.tok _,⟨_,rfl⟩,h⟩
def Gl (X:Cx) (x:Str):Prop:=X.env.kindOf x=some .globalImplicit
theorem Zf0 {E:Value→Shared→Prop} {pins:List (Addr × Obj)} {s:Shared} {σ:St} {H:Hp} {x:Str} {u:Value} {pos:Pos} {Q:Value→Shared→Prop} (I:Inv X pins σ H s) (hg:Gl X x) (hm:X.mg x=some u) (h:Q u s)
  (hd:(x == ("__debug__":Str))=false:=by decide):wpAny (model X.prog X.w) X.A (eval (.Name x pos) X.env) Q E s :=
 Calls.Name_function_global I.ok.kind hg (Calls.loadGlobal_global (by rw [I.ok.glob]; exact I.mod.glob.keeps I.bk) hm h) hd
theorem Ze3 {E:Value→Shared→Prop} {pins:List (Addr × Obj)} {s:Shared} {σ:St} {H:Hp} {x:Str} {u:Value} {pos:Pos} {Q:Value→Shared→Prop} (I:Inv X pins σ H s) (hg:Gl X x) (hm:X.mg x=none) (hv:bootBuiltins x=some u) (h:Q u s)
  (hn:x≠"__name__":=by decide) (hd:(x == ("__debug__":Str))=false:=by decide):wpAny (model X.prog X.w) X.A (eval (.Name x pos) X.env) Q E s:=by
 obtain ⟨mb,h1,h2⟩:=I.mod.blt
 exact Calls.Name_function_global I.ok.kind hg (Calls.loadGlobal_builtin (by rw [I.ok.glob]; exact I.mod.glob.keeps I.bk) hm (by rw [I.ok.blt]; exact h1.keeps I.bk) ((h2 x hn).trans hv) h) hd
theorem Zbf {x:Str} {v:V} {u:Value} {pos:Pos} (hg:Gl X x) (hm:X.mg x=some u) (r:RelV v u) (hd:(x == ("__debug__":Str))=false:=by decide):PE X (.Name x pos) (tC v) :=
 fun _ _ _ H _ I h=>Zf0 I hg hm ⟨v,H,I,r,h⟩ hd
theorem Zdp {x:Str} {v:V} {u:Value} {pos:Pos} (hg:Gl X x) (hm:X.mg x=none) (hv:bootBuiltins x=some u) (r:RelV v u) (hn:x≠"__name__":=by decide) (hd:(x == ("__debug__":Str))=false:=by decide):PE X (.Name x pos) (tC v) :=
 fun _ _ _ H _ I h=>Ze3 I hg hm hv ⟨v,H,I,r,h⟩ hn hd
variable {a b:Expr} {ta tb:TE} {pos:Pos}
def PC (X:Cx) (op:CmpOp) (a b:Expr) (t:TE):Prop :=
 ∀ (pins:List (Addr × Obj)) (s:Shared) (σ:St) (H:Hp) (Q:VK),Inv X pins σ H s→t σ H Q →
  wpAny (model X.prog X.w) X.A (eval a X.env) (fun v s₁=>wpAny (model X.prog X.w) X.A (eval b X.env) (fun u s₂=>wpAny (model X.prog X.w) X.A (compareOp op v u) (EP X pins σ Q) X.xe s₂) X.xe s₁) X.xe s
theorem nobehind (b:Expr) {op:CmpOp} (h:op≠.In) (h2:op≠.NotIn):behindInMarks op b=false:=by
 have e1:(op == CmpOp.In)=false:=by cases op <;> first | rfl | exact absurd rfl h
 have e2:(op == CmpOp.NotIn)=false:=by cases op <;> first | rfl | exact absurd rfl h2
 cases b <;> simp [behindInMarks,e1,e2]
def tB (t:TE):TT:=fun σ H Q=>t σ H fun x H1=>∃ c,x=.bl c∧Q c H1
theorem pt_cmp {op:CmpOp} {t:TE} (h:PC X op a b t) (h1:behindInMarks op b=false:=by first | exact nobehind _ (by decide) (by decide) | rfl):PT X (.Compare a [op] [b] pos) (tB t):=by
 intro pins s σ H Q I hw
 refine wpAny_isTrue_Compare1 (thn (h pins s σ H _ I hw) fun v s1 h1=>thn h1 fun u s2 h2=>thn h2 fun c s3 ⟨x,H1,I1,r1,q1⟩=>?_) h1
 obtain ⟨d,rfl,q⟩:=q1
 cases r1
 exact wpAny_truthy_bool ⟨H1,I1,q⟩
theorem Zbs {e:Expr} {t:TE} (h:PE X e t) (he:∀ whole,isTrue e X.env whole=(do let v ← whole; standAt e.pos; holding [v] (truthy v)):=by intro _; rfl):PT X e (tB t):=by
  intro pins s σ H Q I hw
  refine isTrue_plain (thn (h pins s σ H _ I hw) fun v s1 ⟨x,H1,I1,r1,q1⟩=>?_) (he _)
  obtain ⟨d,rfl,q⟩:=q1
  cases r1
  exact wpAny_truthy_bool ⟨H1,I1,q⟩
variable {tA tB':TT} {rest:List Expr}
def tAnd (t u:TT):TT:=fun σ H Q=>t σ H fun c H1=>if c=true then u σ H1 Q else Q false H1
def tOr (t u:TT):TT:=fun σ H Q=>t σ H fun c H1=>if c=true then Q true H1 else u σ H1 Q
def tNot (t:TT):TT:=fun σ H Q=>t σ H fun c H1=>Q (!c) H1
theorem Zfn (ha:PT X a tA):PW X (.BoolOp .And [a] pos) tA:=by
 intro wh pins s σ H Q I h
 refine isTrue_and (thn (ha pins s σ H Q I h) fun c s1 e=>?_)
 cases c with
 | true=>exact isTrue_and_nil e
 | false=>exact e
theorem Zdz (ha:PT X a tA):PW X (.BoolOp .Or [a] pos) tA:=by
 intro wh pins s σ H Q I h
 refine isTrue_or (thn (ha pins s σ H Q I h) fun c s1 e=>?_)
 cases c with
 | false=>exact isTrue_or_nil e
 | true=>exact e
theorem Ziz (ha:PT X a tA) (hb:PW X (.BoolOp .And (b :: rest) pos) tB'):PW X (.BoolOp .And (a :: b :: rest) pos) (tAnd tA tB'):=by
 intro wh pins s σ H Q I h
 refine isTrue_and (thn (ha pins s σ H _ I h) fun c s1 ⟨H1,I1,q1⟩=>?_)
 cases c with
 | true=>exact hb wh pins s1 σ H1 Q I1 q1
 | false=>exact ⟨H1,I1,q1⟩
theorem Zfm (ha:PT X a tA) (hb:PW X (.BoolOp .Or (b :: rest) pos) tB'):PW X (.BoolOp .Or (a :: b :: rest) pos) (tOr tA tB'):=by
 intro wh pins s σ H Q I h
 refine isTrue_or (thn (ha pins s σ H _ I h) fun c s1 ⟨H1,I1,q1⟩=>?_)
 cases c with
 | true=>exact ⟨H1,I1,q1⟩
 | false=>exact hb wh pins s1 σ H1 Q I1 q1
theorem Zci (ha:PT X a tA):PT X (.UnaryOp .Not a pos) (tNot tA):=by
 intro pins s σ H Q I h
 exact isTrue_not (ha pins s σ H (fun c H1=>Q (!c) H1) I h)
def tAndV (ta tb:TE):TE:=fun σ H Q=>ta σ H fun x H1=>∃ c,x=.bl c∧if c=true then tb σ H1 Q else Q (.bl false) H1
def tOrV (ta tb:TE):TE:=fun σ H Q=>ta σ H fun x H1=>∃ c,x=.bl c∧if c=true then Q (.bl true) H1 else tb σ H1 Q
def tNotV (ta:TE):TE:=fun σ H Q=>ta σ H fun x H1=>∃ c,x=.bl c∧Q (.bl (!c)) H1
theorem Zed {op} {t:TE} (h:PE X a t):PE X (.BoolOp op [a] pos) t:=fun pins s σ H Q I hw=>BoolOp_one (h pins s σ H Q I hw)
theorem Zef (ha:PE X a ta) (hb:PE X (.BoolOp .And (b :: rest) pos) tb):PE X (.BoolOp .And (a :: b :: rest) pos) (tAndV ta tb):=by
 intro pins s σ H Q I h
 refine BoolOp_and (thn (ha pins s σ H _ I h) fun v s1 ⟨x,H1,I1,r1,q1⟩=>?_)
 obtain ⟨c,rfl,q1⟩:=q1
 cases r1
 refine wpAny_truthy_bool ?_
 cases c with
 | true=>exact hb pins s1 σ H1 Q I1 q1
 | false=>exact ⟨.bl false,H1,I1,rfl,q1⟩
theorem pe_or (ha:PE X a ta) (hb:PE X (.BoolOp .Or (b :: rest) pos) tb):PE X (.BoolOp .Or (a :: b :: rest) pos) (tOrV ta tb):=by
 intro pins s σ H Q I h
 refine BoolOp_or (thn (ha pins s σ H _ I h) fun v s1 ⟨x,H1,I1,r1,q1⟩=>?_)
 obtain ⟨c,rfl,q1⟩:=q1
 cases r1
 refine wpAny_truthy_bool ?_
 cases c with
 | false=>exact hb pins s1 σ H1 Q I1 q1
 | true=>exact ⟨.bl true,H1,I1,rfl,q1⟩
theorem pe_not (ha:PE X a ta):PE X (.UnaryOp .Not a pos) (tNotV ta):=by
 intro pins s σ H Q I h
 refine UnaryOp_ (thn (ha pins s σ H _ I h) fun v s1 ⟨x,H1,I1,r1,q1⟩=>?_)
 obtain ⟨c,rfl,q1⟩:=q1
 cases r1
 exact not_of (wpAny_truthy_bool ⟨.bl (!c),H1,I1,rfl,q1⟩)
end
end L2
namespace L2
open PySem PySem.Spec PyProof.Rows
def SqL (K:PySem.W.Frag) (H:Hp) (a:Addr) (xs:List V):Prop :=
 Rd H a (.lst xs) ∨
  ∃ (o:Obj) (its:Array Value) (n:Nat),K.lookup a=some o∧o.cls=.type "list"∧o.dict=none∧o.data=.seq its n∧its.size≤sizeLine∧Vals xs its.toList
def SqT (K:PySem.W.Frag) (H:Hp) (a:Addr) (xs:List V):Prop :=
 Rd H a (.tup xs) ∨
  ∃ (o:Obj) (its:Array Value) (n:Nat),K.lookup a=some o∧o.cls=.type "tuple"∧o.data=.seq its n∧its.size≤sizeLine∧Vals xs its.toList
def absV:Value→Option V
 | .none=>some .non
 | .bool b=>some (.bl b)
 | .int i _=>some (.int i)
 | .str x _=>some (.str x)
 | .bytes b _=>some (.byt b)
 | .float b _=>some (.flt b)
 | .ref a=>some (.ref a)
 | .type n=>some (.ty n)
 | _=>none
theorem RelV.abs {x:V} {u:Value} (r:RelV x u):absV u=some x:=by
 cases x with
 | non=>cases r; rfl
 | bl _=>cases r; rfl
 | int _=>obtain ⟨t,rfl⟩:=r; rfl
 | str _=>obtain ⟨t,rfl⟩:=r; rfl
 | byt _=>obtain ⟨t,rfl⟩:=r; rfl
 | flt _=>obtain ⟨t,rfl⟩:=r; rfl
 | ref _=>cases r; rfl
 | ty _=>cases r; rfl
theorem RelV.inj {x y:V} {u:Value} (r:RelV x u) (q:RelV y u):x=y:=Option.some.inj (r.abs.symm.trans q.abs)
theorem Vals.inj:∀ {xs ys:List V} {us:List Value},Vals xs us→Vals ys us→xs=ys
 | _,_,_,.nil,.nil=>rfl
 | _,_,_,.cons r t,.cons r' t'=>by rw [r.inj r',Vals.inj t t']
section
variable {X:Cx} {pins:List (Addr × Obj)} {σ:St} {H:Hp} {s:Shared} {a:Addr} {xs ys:List V}
theorem SqL.of {K:PySem.W.Frag} (h:H a=some (.lst xs)):SqL K H a xs:=.inl (.inl h)
theorem SqT.of {K:PySem.W.Frag} (h:H a=some (.tup xs)):SqT K H a xs:=.inl (.inl h)
theorem Inv.list (I:Inv X pins σ H s) (h:SqL X.K H a xs):∃ its:List Value,Vals xs its∧PlainL s.heap a its.toArray∧xs.length≤sizeLine:=by
 rcases h with h | ⟨o,its,n,hk,hc,hd,hs,hz,r⟩
 ·obtain ⟨z,its,n,r,e⟩:=h.ok I.hok
  exact ⟨its,r,⟨_,n,e,rfl,rfl,rfl⟩,z⟩
 ·refine ⟨its.toList,r,⟨o,n,I.kIn a o hk,hc,hd,by simpa using hs⟩,?_⟩
  have e:=r.length
  simp only [Array.length_toList] at e
  omega
theorem Inv.tuple (I:Inv X pins σ H s) (h:SqT X.K H a xs):∃ its:List Value,Vals xs its∧IsTup s.heap a its.toArray∧xs.length≤sizeLine:=by
 rcases h with h | ⟨o,its,n,hk,hc,hs,hz,r⟩
 ·obtain ⟨z,its,r,p⟩:=h.ok I.hok
  exact ⟨its,r,p,z⟩
 ·refine ⟨its.toList,r,⟨o,I.kIn a o hk,hc,n,by simpa using hs⟩,?_⟩
  have e:=r.length
  simp only [Array.length_toList] at e
  omega
theorem Inv.list_inj (I:Inv X pins σ H s) (h:SqL X.K H a xs) (h':SqL X.K H a ys):xs=ys:=by
 obtain ⟨its,r,⟨o,n,e,_,_,d⟩,_⟩:=I.list h
 obtain ⟨its',r',⟨o',n',e',_,_,d'⟩,_⟩:=I.list h'
 rw [e] at e'; cases e'
 rw [d] at d'
 injection d' with d1 _
 have:its=its':=by simpa using congrArg Array.toList d1
 subst this
 exact r.inj r'
theorem Inv.tuple_inj (I:Inv X pins σ H s) (h:SqT X.K H a xs) (h':SqT X.K H a ys):xs=ys:=by
 obtain ⟨its,r,⟨o,e,_,n,d⟩,_⟩:=I.tuple h
 obtain ⟨its',r',⟨o',e',_,n',d'⟩,_⟩:=I.tuple h'
 rw [e] at e'; cases e'
 rw [d] at d'
 injection d' with d1 _
 have:its=its':=by simpa using congrArg Array.toList d1
 subst this
 exact r.inj r'
end
abbrev Cx.wish (X:Cx) (E:Value→Shared→Prop):Cx:={ X with xe:=E }
abbrev Cx.nox (X:Cx):Cx:=X.wish fun _ _=>False
theorem Cx.Ok.wish {X:Cx} (ok:X.Ok) (E:Value→Shared→Prop):(X.wish E).Ok :=
 ⟨ok.mod,ok.kind,ok.glob,ok.blt,ok.above,ok.inj,ok.has,ok.cab,ok.hd,ok.frames,ok.stk,ok.exf,ok.bs,ok.bsz,ok.noex,ok.exfs,ok.funs,ok.frf⟩
theorem Cx.Ok.unwish {X:Cx} {E:Value→Shared→Prop} (ok:(X.wish E).Ok):X.Ok :=
 ⟨ok.mod,ok.kind,ok.glob,ok.blt,ok.above,ok.inj,ok.has,ok.cab,ok.hd,ok.frames,ok.stk,ok.exf,ok.bs,ok.bsz,ok.noex,ok.exfs,ok.funs,ok.frf⟩
section
variable {X:Cx} {pins:List (Addr × Obj)} {σ:St} {H:Hp} {s:Shared} {E:Value→Shared→Prop}
theorem Inv.wish (I:Inv X pins σ H s) (E:Value→Shared→Prop):Inv (X.wish E) pins σ H s:=⟨I.ok.wish E,I.os,I.bare,I.base,I.loc,I.cell,I.free,I.freeC,I.pin,I.hok,I.len⟩
theorem Inv.unwish (I:Inv (X.wish E) pins σ H s):Inv X pins σ H s:=⟨I.ok.unwish,I.os,I.bare,I.base,I.loc,I.cell,I.free,I.freeC,I.pin,I.hok,I.len⟩
theorem SP.unwish {D:Ends} {f:Flow} {s':Shared} (h:SP (X.wish E) pins D f s'):SP X pins D f s':=by
 cases f with
 | next=>obtain ⟨σ',H',I,q⟩:=h; exact ⟨σ',H',I.unwish,q⟩
 | brk=>obtain ⟨σ',H',I,q⟩:=h; exact ⟨σ',H',I.unwish,q⟩
 | cont=>obtain ⟨σ',H',I,q⟩:=h; exact ⟨σ',H',I.unwish,q⟩
 | ret u=>obtain ⟨v,σ',H',I,r,q⟩:=h; exact ⟨v,σ',H',I.unwish,r,q⟩
theorem PSs.nox {st:List Stmt} {t:TS} (h:PSs X.nox st t):PSs X st t:=fun pins s σ H D I hw =>
 wpAny_mono (h pins s σ H D (I.wish _) hw) (fun _ _ q=>q.unwish) fun _ _ z=>False.elim z
end
section
variable {X:Cx} {st:Stmt} {rest:List Stmt} {t u:TS} {e:Expr} {te:TE} {pos:Pos}
def tNext:TS:=fun D σ H=>D.nx σ H
def tSeq (t u:TS):TS:=fun D σ H=>t { D with nx:=u D } σ H
theorem Zas:PSs X [] tNext:=fun _ _ σ H _ I h=>wpAny_execs_nil ⟨σ,H,I,h⟩
theorem Zaf (h1:PS X st t) (h2:PSs X rest u):PSs X (st :: rest) (tSeq t u):=by
 intro pins s σ H D I h
 refine wpAny_execs_cons (thn (h1 pins s σ H { D with nx:=u D } I h) fun f s1 q=>?_)
 cases f with
 | next =>
  obtain ⟨σ',H',I',q⟩:=q
  exact h2 pins s1 σ' H' D I' q
 | ret v=>exact q
 | brk=>exact q
 | cont=>exact q
theorem Zag (h1:PS X st t):PSs X [st] t:=by
 intro pins s σ H D I h
 refine wpAny_execs_cons (thn (h1 pins s σ H D I h) fun f s1 q=>?_)
 cases f with
 | next=>exact wpAny_execs_nil q
 | ret v=>exact q
 | brk=>exact q
 | cont=>exact q
theorem Inv.quiet {pins:List (Addr × Obj)} {σ:St} {H:Hp} {s:Shared} (I:Inv X pins σ H s):interactive X.env=false:=by simp [interactive,I.ok.kind]
def tDrop (te:TE):TS:=fun D σ H=>te σ H fun _ H1=>D.nx σ H1
theorem Zb3 (he:PE X e te) (hs:swapsWith e none pos.line X.env=pure false:=by rfl):PS X (.Expr e pos) (tDrop te):=by
 intro pins s σ H D I h
 exact wpAny_Expr_any (thn (he pins s σ H _ I h) fun v s1 ⟨x,H1,I1,r1,q1⟩=>⟨σ,H1,I1,q1⟩) I.quiet hs
def tRet (te:TE):TS:=fun D σ H=>te σ H D.rt
theorem Zaq (he:PE X e te):PS X (.Return (some e) pos) (tRet te):=by
 intro pins s σ H D I h
 exact wpAny_Return_some (thn (he pins s σ H _ I h) fun v s1 ⟨x,H1,I1,r1,q1⟩=>⟨x,σ,H1,I1,r1,q1⟩)
def tIfS (c:TT) (t u:TS):TS:=fun D σ H=>c σ H fun b H1=>if b=true then t D σ H1 else u D σ H1
theorem Zbi {c:Expr} {a b:List Stmt} {tc:TT} (hc:PT X c tc) (ha:PSs X a t) (hb:PSs X b u):PS X (.If c a b pos) (tIfS tc t u):=by
 intro pins s σ H D I h
 refine wpAny_If (thn (hc pins s σ H _ I h) fun d s1 ⟨H1,I1,q1⟩=>?_)
 cases d with
 | true=>exact ha pins s1 σ H1 D I1 q1
 | false=>exact hb pins s1 σ H1 D I1 q1
def tNever:TS:=fun _ _ _=>False
theorem Zeb:PS X st tNever:=fun _ _ _ _ _ _ h=>h.elim
end
abbrev TG:=V→St→Hp→(St→Hp→Prop)→Prop
abbrev TGs:=List V→St→Hp→(St→Hp→Prop)→Prop
def PG (X:Cx) (target:Expr) (t:TG):Prop :=
 ∀ (pins:List (Addr × Obj)) (s:Shared) (σ:St) (H:Hp) (v:V) (u:Value) (Q:St→Hp→Prop),Inv X pins σ H s→RelV v u→t v σ H Q →
  wpAny (model X.prog X.w) X.A (assign target X.env u) (fun _ s'=>∃ σ' H',Inv X pins σ' H' s'∧Q σ' H') X.xe s
def PGs (X:Cx) (ts:List Expr) (t:TGs):Prop :=
 ∀ (pins:List (Addr × Obj)) (s:Shared) (σ:St) (H:Hp) (vs:List V) (us:List Value) (Q:St→Hp→Prop),Inv X pins σ H s→Vals vs us→t vs σ H Q →
  wpAny (model X.prog X.w) X.A (assignInOrder ((assignEach ts X.env).map (·.2)) us) (fun _ s'=>∃ σ' H',Inv X pins σ' H' s'∧Q σ' H') X.xe s
section
variable {X:Cx} {pos:Pos}
def gName (i:Nat):TG:=fun v σ H Q=>Q (σ.set i (some v)) H
theorem Zan {i:Nat} {x:Str} (hN:X.N.Nodup) (hi:X.N[i]?=some x) (hx:Loc X.env.scope x) (hf:X.fn x=true∨X.env.scope.names.lookup x=some .local:=by first | exact .inl rfl | exact .inr rfl | assumption):PG X (.Name x pos) (gName i):=by
 intro pins s σ H v u Q I r h
 exact wpAny_assign_Name (store_ok I hN hi hx r (fun s' I'=>⟨_,H,I',h⟩) hf)
def gNil:TGs:=fun vs σ H Q=>vs=[]∧Q σ H
def gCons (t:TG) (u:TGs):TGs:=fun vs σ H Q=>∃ v r,vs=v :: r∧t v σ H fun σ' H'=>u r σ' H' Q
theorem Zcv:PGs X [] gNil:=by
 intro pins s σ H vs us Q I r h
 obtain ⟨e,h⟩:=h
 subst e
 cases r
 exact assignInOrder_nil ⟨σ,H,I,h⟩
theorem Zat {e:Expr} {es:List Expr} {t:TG} {u:TGs} (h1:PG X e t) (h2:PGs X es u)
  (hs:(assignEach (e :: es) X.env).map (·.2)=assign e X.env :: (assignEach es X.env).map (·.2):=by rfl):PGs X (e :: es) (gCons t u):=by
 intro pins s σ H vs us Q I r h
 obtain ⟨v,vr,e1,h⟩:=h
 subst e1
 cases r with
 | cons r rr =>
  rw [hs]
  refine assignInOrder_cons (thn (h1 pins s σ H _ _ _ I r h) fun _ s1 ⟨σ1,H1,I1,q1⟩=>?_)
  exact h2 pins s1 σ1 H1 _ _ Q I1 rr q1
def gTup (K:PySem.W.Frag) (n:Nat) (t:TGs):TG:=fun v σ H Q=>∃ a xs,v=.ref a∧SqT K H a xs∧xs.length=n∧t xs σ H Q
theorem Zdl {es:List Expr} {k:Nat} {t:TGs} {n:Nat} (hc:X.calm=true) (h:PGs X es t)
  (hn:(assignEach es X.env).length=n:=by rfl) (hst:(assignEach es X.env).findIdx? (·.1)=none:=by rfl):PG X (.Tuple es k pos) (gTup X.K n t):=by
 intro pins s σ H v u Q I r hw
 obtain ⟨a,xs,e1,hq,hl,hw⟩:=hw
 subst e1
 cases r
 obtain ⟨its,rv,ht,hz⟩:=I.tuple hq
 refine assign_Tuple_tuple (I.ok.hd hc) ht (by simp [hn,← hl,rv.length]) hst fun h' hx=>?_
 have I1:Inv X pins σ H { s with heap:=h' }:=I.kept (t':=s.toks) fun b o e=>hx b o (Nat.ne_of_lt (Heap.lt_size e)) e
 exact h pins _ σ H xs _ Q I1 (by simpa using rv) hw
def tAsg (te:TE) (g:TG):TS:=fun D σ H=>te σ H fun x H1=>g x σ H1 D.nx
theorem ps_asg {tg e:Expr} {te:TE} {g:TG} (he:PE X e te) (hg:PG X tg g) (hs:swapsWithSole [tg] e pos.line X.env=pure false:=by rfl) (hw:swappedStores [tg] e X.env=pure none:=by rfl)
  (h1:(assignEach [tg] X.env).map (·.2)=[assign tg X.env]:=by rfl):PS X (.Assign [tg] e pos) (tAsg te g):=by
 intro pins s σ H D I h
 refine wpAny_Assign_stores (thn (he pins s σ H _ I h) fun v s1 ⟨x,H1,I1,r1,q1⟩=>?_) hs hw
 rw [h1]
 exact thn (hg pins s1 σ H1 x v _ I1 r1 q1) fun _ s2 q=>q
theorem Zay {i:Nat} {x:Str} {e:Expr} {te:TE} {pos':Pos} (hN:X.N.Nodup) (hi:X.N[i]?=some x) (hx:Loc X.env.scope x) (he:PE X e te) (hs:swapsWith e (some (.Name x pos')) pos.line X.env=pure false:=by rfl) (hf:X.fn x=true∨X.env.scope.names.lookup x=some .local:=by first | exact .inl rfl | exact .inr rfl | assumption) :
  PS X (.Assign [.Name x pos'] e pos) (tAsg te (gName i)):=by
 intro pins s σ H D I h
 refine wpAny_Assign_Name (thn (he pins s σ H _ I h) fun v s1 ⟨y,H1,I1,r1,q1⟩=>?_) hs
 exact store_ok I1 hN hi hx r1 (fun s2 I2=>⟨_,H1,I2,q1⟩) hf
end
section
variable {X:Cx} {pos:Pos}
def tWhile (c:TT) (tb:TS):TS:=fun D σ H=>∃ W:Nat→St→Hp→Prop,(∃ m,W m σ H)∧∀ m σ H,W m σ H →
 c σ H fun b H1=>if b=true then ∃ N:St→Hp→Prop,(∀ σ' H',N σ' H'→∃ m',m' < m∧W m' σ' H')∧tb { D with nx:=N,ct:=N,bk:=D.nx } σ H1 else D.nx σ H1
theorem ps_while {c:Expr} {body:List Stmt} {tc:TT} {tb:TS} (hp:PassesOwn (model X.prog X.w) X.A X.env X.xe) (hc:PT X c tc) (hb:PSs X body tb):PS X (.While c body [] pos) (tWhile tc tb):=by
 intro pins s σ H D I h
 obtain ⟨W,⟨m0,w0⟩,turn⟩:=h
 refine wpAny_While (codeAny_whileLoop (fun n s'=>∃ σ' H',Inv X pins σ' H' s'∧W n σ' H') ?_ m0 ⟨σ,H,I,w0⟩)
 rintro n s1 ⟨σ1,H1,I1,w1⟩
 refine wpAny_passesOwn hp (thn (hc pins s1 σ1 H1 _ I1 (turn n σ1 H1 w1)) fun b s2 ⟨H2,I2,q2⟩=>?_)
 cases b with
 | true =>
  obtain ⟨N,hN,q2⟩:=q2
  rw [if_pos rfl]
  refine wpAny_passesOwn hp (thn (hb pins s2 σ1 H2 _ I2 q2) fun f s3 q3=>?_)
  cases f with
  | next =>
   obtain ⟨σ3,H3,I3,n3⟩:=q3
   obtain ⟨m',hm,w3⟩:=hN σ3 H3 n3
   exact ⟨m',hm,σ3,H3,I3,w3⟩
  | cont =>
   obtain ⟨σ3,H3,I3,n3⟩:=q3
   obtain ⟨m',hm,w3⟩:=hN σ3 H3 n3
   exact ⟨m',hm,σ3,H3,I3,w3⟩
  | brk=>exact q3
  | ret v=>exact q3
 | false =>
  rw [if_neg Bool.false_ne_true]
  exact wpAny_execs_nil ⟨σ1,H2,I2,q2⟩
end
structure It where
 go:Nat→Hp→Prop
 yld:Nat→Hp→V→Hp→Prop
 stop:Nat→Hp→Prop
def FpOk (X:Cx) (pins:List (Addr × Obj)) (H:Hp) (b:Addr):Prop :=
 H b=none∧b≠X.env.locals∧b ∉ X.fs∧(b∈X.ex∨X.s₀.heap.objs.size≤b)∧(∀ x c,X.env.cells.lookup x=some c→c≠b)∧∀ p∈X.pn++pins,p.1≠b
theorem Inv.fpOk {X:Cx} {pins:List (Addr × Obj)} {σ:St} {H H':Hp} {s:Shared} {b:Addr} (I:Inv X pins σ H s) (hb:s.heap.objs.size≤b) (hn:H' b=none):FpOk X pins H' b:=by
 refine ⟨hn,Nat.ne_of_gt (Nat.lt_of_lt_of_le I.lt hb),I.nofs hb,.inr (Nat.le_trans I.sz hb),fun x c e z=>?_,fun p hp z=>?_⟩
 ·obtain ⟨v,q⟩:=I.cell x c e
  exact absurd (Nat.lt_of_lt_of_le q.lt (by rw [z]; exact hb)) (Nat.lt_irrefl _)
 ·exact absurd (Nat.lt_of_lt_of_le (Heap.lt_size (I.pin p hp).1) (by rw [z]; exact hb)) (Nat.lt_irrefl _)
structure Turn (P:Program) (w:World) (K:PySem.W.Frag) (tg:Expr) (J:It) (fp:List Addr) (it:Addr) (tn:Nat→Heap→Prop):Prop where
 mem:it∈fp
 obj:∀ i h,tn i h→∀ b∈fp,∃ o,h.get? b=some o∧∀ v,o.data≠.cell v
 keep:∀ i h h',tn i h→(∀ b∈fp,∀ o,h.get? b=some o→h'.get? b=some o)→tn i h'
 item:∀ (X:Cx),X.prog=P→X.w=w→X.K=K→X.calm=true→∀ (i:Nat) (pins:List (Addr × Obj)) (s:Shared) (σ:St) (H:Hp) (E:Value→Shared→Prop),Inv X pins σ H s→(∀ b∈fp,FpOk X pins H b)→tn i s.heap→J.go i H →
  wpAny (model P w) X.A (pyNext (.ref it)) (fun r s1=>∃ u,r=some u ∧
   wpAny (model P w) X.A (letOwnedTupleGo tg (.ref it) u) (fun _ s2=>∃ x H',Inv X pins σ H' s2∧RelV x u∧J.yld i H x H'∧tn (i+1) s2.heap∧∀ b∈fp,H' b=none) E s1) E s
 done:∀ (X:Cx),X.prog=P→X.w=w→X.K=K→X.calm=true→∀ (i:Nat) (pins:List (Addr × Obj)) (s:Shared) (σ:St) (H:Hp) (E:Value→Shared→Prop),Inv X pins σ H s→(∀ b∈fp,FpOk X pins H b)→tn i s.heap→J.stop i H →
  wpAny (model P w) X.A (pyNext (.ref it)) (fun r s1=>r=none∧Inv X pins σ H s1) E s
 self:∀ (A:Around) (i:Nat) (s:Shared) (Q:Value→Shared→Prop) (E:Value→Shared→Prop),tn i s.heap→Q (.ref it) s→wpAny (model P w) A (pyIter (.ref it)) Q E s
abbrev TI:=St→Hp→(It→Hp→Prop)→Prop
def PIE (X:Cx) (pins:List (Addr × Obj)) (σ:St) (tg:Expr) (R:It→Hp→Prop) (itv:Value) (s2:Shared):Prop :=
 ∃ (it:Addr) (fp:List Addr) (tn:Nat→Heap→Prop) (J:It) (H':Hp),itv=.ref it∧Inv X pins σ H' s2∧Turn X.prog X.w X.K tg J fp it tn∧tn 0 s2.heap∧(∀ b∈fp,FpOk X pins H' b)∧R J H'
def PI (X:Cx) (tg iter:Expr) (wi:TI):Prop :=
 ∀ (pins:List (Addr × Obj)) (s:Shared) (σ:St) (H:Hp) (R:It→Hp→Prop),Inv X pins σ H s→wi σ H R →
  wpAny (model X.prog X.w) X.A (eval iter X.env) (fun v s1=>wpAny (model X.prog X.w) X.A (pyIter v) (PIE X pins σ tg R) X.xe s1) X.xe s
theorem go_of {M:Model} {A:Around} {E:Value→Shared→Prop} {s:Shared} {tg:Expr} {it:Addr} {u:Value} {o:Obj} {n:String} {vs:Array Value} {Q:Unit→Shared→Prop} (ho:s.heap.get? it=some o) (hc:o.cls=.type n) (hd:o.data=.fields vs)
    (hn:["enumerate","zip","dict_itemiterator","dict_reverseitemiterator","odict_iterator","itertools.zip_longest","itertools.pairwise"].contains n=false) (hQ:Q () s):wpAny M A (letOwnedTupleGo tg (.ref it) u) Q E s:=by
  unfold letOwnedTupleGo
  cases tg <;> first
    | exact wpAny_pure hQ
    | (cases u <;> first
        | exact wpAny_pure hQ
        | (refine wpAny_bind (wpAny_load ho ?_)
           rw [hc,hd]
           show wpAny M A (if (["enumerate","zip","dict_itemiterator","dict_reverseitemiterator","odict_iterator","itertools.zip_longest","itertools.pairwise"].contains n && vs[0]? == some (rawInt _))=true then _ else _) Q E s
           rw [if_neg (by intro h; rw [hn,Bool.false_and] at h; cases h)]
           exact wpAny_pure hQ))
def Itl (K:PySem.W.Frag) (a:Addr):It :=
 ⟨fun i H=>∃ xs x,SqL K H a xs∧xs[i]?=some x,fun i H x H'=>H'=H∧∀ xs,SqL K H a xs→xs[i]?=some x,fun i H=>∃ xs,SqL K H a xs∧xs.length≤i⟩
def Itt (K:PySem.W.Frag) (a:Addr):It :=
 ⟨fun i H=>∃ xs x,SqT K H a xs∧xs[i]?=some x,fun i H x H'=>H'=H∧∀ xs,SqT K H a xs→xs[i]?=some x,fun i H=>∃ xs,SqT K H a xs∧xs.length≤i⟩
def Itr (lo:Int) (n:Nat):It:=⟨fun i _=>i < n,fun i H x H'=>H'=H∧x=.int (lo+i),fun i _=>n≤i⟩
theorem turn_list {P:Program} {w:World} {K:PySem.W.Frag} {tg:Expr} (a it:Addr):Turn P w K tg (Itl K a) [it] it (fun i h=>h.IsListIter it a i) where
 mem:=by simp
 obj:=fun i h st b hb=>by
  have e:b=it:=by simpa using hb
  subst e
  obtain ⟨o,e,c,d⟩:=st
  exact ⟨o,e,fun v z=>by rw [d] at z; cases z⟩
 keep:=fun i h h' st k=>st.at fun o e=>k it (by simp) o e
 item:=by
  intro X hP hw hK hc i pins s σ H E I hf st hg
  subst hP hw hK
  obtain ⟨xs,x,hq,hx⟩:=hg
  obtain ⟨its,rv,p,hz⟩:=I.list hq
  obtain ⟨u,hu,ru⟩:=rv.get hx
  obtain ⟨f0,f1,f2,f3,f4,f5⟩:=hf it (by simp)
  refine wpAny_pyNext_list_item st p.isList (x:=u) (by simpa using hu) fun h' st' sb=>?_
  have I1:Inv X pins σ H { s with heap:=h' }:=I.turned (t':=s.toks) (fun b o hb e=>(sb.2 b hb).trans e) f0 f1 f3 f4 f5
  obtain ⟨o,e,c,d⟩:=id st'
  exact ⟨u,rfl,go_of (s:={ s with heap:=h' }) e c d (by decide) ⟨x,H,I1,ru,⟨rfl,fun ys hy=>by rw [I.list_inj hy hq]; exact hx⟩,st',fun b hb=>(hf b hb).1⟩⟩
 done:=by
  intro X hP hw hK hc i pins s σ H E I hf st hg
  subst hP hw hK
  obtain ⟨xs,hq,hx⟩:=hg
  obtain ⟨its,rv,p,hz⟩:=I.list hq
  obtain ⟨f0,f1,f2,f3,f4,f5⟩:=hf it (by simp)
  have hl:=rv.length
  exact wpAny_pyNext_list_end (I.ok.hd hc) st p.isList (by simp; omega) fun h' eb=>⟨rfl,I.turned (t':=s.toks) (fun b o hb e=>eb b o hb e) f0 f1 f3 f4 f5⟩
 self:=fun _ _ _ _ _ st h=>wpAny_pyIter_listiter st h
theorem turn_tuple {P:Program} {w:World} {K:PySem.W.Frag} {tg:Expr} (a it:Addr):Turn P w K tg (Itt K a) [it] it (fun i h=>h.IsTupleIter it a i) where
 mem:=by simp
 obj:=fun i h st b hb=>by
  have e:b=it:=by simpa using hb
  subst e
  obtain ⟨o,e,c,d⟩:=st
  exact ⟨o,e,fun v z=>by rw [d] at z; cases z⟩
 keep:=fun i h h' st k=>st.at fun o e=>k it (by simp) o e
 item:=by
  intro X hP hw hK hc i pins s σ H E I hf st hg
  subst hP hw hK
  obtain ⟨xs,x,hq,hx⟩:=hg
  obtain ⟨its,rv,p,hz⟩:=I.tuple hq
  obtain ⟨u,hu,ru⟩:=rv.get hx
  obtain ⟨f0,f1,f2,f3,f4,f5⟩:=hf it (by simp)
  refine wpAny_pyNext_tuple_item st (show s.heap.IsTuple a its.toArray from p) (x:=u) (by simpa using hu) fun h' st' sb=>?_
  have I1:Inv X pins σ H { s with heap:=h' }:=I.turned (t':=s.toks) (fun b o hb e=>(sb.2 b hb).trans e) f0 f1 f3 f4 f5
  obtain ⟨o,e,c,d⟩:=id st'
  exact ⟨u,rfl,go_of (s:={ s with heap:=h' }) e c d (by decide) ⟨x,H,I1,ru,⟨rfl,fun ys hy=>by rw [I.tuple_inj hy hq]; exact hx⟩,st',fun b hb=>(hf b hb).1⟩⟩
 done:=by
  intro X hP hw hK hc i pins s σ H E I hf st hg
  subst hP hw hK
  obtain ⟨xs,hq,hx⟩:=hg
  obtain ⟨its,rv,p,hz⟩:=I.tuple hq
  obtain ⟨f0,f1,f2,f3,f4,f5⟩:=hf it (by simp)
  have hl:=rv.length
  exact wpAny_pyNext_tuple_end (I.ok.hd hc) st (show s.heap.IsTuple a its.toArray from p) (by simp; omega) fun h' eb=>⟨rfl,I.turned (t':=s.toks) (fun b o hb e=>eb b o hb e) f0 f1 f3 f4 f5⟩
 self:=fun _ _ _ _ _ st h=>wpAny_pyIter_tupleiter st h
theorem turn_range {P:Program} {w:World} {K:PySem.W.Frag} {tg:Expr} (it:Addr) (lo:Int) (n:Nat):Turn P w K tg (Itr lo n) [it] it (fun i h=>IsRangeIter h it (lo+(i:Nat) * 1) ((n:Int) - (i:Nat)) 1) where
 mem:=by simp
 obj:=fun i h st b hb=>by
  have e:b=it:=by simpa using hb
  subst e
  exact ⟨_,st,fun v z=>by
   have z':Data.fields _=Data.cell v:=z
   cases z'⟩
 keep:=fun i h h' st k=>k it (by simp) _ st
 item:=by
  intro X hP hw hK hc i pins s σ H E I hf st hg
  subst hP hw hK
  obtain ⟨f0,f1,f2,f3,f4,f5⟩:=hf it (by simp)
  have W:=Walks.range (prog:=X.prog) (w:=X.w) (I.ok.hd hc) it lo 1 n
  refine W.item i s _ _ hg st fun v h' tk hv st' kk=>?_
  obtain ⟨t,rfl⟩:=hv
  have I1:Inv X pins σ H { s with heap:=h',toks:=tk }:=I.turned (fun b o hb e=>kk b o (by simpa using hb) e) f0 f1 f3 f4 f5
  refine ⟨_,rfl,go_of (s:={ s with heap:=h',toks:=tk }) (n:="range_iterator") st' rfl rfl (by decide) ⟨.int (lo+i),H,I1,⟨t,?_⟩,⟨rfl,rfl⟩,st',fun b hb=>(hf b hb).1⟩⟩
  rw [Int.mul_one]
 done:=by
  intro X hP hw hK hc i pins s σ H E I hf st hg
  subst hP hw hK
  obtain ⟨f0,f1,f2,f3,f4,f5⟩:=hf it (by simp)
  exact wpAny_pyNext_range_end (I.ok.hd hc) st (by have:n≤i:=hg; omega) fun h' eb=>⟨rfl,I.turned (t':=s.toks) (fun b o hb e=>eb b o hb e) f0 f1 f3 f4 f5⟩
 self:=fun _ _ _ _ _ st h=>wpAny_pyIter_rangeiter st h
end L2
namespace L2
open PySem PySem.Spec PyProof.Rows
section
variable {X:Cx} {tg:Expr}
def iList (K:PySem.W.Frag) (tl:TE):TI:=fun σ H R=>tl σ H fun x H1=>∃ a,x=.ref a∧(∃ xs,SqL K H1 a xs)∧R (Itl K a) H1
def iTup (K:PySem.W.Frag) (tl:TE):TI:=fun σ H R=>tl σ H fun x H1=>∃ a,x=.ref a∧(∃ xs,SqT K H1 a xs)∧R (Itt K a) H1
theorem Zdk {l:Expr} {tl:TE} (hl:PE X l tl):PI X tg l (iList X.K tl):=by
 intro pins s σ H R I h
 refine thn (hl pins s σ H _ I h) fun v s1 ⟨x,H1,I1,r1,q1⟩=>?_
 obtain ⟨a,e,⟨xs,hq⟩,q⟩:=q1
 subst e
 cases r1
 obtain ⟨its,rv,p,hz⟩:=I1.list hq
 refine wpAny_pyIter_list p.isList ?_
 refine ⟨s1.heap.objs.size,[s1.heap.objs.size],_,_,H1,rfl,I1.kept (t':=s1.toks) fun b o e=>Heap.get?_push_of_some _ e,turn_list a _,⟨_,Heap.get?_push_size _ rfl,rfl,rfl⟩,fun b hb=>?_,q⟩
 have e:b=s1.heap.objs.size:=by simpa using hb
 subst e
 exact I1.fpOk (Nat.le_refl _) (I1.hok.fresh (Nat.le_refl _))
theorem pi_tup {l:Expr} {tl:TE} (hl:PE X l tl):PI X tg l (iTup X.K tl):=by
 intro pins s σ H R I h
 refine thn (hl pins s σ H _ I h) fun v s1 ⟨x,H1,I1,r1,q1⟩=>?_
 obtain ⟨a,e,⟨xs,hq⟩,q⟩:=q1
 subst e
 cases r1
 obtain ⟨its,rv,p,hz⟩:=I1.tuple hq
 refine wpAny_pyIter_tuple (show s1.heap.IsTuple a its.toArray from p) ?_
 refine ⟨s1.heap.objs.size,[s1.heap.objs.size],_,_,H1,rfl,I1.kept (t':=s1.toks) fun b o e=>Heap.get?_push_of_some _ e,turn_tuple a _,⟨_,Heap.get?_push_size _ rfl,rfl,rfl⟩,fun b hb=>?_,q⟩
 have e:b=s1.heap.objs.size:=by simpa using hb
 subst e
 exact I1.fpOk (Nat.le_refl _) (I1.hok.fresh (Nat.le_refl _))
theorem range_it {pins:List (Addr × Obj)} {σ:St} {H:Hp} {s:Shared} {R:It→Hp→Prop} {E:Value→Shared→Prop} {lo hi:Int} {t u v:Tok} {tk:Nat} (I:Inv X pins σ H s) (h1:-(2^62)≤lo) (h2:lo < 2^62) (h3:-(2^62)≤hi) (h4:hi < 2^62)
  (q:R (Itr lo (hi - lo).toNat) H):wpAny (model X.prog X.w) X.A (pyIter (.ref s.heap.objs.size)) (PIE X pins σ tg R) E { s with heap:=s.heap.push { cls:=.type "range",data:=.fields #[.int lo t,.int hi u,.int 1 v] },toks:=tk }:=by
 refine wpAny_pyIter_range (IsRange.new ..) (small_one h1 h2 h3 h4) ?_
 have I1:Inv X pins σ H { s with heap:=s.heap.push { cls:=.type "range",data:=.fields #[.int lo t,.int hi u,.int 1 v] },toks:=tk }:=I.kept fun b o e=>Heap.get?_push_of_some _ e
 refine ⟨(s.heap.push { cls:=.type "range",data:=.fields #[.int lo t,.int hi u,.int 1 v] }).objs.size,[(s.heap.push { cls:=.type "range",data:=.fields #[.int lo t,.int hi u,.int 1 v] }).objs.size],_,_,H,rfl,
  I1.kept (t':=tk) fun b o e=>Heap.get?_push_of_some _ e,turn_range _ lo (hi - lo).toNat,?_,fun b hb=>?_,q⟩
 ·have e1:lo+((0:Nat):Int) * 1=lo:=by simp
  have e2:(((hi - lo).toNat:Nat):Int) - ((0:Nat):Int)=Builtin.Range.rangeSize lo hi 1:=by rw [rangeSize_one]; split <;> omega
  show IsRangeIter _ _ (lo+((0:Nat):Int) * 1) ((((hi - lo).toNat:Nat):Int) - ((0:Nat):Int)) 1
  rw [e1,e2]
  exact Heap.get?_push_size _ rfl
 ·have e:b=(s.heap.push { cls:=.type "range",data:=.fields #[.int lo t,.int hi u,.int 1 v] }).objs.size:=by simpa using hb
  subst e
  exact I1.fpOk (Nat.le_refl _) (I1.hok.fresh (Nat.le_refl _))
def iRng1 (ta:TA):TI:=fun σ H R=>ta σ H fun vs H1=>∃ j:Int,vs=[.int j]∧-(2^62)≤j∧j < 2^62∧R (Itr 0 j.toNat) H1
def iRng2 (ta:TA):TI:=fun σ H R=>ta σ H fun vs H1=>∃ i j:Int,vs=[.int i,.int j]∧(-(2^62)≤i∧i < 2^62∧-(2^62)≤j∧j < 2^62)∧R (Itr i (j - i).toNat) H1
theorem Zdo {a:Expr} {ta:TA} {p pos:Pos} (hg:Gl X "range") (hm:X.mg "range"=none) (ha:PA X [a] ta) (hs:starEach [a] X.env=[(false,eval a X.env)]:=by rfl):PI X tg (.Call (.Name "range" p) [a] [] pos) (iRng1 ta):=by
 intro pins s σ H R I h
 refine Call_ (Ze3 I hg hm boot_range (PyProof.Rows.callWith_type1 (thn (ha pos pins s σ H _ I h) fun us s1 ⟨vs,H1,I1,r1,q1⟩=>?_) hs rfl))
 obtain ⟨j,e,q1,q2,q⟩:=q1
 subst e
 cases r1 with
 | cons r rr =>
  cases rr
  obtain ⟨t,rfl⟩:=r
  exact call_range_1 (range_it I1 (by omega) (by omega) q1 q2 (by simpa using q))
theorem Zc2 {a b:Expr} {ta:TA} {p pos:Pos} (hg:Gl X "range") (hm:X.mg "range"=none) (ha:PA X [a,b] ta) (hs:starEach [a,b] X.env=[(false,eval a X.env),(false,eval b X.env)]:=by rfl) (hs2:starEach [b] X.env=[(false,eval b X.env)]:=by rfl) :
  PI X tg (.Call (.Name "range" p) [a,b] [] pos) (iRng2 ta):=by
 intro pins s σ H R I h
 refine Call_ (Ze3 I hg hm boot_range (PyProof.Rows.callWith_type1 (thn (ha pos pins s σ H _ I h) fun us s1 ⟨vs,H1,I1,r1,q1⟩=>?_) (by rw [hs,hs2]) (by rw [hs2]; rfl)))
 obtain ⟨i,j,e,⟨q1,q2,q3,q4⟩,q⟩:=q1
 subst e
 cases r1 with
 | cons r rr =>
  cases rr with
  | cons r' rr =>
   cases rr
   obtain ⟨t,rfl⟩:=r
   obtain ⟨t',rfl⟩:=r'
   exact call_range_2 (range_it I1 q1 q2 q3 q4 q)
def tFor (wi:TI) (g:TG) (tb:TS):TS:=fun D σ H=>wi σ H fun J H1=>∃ W:Nat→Nat→St→Hp→Prop,(∃ m,W 0 m σ H1)∧∀ i m σ H,W i m σ H →
 (J.stop i H∧D.nx σ H)∨(J.go i H∧∃ N:St→Hp→Prop,(∀ σ' H',N σ' H'→∃ m',m' < m∧W (i+1) m' σ' H')∧∀ x H',J.yld i H x H'→g x σ H' fun σ2 H2=>tb { D with nx:=N,ct:=N,bk:=D.nx } σ2 H2)
def pinsAt (fp:List Addr) (h:Heap):List (Addr × Obj):=fp.filterMap fun b=>(h.get? b).map fun o=>(b,o)
theorem Zb2 {fp:List Addr} {h:Heap} {b:Addr} {o:Obj} (hb:b∈fp) (e:h.get? b=some o):(b,o)∈pinsAt fp h:=List.mem_filterMap.mpr ⟨b,hb,by rw [e]; rfl⟩
theorem of_pinsAt {fp:List Addr} {h:Heap} {p:Addr × Obj} (hp:p∈pinsAt fp h):p.1∈fp∧h.get? p.1=some p.2:=by
 obtain ⟨b,hb,e⟩:=List.mem_filterMap.mp hp
 cases q:h.get? b with
 | none=>rw [q] at e; cases e
 | some o =>
  rw [q] at e
  have e':(b,o)=p:=Option.some.inj e
  subst e'
  exact ⟨hb,q⟩
theorem Inv.pinned {pins:List (Addr × Obj)} {σ:St} {H:Hp} {s:Shared} {fp:List Addr} (I:Inv X pins σ H s) (hf:∀ b∈fp,FpOk X pins H b) (ho:∀ b∈fp,∃ o,s.heap.get? b=some o∧∀ v,o.data≠.cell v):Inv X (pins++pinsAt fp s.heap) σ H s :=
 I.pins_of fun p hp=>(List.mem_append.mp hp).elim (fun z=>I.pin p (List.mem_append_right _ z)) fun z=>by
  obtain ⟨hb,e⟩:=of_pinsAt z
  obtain ⟨f0,f1,f2,_⟩:=hf p.1 hb
  obtain ⟨o,e',d⟩:=ho p.1 hb
  rw [e] at e'; cases e'
  exact ⟨e,f0,f1,f2,d⟩
theorem Inv.unpinned {pins pl:List (Addr × Obj)} {σ:St} {H:Hp} {s:Shared} (I:Inv X (pins++pl) σ H s):Inv X pins σ H s:=I.pins_of fun p hp=>I.pin p (List.mem_append_right _ (List.mem_append_left _ hp))
theorem Zcj {iter:Expr} {body:List Stmt} {wi:TI} {g:TG} {tb:TS} {pos:Pos} (hp:PassesOwn (model X.prog X.w) X.A X.env X.xe) (hc:X.calm=true) (hi:PI X tg iter wi) (hg:PG X tg g) (hb:PSs X body tb)
  (hs:∀ x,foldedSetIterable iter X.env x=pure x:=by intro _; rfl):PS X (.For tg iter body [] pos) (tFor wi g tb):=by
 intro pins s σ H D I h
 refine wpAny_For (thn (hi pins s σ H _ I h) fun v s1 h1=>thn h1 fun itv s2 h2=>?_) hs
 obtain ⟨it,fp,tn,J,H2,e,I2,T,st2,f2,W,⟨m0,w0⟩,turn⟩:=h2
 subst e
 have stat:∀ {H':Hp},(∀ b∈fp,H' b=none)→∀ b∈fp,FpOk X pins H' b:=fun hn b hb=>⟨hn b hb,(f2 b hb).2⟩
 refine codeAny_forLoop_any (fun n s'=>∃ i σ' H',Inv X pins σ' H' s'∧tn i s'.heap∧(∀ b∈fp,H' b=none)∧W i n σ' H') ?_ m0 ⟨0,σ,H2,I2,st2,fun b hb=>(f2 b hb).1,w0⟩
 rintro n s3 ⟨i,σ3,H3,I3,st3,fr3,w3⟩
 rcases turn i n σ3 H3 w3 with ⟨stop,qn⟩ | ⟨go,N,hN,step⟩
 ·refine wpAny_passesOwn hp (thn (T.done X rfl rfl rfl hc i pins s3 σ3 H3 X.xe I3 (stat fr3) st3 stop) fun r s4 ⟨hr,I4⟩=>?_)
  subst hr
  exact wpAny_execs_nil ⟨σ3,H3,I4,qn⟩
 ·refine wpAny_passesOwn hp (thn (T.item X rfl rfl rfl hc i pins s3 σ3 H3 X.xe I3 (stat fr3) st3 go) fun r s4 ⟨u,hr,h4⟩=>?_)
  subst hr
  refine wpAny_passesOwn hp (thn h4 fun _ s5 ⟨x,H5,I5,r5,y5,st5,fr5⟩=>?_)
  have I5':=I5.pinned (stat fr5) (T.obj _ _ st5)
  refine wpAny_passesOwn hp (thn (hg _ s5 σ3 H5 x u _ I5' r5 (step x H5 y5)) fun _ s6 ⟨σ6,H6,I6,q6⟩=>?_)
  refine wpAny_passesOwn hp (thn (hb _ s6 σ6 H6 _ I6 q6) fun f s7 q7=>?_)
  have again:∀ {σ7:St} {H7:Hp},Inv X (pins++pinsAt fp s5.heap) σ7 H7 s7→N σ7 H7→∃ m,m < n∧∃ i σ' H',Inv X pins σ' H' s7∧tn i s7.heap∧(∀ b∈fp,H' b=none)∧W i m σ' H':=fun {σ7 H7} I7 n7=>by
   obtain ⟨m',hm,w7⟩:=hN σ7 H7 n7
   refine ⟨m',hm,i+1,σ7,H7,I7.unpinned,T.keep _ _ _ st5 fun b hb o e=>(I7.pin (b,o) (List.mem_append_right _ (List.mem_append_right _ (Zb2 hb e)))).1,fun b hb=>?_,w7⟩
   obtain ⟨o,e,d⟩:=T.obj _ _ st5 b hb
   exact (I7.pin (b,o) (List.mem_append_right _ (List.mem_append_right _ (Zb2 hb e)))).2.1
  cases f with
  | next=>obtain ⟨σ7,H7,I7,n7⟩:=q7; exact again I7 n7
  | cont=>obtain ⟨σ7,H7,I7,n7⟩:=q7; exact again I7 n7
  | brk=>obtain ⟨σ7,H7,I7,q7⟩:=q7; exact ⟨σ7,H7,I7.unpinned,q7⟩
  | ret v=>obtain ⟨x7,σ7,H7,I7,r7,q7⟩:=q7; exact ⟨x7,σ7,H7,I7.unpinned,r7,q7⟩
end
theorem Zeh {K:PySem.W.Frag} {a:Addr} {xs:List V} {g:TG} {tb:TS} {D:Ends} {σ:St} {H:Hp} (Pv:Nat→St→Hp→Prop) (h0:Pv 0 σ H) (hl:∀ i σ H,i≤xs.length→Pv i σ H→SqL K H a xs)
  (hs:∀ i x σ H,xs[i]?=some x→Pv i σ H→g x σ H fun σ2 H2=>tb { D with nx:=Pv (i+1),ct:=Pv (i+1),bk:=D.nx } σ2 H2) (hd:∀ σ H,Pv xs.length σ H→D.nx σ H) :
  ∃ W:Nat→Nat→St→Hp→Prop,(∃ m,W 0 m σ H)∧∀ i m σ H,W i m σ H →
   ((Itl K a).stop i H∧D.nx σ H)∨((Itl K a).go i H∧∃ N:St→Hp→Prop,(∀ σ' H',N σ' H'→∃ m',m' < m∧W (i+1) m' σ' H')∧∀ x H',(Itl K a).yld i H x H'→g x σ H' fun σ2 H2=>tb { D with nx:=N,ct:=N,bk:=D.nx } σ2 H2):=by
 refine ⟨fun i m σ H=>m=xs.length - i∧i≤xs.length∧Pv i σ H,⟨xs.length,by simp,Nat.zero_le _,h0⟩,?_⟩
 rintro i m σ H ⟨rfl,hi,p⟩
 have q:=hl i σ H hi p
 by_cases hlt:i < xs.length
 ·refine .inr ⟨⟨xs,xs[i],q,by simp [hlt]⟩,Pv (i+1),fun σ' H' p'=>⟨xs.length - (i+1),by omega,rfl,hlt,p'⟩,fun x H' y=>?_⟩
  obtain ⟨e,y⟩:=y
  subst e
  exact hs i x σ _ (y xs q) p
 ·have e:i=xs.length:=by omega
  subst e
  exact .inl ⟨⟨xs,q,Nat.le_refl _⟩,hd σ H p⟩
theorem for_tup {K:PySem.W.Frag} {a:Addr} {xs:List V} {g:TG} {tb:TS} {D:Ends} {σ:St} {H:Hp} (Pv:Nat→St→Hp→Prop) (h0:Pv 0 σ H) (hl:∀ i σ H,i≤xs.length→Pv i σ H→SqT K H a xs)
  (hs:∀ i x σ H,xs[i]?=some x→Pv i σ H→g x σ H fun σ2 H2=>tb { D with nx:=Pv (i+1),ct:=Pv (i+1),bk:=D.nx } σ2 H2) (hd:∀ σ H,Pv xs.length σ H→D.nx σ H) :
  ∃ W:Nat→Nat→St→Hp→Prop,(∃ m,W 0 m σ H)∧∀ i m σ H,W i m σ H →
   ((Itt K a).stop i H∧D.nx σ H)∨((Itt K a).go i H∧∃ N:St→Hp→Prop,(∀ σ' H',N σ' H'→∃ m',m' < m∧W (i+1) m' σ' H')∧∀ x H',(Itt K a).yld i H x H'→g x σ H' fun σ2 H2=>tb { D with nx:=N,ct:=N,bk:=D.nx } σ2 H2):=by
 refine ⟨fun i m σ H=>m=xs.length - i∧i≤xs.length∧Pv i σ H,⟨xs.length,by simp,Nat.zero_le _,h0⟩,?_⟩
 rintro i m σ H ⟨rfl,hi,p⟩
 have q:=hl i σ H hi p
 by_cases hlt:i < xs.length
 ·refine .inr ⟨⟨xs,xs[i],q,by simp [hlt]⟩,Pv (i+1),fun σ' H' p'=>⟨xs.length - (i+1),by omega,rfl,hlt,p'⟩,fun x H' y=>?_⟩
  obtain ⟨e,y⟩:=y
  subst e
  exact hs i x σ _ (y xs q) p
 ·have e:i=xs.length:=by omega
  subst e
  exact .inl ⟨⟨xs,q,Nat.le_refl _⟩,hd σ H p⟩
theorem Zc3 {lo:Int} {n:Nat} {g:TG} {tb:TS} {D:Ends} {σ:St} {H:Hp} (Pv:Nat→St→Hp→Prop) (h0:Pv 0 σ H)
  (hs:∀ i σ H,i < n→Pv i σ H→g (.int (lo+i)) σ H fun σ2 H2=>tb { D with nx:=Pv (i+1),ct:=Pv (i+1),bk:=D.nx } σ2 H2) (hd:∀ σ H,Pv n σ H→D.nx σ H) :
  ∃ W:Nat→Nat→St→Hp→Prop,(∃ m,W 0 m σ H)∧∀ i m σ H,W i m σ H →
   ((Itr lo n).stop i H∧D.nx σ H)∨((Itr lo n).go i H∧∃ N:St→Hp→Prop,(∀ σ' H',N σ' H'→∃ m',m' < m∧W (i+1) m' σ' H')∧∀ x H',(Itr lo n).yld i H x H'→g x σ H' fun σ2 H2=>tb { D with nx:=N,ct:=N,bk:=D.nx } σ2 H2):=by
 refine ⟨fun i m σ H=>m=n - i∧i≤n∧Pv i σ H,⟨n,by simp,Nat.zero_le _,h0⟩,?_⟩
 rintro i m σ H ⟨rfl,hi,p⟩
 by_cases hlt:i < n
 ·refine .inr ⟨hlt,Pv (i+1),fun σ' H' p'=>⟨n - (i+1),by omega,rfl,hlt,p'⟩,fun x H' y=>?_⟩
  obtain ⟨e,y⟩:=y
  subst e y
  exact hs i σ _ hlt p
 ·have e:i=n:=by omega
  subst e
  exact .inl ⟨Nat.le_refl _,hd σ H p⟩
end L2
namespace L2
open PySem PySem.Spec PyProof.Rows
abbrev R2:=V→V→Hp→VK→Prop
def OpR (X:Cx) (f:Value→Value→Sem Value) (r:R2):Prop :=
 ∀ (pins:List (Addr × Obj)) (s:Shared) (σ:St) (H:Hp) (x y:V) (v u:Value) (Q:VK),Inv X pins σ H s→RelV x v→RelV y u→r x y H Q →
  wpAny (model X.prog X.w) X.A (f v u) (EP X pins σ Q) X.xe s
def CallR (X:Cx) (f:Value) (r:List V→Hp→VK→Prop):Prop :=
 ∀ (pins:List (Addr × Obj)) (s:Shared) (σ:St) (H:Hp) (xs:List V) (us:List Value) (Q:VK),Inv X pins σ H s→Vals xs us→r xs H Q →
  wpAny (model X.prog X.w) X.A (call f us) (EP X pins σ Q) X.xe s
def TruR (X:Cx) (r:V→Hp→(Bool→Hp→Prop)→Prop):Prop :=
 ∀ (pins:List (Addr × Obj)) (s:Shared) (σ:St) (H:Hp) (x:V) (v:Value) (Q:Bool→Hp→Prop),Inv X pins σ H s→RelV x v→r x H Q →
  wpAny (model X.prog X.w) X.A (truthy v) (TP X pins σ Q) X.xe s
def tOp (r:R2) (ta tb:TE):TE:=fun σ H Q=>ta σ H fun x H1=>tb σ H1 fun y H2=>r x y H2 Q
def rI (C:Int→Int→Prop) (g:Int→Int→V):R2:=fun x y H Q=>∃ i j,x=.int i∧y=.int j∧C i j∧Q (g i j) H
def rI0 (g:Int→Int→V):R2:=fun x y H Q=>∃ i j,x=.int i∧y=.int j∧Q (g i j) H
section
variable {X:Cx} {a b c:Expr} {ta tb tc:TE} {pos:Pos}
theorem binT (ha:PE X a ta) (hb:PE X b tb) {pins:List (Addr × Obj)} {s:Shared} {σ:St} {H:Hp} {R:V→V→Hp→Prop} (I:Inv X pins σ H s)
  (h:ta σ H fun x H1=>tb σ H1 fun y H2=>R x y H2) {Q:Value→Shared→Prop} {f:Value→Value→Sem Value}
  (hf:∀ v u s2 x y H2,Inv X pins σ H2 s2→RelV x v→RelV y u→R x y H2→wpAny (model X.prog X.w) X.A (f v u) Q X.xe s2) :
  wpAny (model X.prog X.w) X.A (eval a X.env) (fun v s₁=>wpAny (model X.prog X.w) X.A (eval b X.env) (fun u s₂=>wpAny (model X.prog X.w) X.A (f v u) Q X.xe s₂) X.xe s₁) X.xe s:=by
 refine thn (ha pins s σ H _ I h) fun v s1 ⟨x,H1,I1,r1,q1⟩=>?_
 refine thn (hb pins s1 σ H1 _ I1 q1) fun u s2 ⟨y,H2,I2,r2,q2⟩=>?_
 exact hf v u s2 x y H2 I2 r1 r2 q2
theorem Zaw {op:Operator} {r:R2} (ho:OpR X (binaryOp op) r) (ha:PE X a ta) (hb:PE X b tb):PE X (.BinOp a op b pos) (tOp r ta tb):=by
 intro pins s σ H Q I h
 exact wpAny_BinOp (binT ha hb I h fun v u s2 x y H2 I2 rx ry q=>ho pins s2 σ H2 x y v u Q I2 rx ry q)
theorem opI {f:Value→Value→Sem Value} {C:Int→Int→Prop} {g:Int→Int→Int}
  (rule:∀ (i j:Int) (t u:Tok) (s:Shared) (Q:Value→Shared→Prop) (E:Value→Shared→Prop),C i j→Q (.int (g i j) s.toks) { s with toks:=s.toks+1 }→wpAny (model X.prog X.w) X.A (f (.int i t) (.int j u)) Q E s) :
  OpR X f (rI C fun i j=>.int (g i j)):=by
 intro pins s σ H x y v u Q I rx ry h
 obtain ⟨i,j,rfl,rfl,hc,q⟩:=h
 obtain ⟨t,rfl⟩:=rx
 obtain ⟨t',rfl⟩:=ry
 exact rule i j t t' s _ _ hc ⟨.int (g i j),H,I.tok _,⟨_,rfl⟩,q⟩
theorem opI0 {f:Value→Value→Sem Value} {g:Int→Int→Int}
  (rule:∀ (i j:Int) (t u:Tok) (s:Shared) (Q:Value→Shared→Prop) (E:Value→Shared→Prop),Q (.int (g i j) s.toks) { s with toks:=s.toks+1 }→wpAny (model X.prog X.w) X.A (f (.int i t) (.int j u)) Q E s) :
  OpR X f (rI0 fun i j=>.int (g i j)):=by
 intro pins s σ H x y v u Q I rx ry h
 obtain ⟨i,j,rfl,rfl,q⟩:=h
 obtain ⟨t,rfl⟩:=rx
 obtain ⟨t',rfl⟩:=ry
 exact rule i j t t' s _ _ ⟨.int (g i j),H,I.tok _,⟨_,rfl⟩,q⟩
theorem opB0 {f:Value→Value→Sem Value} {g:Int→Int→Bool}
  (rule:∀ (i j:Int) (t u:Tok) (s:Shared) (Q:Value→Shared→Prop) (E:Value→Shared→Prop),Q (.bool (g i j)) s→wpAny (model X.prog X.w) X.A (f (.int i t) (.int j u)) Q E s) :
  OpR X f (rI0 fun i j=>.bl (g i j)):=by
 intro pins s σ H x y v u Q I rx ry h
 obtain ⟨i,j,rfl,rfl,q⟩:=h
 obtain ⟨t,rfl⟩:=rx
 obtain ⟨t',rfl⟩:=ry
 exact rule i j t t' s _ _ ⟨.bl (g i j),H,I,rfl,q⟩
def CPow (i j:Int):Prop:=0≤j∧j≤1000000∧i.natAbs < 2^64
theorem Zbc:OpR X (binaryOp .Add) (rI0 fun i j=>.int (i+j)):=opI0 fun _ _ _ _ _ _ _ q=>add_int q
theorem Zdm:OpR X (binaryOp .Sub) (rI0 fun i j=>.int (i - j)):=opI0 fun _ _ _ _ _ _ _ q=>sub_int q
theorem Ze2:OpR X (binaryOp .Mod) (rI (fun _ j=>0 < j) fun i j=>.int (i % j)):=opI fun i j _ _ _ _ _ hc q=>by
 have h1:(0:Int) < j:=hc
 exact mod_int' (by omega) (by rw [Int.fmod_eq_emod_of_nonneg i (by omega)]; exact q)
theorem op_pow:OpR X (binaryOp .Pow) (rI CPow fun i j=>.int (i^j.toNat)):=opI fun _ _ _ _ _ _ _ hc q=>pow_int_small hc.1 hc.2.1 hc.2.2 q
end
def scal:V→V→Bool
 | .non,.non=>true | .non,.int _=>true | .int _,.non=>true | .non,.bl _=>true | .bl _,.non=>true | .non,.str _=>true | .str _,.non=>true
 | .int _,.int _=>true | .bl _,.bl _=>true | .str _,.str _=>true | .byt _,.byt _=>true
 | .int _,.str _=>true | .str _,.int _=>true | .bl _,.str _=>true | .str _,.bl _=>true
 | _,_=>false
def rEq:R2:=fun x y H Q=>scal x y=true∧Q (.bl (decide (x=y))) H
def rNe:R2:=fun x y H Q=>scal x y=true∧Q (.bl (!decide (x=y))) H
theorem dec_int {i j:Int}:decide (V.int i=V.int j)=(i == j):=by
 rw [Bool.eq_iff_iff]
 simp
theorem dec_bl {i j:Bool}:decide (V.bl i=V.bl j)=(i == j):=by
 rw [Bool.eq_iff_iff]
 simp
theorem dec_str {i j:Str}:decide (V.str i=V.str j)=(i == j):=by
 rw [Bool.eq_iff_iff]
 simp
theorem dec_byt {i j:Array UInt8}:decide (V.byt i=V.byt j)=(i.toList == j.toList):=by
 rw [Bool.eq_iff_iff]
 cases i
 cases j
 simp
section
variable {X:Cx} {a b c:Expr} {ta tb tc:TE} {pos:Pos}
theorem Zbb {pins:List (Addr × Obj)} {σ:St} {H:Hp} {s:Shared} {Q:VK} {k k':Bool} (I:Inv X pins σ H s) (q:Q (.bl k) H) (e:k=k'):EP X pins σ Q (.bool k') s:=by
 subst e
 exact ⟨.bl k,H,I,rfl,q⟩
theorem Zgi:OpR X (compareOp .Eq) rEq:=by
 intro pins s σ H x y v u Q I rx ry h
 obtain ⟨hs,q⟩:=h
 cases x with
 | non =>
  cases rx
  cases y with
  | non=>cases ry; exact PySem.EqNone.eq_none_none (Zbb I q (by simp))
  | bl j=>cases ry; exact PySem.EqNone.eq_none_bool (Zbb I q (by simp))
  | int j=>obtain ⟨t',rfl⟩:=ry; exact PySem.EqNone.eq_none_int (Zbb I q (by simp))
  | str j=>obtain ⟨t',rfl⟩:=ry; exact PySem.EqNone.eq_none_str (Zbb I q (by simp))
  | _=>exact absurd (show false=true from hs) Bool.false_ne_true
 | bl i =>
  cases rx
  cases y with
  | non=>cases ry; exact PySem.EqNone.eq_bool_none (Zbb I q (by simp))
  | bl j=>cases ry; exact eq_bool (Zbb I q dec_bl)
  | str j=>obtain ⟨t',rfl⟩:=ry; exact PySem.EqMixed.eq_bool_str (Zbb I q (by simp))
  | _=>exact absurd (show false=true from hs) Bool.false_ne_true
 | int i =>
  obtain ⟨t,rfl⟩:=rx
  cases y with
  | non=>cases ry; exact PySem.EqNone.eq_int_none (Zbb I q (by simp))
  | int j=>obtain ⟨t',rfl⟩:=ry; exact eq_int (Zbb I q dec_int)
  | str j=>obtain ⟨t',rfl⟩:=ry; exact PySem.EqMixed.eq_int_str (Zbb I q (by simp))
  | _=>exact absurd (show false=true from hs) Bool.false_ne_true
 | str i =>
  obtain ⟨t,rfl⟩:=rx
  cases y with
  | non=>cases ry; exact PySem.EqNone.eq_str_none (Zbb I q (by simp))
  | bl j=>cases ry; exact PySem.EqMixed.eq_str_bool (Zbb I q (by simp))
  | int j=>obtain ⟨t',rfl⟩:=ry; exact PySem.EqMixed.eq_str_int (Zbb I q (by simp))
  | str j=>obtain ⟨t',rfl⟩:=ry; exact eq_str (Zbb I q dec_str)
  | _=>exact absurd (show false=true from hs) Bool.false_ne_true
 | byt i =>
  obtain ⟨t,rfl⟩:=rx
  cases y with
  | byt j=>obtain ⟨t',rfl⟩:=ry; exact PySem.W.eq_bytes (Zbb I q dec_byt)
  | _=>exact absurd (show false=true from hs) Bool.false_ne_true
 | _=>cases y <;> exact absurd (show false=true from hs) Bool.false_ne_true
theorem op_ne:OpR X (compareOp .NotEq) rNe:=by
 intro pins s σ H x y v u Q I rx ry h
 obtain ⟨hs,q⟩:=h
 cases x with
 | non =>
  cases rx
  cases y with
  | non=>cases ry; exact PySem.EqNone.ne_none_none (Zbb I q (by simp))
  | bl j=>cases ry; exact PySem.EqNone.ne_none_bool (Zbb I q (by simp))
  | int j=>obtain ⟨t',rfl⟩:=ry; exact PySem.EqNone.ne_none_int (Zbb I q (by simp))
  | str j=>obtain ⟨t',rfl⟩:=ry; exact PySem.EqNone.ne_none_str (Zbb I q (by simp))
  | _=>exact absurd (show false=true from hs) Bool.false_ne_true
 | bl i =>
  cases rx
  cases y with
  | non=>cases ry; exact PySem.EqNone.ne_bool_none (Zbb I q (by simp))
  | bl j=>cases ry; exact ne_bool (Zbb I q (congrArg not dec_bl))
  | str j=>obtain ⟨t',rfl⟩:=ry; exact PySem.EqMixed.ne_bool_str (Zbb I q (by simp))
  | _=>exact absurd (show false=true from hs) Bool.false_ne_true
 | int i =>
  obtain ⟨t,rfl⟩:=rx
  cases y with
  | non=>cases ry; exact PySem.EqNone.ne_int_none (Zbb I q (by simp))
  | int j=>obtain ⟨t',rfl⟩:=ry; exact ne_int (Zbb I q (congrArg not dec_int))
  | str j=>obtain ⟨t',rfl⟩:=ry; exact PySem.EqMixed.ne_int_str (Zbb I q (by simp))
  | _=>exact absurd (show false=true from hs) Bool.false_ne_true
 | str i =>
  obtain ⟨t,rfl⟩:=rx
  cases y with
  | non=>cases ry; exact PySem.EqNone.ne_str_none (Zbb I q (by simp))
  | bl j=>cases ry; exact PySem.EqMixed.ne_str_bool (Zbb I q (by simp))
  | int j=>obtain ⟨t',rfl⟩:=ry; exact PySem.EqMixed.ne_str_int (Zbb I q (by simp))
  | str j=>obtain ⟨t',rfl⟩:=ry; exact ne_str (Zbb I q (congrArg not dec_str))
  | _=>exact absurd (show false=true from hs) Bool.false_ne_true
 | byt i =>
  obtain ⟨t,rfl⟩:=rx
  cases y with
  | byt j=>obtain ⟨t',rfl⟩:=ry; exact PySem.W.ne_bytes (Zbb I q (congrArg not dec_byt))
  | _=>exact absurd (show false=true from hs) Bool.false_ne_true
 | _=>cases y <;> exact absurd (show false=true from hs) Bool.false_ne_true
theorem Zht:OpR X (compareOp .Lt) (rI0 fun i j=>.bl (decide (i < j))):=opB0 fun _ _ _ _ _ _ _ q=>lt_int q
theorem Zfr:OpR X (compareOp .LtE) (rI0 fun i j=>.bl (decide (i≤j))):=opB0 fun _ _ _ _ _ _ _ q=>le_int q
theorem op_gt:OpR X (compareOp .Gt) (rI0 fun i j=>.bl (decide (j < i))):=opB0 fun _ _ _ _ _ _ _ q=>gt_int q
theorem op_ge:OpR X (compareOp .GtE) (rI0 fun i j=>.bl (decide (j≤i))):=opB0 fun _ _ _ _ _ _ _ q=>ge_int q
theorem op_isN:OpR X (compareOp .Is) (fun x y H Q=>y=.non∧Q (.bl (decide (x=.non))) H):=by
 intro pins s σ H x y v u Q I rx ry h
 obtain ⟨rfl,q⟩:=h
 cases ry
 refine is_none_gen (Zbb I q ?_)
 cases x <;> first
  | (cases rx; rfl)
  | (obtain ⟨t,rfl⟩:=rx; rfl)
theorem op_notN:OpR X (compareOp .IsNot) (fun x y H Q=>y=.non∧Q (.bl (!decide (x=.non))) H):=by
 intro pins s σ H x y v u Q I rx ry h
 obtain ⟨rfl,q⟩:=h
 cases ry
 refine isnot_none_gen (Zbb I q ?_)
 cases x <;> first
  | (cases rx; rfl)
  | (obtain ⟨t,rfl⟩:=rx; rfl)
theorem nomark (b:Expr) {op:CmpOp} (h:op≠.In:=by decide) (h2:op≠.NotIn:=by decide):behindInMarks op b=false:=by
 have e1:(op == CmpOp.In)=false:=by cases op <;> first | rfl | exact absurd rfl h
 have e2:(op == CmpOp.NotIn)=false:=by cases op <;> first | rfl | exact absurd rfl h2
 cases b <;> simp [behindInMarks,e1,e2]
theorem Zd3 {op:CmpOp} {r:R2} (ho:OpR X (compareOp op) r) (ha:PE X a ta) (hb:PE X b tb) (hm:behindInMarks op b=false):PE X (.Compare a [op] [b] pos) (tOp r ta tb):=by
 intro pins s σ H Q I h
 exact wpAny_Compare1 (binT ha hb I h fun v u s2 x y H2 I2 rx ry q=>ho pins s2 σ H2 x y v u Q I2 rx ry q) hm
def tTest (t:TE):TT:=fun σ H Q=>t σ H fun x H'=>∃ k,x=.bl k∧Q k H'
theorem Za0 {op:CmpOp} {r:R2} (ho:OpR X (compareOp op) r) (ha:PE X a ta) (hb:PE X b tb) (hm:behindInMarks op b=false):PT X (.Compare a [op] [b] pos) (tTest (tOp r ta tb)):=by
 intro pins s σ H Q I h
 refine wpAny_isTrue_Compare1 (thn (ha pins s σ H _ I h) fun v s1 ⟨x,H1,I1,r1,q1⟩=>thn (hb pins s1 σ H1 _ I1 q1) fun u s2 ⟨y,H2,I2,r2,q2⟩ =>
  thn (ho pins s2 σ H2 x y v u _ I2 r1 r2 q2) fun c s3 ⟨z,H3,I3,r3,k,e,q3⟩=>?_) hm
 subst e
 cases r3
 exact wpAny_truthy_bool ⟨H3,I3,q3⟩
def tChain (r r':R2) (ta tb tc:TE):TE:=fun σ H Q=>ta σ H fun x H1=>tb σ H1 fun y H2=>r x y H2 fun z H3=>∃ k,z=.bl k ∧
 (if k=true then tc σ H3 fun w' H4=>r' y w' H4 Q else Q (.bl false) H3)
theorem Zdv {op op':CmpOp} {r r':R2} (ho:OpR X (compareOp op) r) (ho':OpR X (compareOp op') r') (ha:PE X a ta) (hb:PE X b tb) (hc:PE X c tc)
  (hm:lastMarks [op,op'] [b,c]=false:=by with_unfolding_all rfl):PE X (.Compare a [op,op'] [b,c] pos) (tChain r r' ta tb tc):=by
 intro pins s σ H Q I h
 refine Compare_chain (thn (ha pins s σ H _ I h) fun v s1 ⟨x,H1,I1,r1,q1⟩=>chain_link (thn (hb pins s1 σ H1 _ I1 q1) fun u s2 ⟨y,H2,I2,r2,q2⟩ =>
  thn (ho pins s2 σ H2 x y v u _ I2 r1 r2 q2) fun d s3 ⟨z,H3,I3,r3,k,e,q3⟩=>?_)) hm
 subst e
 cases r3
 refine wpAny_truthy_bool ?_
 cases k with
 | false=>exact ite_ff ⟨.bl false,H3,I3,rfl,q3⟩
 | true=>exact ite_tt (chain_last (thn (hc pins s3 σ H3 _ I3 q3) fun w' s4 ⟨z',H4,I4,r4,q4⟩=>ho' pins s4 σ H4 y z' u w' Q I4 r2 r4 q4))
theorem Zhs {op op':CmpOp} {r r':R2} (ho:OpR X (compareOp op) r) (ho':OpR X (compareOp op') r') (ha:PE X a ta) (hb:PE X b tb) (hc:PE X c tc)
  (hm:lastMarks [op,op'] [b,c]=false:=by with_unfolding_all rfl):PT X (.Compare a [op,op'] [b,c] pos) (tTest (tChain r r' ta tb tc)):=by
 intro pins s σ H Q I h
 refine isTrue_chain (thn (ha pins s σ H _ I h) fun v s1 ⟨x,H1,I1,r1,q1⟩=>test_link (thn (hb pins s1 σ H1 _ I1 q1) fun u s2 ⟨y,H2,I2,r2,q2⟩ =>
  thn (ho pins s2 σ H2 x y v u _ I2 r1 r2 q2) fun d s3 ⟨z,H3,I3,r3,k,e,q3⟩=>?_)) hm
 subst e
 cases r3
 refine wpAny_truthy_bool ?_
 cases k with
 | false =>
  obtain ⟨k',e',q'⟩:=q3
  cases e'
  exact ite_ff ⟨H3,I3,q'⟩
 | true =>
  refine ite_tt (test_last (thn (hc pins s3 σ H3 _ I3 q3) fun w' s4 ⟨z',H4,I4,r4,q4⟩=>thn (ho' pins s4 σ H4 y z' u w' _ I4 r2 r4 q4) fun d' s5 ⟨z2,H5,I5,r5,k2,e2,q5⟩=>?_))
  subst e2
  cases r5
  exact wpAny_truthy_bool ⟨H5,I5,q5⟩
def TruV (K:PySem.W.Frag) (x:V) (H:Hp) (k:Bool):Prop :=
 match x with
 | .non=>k=false
 | .bl b=>k=b
 | .int i=>k=(i != 0)
 | .str y=>y.length≤sizeLine∧k=((y.length:Int) != 0)
 | .byt y=>y.size≤sizeLine∧k=((y.size:Int) != 0)
 | .ref p=>(∃ xs,SqL K H p xs∧k=!xs.isEmpty)∨(∃ xs,SqT K H p xs∧k=!xs.isEmpty)∨∃ kvs,H p=some (.dK kvs)∧k=!kvs.isEmpty
 | _=>False
theorem isEmpty_kv {κ:Type} {kvs:List (κ × V)} {vs:List (κ × Value)} (r:KV kvs vs):(!vs.isEmpty)=!kvs.isEmpty:=by
 cases r <;> rfl
theorem Zg7 {xs:List V} {its:List Value} (r:Vals xs its):(!its.toArray.isEmpty)=!xs.isEmpty:=by
 cases r <;> simp
theorem line63:(sizeLine:Nat) < 2^63:=by rw [sizeLine_eq]; decide
theorem tru_ok:TruR X (fun x H Q=>∃ k,TruV X.K x H k∧Q k H):=by
 intro pins s σ H x v Q I rx h
 obtain ⟨k,e,q⟩:=h
 have hl:=line63
 have hs:sizeLine=16777216:=sizeLine_eq
 cases x with
 | non =>
  cases rx
  have e':k=false:=e
  subst e'
  exact truthy_none ⟨H,I,q⟩
 | bl b =>
  cases rx
  have e':k=b:=e
  subst e'
  exact wpAny_truthy_bool ⟨H,I,q⟩
 | int i =>
  obtain ⟨t,rfl⟩:=rx
  have e':k=(i != 0):=e
  subst e'
  exact PySem.P.truthy_int ⟨H,I,q⟩
 | str y =>
  obtain ⟨t,rfl⟩:=rx
  obtain ⟨hy,e'⟩:y.length≤sizeLine∧k=((y.length:Int) != 0):=e
  subst e'
  exact PySem.P.truthy_str (by omega) ⟨H,I.tok _,q⟩
 | byt y =>
  obtain ⟨t,rfl⟩:=rx
  obtain ⟨hy,e'⟩:y.size≤sizeLine∧k=((y.size:Int) != 0):=e
  subst e'
  exact PySem.W.truthy_bytes (by omega) ⟨H,I.tok _,q⟩
 | ref p =>
  cases rx
  have e':(∃ xs,SqL X.K H p xs∧k=!xs.isEmpty)∨(∃ xs,SqT X.K H p xs∧k=!xs.isEmpty)∨∃ kvs,H p=some (.dK kvs)∧k=!kvs.isEmpty:=e
  rcases e' with ⟨xs,hx,e'⟩ | ⟨xs,hx,e'⟩ | ⟨kvs,hx,e'⟩
  ·subst e'
   obtain ⟨its,r,pl,hz⟩:=I.list hx
   have hlen:=r.length
   exact wpAny_truthy_list pl.isList (by simp only [List.size_toArray]; omega) ⟨H,I.tok _,by rw [Zg7 r]; exact q⟩
  ·subst e'
   obtain ⟨its,r,pl,hz⟩:=I.tuple hx
   have hlen:=r.length
   exact truthy_tuple pl (by simp only [List.size_toArray]; omega) ⟨H,I.tok _,by rw [Zg7 r]; exact q⟩
  ·subst e'
   obtain ⟨hz,hS,vs,r,m⟩:kvs.length≤sizeLine∧(p == sysModules)=false∧∃ vs,KV kvs vs∧s.heap.DictOf (Zbd X.prog X.w) p vs:=I.hok p _ hx
   have hlen:kvs.length=vs.length:=Paired.length r
   exact wpAny_truthy_dict hS m (by omega) ⟨H,I.tok _,by rw [isEmpty_kv r]; exact q⟩
 | _=>exact (show False from e).elim
theorem pt_truth (ha:PE X a ta) (he:∀ whole,isTrue a X.env whole=(do let v ← whole; standAt a.pos; holding [v] (truthy v))) :
    PT X a (fun σ H Q=>ta σ H fun x H'=>∃ k,TruV X.K x H' k∧Q k H'):=by
  intro pins s σ H Q I h
  exact isTrue_plain (thn (ha pins s σ H _ I h) fun v s1 ⟨x,H1,I1,r1,q1⟩=>tru_ok pins s1 σ H1 x v Q I1 r1 q1) (he _)
theorem vals1 {x:V} {us:List Value} (r:Vals [x] us):∃ u,us=[u]∧RelV x u:=by
 cases r with
 | cons r1 r2=>cases r2; exact ⟨_,rfl,r1⟩
theorem vals2 {x y:V} {us:List Value} (r:Vals [x,y] us):∃ u w',us=[u,w']∧RelV x u∧RelV y w':=by
 cases r with
 | cons r1 r2 =>
  cases r2 with
  | cons r3 r4=>cases r4; exact ⟨_,_,rfl,r1,r3⟩
theorem call_int1:CallR X (.type "int") (fun xs H Q=>(∃ i,xs=[.int i]∧Q (.int i) H)∨∃ k,xs=[.bl k]∧Q (.int (if k then 1 else 0)) H):=by
 intro pins s σ H xs us Q I r h
 rcases h with ⟨i,rfl,q⟩ | ⟨k,rfl,q⟩
 ·obtain ⟨u,rfl,t,rfl⟩:=vals1 r
  exact call_int_int ⟨.int i,H,I,⟨_,rfl⟩,q⟩
 ·obtain ⟨u,rfl,r1⟩:=vals1 r
  cases r1
  exact call_int_bool ⟨.int (if k then 1 else 0),H,I.tok _,⟨_,rfl⟩,q⟩
end
end L2
namespace L2
open PySem PySem.Spec PyProof.Rows
structure ObjM (h:Heap) (x dx C:Addr) (mA:Str→Option Value):Prop where
 obj:h.get? x=some (PySem.W.instObj C dx)
 ns:h.Ns1 dx mA
 ne:dx≠x
theorem lookIn_ns {h:Heap} {dx:Addr} {mA:Str→Option Value} (n:h.Ns1 dx mA):∃ od,h.get? dx=some od∧∀ name,PySem.W.lookIn name od=some (mA name):=by
 obtain ⟨o,es,ep,ho,hd,hk,_,hm⟩:=n
 refine ⟨o,ho,fun name=>?_⟩
 have e:=hm name
 unfold nsFind findBy at e
 rw [← Array.find?_toList] at e
 unfold PySem.W.lookIn
 rw [hd]
 dsimp only
 split
 ·rename_i y q
  rw [q] at e
  exact congrArg some e
 ·rename_i q
  rw [q] at e
  have a:es.toList.any (·.refKey)=false:=by
   rw [List.any_eq_false]
   intro y hy
   obtain ⟨z,t,hkey⟩:=hk y (Array.mem_toList_iff.mp hy)
   simp [DictEntry.refKey,hkey]
  have a':¬ es.toList.any (·.refKey)=true:=by rw [a]; exact Bool.false_ne_true
  rw [if_neg a']
  exact congrArg some e
theorem ObjM.look {h:Heap} {x dx C:Addr} {mA:Str→Option Value} (I:ObjM h x dx C mA):∃ od,PySem.W.InstAt h x (PySem.W.instObj C dx) C (some od)∧∀ name,PySem.W.lookIn name od=some (mA name) :=
 let ⟨od,ho,hl⟩:=lookIn_ns I.ns
 ⟨od,⟨I.obj,rfl,rfl,ho⟩,hl⟩
section
variable {prog:Program} {w:World} {A:Around} {E:Value→Shared→Prop} {s:Shared} {K:PySem.W.Frag} {x dx C f:Addr} {mA:Str→Option Value} {name:Str} {v:Value}
theorem get_map {expr:Bool} {Q:Value→Shared→Prop} (X:K.In s.heap) (I:ObjM s.heap x dx C mA) (hg:PySem.W.plainGet K C name=true) (hh:PySem.W.hasDictIn K C=true)
  (ha:PySem.W.findIn K (.ref C) name=some none) (hv:mA name=some v) (hv':PySem.W.handedIn v=true) (h:Q v { s with toks:=s.toks+1 }) :
  wpAny (model prog w) A (getAttr (.ref x) name expr) Q E s:=by
 obtain ⟨od,J,hl⟩:=I.look
 exact PySem.W.get_value X J (PySem.W.plainGet_of hg).1 (PySem.W.findObj_own hh ha rfl (by rw [hl,hv])) hv' h
theorem set_map {ns:List Str} {Q:Unit→Shared→Prop} (X:K.In s.heap) (I:ObjM s.heap x dx C mA)
  (hs:PySem.W.findIn K (.ref C) "__setattr__"=some (some (.builtin "object.__setattr__"))) (hp:PySem.W.plainOver K C=true) (ht:PySem.W.takerIn K C name=some none) (hh:PySem.W.hasDictIn K C=true)
  (hw:PySem.Within mA ns) (hsz:ns.length≤sizeLine)
  (h:∀ h',ObjM h' x dx C (fun y=>if y=name then some v else mA y)→Heap.SameBut dx s.heap h'→Q () { s with heap:=h',toks:=s.toks+2 }) :
  wpAny (model prog w) A (setAttr (.ref x) name v) Q E s:=by
 obtain ⟨od,J,hl⟩:=I.look
 refine PySem.W.set_plain X J hs (PySem.W.osa_open (s:={ s with toks:=s.toks+1 }) (r:=none) X J hp ht fun b=>?_)
 obtain ⟨cd,hc,hd'⟩:=PySem.W.any_some hh
 have hx:s.heap.get? x=some ⟨.ref C,some dx,.plain,#[]⟩:=I.obj
 refine wpAny_bind (wpAny_pure (wpAny_bind (wpAny_bind (wpAny_loadPart hx (wpAny_bind (PySem.W.Looks.here (s:={ s with toks:=s.toks+1 }) (PySem.W.looks_clsIn X hc) ?_))))))
 rw [hd']
 refine wpAny_pure (a:=some dx) (wpAny_bind (wpAny_pure (wpAny_bind ?_)))
 refine wpAny_nsSet1 (s:={ s with toks:=s.toks+1 }) I.ns fun h' hn2 hs2=>?_
 obtain ⟨oD,esD,epD,hoD,hdD,hcD⟩:=hn2.count (PySem.Within.cons name v hw)
 refine wpAny_bind (wpAny_lookBehind hoD (by rw [hdD]; exact pastItsLine_dict (Nat.le_trans hcD (by rw [List.length_cons]; omega))) ?_)
 exact wpAny_pure (h _ ⟨(hs2.2 _ (Ne.symm I.ne)).trans I.obj,hn2,I.ne⟩ hs2)
theorem make_map {R:Result→Shared→Prop} {vs:List Value} {kw:List (Str × Value)} (X:K.In s.heap) (hm:PySem.W.makesIn K C=true)
  (hi:PySem.W.findIn K (.ref C) "__init__"=some (some (.ref f))) (hf:PySem.W.typeIn K (.ref f)=some (.type "function"))
  (h:codeAny (model prog w) (A.under (.builtin "type.__call__" ⟨.ref C :: vs,kw⟩)) (.call (.ref f) ⟨.ref (s.heap.objs.size+1) :: vs,kw⟩) (PySem.W.InitBack (s.heap.objs.size+1) R)
   { s with heap:=(s.heap.push PySem.W.emptyDict).push (PySem.W.instObj C s.heap.objs.size) }) :
  codeAny (model prog w) A (.call (.ref C) ⟨vs,kw⟩) R s:=by
 obtain ⟨hh,g,d,t,os⟩:=s
 exact PySem.W.make_core (PySem.W.makes_of X hm) (PySem.W.looks_findIn X hi) (fun self=>PySem.W.bind_fn X self hf) (.inl rfl) h
end
def putF (f:Str) (v:V):List (Str × V)→List (Str × V)
 | []=>[(f,v)]
 | (g,x) :: r=>if g=f then (g,v) :: r else (g,x) :: putF f v r
theorem Zbk (f g:Str) (v:V):∀ fs:List (Str × V),(putF f v fs).lookup g=if g=f then some v else fs.lookup g
 | []=>by
  show List.lookup g [(f,v)]=_
  by_cases h:g=f
  ·have hb:(g == f)=true:=beq_iff_eq.mpr h
   simp only [List.lookup,hb,if_pos h]
  ·have hb:(g == f)=false:=beq_eq_false_iff_ne.mpr h
   simp only [List.lookup,hb,if_neg h]
 | (k,x) :: r=>by
  have ih:=Zbk f g v r
  rw [show putF f v ((k,x) :: r)=(if k=f then (k,v) :: r else (k,x) :: putF f v r) from rfl]
  by_cases hk:k=f
  ·rw [if_pos hk]
   by_cases h:g=k
   ·have hb:(g == k)=true:=beq_iff_eq.mpr h
    simp only [List.lookup,hb,if_pos (h.trans hk)]
   ·have hb:(g == k)=false:=beq_eq_false_iff_ne.mpr h
    simp only [List.lookup,hb,if_neg (fun e:g=f=>h (e.trans hk.symm))]
  ·rw [if_neg hk]
   by_cases h:g=k
   ·have hb:(g == k)=true:=beq_iff_eq.mpr h
    simp only [List.lookup,hb,if_neg (fun e:g=f=>hk (h.symm.trans e))]
   ·have hb:(g == k)=false:=beq_eq_false_iff_ne.mpr h
    simp only [List.lookup,hb]
    exact ih
theorem Zf1 (f:Str) (v:V):∀ fs:List (Str × V),f∈(putF f v fs).map (·.1)∧∀ g,g∈fs.map (·.1)→g∈(putF f v fs).map (·.1)
 | []=>⟨by simp [putF],fun g h=>by simp at h⟩
 | (k,x) :: r=>by
  obtain ⟨i1,i2⟩:=Zf1 f v r
  rw [show putF f v ((k,x) :: r)=(if k=f then (k,v) :: r else (k,x) :: putF f v r) from rfl]
  by_cases hk:k=f
  ·rw [if_pos hk]
   subst hk
   exact ⟨by simp,fun g h=>by simpa using h⟩
  ·rw [if_neg hk]
   refine ⟨?_,fun g h=>?_⟩
   ·rw [List.map_cons]
    exact List.mem_cons_of_mem _ i1
   ·rw [List.map_cons] at h ⊢
    rcases List.mem_cons.mp h with e | e
    ·exact List.mem_cons.mpr (.inl e)
    ·exact List.mem_cons_of_mem _ (i2 g e)
theorem Zfz (f:Str) (v:V):∀ fs:List (Str × V),(putF f v fs).length≤fs.length+1
 | []=>by simp [putF]
 | (k,x) :: r=>by
  have ih:=Zfz f v r
  rw [show putF f v ((k,x) :: r)=(if k=f then (k,v) :: r else (k,x) :: putF f v r) from rfl]
  by_cases hk:k=f
  ·rw [if_pos hk,List.length_cons,List.length_cons]; omega
  ·rw [if_neg hk,List.length_cons,List.length_cons]; omega
theorem RelO.some_of {v:V} {o:Option Value} (r:RelO (some v) o):∃ u,o=some u∧RelV v u:=by
 cases o with
 | none=>exact (show False from r).elim
 | some u=>exact ⟨u,rfl,r⟩
theorem handed_of {v:V} {u:Value} (r:RelV v u):PySem.W.handedIn u=true:=by
 cases v with
 | non=>cases (show u=Value.none from r); rfl
 | bl b=>cases (show u=Value.bool b from r); rfl
 | int i=>obtain ⟨t,e⟩:=(show ∃ t,u=Value.int i t from r); cases e; rfl
 | str x=>obtain ⟨t,e⟩:=(show ∃ t,u=Value.str x t from r); cases e; rfl
 | byt b=>obtain ⟨t,e⟩:=(show ∃ t,u=Value.bytes b t from r); cases e; rfl
 | flt b=>obtain ⟨t,e⟩:=(show ∃ t,u=Value.float b t from r); cases e; rfl
 | ref a=>cases (show u=Value.ref a from r); rfl
 | ty n=>cases (show u=Value.type n from r); rfl
section
variable {P:Program} {w:World} {H H':Hp} {h h':Heap} {a C dx:Addr} {fs fs':List (Str × V)}
theorem Zkv (hok:HOk P w H h) (e:H a=some (.ins C dx fs)):∃ mA,ObjM h a dx C mA∧(∀ f,RelO (fs.lookup f) (mA f))∧PySem.Within mA (fs.map (·.1))∧fs.length≤1000∧H dx=some (.own a):=by
 obtain ⟨d,z,ne,ob,mA,n,r,q⟩:=(show ObjOk P w H h a (.ins C dx fs) from hok a _ e)
 exact ⟨mA,⟨ob,n,ne⟩,r,q,z,d⟩
end
structure Cls (K:PySem.W.Frag) (C:Addr):Prop where
 pg:PySem.W.plainGet K C Str.empty=true
 hd:PySem.W.hasDictIn K C=true
 po:PySem.W.plainOver K C=true
 sa:PySem.W.findIn K (.ref C) "__setattr__"=some (some (.builtin "object.__setattr__"))
theorem Cls.get {K:PySem.W.Frag} {C:Addr} (c:Cls K C) (f:Str):PySem.W.plainGet K C f=true:=c.pg
def NoAttr (K:PySem.W.Frag) (C:Addr) (f:Str):Prop:=PySem.W.findIn K (.ref C) f=some none
theorem NoAttr.taker {K:PySem.W.Frag} {C:Addr} {f:Str} (n:NoAttr K C f):PySem.W.takerIn K C f=some none:=by
 unfold PySem.W.takerIn
 rw [show PySem.W.findIn K (.ref C) f=some none from n]
 rfl
section
variable {X:Cx} {pins:List (Addr × Obj)} {σ:St} {H:Hp} {s:Shared} {a C dx:Addr} {fs:List (Str × V)} {f:Str} {v:V} {A:Around} {E:Value→Shared→Prop}
theorem getattr_ok {b:Bool} {Q:Value→Shared→Prop} (I:Inv X pins σ H s) (e:H a=some (.ins C dx fs)) (c:Cls X.K C) (n:NoAttr X.K C f) (l:fs.lookup f=some v)
  (h:∀ u s',Inv X pins σ H s'→RelV v u→Q u s'):wpAny (model X.prog X.w) A (getAttr (.ref a) f b) Q E s:=by
 obtain ⟨mA,O,r,_,_,_⟩:=Zkv I.hok e
 obtain ⟨u,hu,ru⟩:=RelO.some_of (v:=v) (o:=mA f) (by rw [← l]; exact r f)
 exact get_map I.kIn O (c.get f) c.hd n hu (handed_of ru) (h u _ (I.tok _) ru)
theorem setattr_ok {y:V} {u:Value} {Q:Unit→Shared→Prop} (I:Inv X pins σ H s) (e:H a=some (.ins C dx fs)) (c:Cls X.K C) (n:NoAttr X.K C f) (hl:fs.length < 1000) (ry:RelV y u)
  (h:∀ s',Inv X pins σ (upd H a (.ins C dx (putF f y fs))) s'→Q () s'):wpAny (model X.prog X.w) A (setAttr (.ref a) f u) Q E s:=by
 obtain ⟨mA,O,r,wi,_,ho⟩:=Zkv I.hok e
 have hz:(fs.map (·.1)).length≤sizeLine:=by rw [List.length_map,sizeLine_eq]; omega
 refine set_map I.kIn O c.sa c.po n.taker c.hd wi hz fun h' O' sb=>h _ ?_
 have hd:∃ o,h'.get? dx=some o:=let ⟨o,_,_,e',_⟩:=O'.ns; ⟨o,e'⟩
 refine I.write (x:=a) (e:=dx) (by rw [e]; exact True.intro) (.inr ho) (fun b q hb z=>(sb.2 b hb).trans z) hd ?_
 refine ⟨by rw [Zaj O.ne]; exact ho,?_,O.ne,O'.obj,_,O'.ns,fun g=>?_,fun g hg=>?_⟩
 ·have:=Zfz f y fs; omega
 ·show RelO ((putF f y fs).lookup g) (if g=f then some u else mA g)
  rw [Zbk]
  by_cases q:g=f
  ·rw [if_pos q,if_pos q]; exact ry
  ·rw [if_neg q,if_neg q]; exact r g
 ·by_cases q:g=f
  ·rw [q]; exact (Zf1 f y fs).1
  ·refine (Zf1 f y fs).2 g (wi g fun z=>hg ?_)
   show (if g=f then some u else mA g)=none
   rw [if_neg q]; exact z
theorem Inv.made (I:Inv X pins σ H s):Inv X pins σ (upd (upd H s.heap.objs.size (.own (s.heap.objs.size+1))) (s.heap.objs.size+1) (.ins C s.heap.objs.size []))
  { s with heap:=(s.heap.push PySem.W.emptyDict).push (PySem.W.instObj C s.heap.objs.size) }:=by
 have e1:(s.heap.push PySem.W.emptyDict).get? s.heap.objs.size=some PySem.W.emptyDict:=Heap.get?_push_size s.heap rfl
 have e2:((s.heap.push PySem.W.emptyDict).push (PySem.W.instObj C s.heap.objs.size)).get? (s.heap.objs.size+1)=some (PySem.W.instObj C s.heap.objs.size):=by
  have:=Heap.get?_push_size (s.heap.push PySem.W.emptyDict) (o:=PySem.W.instObj C s.heap.objs.size) rfl
  rwa [Heap.size_push] at this
 have e3:(s.heap.push PySem.W.emptyDict).Ns s.heap.objs.size (fun _=>none):=⟨PySem.W.emptyDict,#[],_,e1,rfl,(fun e he=>absurd he (by simp)),fun _=>rfl⟩
 have I1:=I.laid (a:=s.heap.objs.size) (o:=.own (s.heap.objs.size+1)) (h':=s.heap.push PySem.W.emptyDict) (t':=s.toks) (fun b u q=>Heap.get?_push_of_some _ q) (Nat.le_refl _) ⟨_,e1⟩
 refine I1.laid (a:=s.heap.objs.size+1) (o:=.ins C s.heap.objs.size []) (t':=s.toks) (fun b u q=>Heap.get?_push_of_some _ q) (Nat.le_of_eq (Heap.size_push _ _)) ?_
 have ne:s.heap.objs.size≠s.heap.objs.size+1:=Nat.ne_of_lt (Nat.lt_succ_self _)
 refine ⟨by rw [Zaj ne,Zab],Nat.zero_le _,ne,e2,fun _=>none,(Heap.Ns1.of_empty e3).at fun o q=>Heap.get?_push_of_some _ q,fun _=>True.intro,fun y hy=>absurd rfl hy⟩
theorem attr_of {prog:Program} {w:World} {env:Env} {e:Expr} {f:Str} {pos:Pos} {s:Shared} {Q:Value→Shared→Prop} (hb:attributeBase e f env (eval e env)=eval e env)
  (h:wpAny (model prog w) A (eval e env) (fun o s₁=>wpAny (model prog w) A (getAttr o f true) Q E s₁) E s):wpAny (model prog w) A (eval (.Attribute e f pos) env) Q E s :=
 Attribute_any_ h (by rw [arm_eval_Attribute,hb])
end
def tFld (K:PySem.W.Frag) (ta:TE) (f:Str):TE:=fun σ H Q=>ta σ H fun x H1=>∃ a C dx fs v,x=.ref a∧H1 a=some (.ins C dx fs)∧Cls K C∧NoAttr K C f∧fs.lookup f=some v∧Q v H1
def sFld (K:PySem.W.Frag) (ta tv:TE) (f:Str):TS:=fun D σ H=>tv σ H fun y H1=>ta σ H1 fun x H2=>∃ a C dx fs,x=.ref a∧H2 a=some (.ins C dx fs)∧Cls K C∧NoAttr K C f∧fs.length < 1000 ∧
 D.nx σ (upd H2 a (.ins C dx (putF f y fs)))
section
variable {X:Cx} {o e value:Expr} {f:Str} {pos pos' tpos:Pos} {ta tv:TE}
theorem Zfq (he:PE X e ta) (hb:attributeBase e f X.env (eval e X.env)=eval e X.env):PE X (.Attribute e f pos) (tFld X.K ta f):=by
 intro pins s σ H Q I h
 refine attr_of hb (thn (he pins s σ H _ I h) fun u s1 ⟨x,H1,I1,rx,a,C,dx,fs,v,ex,ea,c,n,l,q⟩=>?_)
 subst ex
 obtain rfl:u=Value.ref a:=rx
 exact getattr_ok I1 ea c n l fun u' s2 I2 ru=>⟨v,H1,I2,ru,q⟩
theorem Zfo (ha:PE X o ta) (hv:PE X value tv) (hs:swapsWith value (some (.Attribute o f pos')) pos.line X.env=pure false):PS X (.Assign [.Attribute o f pos'] value pos) (sFld X.K ta tv f):=by
 intro pins s σ H D I h
 refine plainObj_wpAny_Assign_Attribute (thn (hv pins s σ H _ I h) fun u s1 ⟨y,H1,I1,ry,q⟩=>thn (ha pins s1 σ H1 _ I1 q) fun ov s2 ⟨x,H2,I2,rx,a,C,dx,fs,ex,ea,c,n,l,q2⟩=>?_) hs
 subst ex
 obtain rfl:ov=Value.ref a:=rx
 exact setattr_ok I2 ea c n l ry fun s3 I3=>⟨σ,_,I3,q2⟩
end
section
variable {X:Cx} {pins:List (Addr × Obj)} {σ:St} {H:Hp} {s:Shared} {A:Around} {E:Value→Shared→Prop} {Q:Value→Shared→Prop} {c:Value} {b:Bool}
inductive TyOf (K:PySem.W.Frag) (H:Hp):V→Value→Prop where
 | non:TyOf K H .non (.type "NoneType")
 | bl (x:Bool):TyOf K H (.bl x) (.type "bool")
 | int (i:Int):TyOf K H (.int i) (.type "int")
 | str (x:Str):TyOf K H (.str x) (.type "str")
 | flt (x:UInt64):TyOf K H (.flt x) (.type "float")
 | lst {a:Addr} {xs:List V} (e:H a=some (.lst xs)):TyOf K H (.ref a) (.type "list")
 | frz {a:Addr} {o:Obj} {xs:List V} (e:H a=some (.frz o (.lst xs))):TyOf K H (.ref a) (.type "list")
 | tup {a:Addr} {xs:List V} (e:H a=some (.tup xs)):TyOf K H (.ref a) (.type "tuple")
 | dK {a:Addr} {kvs:List (Key × V)} (e:H a=some (.dK kvs)):TyOf K H (.ref a) (.type "dict")
 | dT {a:Addr} {kvs:List (List Key × V)} (e:H a=some (.dT kvs)):TyOf K H (.ref a) (.type "dict")
 | ins {a C dx:Addr} {fs:List (Str × V)} (e:H a=some (.ins C dx fs)) (cl:Cls K C) (ha:PySem.W.findIn K (.ref C) "__class__"=some (some (.builtin "object.__class__")))
   (hn:PySem.W.specialIn K (.builtin "object.__class__") "__get__"=some (some (.builtin "getset_descriptor.__get__"))) (htk:PySem.W.takesIn K (.builtin "object.__class__")=some true)
   (hm:PySem.W.mroIn K C (.type "object")=some true):TyOf K H (.ref a) (.ref C)
theorem Zf2 {x:V} {u t:Value} (I:Inv X pins σ H s) (rx:RelV x u) (ty:TyOf X.K H x t) (e:PySem.W.kitOne X.K t c=some b) (h:∀ tk,Q (.bool b) { s with toks:=tk }) :
  wpAny (model X.prog X.w) A (call (.builtin "isinstance") [u,c]) Q E s:=by
 cases ty with
 | non=>cases (show u=Value.none from rx); exact PySem.W.kia_one PySem.W.kitx_none I.kIn True.intro e (fun z=>nomatch z) h
 | bl y=>cases (show u=Value.bool y from rx); exact PySem.W.kia_one PySem.W.kitx_bool I.kIn True.intro e (fun z=>nomatch z) h
 | int i=>obtain ⟨t,q⟩:=(show ∃ t,u=Value.int i t from rx); cases q; exact PySem.W.kia_one PySem.W.kitx_int I.kIn True.intro e (fun z=>nomatch z) h
 | str y=>obtain ⟨t,q⟩:=(show ∃ t,u=Value.str y t from rx); cases q; exact PySem.W.kia_one PySem.W.kitx_str I.kIn True.intro e (fun z=>nomatch z) h
 | flt y=>obtain ⟨t,q⟩:=(show ∃ t,u=Value.float y t from rx); cases q; exact PySem.W.kia_one PySem.W.kitx_float I.kIn True.intro e (fun z=>nomatch z) h
 | @lst a xs ea =>
  cases (show u=Value.ref a from rx)
  obtain ⟨_,_,n,_,h1⟩:=(show ObjOk X.prog X.w H s.heap a (.lst xs) from I.hok a _ ea)
  exact PySem.W.kia_one PySem.W.kitx_list I.kIn ⟨_,h1,rfl⟩ e (fun z=>nomatch z) h
 | @frz a ob xs ea =>
  cases (show u=Value.ref a from rx)
  obtain ⟨_,_,_,n,_,h1⟩:=(show ObjOk X.prog X.w H s.heap a (.frz ob (.lst xs)) from I.hok a _ ea)
  exact PySem.W.kia_one PySem.W.kitx_list I.kIn ⟨_,h1,rfl⟩ e (fun z=>nomatch z) h
 | @tup a xs ea =>
  cases (show u=Value.ref a from rx)
  obtain ⟨_,_,_,p⟩:=(show ObjOk X.prog X.w H s.heap a (.tup xs) from I.hok a _ ea)
  obtain ⟨o,h1,h2,_⟩:=p
  exact PySem.W.kia_one PySem.W.kitx_tuple I.kIn ⟨o,h1,h2⟩ e (fun z=>nomatch z) h
 | @dK a kvs ea =>
  cases (show u=Value.ref a from rx)
  obtain ⟨_,_,vs,_,p⟩:=(show ObjOk X.prog X.w H s.heap a (.dK kvs) from I.hok a _ ea)
  obtain ⟨o,es,ep,h1,h2,_⟩:=p
  exact PySem.W.kia_one PySem.W.kitx_dict I.kIn ⟨o,h1,h2.1⟩ e (fun z=>nomatch z) h
 | @dT a kvs ea =>
  cases (show u=Value.ref a from rx)
  obtain ⟨_,_,xs,_,o,es,ep,h1,h2,_⟩:=(show ObjOk X.prog X.w H s.heap a (.dT kvs) from I.hok a _ ea)
  exact PySem.W.kia_one PySem.W.kitx_dict I.kIn ⟨o,h1,h2.1⟩ e (fun z=>nomatch z) h
 | @ins a C dx fs ea cl ha hn htk hm =>
  cases (show u=Value.ref a from rx)
  obtain ⟨mA,O,_⟩:=Zkv I.hok ea
  obtain ⟨od,J,_⟩:=O.look
  exact PySem.W.kia_one (PySem.W.kitx_own (cl.get _) cl.hd ha hn htk hm) I.kIn J e (fun z=>nomatch z) h
end
end L2
namespace L2
open PySem PySem.Spec PyProof.Rows
structure Room (k:Nat) (A:Around):Prop where
 hd:A.handled=none
 dp:A.depth+3 * k+5 < recursionLimit
 un:A.units+16 * k+200 < cLine
theorem Room.mono {j k:Nat} {A:Around} (r:Room k A) (h:j≤k):Room j A:=⟨r.hd,by have:=r.dp; omega,by have:=r.un; omega⟩
theorem Room.deeper {k:Nat} {A:Around} (r:Room (k+1) A) (env:Env):Room k (A.deeper env) :=
 ⟨r.hd,by have:=r.dp; show A.depth+1+3 * k+5 < _; omega,by have:=r.un; show A.units+3+16 * k+200 < _; omega⟩
theorem Room.in1 {k:Nat} {A:Around} (r:Room (k+1) A):Room k A.in1 :=
 ⟨r.hd,by have:=r.dp; show A.depth+3 * k+5 < _; omega,by have:=r.un; show A.units+1+16 * k+200 < _; omega⟩
theorem make_depth {A:Around} {C:Addr} {us:List Value} {kw:List (Str × Value)}:(A.under (.builtin "type.__call__" ⟨.ref C :: us,kw⟩)).depth=A.depth+1:=by
 first | rfl | simp [Around.under,Code.weight,Code.isCreation,Code.isGuard,Code.isCaller,Code.frames,Code.isFrame,guardIds]
theorem make_units {A:Around} {C:Addr} {us:List Value} {kw:List (Str × Value)}:(A.under (.builtin "type.__call__" ⟨.ref C :: us,kw⟩)).units=A.units+1:=by
 first | rfl | simp [Around.under,Code.cUnits,Code.frames,Code.isFrame]
theorem Room.make {k:Nat} {A:Around} (r:Room (k+1) A) (C:Addr) (us:List Value) (kw:List (Str × Value)):Room k (A.under (.builtin "type.__call__" ⟨.ref C :: us,kw⟩)) :=
 ⟨r.hd,by have:=r.dp; rw [make_depth]; omega,by have:=r.un; rw [make_units]; omega⟩
theorem Room.depth {k:Nat} {A:Around} (r:Room k A):A.depth < recursionLimit:=by have:=r.dp; omega
theorem Room.units {k:Nat} {A:Around} (r:Room k A):A.units+64 < cLine:=by have:=r.un; omega
theorem Room.units0 {k:Nat} {A:Around} (r:Room k A):A.units < cLine:=by have:=r.un; omega
def tNil:TA:=fun _ H Q=>Q [] H
def tCons (ta:TE) (tr:TA):TA:=fun σ H Q=>ta σ H fun x H1=>tr σ H1 fun xs H2=>Q (x :: xs) H2
section
variable {X:Cx} {e:Expr} {es:List Expr} {te:TE} {t:TA} {pos:Pos}
theorem Zad:PA X [] tNil:=fun _ _ _ _ H Q I h=>Calls.spliced_nil ⟨[],H,I,.nil,h⟩
theorem Zaa (ha:PE X e te) (hr:PA X es t) (hs:starEach (e :: es) X.env=(false,eval e X.env) :: starEach es X.env:=by rfl):PA X (e :: es) (tCons te t):=by
 intro pos pins s σ H Q I h
 rw [hs]
 show wpAny _ _ (spliced ((false,eval e X.env) :: backTo pos (starEach es X.env))) _ _ s
 refine Calls.spliced_cons (thn (ha pins s σ H _ I h) fun u s1 ⟨x,H1,I1,r1,q1⟩=>?_)
 exact thn (hr pos pins s1 σ H1 _ I1 q1) fun us s2 ⟨xs,H2,I2,r2,q2⟩=>⟨x :: xs,H2,I2,.cons r1 r2,q2⟩
def tTup (t:TA):TE:=fun σ H Q=>t σ H fun xs H1=>xs.length≤sizeLine∧∀ p,H1 p=none→Q (.ref p) (upd H1 p (.tup xs))
def tLst (t:TA):TE:=fun σ H Q=>t σ H fun xs H1=>xs.length≤sizeLine∧∀ p,H1 p=none→Q (.ref p) (upd H1 p (.lst xs))
theorem Za3 {x1} (h:PA X es t):PE X (.Tuple es x1 pos) (tTup t):=by
 intro pins s σ H Q I hq
 refine wpAny_Tuple_spliced (thn (h pos pins s σ H _ I hq) fun us s1 ⟨xs,H1,I1,r,z,q⟩=>⟨by rw [← r.length]; exact z,?_⟩)
 have hf:H1 s1.heap.objs.size=none:=I1.hok.fresh (Nat.le_refl _)
 refine ⟨.ref s1.heap.objs.size,upd H1 s1.heap.objs.size (.tup xs),I1.laid (t':=s1.toks) (fun b u e=>Heap.get?_push_of_some _ e) (Nat.le_refl _) ?_,rfl,q _ hf⟩
 exact ⟨z,us,r,⟨_,Heap.get?_push_size _ rfl,rfl,_,rfl⟩⟩
theorem Zck (h:PA X es t):PE X (.List es pos) (tLst t):=by
 intro pins s σ H Q I hq
 refine wpAny_List_spliced (thn (h pos pins s σ H _ I hq) fun us s1 ⟨xs,H1,I1,r,z,q⟩=>⟨by rw [← r.length]; exact z,?_⟩)
 have hf:H1 s1.heap.objs.size=none:=I1.hok.fresh (Nat.le_refl _)
 refine ⟨.ref s1.heap.objs.size,upd H1 s1.heap.objs.size (.lst xs),I1.laid (t':=s1.toks) (fun b u e=>Heap.get?_push_of_some _ e) (Nat.le_refl _) ?_,rfl,q _ hf⟩
 exact ⟨z,us,0,r,Heap.get?_push_size _ rfl⟩
end
abbrev Sp:=List V→Hp→VK→XK→Prop
abbrev CXT:=List Env→Hp→Shared→XK→Value→Shared→Prop
structure Env0 (P:Program) (w:World) (K:PySem.W.Frag) (mg:Str→Option Value) (base:Heap) (A:Around) (outer:List Env) (s:Shared) (H:Hp):Prop where
 frames:A.frames=some outer
 mod:Mod K mg base
 bs:∀ b o,base.get? b=some o→s.heap.get? b=some o∧H b=none
 bsz:base.objs.size≤s.heap.objs.size
 funs:s.heap.FunFrames base outer
 frf:∀ b∈frs outer,H b=none
 hok:HOk P w H s.heap
 bare:AllBare s.gens
def CE (outer:List Env) (P:Program) (w:World) (H:Hp) (s:Shared) (Q:VK) (u:Value) (s':Shared):Prop :=
 ∃ v H',s'.os=s.os∧AllBare s'.gens∧Un (frs outer) [] H H' s.heap s'.heap∧HOk P w H' s'.heap∧RelV v u∧Q v H'
def CR (CX:CXT) (outer:List Env) (P:Program) (w:World) (H:Hp) (s:Shared) (Q:VK) (E:XK) (r:Result) (s':Shared):Prop :=
 match r with
 | .ok (.ret u)=>CE outer P w H s Q u s'
 | .ok _=>False
 | .error e=>CX outer H s E e s'
structure FnOk (P:Program) (w:World) (K:PySem.W.Frag) (mg:Str→Option Value) (base:Heap) (CX:CXT) (k:Nat) (f:Addr) (fd:FuncData) (ps:List Str) (sp:Sp):Prop where
 len:∀ vs H Q E,sp vs H Q E→vs.length=ps.length
 run:∀ (A:Around) (outer:List Env) (s:Shared) (H:Hp) (args:Args) (us:List Value) (vs:List V) (Q:VK) (E:XK),Room k A→Env0 P w K mg base A outer s H→BindsTo s fd args (ps.zip us)→Vals vs us→sp vs H Q E →
  codeAny (model P w) A (.call (.ref f) args) (CR CX outer P w H s Q E) s
theorem FnOk.imp {P:Program} {w:World} {K:PySem.W.Frag} {mg:Str→Option Value} {base:Heap} {CX:CXT} {k:Nat} {f:Addr} {fd:FuncData} {ps:List Str} {sp sp':Sp} (F:FnOk P w K mg base CX k f fd ps sp)
  (h:∀ vs H Q E,sp' vs H Q E→sp vs H Q E):FnOk P w K mg base CX k f fd ps sp' :=
 ⟨fun vs H Q E q=>F.len vs H Q E (h _ _ _ _ q),fun A outer s H args us vs Q E hr he hb hv hs=>F.run A outer s H args us vs Q E hr he hb hv (h _ _ _ _ hs)⟩
theorem Env0.make {P:Program} {w:World} {K:PySem.W.Frag} {mg:Str→Option Value} {base:Heap} {A:Around} {outer:List Env} {s:Shared} {H:Hp} (e:Env0 P w K mg base A outer s H) (C:Addr) (us:List Value) (kw:List (Str × Value)) :
  Env0 P w K mg base (A.under (.builtin "type.__call__" ⟨.ref C :: us,kw⟩)) outer s H:=⟨by first | exact e.frames | (simpa [Around.under,Code.envs,Code.isFrame,pushEnvs] using e.frames),e.mod,e.bs,e.bsz,e.funs,e.frf,e.hok,e.bare⟩
theorem Env0.in1 {P:Program} {w:World} {K:PySem.W.Frag} {mg:Str→Option Value} {base:Heap} {A:Around} {outer:List Env} {s:Shared} {H:Hp} (e:Env0 P w K mg base A outer s H) :
  Env0 P w K mg base A.in1 outer s H:=⟨e.frames,e.mod,e.bs,e.bsz,e.funs,e.frf,e.hok,e.bare⟩
section
variable {X:Cx} {pins:List (Addr × Obj)} {σ:St} {H:Hp} {s s':Shared}
theorem Inv.env0 (I:Inv X pins σ H s):Env0 X.prog X.w X.K X.mg X.base X.A X.stack s H :=
 ⟨I.ok.frames,I.ok.mod,I.bs,Nat.le_trans I.ok.bsz I.sz,I.stack,I.stkFree,I.hok,I.bare⟩
theorem Inv.after {Q:VK} {u:Value} (I:Inv X pins σ H s) (h:CE X.stack X.prog X.w H s Q u s'):EP X pins σ Q u s':=by
 obtain ⟨v,H',os,bare,un,hok,r,q⟩:=h
 obtain ⟨hh,g,d,t,os'⟩:=s'
 obtain rfl:os'=s.os:=os
 exact ⟨v,H',I.call (h':=hh) (g':=g) (d':=d) (t':=t) (ch:=[]) un hok bare (fun b z=>absurd z (by simp)),r,q⟩
end
def tCall (sp:Sp) (dvs:List V) (E:XK) (t:TA):TE:=fun σ H Q=>t σ H fun vs H1=>sp (vs++dvs) H1 Q E
def tMake (C:Addr) (sp:Sp) (dvs:List V) (E:XK) (t:TA):TE:=fun σ H Q=>t σ H fun vs H1=>∀ x dx,H1 x=none→H1 dx=none→dx≠x →
 sp (.ref x :: (vs++dvs)) (upd (upd H1 dx (.own x)) x (.ins C dx [])) (fun v H2=>v=.non∧Q (.ref x) H2) E
def Binds (K:PySem.W.Frag) (fd:FuncData) (ps:List Str) (ds:List Value):Prop :=
 ∀ (s:Shared) (us:List Value),K.In s.heap→(us++ds).length=ps.length→BindsTo s fd ⟨us,[]⟩ (ps.zip (us++ds))
theorem Binds.all {K:PySem.W.Frag} {fd:FuncData} {ps:List Str} (h:∀ us:List Value,us.length=ps.length→bindArgs fd ⟨us,[]⟩=pure (ps.zip us)):Binds K fd ps []:=fun s us _ hl=>by
 rw [List.append_nil] at hl ⊢
 exact .of_eq (h us hl)
def Passes (CX:CXT) (X:Cx) (E:XK):Prop:=∀ (pins:List (Addr × Obj)) (σ:St) (H:Hp) (s:Shared) (e:Value) (s':Shared),Inv X pins σ H s→CX X.stack H s E e s'→X.xe e s'
section
variable {X:Cx} {CX:CXT} {k:Nat} {f C:Addr} {fd:FuncData} {ps:List Str} {sp:Sp} {dvs:List V} {ds:List Value} {E:XK} {x m:Str} {p pos apos:Pos} {e o:Expr} {es:List Expr} {ta:TE} {t:TA}
theorem run_fn {pins:List (Addr × Obj)} {σ:St} {H:Hp} {s:Shared} {Q:VK} {us:List Value} {vs:List V} (F:FnOk X.prog X.w X.K X.mg X.base CX k f fd ps sp) (hr:Room k X.A) (hb:Binds X.K fd ps ds) (hd:Vals dvs ds) (hx:Passes CX X E)
  (I:Inv X pins σ H s) (r:Vals vs us) (h:sp (vs++dvs) H Q E):wpAny (model X.prog X.w) X.A (call (.ref f) us) (EP X pins σ Q) X.xe s:=by
 have r2:Vals (vs++dvs) (us++ds):=r.append hd
 have hl:(us++ds).length=ps.length:=by rw [← r2.length]; exact F.len _ _ _ _ h
 refine wpAny_call (codeAny_mono (F.run X.A X.stack s H ⟨us,[]⟩ (us++ds) (vs++dvs) Q E hr I.env0 (hb s us I.kIn hl) r2 h) fun r s' hq=>?_)
 cases r with
 | error e=>exact hx pins σ H s e s' I hq
 | ok fl =>
  cases fl with
  | ret u=>exact I.after hq
  | next=>exact False.elim hq
  | brk=>exact False.elim hq
  | cont=>exact False.elim hq
theorem pe_call (F:FnOk X.prog X.w X.K X.mg X.base CX k f fd ps sp) (hr:Room k X.A) (hg:Gl X x) (hm:X.mg x=some (.ref f)) (hk:PySem.W.keepIn X.K (.ref f)=true) (hb:Binds X.K fd ps ds) (hd:Vals dvs ds) (hx:Passes CX X E)
  (ha:PA X (e :: es) t) (hdb:(x == ("__debug__":Str))=false:=by decide) (he:starEach (e :: es) X.env=(false,eval e X.env) :: starEach es X.env:=by rfl) (hpl:(backTo pos (starEach es X.env)).any (·.1)=false:=by rfl) :
  PE X (.Call (.Name x p) (e :: es) [] pos) (tCall sp dvs E t):=by
 intro pins s σ H Q I h
 refine wpAny_Call_Name_kw (Zf0 I hg hm ?_ hdb)
 refine PySem.W.callWith_K (h₀:=X.base) I.ok.mod.kin hk (thn (ha pos pins s σ H _ I h) fun us s1 ⟨vs,H1,I1,r,q⟩=>⟨I1.kIn,?_⟩) he hpl
 exact run_fn F hr hb hd hx I1 r q
structure Mk (K:PySem.W.Frag) (C f:Addr):Prop where
 makes:PySem.W.makesIn K C=true
 init:PySem.W.findIn K (.ref C) "__init__"=some (some (.ref f))
 fn:PySem.W.isFn K (.ref f)=true
 kp:PySem.W.keepIn K (.ref C)=true
theorem run_make {pins:List (Addr × Obj)} {σ:St} {H:Hp} {s:Shared} {Q:VK} {us:List Value} {vs:List V} (M:Mk X.K C f) (F:FnOk X.prog X.w X.K X.mg X.base CX k f fd ps sp) (hr:Room (k+1) X.A) (hb:Binds X.K fd ps ds) (hd:Vals dvs ds)
  (hx:Passes CX X E) (I:Inv X pins σ H s) (r:Vals vs us)
  (h:∀ x dx,H x=none→H dx=none→dx≠x→sp (.ref x :: (vs++dvs)) (upd (upd H dx (.own x)) x (.ins C dx [])) (fun v H2=>v=.non∧Q (.ref x) H2) E) :
  wpAny (model X.prog X.w) X.A (call (.ref C) us) (EP X pins σ Q) X.xe s:=by
 have hq:=h (s.heap.objs.size+1) s.heap.objs.size (I.hok.fresh (Nat.le_succ _)) (I.hok.fresh (Nat.le_refl _)) (Nat.ne_of_lt (Nat.lt_succ_self _))
 have I2:=Inv.made (C:=C) I
 have r2:Vals (V.ref (s.heap.objs.size+1) :: (vs++dvs)) (Value.ref (s.heap.objs.size+1) :: (us++ds)):=.cons rfl (r.append hd)
 have hl:(Value.ref (s.heap.objs.size+1) :: us++ds).length=ps.length:=by
  have e:=r2.length
  rw [F.len _ _ _ _ hq] at e
  exact e.symm
 refine wpAny_call (make_map (f:=f) I.kIn M.makes M.init (beq_iff_eq.mp M.fn) (codeAny_mono (F.run _ X.stack _ _ ⟨Value.ref (s.heap.objs.size+1) :: us,[]⟩ (Value.ref (s.heap.objs.size+1) :: (us++ds)) _ _ E (hr.make C us [])
  (I2.env0.make C us []) (hb _ (Value.ref (s.heap.objs.size+1) :: us) I2.kIn hl) r2 hq) fun r s' hq'=>?_))
 cases r with
 | error e=>exact hx pins σ _ _ e s' I2 hq'
 | ok fl =>
  cases fl with
  | ret u =>
   obtain ⟨v,H',I3,rv,ev,q3⟩:=I2.after hq'
   subst ev
   exact ⟨rv,⟨V.ref (s.heap.objs.size+1),H',I3,rfl,q3⟩⟩
  | next=>exact False.elim hq'
  | brk=>exact False.elim hq'
  | cont=>exact False.elim hq'
theorem pe_make (M:Mk X.K C f) (F:FnOk X.prog X.w X.K X.mg X.base CX k f fd ps sp) (hr:Room (k+1) X.A) (hg:Gl X x) (hm:X.mg x=some (.ref C)) (hb:Binds X.K fd ps ds) (hd:Vals dvs ds) (hx:Passes CX X E)
  (ha:PA X (e :: es) t) (hdb:(x == ("__debug__":Str))=false:=by decide) (he:starEach (e :: es) X.env=(false,eval e X.env) :: starEach es X.env:=by rfl) (hpl:(backTo pos (starEach es X.env)).any (·.1)=false:=by rfl) :
  PE X (.Call (.Name x p) (e :: es) [] pos) (tMake C sp dvs E t):=by
 intro pins s σ H Q I h
 refine wpAny_Call_Name_kw (Zf0 I hg hm ?_ hdb)
 refine PySem.W.callWith_K (h₀:=X.base) I.ok.mod.kin M.kp (thn (ha pos pins s σ H _ I h) fun us s1 ⟨vs,H1,I1,r,q⟩=>⟨I1.kIn,?_⟩) he hpl
 exact run_make M F hr hb hd hx I1 r q
end
section
variable {X:Cx} {CX:CXT} {k:Nat} {f C:Addr} {fd:FuncData} {ps ks:List Str} {sp:Sp} {E:XK} {x m:Str} {p pos apos kpos:Pos} {e o:Expr} {es:List Expr} {kws:List Keyword} {te ta:TE} {t tk:TA} {nm:Option Str}
variable {g:List Value→List Value→List Value} {gV:List V→List V→List V}
end
structure Zap (N P:List Str) (sc:Scope):Prop where
 kind:sc.kind=.function
 co:sc.isCoroutine=false
 gen:sc.isGenerator=false
 nd:N.Nodup
 pre:N.take P.length=P
 par:∀ x∈P,sc.names.lookup x=some .local∨sc.names.lookup x=some .cell
 nofree:∀ y∈sc.names,y.2≠.free
theorem Zjp {kindOf:Str→Option NameKind} {x:Str}:∀ {binds:List (Str × Value)} {m:Str→Option Value},(∀ v,(x,v) ∉ binds)→bindL kindOf binds m x=m x
 | [],_,_=>rfl
 | (n,v) :: r,m,h=>by
  unfold bindL
  rw [Zjp fun w hw=>h w (List.mem_cons_of_mem _ hw)]
  split
  ·have:x≠n:=by rintro rfl; exact h v List.mem_cons_self
   simp [this]
  ·rfl
theorem Zjr {kindOf:Str→Option NameKind} {x:Str}:∀ {binds:List (Str × Value)} {m:Str→Option Value},(∀ v,(x,v) ∉ binds)→bindC kindOf binds m x=m x
 | [],_,_=>rfl
 | (n,v) :: r,m,h=>by
  unfold bindC
  rw [Zjr fun w hw=>h w (List.mem_cons_of_mem _ hw)]
  split
  ·rfl
  ·have:x≠n:=by rintro rfl; exact h v List.mem_cons_self
   simp [this]
theorem Zjq {kindOf:Str→Option NameKind} {x:Str} {v:Value}:∀ {P:List Str} {vs:List Value} {i:Nat} {m:Str→Option Value},P.Nodup→P[i]?=some x→vs[i]?=some v→kindOf x=some .local →
  bindL kindOf (P.zip vs) m x=some v
 | [],_,_,_,_,h,_,_=>by simp at h
 | _ :: _,[],_,_,_,_,h,_=>by simp at h
 | p :: P,w :: vs,0,m,nd,h1,h2,hk=>by
  simp at h1 h2; subst h1; subst h2
  show bindL kindOf ((p,w) :: P.zip vs) m p=_
  unfold bindL
  rw [Zjp fun v hv=>(List.nodup_cons.mp nd).1 (List.of_mem_zip hv).1,if_pos hk]
  simp
 | p :: P,w :: vs,i+1,m,nd,h1,h2,hk=>by
  show bindL kindOf ((p,w) :: P.zip vs) m x=_
  unfold bindL
  exact Zjq (i:=i) (List.nodup_cons.mp nd).2 (by simpa using h1) (by simpa using h2) hk
theorem Zjs {kindOf:Str→Option NameKind} {x:Str} {v:Value}:∀ {P:List Str} {vs:List Value} {i:Nat} {m:Str→Option Value},P.Nodup→P[i]?=some x→vs[i]?=some v→kindOf x≠some .local →
  bindC kindOf (P.zip vs) m x=some v
 | [],_,_,_,_,h,_,_=>by simp at h
 | _ :: _,[],_,_,_,_,h,_=>by simp at h
 | p :: P,w :: vs,0,m,nd,h1,h2,hk=>by
  simp at h1 h2; subst h1; subst h2
  show bindC kindOf ((p,w) :: P.zip vs) m p=_
  unfold bindC
  rw [Zjr fun v hv=>(List.nodup_cons.mp nd).1 (List.of_mem_zip hv).1,if_neg hk]
  simp
 | p :: P,w :: vs,i+1,m,nd,h1,h2,hk=>by
  show bindC kindOf ((p,w) :: P.zip vs) m x=_
  unfold bindC
  exact Zjs (i:=i) (List.nodup_cons.mp nd).2 (by simpa using h1) (by simpa using h2) hk
def start (N:List Str) (vs:List V):St:=vs.map some++List.replicate (N.length - vs.length) none
def cxOf (CX:CXT) (P:Program) (w:World) (K:PySem.W.Frag) (mg:Str→Option Value) (base:Heap) (N:List Str) (qual:Str) (scope:Scope) (f:Addr) (cd:Value) (A:Around) (outer:List Env) (s:Shared) (H:Hp) (E:XK):Cx where
 prog:=P
 w:=w
 K:=K
 mg:=mg
 base:=base
 A:=A.deeper (envOfC qual scope s.heap.objs.size f cd)
 N:=N
 s₀:=s
 H₀:=H
 env:=envOfC qual scope s.heap.objs.size f cd
 outer:=outer
 stack:=envOfC qual scope s.heap.objs.size f cd :: outer
 ex:=[]
 calm:=true
 fn:=fun _=>true
 pn:=[]
 xe:=fun e s'=>wpAny (model P w) (A.deeper (envOfC qual scope s.heap.objs.size f cd)) (leaving (envOfC qual scope s.heap.objs.size f cd) e) (fun _ s''=>CX outer H s E e s'') (fun e' s''=>CX outer H s E e' s'') s'
theorem cell_has {sc:Scope} {n:Nat} {x:Str} (h:sc.names.lookup x=some .cell):∃ c,(cellsFrom n sc.names []).lookup x=some c:=by
 have q:=PySem.W.cellsFrom_some sc.names n [] (.inl h)
 exact Option.isSome_iff_exists.mp q
theorem inv_start {CX:CXT} {P:Program} {w:World} {K:PySem.W.Frag} {mg:Str→Option Value} {base:Heap} {N ps:List Str} {qual:Str} {scope:Scope} {f:Addr} {cd:Value} {A:Around} {outer:List Env} {s s1:Shared} {H:Hp} {E:XK} {us:List Value} {vs:List V}
  (S:Zap N ps scope) (hd:A.handled=none) (e0:Env0 P w K mg base A outer s H) (hl:vs.length=ps.length) (r:Vals vs us)
  (x:InCallC s s.heap.objs.size (bindL (envOfC qual scope s.heap.objs.size f cd).kindOf (ps.zip us) fun _=>none) (cellsFrom (s.heap.objs.size+1) scope.names []) (bindC (envOfC qual scope s.heap.objs.size f cd).kindOf (ps.zip us) fun _=>none) s1) :
  Inv (cxOf CX P w K mg base N qual scope f cd A outer s H E) [] (start N vs) H s1:=by
 have hpl:ps.length≤N.length:=by have:=congrArg List.length S.pre; rw [List.length_take] at this; omega
 obtain ⟨h1,tk,rfl,hk⟩:=x.done
 have noA:∀ b:Addr,b ∉ (cxOf CX P w K mg base N qual scope f cd A outer s H E).ex:=fun b z=>absurd (show b∈([]:List Addr) from z) (by simp)
 refine ⟨⟨e0.mod,S.kind,rfl,rfl,Nat.le_refl _,fun y z c h1 h2=>?_,fun y hy=>?_,fun y c _ h=>?_,fun _=>hd,Around.frames_deeper e0.frames,.inr ⟨rfl,rfl⟩,fun b z=>absurd z (noA b),e0.bs,e0.bsz,fun b _ _=>noA b,fun b z=>absurd z (noA b),e0.funs,e0.frf⟩,
  rfl,e0.bare,Un.kept hk,⟨_,x.toInCall.ns,fun i y v h1 h2 h3=>?_⟩,fun y c h=>⟨_,x.cell y c h⟩,e0.hok.fresh (Nat.le_refl _),fun y c h=>?_,fun p hp=>absurd (show p∈([]:List (Addr × Obj)) from hp) (by simp),e0.hok.kept hk,?_⟩
 ·exact name_of_addr x.apart (PySem.mem_of_lookup h1) (PySem.mem_of_lookup h2)
 ·have hy:scope.names.lookup y=some .cell∨scope.names.lookup y=some .free:=hy
  rcases hy with hy | hy
  ·exact cell_has hy
  ·exact absurd rfl (S.nofree _ (PySem.mem_of_lookup hy))
 ·exact Nat.le_of_lt (x.above y c (PySem.mem_of_lookup h))
 ·have hi:i < vs.length:=by
   unfold start at h2
   by_cases hi:i < vs.length
   ·exact hi
   ·rw [List.getElem?_append_right (by simpa using hi)] at h2
    rw [List.getElem?_replicate] at h2
    split at h2 <;> cases h2
  have ha:vs[i]?=some v:=by
   unfold start at h2
   rw [List.getElem?_append_left (by simpa using hi),List.getElem?_map] at h2
   cases e:vs[i]? with
   | none=>rw [e] at h2; cases h2
   | some a=>rw [e] at h2; cases h2; rfl
  obtain ⟨u,hu,rv⟩:=r.get ha
  have hp:ps[i]?=some y:=by
   rw [← S.pre,List.getElem?_take_of_lt (by omega)]; exact h1
  have ndP:ps.Nodup:=by rw [← S.pre]; exact S.nd.sublist (List.take_sublist _ _)
  refine ⟨u,rv,?_⟩
  rcases S.par y (List.mem_of_getElem? hp) with k | k
  ·exact .inl ⟨k,Zjq ndP hp hu k⟩
  ·obtain ⟨c,e⟩:=cell_has (n:=s.heap.objs.size+1) k
   refine .inr ⟨.inl k,c,e,?_⟩
   have q:=x.cell y c e
   rw [Zjs ndP hp hu (by show scope.names.lookup y≠_; rw [k]; decide)] at q
   exact q
 ·exact e0.hok.fresh (Nat.le_of_lt (x.above y c (PySem.mem_of_lookup h)))
 ·unfold start
  show _=N.length
  rw [List.length_append,List.length_map,List.length_replicate]
  omega
theorem fn_of {CX:CXT} {P:Program} {w:World} {K:PySem.W.Frag} {mg:Str→Option Value} {base:Heap} {k:Nat} {f:Addr} {name qual:Str} {params:Arguments} {body:List Stmt} {scope:Scope} {dV kV doc pm cdv ct oc:Value} {an od:Option Addr}
  {osl:Array (Option Value)} {N ps:List Str} {sp:Sp} (lk:K.lookup f=some ⟨oc,od,.func (PySem.W.fnOf name qual params body scope dV kV doc pm an cdv ct),osl⟩) (hcd:PySem.W.codeIn K cdv qual=true) (S:Zap N ps scope)
  (len:∀ vs H Q E,sp vs H Q E→vs.length=ps.length)
  (hbody:∀ (A:Around) (outer:List Env) (s:Shared) (H:Hp) (vs:List V) (Q:VK) (E:XK),Room k (A.deeper (envOfC qual scope s.heap.objs.size f cdv))→sp vs H Q E →
   ∃ t,PSs (cxOf CX P w K mg base N qual scope f cdv A outer s H E) body t∧t { nx:=fun _ H'=>Q .non H',rt:=Q } (start N vs) H) :
  FnOk P w K mg base CX (k+1) f (PySem.W.fnOf name qual params body scope dV kV doc pm an cdv ct) ps sp:=by
 refine ⟨len,fun A outer s H args us vs Q E hr e0 hb r hsp=>?_⟩
 have hl:=len _ _ _ _ hsp
 have KX:K.In s.heap:=e0.mod.kin.keeps fun b o e=>(e0.bs b o e).1
 have lim:s.heap.NoLimit:=e0.mod.nolimit.keeps fun b o e=>(e0.bs b o e).1
 have hkind:∀ y∈ps.zip us,scope.names.lookup y.1=some .local∨(scope.names.lookup y.1=some .cell∧((cellsFrom (s.heap.objs.size+1) scope.names []).lookup y.1).isSome=true):=fun ⟨n,v⟩ hy=>by
  rcases S.par n (List.of_mem_zip hy).1 with q | q
  ·exact .inl q
  ·exact .inr ⟨q,PySem.W.cellsFrom_some _ _ _ (.inl q)⟩
 refine codeAny_call_function hr.depth (KX _ _ lk) rfl S.co S.gen rfl (PySem.W.codeRec_of KX hcd) (hb _ _ _ _ ?_)
 refine wpAny_newFunctionEnv_cells S.kind hkind fun env he s1 x=>?_
 subst he
 refine ⟨lim.keeps x.toInCall.keep,codeAny_func ?_⟩
 obtain ⟨t,ht,hq⟩:=hbody A outer s H vs Q E (hr.deeper _) hsp
 have I:Inv (cxOf CX P w K mg base N qual scope f cdv A outer s H E) [] (start N vs) H s1:=inv_start S hr.hd e0 hl r x
 refine wpAny_mono (ht [] s1 (start N vs) H _ I hq) (fun fl s' hs=>?_) fun e s' hs=>hs
 have fin:∀ {σ':St} {H':Hp} {v:V} {u:Value},Inv (cxOf CX P w K mg base N qual scope f cdv A outer s H E) [] σ' H' s'→RelV v u→Q v H'→CE outer P w H s Q u s' :=
  fun {σ' H' v u} J rv q=>⟨v,H',J.os,J.bare,J.base,J.hok,rv,q⟩
 cases fl with
 | ret u =>
  obtain ⟨v,σ',H',J,rv,q⟩:=hs
  exact fin J rv q
 | next =>
  obtain ⟨σ',H',J,q⟩:=hs
  exact fin (v:=V.non) (u:=Value.none) J rfl q
 | brk =>
  obtain ⟨_,_,_,q⟩:=hs
  exact False.elim q
 | cont =>
  obtain ⟨_,_,_,q⟩:=hs
  exact False.elim q
end L2
namespace L2
open PySem PySem.Spec PyProof.Rows
section
variable {X:Cx} {x:Str} {p pos:Pos} {e:Expr} {es:List Expr} {t:TA} {id T:String} {r:List V→Hp→VK→Prop}
def tCB (r:List V→Hp→VK→Prop) (t:TA):TE:=fun σ H Q=>t σ H fun vs H1=>r vs H1 Q
theorem Za2 (hc:CallR X (.builtin id) r) (hg:Gl X x) (hm:X.mg x=none) (hv:bootBuiltins x=some (.builtin id)) (ha:PA X (e :: es) t) (hn:x≠"__name__":=by decide) (hdb:(x == ("__debug__":Str))=false:=by decide)
  (he:starEach (e :: es) X.env=(false,eval e X.env) :: starEach es X.env:=by rfl) (hpl:(backTo pos (starEach es X.env)).any (·.1)=false:=by rfl):PE X (.Call (.Name x p) (e :: es) [] pos) (tCB r t):=by
 intro pins s σ H Q I h
 refine wpAny_Call_Name_kw (Ze3 I hg hm hv ?_ hn hdb)
 exact PyProof.Rows.callWith_builtin1 (thn (ha pos pins s σ H _ I h) fun us s1 ⟨vs,H1,I1,r1,q1⟩=>hc pins s1 σ H1 vs us Q I1 r1 q1) he hpl
theorem Zee (hc:CallR X (.type T) r) (hg:Gl X x) (hm:X.mg x=none) (hv:bootBuiltins x=some (.type T)) (ha:PA X (e :: es) t) (hn:x≠"__name__":=by decide) (hdb:(x == ("__debug__":Str))=false:=by decide)
  (he:starEach (e :: es) X.env=(false,eval e X.env) :: starEach es X.env:=by rfl) (hpl:(backTo pos (starEach es X.env)).any (·.1)=false:=by rfl):PE X (.Call (.Name x p) (e :: es) [] pos) (tCB r t):=by
 intro pins s σ H Q I h
 refine wpAny_Call_Name_kw (Ze3 I hg hm hv ?_ hn hdb)
 exact PyProof.Rows.callWith_type1 (thn (ha pos pins s σ H _ I h) fun us s1 ⟨vs,H1,I1,r1,q1⟩=>hc pins s1 σ H1 vs us Q I1 r1 q1) he hpl
end
end L2
namespace HT
open PySem PyProof.Rows
section
open PySem.SeqAt
open PySem.AutoSeq1 (wpAny_loadPart')
open PySem.MeetsSeq PySem.MeetsSeq2 PySem.MeetsSeq3
end
section
variable {prog:Program} {w:World} {A:Around} {E:Value→Shared→Prop} {s:Shared}
def sIx (n d:Nat):Option Int→Nat
 | none=>d
 | some v=>if v < 0 then (v+(n:Int)).toNat else min v.toNat n
theorem sIx_le (n d:Nat) (hd:d≤n) (o:Option Int):sIx n d o≤n:=by
 cases o with
 | none=>exact hd
 | some v =>
  show (if v < 0 then (v+(n:Int)).toNat else min v.toNat n)≤n
  by_cases hv:v < 0
  ·rw [if_pos hv]; omega
  ·rw [if_neg hv]; exact Nat.min_le_right _ _
theorem clip_eq (v:Int) (n d:Nat):(if v < 0 then max (v+(n:Int)) 0 else min v (n:Int))=((sIx n d (some v):Nat):Int):=by
 show (if v < 0 then max (v+(n:Int)) 0 else min v (n:Int))=(((if v < 0 then (v+(n:Int)).toNat else min v.toNat n):Nat):Int)
 by_cases hv:v < 0
 ·simp only [if_pos hv]; omega
 ·simp only [if_neg hv]; omega
theorem adjust_gen (lo hi:Option Int) (n:Nat):Builtin.Slice.sliceAdjust lo hi 1 (n:Int)=(((sIx n 0 lo:Nat):Int),((sIx n n hi:Nat):Int)):=by
 have h1:¬ ((1:Int) < 0):=by omega
 unfold Builtin.Slice.sliceAdjust
 simp only [h1,if_false]
 refine Prod.ext ?_ ?_
 ·cases lo with
  | none=>rfl
  | some v=>exact clip_eq v n 0
 ·cases hi with
  | none=>rfl
  | some v=>exact clip_eq v n n
theorem places_gen (i j:Nat):Builtin.Slice.slicePlaces (i:Int) (j:Int) 1=j - i:=by
 unfold Builtin.Slice.slicePlaces
 have h1:(1:Int) > 0:=by omega
 simp only [h1,if_true,Int.ediv_one]
 split <;> omega
theorem Zgz {v:Value} {o:Option Int} {Q:Option Int→Shared→Prop} (p:IsPart v o) (h:Q o s):wpAny (model prog w) A (Builtin.Slice.slicePartIndex v) Q E s:=by
 cases p with
 | none=>exact slicePart_none h
 | int i t=>exact slicePart_int h
theorem Ze5 {sl:Addr} {vl vu:Value} {lo hi:Option Int} {n:Nat} {Q:Int × Int × Nat→Shared→Prop} (hs:s.heap.IsSliceOf sl vl vu .none) (pl:IsPart vl lo) (pu:IsPart vu hi)
  (h:Q (((sIx n 0 lo:Nat):Int),1,sIx n n hi - sIx n 0 lo) s):wpAny (model prog w) A (Builtin.Slice.sliceApplied (.ref sl) (pure (n:Int))) Q E s:=by
 obtain ⟨os,hos,hcs,hds⟩:=id hs
 unfold Builtin.Slice.sliceApplied Builtin.Slice.sliceFields
 refine wpAny_bind (wpAny_bind (wpAny_field hos hds (x:=vl) rfl (wpAny_bind (wpAny_field hos hds (x:=vu) rfl (wpAny_bind (wpAny_field hos hds (x:=.none) rfl (wpAny_pure ?_)))))))
 refine wpAny_bind (slicePart_none ?_)
 show wpAny _ _ (if ((1:Int) == 0)=true then _ else _) _ _ s
 rw [if_neg (by decide)]
 refine wpAny_bind (Zgz pl (wpAny_bind (Zgz pu (wpAny_bind (wpAny_pure ?_)))))
 show wpAny _ _ (match Builtin.Slice.sliceAdjust lo hi 1 (n:Int) with | (lo,hi)=>pure (lo,(1:Int),Builtin.Slice.slicePlaces lo hi 1)) _ _ s
 rw [adjust_gen lo hi n]
 show wpAny _ _ (pure (((sIx n 0 lo:Nat):Int),(1:Int),Builtin.Slice.slicePlaces ((sIx n 0 lo:Nat):Int) ((sIx n n hi:Nat):Int) 1)) _ _ s
 rw [places_gen]
 exact wpAny_pure h
theorem pick_gen (xs:Array Value) (i k:Nat):((List.range k).filterMap fun (m:Nat)=>xs[((i:Int)+(m:Int) * 1).toNat]?).toArray=((xs.toList.drop i).take k).toArray:=by
 have e:(fun (m:Nat)=>xs[((i:Int)+(m:Int) * 1).toNat]?)=fun m=>xs[i+m]?:=by
  funext m
  have:((i:Int)+(m:Int) * 1).toNat=i+m:=by omega
  rw [this]
 rw [e]
 have:=pick_run xs i k
 rw [List.filterMap_map] at this
 have e2:((fun x=>xs[x]?)∘fun x=>i+x)=fun m=>xs[i+m]?:=rfl
 rw [e2] at this
 rw [this]
theorem getItem_tuple_cut {t sl:Addr} {items:Array Value} {vl vu:Value} {lo hi:Option Int} {Q:Value→Shared→Prop} (ht:IsTup s.heap t items) (hs:s.heap.IsSliceOf sl vl vu .none) (pl:IsPart vl lo) (pu:IsPart vu hi)
  (hw:¬ (sIx items.size 0 lo=0∧sIx items.size items.size hi=items.size))
  (h:Q (.ref s.heap.objs.size) { s with heap:=s.heap.push { cls:=.type "tuple",data:=.seq ((items.toList.drop (sIx items.size 0 lo)).take (sIx items.size items.size hi - sIx items.size 0 lo)).toArray } })
  (hsz:items.size≤sizeLine):wpAny (model prog w) A (getItem (.ref t) (.ref sl)) Q E s:=by
 have htake:sizeOk (.seq ((items.toList.drop (sIx items.size 0 lo)).take (sIx items.size items.size hi - sIx items.size 0 lo)).toArray):=by
  show ((items.toList.drop (sIx items.size 0 lo)).take (sIx items.size items.size hi - sIx items.size 0 lo)).toArray.size≤sizeLine
  rw [List.size_toArray,List.length_take,List.length_drop,Array.length_toList]
  omega
 have hj:sIx items.size items.size hi≤items.size:=sIx_le _ _ (Nat.le_refl _) hi
 obtain ⟨os,hos,hcs,hds⟩:=id hs
 have hTs:s.TypeIs (.ref sl) "slice":=⟨os,hos,hcs⟩
 unfold getItem
 try with_reducible refine wpAny_holding ?_
 first | refine wpAny_bind (wpAny_pure ?_) | skip
 refine wpAny_bind (wpAny_sequenceKey ht.typeIs (by decide) ?_)
 refine wpAny_bind (wpAny_callSpecial?_slot (name:=Str.ofString "__getitem__") ht.typeIs PyProof.Rows.slot_tuple_getitem
  (wpAny_call_entry PyProof.Rows.slot_tuple_getitem ht.typeIs entry_tuple_getitem ?_ (args_tuple_getitem _ _)))
 show wpAny _ _ (Builtin.Tuple.tupleItemsOf (.ref t) >>= _) _ _ s
 refine wpAny_bind (tupleItemsOf_ ht ?_)
 refine wpAny_bind (wpAny_typeOf hTs ?_)
 rw [if_pos (by decide)]
 refine wpAny_bind (Ze5 hs pl pu ?_)
 have hno:¬ ((((sIx items.size 0 lo:Nat):Int) == 0 && (1:Int) == 1 && (sIx items.size items.size hi - sIx items.size 0 lo) == items.size)=true):=by
  intro q
  rw [Bool.and_eq_true,Bool.and_eq_true] at q
  have q1:((sIx items.size 0 lo:Nat):Int)=0:=eq_of_beq q.1.1
  have q2:sIx items.size items.size hi - sIx items.size 0 lo=items.size:=eq_of_beq q.2
  exact hw ⟨by omega,by omega⟩
 show wpAny _ _ (if (((sIx items.size 0 lo:Nat):Int) == 0 && (1:Int) == 1 && (sIx items.size items.size hi - sIx items.size 0 lo) == items.size)=true then _ else _) _ _ s
 rw [if_neg hno,pick_gen]
 first
  | exact wpAny_bind (m:=Builtin.Tuple.tupleExact _) (wpAny_newObj_type (wpAny_pure ⟨_,rfl,wpAny_pure h⟩) htake)
  | exact wpAny_bind (m:=Builtin.Tuple.tupleExact _) (wpAny_newObj_type (wpAny_bind (wpAny_pure (wpAny_pure ⟨_,rfl,wpAny_pure h⟩))) htake)
  | exact wpAny_bind (wpAny_bind (m:=Builtin.Tuple.tupleExact _) (wpAny_newObj_type (wpAny_pure (wpAny_pure ⟨_,rfl,wpAny_pure h⟩)) htake))
  | exact wpAny_bind (wpAny_bind (m:=Builtin.Tuple.tupleExact _) (wpAny_newObj_type (wpAny_pure ⟨_,rfl,wpAny_pure h⟩) htake))
end
end HT
namespace L2
open PySem PySem.Spec PyProof.Rows
abbrev TO:=St→Hp→(Option Int→Hp→Prop)→Prop
def PO (X:Cx) (e:Option Expr) (t:TO):Prop :=
 ∀ (pins:List (Addr × Obj)) (s:Shared) (σ:St) (H:Hp) (Q:Option Int→Hp→Prop),Inv X pins σ H s→t σ H Q →
  wpAny (model X.prog X.w) X.A (evalPart e X.env) (fun u s'=>∃ o H',Inv X pins σ H' s'∧IsPart u o∧Q o H') X.xe s
def tNoPart:TO:=fun _ H Q=>Q none H
def tPart (t:TE):TO:=fun σ H Q=>t σ H fun x H1=>∃ i,x=.int i∧Q (some i) H1
theorem Zew {ns:List Int}:∀ {us:List Value},Vals (ns.map V.int) us→IntsAre us ns:=by
 induction ns with
 | nil=>intro us r; rw [List.map_nil] at r; cases r; exact .nil
 | cons n ns ih =>
  intro us r
  rw [List.map_cons] at r
  cases r with
  | cons r1 r2 =>
   obtain ⟨t,e⟩:=r1
   subst e
   exact .cons n t (ih r2)
section
variable {X:Cx} {e:Expr} {te:TE} {lo hi:Option Expr} {tl th:TO} {pos p2:Pos}
theorem Zkh:PO X none tNoPart:=by
 intro pins s σ H Q I h
 rw [evalPart_none]
 exact wpAny_pure ⟨none,H,I,.none,h⟩
theorem Zd2 (h:PE X e te):PO X (some e) (tPart te):=by
 intro pins s σ H Q I hw
 rw [evalPart_some]
 refine thn (h pins s σ H _ I hw) fun u s1 ⟨x,H1,I1,r1,q1⟩=>?_
 obtain ⟨i,rfl,q⟩:=q1
 obtain ⟨t,rfl⟩:=r1
 exact ⟨some i,H1,I1,.int i t,q⟩
def SlR (X:Cx) (r:V→Option Int→Option Int→Hp→VK→Prop):Prop :=
 ∀ (pins:List (Addr × Obj)) (s:Shared) (σ:St) (H:Hp) (x:V) (v vl vu:Value) (lo hi:Option Int) (sl:Addr) (Q:VK),Inv X pins σ H s→RelV x v→s.heap.IsSliceOf sl vl vu .none→IsPart vl lo→IsPart vu hi→r x lo hi H Q →
  ∃ T id,typeLookup (.type T) "__getitem__"=pure (some (.builtin id))∧s.TypeIs v T∧wpAny (model X.prog X.w) X.A (getItem v (.ref sl)) (EP X pins σ Q) X.xe s
def tSl (r:V→Option Int→Option Int→Hp→VK→Prop) (te:TE) (tl th:TO):TE:=fun σ H Q=>te σ H fun x H1=>tl σ H1 fun l H2=>th σ H2 fun u H3=>r x l u H3 Q
theorem Zec {r:V→Option Int→Option Int→Hp→VK→Prop} (hr:SlR X r) (he:PE X e te) (hl:PO X lo tl) (hu:PO X hi th):PE X (.Subscript e (.Slice lo hi none p2) pos) (tSl r te tl th):=by
 intro pins s σ H Q I h
 refine Subscript_ (thn (he pins s σ H _ I h) fun v s1 ⟨x,H1,I1,r1,q1⟩=>?_)
 refine wpAny_Slice (thn (hl pins s1 σ H1 _ I1 q1) fun vl s2 ⟨l,H2,I2,pl,q2⟩=>thn (hu pins s2 σ H2 _ I2 q2) fun vu s3 ⟨u,H3,I3,pu,q3⟩=>?_)
 rw [evalPart_none]
 refine wpAny_pure ?_
 have I4:Inv X pins σ H3 { s3 with heap:=s3.heap.push { cls:=.type "slice",data:=.fields #[vl,vu,.none] } }:=I3.kept (t':=s3.toks) fun b ob q=>Heap.get?_push_of_some _ q
 obtain ⟨T,id,hT,ht,hg⟩:=hr pins { s3 with heap:=s3.heap.push { cls:=.type "slice",data:=.fields #[vl,vu,.none] } } σ H3 x v vl vu l u s3.heap.objs.size Q I4 r1 (Heap.IsSliceOf.new ..) pl pu q3
 show wpAny (model X.prog X.w) X.A (subscriptTail e (.Slice lo hi none p2) v (.ref s3.heap.objs.size)) (EP X pins σ Q) X.xe { s3 with heap:=s3.heap.push { cls:=.type "slice",data:=.fields #[vl,vu,.none] } }
 exact tail_any (ops:=[.ref s3.heap.objs.size,v]) ht hT hg (by with_unfolding_all rfl)
def cutV (xs:List V) (lo hi:Option Int):List V:=(xs.drop (HT.sIx xs.length 0 lo)).take (HT.sIx xs.length xs.length hi - HT.sIx xs.length 0 lo)
theorem Zf9 (xs:List V) (lo hi:Option Int):(cutV xs lo hi).length≤xs.length:=by
 unfold cutV
 rw [List.length_take,List.length_drop]
 omega
def rSlT (K:PySem.W.Frag):V→Option Int→Option Int→Hp→VK→Prop:=fun x lo hi H Q=>∃ a xs,x=.ref a∧SqT K H a xs ∧
 ¬ (HT.sIx xs.length 0 lo=0∧HT.sIx xs.length xs.length hi=xs.length)∧∀ p,H p=none→Q (.ref p) (upd H p (.tup (cutV xs lo hi)))
theorem sl_tup:SlR X (rSlT X.K):=by
 intro pins s σ H x v vl vu lo hi sl Q I rx hs pl pu h
 obtain ⟨a,xs,rfl,hx,hw,q⟩:=h
 cases rx
 obtain ⟨its,r,ht,hz⟩:=I.tuple hx
 have hlen:its.toArray.size=xs.length:=by rw [List.size_toArray]; exact r.length.symm
 refine ⟨"tuple",_,PyProof.Rows.slot_tuple_getitem.lookup,ht.typeIs,?_⟩
 refine HT.getItem_tuple_cut ht hs pl pu (by rw [hlen]; exact hw) ?_ (by rw [hlen]; exact hz)
 rw [hlen]
 refine ⟨.ref s.heap.objs.size,_,I.laid (t':=s.toks) (o:=.tup (cutV xs lo hi)) (fun b ob q=>Heap.get?_push_of_some _ q) (Nat.le_refl _) ?_,rfl,q _ (I.hok.fresh (Nat.le_refl _))⟩
 exact ⟨Nat.le_trans (Zf9 xs lo hi) hz,_,(r.drop (HT.sIx xs.length 0 lo)).take (HT.sIx xs.length xs.length hi - HT.sIx xs.length 0 lo),IsTup.new _ _⟩
end
end L2
namespace L2
open PySem PySem.Spec PyProof.Rows
def ixN (n:Nat) (i:Int):Option Nat:=if 0≤i then (if i < n then some i.toNat else none) else if -(n:Int)≤i then some (i+n).toNat else none
def atI {α:Type} (xs:List α) (i:Int):Option α:=(ixN xs.length i).bind fun j=>xs[j]?
theorem ixN_seq {n:Nat} {i:Int} {j:Nat} (h:ixN n i=some j):seqIndex? i n=some j∧j < n∧-(n:Int)≤i∧i < n:=by
 unfold ixN at h
 by_cases h0:0≤i
 ·rw [if_pos h0] at h
  by_cases h1:i < n
  ·rw [if_pos h1] at h
   have e:i.toNat=j:=Option.some.inj h
   exact ⟨by rw [seqIndex_of h0 h1,e],by omega,by omega,h1⟩
  ·rw [if_neg h1] at h; cases h
 ·rw [if_neg h0] at h
  by_cases h1:-(n:Int)≤i
  ·rw [if_pos h1] at h
   have e:(i+n).toNat=j:=Option.some.inj h
   exact ⟨by rw [seqIndex_neg (by omega) h1,e],by omega,h1,by omega⟩
  ·rw [if_neg h1] at h; cases h
theorem atI_get {α:Type} {xs:List α} {i:Int} {v:α} (h:atI xs i=some v):∃ j,seqIndex? i xs.length=some j∧xs[j]?=some v∧j < xs.length∧-(xs.length:Int)≤i∧i < xs.length:=by
 unfold atI at h
 cases e:ixN xs.length i with
 | none=>rw [e] at h; cases h
 | some j =>
  rw [e] at h
  obtain ⟨h1,h2,h3,h4⟩:=ixN_seq e
  exact ⟨j,h1,h,h2,h3,h4⟩
theorem Zk6 {α:Type} {xs:List α} {j:Nat} {v:α} (h:xs[j]?=some v):atI xs (j:Int)=some v:=by
 have hj:j < xs.length:=(List.getElem?_eq_some_iff.mp h).1
 have e:ixN xs.length (j:Int)=some j:=by
  unfold ixN
  rw [if_pos (by omega),if_pos (by omega)]; simp
 unfold atI; rw [e]; exact h
def PlainIx (b:Expr):Prop:=∀ o i,subscripted b false o i=operate [o,i] (getItem o i)
def IxR (X:Cx) (r:R2):Prop :=
 ∀ (value slice:Expr) (pins:List (Addr × Obj)) (s:Shared) (σ:St) (H:Hp) (x y:V) (v u:Value) (Q:VK),Inv X pins σ H s→RelV x v→RelV y u→r x y H Q →
  subscripted slice false v u=operate [v,u] (getItem v u)→wpAny (model X.prog X.w) X.A (subscriptTail value slice v u) (EP X pins σ Q) X.xe s
def MtR (X:Cx) (id:String) (r:V→List V→Hp→VK→Prop):Prop :=
 ∀ (pins:List (Addr × Obj)) (s:Shared) (σ:St) (H:Hp) (x:V) (xs:List V) (v:Value) (us:List Value) (Q:VK),Inv X pins σ H s→RelV x v→Vals xs us→r x xs H Q →
  wpAny (model X.prog X.w) X.A (call (.builtin id) (v :: us)) (EP X pins σ Q) X.xe s
section
variable {X:Cx} {a b:Expr} {ta tb:TE} {pos:Pos}
theorem Zao {r:R2} (hr:IxR X r) (ha:PE X a ta) (hb:PE X b tb) (hs:PlainIx b):PE X (.Subscript a b pos) (tOp r ta tb):=by
 intro pins s σ H Q I h
 exact Subscript_ (binT ha hb I h fun v u s2 x y H2 I2 rx ry q=>hr a b pins s2 σ H2 x y v u Q I2 rx ry q (hs _ _))
def rIxL (K:PySem.W.Frag):R2:=fun x y H Q=>∃ p xs i v,x=.ref p∧y=.int i∧SqL K H p xs∧atI xs i=some v∧Q v H
def rIxT (K:PySem.W.Frag):R2:=fun x y H Q=>∃ p xs i v,x=.ref p∧y=.int i∧SqT K H p xs∧atI xs i=some v∧Q v H
theorem Za9:IxR X (rIxL X.K):=by
 intro value slice pins s σ H x y v u Q I rx ry h hs
 obtain ⟨p,xs,i,z,rfl,rfl,hq,he,q⟩:=h
 cases rx
 obtain ⟨t,rfl⟩:=ry
 obtain ⟨its,r,pl,hz⟩:=I.list hq
 obtain ⟨j,h1,h2,h3,h4,h5⟩:=atI_get he
 obtain ⟨w,ew,rw'⟩:=r.get h2
 have hl:=r.length
 have hn:=line63
 have fin:EP X pins σ Q w s:=⟨z,H,I,rw',q⟩
 by_cases h0:0≤i
 ·have hj:i.toNat=j:=by
   rw [seqIndex_of h0 h5] at h1
   exact Option.some.inj h1
  exact item_listR pl.isList h0 (by omega) (by rw [hj]; simpa using ew) fin hs
 ·have hj:(i+(its.toArray.size:Int)).toNat=j:=by
   rw [seqIndex_neg (by omega) h4] at h1
   rw [List.size_toArray,← hl]
   exact Option.some.inj h1
  exact subscriptTail_builtinR (x:=w) pl.isList.typeIs slot_list_getitem.lookup
   (wpAny_getItem_list_neg (Q:=fun r s'=>r=w∧EP X pins σ Q r s') pl.isList (by omega) (by rw [List.size_toArray] <;> omega) (by omega) (by rw [hj]; simpa using ew) ⟨rfl,fin⟩) hs
theorem Zal:IxR X (rIxT X.K):=by
 intro value slice pins s σ H x y v u Q I rx ry h hs
 obtain ⟨p,xs,i,z,rfl,rfl,hq,he,q⟩:=h
 cases rx
 obtain ⟨t,rfl⟩:=ry
 obtain ⟨its,r,pl,hz⟩:=I.tuple hq
 obtain ⟨j,h1,h2,h3,h4,h5⟩:=atI_get he
 obtain ⟨w,ew,rw'⟩:=r.get h2
 have hl:=r.length
 have hn:=line63
 have fin:EP X pins σ Q w s:=⟨z,H,I,rw',q⟩
 exact subscriptTail_builtinR (x:=w) pl.typeIs slot_tuple_getitem.lookup
  (getItem_tuple (j:=j) (Q:=fun r s'=>r=w∧EP X pins σ Q r s') pl (by omega) (by omega) (by rw [List.size_toArray,← hl]; exact h1) (by simpa using ew) ⟨rfl,fin⟩) hs
theorem Ziv (lo hi:Option Int) (n:Nat):(sliceBounds lo hi none n).1=((HT.sIx n 0 lo:Nat):Int)∧(sliceBounds lo hi none n).2.1=((HT.sIx n n hi:Nat):Int)∧(sliceBounds lo hi none n).2.2=1:=by
 refine ⟨?_,?_,rfl⟩
 ·cases lo with
  | none=>simp [sliceBounds,HT.sIx]
  | some i =>
   simp only [sliceBounds,HT.sIx,Option.getD_none,show (1:Int) > 0 by decide,if_true]
   by_cases h:i < 0
   ·simp only [h,if_true] <;> omega
   ·simp only [h,if_false] <;> omega
 ·cases hi with
  | none=>simp [sliceBounds,HT.sIx]
  | some i =>
   simp only [sliceBounds,HT.sIx,Option.getD_none,show (1:Int) > 0 by decide,if_true]
   by_cases h:i < 0
   ·simp only [h,if_true] <;> omega
   ·simp only [h,if_false] <;> omega
theorem Zhp (its:List Value) (lo hi:Option Int):slicePick its.toArray lo hi none=((its.drop (HT.sIx its.length 0 lo)).take (HT.sIx its.length its.length hi - HT.sIx its.length 0 lo)).toArray:=by
 obtain ⟨h1,h2,h3⟩:=Ziv lo hi its.toArray.size
 unfold slicePick
 rw [h1,h2,h3]
 simp only [sliceRange_one,pick_run,List.size_toArray] <;> rfl
def rSlL (K:PySem.W.Frag):V→Option Int→Option Int→Hp→VK→Prop:=fun x lo hi H Q=>∃ a xs,x=.ref a∧SqL K H a xs∧∀ p,H p=none→Q (.ref p) (upd H p (.lst (cutV xs lo hi)))
theorem Zkf:SlR X (rSlL X.K):=by
 intro pins s σ H x v vl vu lo hi sl Q I rx hs pl pu h
 obtain ⟨a,xs,rfl,hx,q⟩:=h
 cases rx
 obtain ⟨its,r,ht,hz⟩:=I.list hx
 have hlen:=r.length
 refine ⟨"list",_,slot_list_getitem.lookup,ht.isList.typeIs,?_⟩
 refine wpAny_getItem_list_slice ht.isList hs pl pu .none (by simp) ?_ (by rw [List.size_toArray] <;> omega)
 rw [Zhp,← hlen]
 refine ⟨.ref s.heap.objs.size,_,I.laid (t':=s.toks) (o:=.lst (cutV xs lo hi)) (fun b ob q=>Heap.get?_push_of_some _ q) (Nat.le_refl _) ?_,rfl,q _ (I.hok.fresh (Nat.le_refl _))⟩
 exact ⟨Nat.le_trans (Zf9 xs lo hi) hz,_,0,(r.drop (HT.sIx xs.length 0 lo)).take (HT.sIx xs.length xs.length hi - HT.sIx xs.length 0 lo),Heap.get?_push_size _ rfl⟩
def flatV:V→Bool
 | .non=>true
 | .bl _=>true
 | .int _=>true
 | .str _=>true
 | _=>false
def eqV:V→V→Bool
 | .non,.non=>true
 | .bl a,.bl b=>a == b
 | .bl a,.int b=>(if a then 1 else 0) == b
 | .int a,.bl b=>a == (if b then 1 else 0)
 | .int a,.int b=>a == b
 | .str a,.str b=>a == b
 | _,_=>false
theorem eqAt_V {A:Around} {s:Shared} {y x:V} {u v:Value} (ry:RelV y u) (rx:RelV x v) (fy:flatV y=true) (fx:flatV x=true):SeqAt.EqAt A s u v (eqV y x):=by
 cases y with
 | non =>
  cases ry
  cases x with
  | non=>cases rx; exact SeqAt.EqAt.same _
  | bl b=>cases rx; exact SeqAt.EqAt.none_bool b
  | int b=>obtain ⟨t,rfl⟩:=rx; exact SeqAt.EqAt.none_int b t
  | str b=>obtain ⟨t,rfl⟩:=rx; exact SeqAt.EqAt.none_str b t
  | _=>exact absurd (show false=true from fx) Bool.false_ne_true
 | bl a =>
  cases ry
  cases x with
  | non=>cases rx; exact SeqAt.EqAt.bool_none a
  | bl b=>cases rx; exact SeqAt.EqAt.bool_bool a b
  | int b=>obtain ⟨t,rfl⟩:=rx; exact SeqAt.EqAt.bool_int a b t
  | str b=>obtain ⟨t,rfl⟩:=rx; exact SeqAt.EqAt.bool_str a b t
  | _=>exact absurd (show false=true from fx) Bool.false_ne_true
 | int a =>
  obtain ⟨t',rfl⟩:=ry
  cases x with
  | non=>cases rx; exact SeqAt.EqAt.int_none a t'
  | bl b=>cases rx; exact SeqAt.EqAt.int_bool a t' b
  | int b=>obtain ⟨t,rfl⟩:=rx; exact SeqAt.EqAt.int_int a t' b t
  | str b=>obtain ⟨t,rfl⟩:=rx; exact SeqAt.EqAt.int_str a t' b t
  | _=>exact absurd (show false=true from fx) Bool.false_ne_true
 | str a =>
  obtain ⟨t',rfl⟩:=ry
  cases x with
  | non=>cases rx; exact SeqAt.EqAt.str_none a t'
  | bl b=>cases rx; exact SeqAt.EqAt.str_bool a t' b
  | int b=>obtain ⟨t,rfl⟩:=rx; exact SeqAt.EqAt.str_int a t' b t
  | str b=>obtain ⟨t,rfl⟩:=rx; exact SeqAt.EqAt.str_str a t' b t
  | _=>exact absurd (show false=true from fx) Bool.false_ne_true
 | _=>exact absurd (show false=true from fy) Bool.false_ne_true
def eqU (x:V) (u:Value):Bool:=match u with
 | .none=>eqV .non x
 | .bool b=>eqV (.bl b) x
 | .int i _=>eqV (.int i) x
 | .str z _=>eqV (.str z) x
 | _=>false
theorem eqU_of {x y:V} {u:Value} (r:RelV y u) (f:flatV y=true):eqU x u=eqV y x:=by
 cases y with
 | non=>cases r; rfl
 | bl b=>cases r; rfl
 | int i=>obtain ⟨t,rfl⟩:=r; rfl
 | str z=>obtain ⟨t,rfl⟩:=r; rfl
 | _=>exact absurd (show false=true from f) Bool.false_ne_true
theorem Zk7 {x:V}:∀ {xs:List V} {us:List Value},Vals xs us→xs.all flatV=true→us.any (eqU x)=xs.any fun y=>eqV y x
 | _,_,.nil,_=>rfl
 | y :: xs,u :: us,.cons r t,f=>by
  rw [List.all_cons,Bool.and_eq_true] at f
  rw [List.any_cons,List.any_cons,eqU_of r f.1,Zk7 t f.2]
theorem Zhy {A:Around} {s:Shared} {x:V} {v:Value} (rx:RelV x v) (fx:flatV x=true):∀ {xs:List V} {us:List Value},Vals xs us→xs.all flatV=true→∀ u∈us,SeqAt.EqAt A s u v (eqU x u)
 | _,_,.nil,_=>fun u hu=>by cases hu
 | y :: xs,u :: us,.cons r t,f=>fun u' hu=>by
  rw [List.all_cons,Bool.and_eq_true] at f
  rcases List.mem_cons.mp hu with rfl | hu
  ·rw [eqU_of r f.1]; exact eqAt_V r rx f.1 fx
  ·exact Zhy rx fx t f.2 u' hu
def inV (x:V) (xs:List V):Bool:=xs.any fun y=>eqV y x
def rIn (K:PySem.W.Frag) (neg:Bool):R2:=fun x y H Q=>∃ p xs,y=.ref p∧(SqL K H p xs∨SqT K H p xs)∧flatV x=true∧xs.all flatV=true∧Q (.bl (if neg then !inV x xs else inV x xs)) H
theorem Zi3:OpR X (compareOp .In) (rIn X.K false):=by
 intro pins s σ H x y v u Q I rx ry h
 obtain ⟨p,xs,rfl,hq,fx,fs,q⟩:=h
 cases ry
 rcases hq with hq | hq
 ·obtain ⟨its,r,pl,hz⟩:=I.list hq
  refine SeqAt.in_listAt (eqU x) pl.isList (fun w hw=>Zhy rx fx r fs w (by simpa using hw)) ⟨.bl _,H,I,rfl,?_⟩
  rw [show its.toArray.any (eqU x)=its.any (eqU x) by simp,Zk7 r fs]
  exact q
 ·obtain ⟨its,r,pl,hz⟩:=I.tuple hq
  refine SeqAt.in_tupleAt (eqU x) pl (fun w hw=>Zhy rx fx r fs w (by simpa using hw)) ⟨.bl _,H,I,rfl,?_⟩
  rw [show its.toArray.any (eqU x)=its.any (eqU x) by simp,Zk7 r fs]
  exact q
theorem Zcf:CallR X (.builtin "len") (fun xs H Q=>∃ p ys,xs=[.ref p]∧(SqL X.K H p ys∨SqT X.K H p ys)∧Q (.int ys.length) H):=by
 intro pins s σ H xs us Q I r h
 obtain ⟨p,ys,rfl,hq,q⟩:=h
 obtain ⟨u,rfl,rx⟩:=vals1 r
 cases rx
 have hn:=line63
 rcases hq with hq | hq
 ·obtain ⟨its,r',pl,hz⟩:=I.list hq
  have hlen:=r'.length
  exact Calls.call_len_list pl.isList (by simp only [List.size_toArray] <;> omega) ⟨.int ys.length,H,I.tok _,⟨s.toks+1,by rw [List.size_toArray,hlen]⟩,q⟩
 ·obtain ⟨its,r',pl,hz⟩:=I.tuple hq
  have hlen:=r'.length
  exact len_tuple pl (by simp only [List.size_toArray] <;> omega) ⟨.int ys.length,H,I.tok _,⟨s.toks+1,by rw [List.size_toArray,hlen]⟩,q⟩
theorem Ze4:CallR X (.type "list") (fun xs H Q=>∃ p ys,xs=[.ref p]∧(SqL X.K H p ys∨SqT X.K H p ys)∧∀ l,H l=none→Q (.ref l) (upd H l (.lst ys))):=by
 intro pins s σ H xs us Q I r h
 obtain ⟨p,ys,rfl,hq,q⟩:=h
 obtain ⟨u,rfl,rx⟩:=vals1 r
 cases rx
 have fin:∀ (its:List Value),Vals ys its→ys.length≤sizeLine→∀ (h':Heap) (c':Nat),(∀ b o',s.heap.get? b=some o'→h'.get? b=some o') →
   h'.get? s.heap.objs.size=some { cls:=.type "list",dict:=none,data:=.seq its.toArray c',slots:=#[] }→EP X pins σ Q (.ref s.heap.objs.size) { s with heap:=h' }:=fun its r' hz h' c' kp e =>
  ⟨.ref s.heap.objs.size,_,I.laid (t':=s.toks) kp (Nat.le_refl _) (show ObjOk X.prog X.w _ h' _ (.lst ys) from ⟨hz,its,c',r',e⟩),rfl,q _ (I.hok.fresh (Nat.le_refl _))⟩
 rcases hq with hq | hq
 ·obtain ⟨its,r',pl,hz⟩:=I.list hq
  have hlen:=r'.length
  obtain ⟨o,ho,hc,n,hd⟩:=pl.isList
  exact call_list_seq p (.inl rfl) ho hc hd (fun h' c' kp e=>fin its r' hz h' c' kp e) (by simp only [List.size_toArray] <;> omega)
 ·obtain ⟨its,r',pl,hz⟩:=I.tuple hq
  have hlen:=r'.length
  obtain ⟨o,ho,hc,n,hd⟩:=pl
  exact call_list_seq p (.inr rfl) ho hc hd (fun h' c' kp e=>fin its r' hz h' c' kp e) (by simp only [List.size_toArray] <;> omega)
def tyV (K:PySem.W.Frag) (T:String) (x:V) (H:Hp):Prop:=match x with
 | .str _=>T="str"
 | .int _=>T="int"
 | .ref p=>(T="list"∧∃ xs,SqL K H p xs)∨(T="tuple"∧∃ o,K.lookup p=some o∧o.cls=.type "tuple"∧o.dict=none) ∨
   (T="dict"∧((∃ kvs,H p=some (.dK kvs))∨∃ kvs,H p=some (.dT kvs)))∨(T="set"∧∃ S n,H p=some (.set S n))
 | _=>False
theorem tyV_is {pins:List (Addr × Obj)} {σ:St} {H:Hp} {s:Shared} {T:String} {x:V} {v:Value} (I:Inv X pins σ H s) (r:RelV x v) (ty:tyV X.K T x H) :
  s.TypeIs v T∧∀ a,v=.ref a→∃ ob,s.heap.get? a=some ob∧ob.dict=none:=by
 cases x with
 | str z =>
  obtain ⟨t,rfl⟩:=r
  cases (show T="str" from ty)
  exact ⟨typeIs_str s z t,fun _ e=>nomatch e⟩
 | int i =>
  obtain ⟨t,rfl⟩:=r
  cases (show T="int" from ty)
  exact ⟨typeIs_int s i t,fun _ e=>nomatch e⟩
 | ref p =>
  cases r
  rcases ty with ⟨rfl,xs,hq⟩ | ⟨rfl,o,hk,hc,hd⟩ | ⟨rfl,hk⟩ | ⟨rfl,S,n,hk⟩
  ·obtain ⟨its,_,pl,_⟩:=I.list hq
   refine ⟨pl.isList.typeIs,fun a e=>?_⟩
   cases e
   obtain ⟨o,n,e,c,hd,_⟩:=pl
   exact ⟨o,e,hd⟩
  ·refine ⟨⟨o,I.kIn p o hk,hc⟩,fun a e=>?_⟩
   cases e
   exact ⟨o,I.kIn _ o hk,hd⟩
  ·have z:∃ o,s.heap.get? p=some o∧o.ExactDict:=by
    rcases hk with ⟨kvs,hk⟩ | ⟨kvs,hk⟩
    ·obtain ⟨_,_,_,_,o,_,_,e,ex,_⟩:=I.hok p _ hk
     exact ⟨o,e,ex⟩
    ·obtain ⟨_,_,_,_,o,_,_,e,ex,_⟩:=I.hok p _ hk
     exact ⟨o,e,ex⟩
   obtain ⟨o,e,ex⟩:=z
   refine ⟨⟨o,e,ex.1⟩,fun a e2=>?_⟩
   cases e2
   exact ⟨o,e,ex.2.1⟩
  ·obtain ⟨o,_,_,_,e,ex,_⟩:=I.hok p _ hk
   refine ⟨⟨o,e,ex.1⟩,fun a e2=>?_⟩
   cases e2
   exact ⟨o,e,ex.2.1⟩
 | _=>exact False.elim ty
def tBM0 (K:PySem.W.Frag) (T:String) (r:V→List V→Hp→VK→Prop) (to:TE):TE:=fun σ H Q=>to σ H fun x H1=>tyV K T x H1∧r x [] H1 Q
def tBM (K:PySem.W.Frag) (T:String) (r:V→List V→Hp→VK→Prop) (to:TE) (t:TA):TE:=fun σ H Q=>to σ H fun x H1=>tyV K T x H1∧t σ H1 fun xs H2=>r x xs H2 Q
variable {o e:Expr} {es:List Expr} {to:TE} {t:TA} {name:Str} {apos cpos:Pos} {T id:String} {r:V→List V→Hp→VK→Prop}
theorem Zi1 (pa:PlainAttrs T) (slot:Slot T name id) (hty:typeOf (.builtin id)=pure (.type "method_descriptor")) (hm:MtR X id r) (ho:PE X o to)
  (hbase:attributeBase o name X.env (eval o X.env)=eval o X.env:=by rfl) (hline:(apos.endLine == cpos.line)=true:=by rfl):PE X (.Call (.Attribute o name apos) [] [] cpos) (tBM0 X.K T r to):=by
 intro pins s σ H Q I h
 refine wpAny_Call_method0_late hbase hline (thn (ho pins s σ H _ I h) fun v s1 ⟨x,H1,I1,r1,ty,q1⟩=>?_)
 obtain ⟨h1,h2⟩:=tyV_is I1 r1 ty
 exact ⟨T,id,pa,slot,hty,h1,h2,Calls.callWith_builtin rfl (PySem.evalArgs_none (hm pins s1 σ H1 x [] v [] Q I1 r1 .nil q1))⟩
theorem Ze6 (pa:PlainAttrs T) (slot:Slot T name id) (hty:typeOf (.builtin id)=pure (.type "method_descriptor")) (hm:MtR X id r) (ho:PE X o to) (ha:PA X (e :: es) t)
  (hbase:attributeBase o name X.env (eval o X.env)=eval o X.env:=by rfl)
  (hfew:((backTo cpos (starEach (e :: es) X.env)).all (fun x=>!x.1) && (backToKw cpos (keywordEach [] X.env)).all (fun x=>x.1.isSome)
   && decide ((e :: es).length+([]:List Keyword).length+(if ([]:List Keyword).isEmpty then 0 else 1) < 30))=true:=by rfl)
  (hline:(apos.endLine == cpos.line)=true:=by rfl) (hs:starEach (e :: es) X.env=(false,eval e X.env) :: starEach es X.env:=by rfl) (hplain:(backTo cpos (starEach es X.env)).any (·.1)=false:=by rfl) :
  PE X (.Call (.Attribute o name apos) (e :: es) [] cpos) (tBM X.K T r to t):=by
 intro pins s σ H Q I h
 refine wpAny_Call_method_late hbase hfew hline rfl (thn (ho pins s σ H _ I h) fun v s1 ⟨x,H1,I1,r1,ty,q1⟩=>?_)
 obtain ⟨h1,h2⟩:=tyV_is I1 r1 ty
 refine ⟨T,id,pa,slot,hty,h1,h2,?_⟩
 have hA:=ha cpos pins s1 σ H1 _ I1 q1
 rw [hs] at hA ⊢
 refine Calls.callWith_builtin (by show (false || (backTo cpos (starEach es X.env)).any (·.1))=false; rw [hplain] <;> rfl) (Calls.evalArgs_plain ?_)
 exact thn hA fun us s2 ⟨vs,H2,I2,r2,q2⟩=>hm pins s2 σ H2 x vs v us Q I2 r1 r2 q2
/- xs.append(e),list.index on a module's tuple .. are MtR facts of 06m -/
end
end L2
namespace L2
open PySem PySem.Spec PyProof.Rows
def MtM (X:Cx) (id:String) (r:V→List V→Hp→VK→Prop):Prop :=
 ∀ (pins:List (Addr × Obj)) (s:Shared) (σ:St) (H:Hp) (x:V) (xs:List V) (v:Value) (us:List Value) (Q:VK),Inv X pins σ H s→RelV x v→Vals xs us→r x xs H Q →
  wpAny (model X.prog X.w) X.A (call (.builtin id) (v :: us)) (EP X pins σ Q) X.xe s
theorem Vals.one:∀ {x:V} {us:List Value},Vals [x] us→∃ u,us=[u]∧RelV x u
 | _,_,.cons r .nil=>⟨_,rfl,r⟩
theorem Vals.zero:∀ {us:List Value},Vals [] us→us=[]
 | _,.nil=>rfl
theorem Vals.dropLast {xs:List V} {us:List Value} (h:Vals xs us):Vals xs.dropLast us.dropLast:=by
 induction h with
 | nil=>exact .nil
 | cons r t ih =>
  cases t with
  | nil=>exact .nil
  | cons q t'=>exact .cons r ih
theorem Vals.rep {xs:List V} {us:List Value} (h:Vals xs us):∀ k:Nat,Vals (List.replicate k xs).flatten (List.replicate k us).flatten
 | 0=>.nil
 | k+1=>by
  rw [List.replicate_succ,List.replicate_succ,List.flatten_cons,List.flatten_cons]
  exact Vals.append h (Vals.rep h k)
theorem erase_last {α:Type} (l:List α):l.eraseIdx (l.length - 1)=l.dropLast:=by
 induction l with
 | nil=>rfl
 | cons a r ih =>
  cases r with
  | nil=>rfl
  | cons b r =>
   have e:(a :: b :: r).length - 1=((b :: r).length - 1)+1:=by
    have h1:(a :: b :: r).length=r.length+2:=rfl
    have h2:(b :: r).length=r.length+1:=rfl
    omega
   rw [e,List.eraseIdx_cons_succ,ih]
   all_goals rfl
theorem Zjg (its:List Value):∀ (k:Nat) (acc:List Value),
  List.foldl (fun x1 x2=>x1++x2) acc.toArray (List.replicate k its.toArray)=(acc++(List.replicate k its).flatten).toArray
 | 0,acc=>by simp
 | k+1,acc=>by
  have e:acc.toArray++its.toArray=(acc++its).toArray:=by simp
  have e2:(acc++its)++(List.replicate k its).flatten=acc++(List.replicate (k+1) its).flatten:=by
   rw [List.replicate_succ,List.flatten_cons,List.append_assoc]
  rw [← e2,← Zjg its k (acc++its),← e,List.replicate_succ,List.foldl_cons]
section
variable {X:Cx} {pins:List (Addr × Obj)} {σ:St} {H:Hp} {s:Shared} {l b:Addr} {xs ys zs:List V}
theorem Inv.lset {its its':List Value} {n:Nat} {f:Array Value→Array Value} {t':Nat} (I:Inv X pins σ H s) (hH:H l=some (.lst xs))
  (e:s.heap.get? l=some { cls:=.type "list",data:=.seq its.toArray n }) (hf:f its.toArray=its'.toArray) (hv:Vals ys its') (hz:ys.length≤sizeLine) :
  Inv X pins σ (upd H l (.lst ys)) { s with heap:=s.heap.update l (Obj.mapSeq f),toks:=t' }:=by
 have q:=PySem.IsL.update e f
 rw [hf] at q
 refine I.write (x:=l) (e:=l) (by rw [hH]; exact trivial) (.inl rfl) (fun b' u hb hu=>(Heap.get?_update_other s.heap (Obj.mapSeq f) (Ne.symm hb)).trans hu) ⟨_,q⟩ ?_
 exact ⟨hz,its',_,hv,q⟩
theorem Inv.lnew {its:List Value} {t':Nat} (I:Inv X pins σ H s) (hv:Vals ys its) (hz:ys.length≤sizeLine) :
  Inv X pins σ (upd H s.heap.objs.size (.lst ys)) { s with heap:=s.heap.push { cls:=.type "list",data:=.seq its.toArray },toks:=t' } :=
 I.laid (fun _ _ q=>Heap.get?_push_of_some _ q) (Nat.le_refl _) ⟨hz,its,0,hv,Heap.get?_push_size _ rfl⟩
theorem Inv.fresh (I:Inv X pins σ H s):H s.heap.objs.size=none:=I.hok.fresh (Nat.le_refl _)
theorem Inv.lstM (I:Inv X pins σ H s) (hH:H l=some (.lst xs)):xs.length≤sizeLine∧∃ (its:List Value) (n:Nat),Vals xs its∧xs.length=its.length∧s.heap.get? l=some { cls:=.type "list",data:=.seq its.toArray n }:=by
 obtain ⟨z,its,n,r,e⟩:=I.hok l _ hH
 exact ⟨z,its,n,r,r.length,e⟩
theorem notLongL {n:Nat} (h:n≤sizeLine):Builtin.List.listTooLong n=false:=by
 unfold Builtin.List.listTooLong
 exact decide_eq_false (by omega)
end
section
variable {X:Cx}
def rAppend:V→List V→Hp→VK→Prop:=fun x vs H Q=>∃ l xs y,x=.ref l∧vs=[y]∧H l=some (.lst xs)∧xs.length < sizeLine∧Q .non (upd H l (.lst (xs++[y])))
theorem Zbn:MtM X "list.append" rAppend:=by
 intro pins s σ H x vs v us Q I rx rv h
 obtain ⟨l,xs,y,rfl,rfl,hH,hz,q⟩:=h
 cases rx
 obtain ⟨u,rfl,ru⟩:=rv.one
 obtain ⟨z,its,n,r,hl,e⟩:=I.lstM hH
 refine call_meets F.slot_list_append ⟨_,e,rfl⟩ F.entry_list_append (F.args_list_append_2 _ _) (PySem.list_append l its.toArray n u (by rw [List.size_toArray]; omega)) ⟨e,?_⟩
 refine ⟨.non,_,I.lset (its':=its++[u]) hH e (by simp) (r.append (.cons ru .nil)) ?_,rfl,q⟩
 rw [List.length_append,List.length_singleton]
 omega
def rExtend:V→List V→Hp→VK→Prop:=fun x vs H Q=>∃ l b xs zs,x=.ref l∧vs=[.ref b]∧H l=some (.lst xs)∧H b=some (.lst zs)∧xs.length+zs.length≤sizeLine∧Q .non (upd H l (.lst (xs++zs)))
theorem Zja:MtM X "list.extend" rExtend:=by
 intro pins s σ H x vs v us Q I rx rv h
 obtain ⟨l,b,xs,zs,rfl,rfl,hH,hB,hz,q⟩:=h
 cases rx
 obtain ⟨u,rfl,ru⟩:=rv.one
 cases ru
 obtain ⟨z,its,n,r,hl,e⟩:=I.lstM hH
 obtain ⟨z2,its2,n2,r2,hl2,e2⟩:=I.lstM hB
 have hsz:its.toArray.size+its2.toArray.size≤sizeLine:=by rw [List.size_toArray,List.size_toArray]; omega
 have hlong:¬ (!its.toArray.isEmpty && Builtin.List.listTooLong (its.toArray.size+its2.toArray.size))=true:=by
  rw [notLongL hsz,Bool.and_false]
  exact Bool.false_ne_true
 refine call_meets F.slot_list_extend ⟨_,e,rfl⟩ F.entry_list_extend (F.args_list_extend_2 _ _)
  (AutoSeq1.list_extend_list_list_0 l its.toArray n b its2.toArray n2 hlong (by rw [List.size_toArray]; omega) (by omega)) ⟨e,e2,?_⟩
 refine ⟨.non,_,I.lset (its':=its++its2) hH e (by simp) (r.append r2) ?_,rfl,q⟩
 rw [List.length_append]
 omega
def rPop:V→List V→Hp→VK→Prop:=fun x vs H Q=>∃ l xs y,x=.ref l∧vs=[]∧H l=some (.lst xs)∧xs[xs.length - 1]?=some y∧Q y (upd H l (.lst xs.dropLast))
theorem mt_pop:MtM X "list.pop" rPop:=by
 intro pins s σ H x vs v us Q I rx rv h
 obtain ⟨l,xs,y,rfl,rfl,hH,hy,q⟩:=h
 cases rx
 have hus:=rv.zero
 subst hus
 obtain ⟨z,its,n,r,hl,e⟩:=I.lstM hH
 obtain ⟨u,hu,ru⟩:=r.get hy
 have hy':its.toArray[its.toArray.size - 1]?=some u:=by
  show its.toArray[its.length - 1]?=some u
  rw [← Array.getElem?_toList,← hl]
  exact hu
 refine call_meets F.slot_list_pop ⟨_,e,rfl⟩ F.entry_list_pop (F.args_list_pop_1 _) (MeetsSeq.list_pop_last l its.toArray n u hy' (by rw [List.size_toArray]; omega)) ⟨e,?_⟩
 refine ⟨y,_,I.lset (its':=its.dropLast) hH e ?_ r.dropLast ?_,ru,q⟩
 ·show its.toArray.eraseIdxIfInBounds (its.toArray.size - 1)=its.dropLast.toArray
  rw [List.size_toArray,List.eraseIdxIfInBounds_toArray,erase_last]
 ·rw [List.length_dropLast]
  omega
def rCat:R2:=fun x y H Q=>∃ l b xs zs,x=.ref l∧y=.ref b∧H l=some (.lst xs)∧H b=some (.lst zs)∧xs.length+zs.length≤sizeLine∧∀ p,H p=none→Q (.ref p) (upd H p (.lst (xs++zs)))
theorem op_cat:OpR X (binaryOp .Add) rCat:=by
 intro pins s σ H x y v u Q I rx ry h
 obtain ⟨l,b,xs,zs,rfl,rfl,hH,hB,hz,q⟩:=h
 cases rx
 cases ry
 obtain ⟨z,its,n,r,hl,e⟩:=I.lstM hH
 obtain ⟨z2,its2,n2,r2,hl2,e2⟩:=I.lstM hB
 refine PySem.P.add_list e e2 ?_ (by rw [List.size_toArray,List.size_toArray]; omega)
 have ea:its.toArray++its2.toArray=(its++its2).toArray:=by simp
 rw [ea]
 exact ⟨.ref _,_,I.lnew (t':=s.toks) (r.append r2) (by rw [List.length_append]; omega),rfl,q _ I.fresh⟩
def rRep:R2:=fun x y H Q=>∃ l k xs,x=.ref l∧y=.int k∧H l=some (.lst xs)∧-(2^63)≤k∧k < 2^63∧xs.length * k.toNat≤sizeLine ∧
 ∀ p,H p=none→Q (.ref p) (upd H p (.lst (List.replicate k.toNat xs).flatten))
theorem len_rep {α:Type} (xs:List α) (k:Nat):(List.replicate k xs).flatten.length=k * xs.length:=by
 induction k with
 | zero=>simp
 | succ k ih=>rw [List.replicate_succ,List.flatten_cons,List.length_append,ih,Nat.succ_mul,Nat.add_comm]
theorem op_rep:OpR X (binaryOp .Mult) rRep:=by
 intro pins s σ H x y v u Q I rx ry h
 obtain ⟨l,k,xs,rfl,rfl,hH,h1,h2,hz,q⟩:=h
 cases rx
 obtain ⟨t,rfl⟩:=ry
 obtain ⟨z,its,n,r,hl,e⟩:=I.lstM hH
 have hlen:its.toArray.size * k.toNat≤sizeLine:=by rw [List.size_toArray,← hl]; exact hz
 have hcap:¬ its.toArray.size * k.toNat > (2^63 - 1) / 8:=by
  have:(sizeLine:Nat)≤(2^63 - 1) / 8:=by decide
  omega
 have hfit:¬ (!Builtin.List.listFitsIndex k)=true:=by
  rw [fitsIndex_both h1 h2]
  exact Bool.false_ne_true
 have hlong:¬ Builtin.List.listTooLong (its.toArray.size * k.toNat)=true:=by
  rw [notLongL hlen]
  exact Bool.false_ne_true
 have hnew:List.foldl (fun x1 x2=>x1++x2) #[] (List.replicate (if its.toArray.isEmpty=true then 0 else k.toNat) its.toArray)=(List.replicate k.toNat its).flatten.toArray:=by
  have f0:∀ m:Nat,List.foldl (fun x1 x2=>x1++x2) #[] (List.replicate m its.toArray)=(List.replicate m its).flatten.toArray:=fun m=>by
   have:=Zjg its m []
   rw [List.nil_append] at this
   exact this
  rw [f0]
  cases its with
  | nil=>simp
  | cons a r'=>rw [if_neg (by simp)]
 refine wpAny_binaryOp_repeat_ref (T:="list") (U:="int") (by decide) ⟨_,e,rfl⟩ (fun s'=>typeIs_int s' k t) noFill_list_mul F.fills_int_mul F.slot_int_rmul repeat_list F.slot_int_index.lookup
  (call_meets F.slot_int_rmul (typeIs_int s k t) F.entry_int_rmul (F.args_int_rmul_2 _ _) (int___rmul___int_list k t l its.toArray n)
   ⟨e,rfl,⟨_,e,rfl⟩,call_meets F.slot_list_mul ⟨_,e,rfl⟩ F.entry_list_mul (F.args_list_mul_2 _ _) (AutoListH.list___mul___list_int_3 l its.toArray n k t hfit hcap hlong) ⟨e,?_⟩⟩)
 rw [hnew]
 exact ⟨.ref _,_,I.lnew (t':=s.toks) (r.rep k.toNat) (by rw [len_rep,Nat.mul_comm]; exact hz),rfl,q _ I.fresh⟩
end
section
variable {prog:Program} {w:World} {A:Around} {E:Value→Shared→Prop} {s:Shared}
end
section
variable {X:Cx}
end
end L2
namespace Att
open PySem PySem.W PySem.Calls PyProof.Rows
theorem Zf3 {P:Params} {h:Heap}:∀ (ns:List Int) (vs:List Value),WellAll P h vs (ns.map WData.int)→IntsAre vs ns:=by
 intro ns
 induction ns with
 | nil =>
  intro vs w
  rw [List.map_nil] at w
  cases w
  exact .nil
 | cons n ns ih =>
  intro vs w
  rw [List.map_cons] at w
  cases w with
  | cons a b =>
   cases a
   exact .cons _ _ (ih _ b)
theorem script_of {l:OpenLaw} {n:Nat} (hn:l.most=some n) {P:Params} {h:Heap} {args:List WData} {vals:List Value}
  (hpre:l.row.toRowW.claim.pre args=true) (hwl:WellAll P h vals args) :
  ∃ a vs ns,vals=[Value.ref a]∧args=[WData.list (ns.map WData.int)]∧h.get? a=some { cls:=.type "list",data:=.seq vs.toArray }∧IntsAre vs ns∧ns.length≤n:=by
 have hsh:WShape.hasAll [] args [.list .int]=true:=(pre_splitW hpre).1
 have hc:l.pre.holds [] { args:=args }=true:=(pre_splitW hpre).2
 obtain ⟨d,r,rfl,h1,h2⟩:=hasAllW_cons hsh
 obtain rfl:=hasAllW_nil h2
 obtain ⟨xs,rfl,h3⟩:=hasW_list h1
 obtain ⟨ns,rfl⟩:=items_int h3
 have hlen:ns.length≤n:=by
  unfold OpenLaw.pre at hc
  have h4:(WTm.not (.lt (.lit (.int (n:Int))) (.len (.arg 0)))).holds [] { args:=[.list (ns.map .int)] }=true:=by
   have h4:=(holds_andW hc).1
   rw [hn] at h4
   exact h4
  have h5:=condW_of h4 (w_not (w_lt w_lit (w_len_list (w_arg rfl))))
  rw [List.length_map] at h5
  refine Nat.le_of_not_lt fun q=>?_
  have q':(n:Int) < ((ns.length:Nat):Int):=by omega
  first
   | (rw [decide_eq_true q'] at h5; exact absurd h5 (by decide))
   | (simp at h5; omega)
 cases hwl with
 | cons w1 w2 =>
  cases w2
  cases w1 with
  | list ho hall=>exact ⟨_,_,ns,rfl,rfl,ho,Zf3 ns _ hall,hlen⟩
theorem post_true (l:OpenLaw) (args:List WData):l.row.toRowW.claim.post args (.bool true) args=true :=
 postW_of (r:=l.row.toRowW) (X:=(true == true))
  (show WShape.has [] (.bool true) .bool=true by first | rfl | decide | simp [WShape.has,WShape.arms,WShape.armsAll])
  (show (WTm.eq .res (.lit (.bool true))).value [] { args:=args,res:=some (.bool true),after:=args }=some (.bool (true == true)) from w_eq_bool (w_res rfl) w_lit) rfl
theorem attach_call {l:OpenLaw} {n:Nat} {q:Program} {loose:List Str} {XP:(Str→Option Value)→Heap→Prop} {YP:World→Heap→Prop} {d:DefRec}
  (hn:l.most=some n) (hdf:d.params.defaults=[])
  (call:∀ (w:World) (s₀ s₁:Shared) (mg mb:Str→Option Value) (fa:Addr) (o:Obj) (pm cd doc:Value) (a:Addr) (vs:List Value) (ns:List Int),
   Ground q loose [] XP w s₀ mg mb s₁.heap→YP w s₁.heap →
   s₁.heap.get? fa=some o→o.data=.func (docDef d.name d.params d.body d.scope pm cd doc)→s₁.heap.CodeRec cd d.name→mg d.name=some (.ref fa) →
   s₁.heap.get? a=some { cls:=.type "list",data:=.seq vs.toArray }→IntsAre vs ns→ns.length≤n→s₁.gens=#[] →
   codeAny (model l.prog w) callerA (.call (.ref fa) ⟨[.ref a],[]⟩) (fun r s'=>r=.ok (.ret (.bool true))∧OldK s₁.heap s'.heap∧s'.os=s₁.os∧AllBare s'.gens) s₁) :
  WalkO q loose XP YP l.row.toRowW d [] (fun f vs=>PySem.call f vs):=by
 intro w s₀ s₁ mg mb G Y fa o pm cd doc dV kV ho hd hcd hD hmg hg args vals as hpre hlay hrd hwl hlo
 obtain rfl:dV=.none:=Dflts.none hD hdf
 obtain rfl:kV=.none:=Dflts.noKw hD
 obtain ⟨a,vs,ns,rfl,rfl,hobj,hints,hlen⟩:=script_of hn hpre hwl
 refine enter_call (codeAny_mono (call w s₀ s₁ mg mb fa o pm cd doc a vs ns G Y ho (fd_plain hd) hcd hmg hobj hints hlen hg) fun r s' hq=>?_)
 obtain ⟨rfl,h2,h3,h4⟩:=hq
 exact ⟨.inl ⟨.bool true,.bool true,[],rfl,fun _=>rfl,.bool true,post_true l _,fun _=>⟨List.Pairwise.nil,fun _ hm=>(nomatch hm)⟩⟩,h2,h3,h4⟩
section
variable {prog:Program} {w:World} {A:Around} {E:Value→Shared→Prop} {s:Shared} {K:Frag}
end
end Att
namespace L2
open PySem PySem.Spec PyProof.Rows
theorem Zfg:∀ {vs:List Value} {ns:List Int},IntsAre vs ns→Vals (ns.map V.int) vs
 | _,_,.nil=>.nil
 | _,_,.cons n t h=>.cons ⟨t,rfl⟩ (Zfg h)
def Only (H:Hp):Prop:=∀ b,H b=none∨∃ o xs,H b=some (.frz o (.lst xs))
theorem law_call {P:Program} {w:World} {K:PySem.W.Frag} {mg mb:Str→Option Value} {CX:CXT} {k:Nat} {fa a:Addr} {fd:FuncData} {x:Str} {sp:Sp} {s₁:Shared} {vs:List Value} {ns:List Int}
  (KX:K.In s₁.heap) (hns:s₁.heap.Ns mainGlobals mg) (hb:s₁.heap.Ns builtinsNs mb) (hbb:∀ x:Str,x≠"__name__"→mb x=bootBuiltins x) (hlim:s₁.heap.NoLimit) (hg:s₁.gens=#[])
  (ha:s₁.heap.get? a=some { cls:=.type "list",data:=.seq vs.toArray }) (hi:IntsAre vs ns) (hl:ns.length≤sizeLine) (hr:Room k callerA)
  (F:∀ base:Heap,K.In base→base.Ns mainGlobals mg→FnOk P w K mg base CX k fa fd [x] sp) (hbind:∀ (s:Shared) (u:Value),BindsTo s fd ⟨[u],[]⟩ [(x,u)])
  (hsp:∀ H:Hp,Only H→SqL K H a (ns.map V.int)→sp [.ref a] H (fun v _=>v=.bl true) fun _ _ _=>False)
  (hCX:∀ H e s',CX [] H s₁ (fun _ _ _=>False) e s'→False) :
  codeAny (model P w) callerA (.call (.ref fa) ⟨[.ref a],[]⟩) (fun r s'=>r=.ok (.ret (.bool true))∧OldK s₁.heap s'.heap∧s'.os=s₁.os∧AllBare s'.gens) s₁:=by
 have rv:=Zfg hi
 have lenV:=hi.length
 have core:∀ H:Hp,Only H→SqL K H a (ns.map V.int)→HOk P w H s₁.heap→(∀ b,H b≠none→b=a)→(H a≠none→K.lookup a=none) →
   codeAny (model P w) callerA (.call (.ref fa) ⟨[.ref a],[]⟩) (fun r s'=>r=.ok (.ret (.bool true))∧OldK s₁.heap s'.heap∧s'.os=s₁.os∧AllBare s'.gens) s₁:=by
  intro H hO hS hok hA hK
  have base_of:∀ {b:Addr} {o:Obj},s₁.heap.get? b=some o→H b=none→(hidT s₁.heap H).get? b=some o:=fun e n=>hidT_get e n
  have noA:∀ {b:Addr} {o:Obj} {es:Array DictEntry} {ep:Nat},s₁.heap.get? b=some o→o.data=.dict es ep→H b=none:=fun {b o es ep} e d=>by
   cases q:H b with
   | none=>rfl
   | some u =>
    have e':b=a:=hA b (by rw [q]; simp)
    subst e'
    rw [ha] at e; cases e
    have d':Data.seq vs.toArray _=Data.dict es ep:=d
    cases d'
  have nsK:∀ {b:Addr} {m:Str→Option Value},s₁.heap.Ns b m→(hidT s₁.heap H).Ns b m:=fun {b m} ⟨o,es,ep,e,d,r⟩=>⟨o,es,ep,base_of e (noA e d),d,r⟩
  have hKb:K.In (hidT s₁.heap H):=fun b o e=>base_of (KX b o e) (by
   cases q:H b with
   | none=>rfl
   | some u =>
    have e':b=a:=hA b (by rw [q]; simp)
    subst e'
    rw [hK (by rw [q]; simp)] at e; cases e)
  have hM:Mod K mg (hidT s₁.heap H):=⟨hKb,nsK hns,⟨mb,nsK hb,hbb⟩,let ⟨mc,h1,h2⟩:=hlim; ⟨mc,nsK h1,h2⟩⟩
  have e0:Env0 P w K mg (hidT s₁.heap H) callerA [] s₁ H:=⟨rfl,hM,fun b o e=>of_hidT e,Nat.le_of_eq (Zje _ _),trivial,fun b hb=>absurd (show b∈([]:List Addr) from hb) (by simp),hok,.of_eq hg⟩
  refine codeAny_mono ((F _ hKb (nsK hns)).run callerA [] s₁ H ⟨[.ref a],[]⟩ [.ref a] [.ref a] _ _ hr e0 (hbind s₁ (.ref a)) (.cons rfl .nil) (hsp H hO hS)) fun r s' h=>?_
  cases r with
  | error e=>exact (hCX H e s' h).elim
  | ok fl =>
   cases fl with
   | next=>exact False.elim h
   | brk=>exact False.elim h
   | cont=>exact False.elim h
   | ret u =>
    obtain ⟨v,H',os,bare,un,hok',r',q⟩:=h
    have q':v=.bl true:=q
    subst q'
    obtain rfl:u=Value.bool true:=r'
    refine ⟨rfl,OldK.of_keep fun b o e=>?_,os,bare⟩
    cases q:H b with
    | none=>exact un.keep b o e q (by intro z; exact absurd (show b∈([]:List Addr) from z) (by simp)) (by simp)
    | some u =>
     rcases hO b with z | ⟨ob,xs,z⟩
     ·rw [q] at z; cases z
     ·have z2:=un.frzs b ob _ z
      obtain ⟨e1,_⟩:=hok b _ z
      obtain ⟨e2,_⟩:=hok' b _ z2
      rw [e] at e1; cases e1
      exact e2
 cases hk:K.lookup a with
 | some o =>
  have e:=KX a o hk
  rw [ha] at e
  cases e
  refine core (fun _=>none) (fun _=>.inl rfl) (.inr ⟨_,vs.toArray,_,hk,rfl,rfl,rfl,by rw [List.size_toArray,lenV]; exact hl,by simpa using rv⟩) (fun b u z=>by have z':(none:Option HO)=some u:=z; cases z') (fun b z=>absurd rfl z) fun z=>absurd rfl z
 | none =>
  refine core (fun b=>if b=a then some (.frz { cls:=.type "list",data:=.seq vs.toArray } (.lst (ns.map V.int))) else none) (fun b=>?_) (.inl (.inr ⟨{ cls:=.type "list",data:=.seq vs.toArray },if_pos rfl⟩)) (fun b u z=>?_) (fun b z=>?_) fun _=>hk
  ·by_cases hb:b=a
   ·exact .inr ⟨_,_,if_pos hb⟩
   ·exact .inl (if_neg hb)
  ·by_cases hb:b=a
   ·have z':=(if_pos hb).symm.trans z
    cases z'
    subst hb
    exact ⟨ha,by rw [List.length_map]; exact hl,vs,_,rv,ha⟩
   ·have z':=(if_neg hb).symm.trans z
    cases z'
  ·by_cases hb:b=a
   ·exact hb
   ·exact absurd (if_neg hb) z
end L2
namespace L2
open PySem PySem.Spec PyProof.Rows
abbrev KOf {K:PySem.W.Frag} {h:Heap} (_:K.In h):PySem.W.Frag:=K
theorem walk_of {l:PySem.W.OpenLaw} {n k:Nat} {q:Program} {loose:List Str} {XP:(Str→Option Value)→Heap→Prop} {YP:World→Heap→Prop} {d:DefRec} {K:Params→PySem.W.Frag} {CX:World→CXT} {sp:World→Sp} {x:Str}
  (hn:l.most=some n) (hn2:n≤sizeLine) (hdf:d.params.defaults=[]) (hr:Room k callerA)
  (hY:∀ (w:World) (h:Heap),YP w h→(K w.params).In h)
  (F:∀ (w:World) (mg:Str→Option Value) (fa:Addr) (h:Heap),(K w.params).In h→h.Ns mainGlobals mg→mg d.name=some (.ref fa) →
   ∃ fd:FuncData,(∀ (s:Shared) (u:Value),BindsTo s fd ⟨[u],[]⟩ [(x,u)]) ∧
    ∀ base:Heap,(K w.params).In base→base.Ns mainGlobals mg→FnOk l.prog w (K w.params) mg base (CX w) k fa fd [x] (sp w))
  (hsp:∀ (w:World) (H:Hp) (a:Addr) (ns:List Int),ns.length≤n→Only H→SqL (K w.params) H a (ns.map V.int)→sp w [.ref a] H (fun v _=>v=.bl true) fun _ _ _=>False)
  (hCX:∀ (w:World) (H:Hp) (s:Shared) (e:Value) (s':Shared),CX w [] H s (fun _ _ _=>False) e s'→False) :
  PySem.W.WalkO q loose XP YP l.row.toRowW d [] (fun f vs=>PySem.call f vs):=by
 refine Att.attach_call hn hdf fun w s₀ s₁ mg mb fa o pm cd doc a vs ns G Y ho hd hcd hmg hobj hints hlen hg=>?_
 have KX:=hY w _ Y
 obtain ⟨fd,hb,hF⟩:=F w mg fa _ KX G.T.g hmg
 exact law_call KX G.T.g G.T.b G.T.builtins G.T.nolimit hg hobj hints (Nat.le_trans hlen hn2) hr hF hb (fun H hO hS=>hsp w H a ns hlen hO hS) fun H e s'=>hCX w H s₁ e s'
end L2
/- THE LAST THEOREM (shape; LID,My.* are yours):
  My.Adr: a structure of the addresses that your layer names (classes,functions); My.Txt K t: a structure (Prop) of the equations over K;
  My.txt_mk:{K} {implicit addresses ..} (e1:nsIn K mainGlobals "law"=some (some (.ref f))) (e2:K.lookup f=some ⟨oc,od,.func (fnOf "law" "law" params body scope dV kV doc pm an cdv ct),sl⟩) (e3:codeIn K cdv "law"=true) ..:∃ t,My.Txt K t
set_option maxRecDepth 100000 in
set_option maxHeartbeats 0 in
theorem PySem.Challenge.cw_LID_holds:PySem.Challenge.rw_LID.Holds:=by
 w_on; o_law; k_head; (case hw=>w_witness2)
 k_fill
 refine L2.walk_of (l:=PySem.Challenge.rw_LID) (n:=63) (k:=40) (x:="script") (CX:=fun w=>..) (sp:=fun _=>My.sp_law) rfl (by decide) rfl ⟨rfl,by decide,by decide⟩ (fun w h Y=>PySem.W.kIn_of Y) ?F ?S ?C
 case F =>
  intro w mg fa h KX G hmg
  have T:∃ t,My.Txt (L2.KOf KX) t:=by
   dsimp only [L2.KOf]                          -- K must stand as «<heap const> w.params» for k_is
   refine' My.txt_mk ?e1 ?e2 ?e3 ..
   (case e1=>PySem.W.k_is)                    -- in the order: a name -> its address -> its object -> its parts
   (case e2=>PySem.W.k_is)
   ..
  obtain ⟨t,T⟩:=T
  have e0:=hmg.symm.trans (PySem.W.mg_of KX G T.law)
  cases e0                                       -- fa is the law's own address
  exact ⟨_,fun s u=>.of_eq rfl,fun base kb nb=>My.law_fn T kb nb⟩     -- if «.of_eq rfl» comes too early: refine' ⟨_,?b,fun base kb nb=>My.law_fn T kb nb⟩; exact fun s u=>.of_eq rfl
 case S=>exact fun w H a ns hl hO hS=>..
 case C=>exact ..
(the tactic k_is has no namespace: write k_is) -/
namespace L2
open PySem PySem.Spec PyProof.Rows
def Zb5 (s:Stmt) (j:Nat):Stmt:=match s with
 | .ClassDef _ _ _ body _ _ _ _ _ _ _=>body.getD j (.Pass ⟨0,0,0,0⟩)
 | _=>.Pass ⟨0,0,0,0⟩
def Zam (s:Stmt):Arguments:=match s with
 | .FunctionDef _ a _ _ _ _ _ _ _ _=>a
 | _=>{ posonlyargs:=[],args:=[],vararg:=none,kwonlyargs:=[],kw_defaults:=[],kwarg:=none,defaults:=[] }
def Zak (s:Stmt):List Stmt:=match s with
 | .FunctionDef _ _ b _ _ _ _ _ _ _=>b
 | _=>[]
def Zac (s:Stmt):Scope:=match s with
 | .FunctionDef _ _ _ _ _ _ sc _ _ _=>sc
 | _=>{ kind:=.function,names:=[],isGenerator:=false,isCoroutine:=false }
abbrev CX0:CXT:=fun _ _ _ _ _ _=>False
abbrev E0:XK:=fun _ _ _=>False
theorem pass0 {X:Cx}:Passes CX0 X E0:=fun _ _ _ _ _ _ _ h=>h.elim
structure Fun (K:PySem.W.Frag) (x qual:Str) (st:Stmt) (f:Addr) (fd:FuncData):Prop where
 ex:∃ (oc:Value) (od:Option Addr) (kV doc pm:Value) (an:Option Addr) (cdv ct:Value) (osl:Array (Option Value)),
  fd=PySem.W.fnOf x qual (Zam st) (Zak st) (Zac st) .none kV doc pm an cdv ct∧K.lookup f=some ⟨oc,od,.func fd,osl⟩∧PySem.W.codeIn K cdv qual=true
 kp:PySem.W.keepIn K (.ref f)=true
section
variable {P:Program} {w:World} {K:PySem.W.Frag} {mg:Str→Option Value} {base:Heap}
theorem Fun.ok {x qual:Str} {st:Stmt} {f:Addr} {fd:FuncData} {N ps:List Str} {k:Nat} {sp:Sp} (F:Fun K x qual st f fd) (S:Zap N ps (Zac st)) (len:∀ vs H Q E,sp vs H Q E→vs.length=ps.length)
  (hbody:∀ (cdv:Value) (A:Around) (outer:List Env) (s:Shared) (H:Hp) (vs:List V) (Q:VK) (E:XK),Room k (A.deeper (envOfC qual (Zac st) s.heap.objs.size f cdv))→sp vs H Q E →
   ∃ t,PSs (cxOf CX0 P w K mg base N qual (Zac st) f cdv A outer s H E).nox (Zak st) t∧t { nx:=fun _ H'=>Q .non H',rt:=Q } (start N vs) H):FnOk P w K mg base CX0 (k+1) f fd ps sp:=by
 obtain ⟨oc,od,kV,doc,pm,an,cdv,ct,osl,rfl,lk,hcd⟩:=F.ex
 refine fn_of lk hcd S len fun A outer s H vs Q E hr hsp=>?_
 obtain ⟨t,h,q⟩:=hbody cdv A outer s H vs Q E hr hsp
 exact ⟨t,h.nox,q⟩
theorem Fun.binds {x qual:Str} {st:Stmt} {f:Addr} {fd:FuncData} {ps:List Str} (F:Fun K x qual st f fd)
  (h:∀ (kV doc pm:Value) (an:Option Addr) (cdv ct:Value) (us:List Value),us.length=ps.length→bindArgs (PySem.W.fnOf x qual (Zam st) (Zak st) (Zac st) .none kV doc pm an cdv ct) ⟨us,[]⟩=pure (ps.zip us)):Binds K fd ps []:=by
 obtain ⟨oc,od,kV,doc,pm,an,cdv,ct,osl,rfl,lk,hcd⟩:=F.ex
 exact .all (h kV doc pm an cdv ct)
theorem Zaz {x qual:Str} {st:Stmt} {f:Addr} {oc:Value} {od an:Option Addr} {osl:Array (Option Value)} {kV doc pm cdv ct:Value} (l:K.lookup f=some ⟨oc,od,.func (PySem.W.fnOf x qual (Zam st) (Zak st) (Zac st) .none kV doc pm an cdv ct),osl⟩)
  (c:PySem.W.codeIn K cdv qual=true) (k:PySem.W.keepIn K (.ref f)=true):Fun K x qual st f (PySem.W.fnOf x qual (Zam st) (Zak st) (Zac st) .none kV doc pm an cdv ct):=⟨⟨oc,od,kV,doc,pm,an,cdv,ct,osl,rfl,l,c⟩,k⟩
end
theorem Zkw {A:Around} {k:Nat} (hr:Room k A):A.units+1 < cLine:=Nat.lt_of_le_of_lt (Nat.add_le_add_left (by decide:1≤64) _) hr.units
theorem Zar {n:Nat} (h:n≤1000):n < sizeLine:=Nat.lt_of_le_of_lt h (by decide)
section
variable {X:Cx}
theorem pv (i:Nat) {x:Str} {pos:Pos} (hN:X.N[i]?=some x:=by rfl) (hv:Vis X.env.scope x:=by first | exact Or.inl rfl | exact Or.inr (Or.inl rfl) | exact Or.inr (Or.inr rfl)) (hd:(x == ("__debug__":Str))=false:=by decide)
  (hcd:(x == ("__classdict__":Str))=false:=by decide):PE X (.Name x pos) (tVar i):=pe_var hN hv hd hcd
end
theorem iteF {A B:Prop} (h:B):if false=true then A else B:=by
 rw [if_neg Bool.false_ne_true]
 exact h
theorem iteT {A B:Prop} (h:A):if true=true then A else B:=by
 rw [if_pos rfl]
 exact h
def Same (H H':Hp):Prop:=∀ b o,H b=some o→H' b=some o
theorem Same.refl (H:Hp):Same H H:=fun _ _ h=>h
theorem Same.trans {H H1 H2:Hp} (a:Same H H1) (b:Same H1 H2):Same H H2:=fun c o h=>b c o (a c o h)
theorem Same.seq {K:PySem.W.Frag} {H H':Hp} {a:Addr} {xs:List V} (e:Same H H') (h:SqL K H a xs):SqL K H' a xs:=by
 rcases h with (h | ⟨o,h⟩) | h
 ·exact .inl (.inl (e _ _ h))
 ·exact .inl (.inr ⟨o,e _ _ h⟩)
 ·exact .inr h
end L2
set_option maxHeartbeats 4000000
namespace L2
open PySem PySem.W PyProof.Rows
def lookO {α β:Type} (oS:Program→List Str→List Str→(Shared→Bool)→Bool→Shared→α) (ms:List Str) (p q:Program) (lo:List Str) (Xt:Shared→Bool) (Yf:Shared→β) (h0:Heap) (s:Shared):Bool × α × β :=
 ((((staticsOk ms h0 s.heap && namesBound p s.heap) && gensDone s) && laidKept h0 s.heap),oS q lo ms Xt true s,Yf s)
noncomputable abbrev atBoot (P:Params) (os:OsState):Shared:=Shared.mk (boot_heap P) (Array.mk []) boot_drawn boot_toks os
theorem left_once {p q:Program} {lo:List Str} {Xt:Shared→Bool} {β:Type} {Yf:Shared→β} {Ya:World→β} {N m:Nat} {an:Option Value}
  (bo:∀ w:World,Option.map (fun s=>(s.heap,s.gens,s.drawn,s.toks)) (fencedOpening treeTable p w N)=some (boot_heap w.params,Array.mk [],boot_drawn,boot_toks))
  (sz:∀ w:World,((boot_heap w.params).isNs mainGlobals,(boot_heap w.params).objs.size,(boot_heap w.params).nsMap mainGlobals "__annotations__")=(true,m,an))
  (rn:∀ (w:World) (os:OsState),Option.map (lookO openSeen (importedModules p.main.body) p q lo Xt Yf (boot_heap w.params)) (topRun treeTable p w m an N (atBoot w.params os) (topStub p))=some (true,openGood q lo,Ya w)) :
  LeftO p q lo Xt Yf Ya N:=by
 intro w
 obtain ⟨s0,e0,e1⟩:=Option.map_eq_some_iff.mp (bo w)
 obtain ⟨hp,gs,dr,tk,os⟩:=s0
 simp only [Prod.mk.injEq] at e1
 obtain ⟨rfl,rfl,rfl,rfl⟩:=e1
 have z:=sz w
 simp only [Prod.mk.injEq] at z
 obtain ⟨z1,z2,z3⟩:=z
 obtain ⟨s1,r1,r2⟩:=Option.map_eq_some_iff.mp (rn w os)
 unfold lookO at r2
 simp only [Prod.mk.injEq] at r2
 obtain ⟨l1,l2,l3⟩:=r2
 have tf:topFrom treeTable p w N (atBoot w.params os)=some s1:=by
  unfold topFrom
  dsimp only
  rw [z1,z2,z3]
  show Option.bind (topRun treeTable p w m an N (atBoot w.params os) (topStub p)) _=_
  rw [r1]
  show (match (((staticsOk (importedModules p.main.body) (boot_heap w.params) s1.heap && namesBound p s1.heap) && gensDone s1) && laidKept (boot_heap w.params) s1.heap) with | true=>some s1 | false=>none)=_
  rw [l1]
 unfold openEnds
 rw [e0]
 show Option.map _ (topFrom treeTable p w N (atBoot w.params os))=_
 rw [tf]
 exact congrArg some (Prod.ext l2 l3)
def treeAt:List Obj→Nat→BT→BT
 | [],_,t=>t
 | o :: r,i,t=>treeAt r (i+1) (t.ins i o)
def Zd1 (ok:Thread→Bool) (stp:SharedT→Thread→Option (SharedT × Thread)):Nat→SharedT→Thread→Option SharedT
 | 0,_,_=>none
 | n+1,s,t=>match through t with
  | true=>some s
  | false=>match ok t with
   | false=>none
   | true=>match stp s t with
    | some (s1,t1)=>Zd1 ok stp n s1 t1
    | none=>none
theorem Zgy {tb:String→Option Builtin} {p:Program} {w:World} {m:Nat} {an:Option Value}:∀ {n:Nat} {s s1:SharedT} {t:Thread},Zd1 (stepOk m an) (stepT (denote tb) p w) n s t=some s1→topRun tb p w m an n s.abs t=some s1.abs
 | 0,_,_,_,h=>by cases h
 | n+1,s,s1,t,h=>by
  rw [Zd1] at h
  rw [topRun]
  cases ht:through t with
  | true=>rw [ht] at h; cases h; rfl
  | false =>
   rw [ht] at h
   cases hk:stepOk m an t with
   | false=>rw [hk] at h; cases h
   | true =>
    rw [hk] at h
    cases hs:stepT (denote tb) p w s t with
    | none=>rw [hs] at h; cases h
    | some r =>
     obtain ⟨s2,t2⟩:=r
     rw [hs] at h
     rw [stepT_spec hs]
     exact Zgy h
noncomputable def bootT (P:Params):BT:=treeAt (boot_heap P).objs.toList 0 .nil
noncomputable def Zgc (P:Params) (os:OsState):SharedT:=SharedT.mk (bootT P) 11 (boot_heap P).life (Array.mk []) boot_drawn boot_toks os
theorem bootT_is (P:Params) (os:OsState):(Zgc P os).abs=atBoot P os:=by kernel_rfl
theorem ran_of {p q:Program} {lo ms:List Str} {Xt:Shared→Bool} {α β:Type} {Yf:Shared→β} {N m:Nat} {an:Option Value} {w:World} {os:OsState} {r:Bool × α × β} {oS:Program→List Str→List Str→(Shared→Bool)→Bool→Shared→α}
  (h:Option.map (fun s=>lookO oS ms p q lo Xt Yf (boot_heap w.params) (SharedT.abs s)) (Zd1 (stepOk m an) (stepT (denote treeTable) p w) N (Zgc w.params os) (topStub p))=some r) :
  Option.map (lookO oS ms p q lo Xt Yf (boot_heap w.params)) (topRun treeTable p w m an N (atBoot w.params os) (topStub p))=some r:=by
 obtain ⟨s,e,z⟩:=Option.map_eq_some_iff.mp h
 have e:=Zgy e
 rw [bootT_is] at e
 rw [e]
 exact congrArg some z
end L2
namespace L2
open PySem PySem.W PyProof.Rows
theorem look3 {σ α β:Type} {r:Option σ} {f:σ→Bool} {g:σ→α} {k:σ→β} {a:α} {b:β} (h1:r.map f=some true) (h2:r.map g=some a) (h3:r.map k=some b):r.map (fun s=>(f s,g s,k s))=some (true,a,b):=by
 cases r with
 | none=>cases h1
 | some s =>
  have e1:=Option.some.inj h1
  have e2:=Option.some.inj h2
  have e3:=Option.some.inj h3
  exact congrArg some (Prod.ext e1 (Prod.ext e2 e3))
def lookA (ms:List Str) (p:Program) (h0:Heap) (s:Shared):Bool:=(((staticsOk ms h0 s.heap && namesBound p s.heap) && gensDone s) && laidKept h0 s.heap)
def RunA (N m:Nat) (an:Option Value) {p p':Program} {sT:(Code→Sem Fin)→Program→World→SharedT→Thread→Option (SharedT × Thread)} {dn:(String→Option Builtin)→Code→Sem Fin} {tT:String→Option Builtin} {iM:List Stmt→List Str} {oS:∀ (q:Program) (lo ms:List Str) (Xt:Shared→Bool) (g0:Bool) (s:Shared),_} (h1:@stepT=sT) (h0:@denote=dn) (h2:treeTable=tT) (h3:@importedModules=iM) (h4:@openSeen=oS) (h5:p=p'):Prop:=∀ (w:World) (os:OsState),Option.map (fun s=>lookA (iM p'.main.body) p' (boot_heap w.params) (SharedT.abs s)) (Zd1 (stepOk m an) (sT (dn tT) p' w) N (Zgc w.params os) (topStub p'))=some true
def RunB (N m:Nat) (an:Option Value) (q:Program→Program) (lo:List Str) (Xt:Program→Shared→Bool) {p p':Program} {sT:(Code→Sem Fin)→Program→World→SharedT→Thread→Option (SharedT × Thread)} {dn:(String→Option Builtin)→Code→Sem Fin} {tT:String→Option Builtin} {iM:List Stmt→List Str} {oS:∀ (q:Program) (lo ms:List Str) (Xt:Shared→Bool) (g0:Bool) (s:Shared),_} (h1:@stepT=sT) (h0:@denote=dn) (h2:treeTable=tT) (h3:@importedModules=iM) (h4:@openSeen=oS) (h5:p=p'):Prop:=∀ (w:World) (os:OsState),Option.map (fun s=>oS (q p') lo (iM p'.main.body) (Xt p') true (SharedT.abs s)) (Zd1 (stepOk m an) (sT (dn tT) p' w) N (Zgc w.params os) (topStub p'))=some (openGood (q p') lo)
def RunC (N m:Nat) (an:Option Value) {β:Type} (Yf:Shared→β) (Ya:World→β) {p p':Program} {sT:(Code→Sem Fin)→Program→World→SharedT→Thread→Option (SharedT × Thread)} {dn:(String→Option Builtin)→Code→Sem Fin} {tT:String→Option Builtin} {iM:List Stmt→List Str} {oS:∀ (q:Program) (lo ms:List Str) (Xt:Shared→Bool) (g0:Bool) (s:Shared),_} (h1:@stepT=sT) (h0:@denote=dn) (h2:treeTable=tT) (h3:@importedModules=iM) (h4:@openSeen=oS) (h5:p=p'):Prop:=∀ (w:World) (os:OsState),Option.map (fun s=>Yf (SharedT.abs s)) (Zd1 (stepOk m an) (sT (dn tT) p' w) N (Zgc w.params os) (topStub p'))=some (Ya w)
theorem run_by3 {q:Program→Program} {lo:List Str} {Xt:Program→Shared→Bool} {β:Type} {Yf:Shared→β} {Ya:World→β} {N m:Nat} {an:Option Value} {p p':Program} {sT:(Code→Sem Fin)→Program→World→SharedT→Thread→Option (SharedT × Thread)} {dn:(String→Option Builtin)→Code→Sem Fin} {tT:String→Option Builtin} {iM:List Stmt→List Str} {oS:∀ (q:Program) (lo ms:List Str) (Xt:Shared→Bool) (g0:Bool) (s:Shared),_} {h1:@stepT=sT} {h0:@denote=dn} {h2:treeTable=tT} {h3:@importedModules=iM} {h4:@openSeen=oS} {h5:p=p'}
  (rA:RunA N m an h1 h0 h2 h3 h4 h5) (rB:RunB N m an q lo Xt h1 h0 h2 h3 h4 h5) (rC:RunC N m an Yf Ya h1 h0 h2 h3 h4 h5) :
  ∀ (w:World) (os:OsState),Option.map (lookO openSeen (importedModules p.main.body) p (q p) lo (Xt p) Yf (boot_heap w.params)) (topRun treeTable p w m an N (atBoot w.params os) (topStub p))=some (true,openGood (q p) lo,Ya w):=by
 subst h1 h0 h2 h3 h4 h5
 exact fun w os=>ran_of (look3 (rA w os) (rB w os) (rC w os))
end L2
namespace L2
open PySem PySem.Spec PyProof.Rows PySem.W
def hookT (K:PySem.W.Hook) (Ts:List Addr):PySem.W.Hook :=
 ⟨K.α × List (Option Obj),fun s=>(K.obs s,Ts.map fun T=>s.heap.get? T),fun w=>(K.val w,Ts.map fun _=>some (tabObj #[])),fun w h=>K.says w h∧∀ T∈Ts,h.get? T=some (tabObj #[]),
  fun w s e=>⟨K.of w s (Prod.mk.inj e).1,fun T hT=>by
   have e2:=(Prod.mk.inj e).2
   have:=List.map_eq_map_iff.mp e2 T hT
   exact this⟩,fun w h h' x k=>⟨K.keeps w h h' x.1 k,fun T hT=>k _ _ (x.2 T hT)⟩⟩
end L2
namespace KH
open PySem PySem.W PyProof.Rows L2
def top (i:Nat):Stmt:=PySem.Challenge.pw_glazebench_k54_flawed_worths.main.body.getD i (.Pass ⟨0,0,0,0⟩)
def kE (P:Params) (x:Str) (t:Tok) (v:Value):DictEntry:=⟨PyData.keyHash P x,.str x t,v⟩
abbrev fo (a b:Str) (e:Stmt) (d m:Value) (c:Addr):Obj:=⟨(.type "function"),none,(.func (fnOf a b (Zam e) (Zak e) (Zac e) d .none .none m none (.ref c) .none)),#[]⟩
abbrev co (a b:Str) (t u v:Tok) (l n:Int) (r:Addr) (i:Int) (p q x y:Addr) (j k:Int) (z:Tok):Obj:=⟨(.type "code"),none,(.fields #[(.str a t),(.str b u),(.str "/claim/cut.py" v),(.int l 0),(.int n 0),(.int (0) 0),(.int (0) 0),(.int (3) 0),(.ref r),(.bool true),(.int i 0),(.ref p),.none,(.ref q),(.ref x),(.ref y),(.int j 0),(.int k 0),(.str "/claim/cut.py" z)]),#[]⟩
def k2 (P:Params):Obj:=⟨.none,none,(.dict #[] 0),#[]⟩
def k3 (P:Params):Obj:=⟨(.type "dict"),none,(.dict #[kE P "__name__" 165 (.str "law_glazebench_k54_flawed_worths" 740),kE P "__doc__" 166 .none,kE P "__package__" 167 .none,kE P "__loader__" 168 (.builtin "__main__.__loader__#opaque"),kE P "__spec__" 169 .none,kE P "__annotations__" 170 (.ref 6),kE P "__builtins__" 171 (.ref 4),kE P "__file__" 173 (.str "/claim/cut.py" 172),kE P "__cached__" 174 .none,kE P "_wall" 193 (.ref 21),kE P "GlassError" 213 (.ref 31),kE P "NoSide" 238 (.ref 51),kE P "TooMany" 263 (.ref 70),kE P "NoKind" 288 (.ref 89),kE P "NoFlaw" 313 (.ref 108),kE P "LONGEST_SIDE" 317 (.int (12) 316),kE P "is_whole" 324 (.ref 117),kE P "is_side" 331 (.ref 124),kE P "size_of" 338 (.ref 131),kE P "area_of" 345 (.ref 138),kE P "WHOLE" 349 (.str "whole" 348),kE P "UPRIGHT" 351 (.str "upright" 350),kE P "LEVEL" 353 (.str "level" 352),kE P "Tree" 411 (.ref 183),kE P "Whole" 436 (.ref 205),kE P "Upright" 465 (.ref 224),kE P "Level" 494 (.ref 243),kE P "cut_from" 504 (.ref 252),kE P "tree_from" 516 (.ref 259),kE P "entries_by" 528 (.ref 266),kE P "first_piece" 537 (.ref 273),kE P "other_piece" 546 (.ref 280),kE P "MOST_KINDS" 550 (.int (8) 549),kE P "GREATEST_WORTH" 552 (.int (1000000000) 551),kE P "is_kind" 559 (.ref 287),kE P "check_kinds" 568 (.ref 294),kE P "has_size" 578 (.ref 301),kE P "is_of_kind" 586 (.ref 308),kE P "choice_uncut" 597 (.ref 315),kE P "cuts_within" 603 (.ref 320),kE P "best_choice" 618 (.ref 327),kE P "tree_by" 629 (.ref 334),kE P "worths_in" 639 (.ref 341),kE P "LONGEST_FLAWED" 643 (.int (7) 642),kE P "MOST_FLAWS" 645 (.int (49) 644),kE P "check_flawed_sides" 654 (.ref 348),kE P "is_square_of" 663 (.ref 355),kE P "check_flaws" 674 (.ref 362),kE P "itself" 681 (.ref 369),kE P "runs_within" 687 (.ref 374),kE P "pieces_within" 693 (.ref 379),kE P "lies_in" 701 (.ref 386),kE P "flawed_uncut" 707 (.ref 391),kE P "choices_by_piece" 719 (.ref 398),kE P "flawed_worths" 729 (.ref 405),kE P "flawed_best" 739 (.ref 412),kE P "_law_cell" 749 (.ref 419),kE P "_law_draw" 759 (.ref 426),kE P "_law_kind" 768 (.ref 433),kE P "_law_is_of" 777 (.ref 440),kE P "_law_whole" 784 (.ref 447),kE P "_law_told" 794 (.ref 454),kE P "_law_clear" 808 (.ref 461),kE P "_law_choices" 814 (.ref 466),kE P "_law_table" 830 (.ref 473),kE P "_law_sum" 848 (.ref 480),kE P "law" 854 (.ref 485)] 67),#[]⟩
def k20 (P:Params):Obj:=co "_wall" "_wall" 187 188 189 1 1 15 181 16 17 18 19 191 1 192
def k21 (P:Params):Obj:=fo "_wall" "_wall" (top 0) .none (.str "__main__" 164) 20
def k30 (P:Params):Obj:=⟨(.type "dict"),none,(.dict #[kE P "__module__" 203 (.str "glazebench.errors" 194),kE P "__firstlineno__" 207 (.int (5) 206),kE P "__static_attributes__" 208 (.ref 29),kE P "__weakref__" 210 (.ref 32),kE P "__doc__" 211 .none] 3),#[]⟩
def k31 (P:Params):Obj:=⟨(.type "type"),none,(.cls { name:="GlassError",bases:=[(.type "ValueError")],mro:=[(.ref 31),(.type "ValueError"),(.type "Exception"),(.type "BaseException"),(.type "object")],ns:=30,qualname:="GlassError",hasDict:=true,slotNames:=[],subclasses:=[(.ref 51),(.ref 70),(.ref 89),(.ref 108)],abstract:=false,collection:=none,hasDel:=false }),#[some (.ref 22),none,some (.str "GlassError" 196),some (.str "GlassError" 204),some (.builtin "ValueError.__new__"),some (.bool true)]⟩
def k32 (P:Params):Obj:=⟨(.type "getset_descriptor"),none,(.fields #[(.str "__weakref__" 209),(.ref 31),(.builtin "ExceptionGroup.__weakref__"),.none]),#[]⟩
def k47 (P:Params):Obj:=co "__init__" "NoSide.__init__" 226 227 228 9 2 42 181 43 44 45 46 231 9 232
def k48 (P:Params):Obj:=fo "__init__" "NoSide.__init__" (Zb5 (top 3) 0) .none (.str "glazebench.errors" 194) 47
def k50 (P:Params):Obj:=⟨(.type "dict"),none,(.dict #[kE P "__module__" 221 (.str "glazebench.errors" 194),kE P "__firstlineno__" 225 (.int (7) 224),kE P "__init__" 233 (.ref 48),kE P "__static_attributes__" 235 (.ref 49),kE P "__doc__" 236 .none] 2),#[]⟩
def k51 (P:Params):Obj:=⟨(.type "type"),none,(.cls { name:="NoSide",bases:=[(.ref 31)],mro:=[(.ref 51),(.ref 31),(.type "ValueError"),(.type "Exception"),(.type "BaseException"),(.type "object")],ns:=50,qualname:="NoSide",hasDict:=true,slotNames:=[],subclasses:=[],abstract:=false,collection:=none,hasDel:=false }),#[some (.ref 35),none,some (.str "NoSide" 214),some (.str "NoSide" 222),some (.builtin "ValueError.__new__"),some (.bool true)]⟩
def k66 (P:Params):Obj:=co "__init__" "TooMany.__init__" 251 252 253 13 2 61 181 62 63 64 65 256 13 257
def k67 (P:Params):Obj:=fo "__init__" "TooMany.__init__" (Zb5 (top 4) 0) .none (.str "glazebench.errors" 194) 66
def k69 (P:Params):Obj:=⟨(.type "dict"),none,(.dict #[kE P "__module__" 246 (.str "glazebench.errors" 194),kE P "__firstlineno__" 250 (.int (11) 249),kE P "__init__" 258 (.ref 67),kE P "__static_attributes__" 260 (.ref 68),kE P "__doc__" 261 .none] 2),#[]⟩
def k70 (P:Params):Obj:=⟨(.type "type"),none,(.cls { name:="TooMany",bases:=[(.ref 31)],mro:=[(.ref 70),(.ref 31),(.type "ValueError"),(.type "Exception"),(.type "BaseException"),(.type "object")],ns:=69,qualname:="TooMany",hasDict:=true,slotNames:=[],subclasses:=[],abstract:=false,collection:=none,hasDel:=false }),#[some (.ref 54),none,some (.str "TooMany" 239),some (.str "TooMany" 247),some (.builtin "ValueError.__new__"),some (.bool true)]⟩
def k85 (P:Params):Obj:=co "__init__" "NoKind.__init__" 276 277 278 17 2 80 181 81 82 83 84 281 17 282
def k86 (P:Params):Obj:=fo "__init__" "NoKind.__init__" (Zb5 (top 5) 0) .none (.str "glazebench.errors" 194) 85
def k88 (P:Params):Obj:=⟨(.type "dict"),none,(.dict #[kE P "__module__" 271 (.str "glazebench.errors" 194),kE P "__firstlineno__" 275 (.int (15) 274),kE P "__init__" 283 (.ref 86),kE P "__static_attributes__" 285 (.ref 87),kE P "__doc__" 286 .none] 2),#[]⟩
def k89 (P:Params):Obj:=⟨(.type "type"),none,(.cls { name:="NoKind",bases:=[(.ref 31)],mro:=[(.ref 89),(.ref 31),(.type "ValueError"),(.type "Exception"),(.type "BaseException"),(.type "object")],ns:=88,qualname:="NoKind",hasDict:=true,slotNames:=[],subclasses:=[],abstract:=false,collection:=none,hasDel:=false }),#[some (.ref 73),none,some (.str "NoKind" 264),some (.str "NoKind" 272),some (.builtin "ValueError.__new__"),some (.bool true)]⟩
def k104 (P:Params):Obj:=co "__init__" "NoFlaw.__init__" 301 302 303 21 2 99 181 100 101 102 103 306 21 307
def k105 (P:Params):Obj:=fo "__init__" "NoFlaw.__init__" (Zb5 (top 6) 0) .none (.str "glazebench.errors" 194) 104
def k107 (P:Params):Obj:=⟨(.type "dict"),none,(.dict #[kE P "__module__" 296 (.str "glazebench.errors" 194),kE P "__firstlineno__" 300 (.int (19) 299),kE P "__init__" 308 (.ref 105),kE P "__static_attributes__" 310 (.ref 106),kE P "__doc__" 311 .none] 2),#[]⟩
def k108 (P:Params):Obj:=⟨(.type "type"),none,(.cls { name:="NoFlaw",bases:=[(.ref 31)],mro:=[(.ref 108),(.ref 31),(.type "ValueError"),(.type "Exception"),(.type "BaseException"),(.type "object")],ns:=107,qualname:="NoFlaw",hasDict:=true,slotNames:=[],subclasses:=[],abstract:=false,collection:=none,hasDel:=false }),#[some (.ref 92),none,some (.str "NoFlaw" 289),some (.str "NoFlaw" 297),some (.builtin "ValueError.__new__"),some (.bool true)]⟩
def k116 (P:Params):Obj:=co "is_whole" "is_whole" 318 319 320 25 1 111 181 112 113 114 115 322 25 323
def k117 (P:Params):Obj:=fo "is_whole" "is_whole" (top 9) .none (.str "glazebench.panels" 314) 116
def k123 (P:Params):Obj:=co "is_side" "is_side" 325 326 327 27 1 118 181 119 120 121 122 329 27 330
def k124 (P:Params):Obj:=fo "is_side" "is_side" (top 10) .none (.str "glazebench.panels" 314) 123
def k130 (P:Params):Obj:=co "size_of" "size_of" 332 333 334 29 1 125 181 126 127 128 129 336 29 337
def k131 (P:Params):Obj:=fo "size_of" "size_of" (top 11) .none (.str "glazebench.panels" 314) 130
def k137 (P:Params):Obj:=co "area_of" "area_of" 339 340 341 31 1 132 181 133 134 135 136 343 31 344
def k138 (P:Params):Obj:=fo "area_of" "area_of" (top 12) .none (.str "glazebench.panels" 314) 137
def k151 (P:Params):Obj:=co "leaves" "Tree.leaves" 366 367 368 39 1 146 181 147 148 149 150 370 39 371
def k152 (P:Params):Obj:=fo "leaves" "Tree.leaves" (Zb5 (top 17) 0) .none (.str "glazebench.cuts" 346) 151
def k158 (P:Params):Obj:=co "depth" "Tree.depth" 373 374 375 42 1 153 181 154 155 156 157 377 42 378
def k159 (P:Params):Obj:=fo "depth" "Tree.depth" (Zb5 (top 17) 1) .none (.str "glazebench.cuts" 346) 158
def k165 (P:Params):Obj:=co "turned" "Tree.turned" 380 381 382 45 1 160 181 161 162 163 164 384 45 385
def k166 (P:Params):Obj:=fo "turned" "Tree.turned" (Zb5 (top 17) 2) .none (.str "glazebench.cuts" 346) 165
def k172 (P:Params):Obj:=co "fits" "Tree.fits" 387 388 389 48 3 167 181 168 169 170 171 393 48 394
def k173 (P:Params):Obj:=fo "fits" "Tree.fits" (Zb5 (top 17) 3) .none (.str "glazebench.cuts" 346) 172
def k179 (P:Params):Obj:=co "same" "Tree.same" 396 397 398 51 2 174 181 175 176 177 178 401 51 402
def k180 (P:Params):Obj:=fo "same" "Tree.same" (Zb5 (top 17) 4) .none (.str "glazebench.cuts" 346) 179
def k182 (P:Params):Obj:=⟨(.type "dict"),none,(.dict #[kE P "__module__" 361 (.str "glazebench.cuts" 346),kE P "__firstlineno__" 365 (.int (37) 364),kE P "leaves" 372 (.ref 152),kE P "depth" 379 (.ref 159),kE P "turned" 386 (.ref 166),kE P "fits" 395 (.ref 173),kE P "same" 403 (.ref 180),kE P "__static_attributes__" 404 (.ref 181),kE P "__dict__" 406 (.ref 184),kE P "__weakref__" 408 (.ref 185),kE P "__doc__" 409 .none] 4),#[]⟩
def k183 (P:Params):Obj:=⟨(.type "type"),none,(.cls { name:="Tree",bases:=[(.type "object")],mro:=[(.ref 183),(.type "object")],ns:=182,qualname:="Tree",hasDict:=true,slotNames:=[],subclasses:=[(.ref 205),(.ref 224),(.ref 243)],abstract:=false,collection:=none,hasDel:=false }),#[none,none,some (.str "Tree" 354),some (.str "Tree" 362),some (.builtin "object.__new__"),some (.bool true)]⟩
def k184 (P:Params):Obj:=⟨(.type "getset_descriptor"),none,(.fields #[(.str "__dict__" 405),(.ref 183),(.builtin "function.__dict__"),(.builtin "function.__dict__#set")]),#[]⟩
def k185 (P:Params):Obj:=⟨(.type "getset_descriptor"),none,(.fields #[(.str "__weakref__" 407),(.ref 183),(.builtin "ExceptionGroup.__weakref__"),.none]),#[]⟩
def k195 (P:Params):Obj:=⟨(.type "tuple"),none,(.seq #[.none] 0),#[]⟩
def k201 (P:Params):Obj:=co "__init__" "Whole.__init__" 424 425 426 55 2 196 181 197 198 199 200 429 55 430
def k202 (P:Params):Obj:=fo "__init__" "Whole.__init__" (Zb5 (top 18) 0) (.ref 195) (.str "glazebench.cuts" 346) 201
def k204 (P:Params):Obj:=⟨(.type "dict"),none,(.dict #[kE P "__module__" 419 (.str "glazebench.cuts" 346),kE P "__firstlineno__" 423 (.int (53) 422),kE P "__init__" 431 (.ref 202),kE P "__static_attributes__" 433 (.ref 203),kE P "__doc__" 434 .none] 2),#[]⟩
def k205 (P:Params):Obj:=⟨(.type "type"),none,(.cls { name:="Whole",bases:=[(.ref 183)],mro:=[(.ref 205),(.ref 183),(.type "object")],ns:=204,qualname:="Whole",hasDict:=true,slotNames:=[],subclasses:=[],abstract:=false,collection:=none,hasDel:=false }),#[some (.ref 188),none,some (.str "Whole" 412),some (.str "Whole" 420),some (.builtin "object.__new__"),some (.bool true)]⟩
def k220 (P:Params):Obj:=co "__init__" "Upright.__init__" 449 450 451 59 4 215 181 216 217 218 219 456 59 457
def k221 (P:Params):Obj:=fo "__init__" "Upright.__init__" (Zb5 (top 19) 0) .none (.str "glazebench.cuts" 346) 220
def k223 (P:Params):Obj:=⟨(.type "dict"),none,(.dict #[kE P "__module__" 444 (.str "glazebench.cuts" 346),kE P "__firstlineno__" 448 (.int (57) 447),kE P "__init__" 458 (.ref 221),kE P "__static_attributes__" 462 (.ref 222),kE P "__doc__" 463 .none] 2),#[]⟩
def k224 (P:Params):Obj:=⟨(.type "type"),none,(.cls { name:="Upright",bases:=[(.ref 183)],mro:=[(.ref 224),(.ref 183),(.type "object")],ns:=223,qualname:="Upright",hasDict:=true,slotNames:=[],subclasses:=[],abstract:=false,collection:=none,hasDel:=false }),#[some (.ref 208),none,some (.str "Upright" 437),some (.str "Upright" 445),some (.builtin "object.__new__"),some (.bool true)]⟩
def k239 (P:Params):Obj:=co "__init__" "Level.__init__" 478 479 480 65 4 234 181 235 236 237 238 485 65 486
def k240 (P:Params):Obj:=fo "__init__" "Level.__init__" (Zb5 (top 20) 0) .none (.str "glazebench.cuts" 346) 239
def k242 (P:Params):Obj:=⟨(.type "dict"),none,(.dict #[kE P "__module__" 473 (.str "glazebench.cuts" 346),kE P "__firstlineno__" 477 (.int (63) 476),kE P "__init__" 487 (.ref 240),kE P "__static_attributes__" 491 (.ref 241),kE P "__doc__" 492 .none] 2),#[]⟩
def k243 (P:Params):Obj:=⟨(.type "type"),none,(.cls { name:="Level",bases:=[(.ref 183)],mro:=[(.ref 243),(.ref 183),(.type "object")],ns:=242,qualname:="Level",hasDict:=true,slotNames:=[],subclasses:=[],abstract:=false,collection:=none,hasDel:=false }),#[some (.ref 227),none,some (.str "Level" 466),some (.str "Level" 474),some (.builtin "object.__new__"),some (.bool true)]⟩
def k251 (P:Params):Obj:=co "cut_from" "cut_from" 495 496 497 69 4 246 181 247 248 249 250 502 69 503
def k252 (P:Params):Obj:=fo "cut_from" "cut_from" (top 21) .none (.str "glazebench.cuts" 346) 251
def k258 (P:Params):Obj:=co "tree_from" "tree_from" 505 506 507 73 1 253 181 254 255 256 257 514 73 515
def k259 (P:Params):Obj:=fo "tree_from" "tree_from" (top 22) .none (.str "glazebench.cuts" 346) 258
def k265 (P:Params):Obj:=co "entries_by" "entries_by" 517 518 519 83 2 260 181 261 262 263 264 526 83 527
def k266 (P:Params):Obj:=fo "entries_by" "entries_by" (top 23) .none (.str "glazebench.cuts" 346) 265
def k272 (P:Params):Obj:=co "first_piece" "first_piece" 529 530 531 94 3 267 181 268 269 270 271 535 94 536
def k273 (P:Params):Obj:=fo "first_piece" "first_piece" (top 24) .none (.str "glazebench.cuts" 346) 272
def k279 (P:Params):Obj:=co "other_piece" "other_piece" 538 539 540 98 3 274 181 275 276 277 278 544 98 545
def k280 (P:Params):Obj:=fo "other_piece" "other_piece" (top 25) .none (.str "glazebench.cuts" 346) 279
def k286 (P:Params):Obj:=co "is_kind" "is_kind" 553 554 555 105 1 281 181 282 283 284 285 557 105 558
def k287 (P:Params):Obj:=fo "is_kind" "is_kind" (top 29) .none (.str "glazebench.worths" 547) 286
def k293 (P:Params):Obj:=co "check_kinds" "check_kinds" 560 561 562 111 1 288 181 289 290 291 292 566 111 567
def k294 (P:Params):Obj:=fo "check_kinds" "check_kinds" (top 30) .none (.str "glazebench.worths" 547) 293
def k300 (P:Params):Obj:=co "has_size" "has_size" 569 570 571 117 4 295 181 296 297 298 299 576 117 577
def k301 (P:Params):Obj:=fo "has_size" "has_size" (top 31) .none (.str "glazebench.worths" 547) 300
def k307 (P:Params):Obj:=co "is_of_kind" "is_of_kind" 579 580 581 119 2 302 181 303 304 305 306 584 119 585
def k308 (P:Params):Obj:=fo "is_of_kind" "is_of_kind" (top 32) .none (.str "glazebench.worths" 547) 307
def k314 (P:Params):Obj:=co "choice_uncut" "choice_uncut" 587 588 589 121 2 309 181 310 311 312 313 595 121 596
def k315 (P:Params):Obj:=fo "choice_uncut" "choice_uncut" (top 33) .none (.str "glazebench.worths" 547) 314
def k319 (P:Params):Obj:=⟨(.type "code"),none,(.fields #[(.str "cuts_within" 598),(.str "cuts_within" 599),(.str "/claim/cut.py" 600),(.int (127) 0),(.int (1) 0),(.int (0) 0),(.int (0) 0),(.int (3) 0),(.ref 316),(.bool true),(.int (181) 0),(.ref 317),.none,.none,.none,(.ref 318),(.int (601) 0),(.int (127) 0),(.str "/claim/cut.py" 602)]),#[]⟩
def k320 (P:Params):Obj:=fo "cuts_within" "cuts_within" (top 34) .none (.str "glazebench.worths" 547) 319
def k326 (P:Params):Obj:=co "best_choice" "best_choice" 604 605 606 130 4 321 181 322 323 324 325 616 130 617
def k327 (P:Params):Obj:=fo "best_choice" "best_choice" (top 35) .none (.str "glazebench.worths" 547) 326
def k333 (P:Params):Obj:=co "tree_by" "tree_by" 619 620 621 138 3 328 181 329 330 331 332 627 138 628
def k334 (P:Params):Obj:=fo "tree_by" "tree_by" (top 36) .none (.str "glazebench.worths" 547) 333
def k340 (P:Params):Obj:=co "worths_in" "worths_in" 630 631 632 140 1 335 181 336 337 338 339 637 140 638
def k341 (P:Params):Obj:=fo "worths_in" "worths_in" (top 37) .none (.str "glazebench.worths" 547) 340
def k347 (P:Params):Obj:=co "check_flawed_sides" "check_flawed_sides" 646 647 648 148 2 342 181 343 344 345 346 652 148 653
def k348 (P:Params):Obj:=fo "check_flawed_sides" "check_flawed_sides" (top 41) .none (.str "glazebench.flaws" 640) 347
def k354 (P:Params):Obj:=co "is_square_of" "is_square_of" 655 656 657 152 3 349 181 350 351 352 353 661 152 662
def k355 (P:Params):Obj:=fo "is_square_of" "is_square_of" (top 42) .none (.str "glazebench.flaws" 640) 354
def k361 (P:Params):Obj:=co "check_flaws" "check_flaws" 664 665 666 158 3 356 181 357 358 359 360 672 158 673
def k362 (P:Params):Obj:=fo "check_flaws" "check_flaws" (top 43) .none (.str "glazebench.flaws" 640) 361
def k368 (P:Params):Obj:=co "itself" "itself" 675 676 677 164 1 363 181 364 365 366 367 679 164 680
def k369 (P:Params):Obj:=fo "itself" "itself" (top 44) .none (.str "glazebench.flaws" 640) 368
def k373 (P:Params):Obj:=⟨(.type "code"),none,(.fields #[(.str "runs_within" 682),(.str "runs_within" 683),(.str "/claim/cut.py" 684),(.int (166) 0),(.int (1) 0),(.int (0) 0),(.int (0) 0),(.int (3) 0),(.ref 370),(.bool true),(.int (181) 0),(.ref 371),.none,.none,.none,(.ref 372),(.int (685) 0),(.int (166) 0),(.str "/claim/cut.py" 686)]),#[]⟩
def k374 (P:Params):Obj:=fo "runs_within" "runs_within" (top 45) .none (.str "glazebench.flaws" 640) 373
def k378 (P:Params):Obj:=⟨(.type "code"),none,(.fields #[(.str "pieces_within" 688),(.str "pieces_within" 689),(.str "/claim/cut.py" 690),(.int (171) 0),(.int (2) 0),(.int (0) 0),(.int (0) 0),(.int (3) 0),(.ref 375),(.bool true),(.int (181) 0),(.ref 376),.none,.none,.none,(.ref 377),(.int (691) 0),(.int (171) 0),(.str "/claim/cut.py" 692)]),#[]⟩
def k379 (P:Params):Obj:=fo "pieces_within" "pieces_within" (top 46) .none (.str "glazebench.flaws" 640) 378
def k385 (P:Params):Obj:=co "lies_in" "lies_in" 694 695 696 176 2 380 181 381 382 383 384 699 176 700
def k386 (P:Params):Obj:=fo "lies_in" "lies_in" (top 47) .none (.str "glazebench.flaws" 640) 385
def k390 (P:Params):Obj:=⟨(.type "code"),none,(.fields #[(.str "flawed_uncut" 702),(.str "flawed_uncut" 703),(.str "/claim/cut.py" 704),(.int (178) 0),(.int (3) 0),(.int (0) 0),(.int (0) 0),(.int (3) 0),(.ref 387),(.bool true),(.int (181) 0),(.ref 388),.none,.none,.none,(.ref 389),(.int (705) 0),(.int (178) 0),(.str "/claim/cut.py" 706)]),#[]⟩
def k391 (P:Params):Obj:=fo "flawed_uncut" "flawed_uncut" (top 48) .none (.str "glazebench.flaws" 640) 390
def k397 (P:Params):Obj:=co "choices_by_piece" "choices_by_piece" 708 709 710 182 4 392 181 393 394 395 396 717 182 718
def k398 (P:Params):Obj:=fo "choices_by_piece" "choices_by_piece" (top 49) .none (.str "glazebench.flaws" 640) 397
def k404 (P:Params):Obj:=co "flawed_worths" "flawed_worths" 720 721 722 190 4 399 181 400 401 402 403 727 190 728
def k405 (P:Params):Obj:=fo "flawed_worths" "flawed_worths" (top 50) .none (.str "glazebench.flaws" 640) 404
def k411 (P:Params):Obj:=co "flawed_best" "flawed_best" 730 731 732 192 4 406 181 407 408 409 410 737 192 738
def k412 (P:Params):Obj:=fo "flawed_best" "flawed_best" (top 51) .none (.str "glazebench.flaws" 640) 411
def k418 (P:Params):Obj:=co "_law_cell" "_law_cell" 742 743 744 195 2 413 181 414 415 416 417 747 195 748
def k419 (P:Params):Obj:=fo "_law_cell" "_law_cell" (top 53) .none (.str "law_glazebench_k54_flawed_worths" 740) 418
def k425 (P:Params):Obj:=co "_law_draw" "_law_draw" 750 751 752 199 3 420 181 421 422 423 424 757 199 758
def k426 (P:Params):Obj:=fo "_law_draw" "_law_draw" (top 54) .none (.str "law_glazebench_k54_flawed_worths" 740) 425
def k432 (P:Params):Obj:=co "_law_kind" "_law_kind" 760 761 762 202 1 427 181 428 429 430 431 766 202 767
def k433 (P:Params):Obj:=fo "_law_kind" "_law_kind" (top 55) .none (.str "law_glazebench_k54_flawed_worths" 740) 432
def k439 (P:Params):Obj:=co "_law_is_of" "_law_is_of" 769 770 771 206 3 434 181 435 436 437 438 775 206 776
def k440 (P:Params):Obj:=fo "_law_is_of" "_law_is_of" (top 56) .none (.str "law_glazebench_k54_flawed_worths" 740) 439
def k446 (P:Params):Obj:=co "_law_whole" "_law_whole" 778 779 780 210 1 441 181 442 443 444 445 782 210 783
def k447 (P:Params):Obj:=fo "_law_whole" "_law_whole" (top 57) .none (.str "law_glazebench_k54_flawed_worths" 740) 446
def k453 (P:Params):Obj:=co "_law_told" "_law_told" 785 786 787 212 1 448 181 449 450 451 452 792 212 793
def k454 (P:Params):Obj:=fo "_law_told" "_law_told" (top 58) .none (.str "law_glazebench_k54_flawed_worths" 740) 453
def k460 (P:Params):Obj:=co "_law_clear" "_law_clear" 795 796 797 227 2 455 181 456 457 458 459 806 227 807
def k461 (P:Params):Obj:=fo "_law_clear" "_law_clear" (top 59) .none (.str "law_glazebench_k54_flawed_worths" 740) 460
def k465 (P:Params):Obj:=⟨(.type "code"),none,(.fields #[(.str "_law_choices" 809),(.str "_law_choices" 810),(.str "/claim/cut.py" 811),(.int (233) 0),(.int (4) 0),(.int (0) 0),(.int (0) 0),(.int (3) 0),(.ref 462),(.bool true),(.int (181) 0),(.ref 463),.none,.none,.none,(.ref 464),(.int (812) 0),(.int (233) 0),(.str "/claim/cut.py" 813)]),#[]⟩
def k466 (P:Params):Obj:=fo "_law_choices" "_law_choices" (top 60) .none (.str "law_glazebench_k54_flawed_worths" 740) 465
def k472 (P:Params):Obj:=co "_law_table" "_law_table" 815 816 817 243 5 467 181 468 469 470 471 828 243 829
def k473 (P:Params):Obj:=fo "_law_table" "_law_table" (top 61) .none (.str "law_glazebench_k54_flawed_worths" 740) 472
def k479 (P:Params):Obj:=co "_law_sum" "_law_sum" 831 832 833 254 4 474 181 475 476 477 478 846 254 847
def k480 (P:Params):Obj:=fo "_law_sum" "_law_sum" (top 62) .none (.str "law_glazebench_k54_flawed_worths" 740) 479
def k484 (P:Params):Obj:=⟨(.type "code"),none,(.fields #[(.str "law" 849),(.str "law" 850),(.str "/claim/cut.py" 851),(.int (278) 0),(.int (1) 0),(.int (0) 0),(.int (0) 0),(.int (3) 0),(.ref 481),(.bool true),(.int (181) 0),(.ref 482),.none,.none,.none,(.ref 483),(.int (852) 0),(.int (278) 0),(.str "/claim/cut.py" 853)]),#[]⟩
def k485 (P:Params):Obj:=fo "law" "law" (top 63) .none (.str "law_glazebench_k54_flawed_worths" 740) 484
def k4 (P:Params):Obj:=⟨(.type "module"),(some 0),.plain,#[]⟩
def KK:Params→Frag:=fun P=>(nat_lit 2,k2 P) :: (nat_lit 3,k3 P) :: (nat_lit 20,k20 P) :: (nat_lit 21,k21 P) :: (nat_lit 30,k30 P) :: (nat_lit 31,k31 P) :: (nat_lit 32,k32 P) :: (nat_lit 47,k47 P) :: (nat_lit 48,k48 P) :: (nat_lit 50,k50 P) :: (nat_lit 51,k51 P) :: (nat_lit 66,k66 P) :: (nat_lit 67,k67 P) :: (nat_lit 69,k69 P) :: (nat_lit 70,k70 P) :: (nat_lit 85,k85 P) :: (nat_lit 86,k86 P) :: (nat_lit 88,k88 P) :: (nat_lit 89,k89 P) :: (nat_lit 104,k104 P) :: (nat_lit 105,k105 P) :: (nat_lit 107,k107 P) :: (nat_lit 108,k108 P) :: (nat_lit 116,k116 P) :: (nat_lit 117,k117 P) :: (nat_lit 123,k123 P) :: (nat_lit 124,k124 P) :: (nat_lit 130,k130 P) :: (nat_lit 131,k131 P) :: (nat_lit 137,k137 P) :: (nat_lit 138,k138 P) :: (nat_lit 151,k151 P) :: (nat_lit 152,k152 P) :: (nat_lit 158,k158 P) :: (nat_lit 159,k159 P) :: (nat_lit 165,k165 P) :: (nat_lit 166,k166 P) :: (nat_lit 172,k172 P) :: (nat_lit 173,k173 P) :: (nat_lit 179,k179 P) :: (nat_lit 180,k180 P) :: (nat_lit 182,k182 P) :: (nat_lit 183,k183 P) :: (nat_lit 184,k184 P) :: (nat_lit 185,k185 P) :: (nat_lit 195,k195 P) :: (nat_lit 201,k201 P) :: (nat_lit 202,k202 P) :: (nat_lit 204,k204 P) :: (nat_lit 205,k205 P) :: (nat_lit 220,k220 P) :: (nat_lit 221,k221 P) :: (nat_lit 223,k223 P) :: (nat_lit 224,k224 P) :: (nat_lit 239,k239 P) :: (nat_lit 240,k240 P) :: (nat_lit 242,k242 P) :: (nat_lit 243,k243 P) :: (nat_lit 251,k251 P) :: (nat_lit 252,k252 P) :: (nat_lit 258,k258 P) :: (nat_lit 259,k259 P) :: (nat_lit 265,k265 P) :: (nat_lit 266,k266 P) :: (nat_lit 272,k272 P) :: (nat_lit 273,k273 P) :: (nat_lit 279,k279 P) :: (nat_lit 280,k280 P) :: (nat_lit 286,k286 P) :: (nat_lit 287,k287 P) :: (nat_lit 293,k293 P) :: (nat_lit 294,k294 P) :: (nat_lit 300,k300 P) :: (nat_lit 301,k301 P) :: (nat_lit 307,k307 P) :: (nat_lit 308,k308 P) :: (nat_lit 314,k314 P) :: (nat_lit 315,k315 P) :: (nat_lit 319,k319 P) :: (nat_lit 320,k320 P) :: (nat_lit 326,k326 P) :: (nat_lit 327,k327 P) :: (nat_lit 333,k333 P) :: (nat_lit 334,k334 P) :: (nat_lit 340,k340 P) :: (nat_lit 341,k341 P) :: (nat_lit 347,k347 P) :: (nat_lit 348,k348 P) :: (nat_lit 354,k354 P) :: (nat_lit 355,k355 P) :: (nat_lit 361,k361 P) :: (nat_lit 362,k362 P) :: (nat_lit 368,k368 P) :: (nat_lit 369,k369 P) :: (nat_lit 373,k373 P) :: (nat_lit 374,k374 P) :: (nat_lit 378,k378 P) :: (nat_lit 379,k379 P) :: (nat_lit 385,k385 P) :: (nat_lit 386,k386 P) :: (nat_lit 390,k390 P) :: (nat_lit 391,k391 P) :: (nat_lit 397,k397 P) :: (nat_lit 398,k398 P) :: (nat_lit 404,k404 P) :: (nat_lit 405,k405 P) :: (nat_lit 411,k411 P) :: (nat_lit 412,k412 P) :: (nat_lit 418,k418 P) :: (nat_lit 419,k419 P) :: (nat_lit 425,k425 P) :: (nat_lit 426,k426 P) :: (nat_lit 432,k432 P) :: (nat_lit 433,k433 P) :: (nat_lit 439,k439 P) :: (nat_lit 440,k440 P) :: (nat_lit 446,k446 P) :: (nat_lit 447,k447 P) :: (nat_lit 453,k453 P) :: (nat_lit 454,k454 P) :: (nat_lit 460,k460 P) :: (nat_lit 461,k461 P) :: (nat_lit 465,k465 P) :: (nat_lit 466,k466 P) :: (nat_lit 472,k472 P) :: (nat_lit 473,k473 P) :: (nat_lit 479,k479 P) :: (nat_lit 480,k480 P) :: (nat_lit 484,k484 P) :: (nat_lit 485,k485 P) :: (nat_lit 4,k4 P) :: []
def kas:List Addr:=nat_lit 2 :: nat_lit 3 :: nat_lit 20 :: nat_lit 21 :: nat_lit 30 :: nat_lit 31 :: nat_lit 32 :: nat_lit 47 :: nat_lit 48 :: nat_lit 50 :: nat_lit 51 :: nat_lit 66 :: nat_lit 67 :: nat_lit 69 :: nat_lit 70 :: nat_lit 85 :: nat_lit 86 :: nat_lit 88 :: nat_lit 89 :: nat_lit 104 :: nat_lit 105 :: nat_lit 107 :: nat_lit 108 :: nat_lit 116 :: nat_lit 117 :: nat_lit 123 :: nat_lit 124 :: nat_lit 130 :: nat_lit 131 :: nat_lit 137 :: nat_lit 138 :: nat_lit 151 :: nat_lit 152 :: nat_lit 158 :: nat_lit 159 :: nat_lit 165 :: nat_lit 166 :: nat_lit 172 :: nat_lit 173 :: nat_lit 179 :: nat_lit 180 :: nat_lit 182 :: nat_lit 183 :: nat_lit 184 :: nat_lit 185 :: nat_lit 195 :: nat_lit 201 :: nat_lit 202 :: nat_lit 204 :: nat_lit 205 :: nat_lit 220 :: nat_lit 221 :: nat_lit 223 :: nat_lit 224 :: nat_lit 239 :: nat_lit 240 :: nat_lit 242 :: nat_lit 243 :: nat_lit 251 :: nat_lit 252 :: nat_lit 258 :: nat_lit 259 :: nat_lit 265 :: nat_lit 266 :: nat_lit 272 :: nat_lit 273 :: nat_lit 279 :: nat_lit 280 :: nat_lit 286 :: nat_lit 287 :: nat_lit 293 :: nat_lit 294 :: nat_lit 300 :: nat_lit 301 :: nat_lit 307 :: nat_lit 308 :: nat_lit 314 :: nat_lit 315 :: nat_lit 319 :: nat_lit 320 :: nat_lit 326 :: nat_lit 327 :: nat_lit 333 :: nat_lit 334 :: nat_lit 340 :: nat_lit 341 :: nat_lit 347 :: nat_lit 348 :: nat_lit 354 :: nat_lit 355 :: nat_lit 361 :: nat_lit 362 :: nat_lit 368 :: nat_lit 369 :: nat_lit 373 :: nat_lit 374 :: nat_lit 378 :: nat_lit 379 :: nat_lit 385 :: nat_lit 386 :: nat_lit 390 :: nat_lit 391 :: nat_lit 397 :: nat_lit 398 :: nat_lit 404 :: nat_lit 405 :: nat_lit 411 :: nat_lit 412 :: nat_lit 418 :: nat_lit 419 :: nat_lit 425 :: nat_lit 426 :: nat_lit 432 :: nat_lit 433 :: nat_lit 439 :: nat_lit 440 :: nat_lit 446 :: nat_lit 447 :: nat_lit 453 :: nat_lit 454 :: nat_lit 460 :: nat_lit 461 :: nat_lit 465 :: nat_lit 466 :: nat_lit 472 :: nat_lit 473 :: nat_lit 479 :: nat_lit 480 :: nat_lit 484 :: nat_lit 485 :: nat_lit 4 :: []
def keeps:List Nat:=0 :: 2 :: 3 :: 4 :: 5 :: 6 :: 8 :: 9 :: 10 :: 11 :: 12 :: 14 :: 15 :: 16 :: 17 :: 18 :: 19 :: 20 :: 21 :: 22 :: 23 :: 24 :: 25 :: 27 :: 28 :: 29 :: 30 :: 31 :: 32 :: 33 :: 34 :: 35 :: 36 :: 37 :: 39 :: 40 :: 41 :: 42 :: 43 :: 44 :: 45 :: 46 :: 47 :: 48 :: 49 :: 50 :: 51 :: 53 :: 54 :: 55 :: 56 :: 57 :: 58 :: 59 :: 60 :: 61 :: 62 :: 63 :: []
def lo:List Str:=["Whole"]
def Ts:List Addr:=nat_lit 329 :: []
theorem prep (h:PySem.Challenge.rw_glazebench_k54_flawed_worths.row.wellSaid=true→PySem.Challenge.rw_glazebench_k54_flawed_worths.row.Holds):PySem.Challenge.rw_glazebench_k54_flawed_worths.Holds:=by
 w_on
 o_law
 exact h (by assumption)
def qv (p:Program):Program:=view p keeps
def Xp (p:Program) (s:Shared):Bool:=xlAt (qv p) [] s && recOk (RowW.records (OpenRow.toRowW PySem.Challenge.rw_glazebench_k54_flawed_worths.row)) s
theorem kas_is (P:Params):kas=(KK P).map (fun x=>x.1):=by kernel_rfl
theorem op_is:opening PySem.Challenge.pw_glazebench_k54_flawed_worths=plainProg PySem.Challenge.pw_glazebench_k54_flawed_worths.main.scope.names:=by kernel_rfl
theorem fence_is (s:Shared):fenceModules? PySem.Challenge.pw_glazebench_k54_flawed_worths s=some s:=by kernel_rfl
theorem boot_is (w:World):((boot_heap w.params).isNs mainGlobals,(boot_heap w.params).objs.size,(boot_heap w.params).nsMap mainGlobals "__annotations__")=(true,11,(some (.ref 6))):=by kernel_rfl
theorem ranA:RunA 7434 11 (some (.ref 6)) PySem.W.Fast.te10156331382660048174 PySem.W.Fast.te11892475500146522536 PySem.W.Fast.te14364793385576792824 PySem.W.Fast.te5923862056798008813 PySem.W.Fast.te4187177175401517315 PySem.W.Fast.te10036573822726190784:=fun w os=>by kernel_rfl
theorem ranB:RunB 7434 11 (some (.ref 6)) qv lo Xp PySem.W.Fast.te10156331382660048174 PySem.W.Fast.te11892475500146522536 PySem.W.Fast.te14364793385576792824 PySem.W.Fast.te5923862056798008813 PySem.W.Fast.te4187177175401517315 PySem.W.Fast.te10036573822726190784:=fun w os=>by kernel_rfl
theorem ranC:RunC 7434 11 (some (.ref 6)) (hookT (kHook KK kas kas_is) Ts).obs (hookT (kHook KK kas kas_is) Ts).val PySem.W.Fast.te10156331382660048174 PySem.W.Fast.te11892475500146522536 PySem.W.Fast.te14364793385576792824 PySem.W.Fast.te5923862056798008813 PySem.W.Fast.te4187177175401517315 PySem.W.Fast.te10036573822726190784:=fun w os=>by kernel_rfl
theorem ran:∀ (w:World) (os:OsState),Option.map (lookO openSeen (importedModules PySem.Challenge.pw_glazebench_k54_flawed_worths.main.body) PySem.Challenge.pw_glazebench_k54_flawed_worths (qv PySem.Challenge.pw_glazebench_k54_flawed_worths) lo (Xp PySem.Challenge.pw_glazebench_k54_flawed_worths) (hookT (kHook KK kas kas_is) Ts).obs (boot_heap w.params)) (topRun treeTable PySem.Challenge.pw_glazebench_k54_flawed_worths w 11 (some (.ref 6)) 7434 (atBoot w.params os) (topStub PySem.Challenge.pw_glazebench_k54_flawed_worths))=some (true,openGood (qv PySem.Challenge.pw_glazebench_k54_flawed_worths) lo,(hookT (kHook KK kas kas_is) Ts).val w):=run_by3 ranA ranB ranC
theorem left:LeftO PySem.Challenge.pw_glazebench_k54_flawed_worths (qv PySem.Challenge.pw_glazebench_k54_flawed_worths) lo (Xp PySem.Challenge.pw_glazebench_k54_flawed_worths) (hookT (kHook KK kas kas_is) Ts).obs (hookT (kHook KK kas kas_is) Ts).val 7434:=left_once (boot_open op_is (by decide) fence_is) boot_is ran
end KH
namespace L2
open PySem PySem.Spec PyProof.Rows
section
variable {M:Model} {A:Around} {E:Value→Shared→Prop} {s:Shared}
def gallopG:Bool→Keyed→Array Keyed→Nat→Nat→Nat→StateT SortSt Sem (Option Nat):=sortPriv% PySem.Builtin.gallop
def AskG (M:Model) (A:Around) (E:Value→Shared→Prop) (s:Shared) (left:Bool) (key:Keyed) (arr:Array Keyed) (base n:Nat) (kd:SortKind) (B:Nat→Bool):Prop :=
 ∀ i,i < n→∀ (st:SortSt) (Q:Option Bool→SortSt→Prop),kindOf st=kd→Q (some (B i)) st→wpS M A E s (elem' arr (base+i) >>= fun x=>if left=true then lt' x key else lt' key x >>= fun r=>pure (r.map (!·))) Q st
theorem halve {n:Nat} {B:Nat→Bool} {f:Nat→Option (Option Nat) × Nat × Nat→StateT SortSt Sem (ForInStep (Option (Option Nat) × Nat × Nat))} {g:Option (Option Nat) × Nat × Nat→StateT SortSt Sem (Option Nat)} {lo hi:Nat} {st:SortSt} {Q:Option Nat→SortSt→Prop} (mono:∀ i j,i≤j→j < n→B j=true→B i=true)
  (hf:∀ x lo hi (Q':ForInStep (Option (Option Nat) × Nat × Nat)→SortSt→Prop),hi≤n→(lo≥hi→Q' (.done (none,lo,hi)) st)→(lo < hi→B (lo+(hi - lo) / 2)=true→Q' (.yield (none,lo+(hi - lo) / 2+1,hi)) st)→(lo < hi→B (lo+(hi - lo) / 2)=false→Q' (.yield (none,lo,lo+(hi - lo) / 2)) st)→wpS M A E s (f x (none,lo,hi)) Q' st)
  (hg:∀ lo hi,g (none,lo,hi)=pure (some hi)) (h1:lo≤hi) (h2:hi≤n) (h3:∀ i,i < lo→B i=true) (h4:∀ i,hi≤i→i < n→B i=false)
  (h:∀ k,k≤n→(∀ i,i < k→B i=true)→(∀ i,k≤i→i < n→B i=false)→Q (some k) st):wpS M A E s (forIn [0:n] (none,lo,hi) f >>= g) Q st:=by
 have anti:∀ i j,i≤j→j < n→B i=false→B j=false:=fun i j hij hj hi=>by
  cases e:B j with
  | false=>rfl
  | true=>rw [mono i j hij hj e] at hi; cases hi
 refine wpS_bind (wpS_mono (wpS_forRange (I:=fun x (c:Option (Option Nat) × Nat × Nat) st'=>st'=st∧c.1=none∧c.2.1≤c.2.2∧c.2.2≤n∧(c.2.2 - c.2.1)+x≤n∧(∀ i,i < c.2.1→B i=true)∧(∀ i,c.2.2≤i→i < n→B i=false))
  (Q:=fun (c:Option (Option Nat) × Nat × Nat) st'=>st'=st∧c.1=none∧c.2.2≤n∧(∀ i,i < c.2.2→B i=true)∧(∀ i,c.2.2≤i→i < n→B i=false)) ?step ?fin (And.intro rfl ⟨rfl,h1,h2,by show hi - lo+0≤n; omega,h3,h4⟩)) ?post)
 case fin =>
  rintro ⟨r,lo,hi⟩ st' ⟨e,e1,c1,c2,c3,c4,c5⟩
  have:lo=hi:=by
   have c3:hi - lo+max 0 n≤n:=c3
   have c1:lo≤hi:=c1
   omega
  subst this
  exact And.intro e ⟨e1,c2,c4,c5⟩
 case step =>
  rintro x ⟨r,lo,hi⟩ st' _ hx ⟨e,e1,c1,c2,c3,c4,c5⟩
  have e1:r=none:=e1
  subst e1
  subst e
  have c1:lo≤hi:=c1
  have c2:hi≤n:=c2
  have c3:hi - lo+x≤n:=c3
  have c4:∀ i,i < lo→B i=true:=c4
  have c5:∀ i,hi≤i→i < n→B i=false:=c5
  refine hf x lo hi _ c2 (fun hl=>?_) (fun hl hb=>?_) (fun hl hb=>?_)
  ·have:lo=hi:=by omega
   subst this
   exact And.intro rfl ⟨rfl,c2,c4,c5⟩
  ·refine And.intro rfl ⟨rfl,by show lo+(hi - lo) / 2+1≤hi; omega,c2,by show hi - (lo+(hi - lo) / 2+1)+(x+1)≤n; omega,fun i hi'=>?_,c5⟩
   exact mono i _ (by have:i < lo+(hi - lo) / 2+1:=hi'; omega) (by omega) hb
  ·refine And.intro rfl ⟨rfl,by show lo≤lo+(hi - lo) / 2; omega,by show lo+(hi - lo) / 2≤n; omega,by show lo+(hi - lo) / 2 - lo+(x+1)≤n; omega,c4,fun i h1 h2=>?_⟩
   exact anti _ i h1 h2 hb
 case post =>
  rintro ⟨r,lo,hi⟩ st' ⟨e,e1,c1,c2,c3⟩
  have e1:r=none:=e1
  subst e1
  subst e
  rw [hg]
  exact wpS_pure (h hi c1 c2 c3)
theorem stride {n mx:Nat} {C:Nat→Bool} {f:Nat→Option (Option Nat) × Nat × Nat→StateT SortSt Sem (ForInStep (Option (Option Nat) × Nat × Nat))} {g:Option (Option Nat) × Nat × Nat→StateT SortSt Sem (Option Nat)} {st:SortSt} {Q:Option Nat→SortSt→Prop} (hmx:mx≤n) (h1:1≤mx) (c0:C 0=true)
  (hf:∀ x la of (Q':ForInStep (Option (Option Nat) × Nat × Nat)→SortSt→Prop),(of≥mx→Q' (.done (none,la,of)) st)→(of < mx→C of=false→Q' (.done (none,la,of)) st)→(of < mx→C of=true→Q' (.yield (none,of,2 * of+1)) st)→wpS M A E s (f x (none,la,of)) Q' st)
  (hg:∀ la of,la < of→la < mx→C la=true→(of≥mx∨(of < mx∧C of=false))→wpS M A E s (g (none,la,of)) Q st):wpS M A E s (forIn [0:n] (none,0,1) f >>= g) Q st:=by
 refine wpS_bind (wpS_mono (wpS_forRange (I:=fun x (c:Option (Option Nat) × Nat × Nat) st'=>st'=st∧c.1=none∧c.2.1 < c.2.2∧c.2.1 < mx∧x+1≤c.2.2∧C c.2.1=true)
  (Q:=fun (c:Option (Option Nat) × Nat × Nat) st'=>st'=st∧c.1=none∧c.2.1 < c.2.2∧c.2.1 < mx∧C c.2.1=true∧(c.2.2≥mx∨(c.2.2 < mx∧C c.2.2=false))) ?step ?fin (And.intro rfl ⟨rfl,by show 0 < 1; omega,by show 0 < mx; omega,by show 0+1≤1; omega,c0⟩)) ?post)
 case fin =>
  rintro ⟨r,la,of⟩ st' ⟨e,e1,c1,c2,c3,c4⟩
  have c3:max 0 n+1≤of:=c3
  exact And.intro e ⟨e1,c1,c2,c4,.inl (by show of≥mx; omega)⟩
 case step =>
  rintro x ⟨r,la,of⟩ st' _ hx ⟨e,e1,c1,c2,c3,c4⟩
  have e1:r=none:=e1
  subst e1
  subst e
  have c1:la < of:=c1
  have c2:la < mx:=c2
  have c3:x+1≤of:=c3
  refine hf x la of _ (fun hl=>?_) (fun hl hb=>?_) (fun hl hb=>?_)
  ·exact And.intro rfl ⟨rfl,c1,c2,c4,.inl hl⟩
  ·exact And.intro rfl ⟨rfl,c1,c2,c4,.inr ⟨hl,hb⟩⟩
  ·exact And.intro rfl ⟨rfl,by show of < 2 * of+1; omega,hl,by show x+1+1≤2 * of+1; omega,hb⟩
 case post =>
  rintro ⟨r,la,of⟩ st' ⟨e,e1,c1,c2,c3,c4⟩
  have e1:r=none:=e1
  subst e1
  subst e
  exact hg la of c1 c2 c3 c4
theorem Za5 {left:Bool} {key:Keyed} {arr:Array Keyed} {base n hint:Nat} {kd:SortKind} {B:Nat→Bool} {st:SortSt} {Q:Option Nat→SortSt→Prop} (hk:kindOf st=kd) (ask:AskG M A E s left key arr base n kd B) (mono:∀ i j,i≤j→j < n→B j=true→B i=true) (hh:hint < n)
  (h:∀ k,k≤n→(∀ i,i < k→B i=true)→(∀ i,k≤i→i < n→B i=false)→Q (some k) st):wpS M A E s (gallopG left key arr base n hint) Q st:=by
 have anti:∀ i j,i≤j→j < n→B i=false→B j=false:=fun i j hij hj hi=>by
  cases e:B j with
  | false=>rfl
  | true=>rw [mono i j hij hj e] at hi; cases hi
 refine wpS_bind (ask hint hh st _ hk ?_)
 dsimp only
 cases hr:B hint with
 | true =>
  rw [if_pos rfl]
  refine stride (mx:=n - hint) (C:=fun o=>B (hint+o)) (by omega) (by omega) hr (fun x la of Q' k1 k2 k3=>?_) (fun la of d1 d2 d3 d4=>?_)
  ·dsimp only
   by_cases hl:of≥n - hint
   ·rw [if_pos hl]; exact wpS_pure (k1 hl)
   ·rw [if_neg hl]
    refine wpS_bind (ask (hint+of) (by omega) st _ hk ?_)
    dsimp only
    cases hb:B (hint+of) with
    | true=>exact wpS_pure (k3 (by omega) hb)
    | false=>exact wpS_pure (k2 (by omega) hb)
  ·dsimp only
   refine halve mono (fun x lo hi Q' hn k1 k2 k3=>?_) (fun lo hi=>rfl) (by omega) (by omega) (fun i hi=>mono i (hint+la) (by omega) (by omega) d3) (fun i hi hi2=>?_) h
   ·dsimp only
    by_cases hl:lo≥hi
    ·rw [if_pos hl]; exact wpS_pure (k1 hl)
    ·rw [if_neg hl]
     refine wpS_bind (ask (lo+(hi - lo) / 2) (by omega) st _ hk ?_)
     dsimp only
     cases hb:B (lo+(hi - lo) / 2) with
     | true=>exact wpS_pure (k2 (by omega) hb)
     | false=>exact wpS_pure (k3 (by omega) hb)
   ·rcases d4 with d4 | ⟨d4,d5⟩
    ·omega
    ·exact anti (hint+of) i (by omega) hi2 d5
 | false =>
  rw [if_neg Bool.false_ne_true]
  refine stride (mx:=hint+1) (C:=fun o=>!B (hint - o)) (by omega) (by omega) (by show (!B hint)=true; rw [hr]; rfl) (fun x la of Q' k1 k2 k3=>?_) (fun la of d1 d2 d3 d4=>?_)
  ·dsimp only
   by_cases hl:of≥hint+1
   ·rw [if_pos hl]; exact wpS_pure (k1 hl)
   ·rw [if_neg hl]
    refine wpS_bind (ask (hint - of) (by omega) st _ hk ?_)
    dsimp only
    cases hb:B (hint - of) with
    | true=>exact wpS_pure (k2 (by omega) (by rw [hb]; rfl))
    | false=>exact wpS_pure (k3 (by omega) (by rw [hb]; rfl))
  ·dsimp only
   have d3:B (hint - la)=false:=by simpa using d3
   refine halve mono (fun x lo hi Q' hn k1 k2 k3=>?_) (fun lo hi=>rfl) (by omega) (by omega) (fun i hi=>?_) (fun i hi hi2=>anti (hint - la) i (by omega) hi2 d3) h
   ·dsimp only
    by_cases hl:lo≥hi
    ·rw [if_pos hl]; exact wpS_pure (k1 hl)
    ·rw [if_neg hl]
     refine wpS_bind (ask (lo+(hi - lo) / 2) (by omega) st _ hk ?_)
     dsimp only
     cases hb:B (lo+(hi - lo) / 2) with
     | true=>exact wpS_pure (k2 (by omega) hb)
     | false=>exact wpS_pure (k3 (by omega) hb)
   ·rcases d4 with d4 | ⟨d4,d5⟩
    ·omega
    ·have d5:B (hint - of)=true:=by simpa using d5
     exact mono i (hint - of) (by omega) (by omega) d5
def LtG (M:Model) (A:Around) (E:Value→Shared→Prop) (s:Shared) (kd:SortKind) (κ:Keyed→Int) (S:Keyed→Prop):Prop :=
 ∀ x y,S x→S y→∀ (st:SortSt) (Q:Option Bool→SortSt→Prop),kindOf st=kd→Q (some (decide (κ x < κ y))) st→wpS M A E s (lt' x y) Q st
theorem Zai {arr:Array Keyed} {i:Nat} {x:Keyed} {st:SortSt} {Q:Keyed→SortSt→Prop} (hx:arr[i]?=some x) (h:Q x st):wpS M A E s (elem' arr i) Q st:=by
 rw [elem'_eq,hx]
 exact wpS_pure h
theorem Zek {kd:SortKind} {κ:Keyed→Int} {S:Keyed→Prop} (L:LtG M A E s kd κ S) {key:Keyed} {arr:Array Keyed} {base n:Nat} (hk:S key) (ha:∀ i,i < n→∃ x,arr[base+i]?=some x∧S x) :
  AskG M A E s true key arr base n kd (fun i=>decide (κ (arr.getD (base+i) default) < κ key)):=fun i hi st Q hs hq=>by
 obtain ⟨x,hx,sx⟩:=ha i hi
 refine wpS_bind (Zai hx ?_)
 rw [if_pos rfl]
 refine L x key sx hk st Q hs ?_
 have e:arr.getD (base+i) default=x:=by rw [Array.getD_eq_getD_getElem?,hx]; rfl
 dsimp only at hq
 rw [e] at hq
 exact hq
theorem Zjt {kd:SortKind} {κ:Keyed→Int} {S:Keyed→Prop} (L:LtG M A E s kd κ S) {key:Keyed} {arr:Array Keyed} {base n:Nat} (hk:S key) (ha:∀ i,i < n→∃ x,arr[base+i]?=some x∧S x) :
  AskG M A E s false key arr base n kd (fun i=>!decide (κ key < κ (arr.getD (base+i) default))):=fun i hi st Q hs hq=>by
 obtain ⟨x,hx,sx⟩:=ha i hi
 refine wpS_bind (Zai hx ?_)
 rw [if_neg Bool.false_ne_true]
 refine wpS_bind (L key x hk sx st _ hs ?_)
 have e:arr.getD (base+i) default=x:=by rw [Array.getD_eq_getD_getElem?,hx]; rfl
 dsimp only at hq
 rw [e] at hq
 exact wpS_pure hq
end
end L2
namespace L2
open PySem PySem.Spec PyProof.Rows
section
variable {α:Type} {κ:α→Int}
def Rise (κ:α→Int) (xs:List α):Prop:=xs.Pairwise fun x y=>κ x≤κ y
structure MI (κ:α→Int) (a b out:List α) (ia ib:Nat):Prop where
 pm:(out++(a.drop ia++b.drop ib)).Perm (a++b)
 so:Rise κ out
 le:∀ x∈out,∀ y∈a.drop ia++b.drop ib,κ x≤κ y
 la:ia≤a.length
 lb:ib≤b.length
theorem Rise.drop {xs:List α} (h:Rise κ xs) (n:Nat):Rise κ (xs.drop n):=List.Pairwise.sublist (List.drop_sublist n xs) h
theorem Rise.app {xs ys:List α} (h1:Rise κ xs) (h2:Rise κ ys) (h:∀ x∈xs,∀ y∈ys,κ x≤κ y):Rise κ (xs++ys):=List.pairwise_append.mpr ⟨h1,h2,h⟩
theorem Zcs (xs:List α) (i k:Nat):xs.drop i=(xs.drop i).take k++xs.drop (i+k):=by
 rw [← List.drop_drop]; exact (List.take_append_drop k _).symm
theorem MI.start (a b:List α):MI κ a b [] 0 0:=⟨by simp,List.Pairwise.nil,fun x h=>absurd h List.not_mem_nil,Nat.zero_le _,Nat.zero_le _⟩
theorem MI.takeA {a b out:List α} {ia ib k:Nat} (m:MI κ a b out ia ib) (sa:Rise κ a) (hk:ia+k≤a.length) (h:∀ x∈(a.drop ia).take k,∀ y∈b.drop ib,κ x≤κ y):MI κ a b (out++(a.drop ia).take k) (ia+k) ib:=by
 have e:=Zcs a ia k
 have sd:=sa.drop ia
 rw [e] at sd
 obtain ⟨s1,s2,s3⟩:=List.pairwise_append.mp sd
 refine ⟨?_,m.so.app s1 fun x hx y hy=>m.le x hx y (List.mem_append_left _ (by rw [e]; exact List.mem_append_left _ hy)),fun x hx y hy=>?_,hk,m.lb⟩
 ·refine List.Perm.trans ?_ m.pm
  rw [List.append_assoc,← List.append_assoc ((a.drop ia).take k),← e]
 ·rcases List.mem_append.mp hx with hx | hx
  ·rcases List.mem_append.mp hy with hy | hy
   ·exact m.le x hx y (List.mem_append_left _ (by rw [e]; exact List.mem_append_right _ hy))
   ·exact m.le x hx y (List.mem_append_right _ hy)
  ·rcases List.mem_append.mp hy with hy | hy
   ·exact s3 x hx y hy
   ·exact h x hx y hy
theorem MI.takeB {a b out:List α} {ia ib k:Nat} (m:MI κ a b out ia ib) (sb:Rise κ b) (hk:ib+k≤b.length) (h:∀ x∈(b.drop ib).take k,∀ y∈a.drop ia,κ x≤κ y):MI κ a b (out++(b.drop ib).take k) ia (ib+k):=by
 have e:=Zcs b ib k
 have sd:=sb.drop ib
 rw [e] at sd
 obtain ⟨s1,s2,s3⟩:=List.pairwise_append.mp sd
 refine ⟨?_,m.so.app s1 fun x hx y hy=>m.le x hx y (List.mem_append_right _ (by rw [e]; exact List.mem_append_left _ hy)),fun x hx y hy=>?_,m.la,hk⟩
 ·refine List.Perm.trans ?_ m.pm
  rw [List.append_assoc]
  refine List.Perm.append_left out ?_
  have e2:a.drop ia++b.drop ib=a.drop ia++((b.drop ib).take k++b.drop (ib+k)):=by rw [← e]
  rw [e2,← List.append_assoc,← List.append_assoc]
  exact List.Perm.append_right _ List.perm_append_comm
 ·rcases List.mem_append.mp hx with hx | hx
  ·rcases List.mem_append.mp hy with hy | hy
   ·exact m.le x hx y (List.mem_append_left _ hy)
   ·exact m.le x hx y (List.mem_append_right _ (by rw [e]; exact List.mem_append_right _ hy))
  ·rcases List.mem_append.mp hy with hy | hy
   ·exact h x hx y hy
   ·exact s3 x hx y hy
theorem MI.done {a b out:List α} {ia ib:Nat} (m:MI κ a b out ia ib) (sa:Rise κ a) (sb:Rise κ b) (h:ib=b.length∨ia=a.length):Rise κ (out++a.drop ia++b.drop ib)∧(out++a.drop ia++b.drop ib).Perm (a++b):=by
 refine ⟨?_,by rw [List.append_assoc]; exact m.pm⟩
 rw [List.append_assoc]
 refine m.so.app ?_ m.le
 refine (sa.drop ia).app (sb.drop ib) fun x hx y hy=>?_
 rcases h with h | h
 ·rw [h,List.drop_length] at hy; exact absurd hy List.not_mem_nil
 ·rw [h,List.drop_length] at hx; exact absurd hx List.not_mem_nil
theorem MI.lastA {a b out:List α} {ia ib:Nat} (m:MI κ a b out ia ib) (sa:Rise κ a) (sb:Rise κ b) (h:∀ x∈b,∀ y∈a.drop ia,κ x≤κ y):Rise κ (out++b.drop ib++a.drop ia)∧(out++b.drop ib++a.drop ia).Perm (a++b):=by
 refine ⟨?_,?_⟩
 ·rw [List.append_assoc]
  refine m.so.app ((sb.drop ib).app (sa.drop ia) fun x hx y hy=>h x (List.mem_of_mem_drop hx) y hy) fun x hx y hy=>m.le x hx y ?_
  rcases List.mem_append.mp hy with hy | hy
  ·exact List.mem_append_right _ hy
  ·exact List.mem_append_left _ hy
 ·refine List.Perm.trans ?_ m.pm
  rw [List.append_assoc]
  exact List.Perm.append_left out List.perm_append_comm
end
end L2
namespace L2
open PySem PySem.Spec PyProof.Rows
section
variable {M:Model} {A:Around} {E:Value→Shared→Prop} {s:Shared}
def mergeLoG:Array Keyed→Array Keyed→StateT SortSt Sem (Array Keyed):=sortPriv% PySem.Builtin.mergeLo
theorem Zh8 {α:Type} (a:Array α) (i:Nat):(a.extract i a.size).toList=a.toList.drop i:=by
 rw [Array.toList_extract,List.extract_eq_drop_take]
 exact List.take_of_length_le (by rw [List.length_drop,Array.length_toList]; lia)
theorem ext_k {α:Type} (a:Array α) (i k:Nat):(a.extract i (i+k)).toList=(a.toList.drop i).take k:=by
 rw [Array.toList_extract,List.extract_eq_drop_take]
 congr 1; lia
theorem getG {α:Type} {a:Array α} {i:Nat} (h:i < a.size):∃ x,a[i]?=some x∧x∈a.toList∧a.toList.drop i=x :: a.toList.drop (i+1):=by
 refine ⟨a[i],by simp [h],by simp,?_⟩
 have h':i < a.toList.length:=by rw [Array.length_toList]; exact h
 rw [List.drop_eq_getElem_cons h']; simp
theorem Zcu {α:Type} {κ:α→Int} {xs:List α} (h:Rise κ xs) {i:Nat} {x:α} (e:xs.drop i=x :: xs.drop (i+1)):∀ y∈xs.drop i,κ x≤κ y:=fun y hy=>by
 have hd:=h.drop i
 rw [e] at hd hy
 rcases List.mem_cons.mp hy with rfl | hy
 ·exact Int.le_refl _
 ·exact (List.pairwise_cons.mp hd).1 y hy
theorem Zb4 {α:Type} [Inhabited α] {κ:α→Int} {a:Array α} (h:Rise κ a.toList) {i j:Nat} (hij:i≤j) (hj:j < a.size):κ (a.getD i default)≤κ (a.getD j default):=by
 have hi:i < a.size:=by lia
 have ei:a.getD i default=a.toList[i]'(by simpa using hi):=by simp [Array.getD,hi]
 have ej:a.getD j default=a.toList[j]'(by simpa using hj):=by simp [Array.getD,hj]
 rw [ei,ej]
 rcases Nat.lt_or_ge i j with h' | h'
 ·exact List.pairwise_iff_getElem.mp h i j _ _ h'
 ·have:i=j:=by lia
  subst this; exact Int.le_refl _
structure Like (st st':SortSt):Prop where
 kd:kindOf st'=kindOf st
 ar:arrOf st'=arrOf st
 pe:pendingOf st'=pendingOf st
 fa:failedOf st'=failedOf st
structure GoL (κ:Keyed→Int) (a b out:Array Keyed) (ia ib:Nat):Prop where
 mi:MI κ a.toList b.toList out.toList ia ib
 la:ia+1 < a.size
 lb:ib < b.size
def Zbt (κ:Keyed→Int) (a b r:Array Keyed):Prop:=Rise κ r.toList∧r.toList.Perm (a.toList++b.toList)
theorem Za8 {κ:Keyed→Int} {a b out:Array Keyed} {ia ib:Nat} (m:MI κ a.toList b.toList out.toList ia ib) (sa:Rise κ a.toList) (sb:Rise κ b.toList) (h:ib=b.size∨ia=a.size):Zbt κ a b (out++a.extract ia a.size++b.extract ib b.size):=by
 have:=m.done sa sb (by rw [Array.length_toList,Array.length_toList]; exact h)
 unfold Zbt
 rw [Array.toList_append,Array.toList_append,Zh8,Zh8]
 exact this
theorem Za7 {κ:Keyed→Int} {a b out:Array Keyed} {ia ib:Nat} (m:MI κ a.toList b.toList out.toList ia ib) (sa:Rise κ a.toList) (sb:Rise κ b.toList) (h:∀ x∈b.toList,∀ y∈a.toList.drop ia,κ x≤κ y):Zbt κ a b (out++b.extract ib b.size++a.extract ia a.size):=by
 have:=m.lastA sa sb h
 unfold Zbt
 rw [Array.toList_append,Array.toList_append,Zh8,Zh8]
 exact this
theorem GoL.stepB {κ:Keyed→Int} {a b out:Array Keyed} {ia ib:Nat} {x y:Keyed} (g:GoL κ a b out ia ib) (sa:Rise κ a.toList) (sb:Rise κ b.toList) (db:b.toList.drop ib=x :: b.toList.drop (ib+1)) (da:a.toList.drop ia=y :: a.toList.drop (ia+1)) (h:κ x≤κ y):MI κ a.toList b.toList (out.push x).toList ia (ib+1):=by
 have:=g.mi.takeB sb (k:=1) (by rw [Array.length_toList]; have:=g.lb; lia) (fun z hz w hw=>?_)
 ·rw [db] at this
  rw [Array.toList_push]
  simpa using this
 ·rw [db] at hz
  have:z=x:=by simpa using hz
  rw [this]
  exact Int.le_trans h (Zcu sa da w hw)
theorem GoL.stepA {κ:Keyed→Int} {a b out:Array Keyed} {ia ib:Nat} {x y:Keyed} (g:GoL κ a b out ia ib) (sa:Rise κ a.toList) (sb:Rise κ b.toList) (db:b.toList.drop ib=x :: b.toList.drop (ib+1)) (da:a.toList.drop ia=y :: a.toList.drop (ia+1)) (h:κ y≤κ x):MI κ a.toList b.toList (out.push y).toList (ia+1) ib:=by
 have:=g.mi.takeA sa (k:=1) (by rw [Array.length_toList]; have:=g.la; lia) (fun z hz w hw=>?_)
 ·rw [da] at this
  rw [Array.toList_push]
  simpa using this
 ·rw [da] at hz
  have:z=y:=by simpa using hz
  rw [this]
  exact Int.le_trans h (Zcu sb db w hw)
theorem MI.pushB {κ:Keyed→Int} {a b out:Array Keyed} {ia ib:Nat} {x:Keyed} (m:MI κ a.toList b.toList out.toList ia ib) (sb:Rise κ b.toList) (lb:ib < b.size) (db:b.toList.drop ib=x :: b.toList.drop (ib+1)) (h:∀ w∈a.toList.drop ia,κ x≤κ w):MI κ a.toList b.toList (out.push x).toList ia (ib+1):=by
 have:=m.takeB sb (k:=1) (by rw [Array.length_toList]; lia) (fun z hz w hw=>?_)
 ·rw [db] at this
  rw [Array.toList_push]
  simpa using this
 ·rw [db] at hz
  have:z=x:=by simpa using hz
  rw [this]; exact h w hw
theorem MI.pushA {κ:Keyed→Int} {a b out:Array Keyed} {ia ib:Nat} {x:Keyed} (m:MI κ a.toList b.toList out.toList ia ib) (sa:Rise κ a.toList) (la:ia < a.size) (da:a.toList.drop ia=x :: a.toList.drop (ia+1)) (h:∀ w∈b.toList.drop ib,κ x≤κ w):MI κ a.toList b.toList (out.push x).toList (ia+1) ib:=by
 have:=m.takeA sa (k:=1) (by rw [Array.length_toList]; lia) (fun z hz w hw=>?_)
 ·rw [da] at this
  rw [Array.toList_push]
  simpa using this
 ·rw [da] at hz
  have:z=x:=by simpa using hz
  rw [this]; exact h w hw
theorem MI.extA {κ:Keyed→Int} {a b out:Array Keyed} {ia ib k:Nat} (m:MI κ a.toList b.toList out.toList ia ib) (sa:Rise κ a.toList) (hk:ia+k≤a.size) (h:∀ x∈(a.toList.drop ia).take k,∀ y∈b.toList.drop ib,κ x≤κ y):MI κ a.toList b.toList (out++a.extract ia (ia+k)).toList (ia+k) ib:=by
 rw [Array.toList_append,ext_k]
 exact m.takeA sa (by rw [Array.length_toList]; exact hk) h
theorem MI.extB {κ:Keyed→Int} {a b out:Array Keyed} {ia ib k:Nat} (m:MI κ a.toList b.toList out.toList ia ib) (sb:Rise κ b.toList) (hk:ib+k≤b.size) (h:∀ x∈(b.toList.drop ib).take k,∀ y∈a.toList.drop ia,κ x≤κ y):MI κ a.toList b.toList (out++b.extract ib (ib+k)).toList ia (ib+k):=by
 rw [Array.toList_append,ext_k]
 exact m.takeB sb (by rw [Array.length_toList]; exact hk) h
theorem Zdf {a:Array Keyed} {i:Nat} {x:Keyed} (h:x∈a.toList.drop i):∃ j,i+j < a.size∧x=a.getD (i+j) default:=by
 obtain ⟨j,hj,e⟩:=List.getElem_of_mem h
 rw [List.length_drop,Array.length_toList] at hj
 refine ⟨j,by lia,?_⟩
 rw [List.getElem_drop] at e
 rw [← e]
 have:i+j < a.size:=by lia
 simp [Array.getD,this]
theorem Zbe {a:Array Keyed} {i k:Nat} {x:Keyed} (h:x∈(a.toList.drop i).take k):∃ j,j < k∧i+j < a.size∧x=a.getD (i+j) default:=by
 obtain ⟨j,hj,e⟩:=List.getElem_of_mem h
 rw [List.length_take,List.length_drop,Array.length_toList] at hj
 refine ⟨j,by lia,by lia,?_⟩
 rw [List.getElem_take,List.getElem_drop] at e
 rw [← e]
 have:i+j < a.size:=by lia
 simp [Array.getD,this]
theorem Zh2 {a:Array Keyed} {i:Nat} {x:Keyed} (h:a[i]?=some x):a.getD i default=x:=by rw [Array.getD_eq_getD_getElem?,h]; rfl
theorem Zj2 {kd:SortKind} {κ:Keyed→Int} {S:Keyed→Prop} {a b:Array Keyed} {st:SortSt} {Q:Array Keyed→SortSt→Prop} (L:LtG M A E s kd κ S) (hk:kindOf st=kd) (ha:0 < a.size) (hb:0 < b.size) (hSa:∀ x∈a.toList,S x) (hSb:∀ x∈b.toList,S x)
  (sa:Rise κ a.toList) (sb:Rise κ b.toList) (hf:∀ x∈b.toList.take 1,∀ y∈a.toList,κ x≤κ y) (hl:∀ x∈b.toList,∀ y∈a.toList.drop (a.size - 1),κ x≤κ y)
  (h:∀ r st',Zbt κ a b r→Like st st'→Q r st'):wpS M A E s (mergeLoG a b) Q st:=by
 refine wpS_bind (wpS_lift (wpAny_rule ⟨rfl,?_⟩))
 obtain ⟨b0,eb0,mb0,db0⟩:=getG hb
 have lk0:Like st st:=⟨rfl,rfl,rfl,rfl⟩
 have m0:MI κ a.toList b.toList (#[b0]:Array Keyed).toList 0 1:=by
  have:=(MI.start (κ:=κ) a.toList b.toList).takeB sb (k:=1) (by rw [Array.length_toList]; lia) (fun x hx y hy=>hf x (by simpa using hx) y (by simpa using hy))
  rw [db0] at this
  simpa using this
 refine wpS_bind (Zai eb0 ?_)
 dsimp only
 by_cases h1:1=b.size
 ·rw [if_pos (beq_iff_eq.mpr h1)]
  exact wpS_pure (h _ _ (Za8 m0 sa sb (.inl h1)) lk0)
 rw [if_neg (fun z=>h1 (beq_iff_eq.mp z))]
 by_cases h2:0+1=a.size
 ·rw [if_pos (beq_iff_eq.mpr h2)]
  exact wpS_pure (h _ _ (Za7 m0 sa sb (by rw [show (0:Nat)=a.size - 1 by lia]; exact hl)) lk0)
 rw [if_neg (fun z=>h2 (beq_iff_eq.mp z))]
 refine wpS_bind (wpS_get ?_)
 refine wpS_bind (wpS_mono (wpS_forRange (I:=fun x (c:Option (Array Keyed) × Array Keyed × Nat × Nat × Nat) st'=>c.1=none∧GoL κ a b c.2.1 c.2.2.1 c.2.2.2.1∧x+1≤c.2.2.1+c.2.2.2.1∧Like st st')
  (Q:=fun (c:Option (Array Keyed) × Array Keyed × Nat × Nat × Nat) st'=>Like st st'∧∃ r,c.1=some r∧Zbt κ a b r) ?ostep ?ofin (And.intro rfl ⟨⟨m0,by show 0+1 < a.size; lia,by show 1 < b.size; lia⟩,by show 0+1≤0+1; lia,lk0⟩)) ?opost)
 case ofin =>
  rintro ⟨r,out,ia,ib,mg⟩ st1 ⟨e1,go,hge,lk⟩
  have hge:max 0 (a.size+b.size)+1≤ia+ib:=hge
  have l1:ia+1 < a.size:=go.la
  have l2:ib < b.size:=go.lb
  lia
 case opost =>
  rintro ⟨r,out,ia,ib,mg⟩ st1 ⟨lk,r',e1,mr⟩
  have e1:r=some r':=e1
  subst e1
  exact wpS_pure (h _ _ mr lk)
 case ostep =>
  rintro x ⟨r,out,ia,ib,mg⟩ st1 _ hx ⟨e1,go,hge,lk⟩
  have e1:r=none:=e1
  subst e1
  have hge:x+1≤ia+ib:=hge
  dsimp only
  refine wpS_bind (wpS_mono (wpS_forRange (I:=fun y (c:Option (Array Keyed) × Array Keyed × Nat × Nat × Nat × Nat) st'=>c.1=none∧GoL κ a b c.2.1 c.2.2.1 c.2.2.2.1∧c.2.2.1+c.2.2.2.1=ia+ib+y∧Like st st')
   (Q:=fun (c:Option (Array Keyed) × Array Keyed × Nat × Nat × Nat × Nat) st'=>Like st st'∧((∃ r,c.1=some r∧Zbt κ a b r)∨(c.1=none∧GoL κ a b c.2.1 c.2.2.1 c.2.2.2.1∧ia+ib+1≤c.2.2.1+c.2.2.2.1))) ?istep ?ifin (And.intro rfl ⟨go,rfl,lk⟩)) ?ipost)
  case ifin =>
   rintro ⟨r,out,ia',ib',ac,bc⟩ st2 ⟨e1,go',hs,lk'⟩
   have hs:ia'+ib'=ia+ib+max 0 (a.size+b.size):=hs
   exact And.intro lk' (.inr ⟨e1,go',by show ia+ib+1≤ia'+ib'; lia⟩)
  case istep =>
   rintro y ⟨r,out',ia',ib',ac,bc⟩ st2 _ hy ⟨e1,go',hs,lk'⟩
   have e1:r=none:=e1
   subst e1
   have go':GoL κ a b out' ia' ib':=go'
   have hs:ia'+ib'=ia+ib+y:=hs
   have l1:=go'.la
   have l2:=go'.lb
   dsimp only
   obtain ⟨xb,exb,mb,db⟩:=getG l2
   obtain ⟨xa,exa,ma,da⟩:=getG (show ia' < a.size by lia)
   refine wpS_bind (Zai exb (wpS_bind (Zai exa (wpS_bind (L xb xa (hSb _ mb) (hSa _ ma) st2 _ (lk'.kd.trans hk) ?_)))))
   dsimp only
   by_cases hlt:κ xb < κ xa
   ·rw [decide_eq_true hlt,if_pos rfl]
    refine wpS_bind (Zai exb ?_)
    have mi':=go'.stepB sa sb db da (Int.le_of_lt hlt)
    by_cases q1:ib'+1=b.size
    ·rw [if_pos (beq_iff_eq.mpr q1)]
     exact wpS_pure (And.intro lk' (.inl ⟨_,rfl,Za8 mi' sa sb (.inl q1)⟩))
    ·rw [if_neg (fun z=>q1 (beq_iff_eq.mp z))]
     have gn:GoL κ a b (out'.push xb) ia' (ib'+1):=⟨mi',l1,by lia⟩
     split
     ·exact wpS_pure (And.intro lk' (.inr ⟨rfl,gn,by show ia+ib+1≤ia'+(ib'+1); lia⟩))
     ·exact wpS_pure (And.intro rfl ⟨gn,by show ia'+(ib'+1)=ia+ib+(y+1); lia,lk'⟩)
   ·rw [decide_eq_false hlt,if_neg Bool.false_ne_true]
    refine wpS_bind (Zai exa ?_)
    have mi':=go'.stepA sa sb db da (by lia)
    by_cases q1:ia'+1+1=a.size
    ·rw [if_pos (beq_iff_eq.mpr q1)]
     exact wpS_pure (And.intro lk' (.inl ⟨_,rfl,Za7 mi' sa sb (by rw [show ia'+1=a.size - 1 by lia]; exact hl)⟩))
    ·rw [if_neg (fun z=>q1 (beq_iff_eq.mp z))]
     have gn:GoL κ a b (out'.push xa) (ia'+1) ib':=⟨mi',by lia,l2⟩
     split
     ·exact wpS_pure (And.intro lk' (.inr ⟨rfl,gn,by show ia+ib+1≤ia'+1+ib'; lia⟩))
     ·exact wpS_pure (And.intro rfl ⟨gn,by show ia'+1+ib'=ia+ib+(y+1); lia,lk'⟩)
  case ipost =>
   rintro ⟨r,out',ia',ib',ac,bc⟩ st2 ⟨lk',hh⟩
   rcases hh with ⟨r',e1,mr⟩ | ⟨e1,go',hs⟩
   ·have e1:r=some r':=e1
    subst e1
    exact wpS_pure (And.intro lk' ⟨_,rfl,mr⟩)
   ·have e1:r=none:=e1
    subst e1
    have go':GoL κ a b out' ia' ib':=go'
    have hs:ia+ib+1≤ia'+ib':=hs
    dsimp only
    refine wpS_bind (wpS_lift (wpAny_rule ⟨rfl,?_⟩))
    refine wpS_bind (wpS_mono (wpS_forRange (I:=fun y (c:Option (Array Keyed) × Array Keyed × Nat × Nat × Nat × Nat × Nat) st'=>c.1=none∧GoL κ a b c.2.1 c.2.2.1 c.2.2.2.1∧ia+ib+1≤c.2.2.1+c.2.2.2.1∧Like st st')
     (Q:=fun (c:Option (Array Keyed) × Array Keyed × Nat × Nat × Nat × Nat × Nat) st'=>Like st st'∧((∃ r,c.1=some r∧Zbt κ a b r)∨(c.1=none∧GoL κ a b c.2.1 c.2.2.1 c.2.2.2.1∧ia+ib+1≤c.2.2.1+c.2.2.2.1))) ?gstep ?gfin (And.intro rfl ⟨go',hs,lk'⟩)) ?gpost)
    case gfin =>
     rintro ⟨r,out,ia2,ib2,mg2,ac,bc⟩ st3 ⟨e1,go2,hs2,lk2⟩
     exact And.intro lk2 (.inr ⟨e1,go2,hs2⟩)
    case gpost =>
     rintro ⟨r,out,ia2,ib2,mg2,ac,bc⟩ st3 ⟨lk2,hh2⟩
     rcases hh2 with ⟨r',e1,mr⟩ | ⟨e1,go2,hs2⟩
     ·have e1:r=some r':=e1
      subst e1
      exact wpS_pure (And.intro lk2 ⟨_,rfl,mr⟩)
     ·have e1:r=none:=e1
      subst e1
      have hs2:ia+ib+1≤ia2+ib2:=hs2
      refine wpS_bind (wpS_modify ?_)
      exact wpS_pure (And.intro rfl ⟨go2,by show x+1+1≤ia2+ib2; lia,⟨lk2.kd,lk2.ar,lk2.pe,lk2.fa⟩⟩)
    case gstep =>
     rintro y ⟨r,out2,ia2,ib2,mg2,ac,bc⟩ st3 _ hy ⟨e1,go2,hs2,lk2⟩
     have e1:r=none:=e1
     subst e1
     have go2:GoL κ a b out2 ia2 ib2:=go2
     have hs2:ia+ib+1≤ia2+ib2:=hs2
     dsimp only
     have l1:=go2.la
     have l2:=go2.lb
     have inA:∀ i,i < a.size→∃ x,a[i]?=some x∧S x:=fun i hi=>by
      obtain ⟨x,e,m,_⟩:=getG hi
      exact ⟨x,e,hSa x m⟩
     have inB:∀ i,i < b.size→∃ x,b[i]?=some x∧S x:=fun i hi=>by
      obtain ⟨x,e,m,_⟩:=getG hi
      exact ⟨x,e,hSb x m⟩
     by_cases hm:mg2 > 1
     ·rw [if_pos hm]
      refine wpS_bind (wpS_modify ?_)
      have lkN:Like st (SortSt.mk' (kindOf st3) (arrOf st3) (pendingOf st3) (mg2 - 1) (failedOf st3)):=⟨lk2.kd,lk2.ar,lk2.pe,lk2.fa⟩
      obtain ⟨xb,exb,mb,db⟩:=getG l2
      refine wpS_bind (Zai exb (wpS_bind (Za5 (B:=fun i=>!decide (κ xb < κ (a.getD (ia2+i) default))) (lkN.kd.trans hk) (Zjt L (hSb _ mb) (fun i hi=>inA _ (by lia))) (fun i j hij hj hB=>?_) (by lia) fun k hk' f1 f2=>?_)))
      ·have h3:=Zb4 sa (i:=ia2+i) (j:=ia2+j) (by lia) (by lia)
       simp only [Bool.not_eq_true',decide_eq_false_iff_not] at hB ⊢
       lia
      have u1:∀ z∈(a.toList.drop ia2).take k,∀ w∈b.toList.drop ib2,κ z≤κ w:=fun z hz w hw=>by
       obtain ⟨j,j1,j2,rfl⟩:=Zbe hz
       have h3:=f1 j j1
       simp only [Bool.not_eq_true',decide_eq_false_iff_not] at h3
       have h4:=Zcu sb db w hw
       lia
      have u2:∀ w∈a.toList.drop (ia2+k),κ xb≤κ w:=fun w hw=>by
       obtain ⟨j,j1,rfl⟩:=Zdf hw
       have h3:=f2 (k+j) (by lia) (by lia)
       simp only [Bool.not_eq_false',decide_eq_true_eq] at h3
       rw [← Nat.add_assoc] at h3
       lia
      dsimp only
      by_cases p0:k > 0
      ·rw [if_pos p0]
       have m2:=go2.mi.extA sa (k:=k) (by lia) u1
       by_cases q1:ia2+k+1=a.size
       ·rw [if_pos (beq_iff_eq.mpr q1)]
        exact wpS_pure (And.intro lkN (.inl ⟨_,rfl,Za7 m2 sa sb (by rw [show ia2+k=a.size - 1 by lia]; exact hl)⟩))
       ·rw [if_neg (fun z=>q1 (beq_iff_eq.mp z))]
        by_cases q2:ia2+k=a.size
        ·rw [if_pos (beq_iff_eq.mpr q2)]
         exact wpS_pure (And.intro lkN (.inl ⟨_,rfl,Za8 m2 sa sb (.inr q2)⟩))
        ·rw [if_neg (fun z=>q2 (beq_iff_eq.mp z))]
         have kB:=u2
         refine wpS_bind (Zai exb ?_)
         have m3:=m2.pushB sb l2 db kB
         by_cases q3:ib2+1=b.size
         ·rw [if_pos (beq_iff_eq.mpr q3)]
          exact wpS_pure (And.intro lkN (.inl ⟨_,rfl,Za8 m3 sa sb (.inl q3)⟩))
         ·rw [if_neg (fun z=>q3 (beq_iff_eq.mp z))]
          obtain ⟨xa,exa,ma,da⟩:=getG (show ia2+k < a.size by lia)
          refine wpS_bind (Zai exa (wpS_bind (Za5 (B:=fun i=>decide (κ (b.getD (ib2+1+i) default) < κ xa)) (lkN.kd.trans hk) (Zek L (hSa _ ma) (fun i hi=>inB _ (by lia))) (fun i j hij hj hB=>decide_eq_true (Int.lt_of_le_of_lt (Zb4 sb (by lia) (by lia)) (of_decide_eq_true hB))) (by lia) fun k1 hk1 g1 g2=>?_)))
          have t1:∀ z∈(b.toList.drop (ib2+1)).take k1,∀ w∈a.toList.drop (ia2+k),κ z≤κ w:=fun z hz w hw=>by
           obtain ⟨j,j1,j2,rfl⟩:=Zbe hz
           exact Int.le_trans (Int.le_of_lt (of_decide_eq_true (g1 j j1))) (Zcu sa da w hw)
          have t2:∀ w∈b.toList.drop (ib2+1+k1),κ xa≤κ w:=fun w hw=>by
           obtain ⟨j,j1,rfl⟩:=Zdf hw
           have:=of_decide_eq_false (g2 (k1+j) (by lia) (by lia))
           rw [← Nat.add_assoc] at this
           lia
          dsimp only
          by_cases p1:k1 > 0
          ·rw [if_pos p1]
           have m4:=m3.extB sb (k:=k1) (by lia) t1
           by_cases q4:ib2+1+k1=b.size
           ·rw [if_pos (beq_iff_eq.mpr q4)]
            exact wpS_pure (And.intro lkN (.inl ⟨_,rfl,Za8 m4 sa sb (.inl q4)⟩))
           ·rw [if_neg (fun z=>q4 (beq_iff_eq.mp z))]
            have kA:=t2
            refine wpS_bind (Zai exa ?_)
            have m5:=m4.pushA sa (by lia) da kA
            by_cases q5:ia2+k+1+1=a.size
            ·rw [if_pos (beq_iff_eq.mpr q5)]
             exact wpS_pure (And.intro lkN (.inl ⟨_,rfl,Za7 m5 sa sb (by rw [show ia2+k+1=a.size - 1 by lia]; exact hl)⟩))
            ·rw [if_neg (fun z=>q5 (beq_iff_eq.mp z))]
             have gn:GoL κ a b _ (ia2+k+1) (ib2+1+k1):=⟨m5,by lia,by lia⟩
             split
             ·exact wpS_pure (And.intro lkN (.inr ⟨rfl,gn,by show ia+ib+1≤ia2+k+1+(ib2+1+k1); lia⟩))
             ·exact wpS_pure (And.intro rfl ⟨gn,by show ia+ib+1≤ia2+k+1+(ib2+1+k1); lia,lkN⟩)
          ·rw [if_neg p1]
           have k10:k1=0:=by lia
           subst k10
           have kA:∀ w∈b.toList.drop (ib2+1),κ xa≤κ w:=t2
           refine wpS_bind (Zai exa ?_)
           have m5:=m3.pushA sa (by lia) da kA
           by_cases q5:ia2+k+1+1=a.size
           ·rw [if_pos (beq_iff_eq.mpr q5)]
            exact wpS_pure (And.intro lkN (.inl ⟨_,rfl,Za7 m5 sa sb (by rw [show ia2+k+1=a.size - 1 by lia]; exact hl)⟩))
           ·rw [if_neg (fun z=>q5 (beq_iff_eq.mp z))]
            have gn:GoL κ a b _ (ia2+k+1) (ib2+1):=⟨m5,by lia,by lia⟩
            split
            ·exact wpS_pure (And.intro lkN (.inr ⟨rfl,gn,by show ia+ib+1≤ia2+k+1+(ib2+1); lia⟩))
            ·exact wpS_pure (And.intro rfl ⟨gn,by show ia+ib+1≤ia2+k+1+(ib2+1); lia,lkN⟩)
      ·rw [if_neg p0]
       have k00:k=0:=by lia
       subst k00
       have kB:∀ w∈a.toList.drop ia2,κ xb≤κ w:=u2
       have mi2:=go2.mi
       refine wpS_bind (Zai exb ?_)
       have m3:=mi2.pushB sb l2 db kB
       by_cases q3:ib2+1=b.size
       ·rw [if_pos (beq_iff_eq.mpr q3)]
        exact wpS_pure (And.intro lkN (.inl ⟨_,rfl,Za8 m3 sa sb (.inl q3)⟩))
       ·rw [if_neg (fun z=>q3 (beq_iff_eq.mp z))]
        obtain ⟨xa,exa,ma,da⟩:=getG (show ia2 < a.size by lia)
        refine wpS_bind (Zai exa (wpS_bind (Za5 (B:=fun i=>decide (κ (b.getD (ib2+1+i) default) < κ xa)) (lkN.kd.trans hk) (Zek L (hSa _ ma) (fun i hi=>inB _ (by lia))) (fun i j hij hj hB=>decide_eq_true (Int.lt_of_le_of_lt (Zb4 sb (by lia) (by lia)) (of_decide_eq_true hB))) (by lia) fun k1 hk1 g1 g2=>?_)))
        have t1:∀ z∈(b.toList.drop (ib2+1)).take k1,∀ w∈a.toList.drop (ia2),κ z≤κ w:=fun z hz w hw=>by
         obtain ⟨j,j1,j2,rfl⟩:=Zbe hz
         exact Int.le_trans (Int.le_of_lt (of_decide_eq_true (g1 j j1))) (Zcu sa da w hw)
        have t2:∀ w∈b.toList.drop (ib2+1+k1),κ xa≤κ w:=fun w hw=>by
         obtain ⟨j,j1,rfl⟩:=Zdf hw
         have:=of_decide_eq_false (g2 (k1+j) (by lia) (by lia))
         rw [← Nat.add_assoc] at this
         lia
        dsimp only
        by_cases p1:k1 > 0
        ·rw [if_pos p1]
         have m4:=m3.extB sb (k:=k1) (by lia) t1
         by_cases q4:ib2+1+k1=b.size
         ·rw [if_pos (beq_iff_eq.mpr q4)]
          exact wpS_pure (And.intro lkN (.inl ⟨_,rfl,Za8 m4 sa sb (.inl q4)⟩))
         ·rw [if_neg (fun z=>q4 (beq_iff_eq.mp z))]
          have kA:=t2
          refine wpS_bind (Zai exa ?_)
          have m5:=m4.pushA sa (by lia) da kA
          by_cases q5:ia2+1+1=a.size
          ·rw [if_pos (beq_iff_eq.mpr q5)]
           exact wpS_pure (And.intro lkN (.inl ⟨_,rfl,Za7 m5 sa sb (by rw [show ia2+1=a.size - 1 by lia]; exact hl)⟩))
          ·rw [if_neg (fun z=>q5 (beq_iff_eq.mp z))]
           have gn:GoL κ a b _ (ia2+1) (ib2+1+k1):=⟨m5,by lia,by lia⟩
           split
           ·exact wpS_pure (And.intro lkN (.inr ⟨rfl,gn,by show ia+ib+1≤ia2+1+(ib2+1+k1); lia⟩))
           ·exact wpS_pure (And.intro rfl ⟨gn,by show ia+ib+1≤ia2+1+(ib2+1+k1); lia,lkN⟩)
        ·rw [if_neg p1]
         have k10:k1=0:=by lia
         subst k10
         have kA:∀ w∈b.toList.drop (ib2+1),κ xa≤κ w:=t2
         refine wpS_bind (Zai exa ?_)
         have m5:=m3.pushA sa (by lia) da kA
         by_cases q5:ia2+1+1=a.size
         ·rw [if_pos (beq_iff_eq.mpr q5)]
          exact wpS_pure (And.intro lkN (.inl ⟨_,rfl,Za7 m5 sa sb (by rw [show ia2+1=a.size - 1 by lia]; exact hl)⟩))
         ·rw [if_neg (fun z=>q5 (beq_iff_eq.mp z))]
          have gn:GoL κ a b _ (ia2+1) (ib2+1):=⟨m5,by lia,by lia⟩
          split
          ·exact wpS_pure (And.intro lkN (.inr ⟨rfl,gn,by show ia+ib+1≤ia2+1+(ib2+1); lia⟩))
          ·exact wpS_pure (And.intro rfl ⟨gn,by show ia+ib+1≤ia2+1+(ib2+1); lia,lkN⟩)
     ·rw [if_neg hm]
      refine wpS_bind (wpS_modify ?_)
      have lkN:Like st (SortSt.mk' (kindOf st3) (arrOf st3) (pendingOf st3) mg2 (failedOf st3)):=⟨lk2.kd,lk2.ar,lk2.pe,lk2.fa⟩
      obtain ⟨xb,exb,mb,db⟩:=getG l2
      refine wpS_bind (Zai exb (wpS_bind (Za5 (B:=fun i=>!decide (κ xb < κ (a.getD (ia2+i) default))) (lkN.kd.trans hk) (Zjt L (hSb _ mb) (fun i hi=>inA _ (by lia))) (fun i j hij hj hB=>?_) (by lia) fun k hk' f1 f2=>?_)))
      ·have h3:=Zb4 sa (i:=ia2+i) (j:=ia2+j) (by lia) (by lia)
       simp only [Bool.not_eq_true',decide_eq_false_iff_not] at hB ⊢
       lia
      have u1:∀ z∈(a.toList.drop ia2).take k,∀ w∈b.toList.drop ib2,κ z≤κ w:=fun z hz w hw=>by
       obtain ⟨j,j1,j2,rfl⟩:=Zbe hz
       have h3:=f1 j j1
       simp only [Bool.not_eq_true',decide_eq_false_iff_not] at h3
       have h4:=Zcu sb db w hw
       lia
      have u2:∀ w∈a.toList.drop (ia2+k),κ xb≤κ w:=fun w hw=>by
       obtain ⟨j,j1,rfl⟩:=Zdf hw
       have h3:=f2 (k+j) (by lia) (by lia)
       simp only [Bool.not_eq_false',decide_eq_true_eq] at h3
       rw [← Nat.add_assoc] at h3
       lia
      dsimp only
      by_cases p0:k > 0
      ·rw [if_pos p0]
       have m2:=go2.mi.extA sa (k:=k) (by lia) u1
       by_cases q1:ia2+k+1=a.size
       ·rw [if_pos (beq_iff_eq.mpr q1)]
        exact wpS_pure (And.intro lkN (.inl ⟨_,rfl,Za7 m2 sa sb (by rw [show ia2+k=a.size - 1 by lia]; exact hl)⟩))
       ·rw [if_neg (fun z=>q1 (beq_iff_eq.mp z))]
        by_cases q2:ia2+k=a.size
        ·rw [if_pos (beq_iff_eq.mpr q2)]
         exact wpS_pure (And.intro lkN (.inl ⟨_,rfl,Za8 m2 sa sb (.inr q2)⟩))
        ·rw [if_neg (fun z=>q2 (beq_iff_eq.mp z))]
         have kB:=u2
         refine wpS_bind (Zai exb ?_)
         have m3:=m2.pushB sb l2 db kB
         by_cases q3:ib2+1=b.size
         ·rw [if_pos (beq_iff_eq.mpr q3)]
          exact wpS_pure (And.intro lkN (.inl ⟨_,rfl,Za8 m3 sa sb (.inl q3)⟩))
         ·rw [if_neg (fun z=>q3 (beq_iff_eq.mp z))]
          obtain ⟨xa,exa,ma,da⟩:=getG (show ia2+k < a.size by lia)
          refine wpS_bind (Zai exa (wpS_bind (Za5 (B:=fun i=>decide (κ (b.getD (ib2+1+i) default) < κ xa)) (lkN.kd.trans hk) (Zek L (hSa _ ma) (fun i hi=>inB _ (by lia))) (fun i j hij hj hB=>decide_eq_true (Int.lt_of_le_of_lt (Zb4 sb (by lia) (by lia)) (of_decide_eq_true hB))) (by lia) fun k1 hk1 g1 g2=>?_)))
          have t1:∀ z∈(b.toList.drop (ib2+1)).take k1,∀ w∈a.toList.drop (ia2+k),κ z≤κ w:=fun z hz w hw=>by
           obtain ⟨j,j1,j2,rfl⟩:=Zbe hz
           exact Int.le_trans (Int.le_of_lt (of_decide_eq_true (g1 j j1))) (Zcu sa da w hw)
          have t2:∀ w∈b.toList.drop (ib2+1+k1),κ xa≤κ w:=fun w hw=>by
           obtain ⟨j,j1,rfl⟩:=Zdf hw
           have:=of_decide_eq_false (g2 (k1+j) (by lia) (by lia))
           rw [← Nat.add_assoc] at this
           lia
          dsimp only
          by_cases p1:k1 > 0
          ·rw [if_pos p1]
           have m4:=m3.extB sb (k:=k1) (by lia) t1
           by_cases q4:ib2+1+k1=b.size
           ·rw [if_pos (beq_iff_eq.mpr q4)]
            exact wpS_pure (And.intro lkN (.inl ⟨_,rfl,Za8 m4 sa sb (.inl q4)⟩))
           ·rw [if_neg (fun z=>q4 (beq_iff_eq.mp z))]
            have kA:=t2
            refine wpS_bind (Zai exa ?_)
            have m5:=m4.pushA sa (by lia) da kA
            by_cases q5:ia2+k+1+1=a.size
            ·rw [if_pos (beq_iff_eq.mpr q5)]
             exact wpS_pure (And.intro lkN (.inl ⟨_,rfl,Za7 m5 sa sb (by rw [show ia2+k+1=a.size - 1 by lia]; exact hl)⟩))
            ·rw [if_neg (fun z=>q5 (beq_iff_eq.mp z))]
             have gn:GoL κ a b _ (ia2+k+1) (ib2+1+k1):=⟨m5,by lia,by lia⟩
             split
             ·exact wpS_pure (And.intro lkN (.inr ⟨rfl,gn,by show ia+ib+1≤ia2+k+1+(ib2+1+k1); lia⟩))
             ·exact wpS_pure (And.intro rfl ⟨gn,by show ia+ib+1≤ia2+k+1+(ib2+1+k1); lia,lkN⟩)
          ·rw [if_neg p1]
           have k10:k1=0:=by lia
           subst k10
           have kA:∀ w∈b.toList.drop (ib2+1),κ xa≤κ w:=t2
           refine wpS_bind (Zai exa ?_)
           have m5:=m3.pushA sa (by lia) da kA
           by_cases q5:ia2+k+1+1=a.size
           ·rw [if_pos (beq_iff_eq.mpr q5)]
            exact wpS_pure (And.intro lkN (.inl ⟨_,rfl,Za7 m5 sa sb (by rw [show ia2+k+1=a.size - 1 by lia]; exact hl)⟩))
           ·rw [if_neg (fun z=>q5 (beq_iff_eq.mp z))]
            have gn:GoL κ a b _ (ia2+k+1) (ib2+1):=⟨m5,by lia,by lia⟩
            split
            ·exact wpS_pure (And.intro lkN (.inr ⟨rfl,gn,by show ia+ib+1≤ia2+k+1+(ib2+1); lia⟩))
            ·exact wpS_pure (And.intro rfl ⟨gn,by show ia+ib+1≤ia2+k+1+(ib2+1); lia,lkN⟩)
      ·rw [if_neg p0]
       have k00:k=0:=by lia
       subst k00
       have kB:∀ w∈a.toList.drop ia2,κ xb≤κ w:=u2
       have mi2:=go2.mi
       refine wpS_bind (Zai exb ?_)
       have m3:=mi2.pushB sb l2 db kB
       by_cases q3:ib2+1=b.size
       ·rw [if_pos (beq_iff_eq.mpr q3)]
        exact wpS_pure (And.intro lkN (.inl ⟨_,rfl,Za8 m3 sa sb (.inl q3)⟩))
       ·rw [if_neg (fun z=>q3 (beq_iff_eq.mp z))]
        obtain ⟨xa,exa,ma,da⟩:=getG (show ia2 < a.size by lia)
        refine wpS_bind (Zai exa (wpS_bind (Za5 (B:=fun i=>decide (κ (b.getD (ib2+1+i) default) < κ xa)) (lkN.kd.trans hk) (Zek L (hSa _ ma) (fun i hi=>inB _ (by lia))) (fun i j hij hj hB=>decide_eq_true (Int.lt_of_le_of_lt (Zb4 sb (by lia) (by lia)) (of_decide_eq_true hB))) (by lia) fun k1 hk1 g1 g2=>?_)))
        have t1:∀ z∈(b.toList.drop (ib2+1)).take k1,∀ w∈a.toList.drop (ia2),κ z≤κ w:=fun z hz w hw=>by
         obtain ⟨j,j1,j2,rfl⟩:=Zbe hz
         exact Int.le_trans (Int.le_of_lt (of_decide_eq_true (g1 j j1))) (Zcu sa da w hw)
        have t2:∀ w∈b.toList.drop (ib2+1+k1),κ xa≤κ w:=fun w hw=>by
         obtain ⟨j,j1,rfl⟩:=Zdf hw
         have:=of_decide_eq_false (g2 (k1+j) (by lia) (by lia))
         rw [← Nat.add_assoc] at this
         lia
        dsimp only
        by_cases p1:k1 > 0
        ·rw [if_pos p1]
         have m4:=m3.extB sb (k:=k1) (by lia) t1
         by_cases q4:ib2+1+k1=b.size
         ·rw [if_pos (beq_iff_eq.mpr q4)]
          exact wpS_pure (And.intro lkN (.inl ⟨_,rfl,Za8 m4 sa sb (.inl q4)⟩))
         ·rw [if_neg (fun z=>q4 (beq_iff_eq.mp z))]
          have kA:=t2
          refine wpS_bind (Zai exa ?_)
          have m5:=m4.pushA sa (by lia) da kA
          by_cases q5:ia2+1+1=a.size
          ·rw [if_pos (beq_iff_eq.mpr q5)]
           exact wpS_pure (And.intro lkN (.inl ⟨_,rfl,Za7 m5 sa sb (by rw [show ia2+1=a.size - 1 by lia]; exact hl)⟩))
          ·rw [if_neg (fun z=>q5 (beq_iff_eq.mp z))]
           have gn:GoL κ a b _ (ia2+1) (ib2+1+k1):=⟨m5,by lia,by lia⟩
           split
           ·exact wpS_pure (And.intro lkN (.inr ⟨rfl,gn,by show ia+ib+1≤ia2+1+(ib2+1+k1); lia⟩))
           ·exact wpS_pure (And.intro rfl ⟨gn,by show ia+ib+1≤ia2+1+(ib2+1+k1); lia,lkN⟩)
        ·rw [if_neg p1]
         have k10:k1=0:=by lia
         subst k10
         have kA:∀ w∈b.toList.drop (ib2+1),κ xa≤κ w:=t2
         refine wpS_bind (Zai exa ?_)
         have m5:=m3.pushA sa (by lia) da kA
         by_cases q5:ia2+1+1=a.size
         ·rw [if_pos (beq_iff_eq.mpr q5)]
          exact wpS_pure (And.intro lkN (.inl ⟨_,rfl,Za7 m5 sa sb (by rw [show ia2+1=a.size - 1 by lia]; exact hl)⟩))
         ·rw [if_neg (fun z=>q5 (beq_iff_eq.mp z))]
          have gn:GoL κ a b _ (ia2+1) (ib2+1):=⟨m5,by lia,by lia⟩
          split
          ·exact wpS_pure (And.intro lkN (.inr ⟨rfl,gn,by show ia+ib+1≤ia2+1+(ib2+1); lia⟩))
          ·exact wpS_pure (And.intro rfl ⟨gn,by show ia+ib+1≤ia2+1+(ib2+1); lia,lkN⟩)
end
end L2
namespace L2
open PySem PySem.Spec PyProof.Rows
section
variable {α:Type} {κ:α→Int}
structure MH (κ:α→Int) (a b out:List α) (na nb:Nat):Prop where
 pm:(a.take na++b.take nb++out).Perm (a++b)
 so:Rise κ out
 le:∀ x∈a.take na++b.take nb,∀ y∈out,κ x≤κ y
 la:na≤a.length
 lb:nb≤b.length
theorem Rise.take {xs:List α} (h:Rise κ xs) (n:Nat):Rise κ (xs.take n):=List.Pairwise.sublist (List.take_sublist n xs) h
theorem Zen (xs:List α) {m n:Nat} (h:m≤n):xs.take n=xs.take m++(xs.take n).drop m:=by
 have:=(List.take_append_drop m (xs.take n)).symm
 rw [List.take_take,Nat.min_eq_left h] at this
 exact this
theorem MH.start (a b:List α):MH κ a b [] a.length b.length:=⟨by simp,List.Pairwise.nil,fun x _ y h=>absurd h List.not_mem_nil,Nat.le_refl _,Nat.le_refl _⟩
theorem MH.takeA {a b out:List α} {na nb m:Nat} (q:MH κ a b out na nb) (sa:Rise κ a) (hm:m≤na) (h:∀ x∈b.take nb,∀ y∈(a.take na).drop m,κ x≤κ y):MH κ a b ((a.take na).drop m++out) m nb:=by
 have e:=Zen a hm
 have sd:=sa.take na
 rw [e] at sd
 obtain ⟨s1,s2,s3⟩:=List.pairwise_append.mp sd
 have inn:∀ y∈(a.take na).drop m,y∈a.take na:=fun y hy=>List.mem_of_mem_drop hy
 have in1:∀ y∈a.take m,y∈a.take na:=fun y hy=>by rw [e]; exact List.mem_append_left _ hy
 refine ⟨?_,Rise.app s2 q.so fun x hx y hy=>q.le x (List.mem_append_left _ (inn x hx)) y hy,fun x hx y hy=>?_,by have:=q.la; lia,q.lb⟩
 ·refine List.Perm.trans ?_ q.pm
  rw [← List.append_assoc]
  refine List.Perm.append_right out ?_
  have e2:a.take na++b.take nb=a.take m++(a.take na).drop m++b.take nb:=by rw [← e]
  rw [e2,List.append_assoc,List.append_assoc]
  exact List.Perm.append_left _ List.perm_append_comm
 ·rcases List.mem_append.mp hy with hy | hy
  ·rcases List.mem_append.mp hx with hx | hx
   ·exact s3 x hx y hy
   ·exact h x hx y hy
  ·rcases List.mem_append.mp hx with hx | hx
   ·exact q.le x (List.mem_append_left _ (in1 x hx)) y hy
   ·exact q.le x (List.mem_append_right _ hx) y hy
theorem MH.takeB {a b out:List α} {na nb m:Nat} (q:MH κ a b out na nb) (sb:Rise κ b) (hm:m≤nb) (h:∀ x∈a.take na,∀ y∈(b.take nb).drop m,κ x≤κ y):MH κ a b ((b.take nb).drop m++out) na m:=by
 have e:=Zen b hm
 have sd:=sb.take nb
 rw [e] at sd
 obtain ⟨s1,s2,s3⟩:=List.pairwise_append.mp sd
 have inn:∀ y∈(b.take nb).drop m,y∈b.take nb:=fun y hy=>List.mem_of_mem_drop hy
 have in1:∀ y∈b.take m,y∈b.take nb:=fun y hy=>by rw [e]; exact List.mem_append_left _ hy
 refine ⟨?_,Rise.app s2 q.so fun x hx y hy=>q.le x (List.mem_append_right _ (inn x hx)) y hy,fun x hx y hy=>?_,q.la,by have:=q.lb; lia⟩
 ·refine List.Perm.trans ?_ q.pm
  rw [← List.append_assoc]
  refine List.Perm.append_right out ?_
  rw [List.append_assoc,← e]
 ·rcases List.mem_append.mp hy with hy | hy
  ·rcases List.mem_append.mp hx with hx | hx
   ·exact h x hx y hy
   ·exact s3 x hx y hy
  ·rcases List.mem_append.mp hx with hx | hx
   ·exact q.le x (List.mem_append_left _ hx) y hy
   ·exact q.le x (List.mem_append_right _ (in1 x hx)) y hy
theorem MH.done {a b out:List α} {na nb:Nat} (q:MH κ a b out na nb) (sa:Rise κ a) (sb:Rise κ b) (h:na=0∨nb=0):Rise κ (a.take na++b.take nb++out)∧(a.take na++b.take nb++out).Perm (a++b):=by
 refine ⟨?_,q.pm⟩
 refine Rise.app ((sa.take na).app (sb.take nb) fun x hx y hy=>?_) q.so q.le
 rcases h with h | h
 ·rw [h,List.take_zero] at hx; exact absurd hx List.not_mem_nil
 ·rw [h,List.take_zero] at hy; exact absurd hy List.not_mem_nil
theorem MH.firstB {a b out:List α} {na nb:Nat} (q:MH κ a b out na nb) (sa:Rise κ a) (sb:Rise κ b) (h:∀ x∈b.take nb,∀ y∈a,κ x≤κ y):Rise κ (b.take nb++a.take na++out)∧(b.take nb++a.take na++out).Perm (a++b):=by
 refine ⟨?_,?_⟩
 ·refine Rise.app ((sb.take nb).app (sa.take na) fun x hx y hy=>h x hx y (List.mem_of_mem_take hy)) q.so fun x hx y hy=>q.le x ?_ y hy
  rcases List.mem_append.mp hx with hx | hx
  ·exact List.mem_append_right _ hx
  ·exact List.mem_append_left _ hx
 ·exact (List.Perm.append_right out List.perm_append_comm).trans q.pm
end
section
variable {M:Model} {A:Around} {E:Value→Shared→Prop} {s:Shared}
def mergeHiG:Array Keyed→Array Keyed→StateT SortSt Sem (Array Keyed):=sortPriv% PySem.Builtin.mergeHi
theorem Zf6 {α:Type} (a:Array α) (m n:Nat):(a.extract m n).toList=(a.toList.take n).drop m:=by
 rw [Array.toList_extract,List.extract_eq_drop_take,List.drop_take]
theorem getH {κ:Keyed→Int} {a:Array Keyed} (sa:Rise κ a.toList) {n:Nat} (h0:0 < n) (h:n≤a.size):∃ x,a[n - 1]?=some x∧x∈a.toList∧(a.toList.take n).drop (n - 1)=[x]∧∀ y∈a.toList.take n,κ y≤κ x:=by
 obtain ⟨x,e,m,d⟩:=getG (show n - 1 < a.size by lia)
 have e2:(a.toList.take n).drop (n - 1)=[x]:=by
  rw [List.drop_take,d,show n - (n - 1)=1 by lia]; rfl
 refine ⟨x,e,m,e2,fun y hy=>?_⟩
 have e3:=Zen a.toList (show n - 1≤n by lia)
 have sd:=sa.take n
 rw [e3] at sd hy
 rw [e2] at sd hy
 rcases List.mem_append.mp hy with hy | hy
 ·exact (List.pairwise_append.mp sd).2.2 y hy x (by simp)
 ·rw [List.mem_singleton.mp hy]; exact Int.le_refl _
theorem MH.pushA {κ:Keyed→Int} {a b out:Array Keyed} {na nb:Nat} {x:Keyed} (m:MH κ a.toList b.toList out.toList.reverse na nb) (sa:Rise κ a.toList) (da:(a.toList.take na).drop (na - 1)=[x]) (h:∀ w∈b.toList.take nb,κ w≤κ x):MH κ a.toList b.toList (out.push x).toList.reverse (na - 1) nb:=by
 have:=m.takeA sa (m:=na - 1) (by lia) (fun z hz w hw=>?_)
 ·rw [da] at this
  rw [Array.toList_push,List.reverse_append]
  exact this
 ·rw [da] at hw
  rw [List.mem_singleton.mp hw]; exact h z hz
theorem MH.pushB {κ:Keyed→Int} {a b out:Array Keyed} {na nb:Nat} {x:Keyed} (m:MH κ a.toList b.toList out.toList.reverse na nb) (sb:Rise κ b.toList) (db:(b.toList.take nb).drop (nb - 1)=[x]) (h:∀ w∈a.toList.take na,κ w≤κ x):MH κ a.toList b.toList (out.push x).toList.reverse na (nb - 1):=by
 have:=m.takeB sb (m:=nb - 1) (by lia) (fun z hz w hw=>?_)
 ·rw [db] at this
  rw [Array.toList_push,List.reverse_append]
  exact this
 ·rw [db] at hw
  rw [List.mem_singleton.mp hw]; exact h z hz
theorem MH.extA {κ:Keyed→Int} {a b out:Array Keyed} {na nb m:Nat} (q:MH κ a.toList b.toList out.toList.reverse na nb) (sa:Rise κ a.toList) (hm:m≤na) (h:∀ x∈b.toList.take nb,∀ y∈(a.toList.take na).drop m,κ x≤κ y):MH κ a.toList b.toList (out++(a.extract m na).reverse).toList.reverse m nb:=by
 have:=q.takeA sa hm h
 rw [Array.toList_append,List.reverse_append,Array.toList_reverse,List.reverse_reverse,Zf6]
 exact this
theorem MH.extB {κ:Keyed→Int} {a b out:Array Keyed} {na nb m:Nat} (q:MH κ a.toList b.toList out.toList.reverse na nb) (sb:Rise κ b.toList) (hm:m≤nb) (h:∀ x∈a.toList.take na,∀ y∈(b.toList.take nb).drop m,κ x≤κ y):MH κ a.toList b.toList (out++(b.extract m nb).reverse).toList.reverse na m:=by
 have:=q.takeB sb hm h
 rw [Array.toList_append,List.reverse_append,Array.toList_reverse,List.reverse_reverse,Zf6]
 exact this
theorem Zde {a:Array Keyed} {n:Nat} {x:Keyed} (h:x∈a.toList.take n):∃ j,j < n∧j < a.size∧x=a.getD (0+j) default:=by
 have h':x∈(a.toList.drop 0).take n:=by simpa using h
 obtain ⟨j,h1,h2,h3⟩:=Zbe h'
 exact ⟨j,h1,by lia,h3⟩
theorem Zev {a:Array Keyed} {m n:Nat} {x:Keyed} (hmn:m≤n) (h:x∈(a.toList.take n).drop m):∃ j,m≤j∧j < n∧j < a.size∧x=a.getD (0+j) default:=by
 rw [List.drop_take] at h
 obtain ⟨j,h1,h2,h3⟩:=Zbe h
 exact ⟨m+j,by lia,by lia,h2,by rw [Nat.zero_add]; exact h3⟩
structure GoH (κ:Keyed→Int) (a b out:Array Keyed) (na nb:Nat):Prop where
 mi:MH κ a.toList b.toList out.toList.reverse na nb
 la:0 < na
 lb:1 < nb
theorem Zau {κ:Keyed→Int} {a b out:Array Keyed} {na nb:Nat} (m:MH κ a.toList b.toList out.toList.reverse na nb) (sa:Rise κ a.toList) (sb:Rise κ b.toList) (h:na=0∨nb=0):Zbt κ a b (a.extract 0 na++b.extract 0 nb++out.reverse):=by
 have:=m.done sa sb h
 unfold Zbt
 rw [Array.toList_append,Array.toList_append,Zf6,Zf6,Array.toList_reverse,List.drop_zero,List.drop_zero]
 exact this
theorem Za4 {κ:Keyed→Int} {a b out:Array Keyed} {na nb:Nat} (m:MH κ a.toList b.toList out.toList.reverse na nb) (sa:Rise κ a.toList) (sb:Rise κ b.toList) (h1:nb=1) (h:∀ x∈b.toList.take 1,∀ y∈a.toList,κ x≤κ y):Zbt κ a b (b.extract 0 nb++a.extract 0 na++out.reverse):=by
 have:=m.firstB sa sb (by rw [h1]; exact h)
 unfold Zbt
 rw [Array.toList_append,Array.toList_append,Zf6,Zf6,Array.toList_reverse,List.drop_zero,List.drop_zero]
 exact this
theorem Zj3 {kd:SortKind} {κ:Keyed→Int} {S:Keyed→Prop} {a b:Array Keyed} {st:SortSt} {Q:Array Keyed→SortSt→Prop} (L:LtG M A E s kd κ S) (hk:kindOf st=kd) (ha:0 < a.size) (hb:0 < b.size) (hSa:∀ x∈a.toList,S x) (hSb:∀ x∈b.toList,S x)
  (sa:Rise κ a.toList) (sb:Rise κ b.toList) (hf:∀ x∈b.toList.take 1,∀ y∈a.toList,κ x≤κ y) (hl:∀ x∈b.toList,∀ y∈a.toList.drop (a.size - 1),κ x≤κ y)
  (h:∀ r st',Zbt κ a b r→Like st st'→Q r st'):wpS M A E s (mergeHiG a b) Q st:=by
 refine wpS_bind (wpS_lift (wpAny_rule ⟨rfl,?_⟩))
 obtain ⟨a0,ea0,ma0,da0,ra0⟩:=getH sa ha (Nat.le_refl _)
 have lk0:Like st st:=⟨rfl,rfl,rfl,rfl⟩
 have m0:MH κ a.toList b.toList (#[a0]:Array Keyed).toList.reverse (a.size - 1) b.size:=by
  have:=(MH.start (κ:=κ) a.toList b.toList).takeA sa (m:=a.size - 1) (by rw [Array.length_toList]; lia) (fun x hx y hy=>hl x (List.mem_of_mem_take hx) y (by rw [List.take_length] at hy; exact hy))
  rw [Array.length_toList,Array.length_toList,da0] at this
  exact this
 refine wpS_bind (Zai ea0 ?_)
 dsimp only
 by_cases h1:a.size - 1=0
 ·rw [if_pos (beq_iff_eq.mpr h1)]
  exact wpS_pure (h _ _ (Zau m0 sa sb (.inl h1)) lk0)
 rw [if_neg (fun z=>h1 (beq_iff_eq.mp z))]
 by_cases h2:b.size=1
 ·rw [if_pos (beq_iff_eq.mpr h2)]
  exact wpS_pure (h _ _ (Za4 m0 sa sb h2 hf) lk0)
 rw [if_neg (fun z=>h2 (beq_iff_eq.mp z))]
 refine wpS_bind (wpS_get ?_)
 refine wpS_bind (wpS_mono (wpS_forRange (I:=fun x (c:Option (Array Keyed) × Nat × Nat × Array Keyed × Nat) st'=>c.1=none∧GoH κ a b c.2.2.2.1 c.2.1 c.2.2.1∧c.2.1+c.2.2.1+x+1≤a.size+b.size∧Like st st')
  (Q:=fun (c:Option (Array Keyed) × Nat × Nat × Array Keyed × Nat) st'=>Like st st'∧∃ r,c.1=some r∧Zbt κ a b r) ?ostep ?ofin (And.intro rfl ⟨⟨m0,by show 0 < a.size - 1; lia,by show 1 < b.size; lia⟩,by show a.size - 1+b.size+0+1≤a.size+b.size; lia,lk0⟩)) ?opost)
 case ofin =>
  rintro ⟨r,na,nb,out,mg⟩ st1 ⟨e1,go,hge,lk⟩
  have hge:na+nb+max 0 (a.size+b.size)+1≤a.size+b.size:=hge
  lia
 case opost =>
  rintro ⟨r,na,nb,out,mg⟩ st1 ⟨lk,r',e1,mr⟩
  have e1:r=some r':=e1
  subst e1
  exact wpS_pure (h _ _ mr lk)
 case ostep =>
  rintro x ⟨r,na,nb,out,mg⟩ st1 _ hx ⟨e1,go,hge,lk⟩
  have e1:r=none:=e1
  subst e1
  have hge:na+nb+x+1≤a.size+b.size:=hge
  dsimp only
  refine wpS_bind (wpS_mono (wpS_forRange (I:=fun y (c:Option (Array Keyed) × Nat × Nat × Array Keyed × Nat × Nat) st'=>c.1=none∧GoH κ a b c.2.2.2.1 c.2.1 c.2.2.1∧c.2.1+c.2.2.1+y=na+nb∧Like st st')
   (Q:=fun (c:Option (Array Keyed) × Nat × Nat × Array Keyed × Nat × Nat) st'=>Like st st'∧((∃ r,c.1=some r∧Zbt κ a b r)∨(c.1=none∧GoH κ a b c.2.2.2.1 c.2.1 c.2.2.1∧c.2.1+c.2.2.1+1≤na+nb))) ?istep ?ifin (And.intro rfl ⟨go,rfl,lk⟩)) ?ipost)
  case ifin =>
   rintro ⟨r,na',nb',out,ac,bc⟩ st2 ⟨e1,go',hs,lk'⟩
   have hs:na'+nb'+max 0 (a.size+b.size)=na+nb:=hs
   exact And.intro lk' (.inr ⟨e1,go',by show na'+nb'+1≤na+nb; lia⟩)
  case istep =>
   rintro y ⟨r,na',nb',out',ac,bc⟩ st2 _ hy ⟨e1,go',hs,lk'⟩
   have e1:r=none:=e1
   subst e1
   have go':GoH κ a b out' na' nb':=go'
   have hs:na'+nb'+y=na+nb:=hs
   have l1:=go'.la
   have l2:=go'.lb
   have l3:na'≤a.size:=by have:=go'.mi.la; rwa [Array.length_toList] at this
   have l4:nb'≤b.size:=by have:=go'.mi.lb; rwa [Array.length_toList] at this
   dsimp only
   obtain ⟨xb,exb,mb,db,rb⟩:=getH sb (show 0 < nb' by lia) l4
   obtain ⟨xa,exa,ma,da,ra⟩:=getH sa l1 l3
   refine wpS_bind (Zai exb (wpS_bind (Zai exa (wpS_bind (L xb xa (hSb _ mb) (hSa _ ma) st2 _ (lk'.kd.trans hk) ?_)))))
   dsimp only
   by_cases hlt:κ xb < κ xa
   ·rw [decide_eq_true hlt,if_pos rfl]
    refine wpS_bind (Zai exa ?_)
    have mi':=go'.mi.pushA sa da (fun w hw=>by have:=rb w hw; lia)
    by_cases q1:na' - 1=0
    ·rw [if_pos (beq_iff_eq.mpr q1)]
     exact wpS_pure (And.intro lk' (.inl ⟨_,rfl,Zau mi' sa sb (.inl q1)⟩))
    ·rw [if_neg (fun z=>q1 (beq_iff_eq.mp z))]
     have gn:GoH κ a b (out'.push xa) (na' - 1) nb':=⟨mi',by lia,l2⟩
     split
     ·exact wpS_pure (And.intro lk' (.inr ⟨rfl,gn,by show na' - 1+nb'+1≤na+nb; lia⟩))
     ·exact wpS_pure (And.intro rfl ⟨gn,by show na' - 1+nb'+(y+1)=na+nb; lia,lk'⟩)
   ·rw [decide_eq_false hlt,if_neg Bool.false_ne_true]
    refine wpS_bind (Zai exb ?_)
    have mi':=go'.mi.pushB sb db (fun w hw=>by have:=ra w hw; lia)
    by_cases q1:nb' - 1=1
    ·rw [if_pos (beq_iff_eq.mpr q1)]
     exact wpS_pure (And.intro lk' (.inl ⟨_,rfl,Za4 mi' sa sb q1 hf⟩))
    ·rw [if_neg (fun z=>q1 (beq_iff_eq.mp z))]
     have gn:GoH κ a b (out'.push xb) na' (nb' - 1):=⟨mi',l1,by lia⟩
     split
     ·exact wpS_pure (And.intro lk' (.inr ⟨rfl,gn,by show na'+(nb' - 1)+1≤na+nb; lia⟩))
     ·exact wpS_pure (And.intro rfl ⟨gn,by show na'+(nb' - 1)+(y+1)=na+nb; lia,lk'⟩)
  case ipost =>
   rintro ⟨r,na',nb',out',ac,bc⟩ st2 ⟨lk',hh⟩
   rcases hh with ⟨r',e1,mr⟩ | ⟨e1,go',hs⟩
   ·have e1:r=some r':=e1
    subst e1
    exact wpS_pure (And.intro lk' ⟨_,rfl,mr⟩)
   ·have e1:r=none:=e1
    subst e1
    have go':GoH κ a b out' na' nb':=go'
    have hs:na'+nb'+1≤na+nb:=hs
    dsimp only
    refine wpS_bind (wpS_lift (wpAny_rule ⟨rfl,?_⟩))
    refine wpS_bind (wpS_mono (wpS_forRange (I:=fun y (c:Option (Array Keyed) × Nat × Nat × Array Keyed × Nat × Nat × Nat) st'=>c.1=none∧GoH κ a b c.2.2.2.1 c.2.1 c.2.2.1∧c.2.1+c.2.2.1+1≤na+nb∧Like st st')
     (Q:=fun (c:Option (Array Keyed) × Nat × Nat × Array Keyed × Nat × Nat × Nat) st'=>Like st st'∧((∃ r,c.1=some r∧Zbt κ a b r)∨(c.1=none∧GoH κ a b c.2.2.2.1 c.2.1 c.2.2.1∧c.2.1+c.2.2.1+1≤na+nb))) ?gstep ?gfin (And.intro rfl ⟨go',hs,lk'⟩)) ?gpost)
    case gfin =>
     rintro ⟨r,na2,nb2,out,mg2,ac,bc⟩ st3 ⟨e1,go2,hs2,lk2⟩
     exact And.intro lk2 (.inr ⟨e1,go2,hs2⟩)
    case gpost =>
     rintro ⟨r,na2,nb2,out,mg2,ac,bc⟩ st3 ⟨lk2,hh2⟩
     rcases hh2 with ⟨r',e1,mr⟩ | ⟨e1,go2,hs2⟩
     ·have e1:r=some r':=e1
      subst e1
      exact wpS_pure (And.intro lk2 ⟨_,rfl,mr⟩)
     ·have e1:r=none:=e1
      subst e1
      have hs2:na2+nb2+1≤na+nb:=hs2
      refine wpS_bind (wpS_modify ?_)
      exact wpS_pure (And.intro rfl ⟨go2,by show na2+nb2+(x+1)+1≤a.size+b.size; lia,⟨lk2.kd,lk2.ar,lk2.pe,lk2.fa⟩⟩)
    case gstep =>
     rintro y ⟨r,na2,nb2,out2,mg2,ac,bc⟩ st3 _ hy ⟨e1,go2,hs2,lk2⟩
     have e1:r=none:=e1
     subst e1
     have go2:GoH κ a b out2 na2 nb2:=go2
     have hs2:na2+nb2+1≤na+nb:=hs2
     dsimp only
     have l1:=go2.la
     have l2:=go2.lb
     have l3:na2≤a.size:=by have:=go2.mi.la; rwa [Array.length_toList] at this
     have l4:nb2≤b.size:=by have:=go2.mi.lb; rwa [Array.length_toList] at this
     have inA:∀ i,i < a.size→∃ x,a[i]?=some x∧S x:=fun i hi=>by
      obtain ⟨x,e,m,_⟩:=getG hi
      exact ⟨x,e,hSa x m⟩
     have inB:∀ i,i < b.size→∃ x,b[i]?=some x∧S x:=fun i hi=>by
      obtain ⟨x,e,m,_⟩:=getG hi
      exact ⟨x,e,hSb x m⟩
     by_cases hm:mg2 > 1
     ·rw [if_pos hm]
      refine wpS_bind (wpS_modify ?_)
      have lkN:Like st (SortSt.mk' (kindOf st3) (arrOf st3) (pendingOf st3) (mg2 - 1) (failedOf st3)):=⟨lk2.kd,lk2.ar,lk2.pe,lk2.fa⟩
      obtain ⟨xb,exb,mb,db,rb⟩:=getH sb (show 0 < nb2 by lia) l4
      refine wpS_bind (Zai exb (wpS_bind (Za5 (B:=fun i=>!decide (κ xb < κ (a.getD (0+i) default))) (lkN.kd.trans hk) (Zjt L (hSb _ mb) (fun i hi=>inA _ (by lia))) (fun i j hij hj hB=>?_) (by lia) fun k hk' f1 f2=>?_)))
      ·have h3:=Zb4 sa (i:=0+i) (j:=0+j) (by lia) (by lia)
       simp only [Bool.not_eq_true',decide_eq_false_iff_not] at hB ⊢
       lia
      have u1:∀ z∈b.toList.take nb2,∀ w∈(a.toList.take na2).drop k,κ z≤κ w:=fun z hz w hw=>by
       obtain ⟨j,j1,j2,j3,rfl⟩:=Zev hk' hw
       have h3:=f2 j j1 j2
       simp only [Bool.not_eq_false',decide_eq_true_eq] at h3
       have h4:=rb z hz
       lia
      have u2:∀ w∈a.toList.take k,κ w≤κ xb:=fun w hw=>by
       obtain ⟨j,j1,j2,rfl⟩:=Zde hw
       have h3:=f1 j j1
       simp only [Bool.not_eq_true',decide_eq_false_iff_not] at h3
       lia
      dsimp only
      by_cases p0:na2 - k > 0
      ·rw [if_pos p0]
       have m2:=go2.mi.extA sa (m:=k) hk' u1
       by_cases q1:k=0
       ·rw [if_pos (beq_iff_eq.mpr q1)]
        exact wpS_pure (And.intro lkN (.inl ⟨_,rfl,Zau m2 sa sb (.inl q1)⟩))
       ·rw [if_neg (fun z=>q1 (beq_iff_eq.mp z))]
        have kB:=u2
        refine wpS_bind (Zai exb ?_)
        have m3:=m2.pushB sb db kB
        by_cases q3:nb2 - 1=1
        ·rw [if_pos (beq_iff_eq.mpr q3)]
         exact wpS_pure (And.intro lkN (.inl ⟨_,rfl,Za4 m3 sa sb q3 hf⟩))
        ·rw [if_neg (fun z=>q3 (beq_iff_eq.mp z))]
         obtain ⟨xa,exa,ma,da,ra⟩:=getH sa (show 0 < k by lia) (by lia)
         refine wpS_bind (Zai exa (wpS_bind (Za5 (B:=fun i=>decide (κ (b.getD (0+i) default) < κ xa)) (lkN.kd.trans hk) (Zek L (hSa _ ma) (fun i hi=>inB _ (by lia))) (fun i j hij hj hB=>decide_eq_true (Int.lt_of_le_of_lt (Zb4 sb (by lia) (by lia)) (of_decide_eq_true hB))) (by lia) fun k1 hk1 g1 g2=>?_)))
         have t1:∀ z∈a.toList.take (k),∀ w∈(b.toList.take (nb2 - 1)).drop k1,κ z≤κ w:=fun z hz w hw=>by
          obtain ⟨j,j1,j2,j3,rfl⟩:=Zev hk1 hw
          have h3:=of_decide_eq_false (g2 j j1 j2)
          have h4:=ra z hz
          lia
         have t2:∀ w∈b.toList.take k1,κ w≤κ xa:=fun w hw=>by
          obtain ⟨j,j1,j2,rfl⟩:=Zde hw
          exact Int.le_of_lt (of_decide_eq_true (g1 j j1))
         dsimp only
         by_cases p1:nb2 - 1 - k1 > 0
         ·rw [if_pos p1]
          have m4:=m3.extB sb (m:=k1) hk1 t1
          by_cases q4:k1=1
          ·rw [if_pos (beq_iff_eq.mpr q4)]
           exact wpS_pure (And.intro lkN (.inl ⟨_,rfl,Za4 m4 sa sb q4 hf⟩))
          ·rw [if_neg (fun z=>q4 (beq_iff_eq.mp z))]
           by_cases q6:k1=0
           ·rw [if_pos (beq_iff_eq.mpr q6)]
            exact wpS_pure (And.intro lkN (.inl ⟨_,rfl,Zau m4 sa sb (.inr q6)⟩))
           ·rw [if_neg (fun z=>q6 (beq_iff_eq.mp z))]
            have kA:=t2
            refine wpS_bind (Zai exa ?_)
            have m5:=m4.pushA sa da kA
            by_cases q5:k - 1=0
            ·rw [if_pos (beq_iff_eq.mpr q5)]
             exact wpS_pure (And.intro lkN (.inl ⟨_,rfl,Zau m5 sa sb (.inl q5)⟩))
            ·rw [if_neg (fun z=>q5 (beq_iff_eq.mp z))]
             have gn:GoH κ a b _ (k - 1) (k1):=⟨m5,by lia,by lia⟩
             split
             ·exact wpS_pure (And.intro lkN (.inr ⟨rfl,gn,by show k - 1+(k1)+1≤na+nb; lia⟩))
             ·exact wpS_pure (And.intro rfl ⟨gn,by show k - 1+(k1)+1≤na+nb; lia,lkN⟩)
         ·rw [if_neg p1]
          have k10:k1=nb2 - 1:=by lia
          subst k10
          have kA:=t2
          refine wpS_bind (Zai exa ?_)
          have m5:=m3.pushA sa da kA
          by_cases q5:k - 1=0
          ·rw [if_pos (beq_iff_eq.mpr q5)]
           exact wpS_pure (And.intro lkN (.inl ⟨_,rfl,Zau m5 sa sb (.inl q5)⟩))
          ·rw [if_neg (fun z=>q5 (beq_iff_eq.mp z))]
           have gn:GoH κ a b _ (k - 1) (nb2 - 1):=⟨m5,by lia,by lia⟩
           split
           ·exact wpS_pure (And.intro lkN (.inr ⟨rfl,gn,by show k - 1+(nb2 - 1)+1≤na+nb; lia⟩))
           ·exact wpS_pure (And.intro rfl ⟨gn,by show k - 1+(nb2 - 1)+1≤na+nb; lia,lkN⟩)
      ·rw [if_neg p0]
       have k00:k=na2:=by lia
       subst k00
       have kB:=u2
       have mi2:=go2.mi
       refine wpS_bind (Zai exb ?_)
       have m3:=mi2.pushB sb db kB
       by_cases q3:nb2 - 1=1
       ·rw [if_pos (beq_iff_eq.mpr q3)]
        exact wpS_pure (And.intro lkN (.inl ⟨_,rfl,Za4 m3 sa sb q3 hf⟩))
       ·rw [if_neg (fun z=>q3 (beq_iff_eq.mp z))]
        obtain ⟨xa,exa,ma,da,ra⟩:=getH sa (show 0 < k by lia) (by lia)
        refine wpS_bind (Zai exa (wpS_bind (Za5 (B:=fun i=>decide (κ (b.getD (0+i) default) < κ xa)) (lkN.kd.trans hk) (Zek L (hSa _ ma) (fun i hi=>inB _ (by lia))) (fun i j hij hj hB=>decide_eq_true (Int.lt_of_le_of_lt (Zb4 sb (by lia) (by lia)) (of_decide_eq_true hB))) (by lia) fun k1 hk1 g1 g2=>?_)))
        have t1:∀ z∈a.toList.take (k),∀ w∈(b.toList.take (nb2 - 1)).drop k1,κ z≤κ w:=fun z hz w hw=>by
         obtain ⟨j,j1,j2,j3,rfl⟩:=Zev hk1 hw
         have h3:=of_decide_eq_false (g2 j j1 j2)
         have h4:=ra z hz
         lia
        have t2:∀ w∈b.toList.take k1,κ w≤κ xa:=fun w hw=>by
         obtain ⟨j,j1,j2,rfl⟩:=Zde hw
         exact Int.le_of_lt (of_decide_eq_true (g1 j j1))
        dsimp only
        by_cases p1:nb2 - 1 - k1 > 0
        ·rw [if_pos p1]
         have m4:=m3.extB sb (m:=k1) hk1 t1
         by_cases q4:k1=1
         ·rw [if_pos (beq_iff_eq.mpr q4)]
          exact wpS_pure (And.intro lkN (.inl ⟨_,rfl,Za4 m4 sa sb q4 hf⟩))
         ·rw [if_neg (fun z=>q4 (beq_iff_eq.mp z))]
          by_cases q6:k1=0
          ·rw [if_pos (beq_iff_eq.mpr q6)]
           exact wpS_pure (And.intro lkN (.inl ⟨_,rfl,Zau m4 sa sb (.inr q6)⟩))
          ·rw [if_neg (fun z=>q6 (beq_iff_eq.mp z))]
           have kA:=t2
           refine wpS_bind (Zai exa ?_)
           have m5:=m4.pushA sa da kA
           by_cases q5:k - 1=0
           ·rw [if_pos (beq_iff_eq.mpr q5)]
            exact wpS_pure (And.intro lkN (.inl ⟨_,rfl,Zau m5 sa sb (.inl q5)⟩))
           ·rw [if_neg (fun z=>q5 (beq_iff_eq.mp z))]
            have gn:GoH κ a b _ (k - 1) (k1):=⟨m5,by lia,by lia⟩
            split
            ·exact wpS_pure (And.intro lkN (.inr ⟨rfl,gn,by show k - 1+(k1)+1≤na+nb; lia⟩))
            ·exact wpS_pure (And.intro rfl ⟨gn,by show k - 1+(k1)+1≤na+nb; lia,lkN⟩)
        ·rw [if_neg p1]
         have k10:k1=nb2 - 1:=by lia
         subst k10
         have kA:=t2
         refine wpS_bind (Zai exa ?_)
         have m5:=m3.pushA sa da kA
         by_cases q5:k - 1=0
         ·rw [if_pos (beq_iff_eq.mpr q5)]
          exact wpS_pure (And.intro lkN (.inl ⟨_,rfl,Zau m5 sa sb (.inl q5)⟩))
         ·rw [if_neg (fun z=>q5 (beq_iff_eq.mp z))]
          have gn:GoH κ a b _ (k - 1) (nb2 - 1):=⟨m5,by lia,by lia⟩
          split
          ·exact wpS_pure (And.intro lkN (.inr ⟨rfl,gn,by show k - 1+(nb2 - 1)+1≤na+nb; lia⟩))
          ·exact wpS_pure (And.intro rfl ⟨gn,by show k - 1+(nb2 - 1)+1≤na+nb; lia,lkN⟩)
     ·rw [if_neg hm]
      refine wpS_bind (wpS_modify ?_)
      have lkN:Like st (SortSt.mk' (kindOf st3) (arrOf st3) (pendingOf st3) mg2 (failedOf st3)):=⟨lk2.kd,lk2.ar,lk2.pe,lk2.fa⟩
      obtain ⟨xb,exb,mb,db,rb⟩:=getH sb (show 0 < nb2 by lia) l4
      refine wpS_bind (Zai exb (wpS_bind (Za5 (B:=fun i=>!decide (κ xb < κ (a.getD (0+i) default))) (lkN.kd.trans hk) (Zjt L (hSb _ mb) (fun i hi=>inA _ (by lia))) (fun i j hij hj hB=>?_) (by lia) fun k hk' f1 f2=>?_)))
      ·have h3:=Zb4 sa (i:=0+i) (j:=0+j) (by lia) (by lia)
       simp only [Bool.not_eq_true',decide_eq_false_iff_not] at hB ⊢
       lia
      have u1:∀ z∈b.toList.take nb2,∀ w∈(a.toList.take na2).drop k,κ z≤κ w:=fun z hz w hw=>by
       obtain ⟨j,j1,j2,j3,rfl⟩:=Zev hk' hw
       have h3:=f2 j j1 j2
       simp only [Bool.not_eq_false',decide_eq_true_eq] at h3
       have h4:=rb z hz
       lia
      have u2:∀ w∈a.toList.take k,κ w≤κ xb:=fun w hw=>by
       obtain ⟨j,j1,j2,rfl⟩:=Zde hw
       have h3:=f1 j j1
       simp only [Bool.not_eq_true',decide_eq_false_iff_not] at h3
       lia
      dsimp only
      by_cases p0:na2 - k > 0
      ·rw [if_pos p0]
       have m2:=go2.mi.extA sa (m:=k) hk' u1
       by_cases q1:k=0
       ·rw [if_pos (beq_iff_eq.mpr q1)]
        exact wpS_pure (And.intro lkN (.inl ⟨_,rfl,Zau m2 sa sb (.inl q1)⟩))
       ·rw [if_neg (fun z=>q1 (beq_iff_eq.mp z))]
        have kB:=u2
        refine wpS_bind (Zai exb ?_)
        have m3:=m2.pushB sb db kB
        by_cases q3:nb2 - 1=1
        ·rw [if_pos (beq_iff_eq.mpr q3)]
         exact wpS_pure (And.intro lkN (.inl ⟨_,rfl,Za4 m3 sa sb q3 hf⟩))
        ·rw [if_neg (fun z=>q3 (beq_iff_eq.mp z))]
         obtain ⟨xa,exa,ma,da,ra⟩:=getH sa (show 0 < k by lia) (by lia)
         refine wpS_bind (Zai exa (wpS_bind (Za5 (B:=fun i=>decide (κ (b.getD (0+i) default) < κ xa)) (lkN.kd.trans hk) (Zek L (hSa _ ma) (fun i hi=>inB _ (by lia))) (fun i j hij hj hB=>decide_eq_true (Int.lt_of_le_of_lt (Zb4 sb (by lia) (by lia)) (of_decide_eq_true hB))) (by lia) fun k1 hk1 g1 g2=>?_)))
         have t1:∀ z∈a.toList.take (k),∀ w∈(b.toList.take (nb2 - 1)).drop k1,κ z≤κ w:=fun z hz w hw=>by
          obtain ⟨j,j1,j2,j3,rfl⟩:=Zev hk1 hw
          have h3:=of_decide_eq_false (g2 j j1 j2)
          have h4:=ra z hz
          lia
         have t2:∀ w∈b.toList.take k1,κ w≤κ xa:=fun w hw=>by
          obtain ⟨j,j1,j2,rfl⟩:=Zde hw
          exact Int.le_of_lt (of_decide_eq_true (g1 j j1))
         dsimp only
         by_cases p1:nb2 - 1 - k1 > 0
         ·rw [if_pos p1]
          have m4:=m3.extB sb (m:=k1) hk1 t1
          by_cases q4:k1=1
          ·rw [if_pos (beq_iff_eq.mpr q4)]
           exact wpS_pure (And.intro lkN (.inl ⟨_,rfl,Za4 m4 sa sb q4 hf⟩))
          ·rw [if_neg (fun z=>q4 (beq_iff_eq.mp z))]
           by_cases q6:k1=0
           ·rw [if_pos (beq_iff_eq.mpr q6)]
            exact wpS_pure (And.intro lkN (.inl ⟨_,rfl,Zau m4 sa sb (.inr q6)⟩))
           ·rw [if_neg (fun z=>q6 (beq_iff_eq.mp z))]
            have kA:=t2
            refine wpS_bind (Zai exa ?_)
            have m5:=m4.pushA sa da kA
            by_cases q5:k - 1=0
            ·rw [if_pos (beq_iff_eq.mpr q5)]
             exact wpS_pure (And.intro lkN (.inl ⟨_,rfl,Zau m5 sa sb (.inl q5)⟩))
            ·rw [if_neg (fun z=>q5 (beq_iff_eq.mp z))]
             have gn:GoH κ a b _ (k - 1) (k1):=⟨m5,by lia,by lia⟩
             split
             ·exact wpS_pure (And.intro lkN (.inr ⟨rfl,gn,by show k - 1+(k1)+1≤na+nb; lia⟩))
             ·exact wpS_pure (And.intro rfl ⟨gn,by show k - 1+(k1)+1≤na+nb; lia,lkN⟩)
         ·rw [if_neg p1]
          have k10:k1=nb2 - 1:=by lia
          subst k10
          have kA:=t2
          refine wpS_bind (Zai exa ?_)
          have m5:=m3.pushA sa da kA
          by_cases q5:k - 1=0
          ·rw [if_pos (beq_iff_eq.mpr q5)]
           exact wpS_pure (And.intro lkN (.inl ⟨_,rfl,Zau m5 sa sb (.inl q5)⟩))
          ·rw [if_neg (fun z=>q5 (beq_iff_eq.mp z))]
           have gn:GoH κ a b _ (k - 1) (nb2 - 1):=⟨m5,by lia,by lia⟩
           split
           ·exact wpS_pure (And.intro lkN (.inr ⟨rfl,gn,by show k - 1+(nb2 - 1)+1≤na+nb; lia⟩))
           ·exact wpS_pure (And.intro rfl ⟨gn,by show k - 1+(nb2 - 1)+1≤na+nb; lia,lkN⟩)
      ·rw [if_neg p0]
       have k00:k=na2:=by lia
       subst k00
       have kB:=u2
       have mi2:=go2.mi
       refine wpS_bind (Zai exb ?_)
       have m3:=mi2.pushB sb db kB
       by_cases q3:nb2 - 1=1
       ·rw [if_pos (beq_iff_eq.mpr q3)]
        exact wpS_pure (And.intro lkN (.inl ⟨_,rfl,Za4 m3 sa sb q3 hf⟩))
       ·rw [if_neg (fun z=>q3 (beq_iff_eq.mp z))]
        obtain ⟨xa,exa,ma,da,ra⟩:=getH sa (show 0 < k by lia) (by lia)
        refine wpS_bind (Zai exa (wpS_bind (Za5 (B:=fun i=>decide (κ (b.getD (0+i) default) < κ xa)) (lkN.kd.trans hk) (Zek L (hSa _ ma) (fun i hi=>inB _ (by lia))) (fun i j hij hj hB=>decide_eq_true (Int.lt_of_le_of_lt (Zb4 sb (by lia) (by lia)) (of_decide_eq_true hB))) (by lia) fun k1 hk1 g1 g2=>?_)))
        have t1:∀ z∈a.toList.take (k),∀ w∈(b.toList.take (nb2 - 1)).drop k1,κ z≤κ w:=fun z hz w hw=>by
         obtain ⟨j,j1,j2,j3,rfl⟩:=Zev hk1 hw
         have h3:=of_decide_eq_false (g2 j j1 j2)
         have h4:=ra z hz
         lia
        have t2:∀ w∈b.toList.take k1,κ w≤κ xa:=fun w hw=>by
         obtain ⟨j,j1,j2,rfl⟩:=Zde hw
         exact Int.le_of_lt (of_decide_eq_true (g1 j j1))
        dsimp only
        by_cases p1:nb2 - 1 - k1 > 0
        ·rw [if_pos p1]
         have m4:=m3.extB sb (m:=k1) hk1 t1
         by_cases q4:k1=1
         ·rw [if_pos (beq_iff_eq.mpr q4)]
          exact wpS_pure (And.intro lkN (.inl ⟨_,rfl,Za4 m4 sa sb q4 hf⟩))
         ·rw [if_neg (fun z=>q4 (beq_iff_eq.mp z))]
          by_cases q6:k1=0
          ·rw [if_pos (beq_iff_eq.mpr q6)]
           exact wpS_pure (And.intro lkN (.inl ⟨_,rfl,Zau m4 sa sb (.inr q6)⟩))
          ·rw [if_neg (fun z=>q6 (beq_iff_eq.mp z))]
           have kA:=t2
           refine wpS_bind (Zai exa ?_)
           have m5:=m4.pushA sa da kA
           by_cases q5:k - 1=0
           ·rw [if_pos (beq_iff_eq.mpr q5)]
            exact wpS_pure (And.intro lkN (.inl ⟨_,rfl,Zau m5 sa sb (.inl q5)⟩))
           ·rw [if_neg (fun z=>q5 (beq_iff_eq.mp z))]
            have gn:GoH κ a b _ (k - 1) (k1):=⟨m5,by lia,by lia⟩
            split
            ·exact wpS_pure (And.intro lkN (.inr ⟨rfl,gn,by show k - 1+(k1)+1≤na+nb; lia⟩))
            ·exact wpS_pure (And.intro rfl ⟨gn,by show k - 1+(k1)+1≤na+nb; lia,lkN⟩)
        ·rw [if_neg p1]
         have k10:k1=nb2 - 1:=by lia
         subst k10
         have kA:=t2
         refine wpS_bind (Zai exa ?_)
         have m5:=m3.pushA sa da kA
         by_cases q5:k - 1=0
         ·rw [if_pos (beq_iff_eq.mpr q5)]
          exact wpS_pure (And.intro lkN (.inl ⟨_,rfl,Zau m5 sa sb (.inl q5)⟩))
         ·rw [if_neg (fun z=>q5 (beq_iff_eq.mp z))]
          have gn:GoH κ a b _ (k - 1) (nb2 - 1):=⟨m5,by lia,by lia⟩
          split
          ·exact wpS_pure (And.intro lkN (.inr ⟨rfl,gn,by show k - 1+(nb2 - 1)+1≤na+nb; lia⟩))
          ·exact wpS_pure (And.intro rfl ⟨gn,by show k - 1+(nb2 - 1)+1≤na+nb; lia,lkN⟩)
end
end L2
namespace L2
open PySem PySem.Spec PyProof.Rows
section
variable {M:Model} {A:Around} {E:Value→Shared→Prop} {s:Shared}
def mergeAtG:Nat→StateT SortSt Sem Bool:=sortPriv% PySem.Builtin.mergeAt
theorem written {α:Type}:∀ (ms:List α) (n base:Nat) (xs:Array α),base+n+ms.length≤xs.size →
  ((ms.zipIdx n).foldl (fun a p=>a.setIfInBounds (base+p.2) p.1) xs).toList=xs.toList.take (base+n)++ms++xs.toList.drop (base+n+ms.length)
 | [],n,base,xs,h=>by simp
 | m :: ms,n,base,xs,h=>by
  rw [List.zipIdx_cons,List.foldl_cons]
  have hl:base+n+(ms.length+1)≤xs.size:=h
  rw [written ms (n+1) base (xs.setIfInBounds (base+n) m) (by rw [Array.size_setIfInBounds]; lia)]
  rw [Array.toList_setIfInBounds]
  have h1:base+n < xs.toList.length:=by rw [Array.length_toList]; lia
  rw [show base+(n+1)=base+n+1 by lia]
  rw [List.take_set,List.drop_set,if_pos (by lia)]
  have e1:(xs.toList.take (base+n+1)).set (base+n) m=xs.toList.take (base+n)++[m]:=by
   rw [List.take_succ_eq_append_getElem h1,List.set_append_right _ _ (by rw [List.length_take]; lia)]
   rw [List.length_take,Nat.min_eq_left (by lia),Nat.sub_self]
   rfl
  rw [e1,show base+n+1+ms.length=base+n+(m :: ms).length by simp; lia]
  simp
theorem wpS_set {σ:Type} {st st':σ} {Q:PUnit→σ→Prop} (h:Q ⟨⟩ st'):wpS M A E s (set st':StateT σ Sem PUnit) Q st:=by
 unfold wpS; rw [StateT.run_set]; exact wpAny_pure ⟨rfl,h⟩
theorem Zhr {κ:Keyed→Int} {a:Array Keyed} {lo n:Nat} (h:Rise κ ((a.toList.drop lo).take n)) (hn:lo+n≤a.size) {i j:Nat} (hij:i≤j) (hj:j < n):κ (a.getD (lo+i) default)≤κ (a.getD (lo+j) default):=by
 have ei:a.getD (lo+i) default=a.toList[lo+i]'(by simp; lia):=by
  have:lo+i < a.size:=by lia
  simp [Array.getD,this]
 have ej:a.getD (lo+j) default=a.toList[lo+j]'(by simp; lia):=by
  have:lo+j < a.size:=by lia
  simp [Array.getD,this]
 rw [ei,ej]
 rcases Nat.lt_or_ge i j with h' | h'
 ·have:=List.pairwise_iff_getElem.mp h i j (by simp; lia) (by simp; lia) h'
  rwa [List.getElem_take,List.getElem_take,List.getElem_drop,List.getElem_drop] at this
 ·have:i=j:=by lia
  subst this; exact Int.le_refl _
theorem three {α:Type} {κ:α→Int} {A1 A2 B1 B2 ms:List α} (sA:Rise κ (A1++A2)) (sB:Rise κ (B1++B2)) (hm:Rise κ ms) (pm:ms.Perm (A2++B1)) (h1:∀ x∈A1,∀ y∈B1++B2,κ x≤κ y) (h2:∀ x∈A1++A2,∀ y∈B2,κ x≤κ y):Rise κ (A1++ms++B2):=by
 obtain ⟨a1,a2,a3⟩:=List.pairwise_append.mp sA
 obtain ⟨b1,b2,b3⟩:=List.pairwise_append.mp sB
 refine Rise.app (Rise.app a1 hm fun x hx y hy=>?_) b2 fun x hx y hy=>?_
 ·rcases List.mem_append.mp (pm.mem_iff.mp hy) with hy | hy
  ·exact a3 x hx y hy
  ·exact h1 x hx y (List.mem_append_left _ hy)
 ·rcases List.mem_append.mp hx with hx | hx
  ·exact h2 x (List.mem_append_left _ hx) y hy
  ·rcases List.mem_append.mp (pm.mem_iff.mp hx) with hx | hx
   ·exact h2 x (List.mem_append_right _ hx) y hy
   ·exact b3 x hx y hy
theorem Zj4 {kd:SortKind} {κ:Keyed→Int} {S:Keyed→Prop} {st:SortSt} {i sa na pw nb pw':Nat} {Q:Bool→SortSt→Prop} (L:LtG M A E s kd κ S) (hk:kindOf st=kd) (hfa:failedOf st=none) (p1:(pendingOf st)[i]?=some (sa,na,pw)) (p2:(pendingOf st)[i+1]?=some (sa+na,nb,pw'))
  (hS:∀ x∈(arrOf st).toList,S x) (ha:0 < na) (hb:0 < nb) (hn:sa+na+nb≤(arrOf st).size) (r1:Rise κ (((arrOf st).toList.drop sa).take na)) (r2:Rise κ (((arrOf st).toList.drop (sa+na)).take nb))
  (h:∀ (arr':Array Keyed) (g:Nat) (seg:List Keyed),arr'.toList=(arrOf st).toList.take sa++seg++(arrOf st).toList.drop (sa+na+nb)→Rise κ seg→seg.Perm (((arrOf st).toList.drop sa).take na++((arrOf st).toList.drop (sa+na)).take nb) →
   Q true (SortSt.mk' kd arr' (((pendingOf st).setIfInBounds i (sa,na+nb,pw)).eraseIdxIfInBounds (i+1)) g none)):wpS M A E s (mergeAtG i) Q st:=by
 refine wpS_bind (wpS_get ?_)
 have inn:∀ i,i < (arrOf st).size→∃ x,(arrOf st)[i]?=some x∧S x:=fun i hi=>by
  obtain ⟨x,e,m,_⟩:=getG hi
  exact ⟨x,e,hS x m⟩
 have split:(arrOf st).toList=(arrOf st).toList.take sa++(((arrOf st).toList.drop sa).take na++((arrOf st).toList.drop (sa+na)).take nb)++(arrOf st).toList.drop (sa+na+nb):=by
  rw [List.append_assoc,List.append_assoc,← Zcs _ (sa+na) nb,← Zcs _ sa na,List.take_append_drop]
 rw [p1,p2]
 dsimp only
 refine wpS_bind (wpS_set ?_)
 subst hk
 obtain ⟨x0,ex0,mx0,dx0⟩:=getG (show sa+na < (arrOf st).size by lia)
 have x0B:∀ y∈((arrOf st).toList.drop (sa+na)).take nb,κ x0≤κ y:=fun y hy=>by
  obtain ⟨j,j1,j2,rfl⟩:=Zbe hy
  have:=Zhr r2 hn (i:=0) (j:=j) (by lia) j1
  rwa [Nat.add_zero,Zh2 ex0] at this
 have same:∀ g:Nat,∀ f:Option Value,f=none→∀ (arr':Array Keyed) (seg:List Keyed),arr'.toList=(arrOf st).toList.take sa++seg++(arrOf st).toList.drop (sa+na+nb)→Rise κ seg→seg.Perm (((arrOf st).toList.drop sa).take na++((arrOf st).toList.drop (sa+na)).take nb)→Q true (SortSt.mk' (kindOf st) arr' (((pendingOf st).setIfInBounds i (sa,na+nb,pw)).eraseIdxIfInBounds (i+1)) g f):=fun g f hf arr' seg e1 e2 e3=>by
  rw [hf]; exact h arr' g seg e1 e2 e3
 refine wpS_bind (Zai ex0 (wpS_bind (Za5 (B:=fun i=>!decide (κ x0 < κ ((arrOf st).getD (sa+i) default))) rfl (Zjt L (hS _ mx0) (fun i hi=>inn _ (by lia))) (fun i j hij hj hB=>?_) (by lia) fun k hk' f1 f2=>?_)))
 ·have h3:=Zhr r1 (by lia) hij hj
  simp only [Bool.not_eq_true',decide_eq_false_iff_not] at hB ⊢
  lia
 have u1:∀ z∈((arrOf st).toList.drop sa).take k,κ z≤κ x0:=fun z hz=>by
  obtain ⟨j,j1,j2,rfl⟩:=Zbe hz
  have h3:=f1 j j1
  simp only [Bool.not_eq_true',decide_eq_false_iff_not] at h3
  lia
 dsimp only
 by_cases q1:na - k=0
 ·rw [if_pos (beq_iff_eq.mpr q1)]
  have:k=na:=by lia
  subst this
  exact wpS_pure (same _ _ hfa _ _ split (Rise.app r1 r2 fun x hx y hy=>Int.le_trans (u1 x hx) (x0B y hy)) (List.Perm.refl _))
 rw [if_neg (fun z=>q1 (beq_iff_eq.mp z))]
 have eA:((arrOf st).toList.drop sa).take na=((arrOf st).toList.drop sa).take k++((arrOf st).toList.drop (sa+k)).take (na - k):=by
  conv=>lhs; rw [show na=k+(na - k) by lia]
  rw [List.take_add,List.drop_drop]
 obtain ⟨x1,ex1,mx1,dx1⟩:=getG (show sa+k+(na - k) - 1 < (arrOf st).size by lia)
 have x1A:∀ y∈((arrOf st).toList.drop sa).take na,κ y≤κ x1:=fun y hy=>by
  obtain ⟨j,j1,j2,rfl⟩:=Zbe hy
  have:=Zhr r1 (by lia) (i:=j) (j:=na - 1) (by lia) (by lia)
  rwa [show sa+(na - 1)=sa+k+(na - k) - 1 by lia,Zh2 ex1] at this
 refine wpS_bind (Zai ex1 (wpS_bind (Za5 (B:=fun i=>decide (κ ((arrOf st).getD (sa+na+i) default) < κ x1)) rfl (Zek L (hS _ mx1) (fun i hi=>inn _ (by lia))) (fun i j hij hj hB=>decide_eq_true (Int.lt_of_le_of_lt (Zhr r2 hn hij hj) (of_decide_eq_true hB))) (by lia) fun k1 hk1 g1 g2=>?_)))
 have eB:((arrOf st).toList.drop (sa+na)).take nb=((arrOf st).toList.drop (sa+na)).take k1++((arrOf st).toList.drop (sa+na+k1)).take (nb - k1):=by
  conv=>lhs; rw [show nb=k1+(nb - k1) by lia]
  rw [List.take_add,List.drop_drop]
 have v1:∀ z∈((arrOf st).toList.drop (sa+na)).take k1,κ z≤κ x1:=fun z hz=>by
  obtain ⟨j,j1,j2,rfl⟩:=Zbe hz
  exact Int.le_of_lt (of_decide_eq_true (g1 j j1))
 have v2:∀ z∈((arrOf st).toList.drop (sa+na+k1)).take (nb - k1),κ x1≤κ z:=fun z hz=>by
  obtain ⟨j,j1,j2,rfl⟩:=Zbe hz
  have:=of_decide_eq_false (g2 (k1+j) (by lia) (by lia))
  rw [← Nat.add_assoc] at this
  lia
 dsimp only
 by_cases q2:k1=0
 ·rw [if_pos (beq_iff_eq.mpr q2)]
  subst q2
  exact wpS_pure (same _ _ hfa _ _ split (Rise.app r1 r2 fun x hx y hy=>Int.le_trans (x1A x hx) (v2 y (by simpa using hy))) (List.Perm.refl _))
 rw [if_neg (fun z=>q2 (beq_iff_eq.mp z))]
 have ex:((arrOf st).extract (sa+k) (sa+na)).toList=((arrOf st).toList.drop (sa+k)).take (na - k):=by
  rw [Zf6,List.drop_take,show sa+na - (sa+k)=na - k by lia]
 have ey:((arrOf st).extract (sa+na) (sa+na+k1)).toList=((arrOf st).toList.drop (sa+na)).take k1:=ext_k _ _ _
 have subx:∀ x∈((arrOf st).extract (sa+k) (sa+na)).toList,x∈(arrOf st).toList:=fun x hx=>by rw [ex] at hx; exact List.mem_of_mem_drop (List.mem_of_mem_take hx)
 have suby:∀ x∈((arrOf st).extract (sa+na) (sa+na+k1)).toList,x∈(arrOf st).toList:=fun x hx=>by rw [ey] at hx; exact List.mem_of_mem_drop (List.mem_of_mem_take hx)
 have rA:=r1
 rw [eA] at rA
 have rB:=r2
 rw [eB] at rB
 have rx:Rise κ ((arrOf st).extract (sa+k) (sa+na)).toList:=by rw [ex]; exact (List.pairwise_append.mp rA).2.1
 have ry:Rise κ ((arrOf st).extract (sa+na) (sa+na+k1)).toList:=by rw [ey]; exact (List.pairwise_append.mp rB).1
 have hfx:∀ x∈((arrOf st).extract (sa+na) (sa+na+k1)).toList.take 1,∀ y∈((arrOf st).extract (sa+k) (sa+na)).toList,κ x≤κ y:=fun x hx y hy=>by
  rw [ey,List.take_take,Nat.min_eq_left (by lia),dx0] at hx
  have:x=x0:=by simpa using hx
  rw [this]
  rw [ex] at hy
  obtain ⟨j,j1,j2,rfl⟩:=Zbe hy
  have h3:=f2 (k+j) (by lia) (by lia)
  simp only [Bool.not_eq_false',decide_eq_true_eq] at h3
  rw [← Nat.add_assoc] at h3
  lia
 have hlx:∀ x∈((arrOf st).extract (sa+na) (sa+na+k1)).toList,∀ y∈((arrOf st).extract (sa+k) (sa+na)).toList.drop (((arrOf st).extract (sa+k) (sa+na)).size - 1),κ x≤κ y:=fun x hx y hy=>by
  rw [ey] at hx
  have sz:((arrOf st).extract (sa+k) (sa+na)).size=na - k:=by rw [Array.size_extract]; lia
  rw [sz,ex,List.drop_take,List.drop_drop,show sa+k+(na - k - 1)=sa+k+(na - k) - 1 by lia,dx1,show na - k - (na - k - 1)=1 by lia] at hy
  have:y=x1:=by simpa using hy
  rw [this]
  exact v1 x hx
 have fin:∀ (r:Array Keyed) (st2:SortSt),Zbt κ ((arrOf st).extract (sa+k) (sa+na)) ((arrOf st).extract (sa+na) (sa+na+k1)) r→Like (SortSt.mk' (kindOf st) (arrOf st) (((pendingOf st).setIfInBounds i (sa,na+nb,pw)).eraseIdxIfInBounds (i+1)) (gallopOf st) (failedOf st)) st2 →
   ∀ arr':Array Keyed,arr'=(r.toList.zipIdx 0).foldl (fun a p=>a.setIfInBounds (sa+k+p.2) p.1) (arrOf st2)→Q true (SortSt.mk' (kindOf st2) arr' (pendingOf st2) (gallopOf st2) (failedOf st2)):=fun r st2 mr lk arr' earr=>by
  have rl:r.toList.length=na - k+k1:=by
   rw [mr.2.length_eq,List.length_append,ex,ey,List.length_take,List.length_take,List.length_drop,List.length_drop,Array.length_toList]; lia
  rw [lk.kd,lk.pe]
  have la:arrOf st2=arrOf st:=lk.ar
  have w:=written r.toList 0 (sa+k) (arrOf st) (by lia)
  refine same _ _ (lk.fa.trans hfa) arr' (((arrOf st).toList.drop sa).take k++r.toList++((arrOf st).toList.drop (sa+na+k1)).take (nb - k1)) ?_ ?_ ?_
  ·rw [earr,la,w,rl,Nat.add_zero,show sa+k+(na - k+k1)=sa+na+k1 by lia]
   have e1:(arrOf st).toList.take (sa+k)=(arrOf st).toList.take sa++((arrOf st).toList.drop sa).take k:=List.take_add
   have e2:=Zcs (arrOf st).toList (sa+na+k1) (nb - k1)
   rw [show sa+na+k1+(nb - k1)=sa+na+nb by lia] at e2
   rw [e1]
   conv=>lhs; rw [e2]
   simp only [List.append_assoc]
  ·refine three rA rB mr.1 (by rw [← ex,← ey]; exact mr.2) (fun x hx y hy=>Int.le_trans (u1 x hx) (x0B y (by rw [eB]; exact hy))) fun x hx y hy=>Int.le_trans (x1A x (by rw [eA]; exact hx)) (v2 y hy)
  ·have pm:=mr.2
   rw [ex,ey] at pm
   rw [eA,eB]
   refine (List.Perm.append_right _ (List.Perm.append_left _ pm)).trans ?_
   simp only [List.append_assoc]
   exact List.Perm.refl _
 have sx:0 < ((arrOf st).extract (sa+k) (sa+na)).size:=by rw [Array.size_extract]; lia
 have sy:0 < ((arrOf st).extract (sa+na) (sa+na+k1)).size:=by rw [Array.size_extract]; lia
 by_cases q3:na - k≤k1
 ·rw [if_pos q3]
  refine wpS_bind (Zj2 L rfl sx sy (fun x hx=>hS x (subx x hx)) (fun x hx=>hS x (suby x hx)) rx ry hfx hlx fun r st2 mr lk=>?_)
  refine wpS_bind (wpS_modify (wpS_bind (wpS_get ?_)))
  have fl:failedOf st2=none:=lk.fa.trans hfa
  have:=fin r st2 mr lk _ rfl
  refine wpS_pure ?_
  have e:(failedOf st2).isNone=true:=by rw [fl]; rfl
  show Q (failedOf st2).isNone _
  rw [e]
  exact this
 ·rw [if_neg q3]
  refine wpS_bind (Zj3 L rfl sx sy (fun x hx=>hS x (subx x hx)) (fun x hx=>hS x (suby x hx)) rx ry hfx hlx fun r st2 mr lk=>?_)
  refine wpS_bind (wpS_modify (wpS_bind (wpS_get ?_)))
  have fl:failedOf st2=none:=lk.fa.trans hfa
  have:=fin r st2 mr lk _ rfl
  refine wpS_pure ?_
  have e:(failedOf st2).isNone=true:=by rw [fl]; rfl
  show Q (failedOf st2).isNone _
  rw [e]
  exact this
end
end L2
namespace L2
open PySem PySem.Spec PyProof.Rows
section
variable {M:Model} {A:Around} {E:Value→Shared→Prop} {s:Shared}
def Zk4:Nat→Nat→Nat→StateT SortSt Sem Bool:=sortPriv% PySem.Builtin.binarySort
theorem wpS_ltAtG {kd:SortKind} {κ:Keyed→Int} {S:Keyed→Prop} (L:LtG M A E s kd κ S) {st:SortSt} {i j:Nat} {x y:Keyed} {Q:Option Bool→SortSt→Prop} (hk:kindOf st=kd) (hx:(arrOf st)[i]?=some x) (hy:(arrOf st)[j]?=some y) (sx:S x) (sy:S y) (h:Q (some (decide (κ x < κ y))) st):wpS M A E s (ltAt' i j) Q st:=by
 rw [ltAt'_eq]
 refine wpS_bind (wpS_get ?_)
 exact wpS_bind (Zai hx (wpS_bind (Zai hy (L x y sx sy st Q hk h))))
end
end L2
namespace L2
open PySem PySem.Spec PyProof.Rows
end L2
namespace L2
open PySem PySem.Spec PyProof.Rows
section
variable {M:Model} {A:Around} {E:Value→Shared→Prop} {s:Shared} {κ:Keyed→Int} {S:Keyed→Prop} {kd:SortKind}
def KG (κ:Keyed→Int) (xs:Array Keyed) (i:Nat):Int:=κ (xs.getD i default)
theorem Zgf {xs ys:Array Keyed} {i j:Nat} (h:xs[i]?=ys[j]?):KG κ xs i=KG κ ys j:=by
 unfold KG; rw [Array.getD_eq_getD_getElem?,Array.getD_eq_getD_getElem?,h]
structure Amid (st0:SortSt) (lo n:Nat) (st:SortSt):Prop where
 kd:kindOf st=kindOf st0
 fa:failedOf st=failedOf st0
 pe:pendingOf st=pendingOf st0
 pm:(arrOf st).Perm (arrOf st0)
 out:∀ i,i < lo∨lo+n≤i→(arrOf st)[i]?=(arrOf st0)[i]?
theorem Amid.refl (st:SortSt) (lo n:Nat):Amid st lo n st:=⟨rfl,rfl,rfl,Array.Perm.refl _,fun _ _=>rfl⟩
theorem Amid.sz {st0 st:SortSt} {lo n:Nat} (h:Amid st0 lo n st):(arrOf st).size=(arrOf st0).size:=h.pm.size_eq
theorem Amid.mem {st0 st:SortSt} {lo n:Nat} (h:Amid st0 lo n st) {x:Keyed} (m:x∈(arrOf st).toList):x∈(arrOf st0).toList:=(Array.perm_iff_toList_perm.mp h.pm).mem_iff.mp m
theorem Amid.set {st0 st:SortSt} {lo n:Nat} (h:Amid st0 lo n st) {xs:Array Keyed} (hp:xs.Perm (arrOf st)) (ho:∀ i,i < lo∨lo+n≤i→xs[i]?=(arrOf st)[i]?):Amid st0 lo n (setArr st xs) :=
 ⟨h.kd,h.fa,h.pe,hp.trans h.pm,fun i hi=>(ho i hi).trans (h.out i hi)⟩
def UpG (κ:Keyed→Int) (xs:Array Keyed) (lo k:Nat):Prop:=∀ i j,i≤j→j < k→KG κ xs (lo+i)≤KG κ xs (lo+j)
def DownG (κ:Keyed→Int) (xs:Array Keyed) (lo k:Nat):Prop:=∀ i j,i≤j→j < k→KG κ xs (lo+j)≤KG κ xs (lo+i)
theorem Zfe (L:LtG M A E s kd κ S) {st0 st:SortSt} {lo n i j:Nat} {Q:Option Bool→SortSt→Prop} (hk:kindOf st0=kd) (hS:∀ x∈(arrOf st0).toList,S x) (B:Amid st0 lo n st) (hi:i < (arrOf st0).size) (hj:j < (arrOf st0).size)
  (h:Q (some (decide (KG κ (arrOf st) i < KG κ (arrOf st) j))) st):wpS M A E s (ltAt' i j) Q st:=by
 obtain ⟨x,ex,mx,_⟩:=getG (show i < (arrOf st).size by rw [B.sz]; exact hi)
 obtain ⟨y,ey,my,_⟩:=getG (show j < (arrOf st).size by rw [B.sz]; exact hj)
 refine wpS_ltAtG L (B.kd.trans hk) ex ey (hS x (B.mem mx)) (hS y (B.mem my)) ?_
 unfold KG at h
 rwa [Zh2 ex,Zh2 ey] at h
theorem Zjz {xs:Array Keyed} {src d:Nat} (hs:src < xs.size) (hd:d≤src) (k:Nat) :
  KG κ (bubble xs src d) k=if k=src - d then KG κ xs src else if src - d < k∧k≤src then KG κ xs (k - 1) else KG κ xs k:=by
 have e:=getElem?_bubble hs d hd k
 split
 ·next h1=>rw [if_pos h1] at e; exact Zgf e
 ·next h1 =>
  rw [if_neg h1] at e
  split
  ·next h2=>rw [if_pos h2] at e; exact Zgf e
  ·next h2=>rw [if_neg h2] at e; exact Zgf e
theorem Zgg {xs:Array Keyed} {i j:Nat} (hj:j≤xs.size) (k:Nat):KG κ (mirror xs i j ((j - i) / 2)) k=if i≤k∧k < j then KG κ xs (i+j - 1 - k) else KG κ xs k:=by
 have e:=getElem?_mirror_all (i:=i) hj k
 split
 ·next h1=>rw [if_pos h1] at e; exact Zgf e
 ·next h1=>rw [if_neg h1] at e; exact Zgf e
theorem Zfd {xs:Array Keyed} {i j:Nat} (hj:j≤xs.size) (heq:∀ k,i≤k→k < j→KG κ xs k=KG κ xs (j - 1)) (k:Nat):KG κ (mirror xs i j ((j - i) / 2)) k=KG κ xs k:=by
 rw [Zgg hj]
 split
 ·rw [heq _ (by lia) (by lia),heq k (by lia) (by lia)]
 ·rfl
theorem Amid.mir {st0 st:SortSt} {lo n:Nat} (h:Amid st0 lo n st) {i j:Nat} (hi:lo≤i) (hj:j≤lo+n) (hn:lo+n≤(arrOf st0).size):Amid st0 lo n (setArr st (mirror (arrOf st) i j ((j - i) / 2))) :=
 h.set (mirror_perm _ _ _ _) fun k hk=>by rw [getElem?_mirror_all (by rw [h.sz]; lia),if_neg (by lia)]
theorem Amid.bub {st0 st:SortSt} {lo n:Nat} (h:Amid st0 lo n st) {k l:Nat} (hk:k < n) (hl:l≤k) (hn:lo+n≤(arrOf st0).size):Amid st0 lo n (setArr st (bubble (arrOf st) (lo+k) (k - l))) :=
 h.set (bubble_perm _ _ _) fun i hi=>by
  rw [getElem?_bubble (by rw [h.sz]; lia) _ (by lia)]
  rw [if_neg (by lia),if_neg (by lia)]
theorem Zem {st:SortSt} {i j:Nat} {Q:Unit→SortSt→Prop} (h:Q () (setArr st (mirror (arrOf st) i j ((j - i) / 2)))):wpS M A E s (reverseSlice' i j) Q st:=by
 rw [reverseSlice'_eq]; exact wpS_modify h
theorem wpS_down {st:SortSt} {i j:Nat} {Q:Unit→SortSt→Prop} (h:Q () (setArr st (bubble (arrOf st) i (i - j)))):wpS M A E s (moveDown' i j) Q st:=by
 rw [moveDown'_eq]; exact wpS_modify h
theorem Zff (L:LtG M A E s kd κ S) {st0 st:SortSt} {lo n ok:Nat} {Q:Bool→SortSt→Prop} (hk:kindOf st0=kd) (hS:∀ x∈(arrOf st0).toList,S x) (hn:lo+n≤(arrOf st0).size) (hok:ok≤n) (B:Amid st0 lo n st) (up:UpG κ (arrOf st) lo ok)
  (h:∀ u,Amid st0 lo n u→UpG κ (arrOf u) lo n→Q true u):wpS M A E s (Zk4 lo n ok) Q st:=by
 refine wpS_bind (wpS_mono (wpS_forRange (I:=fun k (c:Option Bool × Unit) u=>c=(none,())∧Amid st0 lo n u∧UpG κ (arrOf u) lo (min k n))
  (Q:=fun (c:Option Bool × Unit) u=>c=(none,())∧Amid st0 lo n u∧UpG κ (arrOf u) lo n) ?step ?fin ?init) ?post)
 case post =>
  rintro c u ⟨rfl,B1,up1⟩
  exact wpS_pure (h u B1 up1)
 case init =>
  refine ⟨rfl,B,fun i j hij hj=>?_⟩
  rcases Nat.eq_zero_or_pos ok with h1 | h1
  ·have:i=j:=by lia
   subst this; exact Int.le_refl _
  ·exact up i j hij (by lia)
 case fin =>
  rintro c u ⟨hc,B1,up1⟩
  refine ⟨hc,B1,?_⟩
  rwa [show min (max (max ok 1) n) n=n by lia] at up1
 case step =>
  rintro k c u hak hkn ⟨rfl,B1,up1⟩
  rw [show min k n=k by lia] at up1
  refine wpS_bind (wpS_mono (wpS_forRange (I:=fun x (c:Option Bool × Nat × Nat) v=>v=u∧∃ l r,c=(none,l,r)∧l≤r∧r≤k∧r - l≤k - x ∧
    (∀ i,i < l→KG κ (arrOf u) (lo+i)≤KG κ (arrOf u) (lo+k))∧(∀ i,r≤i→i < k→KG κ (arrOf u) (lo+k) < KG κ (arrOf u) (lo+i)))
   (Q:=fun (c:Option Bool × Nat × Nat) v=>v=u∧∃ l r,c=(none,l,r)∧l≤k ∧
    (∀ i,i < l→KG κ (arrOf u) (lo+i)≤KG κ (arrOf u) (lo+k))∧(∀ i,l≤i→i < k→KG κ (arrOf u) (lo+k) < KG κ (arrOf u) (lo+i))) ?istep ?ifin ?iinit) ?ipost)
  case iinit=>exact ⟨rfl,0,k,rfl,Nat.zero_le _,Nat.le_refl _,Nat.le_refl _,fun i hi=>absurd hi (Nat.not_lt_zero i),fun i g1 g2=>by lia⟩
  case ifin =>
   rintro c v ⟨rfl,l,r,rfl,hlr,hrk,hm,g1,g2⟩
   have:l=r:=by lia
   subst this
   exact ⟨rfl,l,l,rfl,hrk,g1,g2⟩
  case istep =>
   rintro x c v _ hxk ⟨rfl,l,r,rfl,hlr,hrk,hm,g1,g2⟩
   dsimp only
   rcases Nat.lt_or_ge l r with hge | hge
   ·rw [if_neg (by lia)]
    refine wpS_bind (Zfe L hk hS B1 (by lia) (by lia) ?_)
    by_cases hless:KG κ (arrOf v) (lo+k) < KG κ (arrOf v) (lo+(l+r) / 2)
    ·simp only [hless,decide_true,if_true]
     refine wpS_pure ⟨rfl,l,(l+r) / 2,rfl,by lia,by lia,by lia,g1,fun i i1 i2=>?_⟩
     exact Int.lt_of_lt_of_le hless (up1 _ _ i1 i2)
    ·simp only [hless,decide_false,Bool.false_eq_true,if_false]
     refine wpS_pure ⟨rfl,(l+r) / 2+1,r,rfl,by lia,by lia,by lia,fun i i1=>?_,g2⟩
     exact Int.le_trans (up1 i ((l+r) / 2) (by lia) (by lia)) (Int.not_lt.mp hless)
   ·rw [if_pos hge]
    have:l=r:=by lia
    subst this
    exact wpS_pure ⟨rfl,l,l,rfl,hrk,g1,g2⟩
  case ipost =>
   rintro c v ⟨rfl,l,r,rfl,hlk,g1,g2⟩
   have hks:lo+k < (arrOf v).size:=by rw [B1.sz]; lia
   refine wpS_bind (wpS_down (wpS_pure ⟨rfl,?_,?_⟩))
   ·rw [show lo+k - (lo+l)=k - l by lia]
    exact B1.bub hkn hlk hn
   rw [show min (k+1) n=k+1 by lia]
   intro i j hij hj
   show KG κ (bubble (arrOf v) (lo+k) (lo+k - (lo+l))) (lo+i)≤KG κ (bubble (arrOf v) (lo+k) (lo+k - (lo+l))) (lo+j)
   rw [show lo+k - (lo+l)=k - l by lia]
   rw [Zjz hks (by lia),Zjz hks (by lia),show lo+k - (k - l)=lo+l by lia]
   have at1:∀ i,i≠0→lo+i - 1=lo+(i - 1):=fun i hi=>by lia
   repeat' split
   all_goals first
    | (exfalso; lia)
    | exact Int.le_refl _
    | (rw [at1 _ (by lia)]; exact Int.le_of_lt (g2 _ (by lia) (by lia)))
    | (rw [at1 i (by lia),at1 j (by lia)]; exact up1 _ _ (by lia) (by lia))
    | (rw [at1 j (by lia)]; exact up1 _ _ (by lia) (by lia))
    | exact g1 _ (by lia)
    | exact up1 _ _ (by lia) (by lia)
end
end L2
namespace L2
open PySem PySem.Spec PyProof.Rows
section
variable {M:Model} {A:Around} {E:Value→Shared→Prop} {s:Shared} {κ:Keyed→Int} {S:Keyed→Prop} {kd:SortKind}
def countRunG:Nat→Nat→StateT SortSt Sem (Option Nat):=sortPriv% PySem.Builtin.countRun
def AscF (M:Model) (A:Around) (E:Value→Shared→Prop) (s:Shared) (lo:Nat) (f:Nat→Option (Option Nat) × Nat→StateT SortSt Sem (ForInStep (Option (Option Nat) × Nat))):Prop :=
 ∀ x n u (R:ForInStep (Option (Option Nat) × Nat)→SortSt→Prop),wpS M A E s (ltAt' (lo+n) (lo+n - 1)) (fun r v=>∃ b,r=some b∧(b=true→R (.done (none,n)) v)∧(b=false→R (.yield (none,n+1)) v)) u→wpS M A E s (f x (none,n)) R u
theorem UpG.more {xs:Array Keyed} {lo x:Nat} (up:UpG κ xs lo x) (hx:1≤x) (g:¬ KG κ xs (lo+x) < KG κ xs (lo+x - 1)):UpG κ xs lo (x+1):=fun i j hij hj=>by
 rcases Nat.lt_or_ge j x with hjx | hjx
 ·exact up i j hij hjx
 ·have e:j=x:=by lia
  subst e
  rcases Nat.lt_or_ge i j with hi | hi
  ·have:=up i (j - 1) (by lia) (by lia)
   rw [show lo+(j - 1)=lo+j - 1 by lia] at this
   lia
  ·rw [show i=j by lia]; exact Int.le_refl _
theorem DownG.more {xs:Array Keyed} {lo x:Nat} (up:DownG κ xs lo x) (hx:1≤x) (g:KG κ xs (lo+x)≤KG κ xs (lo+x - 1)):DownG κ xs lo (x+1):=fun i j hij hj=>by
 rcases Nat.lt_or_ge j x with hjx | hjx
 ·exact up i j hij hjx
 ·have e:j=x:=by lia
  subst e
  rcases Nat.lt_or_ge i j with hi | hi
  ·have:=up i (j - 1) (by lia) (by lia)
   rw [show lo+(j - 1)=lo+j - 1 by lia] at this
   lia
  ·rw [show i=j by lia]; exact Int.le_refl _
theorem ascG (L:LtG M A E s kd κ S) {st0 st:SortSt} {lo a nrem:Nat} {f:Nat→Option (Option Nat) × Nat→StateT SortSt Sem (ForInStep (Option (Option Nat) × Nat))} {Q:Option (Option Nat) × Nat→SortSt→Prop} (hk:kindOf st0=kd) (hS:∀ x∈(arrOf st0).toList,S x) (hn:lo+nrem≤(arrOf st0).size) (B:Amid st0 lo nrem st)
  (hf:AscF M A E s lo f) (ha:1≤a) (han:a≤nrem) (up:UpG κ (arrOf st) lo a)
  (h:∀ n,a≤n→n≤nrem→UpG κ (arrOf st) lo n→(n=nrem∨KG κ (arrOf st) (lo+n) < KG κ (arrOf st) (lo+n - 1))→Q (none,n) st):wpS M A E s (forIn [a:nrem] (none,a) f) Q st:=by
 refine wpS_forRange (I:=fun x c u=>u=st∧c=(none,x)∧UpG κ (arrOf st) lo x) ?_ ?_ ⟨rfl,rfl,up⟩
 ·rintro x c u hax hxn ⟨rfl,rfl,up1⟩
  refine hf _ _ _ _ (Zfe L hk hS B (by lia) (by lia) ⟨_,rfl,fun e=>?_,fun e=>?_⟩)
  ·exact h x hax (by lia) up1 (.inr (of_decide_eq_true e))
  ·exact ⟨rfl,rfl,up1.more (by lia) (of_decide_eq_false e)⟩
 ·rintro c u ⟨rfl,rfl,up1⟩
  rw [show max a nrem=nrem by lia] at up1 ⊢
  exact h nrem han (Nat.le_refl _) up1 (.inl rfl)
theorem tailG (L:LtG M A E s kd κ S) {st0 st:SortSt} {lo m nrem:Nat} {f:Nat→Option (Option Nat) × Nat→StateT SortSt Sem (ForInStep (Option (Option Nat) × Nat))} {g:Option (Option Nat) × Nat→StateT SortSt Sem (Option Nat)} {Q:Option Nat→SortSt→Prop} (hk:kindOf st0=kd) (hS:∀ x∈(arrOf st0).toList,S x) (hn:lo+nrem≤(arrOf st0).size) (B:Amid st0 lo nrem st)
  (hf:AscF M A E s lo f) (hg:∀ n,g (none,n)=pure (some n)) (ha:1≤m) (han:m≤nrem) (dn:DownG κ (arrOf st) lo m)
  (h:∀ n u,Amid st0 lo nrem u→1≤n→n≤nrem→UpG κ (arrOf u) lo n→Q (some n) u):wpS M A E s (reverseSlice' lo (lo+m) >>= fun _=>(forIn [m:nrem] (none,m) f >>= g)) Q st:=by
 refine wpS_bind (Zem ?_)
 have B1:=B.mir (i:=lo) (j:=lo+m) (Nat.le_refl _) (by lia) hn
 have sz:lo+m≤(arrOf st).size:=by rw [B.sz]; lia
 refine wpS_bind (ascG L hk hS hn B1 hf ha han (fun i j hij hj=>?_) fun n h1 h2 h3 _=>?_)
 ·show KG κ (mirror (arrOf st) lo (lo+m) _) (lo+i)≤KG κ (mirror (arrOf st) lo (lo+m) _) (lo+j)
  rw [Zgg sz,Zgg sz,if_pos (by lia),if_pos (by lia)]
  rw [show lo+(lo+m) - 1 - (lo+i)=lo+(m - 1 - i) by lia,show lo+(lo+m) - 1 - (lo+j)=lo+(m - 1 - j) by lia]
  exact dn _ _ (by lia) (by lia)
 ·rw [hg]
  exact wpS_pure (h n _ B1 (by lia) h2 h3)
def DscF (M:Model) (A:Around) (E:Value→Shared→Prop) (s:Shared) (lo:Nat) (f:Nat→Option (Option Nat) × Nat × Nat→StateT SortSt Sem (ForInStep (Option (Option Nat) × Nat × Nat))):Prop :=
 ∀ x n q u (R:ForInStep (Option (Option Nat) × Nat × Nat)→SortSt→Prop),wpS M A E s (ltAt' (lo+n) (lo+n - 1)) (fun r v=>∃ b,r=some b∧(b=true→q > 0→R (.yield (none,n+1,0)) (setArr v (mirror (arrOf v) (lo+n - (q+1)) (lo+n) ((lo+n - (lo+n - (q+1))) / 2))))∧(b=true→q=0→R (.yield (none,n+1,0)) v) ∧
  (b=false→wpS M A E s (ltAt' (lo+n - 1) (lo+n)) (fun r w=>∃ b,r=some b∧(b=true→R (.done (none,n,q)) w)∧(b=false→R (.yield (none,n+1,q+1)) w)) v)) u→wpS M A E s (f x (none,n,q)) R u
theorem descG (L:LtG M A E s kd κ S) {st0 st:SortSt} {lo n nrem:Nat} {f:Nat→Option (Option Nat) × Nat × Nat→StateT SortSt Sem (ForInStep (Option (Option Nat) × Nat × Nat))} {Q:Option (Option Nat) × Nat × Nat→SortSt→Prop} (hk:kindOf st0=kd) (hS:∀ x∈(arrOf st0).toList,S x) (hn:lo+nrem≤(arrOf st0).size) (B:Amid st0 lo nrem st)
  (hf:DscF M A E s lo f) (ha:1≤n) (han:n≤nrem) (dn:DownG κ (arrOf st) lo n)
  (h:∀ m q u,Amid st0 lo nrem u→n≤m→m≤nrem→DownG κ (arrOf u) lo m→q+1≤m→(∀ i,lo+m - (q+1)≤i→i < lo+m→KG κ (arrOf u) i=KG κ (arrOf u) (lo+m - 1))→Q (none,m,q) u):wpS M A E s (forIn [n:nrem] (none,n,0) f) Q st:=by
 refine wpS_forRange (I:=fun x c u=>∃ q,c=(none,x,q)∧Amid st0 lo nrem u∧DownG κ (arrOf u) lo x∧q+1≤x∧(∀ i,lo+x - (q+1)≤i→i < lo+x→KG κ (arrOf u) i=KG κ (arrOf u) (lo+x - 1))) ?_ ?_ ⟨0,rfl,B,dn,ha,fun i h1 h2=>by rw [show i=lo+n - 1 by lia]⟩
 ·rintro x c u hax hxn ⟨q,rfl,B1,dn1,hq,he⟩
  have sz:lo+x≤(arrOf u).size:=by rw [B1.sz]; lia
  refine hf _ _ _ _ _ (Zfe L hk hS B1 (by lia) (by lia) ⟨_,rfl,fun e q0=>?_,fun e q0=>?_,fun e=>?_⟩)
  ·have e:=of_decide_eq_true e
   have lv:=Zfd sz he
   refine ⟨0,rfl,B1.mir (by lia) (by lia) hn,?_,by lia,fun i h1 h2=>by rw [show i=lo+(x+1) - 1 by lia]⟩
   have d2:DownG κ (mirror (arrOf u) (lo+x - (q+1)) (lo+x) ((lo+x - (lo+x - (q+1))) / 2)) lo x:=fun i j hij hj=>by
    rw [lv,lv]; exact dn1 i j hij hj
   exact d2.more (by lia) (by rw [lv,lv]; exact Int.le_of_lt e)
  ·have e:=of_decide_eq_true e
   exact ⟨0,rfl,B1,dn1.more (by lia) (Int.le_of_lt e),by lia,fun i h1 h2=>by rw [show i=lo+(x+1) - 1 by lia]⟩
  ·have e:=of_decide_eq_false e
   refine Zfe L hk hS B1 (by lia) (by lia) ⟨_,rfl,fun e2=>?_,fun e2=>?_⟩
   ·exact h x q u B1 hax (by lia) dn1 hq he
   ·have e2:=of_decide_eq_false e2
    refine ⟨q+1,rfl,B1,dn1.more (by lia) (by lia),by lia,fun i h1 h2=>?_⟩
    rcases Nat.lt_or_ge i (lo+x) with hi | hi
    ·rw [he i (by lia) hi,show lo+(x+1) - 1=lo+x by lia]; lia
    ·rw [show i=lo+(x+1) - 1 by lia]
 ·rintro c u ⟨q,rfl,B1,dn1,hq,he⟩
  rw [show max n nrem=nrem by lia] at dn1 hq he ⊢
  exact h nrem q u B1 han (Nat.le_refl _) dn1 hq he
theorem Zhe (L:LtG M A E s kd κ S) {st:SortSt} {lo nrem:Nat} {Q:Option Nat→SortSt→Prop} (hk:kindOf st=kd) (hS:∀ x∈(arrOf st).toList,S x) (hn:lo+nrem≤(arrOf st).size) (h1:1≤nrem)
  (h:∀ m u,Amid st lo nrem u→1≤m→m≤nrem→UpG κ (arrOf u) lo m→Q (some m) u):wpS M A E s (countRunG lo nrem) Q st:=by
 have B:=Amid.refl st lo nrem
 have sure:∀ (f:Nat→Option (Option Nat) × Nat→StateT SortSt Sem (ForInStep (Option (Option Nat) × Nat))),(∀ x n u (R:ForInStep (Option (Option Nat) × Nat)→SortSt→Prop),wpS M A E s (ltAt' (lo+n) (lo+n - 1)) (fun r v=>∃ b,r=some b∧(b=true→R (.done (none,n)) v)∧(b=false→R (.yield (none,n+1)) v)) u→wpS M A E s (f x (none,n)) R u)→AscF M A E s lo f:=fun f h=>h
 refine wpS_bind (ascG L hk hS hn B (fun x n u R g=>wpS_bind (wpS_mono g ?_)) (Nat.le_refl 1) h1 (fun i j hij hj=>by rw [show i=j by lia]; exact Int.le_refl _) fun n hn1 hn2 up hor=>?_)
 ·rintro r v ⟨b,rfl,g1,g2⟩
  cases b with
  | true=>exact wpS_pure (g1 rfl)
  | false=>exact wpS_pure (g2 rfl)
 dsimp only
 by_cases hnn:n=nrem
 ·rw [if_pos (beq_iff_eq.mpr hnn)]
  exact wpS_pure (h n st B hn1 hn2 up)
 rw [if_neg (fun z=>hnn (beq_iff_eq.mp z))]
 have hlt:=hor.resolve_left hnn
 have sz:lo+n≤(arrOf st).size:=by lia
 rcases Nat.lt_or_ge 1 n with hgt | hgt
 ·rw [if_pos hgt]
  refine wpS_bind (Zfe L hk hS B (by lia) (by lia) ?_)
  by_cases rose:KG κ (arrOf st) lo < KG κ (arrOf st) (lo+n - 1)
  ·rw [decide_eq_true rose]
   exact wpS_pure (h n st B hn1 hn2 up)
  rw [decide_eq_false rose]
  have all:∀ k,lo≤k→k < lo+n→KG κ (arrOf st) k=KG κ (arrOf st) (lo+n - 1):=fun k k1 k2=>by
   have a1:=up 0 (k - lo) (by lia) (by lia)
   have a2:=up (k - lo) (n - 1) (by lia) (by lia)
   rw [Nat.add_zero] at a1
   rw [show lo+(k - lo)=k by lia] at a1 a2
   rw [show lo+(n - 1)=lo+n - 1 by lia] at a2
   lia
  refine wpS_bind (Zem ?_)
  have lv:=Zfd sz all
  have B1:=B.mir (i:=lo) (j:=lo+n) (Nat.le_refl _) (by lia) hn
  have dn:DownG κ (mirror (arrOf st) lo (lo+n) ((lo+n - lo) / 2)) lo (n+1):=by
   refine DownG.more (fun i j hij hj=>?_) hn1 (by rw [lv,lv]; exact Int.le_of_lt hlt)
   rw [lv,lv,all _ (by lia) (by lia),all (lo+i) (by lia) (by lia)]
   exact Int.le_refl _
  replace dn:DownG κ (arrOf (setArr st (mirror (arrOf st) lo (lo+n) ((lo+n - lo) / 2)))) lo (n+1):=dn
  generalize setArr st (mirror (arrOf st) lo (lo+n) ((lo+n - lo) / 2))=w at B1 dn ⊢
  clear rose all lv
  refine wpS_bind (wpS_lift (wpAny_rule ⟨rfl,?_⟩))
  refine wpS_bind (descG L hk hS hn B1 (fun x n q u R g=>wpS_bind (wpS_mono g ?_)) (by lia) (by lia) dn fun m q u B2 m1 m2 dn2 q1 he=>?_)
  ·rintro r v ⟨b,rfl,g1,g2,g3⟩
   cases b with
   | true =>
    rcases Nat.eq_zero_or_pos q with q0 | q0
    ·subst q0; exact wpS_pure (g2 rfl rfl)
    ·dsimp only
     rw [if_pos rfl,if_pos q0]
     exact wpS_bind (Zem (wpS_pure (g1 rfl q0)))
   | false =>
    refine wpS_bind (wpS_mono (g3 rfl) ?_)
    rintro r v ⟨b,rfl,g1,g2⟩
    cases b with
    | true=>exact wpS_pure (g1 rfl)
    | false=>exact wpS_pure (g2 rfl)
  dsimp only
  have sz2:lo+m≤(arrOf u).size:=by rw [B2.sz]; lia
  rcases Nat.eq_zero_or_pos q with q0 | q0
  ·rw [if_neg (by lia)]
   refine tailG L hk hS hn B2 (fun x n u R g=>wpS_bind (wpS_mono g ?_)) (fun n=>rfl) (by lia) m2 dn2 h
   rintro r v ⟨b,rfl,g1,g2⟩
   cases b with
   | true=>exact wpS_pure (g1 rfl)
   | false=>exact wpS_pure (g2 rfl)
  ·rw [if_pos q0]
   refine wpS_bind (Zem ?_)
   have lv:=Zfd sz2 he
   refine tailG L hk hS hn (B2.mir (by lia) (by lia) hn) (fun x n u R g=>wpS_bind (wpS_mono g ?_)) (fun n=>rfl) (by lia) m2 (fun i j hij hj=>?_) h
   ·rintro r v ⟨b,rfl,g1,g2⟩
    cases b with
    | true=>exact wpS_pure (g1 rfl)
    | false=>exact wpS_pure (g2 rfl)
   ·show KG κ (mirror _ _ _ _) _≤KG κ (mirror _ _ _ _) _
    rw [lv,lv]; exact dn2 i j hij hj
 ·rw [if_neg (by lia)]
  have e1:n=1:=by lia
  have dn:DownG κ (arrOf st) lo (n+1):=DownG.more (fun i j hij hj=>by rw [show i=j by lia]; exact Int.le_refl _) hn1 (Int.le_of_lt hlt)
  refine wpS_bind (wpS_lift (wpAny_rule ⟨rfl,?_⟩))
  refine wpS_bind (descG L hk hS hn B (fun x n q u R g=>wpS_bind (wpS_mono g ?_)) (by lia) (by lia) dn fun m q u B2 m1 m2 dn2 q1 he=>?_)
  ·rintro r v ⟨b,rfl,g1,g2,g3⟩
   cases b with
   | true =>
    rcases Nat.eq_zero_or_pos q with q0 | q0
    ·subst q0; exact wpS_pure (g2 rfl rfl)
    ·dsimp only
     rw [if_pos rfl,if_pos q0]
     exact wpS_bind (Zem (wpS_pure (g1 rfl q0)))
   | false =>
    refine wpS_bind (wpS_mono (g3 rfl) ?_)
    rintro r v ⟨b,rfl,g1,g2⟩
    cases b with
    | true=>exact wpS_pure (g1 rfl)
    | false=>exact wpS_pure (g2 rfl)
  dsimp only
  have sz2:lo+m≤(arrOf u).size:=by rw [B2.sz]; lia
  rcases Nat.eq_zero_or_pos q with q0 | q0
  ·rw [if_neg (by lia)]
   refine tailG L hk hS hn B2 (fun x n u R g=>wpS_bind (wpS_mono g ?_)) (fun n=>rfl) (by lia) m2 dn2 h
   rintro r v ⟨b,rfl,g1,g2⟩
   cases b with
   | true=>exact wpS_pure (g1 rfl)
   | false=>exact wpS_pure (g2 rfl)
  ·rw [if_pos q0]
   refine wpS_bind (Zem ?_)
   have lv:=Zfd sz2 he
   refine tailG L hk hS hn (B2.mir (by lia) (by lia) hn) (fun x n u R g=>wpS_bind (wpS_mono g ?_)) (fun n=>rfl) (by lia) m2 (fun i j hij hj=>?_) h
   ·rintro r v ⟨b,rfl,g1,g2⟩
    cases b with
    | true=>exact wpS_pure (g1 rfl)
    | false=>exact wpS_pure (g2 rfl)
   ·show KG κ (mirror _ _ _ _) _≤KG κ (mirror _ _ _ _) _
    rw [lv,lv]; exact dn2 i j hij hj
end
end L2
namespace L2
open PySem PySem.Spec PyProof.Rows
section
variable {M:Model} {A:Around} {E:Value→Shared→Prop} {s:Shared} {κ:Keyed→Int} {S:Keyed→Prop} {kd:SortKind}
def Tiles (κ:Keyed→Int) (xs:List Keyed):Nat→List (Nat × Nat × Nat)→Nat→Prop
 | a,[],b=>a=b
 | a,p :: ps,b=>p.1=a∧0 < p.2.1∧Rise κ ((xs.drop a).take p.2.1)∧Tiles κ xs (a+p.2.1) ps b
theorem Tiles.len {xs:List Keyed}:∀ {ps:List (Nat × Nat × Nat)} {a b:Nat},Tiles κ xs a ps b→a+ps.length≤b
 | [],a,b,h=>Nat.le_of_eq h
 | p :: ps,a,b,h=>by
  have:=Tiles.len h.2.2.2
  have:=h.2.1
  rw [List.length_cons]; lia
theorem Tiles.app {xs:List Keyed}:∀ {ps qs:List (Nat × Nat × Nat)} {a b:Nat},Tiles κ xs a (ps++qs) b↔∃ c,Tiles κ xs a ps c∧Tiles κ xs c qs b
 | [],qs,a,b=>⟨fun h=>⟨a,rfl,h⟩,fun ⟨c,h1,h2⟩=>by cases h1; exact h2⟩
 | p :: ps,qs,a,b=>by
  constructor
  ·rintro ⟨h1,h2,h3,h4⟩
   obtain ⟨c,g1,g2⟩:=Tiles.app.mp h4
   exact ⟨c,⟨h1,h2,h3,g1⟩,g2⟩
  ·rintro ⟨c,⟨h1,h2,h3,g1⟩,g2⟩
   exact ⟨h1,h2,h3,Tiles.app.mpr ⟨c,g1,g2⟩⟩
theorem Zhq {α:Type} {xs ys:List α} {a n:Nat} (h:∀ i,a≤i→i < a+n→ys[i]?=xs[i]?):(ys.drop a).take n=(xs.drop a).take n:=by
 apply List.ext_getElem?
 intro i
 rw [List.getElem?_take,List.getElem?_take]
 split
 ·rw [List.getElem?_drop,List.getElem?_drop]; exact h _ (by lia) (by lia)
 ·rfl
theorem Tiles.same {xs ys:List Keyed}:∀ {ps:List (Nat × Nat × Nat)} {a b:Nat},Tiles κ xs a ps b→(∀ i,a≤i→i < b→ys[i]?=xs[i]?)→Tiles κ ys a ps b
 | [],a,b,h,_=>h
 | p :: ps,a,b,h,g=>by
  have l:=Tiles.len h.2.2.2
  refine ⟨h.1,h.2.1,?_,Tiles.same h.2.2.2 fun i i1 i2=>g i (by lia) i2⟩
  rw [Zhq fun i i1 i2=>g i i1 (by lia)]
  exact h.2.2.1
theorem Tiles.words {xs:List Keyed}:∀ {ps qs:List (Nat × Nat × Nat)} {a b:Nat},Tiles κ xs a ps b→qs.map (fun p=>(p.1,p.2.1))=ps.map (fun p=>(p.1,p.2.1))→Tiles κ xs a qs b
 | [],[],a,b,h,_=>h
 | [],_ :: _,a,b,h,e=>by simp at e
 | _ :: _,[],a,b,h,e=>by simp at e
 | p :: ps,q :: qs,a,b,h,e=>by
  obtain ⟨e1,e2⟩:=List.cons.inj e
  obtain ⟨e3,e4⟩:=Prod.mk.inj e1
  have t:=Tiles.words h.2.2.2 e2
  rw [← e4] at t
  exact ⟨e3.trans h.1,by rw [e4]; exact h.2.1,by rw [e4]; exact h.2.2.1,t⟩
theorem two_in {α:Type} {p:Array α} {i:Nat} (h:i+1 < p.size):∃ P a b R,p.toList=P++a :: b :: R∧P.length=i∧p[i]?=some a∧p[i+1]?=some b:=by
 obtain ⟨a,e1,_,d1⟩:=getG (show i < p.size by lia)
 obtain ⟨b,e2,_,d2⟩:=getG h
 refine ⟨p.toList.take i,a,b,p.toList.drop (i+1+1),?_,by rw [List.length_take,Array.length_toList]; lia,e1,e2⟩
 rw [← d2,← d1,List.take_append_drop]
theorem two_out {α:Type} {p:Array α} {P R:List α} {a b v:α} (h:p.toList=P++a :: b :: R):((p.setIfInBounds P.length v).eraseIdxIfInBounds (P.length+1)).toList=P++v :: R:=by
 have hs:p.size=P.length+(R.length+2):=by rw [← Array.length_toList,h]; simp
 have h1:P.length+1 < (p.setIfInBounds P.length v).size:=by rw [Array.size_setIfInBounds]; lia
 rw [Array.eraseIdxIfInBounds,dif_pos h1,Array.toList_eraseIdx,Array.toList_setIfInBounds,h]
 rw [List.set_append_right _ _ (Nat.le_refl _),Nat.sub_self,List.set_cons_zero,List.eraseIdx_append_of_length_le (by lia),Nat.add_sub_cancel_left]
 rfl
structure RunI (κ:Keyed→Int) (kd:SortKind) (a0:Array Keyed) (b:Nat) (st:SortSt):Prop where
 kd:kindOf st=kd
 fa:failedOf st=none
 pm:(arrOf st).Perm a0
 tl:Tiles κ (arrOf st).toList 0 (pendingOf st).toList b
theorem mergeI (L:LtG M A E s kd κ S) {a0:Array Keyed} {b i:Nat} {st:SortSt} {Q:Bool→SortSt→Prop} (hS:∀ x∈a0.toList,S x) (hb:b≤a0.size) (I:RunI κ kd a0 b st) (hi:i+1 < (pendingOf st).size)
  (h:∀ u,RunI κ kd a0 b u→(pendingOf u).size+1=(pendingOf st).size→(∀ i,b≤i→(arrOf u).toList[i]?=(arrOf st).toList[i]?)→Q true u):wpS M A E s (mergeAtG i) Q st:=by
 obtain ⟨P,p,q,R,e,rfl,e1,e2⟩:=two_in hi
 have tl:=I.tl
 rw [e] at tl
 obtain ⟨c,t1,t2⟩:=Tiles.app.mp tl
 obtain ⟨sa,na,pw⟩:=p
 obtain ⟨sb,nb,pw'⟩:=q
 obtain ⟨x1,x2,x3,y1,y2,y3,t3⟩:=t2
 simp only at x1 x2 x3 y1 y2 y3 t3
 subst x1
 subst y1
 have l3:=Tiles.len t3
 have szz:(arrOf st).size=a0.size:=I.pm.size_eq
 refine Zj4 L I.kd I.fa e1 e2 (fun x hx=>hS x ((Array.perm_iff_toList_perm.mp I.pm).mem_iff.mp hx)) x2 y2 (by lia) x3 y3 fun arr' g seg ea r pm=>?_
 have two:=two_out (v:=(sa,na+nb,pw)) e
 have sl:seg.length=na+nb:=by
  rw [pm.length_eq,List.length_append,List.length_take,List.length_take,List.length_drop,List.length_drop,Array.length_toList]; lia
 have le:((arrOf st).toList.take sa).length=sa:=by rw [List.length_take,Array.length_toList]; lia
 have all:(arrOf st).toList=(arrOf st).toList.take sa++(((arrOf st).toList.drop sa).take na++((arrOf st).toList.drop (sa+na)).take nb)++(arrOf st).toList.drop (sa+na+nb):=by
  rw [List.append_assoc,List.append_assoc,← Zcs _ (sa+na) nb,← Zcs _ sa na,List.take_append_drop]
 refine h _ ⟨rfl,rfl,?_,?_⟩ ?_ (fun i hi=>?_)
 ·refine Array.Perm.trans ?_ I.pm
  rw [Array.perm_iff_toList_perm]
  show arr'.toList.Perm _
  rw [ea]
  conv=>rhs; rw [all]
  exact List.Perm.append_right _ (List.Perm.append_left _ pm)
 ·show Tiles κ arr'.toList 0 (((pendingOf st).setIfInBounds P.length (sa,na+nb,pw)).eraseIdxIfInBounds (P.length+1)).toList b
  rw [two]
  refine Tiles.app.mpr ⟨sa,t1.same fun i _ i2=>?_,rfl,by show 0 < na+nb; lia,?_,?_⟩
  ·rw [ea,List.append_assoc,List.getElem?_append_left (by lia),List.getElem?_take,if_pos i2]
  ·show Rise κ ((arr'.toList.drop sa).take (na+nb))
   rw [ea,List.append_assoc,List.drop_append_of_le_length (by lia),List.drop_of_length_le (by lia),List.nil_append,List.take_append_of_le_length (by lia),List.take_of_length_le (by lia)]
   exact r
  ·show Tiles κ arr'.toList (sa+(na+nb)) R b
   rw [← Nat.add_assoc]
   refine t3.same fun i i1 i2=>?_
   rw [ea,List.getElem?_append_right (by rw [List.length_append]; lia),List.getElem?_drop,List.length_append,le,sl]
   congr 1; lia
 ·show (((pendingOf st).setIfInBounds P.length (sa,na+nb,pw)).eraseIdxIfInBounds (P.length+1)).size+1=(pendingOf st).size
  rw [← Array.length_toList,two,← Array.length_toList,e]
  simp
  lia
 ·show arr'.toList[i]?=_
  rw [ea,List.getElem?_append_right (by rw [List.length_append]; lia),List.getElem?_drop,List.length_append,le,sl]
  congr 1; lia
theorem rise_up {xs:Array Keyed} {lo n:Nat} (h:UpG κ xs lo n) (hn:lo+n≤xs.size):Rise κ ((xs.toList.drop lo).take n):=by
 refine List.pairwise_iff_getElem.mpr fun i j hi hj hij=>?_
 rw [List.length_take,List.length_drop,Array.length_toList] at hi hj
 rw [List.getElem_take,List.getElem_take,List.getElem_drop,List.getElem_drop]
 have:=h i j (by lia) (by lia)
 unfold KG at this
 rw [Array.getD_eq_getD_getElem?,Array.getD_eq_getD_getElem?,getElem?_pos xs (lo+i) (by lia),getElem?_pos xs (lo+j) (by lia)] at this
 simpa using this
theorem RunI.amid {a0:Array Keyed} {lo n:Nat} {st u:SortSt} (I:RunI κ kd a0 lo st) (B:Amid st lo n u):RunI κ kd a0 lo u :=
 ⟨B.kd.trans I.kd,B.fa.trans I.fa,B.pm.trans I.pm,by
  rw [B.pe]
  exact I.tl.same fun i _ i2=>by rw [Array.getElem?_toList,Array.getElem?_toList]; exact B.out i (.inl i2)⟩
def sortRunsG:StateT SortSt Sem Unit:=sortPriv% PySem.Builtin.sortRuns
def Zeu:Nat→Nat→Nat→Nat:=sortPriv% PySem.Builtin.minRun
theorem Zfw:∀ f n r,1≤n→1≤Zeu f n r
 | 0,n,r,h=>by show 1≤n+r; lia
 | f+1,n,r,h=>by
  show 1≤if n < 64 then n+r else Zeu f (n / 2) (max r (n % 2))
  split
  ·lia
  ·exact Zfw f _ _ (by lia)
theorem RunI.add {a0:Array Keyed} {lo n pw:Nat} {st:SortSt} {p:Array (Nat × Nat × Nat)} {g:Nat} (I:RunI κ kd a0 lo st) (hp:p.toList.map (fun p=>(p.1,p.2.1))=(pendingOf st).toList.map (fun p=>(p.1,p.2.1))) (hn:0 < n) (r:Rise κ (((arrOf st).toList.drop lo).take n)):RunI κ kd a0 (lo+n) (SortSt.mk' (kindOf st) (arrOf st) (p.push (lo,n,pw)) g (failedOf st)) :=
 ⟨I.kd,I.fa,I.pm,by
  show Tiles κ (arrOf st).toList 0 (p.push (lo,n,pw)).toList (lo+n)
  rw [Array.toList_push]
  exact Tiles.app.mpr ⟨lo,I.tl.words hp,rfl,hn,r,rfl⟩⟩
theorem Ziq {p:Array (Nat × Nat × Nat)} {i pw:Nat}:(p.modify i fun x=>(x.1,x.2.1,pw)).toList.map (fun p=>(p.1,p.2.1))=p.toList.map (fun p=>(p.1,p.2.1)):=by
 apply List.ext_getElem?
 intro j
 simp only [List.getElem?_map,Array.getElem?_toList,Array.getElem?_modify]
 split
 ·next h=>subst h; cases p[i]? <;> rfl
 ·rfl
theorem Zhd (L:LtG M A E s kd κ S) {st:SortSt} {Q:Unit→SortSt→Prop} (hk:kindOf st=kd) (hfa:failedOf st=none) (hpe:pendingOf st=#[]) (hS:∀ x∈(arrOf st).toList,S x)
  (h:∀ u,(arrOf u).Perm (arrOf st)→failedOf u=none→Rise κ (arrOf u).toList→Q () u):wpS M A E s sortRunsG Q st:=by
 have I0:RunI κ kd (arrOf st) 0 st:=⟨hk,hfa,Array.Perm.refl _,by rw [hpe]; rfl⟩
 refine wpS_bind (wpS_get ?_)
 dsimp only
 generalize hsz:(arrOf st).size=N
 refine wpS_bind (wpS_mono (wpS_forRange
  (I:=fun x (c:Option Unit × Nat) u=>c.1=none∧x≤c.2∧c.2≤N∧RunI κ kd (arrOf st) c.2 u)
  (Q:=fun (c:Option Unit × Nat) u=>c=(none,N)∧RunI κ kd (arrOf st) N u) ?step ?fin ⟨rfl,Nat.le_refl _,Nat.zero_le _,I0⟩) ?post)
 case fin =>
  rintro ⟨r,lo⟩ u ⟨e,h1,h2,I⟩
  have h1:max 0 N≤lo:=h1
  have h2:lo≤N:=h2
  have:lo=N:=by lia
  subst this
  have e:r=none:=e
  subst e
  exact ⟨rfl,I⟩
 case step =>
  rintro x ⟨r,lo⟩ u _ hx ⟨e,h1,h2,I⟩
  have h1:x≤lo:=h1
  have h2:lo≤N:=h2
  have e:r=none:=e
  subst e
  dsimp only at I ⊢
  have us:(arrOf u).size=N:=I.pm.size_eq.trans hsz
  have uS:∀ x∈(arrOf u).toList,S x:=fun x hx=>hS x ((Array.perm_iff_toList_perm.mp I.pm).mem_iff.mp hx)
  rcases Nat.lt_or_ge lo N with hlo | hlo
  ·rw [if_neg (by lia)]
   refine wpS_bind (Zhe L I.kd uS (by lia) (by lia) fun m u1 B1 m1 m2 up1=>?_)
   dsimp only
   have mr:1≤Zeu N N 0:=Zfw _ _ _ (by lia)
   have back:∀ (n:Nat) (v:SortSt),RunI κ kd (arrOf st) lo v→0 < n→lo+n≤N→Rise κ (((arrOf v).toList.drop lo).take n) →
     RunI κ kd (arrOf st) lo v∧0 < n∧lo+n≤N∧Rise κ (((arrOf v).toList.drop lo).take n):=fun n v a b c d=>⟨a,b,c,d⟩
   have I1:=I.amid B1
   rcases Nat.lt_or_ge m (Zeu N N 0) with hm | hm
   ·rw [if_pos (show m < (sortPriv% PySem.Builtin.minRun) N N 0 from hm)]
    refine wpS_bind (wpS_lift (wpAny_rule ⟨rfl,?_⟩))
    have hf1:min (N - lo) (Zeu N N 0)≤N - lo:=Nat.min_le_left _ _
    have hf2:m≤min (N - lo) (Zeu N N 0):=Nat.le_min.mpr ⟨m2,Nat.le_of_lt hm⟩
    replace hf1:min (N - lo) ((sortPriv% PySem.Builtin.minRun) N N 0)≤N - lo:=hf1
    replace hf2:m≤min (N - lo) ((sortPriv% PySem.Builtin.minRun) N N 0):=hf2
    generalize min (N - lo) ((sortPriv% PySem.Builtin.minRun) N N 0)=n at hf1 hf2 ⊢
    have u1S:∀ x∈(arrOf u1).toList,S x:=fun x hx=>uS x (B1.mem hx)
    refine wpS_bind (Zff L I1.kd u1S (by rw [B1.sz]; lia) hf2 (Amid.refl u1 lo n) up1 fun v B2 up2=>?_)
    have ff:∀ {α:Type} (a b:α),(if (!true)=true then a else b)=b:=fun a b=>rfl
    rw [ff]
    have Iv:=I1.amid B2
    have rv:=rise_up up2 (by rw [B2.sz,B1.sz]; lia)
    refine wpS_bind (wpS_get ?_)
    cases hb:(pendingOf v).back? with
    | none =>
     dsimp only
     exact wpS_bind (wpS_modify (wpS_pure ⟨rfl,by show x+1≤lo+n; lia,by show lo+n≤N; lia,Iv.add rfl (by lia) rv⟩))
    | some p =>
     obtain ⟨s1,n1,q⟩:=p
     dsimp only
     refine wpS_bind (wpS_mono (wpS_forRange (I:=fun _ (c:Option Unit × Unit) w=>c=(none,())∧RunI κ kd (arrOf st) lo w∧Rise κ (((arrOf w).toList.drop lo).take n)) (Q:=fun (c:Option Unit × Unit) w=>c=(none,())∧RunI κ kd (arrOf st) lo w∧Rise κ (((arrOf w).toList.drop lo).take n)) ?_ (fun _ _ z=>z) ⟨rfl,Iv,rv⟩) ?_)
     ·rintro y c w _ _ ⟨rfl,Iw,rw'⟩
      refine wpS_bind (wpS_get ?_)
      split
      ·next fst fst1 older hq =>
       split
       ·exact wpS_pure ⟨rfl,Iw,rw'⟩
       ·refine wpS_bind (mergeI L hS (by lia) Iw ?_ fun v2 I2 _ ou=>?_)
        ·split at hq
         ·next h2 =>
          have h2:1 < (pendingOf w).size:=h2
          show (pendingOf w).size - 2+1 < (pendingOf w).size
          lia
         ·nomatch hq
        ·refine wpS_pure ⟨rfl,I2,?_⟩
         rw [Zhq fun i i1 _=>ou i i1]
         exact rw'
      ·exact wpS_pure ⟨rfl,Iw,rw'⟩
     ·rintro c w ⟨rfl,Iw,rw'⟩
      dsimp only
      exact wpS_bind (wpS_modify (wpS_bind (wpS_modify (wpS_pure ⟨rfl,by show x+1≤lo+n; lia,by show lo+n≤N; lia,Iw.add Ziq (by lia) rw'⟩))))
   ·rw [if_neg (show ¬ m < (sortPriv% PySem.Builtin.minRun) N N 0 from Nat.not_lt.mpr hm)]
    have Iv:=I1
    have rv:=rise_up up1 (by rw [B1.sz]; lia)
    refine wpS_bind (wpS_get ?_)
    cases hb:(pendingOf u1).back? with
    | none =>
     dsimp only
     exact wpS_bind (wpS_modify (wpS_pure ⟨rfl,by show x+1≤lo+m; lia,by show lo+m≤N; lia,Iv.add rfl (by lia) rv⟩))
    | some p =>
     obtain ⟨s1,n1,q⟩:=p
     dsimp only
     refine wpS_bind (wpS_mono (wpS_forRange (I:=fun _ (c:Option Unit × Unit) w=>c=(none,())∧RunI κ kd (arrOf st) lo w∧Rise κ (((arrOf w).toList.drop lo).take m)) (Q:=fun (c:Option Unit × Unit) w=>c=(none,())∧RunI κ kd (arrOf st) lo w∧Rise κ (((arrOf w).toList.drop lo).take m)) ?_ (fun _ _ z=>z) ⟨rfl,Iv,rv⟩) ?_)
     ·rintro y c w _ _ ⟨rfl,Iw,rw'⟩
      refine wpS_bind (wpS_get ?_)
      split
      ·next fst fst1 older hq =>
       split
       ·exact wpS_pure ⟨rfl,Iw,rw'⟩
       ·refine wpS_bind (mergeI L hS (by lia) Iw ?_ fun v2 I2 _ ou=>?_)
        ·split at hq
         ·next h2 =>
          have h2:1 < (pendingOf w).size:=h2
          show (pendingOf w).size - 2+1 < (pendingOf w).size
          lia
         ·nomatch hq
        ·refine wpS_pure ⟨rfl,I2,?_⟩
         rw [Zhq fun i i1 _=>ou i i1]
         exact rw'
      ·exact wpS_pure ⟨rfl,Iw,rw'⟩
     ·rintro c w ⟨rfl,Iw,rw'⟩
      dsimp only
      exact wpS_bind (wpS_modify (wpS_bind (wpS_modify (wpS_pure ⟨rfl,by show x+1≤lo+m; lia,by show lo+m≤N; lia,Iw.add Ziq (by lia) rw'⟩))))
  ·rw [if_pos hlo]
   have:lo=N:=by lia
   subst this
   exact wpS_pure ⟨rfl,I⟩
 case post =>
  rintro c u ⟨rfl,I⟩
  dsimp only
  refine wpS_bind (wpS_mono (wpS_forRange (I:=fun x (c:Option Unit × Unit) v=>c=(none,())∧RunI κ kd (arrOf st) N v∧((pendingOf v).size+x≤N∨(pendingOf v).size≤1)) (Q:=fun (c:Option Unit × Unit) v=>c=(none,())∧RunI κ kd (arrOf st) N v∧(pendingOf v).size≤1) ?_ ?_ ⟨rfl,I,?_⟩) ?_)
  ·rintro x c v _ hx ⟨rfl,Iv,hv⟩
   refine wpS_bind (wpS_get ?_)
   rcases Nat.lt_or_ge 1 (pendingOf v).size with h1 | h1
   ·rw [if_neg (show ¬ (pendingOf v).size≤1 by lia)]
    have ix:∀ (b:Prop) [Decidable b],(if b then (pendingOf v).size - 2 - 1 else (pendingOf v).size - 2)+1 < (pendingOf v).size:=fun b _=>by
     split <;> lia
    refine wpS_bind (mergeI L hS (by lia) Iv (ix _) fun v2 I2 s2 _=>?_)
    exact wpS_pure ⟨rfl,I2,by rcases hv with hv | hv <;> lia⟩
   ·rw [if_pos h1]
    exact wpS_pure ⟨rfl,Iv,h1⟩
  ·rintro c v ⟨rfl,Iv,hv⟩
   exact ⟨rfl,Iv,by rcases hv with hv | hv <;> lia⟩
  ·have:=Tiles.len I.tl
   rw [Array.length_toList] at this
   exact .inl (by lia)
  ·rintro c v ⟨rfl,Iv,hv⟩
   dsimp only
   refine wpS_pure (h v Iv.pm Iv.fa ?_)
   have tl:=Iv.tl
   have le:(pendingOf v).toList.length≤1:=by rw [Array.length_toList]; exact hv
   have vs:(arrOf v).toList.length=N:=by rw [Array.length_toList]; exact Iv.pm.size_eq.trans hsz
   generalize (pendingOf v).toList=ps at tl le
   match ps,tl,le with
   | [],tl,_ =>
    have e:0=N:=tl
    rw [List.length_eq_zero_iff.mp (vs.trans e.symm)]
    exact List.Pairwise.nil
   | [p],tl,_ =>
    obtain ⟨_,_,r,e⟩:=tl
    have e:0+p.2.1=N:=e
    rwa [List.drop_zero,List.take_of_length_le (by lia)] at r
end
end L2
namespace L2
open PySem PySem.Spec PyProof.Rows
def isCF:Option NameKind→Bool
 | some .cell=>true
 | some .free=>true
 | _=>false
theorem isCF_of {o:Option NameKind} (h:isCF o=true):o=some .cell∨o=some .free:=by
 match o,h with
 | some .cell,_=>exact .inl rfl
 | some .free,_=>exact .inr rfl
theorem Zey (env:Env):∀ (l:List (Str × NameKind)) (acc:List (Str × Addr)),(∀ y∈l,y.2=.free→∃ c,env.cells.lookup y.1=some c) →
  (∀ x c,acc.lookup x=some c→env.cells.lookup x=some c) →
  ∃ cl,(forIn l acc (fun (x:Str × NameKind) (r:List (Str × Addr))=>if (x.2 == .free)=true then (cellOf env x.1 >>= fun c=>pure (ForInStep.yield ((x.1,c) :: r))) else pure (ForInStep.yield r)):Sem (List (Str × Addr)))=pure cl ∧
   (∀ x c,cl.lookup x=some c→env.cells.lookup x=some c)∧(∀ x,((∃ c,acc.lookup x=some c)∨(x,NameKind.free)∈l)→∃ c,cl.lookup x=some c)
 | [],acc,_,ha=>⟨acc,by rfl,ha,fun x h=>h.elim id fun z=>nomatch z⟩
 | (n,k) :: l,acc,hl,ha=>by
  have hl':∀ y∈l,y.2=.free→∃ c,env.cells.lookup y.1=some c:=fun y hy=>hl y (List.mem_cons_of_mem _ hy)
  by_cases hk:k=.free
  ·subst hk
   obtain ⟨c,hc⟩:=hl (n,.free) List.mem_cons_self rfl
   have hc':env.cells.lookup n=some c:=hc
   have look:∀ x,((n,c) :: acc).lookup x=if x=n then some c else acc.lookup x:=fun x=>by
    rw [List.lookup_cons]
    by_cases e:x=n
    ·subst e; simp
    ·rw [if_neg e,show (x == n)=false by simpa using e]
   have ha':∀ x d,((n,c) :: acc).lookup x=some d→env.cells.lookup x=some d:=fun x d e=>by
    rw [look] at e
    split at e
    ·rename_i q; subst q; rw [hc']; exact e
    ·exact ha x d e
   obtain ⟨cl,e,h1,h2⟩:=Zey env l ((n,c) :: acc) hl' ha'
   refine ⟨cl,?_,h1,fun x h=>h2 x ?_⟩
   ·rw [← e,List.forIn_cons]
    have ec:cellOf env n=pure c:=by unfold cellOf; rw [hc']
    show ((cellOf env n >>= fun c=>pure (ForInStep.yield ((n,c) :: acc))) >>= _:Sem (List (Str × Addr)))=_
    rw [ec]
    rfl
   ·rcases h with ⟨d,q⟩ | h
    ·left
     rw [look]
     by_cases z:x=n
     ·exact ⟨c,by rw [if_pos z]⟩
     ·exact ⟨d,by rw [if_neg z]; exact q⟩
    ·rcases List.mem_cons.mp h with z | z
     ·left
      rw [look]
      exact ⟨c,by rw [if_pos (congrArg Prod.fst z)]⟩
     ·exact .inr z
  ·obtain ⟨cl,e,h1,h2⟩:=Zey env l acc hl' ha
   refine ⟨cl,?_,h1,fun x h=>h2 x ?_⟩
   ·rw [← e,List.forIn_cons]
    have hb:(k == NameKind.free)=false:=by simpa using hk
    show ((if (k == NameKind.free)=true then _ else pure (ForInStep.yield acc)) >>= _:Sem (List (Str × Addr)))=_
    rw [hb]
    rfl
   ·rcases h with h | h
    ·exact .inl h
    ·rcases List.mem_cons.mp h with z | z
     ·exact absurd (congrArg Prod.snd z).symm hk
     ·exact .inr z
theorem closure_of {scope:Scope} {env:Env} (h:∀ y∈scope.names,y.2=.free→∃ c,env.cells.lookup y.1=some c) :
  ∃ cl,closureFor scope env=pure cl∧(∀ x c,cl.lookup x=some c→env.cells.lookup x=some c)∧(∀ x,(x,NameKind.free)∈scope.names→∃ c,cl.lookup x=some c):=by
 obtain ⟨cl,e,h1,h2⟩:=Zey env scope.names [] h (fun x c e=>by simp at e)
 refine ⟨cl,?_,h1,fun x hx=>h2 x (.inr hx)⟩
 have e2:closureFor scope env=(forIn scope.names [] (fun (x:Str × NameKind) (r:List (Str × Addr))=>if (x.2 == .free)=true then (cellOf env x.1 >>= fun c=>pure (ForInStep.yield ((x.1,c) :: r))) else pure (ForInStep.yield r)) >>= fun r=>pure r:Sem (List (Str × Addr))):=by
  rfl
 rw [e2,e]
 rfl
abbrev compCx (X:Cx) (scope:Scope) (cl:List (Str × Addr)) (N:List Str) (C:Addr) (s:Shared) (H:Hp) (ex:List Addr):Cx :=
 { X with N:=N,s₀:=s,H₀:=H,env:=compEnvC scope cl C X.env,outer:=X.stack,ex:=ex,fn:=fun _=>false,pn:=[],xe:=fun _ _=>False }
def Zgb (osc:Scope) (oN:List Str) (sc:Scope) (N:List Str) (fr:List (Option Nat)):Bool :=
 decide (sc.kind=.function) && sc.names.all (fun y=>decide (y.2≠.cell)) && sc.names.all (fun y=>decide (y.2≠.free) || isCF (osc.names.lookup y.1)) &&
 sc.names.all (fun y=>decide (y.2≠.local) || decide (sc.names.lookup y.1=some .local)) &&
 (N.zip fr).all (fun y=>match y.2 with
  | none=>true
  | some i=>decide (oN[i]?=some y.1) && isCF (osc.names.lookup y.1) && decide (sc.names.lookup y.1=some .free)) && decide (N.length=fr.length)
structure Zgh (osc:Scope) (oN:List Str) (sc:Scope) (N:List Str) (fr:List (Option Nat)):Prop where
 kind:sc.kind=.function
 nocell:∀ y∈sc.names,y.2≠.cell
 free:∀ y∈sc.names,y.2=.free→isCF (osc.names.lookup y.1)=true
 loc:∀ y∈sc.names,y.2=.local→sc.names.lookup y.1=some .local
 slots:∀ (j:Nat) (x:Str) (i:Nat),N[j]?=some x→fr[j]?=some (some i)→oN[i]?=some x∧isCF (osc.names.lookup x)=true∧sc.names.lookup x=some .free
 len:N.length=fr.length
theorem Zex {osc:Scope} {oN:List Str} {sc:Scope} {N:List Str} {fr:List (Option Nat)} (h:Zgb osc oN sc N fr=true):Zgh osc oN sc N fr:=by
 unfold Zgb at h
 simp only [Bool.and_eq_true,List.all_eq_true,decide_eq_true_eq,Bool.or_eq_true] at h
 obtain ⟨⟨⟨⟨⟨h1,h2⟩,h3⟩,h4⟩,h5⟩,h6⟩:=h
 refine ⟨h1,h2,fun y hy e=>(h3 y hy).resolve_left fun z=>z e,fun y hy e=>(h4 y hy).resolve_left fun z=>z e,fun j x i e1 e2=>?_,h6⟩
 have hm:(x,some i)∈N.zip fr:=by
  have:(N.zip fr)[j]?=some (x,some i):=by rw [List.getElem?_zip_eq_some]; exact ⟨e1,e2⟩
  exact List.mem_of_getElem? this
 have:=h5 _ hm
 simp only [Bool.and_eq_true,decide_eq_true_eq] at this
 exact ⟨this.1.1,this.1.2,this.2⟩
def stC (fr:List (Option Nat)) (σ:St):St:=fr.map fun o=>o.bind fun i=>(σ[i]?).join
def tComp (wi:TI) (g:TG) (te:TE) (fr:List (Option Nat)):TE:=fun σ H Q=>wi σ H fun J H1=>∀ acc,H1 acc=none→∃ W:Nat→Nat→St→Hp→Prop,(∃ m,W 0 m (stC fr σ) (upd H1 acc (.lst [])))∧∀ i m σ1 H2,W i m σ1 H2 →
 (J.stop i H2∧Q (.ref acc) H2)∨(J.go i H2∧∀ x H3,J.yld i H2 x H3→g x σ1 H3 fun σ4 H4=>te σ4 H4 fun v H5=>∃ xs,H5 acc=some (.lst xs)∧xs.length < sizeLine∧∃ m',m' < m∧W (i+1) m' σ4 (upd H5 acc (.lst (xs++[v]))))
section
variable {prog:Program} {w:World} {A:Around} {R:Result→Shared→Prop} {s:Shared}
theorem Zjm {elt target iter:Expr} {scope:Scope} {pos:Pos} {it acc:Value} {env:Env} (I:Nat→Shared→Prop)
    (turn:∀ n s,I n s→wpAny (model prog w) A (pyNext it) (fun r s₁=>match r with
      | none=>R (.ok .next) s₁
      | some v=>wpAny (model prog w) A (letOwnedTupleGo target it v) (fun _ s₁=>wpAny (model prog w) A (assign target env v) (fun _ s₂=>wpAny (model prog w) A (eval elt env) (fun x s₃ =>
          wpAny (model prog w) A (call (.builtin "list.append") [acc,x]) (fun _ s₄=>∃ m,m < n∧I m s₄) (notedBy (model prog w) A env fun e s'=>R (.error e) s') s₃)
          (notedBy (model prog w) A env fun e s'=>R (.error e) s') s₂) (notedBy (model prog w) A env fun e s'=>R (.error e) s') s₁) (notedBy (model prog w) A env fun e s'=>R (.error e) s') s₁) (notedBy (model prog w) A env fun e s'=>R (.error e) s') s)
    (n:Nat) (h:I n s) :
    codeAny (model prog w) A (.compLoop (.ListComp elt [⟨target,iter,[],0⟩] scope pos) 0 it acc env) R s:=by
  refine codeAny_loop rfl I (fun n s hI=>?_) n h
  show wpAny _ _ ((compTurn (.ListComp elt [⟨target,iter,[],0⟩] scope pos) 0 it acc env).onRaise (fun x=>do noteFrame x env; theTreesLotGoes x)) _ _ s
  refine wpAny_noted ?_
  rw [compTurn_list1]
  refine wpAny_bind (wpAny_standAt (wpAny_bind (wpAny_mono (turn n s hI) (fun r s₁ h₁=>?_) fun _ _ h'=>h')))
  cases r with
  | none=>exact wpAny_pure h₁
  | some v =>
    refine wpAny_bind (wpAny_mono h₁ (fun _ s₁ h₁=>?_) fun _ _ h'=>h')
    exact wpAny_bind (wpAny_mono h₁ (fun _ s₂ h₂=>wpAny_bind (wpAny_bind (wpAny_mono h₂ (fun x s₃ h₃=>wpAny_bind (wpAny_mono h₃
      (fun _ s₄ h₄=>wpAny_pure (wpAny_pure ⟨rfl,h₄⟩)) fun _ _ h'=>h')) fun _ _ h'=>h'))) fun _ _ h'=>h')
end
theorem Zcl {α:Type} {M:Model} {A:Around} {t:Sem α} {Q:α→Shared→Prop} {E:Value→Shared→Prop} {s:Shared} (h:wpAny M A t Q (fun _ _=>False) s):wpAny M A t Q E s :=
 wpAny_mono h (fun _ _ q=>q) fun _ _ z=>z.elim
theorem relabel_CF {scope:Scope} {env:Env} (hc:∀ y∈scope.names,y.2≠.cell) {x:Str} (h:(relabel scope env).names.lookup x=some .cell∨(relabel scope env).names.lookup x=some .free):(x,NameKind.free)∈scope.names:=by
 have key:∀ (l:List (Str × NameKind)),(∀ y∈l,y.2≠.cell)→((l.map fun (n,k)=>if (k == NameKind.free && env.scope.kind == .function && env.kindOf n == some .cell) then (n,NameKind.cell) else (n,k)).lookup x=some .cell ∨
   (l.map fun (n,k)=>if (k == NameKind.free && env.scope.kind == .function && env.kindOf n == some .cell) then (n,NameKind.cell) else (n,k)).lookup x=some .free)→(x,NameKind.free)∈l:=by
  intro l
  induction l with
  | nil=>intro _ h; simp at h
  | cons y r ih =>
   obtain ⟨n,k⟩:=y
   intro hc h
   have hr:∀ y∈r,y.2≠.cell:=fun y hy=>hc y (List.mem_cons_of_mem _ hy)
   have hk:k≠.cell:=hc (n,k) List.mem_cons_self
   rw [List.map_cons] at h
   by_cases hxn:x=n
   ·subst hxn
    have hkf:k=.free:=by
     by_cases hb:(k == NameKind.free && env.scope.kind == .function && env.kindOf x == some .cell)=true
     ·simp only [Bool.and_eq_true,beq_iff_eq] at hb
      exact hb.1.1
     ·simp only [hb,if_neg,Bool.false_eq_true,if_false] at h
      simp only [List.lookup_cons,beq_self_eq_true] at h
      rcases h with h | h
      ·exact absurd (Option.some.inj h) hk
      ·exact Option.some.inj h
    rw [hkf]
    exact List.mem_cons_self
   ·have hb:(x == n)=false:=by simpa using hxn
    refine List.mem_cons_of_mem _ (ih hr ?_)
    by_cases hq:(k == NameKind.free && env.scope.kind == .function && env.kindOf n == some .cell)=true
    ·simp only [hq,if_true,List.lookup_cons,hb] at h
     exact h
    ·simp only [hq,Bool.false_eq_true,if_false,List.lookup_cons,hb] at h
     exact h
 exact key scope.names hc h
theorem Ze0 {env:Env} {x:Str}:∀ {l:List (Str × NameKind)},l.lookup x=some .free →
  ((l.map fun (n,k)=>if (k == NameKind.free && env.scope.kind == .function && env.kindOf n == some .cell) then (n,NameKind.cell) else (n,k)).lookup x=some .cell ∨
   (l.map fun (n,k)=>if (k == NameKind.free && env.scope.kind == .function && env.kindOf n == some .cell) then (n,NameKind.cell) else (n,k)).lookup x=some .free)
 | [],h=>by simp at h
 | (n,k) :: r,h=>by
  rw [List.map_cons]
  by_cases hxn:x=n
  ·subst hxn
   simp only [List.lookup_cons,beq_self_eq_true] at h
   have hk:=Option.some.inj h
   subst hk
   by_cases hq:(NameKind.free == NameKind.free && env.scope.kind == .function && env.kindOf x == some .cell)=true
   ·left
    show List.lookup x ((if (NameKind.free == NameKind.free && env.scope.kind == .function && env.kindOf x == some .cell)=true then (x,NameKind.cell) else (x,NameKind.free)) :: _)=_
    rw [if_pos hq,List.lookup_cons,beq_self_eq_true]
   ·right
    show List.lookup x ((if (NameKind.free == NameKind.free && env.scope.kind == .function && env.kindOf x == some .cell)=true then (x,NameKind.cell) else (x,NameKind.free)) :: _)=_
    rw [if_neg hq,List.lookup_cons,beq_self_eq_true]
  ·have hb:(x == n)=false:=by simpa using hxn
   simp only [List.lookup_cons,hb] at h
   have ih:=Ze0 (env:=env) h
   by_cases hq:(k == NameKind.free && env.scope.kind == .function && env.kindOf n == some .cell)=true
   ·simp only [hq,if_true,List.lookup_cons,hb]; exact ih
   ·simp only [hq,Bool.false_eq_true,if_false,List.lookup_cons,hb]; exact ih
theorem mem_look {x:Str} {k:NameKind}:∀ {l:List (Str × NameKind)},l.lookup x=some k→(x,k)∈l
 | [],h=>by simp at h
 | (n,j) :: r,h=>by
  by_cases e:x=n
  ·subst e
   simp only [List.lookup_cons,beq_self_eq_true] at h
   rw [← Option.some.inj h]
   exact List.mem_cons_self
  ·have hb:(x == n)=false:=by simpa using e
   simp only [List.lookup_cons,hb] at h
   exact List.mem_cons_of_mem _ (mem_look h)
section
variable {X:Cx} {elt tg iter:Expr} {scope:Scope} {pos:Pos} {wi:TI} {g:TG} {te:TE} {N:List Str} {fr:List (Option Nat)}
theorem Zha {pins:List (Addr × Obj)} {σ:St} {H:Hp} {s s1:Shared} {cl:List (Str × Addr)} {ex:List Addr} {C:Addr} {m:Str→Option Value} (I:Inv X pins σ H s) (ck:Zgh X.env.scope X.N scope N fr)
    (c1:∀ x c,cl.lookup x=some c→X.env.cells.lookup x=some c) (c2:∀ x,(x,NameKind.free)∈scope.names→∃ c,cl.lookup x=some c) (hex:∀ b∈ex,FpOk X pins H b∧b < s.heap.objs.size) (hC:s.heap.objs.size≤C)
    (hn:s1.heap.Ns C m) (k:∀ b o,s.heap.get? b=some o→s1.heap.get? b=some o) (ho:s1.os=s.os) (hg:s1.gens=s.gens) :
    Inv (compCx X scope cl N C s H ex) [] (stC fr σ) H s1:=by
  have lt_ne:∀ {b:Addr} {o:Obj},s.heap.get? b=some o→b≠C:=fun e=>Nat.ne_of_lt (Nat.lt_of_lt_of_le (Heap.lt_size e) hC)
  have ok:(compCx X scope cl N C s H ex).Ok :=
    { mod:=I.ok.mod
      kind:=ck.kind
      glob:=I.ok.glob
      blt:=I.ok.blt
      above:=hC
      inj:=fun x y c e1 e2=>I.ok.inj x y c (c1 x c e1) (c1 y c e2)
      has:=fun x h=>c2 x (relabel_CF ck.nocell h)
      cab:=fun x c z=>by cases z
      hd:=I.ok.hd
      frames:=I.ok.frames
      stk:=.inl rfl
      exf:=fun b hb=>⟨Nat.ne_of_lt (Nat.lt_of_lt_of_le (hex b hb).2 hC),fun x c e=>(hex b hb).1.2.2.2.2.1 x c (c1 x c e)⟩
      bs:=I.bs
      bsz:=Nat.le_trans I.ok.bsz I.sz
      noex:=fun b o e hb=>by
        rcases (hex b hb).1.2.2.2.1 with z | z
        · exact I.ok.noex b o e z
        · exact absurd (Nat.lt_of_lt_of_le (Heap.lt_size e) (Nat.le_trans I.ok.bsz z)) (Nat.lt_irrefl _)
      exfs:=fun b hb hz=>by
        rcases List.mem_cons.mp (I.stkSub b hz) with z | z
        · exact (hex b hb).1.2.1 z
        · exact (hex b hb).1.2.2.1 z
      funs:=I.stack
      frf:=I.stkFree }
  refine ⟨ok,ho,by rw [hg]; exact I.bare,Un.kept k,⟨m,hn,fun j x v e1 e2 e3=>?_⟩,fun x c e=>?_,I.hok.fresh hC,fun x c e=>I.freeC x c (c1 x c e),fun p hp=>by simp at hp,I.hok.kept k,?_⟩
  · have e1':N[j]?=some x:=e1
    unfold stC at e2
    rw [List.getElem?_map] at e2
    cases q:fr[j]? with
    | none=>rw [q] at e2; cases e2
    | some o =>
      rw [q] at e2
      cases o with
      | none =>
        have:(none:Option V)=some v:=Option.some.inj e2
        cases this
      | some i =>
        have e2':(σ[i]?).join=some v:=Option.some.inj e2
        obtain ⟨s1',s2',s3'⟩:=ck.slots j x i e1' q
        have hσ:σ[i]?=some (some v):=by
          cases z:σ[i]? with
          | none=>rw [z] at e2'; cases e2'
          | some y=>rw [z] at e2'; exact congrArg some e2'
        have hcf:=isCF_of s2'
        obtain ⟨m0,hn0,hl⟩:=I.loc
        obtain ⟨u,r,lk⟩:=hl i x v s1' hσ (Or.inr hcf)
        refine ⟨u,r,Or.inr ⟨Ze0 s3',?_⟩⟩
        obtain ⟨c,hc⟩:=c2 x (mem_look s3')
        refine ⟨c,hc,?_⟩
        rcases lk with ⟨z,_⟩ | ⟨_,c',hc',hv⟩
        · rcases hcf with y | y
          · have z':X.env.scope.names.lookup x=some .local:=z
            rw [y] at z'; cases z'
          · have z':X.env.scope.names.lookup x=some .local:=z
            rw [y] at z'; cases z'
        · have:=c1 x c hc
          rw [hc'] at this
          cases this
          exact hv.keeps k
  · obtain ⟨v,z⟩:=I.cell x c (c1 x c e)
    exact ⟨v,z.keeps k⟩
  · unfold stC
    rw [List.length_map]
    exact ck.len.symm
theorem Zjl {pins:List (Addr × Obj)} {σ:St} {H:Hp} {s:Shared} {Q:VK} {cl:List (Str × Addr)} {R:Value→Addr→Result→Shared→Prop} (hc:X.calm=true) (I:Inv X pins σ H s) (hi:PI X tg iter wi)
  (hg:∀ cl C s H ex,PG (compCx X scope cl N C s H ex) tg g) (he:∀ cl C s H ex,PE (compCx X scope cl N C s H ex) elt te) (ck:Zgh X.env.scope X.N scope N fr)
  (c1:∀ x c,cl.lookup x=some c→X.env.cells.lookup x=some c) (c2:∀ x,(x,NameKind.free)∈scope.names→∃ c,cl.lookup x=some c)
  (h:tComp wi g te fr σ H Q)
  (hR:∀ acc C s' H' m,s'.heap.Ns C m→FpOk X pins H' C→Inv X pins σ H' s'→Q (.ref acc) H'→R (.ref acc) C (.ok .next) s') :
  wpAny (model X.prog X.w) X.A (eval iter X.env) (fun x s₁=>wpAny (model X.prog X.w) X.A (pyIter x) (fun it s₂=>wpAny (model X.prog X.w) X.A (newList []) (fun acc s₃ =>
   wpAny (model X.prog X.w) X.A (newFunctionEnv scope X.env.globals cl [] X.env.qual none .none (some X.env)) (fun cenv s₄ =>
    codeAny (model X.prog X.w) X.A (.compStart (.ListComp elt [⟨tg,iter,[],0⟩] scope pos) 0 it acc { cenv with scope:=relabel scope X.env }) (R acc cenv.locals) s₄) X.xe s₃) X.xe s₂) X.xe s₁) X.xe s:=by
 refine thn (hi pins s σ H _ I h) fun v s1 h1=>thn h1 fun itv s2 h2=>?_
 obtain ⟨it,fp,tn,J,H2,e,I2,T,st2,f2,q2⟩:=h2
 subst e
 refine wpAny_newObj_type (wpAny_newFunctionEnv ck.nocell (by intro y hy; simp at hy) (fun h₁ hns₁ hsb₁=>?_) ck.kind)
 dsimp only at hns₁ hsb₁ ⊢
 have I3:Inv X pins σ (upd H2 s2.heap.objs.size (.lst [])) { s2 with heap:=s2.heap.push { cls:=.type "list",dict:=none,data:=.seq ([]:List Value).toArray } }:=I2.lnew (t':=s2.toks) (its:=[]) .nil (Nat.zero_le _)
 have acc0:H2 s2.heap.objs.size=none:=I2.fresh
 obtain ⟨W,⟨m0,w0⟩,turn⟩:=q2 s2.heap.objs.size acc0
 generalize hH3:s2.heap.push { cls:=.type "list",dict:=none,data:=.seq ([]:List Value).toArray }=h3 at hns₁ hsb₁ I3 ⊢
 have hz3:h3.objs.size=s2.heap.objs.size+1:=by rw [← hH3,Heap.size_push]
 have k23:∀ b o,s2.heap.get? b=some o→h3.get? b=some o:=fun b o e=>by rw [← hH3]; exact Heap.get?_push_of_some _ e
 have k34:∀ b o,h3.get? b=some o→h₁.get? b=some o:=fun b o e=>hsb₁.extBut b o (Nat.ne_of_lt (Heap.lt_size e)) (Heap.get?_push_of_some _ e)
 have fpo:∀ b∈fp,∃ o,s2.heap.get? b=some o∧∀ v,o.data≠.cell v:=T.obj 0 _ st2
 have hex:∀ b∈fp,FpOk X pins (upd H2 s2.heap.objs.size (.lst [])) b∧b < h3.objs.size:=fun b hb=>by
  obtain ⟨o,eo,_⟩:=fpo b hb
  have lt:=Heap.lt_size eo
  obtain ⟨f0,fr'⟩:=f2 b hb
  exact ⟨⟨by rw [Zaj (Nat.ne_of_lt lt)]; exact f0,fr'⟩,by rw [hz3]; exact Nat.lt_succ_of_lt lt⟩
 have I4:Inv (compCx X scope cl N h3.objs.size { s2 with heap:=h3 } (upd H2 s2.heap.objs.size (.lst [])) fp) [] (stC fr σ) (upd H2 s2.heap.objs.size (.lst [])) { s2 with heap:=h₁,toks:=s2.toks+([]:List (Str × Value)).length } :=
  Zha I3 ck c1 c2 hex (Nat.le_refl _) hns₁ k34 rfl rfl
 have stat:∀ {H':Hp},(∀ b∈fp,H' b=none)→∀ b∈fp,FpOk (compCx X scope cl N h3.objs.size { s2 with heap:=h3 } (upd H2 s2.heap.objs.size (.lst [])) fp) [] H' b:=fun hn b hb =>
  ⟨hn b hb,(I4.ok.exf b hb).1,I4.ok.exfs b hb,.inl hb,(I4.ok.exf b hb).2,fun p hp=>by simp at hp⟩
 have stn:∀ i h h',tn i h→(∀ b o,h.get? b=some o→h'.get? b=some o)→tn i h':=fun i h h' st kk=>T.keep i h h' st fun b _ o e=>kk b o e
 have loop:codeAny (model X.prog X.w) X.A (.compLoop (.ListComp elt [⟨tg,iter,[],0⟩] scope pos) 0 (.ref it) (.ref s2.heap.objs.size) (compEnvC scope cl h3.objs.size X.env)) (R (.ref s2.heap.objs.size) h3.objs.size)
   { s2 with heap:=h₁,toks:=s2.toks+([]:List (Str × Value)).length }:=by
  refine Zjm (fun n s'=>∃ i σ' H',Inv (compCx X scope cl N h3.objs.size { s2 with heap:=h3 } (upd H2 s2.heap.objs.size (.lst [])) fp) [] σ' H' s'∧tn i s'.heap∧(∀ b∈fp,H' b=none)∧W i n σ' H') ?_ m0
   ⟨0,_,_,I4,stn _ _ _ st2 fun b o e=>k34 b o (k23 b o e),fun b hb=>(hex b hb).1.1,w0⟩
  rintro n s3 ⟨i,σ3,H3,J3,st3,fr3,w3⟩
  rcases turn i n σ3 H3 w3 with ⟨stop,qn⟩ | ⟨go,step⟩
  ·refine Zcl (thn (T.done (compCx X scope cl N h3.objs.size { s2 with heap:=h3 } (upd H2 s2.heap.objs.size (.lst [])) fp) rfl rfl rfl hc i [] s3 σ3 H3 (fun _ _=>False) J3 (stat fr3) st3 stop) fun r s4 ⟨hr,J4⟩=>?_)
   subst hr
   obtain ⟨mc,hmc,_⟩:=J4.loc
   have I5:Inv X pins σ H3 s4:=I3.call' (ch:=fp) J4.os J4.base J4.hok J4.bare fun b hb=>⟨(hex b hb).1.2.2.2.1,(hex b hb).1.2.1,(hex b hb).1.2.2.2.2.1,(hex b hb).1.2.2.2.2.2⟩
   exact hR _ _ s4 H3 mc hmc (I3.fpOk (Nat.le_refl _) J4.free) I5 qn
  ·refine Zcl (thn (T.item (compCx X scope cl N h3.objs.size { s2 with heap:=h3 } (upd H2 s2.heap.objs.size (.lst [])) fp) rfl rfl rfl hc i [] s3 σ3 H3 (fun _ _=>False) J3 (stat fr3) st3 go) fun r s4 ⟨u,hr,h4⟩=>?_)
   subst hr
   refine Zcl (thn h4 fun _ s5 ⟨x,H5,J5,r5,y5,st5,fr5⟩=>?_)
   have J5':=J5.pinned (stat fr5) (T.obj _ _ st5)
   refine Zcl (thn (hg _ _ _ _ _ _ s5 σ3 H5 x u _ J5' r5 (step x H5 y5)) fun _ s6 ⟨σ6,H6,J6,q6⟩=>?_)
   refine Zcl (thn (he _ _ _ _ _ _ s6 σ6 H6 _ J6 q6) fun y s7 ⟨v7,H7,J7,r7,xs,hx,hz,m',hm',w7⟩=>?_)
   refine Zcl (thn (Zbn _ s7 σ6 H7 (.ref s2.heap.objs.size) [v7] (.ref s2.heap.objs.size) [y] (fun v H8=>H8=upd H7 s2.heap.objs.size (.lst (xs++[v7]))) J7 rfl (.cons r7 .nil) ⟨_,xs,v7,rfl,rfl,hx,hz,rfl⟩) fun _ s8 ⟨_,H8,J8,_,e8⟩=>?_)
   subst e8
   refine ⟨m',hm',i+1,σ6,_,J8.unpinned,T.keep _ _ _ st5 fun b hb o e=>(J8.pin (b,o) (List.mem_append_right _ (List.mem_append_right _ (Zb2 hb e)))).1,fun b hb=>?_,w7⟩
   obtain ⟨o,e,d⟩:=T.obj _ _ st5 b hb
   exact (J8.pin (b,o) (List.mem_append_right _ (List.mem_append_right _ (Zb2 hb e)))).2.1
 exact codeAny_compStart_list loop (T.self _ 0 _ _ _ (stn _ _ _ st2 fun b o e=>k34 b o (k23 b o e)) loop)
theorem Zk1 (I:X.Ok) (ck:Zgh X.env.scope X.N scope N fr):∃ cl,closureFor scope X.env=pure cl∧(∀ x c,cl.lookup x=some c→X.env.cells.lookup x=some c)∧(∀ x,(x,NameKind.free)∈scope.names→∃ c,cl.lookup x=some c) :=
 closure_of fun y hy e=>I.has y.1 (isCF_of (ck.free y hy e))
theorem Zeq (hc:X.calm=true) (hi:PI X tg iter wi) (hg:∀ cl C s H ex,PG (compCx X scope cl N C s H ex) tg g) (he:∀ cl C s H ex,PE (compCx X scope cl N C s H ex) elt te)
  (hk:Zgb X.env.scope X.N scope N fr=true:=by rfl) (hs:∀ x,foldedSetIterable iter X.env x=pure x:=by intro _; rfl):PE X (.ListComp elt [⟨tg,iter,[],0⟩] scope pos) (tComp wi g te fr):=by
 intro pins s σ H Q I h
 have ck:=Zex hk
 obtain ⟨cl,e1,c1,c2⟩:=Zk1 I.ok ck
 rw [eval_ListComp]
 refine wpAny_comprehension_free (use:=none) (Q:=EP X pins σ Q) rfl hs e1 ck.kind ck.loc (Zjl (R:=fun acc C=>compPost (model X.prog X.w) X.A X.xe none (EP X pins σ Q) acc C) hc I hi hg he ck c1 c2 h fun acc C s' H' m hn f I' q=>?_)
 obtain ⟨f0,f1,f2,f3,f4,f5⟩:=f
 exact ⟨m,hn,fun h' hs'=>⟨.ref acc,H',I'.turned (t':=s'.toks) (fun b o hb e=>hs'.extBut b o hb e) f0 f1 f3 f4 f5,rfl,q⟩⟩
theorem Zg2 {y:Str} {py spos:Pos} {gy:TG} (hc:X.calm=true) (hy:PG X (.Name y py) gy) (hi:PI X tg iter wi) (hg:∀ cl C s H ex,PG (compCx X scope cl N C s H ex) tg g) (he:∀ cl C s H ex,PE (compCx X scope cl N C s H ex) elt te)
    (hk:Zgb X.env.scope X.N scope N fr=true:=by rfl) (hsw:swapsWith (.ListComp elt [⟨tg,iter,[],0⟩] scope pos) (some (.Name y py)) spos.line X.env=pure true:=by rfl) (hs:∀ x,foldedSetIterable iter X.env x=pure x:=by intro _; rfl) :
    PS X (.Assign [.Name y py] (.ListComp elt [⟨tg,iter,[],0⟩] scope pos) spos) (tAsg (tComp wi g te fr) gy):=by
  intro pins s σ H D I h
  have ck:=Zex hk
  obtain ⟨cl,e1,c1,c2⟩:=Zk1 I.ok ck
  rw [exec_Assign_Name_used _ _ _ _ hsw]
  refine wpAny_bind (wpAny_standAt (wpAny_bind ?_))
  show wpAny _ X.A (do let _ ← comprehension (.ListComp elt [⟨tg,iter,[],0⟩] scope pos) scope X.env _ (newList []) false (eval iter X.env) (some (assign (.Name y py) X.env))) _ _ s
  refine wpAny_bind (wpAny_mono (wpAny_comprehension_free (use:=some (assign (.Name y py) X.env)) (Q:=fun _ s'=>SP X pins D .next s') rfl hs e1 ck.kind ck.loc
    (Zjl (R:=fun acc C=>compPost (model X.prog X.w) X.A X.xe (some (assign (.Name y py) X.env)) (fun _ s'=>SP X pins D .next s') acc C) hc I hi hg he ck c1 c2 h fun acc C s' H' m hn f I' q=>?_)) (fun _ s' hq=>wpAny_pure (wpAny_pure hq)) fun _ _ e=>e)
  show wpAny _ X.A (assign (.Name y py) X.env (.ref acc)) _ _ _
  obtain ⟨oC,es,ep,hoC,hdC,hrC⟩:=id hn
  have IP:=I'.pinned (fp:=[C]) (fun b hb=>by rw [List.mem_singleton.mp hb]; exact f) (fun b hb=>by rw [List.mem_singleton.mp hb]; exact ⟨oC,hoC,fun v z=>by rw [hdC] at z; cases z⟩)
  refine thn (hy _ s' σ H' (.ref acc) (.ref acc) _ IP rfl q) fun _ s'' ⟨σ6,H6,I6,q6⟩=>?_
  have pC:=I6.pin (C,oC) (List.mem_append_right _ (List.mem_append_right _ (Zb2 (List.mem_singleton.mpr rfl) hoC)))
  obtain ⟨f0,f1,f2,f3,f4,f5⟩:=f
  exact ⟨m,⟨oC,es,ep,pC.1,hdC,hrC⟩,fun h' hs'=>⟨σ6,H6,I6.unpinned.turned (t':=s''.toks) (fun b o hb e=>hs'.extBut b o hb e) pC.2.1 f1 f3 f4 f5,q6⟩⟩
end
end L2
namespace L2
open PySem PySem.Spec PyProof.Rows
section
variable {X:Cx}
def CDivL (_ j:Int):Prop:=0 < j∧j.natAbs.log2 < 9000
theorem Zfb:OpR X (binaryOp .FloorDiv) (rI CDivL fun i j=>.int (i / j)):=opI fun i j _ _ _ _ _ hc q=>by
 have h1:(0:Int) < j:=hc.1
 exact floordiv_int (by omega) (by rw [Int.fdiv_eq_ediv_of_nonneg i (by omega)]; exact q) (.inl (PyProof.noPylong_of_log2 hc.2))
theorem Zd4:OpR X (binaryOp .Mult) (rI IntMulOk fun i j=>.int (i * j)):=opI fun _ _ _ _ _ _ _ hc q=>mul_int q hc
theorem Zg4 {n k:Nat} (hk:0 < k) (h:n < 2^k):n.log2 < k:=by
 rcases Nat.eq_zero_or_pos n with h0 | hp
 ·rw [h0]; simpa using hk
 ·exact (Nat.log2_lt (Nat.ne_of_gt hp)).mpr h
theorem Zg8 {z:Int} {k:Nat} (hk:0 < k) (h:z.natAbs < 2^k):Builtin.Int.intBits z≤k:=by
 unfold Builtin.Int.intBits
 split
 ·exact Nat.zero_le _
 ·exact Zg4 hk h
theorem mulOk_of {a b:Int} (h1:a.natAbs < 2^128) (h2:b.natAbs < 2^128):IntMulOk a b:=by
 have e1:=Zg8 (by decide) h1
 have e2:=Zg8 (by decide) h2
 unfold IntMulOk Builtin.Int.intTooBig
 intro h
 simp only [Bool.and_eq_true,decide_eq_true_eq] at h
 have h3:=h.2
 have hb:(256:Int)≤(bitsLine:Int):=by decide +kernel
 omega
def tyO:Option HO→Option String
 | some (.lst _)=>some "list"
 | some (.frz _ (.lst _))=>some "list"
 | some (.tup _)=>some "tuple"
 | some (.dK _)=>some "dict"
 | some (.dT _)=>some "dict"
 | _=>none
def tyS (H:Hp):V→Option String
 | .non=>some "NoneType"
 | .bl _=>some "bool"
 | .int _=>some "int"
 | .str _=>some "str"
 | .ref a=>tyO (H a)
 | _=>none
theorem tyS_of {K:PySem.W.Frag} {H:Hp} {x:V} {T:String} (h:tyS H x=some T):TyOf K H x (.type T)∧(T="NoneType"∨T="bool"∨T="int"∨T="str"∨T="list"∨T="tuple"∨T="dict"):=by
 unfold tyS at h
 split at h
 ·cases h; exact ⟨.non,by simp⟩
 ·cases h; exact ⟨.bl _,by simp⟩
 ·cases h; exact ⟨.int _,by simp⟩
 ·cases h; exact ⟨.str _,by simp⟩
 ·unfold tyO at h
  split at h
  ·rename_i e; cases h; exact ⟨.lst e,by simp⟩
  ·rename_i e; cases h; exact ⟨.frz e,by simp⟩
  ·rename_i e; cases h; exact ⟨.tup e,by simp⟩
  ·rename_i e; cases h; exact ⟨.dK e,by simp⟩
  ·rename_i e; cases h; exact ⟨.dT e,by simp⟩
  ·cases h
 ·cases h
def isB (T c:String):Bool:=decide (T=c) || (decide (T="bool") && decide (c="int"))
theorem kit_isB {K:PySem.W.Frag} {T c:String} (h:T="NoneType"∨T="bool"∨T="int"∨T="str"∨T="list"∨T="tuple"∨T="dict") (hc:c="int"∨c="bool"∨c="tuple"∨c="list"∨c="str") :
  PySem.W.kitOne K (.type T) (.type c)=some (isB T c):=by
 rcases h with rfl | rfl | rfl | rfl | rfl | rfl | rfl <;> rcases hc with rfl | rfl | rfl | rfl | rfl <;> rfl
theorem Zc5:CallR X (.builtin "isinstance") (fun xs H Q=>∃ x T c,xs=[x,.ty c]∧tyS H x=some T∧(c="int"∨c="bool"∨c="tuple"∨c="list"∨c="str")∧Q (.bl (isB T c)) H):=by
 intro pins s σ H xs us Q I r h
 obtain ⟨x,T,c,rfl,hT,hc,q⟩:=h
 obtain ⟨u,w',rfl,rx,ry⟩:=vals2 r
 cases (show w'=Value.type c from ry)
 obtain ⟨ty,hl⟩:=tyS_of (K:=X.K) hT
 exact Zf2 I rx ty (kit_isB hl hc) fun tk=>⟨.bl (isB T c),H,I.tok tk,rfl,q⟩
theorem bools_get {bs:List Bool} {its:List Value} (r:Vals (bs.map V.bl) its) {i:Nat} {v:Value} (h:its.toArray[i]?=some v):v=.bool (bs.getD i false):=by
 have hl:=r.length
 have hi:i < its.length:=by
  have:=(Array.getElem?_eq_some_iff.mp h).1
  simpa using this
 have hb:bs[i]?=some (bs.getD i false):=by
  have:i < bs.length:=by rw [List.length_map] at hl; omega
  rw [List.getD_eq_getElem?_getD,List.getElem?_eq_getElem this]; rfl
 obtain ⟨u,hu,ru⟩:=r.get (i:=i) (x:=.bl (bs.getD i false)) (by rw [List.getElem?_map,hb]; rfl)
 have h':its[i]?=some v:=by simpa using h
 rw [h'] at hu
 cases hu
 exact ru
theorem range_any {α:Type} (bs:List Bool):(List.range bs.length).any (fun i=>bs.getD i false)=bs.any id:=by
 have e:(List.range bs.length).map (fun i=>bs.getD i false)=bs:=by
  apply List.ext_getElem?
  intro i
  rw [List.getElem?_map]
  by_cases h:i < bs.length
  ·rw [List.getElem?_range h,List.getElem?_eq_getElem h,Option.map_some,List.getD_eq_getElem?_getD,List.getElem?_eq_getElem h]; rfl
  ·rw [List.getElem?_eq_none (by simpa using h),List.getElem?_eq_none (by omega)]; rfl
 conv=>rhs; rw [← e]
 rw [List.any_map]; rfl
theorem Zj6 {prog:Program} {w:World} {A:Around} {bs:List Bool} {its:List Value} (r:Vals (bs.map V.bl) its):TruthOf prog w A (fun i v=>its.toArray[i]?=some v) (fun i=>bs.getD i false):=by
 intro i v s Q E hv hq
 have e:=bools_get r hv
 subst e
 exact wpAny_truthy_bool hq
theorem call_any:CallR X (.builtin "any") (fun xs H Q=>∃ (p:Addr) (bs:List Bool),xs=[.ref p]∧SqL X.K H p (bs.map V.bl)∧X.calm=true∧Q (.bl (bs.any id)) H):=by
 intro pins s σ H xs us Q I r h
 obtain ⟨p,bs,rfl,hp,hc,q⟩:=h
 obtain ⟨u,rfl,ru⟩:=vals1 r
 cases ru
 obtain ⟨its,rv,pl,hz⟩:=I.list hp
 have hl:=rv.length
 rw [List.length_map] at hl
 refine call_any_walk (wpAny_pyIter_list pl.isList ?_)
 have hlt:p < s.heap.objs.size:=by obtain ⟨o,ho,_⟩:=pl.isList; exact Heap.lt_size ho
 refine ⟨s.heap.objs.size,_,_,_,_,_,_,rfl,Walks.list (show X.A.in1.handled=none from I.ok.hd hc) s.heap.objs.size p (Nat.ne_of_lt hlt) its.toArray,⟨⟨_,Heap.get?_push_size _ rfl,rfl,rfl⟩,let ⟨o,ho,r⟩:=pl.isList; ⟨o,Heap.get?_push_of_some _ ho,r⟩⟩,Zj6 rv,fun h' tk k=>?_⟩
 refine ⟨.bl (bs.any id),H,I.kept (t':=tk) fun b o e=>k b o (fun z=>?_) (Heap.get?_push_of_some _ e),?_,q⟩
 ·have:b=s.heap.objs.size:=by simpa using z
  exact absurd (this ▸ Heap.lt_size e) (Nat.lt_irrefl _)
 ·show Value.bool _=Value.bool _
  rw [List.size_toArray,← hl,range_any (α:=Nat)]
end
section
variable {X:Cx}
end
end L2
namespace L2
open PySem PySem.Spec PyProof.Rows
structure DefOk (P:Program) (w:World) (K:PySem.W.Frag) (mg:Str→Option Value) (base:Heap) (k:Nat) (x:Str) (ps:List Str) (sp:Sp):Prop where
 ex:∃ (f:Addr) (fd:FuncData),FnOk P w K mg base CX0 k f fd ps sp∧mg x=some (.ref f)∧PySem.W.keepIn K (.ref f)=true∧Binds K fd ps []
section
variable {X:Cx} {k j:Nat} {x:Str} {ps:List Str} {sp:Sp} {p pos:Pos} {e:Expr} {es:List Expr} {t:TA}
theorem Zax (D:DefOk X.prog X.w X.K X.mg X.base k x ps sp) (hr:Room j X.A) (ha:PA X (e :: es) t) (hj:k≤j:=by decide) (hg:Gl X x:=by rfl) (hdb:(x == ("__debug__":Str))=false:=by decide)
  (he:starEach (e :: es) X.env=(false,eval e X.env) :: starEach es X.env:=by rfl) (hpl:(backTo pos (starEach es X.env)).any (·.1)=false:=by rfl):PE X (.Call (.Name x p) (e :: es) [] pos) (tCall sp [] E0 t):=by
 obtain ⟨f,fd,F,hm,hk,hb⟩:=D.ex
 exact pe_call F (hr.mono hj) hg hm hk hb .nil pass0 ha hdb he hpl
end
theorem lenOk {xs:List V} (n:Nat) (h:xs.length=n:=by rfl) (h2:n≤1000:=by decide):xs.length≤sizeLine:=by rw [h]; exact Nat.le_of_lt (Zar h2)
theorem iteP {c:Bool} {A B:Prop} (h:c=true) (a:A):if c=true then A else B:=by rw [if_pos h]; exact a
theorem iteN {c:Bool} {A B:Prop} (h:c=false) (b:B):if c=true then A else B:=by rw [if_neg (by rw [h]; exact Bool.false_ne_true)]; exact b
theorem ite3 {c:Bool} {A B:Prop} (h1:c=true→A) (h2:c=false→B):if c=true then A else B:=by
 cases c with
 | true=>exact iteT (h1 rfl)
 | false=>exact iteF (h2 rfl)
def SameX (p:Addr) (H H':Hp):Prop:=∀ b o,b≠p→H b=some o→H' b=some o
theorem SameX.refl {p:Addr} {H:Hp}:SameX p H H:=fun _ _ _ h=>h
theorem SameX.trans {p:Addr} {H H1 H2:Hp} (a:SameX p H H1) (b:SameX p H1 H2):SameX p H H2:=fun c o n h=>b c o n (a c o n h)
theorem SameX.upd {p:Addr} {H:Hp} {o:HO}:SameX p H (upd H p o):=fun b u n h=>by rw [Zaj n]; exact h
theorem Same.new {l:Addr} {H:Hp} {o:HO} (h:H l=none):Same H (L2.upd H l o):=fun b u e=>by rw [Zaj (Zah e h)]; exact e
theorem SameX.same {p:Addr} {H H0 H':Hp} (a:SameX p H H') (s:Same H0 H) (h:H0 p=none):Same H0 H':=fun b o e=>a b o (Zah e h) (s b o e)
theorem Same.x {p:Addr} {H H':Hp} (a:Same H H'):SameX p H H':=fun b o _ e=>a b o e
def cW (acc:Addr) (n:Nat) (Pv:Nat→List V→St→Hp→Prop) (i m:Nat) (σ:St) (H:Hp):Prop:=i≤n∧m=n - i∧∃ xs,xs.length=i∧H acc=some (.lst xs)∧Pv i xs σ H
def cNx (acc:Addr) (n:Nat) (Pv:Nat→List V→St→Hp→Prop) (i:Nat) (σ:St) (v:V) (H:Hp):Prop:=∃ xs,H acc=some (.lst xs)∧xs.length < sizeLine∧∃ m',m' < n - i∧cW acc n Pv (i+1) m' σ (upd H acc (.lst (xs++[v])))
theorem cNx.mk {acc:Addr} {n:Nat} {Pv:Nat→List V→St→Hp→Prop} {i:Nat} {σ:St} {v:V} {H:Hp} {xs:List V} (hn:n≤sizeLine) (hi:i < n) (hl:xs.length=i) (ha:H acc=some (.lst xs)) (hp:Pv (i+1) (xs++[v]) σ (upd H acc (.lst (xs++[v])))) :
  cNx acc n Pv i σ v H:=⟨xs,ha,by omega,n - (i+1),by omega,hi,rfl,xs++[v],by rw [List.length_append,hl]; rfl,Zab,hp⟩
theorem Zdg {lo:Int} {n:Nat} {g:TG} {te:TE} {σ:St} {H1:Hp} {acc:Addr} {Qr:Hp→Prop} (Pv:Nat→List V→St→Hp→Prop) (h0:Pv 0 [] σ (upd H1 acc (.lst [])))
  (hs:∀ i xs σ H,i < n→xs.length=i→H acc=some (.lst xs)→Pv i xs σ H→g (.int (lo+i)) σ H fun σ2 H2=>te σ2 H2 fun v H3=>cNx acc n Pv i σ2 v H3)
  (hd:∀ xs σ H,xs.length=n→H acc=some (.lst xs)→Pv n xs σ H→Qr H) :
  ∃ W:Nat→Nat→St→Hp→Prop,(∃ m,W 0 m σ (upd H1 acc (.lst [])))∧∀ i m σ1 H2,W i m σ1 H2 →
   ((Itr lo n).stop i H2∧Qr H2)∨((Itr lo n).go i H2∧∀ x H3,(Itr lo n).yld i H2 x H3→g x σ1 H3 fun σ4 H4=>te σ4 H4 fun v H5=>∃ xs,H5 acc=some (.lst xs)∧xs.length < sizeLine∧∃ m',m' < m∧W (i+1) m' σ4 (upd H5 acc (.lst (xs++[v])))):=by
 refine ⟨cW acc n Pv,⟨n,Nat.zero_le _,rfl,[],rfl,Zab,h0⟩,?_⟩
 rintro i m σ1 H2 ⟨hi,rfl,xs,hl,ha,hp⟩
 rcases Nat.lt_or_ge i n with h | h
 ·refine .inr ⟨h,?_⟩
  rintro x H3 ⟨rfl,rfl⟩
  exact hs i xs σ1 H3 h hl ha hp
 ·have e:i=n:=Nat.le_antisymm hi h
  subst e
  exact .inl ⟨Nat.le_refl _,hd xs σ1 H2 hl ha hp⟩
theorem Zga {K:PySem.W.Frag} {a:Addr} {ys:List V} {g:TG} {te:TE} {σ:St} {H1:Hp} {acc:Addr} {Qr:Hp→Prop} (Pv:Nat→List V→St→Hp→Prop) (h0:Pv 0 [] σ (upd H1 acc (.lst [])))
  (hq:∀ i xs σ H,i≤ys.length→H acc=some (.lst xs)→Pv i xs σ H→SqL K H a ys)
  (hs:∀ i x xs σ H,ys[i]?=some x→i < ys.length→xs.length=i→H acc=some (.lst xs)→Pv i xs σ H→g x σ H fun σ2 H2=>te σ2 H2 fun v H3=>cNx acc ys.length Pv i σ2 v H3)
  (hd:∀ xs σ H,xs.length=ys.length→H acc=some (.lst xs)→Pv ys.length xs σ H→Qr H) :
  ∃ W:Nat→Nat→St→Hp→Prop,(∃ m,W 0 m σ (upd H1 acc (.lst [])))∧∀ i m σ1 H2,W i m σ1 H2 →
   ((Itl K a).stop i H2∧Qr H2)∨((Itl K a).go i H2∧∀ x H3,(Itl K a).yld i H2 x H3→g x σ1 H3 fun σ4 H4=>te σ4 H4 fun v H5=>∃ xs,H5 acc=some (.lst xs)∧xs.length < sizeLine∧∃ m',m' < m∧W (i+1) m' σ4 (upd H5 acc (.lst (xs++[v])))):=by
 refine ⟨cW acc ys.length Pv,⟨ys.length,Nat.zero_le _,rfl,[],rfl,Zab,h0⟩,?_⟩
 rintro i m σ1 H2 ⟨hi,rfl,xs,hl,ha,hp⟩
 have hsq:=hq i xs σ1 H2 hi ha hp
 rcases Nat.lt_or_ge i ys.length with h | h
 ·refine .inr ⟨⟨ys,ys[i],hsq,List.getElem?_eq_getElem h⟩,?_⟩
  rintro x H3 ⟨rfl,hx⟩
  exact hs i x xs σ1 H3 (hx ys hsq) h hl ha hp
 ·have e:i=ys.length:=Nat.le_antisymm hi h
  subst e
  exact .inl ⟨⟨ys,hsq,Nat.le_refl _⟩,hd xs σ1 H2 hl ha hp⟩
end L2
namespace L2
open PySem PySem.Spec PyProof.Rows PySem.W
section
variable {cmp:Nat→Nat→(Bool→Shared→Prop)→Shared→Prop} {key:Nat→Int} {N:Nat} {s:Shared}
variable (hcmp:∀ i j (C:Bool→Shared→Prop),i < N→j < N→C (decide (key i < key j)) s→cmp i j C s)
include hcmp
end
end L2
namespace L2
open PySem PySem.Spec PyProof.Rows PySem.W
section
variable {prog:Program} {w:World} {A:Around} {E:Value→Shared→Prop} {s:Shared}
end
section
variable {X:Cx}
theorem Zix:∀ {ts:List Addr} {its:List Value},Vals (ts.map V.ref) its→its=ts.map Value.ref
 | [],_,.nil=>rfl
 | a :: r,_,.cons h t=>by
  cases (show _=Value.ref a from h)
  rw [List.map_cons,Zix t]
theorem Zg1:∀ (ts:List Addr),Vals (ts.map V.ref) (ts.map Value.ref)
 | []=>.nil
 | a :: r=>.cons rfl (Zg1 r)
end
end L2
namespace L2
open PySem PySem.Spec PyProof.Rows
section
variable {κ:Type} [DecidableEq κ]
def valV (kvs:List (κ × V)) (k:κ):Option V:=(kvs.find? fun kv=>decide (kv.1=k)).map (·.2)
def putK (kvs:List (κ × V)) (k:κ) (v:V):List (κ × V) :=
 if (kvs.any fun kv=>decide (kv.1=k))=true then kvs.map (fun kv=>if kv.1=k then (kv.1,v) else kv) else kvs++[(k,v)]
theorem Ze9 {p:κ × V} {r:List (κ × V)} {k:κ} (e:p.1=k):valV (p :: r) k=some p.2:=by simp [valV,List.find?_cons,e]
theorem Zd6 {p:κ × V} {r:List (κ × V)} {k:κ} (e:¬ p.1=k):valV (p :: r) k=valV r k:=by simp [valV,List.find?_cons,e]
theorem Zhf (k:κ):∀ kvs:List (κ × V),(kvs.any fun kv=>decide (kv.1=k))=(valV kvs k).isSome
 | []=>rfl
 | p :: r=>by
  rw [List.any_cons]
  by_cases e:p.1=k
  ·simp only [Ze9 e,decide_eq_true e,Bool.true_or,Option.isSome_some]
  ·rw [Zd6 e,decide_eq_false e,Bool.false_or]; exact Zhf k r
theorem Zfy (kvs:List (κ × V)) (k:κ) (v:V):(putK kvs k v).length≤kvs.length+1:=by
 unfold putK
 split
 ·rw [List.length_map]; omega
 ·rw [List.length_append,List.length_cons,List.length_nil]; omega
theorem RelO.isSome_eq {o:Option V} {u:Option Value} (r:RelO o u):o.isSome=u.isSome:=by
 cases o with
 | none=>cases u with
  | none=>rfl
  | some _=>exact (show False from r).elim
 | some _=>cases u with
  | none=>exact (show False from r).elim
  | some _=>rfl
theorem KV.val {kvs:List (κ × V)} {vs:List (κ × Value)} (r:KV kvs vs) (k:κ):RelO (valV kvs k) (valueAt vs k):=by
 unfold KV at r
 induction r with
 | nil=>exact True.intro
 | @cons p q ps qs h t ih =>
  obtain ⟨h1,h2⟩:=h
  by_cases e:p.1=k
  ·have e':q.1=k:=h1.symm.trans e
   have b:valueAt (q :: qs) k=some q.2:=by simp [valueAt,List.find?_cons,e']
   rw [Ze9 e,b]; exact h2
  ·have e':¬ q.1=k:=fun z=>e (h1.trans z)
   have b:valueAt (q :: qs) k=valueAt qs k:=by simp [valueAt,List.find?_cons,e']
   rw [Zd6 e,b]; exact ih
theorem KV.any {kvs:List (κ × V)} {vs:List (κ × Value)} (r:KV kvs vs) (k:κ):(kvs.any fun kv=>decide (kv.1=k))=vs.any fun kv=>decide (kv.1=k):=by
 unfold KV at r
 induction r with
 | nil=>rfl
 | cons h t ih=>rw [List.any_cons,List.any_cons,ih,h.1]
theorem KV.repl {kvs:List (κ × V)} {vs:List (κ × Value)} (r:KV kvs vs) (k:κ) {y:V} {u:Value} (ry:RelV y u) :
  KV (kvs.map fun kv=>if kv.1=k then (kv.1,y) else kv) (vs.map fun kv=>if kv.1=k then (kv.1,u) else kv):=by
 unfold KV at r ⊢
 induction r with
 | nil=>exact .nil
 | @cons p q ps qs h t ih =>
  rw [List.map_cons,List.map_cons]
  refine .cons ?_ ih
  obtain ⟨h1,h2⟩:=h
  by_cases e:p.1=k
  ·rw [if_pos e,if_pos (h1.symm.trans e)]; exact ⟨h1,ry⟩
  ·rw [if_neg e,if_neg (fun z=>e (h1.trans z))]; exact ⟨h1,h2⟩
theorem KV.put {kvs:List (κ × V)} {vs:List (κ × Value)} (r:KV kvs vs) (k:κ) {y:V} {u:Value} (ry:RelV y u):KV (putK kvs k y) (stored vs k u):=by
 unfold putK stored
 rw [r.any k]
 by_cases e:(vs.any fun kv=>decide (kv.1=k))=true
 ·rw [if_pos e,if_pos e]; exact r.repl k ry
 ·rw [if_neg e,if_neg e]; exact Paired.snoc r ⟨rfl,ry⟩
theorem KV.length {kvs:List (κ × V)} {vs:List (κ × Value)} (r:KV kvs vs):kvs.length=vs.length:=Paired.length r
end
theorem kV_is {P:Program} {w:World} {k:Key} {u:Value} (r:RelV (kV k) u):(Zbd P w).is k u=true:=by
 cases k with
 | inl i=>obtain ⟨t,e⟩:=(show ∃ t,u=Value.int i t from r); subst e; exact Zks P w i t
 | inr x=>obtain ⟨t,e⟩:=(show ∃ t,u=Value.str x t from r); subst e; exact Zkr P w x t
theorem Zjd {P:Program} {w:World}:∀ {ks:List Key} {us:List Value},Vals (ks.map kV) us→ItemsAre (Zbd P w) ks us
 | [],_,r=>by rw [List.map_nil] at r; cases r; exact .nil
 | k :: ks,_,r=>by
  rw [List.map_cons] at r
  cases r with
  | cons h t=>exact .cons (kV_is h) (Zjd t)
abbrev KT (H:Hp):List (List Key × V)→List (List Key × Addr × Value)→Prop:=Paired fun p q=>p.1=q.1∧H q.2.1=some (.tup (p.1.map kV))∧RelV p.2 q.2.2
theorem KT.val {H:Hp} {kvs:List (List Key × V)} {xs:List (List Key × Addr × Value)} (r:KT H kvs xs) (k:List Key):RelO (valV kvs k) ((atKey xs k).map (·.2)):=by
 induction r with
 | nil=>exact True.intro
 | @cons p q ps qs h t ih =>
  obtain ⟨h1,_,h2⟩:=h
  by_cases e:p.1=k
  ·have e':q.1=k:=h1.symm.trans e
   have b:atKey (q :: qs) k=some q.2:=by simp [atKey,List.find?_cons,e']
   rw [Ze9 e,b]; exact h2
  ·have e':¬ q.1=k:=fun z=>e (h1.trans z)
   have b:atKey (q :: qs) k=atKey qs k:=by simp [atKey,List.find?_cons,e']
   rw [Zd6 e,b]; exact ih
theorem KT.repl {H:Hp} {kvs:List (List Key × V)} {xs:List (List Key × Addr × Value)} (r:KT H kvs xs) (k:List Key) {y:V} {u:Value} (ry:RelV y u) :
  KT H (kvs.map fun kv=>if kv.1=k then (kv.1,y) else kv) (xs.map (putAt k u)):=by
 induction r with
 | nil=>exact .nil
 | @cons p q ps qs h t ih =>
  rw [List.map_cons,List.map_cons]
  refine .cons ?_ ih
  obtain ⟨h1,h2,h3⟩:=h
  unfold putAt
  by_cases e:p.1=k
  ·rw [if_pos e,if_pos (h1.symm.trans e)]; exact ⟨h1,h2,ry⟩
  ·rw [if_neg e,if_neg (fun z=>e (h1.trans z))]; exact ⟨h1,h2,h3⟩
theorem KT.put {H:Hp} {kvs:List (List Key × V)} {xs:List (List Key × Addr × Value)} (r:KT H kvs xs) (k:List Key) {b:Addr} {y:V} {u:Value} (hb:H b=some (.tup (k.map kV))) (ry:RelV y u) :
  KT H (putK kvs k y) (storedH xs k b u):=by
 have e:(kvs.any fun kv=>decide (kv.1=k))=(atKey xs k).isSome:=by
  rw [Zhf,(r.val k).isSome_eq,Option.isSome_map]
 unfold putK storedH
 rw [e]
 by_cases q:(atKey xs k).isSome=true
 ·rw [if_pos q,if_pos q]; exact r.repl k ry
 ·rw [if_neg q,if_neg q]; exact Paired.snoc r ⟨rfl,hb,ry⟩
theorem KT.keeps {H H':Hp} {kvs:List (List Key × V)} {xs:List (List Key × Addr × Value)} (r:KT H kvs xs) (ht:∀ b ys,H b=some (.tup ys)→H' b=some (.tup ys)):KT H' kvs xs :=
 Paired.mapP r fun _ _ z=>⟨z.1,ht _ _ z.2.1,z.2.2⟩
section
variable {P:Program} {w:World} {H:Hp} {h:Heap} {a:Addr}
theorem rd_of {u:HO} (ok:HOk P w H h) (e:Rd H a u):ObjOk P w H h a u:=e.ok ok
theorem dk_rd {kvs:List (Key × V)} (ok:HOk P w H h) (e:Rd H a (.dK kvs)):kvs.length≤sizeLine∧(a == sysModules)=false∧∃ vs,KV kvs vs∧h.DictOf (Zbd P w) a vs :=
 show ObjOk P w H h a (.dK kvs) from rd_of ok e
theorem dk_of {kvs:List (Key × V)} (ok:HOk P w H h) (e:H a=some (.dK kvs)):kvs.length≤sizeLine∧(a == sysModules)=false∧∃ vs,KV kvs vs∧h.DictOf (Zbd P w) a vs:=dk_rd ok (.inl e)
theorem Zg6 {ks:List Key} (ok:HOk P w H h) (e:H a=some (.tup (ks.map kV))):(tupleKind (Zbd P w)).is h ks a:=by
 obtain ⟨_,its,r,o,h1,h2,n,h3⟩:=(show ObjOk P w H h a (.tup (ks.map kV)) from ok a _ e)
 exact ⟨o,its.toArray,n,h1,h2,h3,by simpa using Zjd r⟩
theorem dt_rd {kvs:List (List Key × V)} (ok:HOk P w H h) (e:Rd H a (.dT kvs)):kvs.length≤sizeLine∧(a == sysModules)=false ∧
  ∃ xs,KT H kvs xs∧h.DictOfH (tupleKind (Zbd P w)) a xs:=by
 obtain ⟨z,y,xs,r,o,es,ep,h1,h2,h3,h4,h5⟩:=(show ObjOk P w H h a (.dT kvs) from rd_of ok e)
 refine ⟨z,y,xs,r,o,es,ep,h1,h2,h3,h4,fun x hx=>?_,h5⟩
 have all:∀ {l:List (List Key × V)} {m:List (List Key × Addr × Value)},KT H l m→∀ x∈m,(tupleKind (Zbd P w)).is h x.1 x.2.1:=by
  intro l m q
  induction q with
  | nil=>intro x hx; exact nomatch hx
  | @cons p q ps qs hq t ih =>
   intro x hx
   rcases List.mem_cons.mp hx with e | hx
   ·subst e
    exact Zg6 ok (by rw [← hq.1]; exact hq.2.1)
   ·exact ih x hx
 exact all r x hx
theorem dt_of {kvs:List (List Key × V)} (ok:HOk P w H h) (e:H a=some (.dT kvs)):kvs.length≤sizeLine∧(a == sysModules)=false ∧
  ∃ xs,KT H kvs xs∧h.DictOfH (tupleKind (Zbd P w)) a xs:=dt_rd ok (.inl e)
end
def DGet (H:Hp) (a:Addr) (y:V) (r:Option V):Prop :=
 (∃ kvs k,Rd H a (.dK kvs)∧y=kV k∧r=valV kvs k)∨∃ kvs k b,Rd H a (.dT kvs)∧y=.ref b∧H b=some (.tup (k.map kV))∧r=valV kvs k
def DPut (H:Hp) (a:Addr) (y v:V) (H':Hp):Prop :=
 (∃ kvs k,H a=some (.dK kvs)∧y=kV k∧kvs.length < sizeLine∧H'=upd H a (.dK (putK kvs k v))) ∨
 ∃ kvs k b,H a=some (.dT kvs)∧y=.ref b∧H b=some (.tup (k.map kV))∧kvs.length < sizeLine∧H'=upd H a (.dT (putK kvs k v))
theorem DGet.t {H:Hp} {a b:Addr} {kvs:List (List Key × V)} {k:List Key} (e:H a=some (.dT kvs)) (eb:H b=some (.tup (k.map kV))):DGet H a (.ref b) (valV kvs k):=.inr ⟨kvs,k,b,.inl e,rfl,eb,rfl⟩
theorem DPut.t {H:Hp} {a b:Addr} {kvs:List (List Key × V)} {k:List Key} {v:V} (e:H a=some (.dT kvs)) (eb:H b=some (.tup (k.map kV))) (hl:kvs.length < sizeLine) :
  DPut H a (.ref b) v (upd H a (.dT (putK kvs k v))):=.inr ⟨kvs,k,b,e,rfl,eb,hl,rfl⟩
section
variable {X:Cx} {pins:List (Addr × Obj)} {σ:St} {H:Hp} {s:Shared} {a:Addr} {y v:V} {u r:Value} {o:Option V} {A:Around} {E:Value→Shared→Prop}
theorem Inv.big (I:Inv X pins σ H s):sysModules < s.heap.objs.size:=by
 have h:mainGlobals < s.heap.objs.size:=(I.mod.glob.keeps I.bk).lt
 exact Nat.lt_trans (by decide) h
theorem d_getItem {Q:Value→Shared→Prop} (hu:A.units+1 < cLine) (I:Inv X pins σ H s) (g:DGet H a y (some v)) (ry:RelV y u) (h:∀ w' s',Inv X pins σ H s'→RelV v w'→Q w' s') :
  wpAny (model X.prog X.w) A (getItem (.ref a) u) Q E s:=by
 rcases g with ⟨kvs,k,e,ey,l⟩ | ⟨kvs,k,b,e,ey,eb,l⟩
 ·subst ey
  obtain ⟨z,hd,vs,rel,dd⟩:=dk_rd I.hok e
  obtain ⟨w',hw,rw'⟩:=RelO.some_of (v:=v) (o:=valueAt vs k) (by rw [l]; exact rel.val k)
  exact wpAny_getItem_of (kV_is ry) dd.mapOf hw (h w' _ (I.tok _) rw')
 ·subst ey
  cases (show u=Value.ref b from ry)
  obtain ⟨z,hd,xs,rel,dd⟩:=dt_rd I.hok e
  obtain ⟨w',hw,rw'⟩:=RelO.some_of (v:=v) (o:=(atKey xs k).map (·.2)) (by rw [l]; exact rel.val k)
  obtain ⟨p,hp,hp2⟩:=Option.map_eq_some_iff.mp hw
  refine wpAny_getItem_heap (tupleKind_room_in1 hu) (Zg6 I.hok eb) dd hp ?_
  rw [hp2]
  exact h w' _ (I.tok _) rw'
theorem d_notIn {Q:Value→Shared→Prop} (hu:A.units+1 < cLine) (I:Inv X pins σ H s) (g:DGet H a y o) (ry:RelV y u) (h:∀ s',Inv X pins σ H s'→Q (.bool (!o.isSome)) s') :
  wpAny (model X.prog X.w) A (compareOp .NotIn u (.ref a)) Q E s:=by
 rcases g with ⟨kvs,k,e,ey,l⟩ | ⟨kvs,k,b,e,ey,eb,l⟩
 ·subst ey
  obtain ⟨z,hd,vs,rel,dd⟩:=dk_rd I.hok e
  refine wpAny_notIn_of (kV_is ry) hd dd.mapOf ?_
  rw [← (rel.val k).isSome_eq,← l]
  exact h _ (I.tok _)
 ·subst ey
  cases (show u=Value.ref b from ry)
  obtain ⟨z,hd,xs,rel,dd⟩:=dt_rd I.hok e
  refine wpAny_notIn_heap (tupleKind_room_in1 hu) (Zg6 I.hok eb) hd dd ?_
  have q:=(rel.val k).isSome_eq
  rw [Option.isSome_map] at q
  rw [← q,← l]
  exact h _ (I.tok _)
theorem Zk0 {h':Heap} {t':Nat} {ob:HO} (I:Inv X pins σ H s) (mu:Mut (H a)) (hs:Heap.SameBut a s.heap h') (he:∃ q,h'.get? a=some q) (new:ObjOk X.prog X.w (upd H a ob) h' a ob) :
  Inv X pins σ (upd H a ob) { s with heap:=h',toks:=t' } :=
 I.write (x:=a) (e:=a) mu (.inl rfl) (fun b q hb z=>(hs.2 b hb).trans z) he new
theorem dk_new {P:Program} {w:World} {H':Hp} {h':Heap} {kvs:List (Key × V)} {vs:List (Key × Value)} (z:kvs.length≤sizeLine) (hd:(a == sysModules)=false) (rel:KV kvs vs) (dd:h'.DictOf (Zbd P w) a vs) :
  ObjOk P w H' h' a (.dK kvs):=⟨z,hd,vs,rel,dd⟩
theorem d_setItem {H':Hp} {Q:Unit→Shared→Prop} (hu:A.units+1 < cLine) (I:Inv X pins σ H s) (g:DPut H a y v H') (ry:RelV y u) (rv:RelV v r) (h:∀ s',Inv X pins σ H' s'→Q () s') :
  wpAny (model X.prog X.w) A (setItem (.ref a) u r) Q E s:=by
 rcases g with ⟨kvs,k,e,ey,l,eH⟩ | ⟨kvs,k,b,e,ey,eb,l,eH⟩
 ·subst ey eH
  obtain ⟨z,hd,vs,rel,dd⟩:=dk_of I.hok e
  have hz:vs.length≤sizeLine:=by rw [← rel.length]; exact z
  have hl:(putK kvs k v).length≤sizeLine:=by have:=Zfy kvs k v; omega
  refine wpAny_setItem_pairs (hsz:=hz) (kV_is ry) dd fun h' dd' hs=>h _ ?_
  have he:∃ q,h'.get? a=some q:=let ⟨q,_,_,hq,_⟩:=dd'; ⟨q,hq⟩
  exact Zk0 I (by rw [e]; exact True.intro) hs he (dk_new hl hd (rel.put k rv) dd')
 ·subst ey eH
  cases (show u=Value.ref b from ry)
  obtain ⟨z,hd,xs,rel,dd⟩:=dt_of I.hok e
  have hz:xs.length≤sizeLine:=by rw [← Paired.length rel]; exact z
  have hl:(putK kvs k v).length≤sizeLine:=by have:=Zfy kvs k v; omega
  refine wpAny_setItem_heap (hsz:=hz) (tupleKind_room_in1 hu) (Zg6 I.hok eb) dd fun h' dd' hs=>h _ ?_
  obtain ⟨q,es,ep,hq,h2,h3,h4,_,h5⟩:=dd'
  refine Zk0 I (by rw [e]; exact True.intro) hs ⟨q,hq⟩ ⟨hl,hd,_,(rel.put k eb rv).keeps fun c ys ec=>?_,q,es,ep,hq,h2,h3,h4,h5⟩
  rw [Zaj (ne_of ec e (fun z=>nomatch z))]
  exact ec
end
section
variable {X:Cx} {pins:List (Addr × Obj)} {σ:St} {H:Hp} {s:Shared} {a:Addr} {kvs:List (Key × V)} {k:Key} {u:Value} {A:Around} {E:Value→Shared→Prop}
end
def NoSl (i:Expr):Prop:=∀ ov iv,subscripted i false ov iv=operate [ov,iv] (getItem ov iv)
theorem subD_of {prog:Program} {w:World} {A:Around} {E:Value→Shared→Prop} {s:Shared} {env:Env} {value slice:Expr} {pos:Pos} {T id:String} {Q:Value→Shared→Prop}
  (hl:typeLookup (.type T) "__getitem__"=pure (some (.builtin id))) (hs:NoSl slice)
  (h:wpAny (model prog w) A (eval value env) (fun o s₁=>wpAny (model prog w) A (eval slice env) (fun i s₂=>s₂.TypeIs o T∧wpAny (model prog w) A (getItem o i) Q E s₂) E s₁) E s) :
  wpAny (model prog w) A (eval (.Subscript value slice pos) env) Q E s:=by
 refine Subscript_ (wpAny_mono h (fun o s₁ h₁=>wpAny_mono h₁ (fun i s₂ h₂=>?_) fun _ _ x=>x) fun _ _ x=>x)
 obtain ⟨hT,h₂⟩:=h₂
 unfold subscriptTail
 refine wpAny_bind ?_
 rw [getitemInPython_of_ne hT.not_modules]
 refine wpAny_bind (wpAny_specialOf hT hl ?_)
 have fin:wpAny (model prog w) A (subscripted slice false o i) (fun r s₃=>wpAny (model prog w) A (letTemporaryGo value o r >>= fun _=>pure r) Q E s₃) E s₂:=by
  rw [hs o i]
  exact wpAny_operating (wpAny_mono h₂ (fun r s₃ h₃=>wpAny_bind (wpAny_letTemporaryGo (wpAny_pure h₃))) fun _ _ x=>x)
 first
  | exact wpAny_pure (wpAny_bind fin)
  | exact wpAny_bind (wpAny_pure (wpAny_bind fin))
  | exact wpAny_bind fin
theorem Zky {X:Cx} {pins:List (Addr × Obj)} {σ:St} {H:Hp} {s:Shared} {a:Addr} {y:V} {o:Option V} (I:Inv X pins σ H s) (g:DGet H a y o):s.TypeIs (.ref a) "dict":=by
 rcases g with ⟨kvs,k,e,_,_⟩ | ⟨kvs,k,b,e,_,_,_⟩
 ·obtain ⟨_,_,vs,_,dd⟩:=dk_rd I.hok e
  exact dd.typeIs
 ·obtain ⟨_,_,xs,_,dd⟩:=dt_rd I.hok e
  exact dd.typeIs
def tDGet (td ty:TE):TE:=fun σ H Q=>td σ H fun x H1=>ty σ H1 fun y H2=>∃ a v,x=.ref a∧DGet H2 a y (some v)∧Q v H2
def tDNotIn (ty td:TE):TE:=fun σ H Q=>ty σ H fun y H1=>td σ H1 fun x H2=>∃ a o,x=.ref a∧DGet H2 a y o∧Q (.bl (!o.isSome)) H2
def sDPut (td ty tv:TE):TS:=fun D σ H=>tv σ H fun v H1=>td σ H1 fun x H2=>ty σ H2 fun y H3=>∃ a H4,x=.ref a∧DPut H3 a y v H4∧D.nx σ H4
section
variable {X:Cx} {o i e value:Expr} {pos pos' tpos:Pos} {td ty tv:TE}
theorem Zc8 (hu:X.A.units+1 < cLine) (ho:PE X o td) (hi:PE X i ty) (hs:NoSl i):PE X (.Subscript o i pos) (tDGet td ty):=by
 intro pins s σ H Q I h
 refine subD_of PySem.F.slot_dict_getitem.lookup hs (thn (ho pins s σ H _ I h) fun u s1 ⟨x,H1,I1,rx,q1⟩=>thn (hi pins s1 σ H1 _ I1 q1) fun iv s2 ⟨y,H2,I2,ry,a,v,ex,g,q2⟩=>?_)
 subst ex
 obtain rfl:u=Value.ref a:=rx
 exact ⟨Zky I2 g,d_getItem hu I2 g ry fun w' s3 I3 rw'=>⟨v,H2,I3,rw',q2⟩⟩
theorem pc_dnotin (hu:X.A.units+1 < cLine) (hi:PE X i ty) (ho:PE X o td):PC X .NotIn i o (tDNotIn ty td):=by
 intro pins s σ H Q I h
 refine thn (hi pins s σ H _ I h) fun iv s1 ⟨y,H1,I1,ry,q1⟩=>thn (ho pins s1 σ H1 _ I1 q1) fun u s2 ⟨x,H2,I2,rx,a,ov,ex,g,q2⟩=>?_
 subst ex
 obtain rfl:u=Value.ref a:=rx
 exact d_notIn hu I2 g ry fun s3 I3=>⟨.bl (!ov.isSome),H2,I3,rfl,q2⟩
theorem ps_dput (hu:X.A.units+1 < cLine) (ho:PE X o td) (hi:PE X i ty) (hv:PE X value tv) (hs:swapsWith value (some (.Subscript o i pos')) pos.line X.env=pure false) :
  PS X (.Assign [.Subscript o i pos'] value pos) (sDPut td ty tv):=by
 intro pins s σ H D I h
 refine wpAny_Assign_Subscript (thn (hv pins s σ H _ I h) fun r s1 ⟨v,H1,I1,rv,q1⟩=>thn (ho pins s1 σ H1 _ I1 q1) fun u s2 ⟨x,H2,I2,rx,q2⟩=>thn (hi pins s2 σ H2 _ I2 q2) fun iv s3 ⟨y,H3,I3,ry,a,H4,ex,g,q3⟩=>?_) hs
 subst ex
 obtain rfl:u=Value.ref a:=rx
 exact d_setItem hu I3 g ry rv fun s4 I4=>⟨σ,H4,I4,q3⟩
end
theorem dt_empty {P:Program} {w:World} {H:Hp} (h:Heap) (hb:sysModules < h.objs.size):ObjOk P w H (h.push { cls:=.type "dict",data:=.dict #[] }) h.objs.size (.dT []) :=
 ⟨Nat.zero_le _,beq_eq_false_iff_ne.mpr (Ne.symm (Nat.ne_of_lt hb)),[],.nil,_,#[],0,Heap.get?_push_size _ rfl,⟨rfl,rfl,rfl⟩,rfl,rfl,List.nodup_nil⟩
def tDNewT:TE:=fun _ H Q=>∀ p,H p=none→Q (.ref p) (upd H p (.dT []))
section
variable {X:Cx} {pos:Pos}
theorem pe_dnewT:PE X (.Dict [] [] pos) tDNewT:=fun pins s σ H Q I h =>
 wpAny_Dict_empty ⟨.ref s.heap.objs.size,_,I.laid (a:=s.heap.objs.size) (o:=.dT []) (t':=s.toks) (fun _ _ q=>Heap.get?_push_of_some _ q) (Nat.le_refl _) (dt_empty s.heap I.big),rfl,h _ (I.hok.fresh (Nat.le_refl _))⟩
end
def IsD (H:Hp) (a:Addr):Prop:=(∃ kvs,Rd H a (.dK kvs))∨∃ kvs,Rd H a (.dT kvs)
theorem isD_at {X:Cx} {pins:List (Addr × Obj)} {σ:St} {H:Hp} {s:Shared} {a:Addr} (I:Inv X pins σ H s) (d:IsD H a) :
  s.TypeIs (.ref a) "dict"∧(∀ b,Value.ref a=.ref b→∃ ob,s.heap.get? b=some ob∧ob.dict=none)∧(a == sysModules)=false:=by
 rcases d with ⟨kvs,e⟩ | ⟨kvs,e⟩
 ·obtain ⟨_,hd,vs,_,dd⟩:=dk_rd I.hok e
  refine ⟨dd.typeIs,fun b q=>?_,hd⟩
  cases q
  obtain ⟨ob,_,_,h1,h2,_⟩:=dd
  exact ⟨ob,h1,h2.2.1⟩
 ·obtain ⟨_,hd,xs,_,dd⟩:=dt_rd I.hok e
  refine ⟨dd.typeIs,fun b q=>?_,hd⟩
  cases q
  obtain ⟨ob,_,_,h1,h2,_⟩:=dd
  exact ⟨ob,h1,h2.2.1⟩
section
variable {X:Cx} {pins:List (Addr × Obj)} {σ:St} {H:Hp} {s:Shared} {a:Addr} {y d:V} {u r:Value} {o:Option V} {A:Around} {E:Value→Shared→Prop}
end
section
variable {X:Cx} {o e f:Expr} {apos cpos:Pos} {td ty tx:TE}
end
section
variable {X:Cx} {pins:List (Addr × Obj)} {σ:St} {H:Hp} {s:Shared} {a:Addr} {kvs:List (Key × V)} {A:Around} {E:Value→Shared→Prop}
end
section
variable {X:Cx} {pins:List (Addr × Obj)} {σ:St} {H:Hp} {s:Shared} {a:Addr} {y:V} {u:Value} {A:Around} {E:Value→Shared→Prop}
end
section
variable {κ:Type} [DecidableEq κ]
end
section
variable {X:Cx}
end
end L2
namespace L2
open PySem PySem.Spec PyProof.Rows
def Ite (K:PySem.W.Frag) (a:Addr):It :=
 ⟨fun i H=>∃ xs x,SqL K H a xs∧xs[i]?=some x,fun i H y H'=>∃ t x,(∀ xs,SqL K H a xs→xs[i]?=some x)∧y=.ref t∧H t=none∧H'=upd H t (.tup [.int i,x]),fun i H=>∃ xs,SqL K H a xs∧xs.length≤i⟩
theorem Zjj {X:Cx} {pins:List (Addr × Obj)} {σ:St} {H:Hp} {s:Shared} {h':Heap} {e it:Addr} {t':Nat} {ys:List V} (I:Inv X pins σ H s) (fe:FpOk X pins H e) (fi:FpOk X pins H it)
  (k:∀ b o,b≠e→b≠it→s.heap.get? b=some o→h'.get? b=some o) (he:∃ o,h'.get? e=some o) (hi:∃ o,h'.get? it=some o)
  (new:ObjOk X.prog X.w (upd H s.heap.objs.size (.tup ys)) h' s.heap.objs.size (.tup ys)) :
  Inv X pins σ (upd H s.heap.objs.size (.tup ys)) { s with heap:=h',toks:=t' }:=by
 have hn:H s.heap.objs.size=none:=I.hok.fresh (Nat.le_refl _)
 obtain ⟨e0,e1,e2,e3,e4,e5⟩:=fe
 obtain ⟨i0,i1,i2,i3,i4,i5⟩:=fi
 have nt:∀ b u,H b=some u→b≠e∧b≠it:=fun b u q=>⟨fun z=>(by rw [z,e0] at q; cases q),fun z=>(by rw [z,i0] at q; cases q)⟩
 have nc:∀ b,b ∉ [e,it]→b≠e∧b≠it:=fun b hb=>⟨fun z=>hb (by simp [z]),fun z=>hb (by simp [z])⟩
 have ne:∀ b u,H b=some u→b≠s.heap.objs.size:=fun b u q=>Zah q hn
 refine I.step (g':=s.gens) (d':=s.drawn) (ch:=[e,it]) (fun b hb=>?_) (fun b o _ _ hc q _=>k b o (nc b hc).1 (nc b hc).2 q) (fun b o _ _ hc q _=>⟨o.slots,k b o (nc b hc).1 (nc b hc).2 q⟩)
  (fun b o _ q n=>by rw [Zaj (Nat.ne_of_lt (Heap.lt_size q))]; exact n) (fun b o hc q=>⟨o,k b o (nc b hc).1 (nc b hc).2 q⟩) (fun b xs q=>by rw [Zaj (ne b _ q)]; exact q) (fun b o u q=>by rw [Zaj (ne b _ q)]; exact q)
  (fun b ps q=>⟨#[],by rw [Zaj (ne b _ q),q]; simp⟩) (fun m hm=>?_) (fun b u q=>?_) I.bare
 ·rcases List.mem_cons.mp hb with rfl | hb
  ·exact ⟨e3,e1,e4,e5⟩
  ·rw [List.mem_singleton.mp hb]; exact ⟨i3,i1,i4,i5⟩
 ·obtain ⟨o,es,ep,ho,r⟩:=hm
  exact ⟨o,es,ep,k _ o (Ne.symm e1) (Ne.symm i1) ho,r⟩
 ·by_cases hb:b=s.heap.objs.size
  ·subst hb; rw [Zab] at q; cases q; exact new
  ·rw [Zaj hb] at q
   refine (I.hok b u q).stay (fun c v hc z=>k c v ?_ ?_ z) (fun c z=>by rw [Zaj (ne c _ z)]; exact z) fun c xs z=>by rw [Zaj (ne c _ z)]; exact z
   ·rcases hc with rfl | hc
    ·exact (nt c u q).1
    ·exact (nt c _ hc).1
   ·rcases hc with rfl | hc
    ·exact (nt c u q).2
    ·exact (nt c _ hc).2
theorem turn_enum {P:Program} {w:World} {K:PySem.W.Frag} {es:List Expr} {k:Nat} {pos:Pos} (a e it:Addr) (hei:e≠it) :
  Turn P w K (.Tuple es k pos) (Ite K a) [e,it] e (fun i h=>(∃ old,IsEnum h e it i old)∧h.IsListIter it a i) where
 mem:=by simp
 obj:=fun i h st b hb=>by
  obtain ⟨⟨old,he⟩,⟨o,eo,c,d⟩⟩:=st
  rcases List.mem_cons.mp hb with rfl | hb
  ·exact ⟨_,he,fun v z=>by
    have z':Data.fields _=Data.cell v:=z
    cases z'⟩
  ·rw [List.mem_singleton.mp hb]; exact ⟨o,eo,fun v z=>by rw [d] at z; cases z⟩
 keep:=fun i h h' st kk=>by
  obtain ⟨⟨old,he⟩,st⟩:=st
  exact ⟨⟨old,kk e (by simp) _ he⟩,st.at fun o z=>kk it (by simp) o z⟩
 item:=by
  intro X hP hw hK hc i pins s σ H E I hf st hg
  subst hP hw hK
  obtain ⟨⟨old,he⟩,st⟩:=st
  obtain ⟨xs,x,hq,hx⟩:=hg
  obtain ⟨its,rv,p,hz⟩:=I.list hq
  obtain ⟨u,hu,ru⟩:=rv.get hx
  have fe:=hf e (by simp)
  have fi:=hf it (by simp)
  refine wpAny_pyNext_enum_item he st p.isList (x:=u) (by simpa using hu) hei fun h' he' st' ht hz' kk=>?_
  refine ⟨_,rfl,?_⟩
  have ltE:e < s.heap.objs.size:=Heap.lt_size he
  have hn:H s.heap.objs.size=none:=I.hok.fresh (Nat.le_refl _)
  have I1:Inv X pins σ (upd H s.heap.objs.size (.tup [.int i,x])) { s with heap:=h',toks:=s.toks+1 }:=by
   refine Zjj I fe fi kk ⟨_,he'⟩ (let ⟨o,eo,_⟩:=st'; ⟨o,eo⟩) ⟨?_,[.int i s.toks,u],.cons ⟨_,rfl⟩ (.cons ru .nil),⟨_,ht,rfl,_,rfl⟩⟩
   show 2≤sizeLine
   decide
  refine wpAny_letOwnedTupleGo_enum (s:={ s with heap:=h',toks:=s.toks+1 }) he' fun h2 he2 sb=>?_
  have neE:e≠s.heap.objs.size:=Nat.ne_of_lt ltE
  have fe2:(upd H s.heap.objs.size (.tup [.int i,x])) e=none:=by rw [Zaj neE]; exact fe.1
  have I2:Inv X pins σ (upd H s.heap.objs.size (.tup [.int i,x])) { ({ s with heap:=h',toks:=s.toks+1 }:Shared) with heap:=h2,toks:=s.toks+1 } :=
   I1.turned (t':=s.toks+1) (it:=e) (fun b o hb z=>(sb.2 b hb).trans z) fe2 fe.2.1 fe.2.2.2.1 fe.2.2.2.2.1 fe.2.2.2.2.2
  obtain ⟨oi,hoi,_⟩:=id st
  have ltI:it < s.heap.objs.size:=Heap.lt_size hoi
  refine ⟨.ref s.heap.objs.size,_,I2,rfl,⟨_,x,fun ys hy=>by rw [I.list_inj hy hq]; exact hx,rfl,hn,rfl⟩,⟨⟨u,?_⟩,?_⟩,fun b hb=>?_⟩
  ·have e1:((i+1:Nat):Int)=(i:Int)+1:=by push_cast; rfl
   rw [e1]; exact he2
  ·exact st'.at fun o z=>(sb.2 it (Ne.symm hei)).trans z
  ·rcases List.mem_cons.mp hb with rfl | hb
   ·exact fe2
   ·rw [List.mem_singleton.mp hb,Zaj (Nat.ne_of_lt ltI)]; exact fi.1
 done:=by
  intro X hP hw hK hc i pins s σ H E I hf st hg
  subst hP hw hK
  obtain ⟨⟨old,he⟩,st⟩:=st
  obtain ⟨xs,hq,hx⟩:=hg
  obtain ⟨its,rv,p,hz⟩:=I.list hq
  obtain ⟨f0,f1,f2,f3,f4,f5⟩:=hf it (by simp)
  have hl:=rv.length
  exact wpAny_pyNext_enum_end (I.ok.hd hc) he st p.isList (by simp; omega) fun h' eb=>⟨rfl,I.turned (t':=s.toks) (fun b o hb z=>eb b o hb z) f0 f1 f3 f4 f5⟩
 self:=fun _ _ _ _ _ st h=>by
  obtain ⟨⟨old,he⟩,_⟩:=st
  exact wpAny_pyIter_enum he h
def iEnum (K:PySem.W.Frag) (ta:TA):TI:=fun σ H R=>ta σ H fun vs H1=>∃ a,vs=[.ref a]∧(∃ xs,SqL K H1 a xs)∧R (Ite K a) H1
section
variable {X:Cx}
theorem Zki {a:Expr} {es:List Expr} {k:Nat} {tpos:Pos} {ta:TA} {p pos:Pos} (hg:Gl X "enumerate") (hm:X.mg "enumerate"=none) (ha:PA X [a] ta) (hs:starEach [a] X.env=[(false,eval a X.env)]:=by rfl) :
  PI X (.Tuple es k tpos) (.Call (.Name "enumerate" p) [a] [] pos) (iEnum X.K ta):=by
 intro pins s σ H R I h
 refine Call_ (Ze3 I hg hm boot_enumerate (PyProof.Rows.callWith_type1 (thn (ha pos pins s σ H _ I h) fun us s1 ⟨vs,H1,I1,r1,q1⟩=>?_) hs rfl))
 obtain ⟨b,e,⟨xs,hq⟩,q⟩:=q1
 subst e
 cases r1 with
 | cons r rr =>
  cases rr
  cases r
  obtain ⟨its,rv,pl,hz⟩:=I1.list hq
  refine call_enumerate_list pl.isList fun h' he hit hsz hk=>?_
  have I2:Inv X pins σ H1 { s1 with heap:=h' }:=I1.kept (t':=s1.toks) hk
  refine wpAny_pyIter_enum (s:={ s1 with heap:=h' }) he ?_
  refine ⟨s1.heap.objs.size+1,[s1.heap.objs.size+1,s1.heap.objs.size],_,_,H1,rfl,I2,turn_enum b _ _ (Nat.succ_ne_self _),⟨⟨_,he⟩,hit⟩,fun c hc=>?_,q⟩
  rcases List.mem_cons.mp hc with rfl | hc
  ·exact I1.fpOk (Nat.le_succ _) (I1.hok.fresh (Nat.le_succ _))
  ·rw [List.mem_singleton.mp hc]; exact I1.fpOk (Nat.le_refl _) (I1.hok.fresh (Nat.le_refl _))
end
theorem Zh3 {K:PySem.W.Frag} {a:Addr} {xs:List V} {g:TG} {tb:TS} {D:Ends} {σ:St} {H:Hp} (Pv:Nat→St→Hp→Prop) (h0:Pv 0 σ H) (hl:∀ i σ H,i≤xs.length→Pv i σ H→SqL K H a xs)
  (hs:∀ i x σ H t,xs[i]?=some x→Pv i σ H→H t=none→g (.ref t) σ (upd H t (.tup [.int i,x])) fun σ2 H2=>tb { D with nx:=Pv (i+1),ct:=Pv (i+1),bk:=D.nx } σ2 H2) (hd:∀ σ H,Pv xs.length σ H→D.nx σ H) :
  ∃ W:Nat→Nat→St→Hp→Prop,(∃ m,W 0 m σ H)∧∀ i m σ H,W i m σ H →
   ((Ite K a).stop i H∧D.nx σ H)∨((Ite K a).go i H∧∃ N:St→Hp→Prop,(∀ σ' H',N σ' H'→∃ m',m' < m∧W (i+1) m' σ' H')∧∀ x H',(Ite K a).yld i H x H'→g x σ H' fun σ2 H2=>tb { D with nx:=N,ct:=N,bk:=D.nx } σ2 H2):=by
 refine ⟨fun i m σ H=>m=xs.length - i∧i≤xs.length∧Pv i σ H,⟨xs.length,by simp,Nat.zero_le _,h0⟩,?_⟩
 rintro i m σ H ⟨rfl,hi,p⟩
 have q:=hl i σ H hi p
 by_cases hlt:i < xs.length
 ·refine .inr ⟨⟨xs,xs[i],q,by simp [hlt]⟩,Pv (i+1),fun σ' H' p'=>⟨xs.length - (i+1),by omega,rfl,hlt,p'⟩,fun x H' y=>?_⟩
  obtain ⟨t,z,hz,rfl,ht,rfl⟩:=y
  exact hs i z σ H t (hz xs q) p ht
 ·have e:i=xs.length:=by omega
  subst e
  exact .inl ⟨⟨xs,q,Nat.le_refl _⟩,hd σ H p⟩
end L2
namespace L2
open PySem PySem.Spec PyProof.Rows PySem.SeqAt
mutual
inductive D where
 | at (v:V)
 | tup (xs:Ds)
 | lst (xs:Ds)
inductive Ds where
 | nil
 | cons (d:D) (r:Ds)
end
mutual
def DIs (K:PySem.W.Frag) (H:Hp):D→V→Prop
 | .at u,v=>v=u∧flatV u=true
 | .tup ds,v=>∃ a xs,v=.ref a∧SqT K H a xs∧DIss K H ds xs
 | .lst ds,v=>∃ a xs,v=.ref a∧SqL K H a xs∧DIss K H ds xs
def DIss (K:PySem.W.Frag) (H:Hp):Ds→List V→Prop
 | .nil,xs=>xs=[]
 | .cons d r,xs=>∃ x ys,xs=x :: ys∧DIs K H d x∧DIss K H r ys
end
mutual
def dep:D→Nat
 | .at _=>0
 | .tup ds=>deps ds+1
 | .lst ds=>deps ds+1
def deps:Ds→Nat
 | .nil=>0
 | .cons d r=>max (dep d) (deps r)
end
mutual
def deq:D→D→Bool
 | .at u,.at v=>eqV u v
 | .tup xs,.tup ys=>deqs xs ys
 | .lst xs,.lst ys=>deqs xs ys
 | _,_=>false
def deqs:Ds→Ds→Bool
 | .nil,.nil=>true
 | .cons d r,.cons e q=>deq d e && deqs r q
 | _,_=>false
end
def Ds.len:Ds→Nat
 | .nil=>0
 | .cons _ r=>r.len+1
def Ds.get:Ds→Nat→D
 | .nil,_=>.at .non
 | .cons d _,0=>d
 | .cons _ r,i+1=>r.get i
theorem Zcx:∀ (ds es:Ds),((List.range (min ds.len es.len)).all (fun j=>deq (ds.get j) (es.get j)) && ds.len == es.len)=deqs ds es
 | .nil,.nil=>rfl
 | .nil,.cons e q=>by simp [Ds.len,deqs]
 | .cons d r,.nil=>by simp [Ds.len,deqs]
 | .cons d r,.cons e q=>by
  have ih:=Zcx r q
  rw [show deqs (.cons d r) (.cons e q)=(deq d e && deqs r q) from by rw [deqs],← ih]
  show ((List.range (min (r.len+1) (q.len+1))).all _ && (r.len+1 == q.len+1))=_
  rw [show min (r.len+1) (q.len+1)=min r.len q.len+1 by omega,List.range_succ_eq_map,List.all_cons,List.all_map,Bool.and_assoc]
  congr 1
  rw [show (r.len+1 == q.len+1)=(r.len == q.len) by simp]
  rfl
mutual
theorem Zfc:∀ {K:PySem.W.Frag} {H:Hp} (d:D) {v:V},DIs K H d v→deq d d=true
 | _,_,.at u,v,h=>by
  obtain ⟨_,hf⟩:=(show v=u∧flatV u=true by simpa [DIs] using h)
  rw [deq]
  cases u <;> simp_all [flatV,eqV]
 | _,_,.tup ds,v,h=>by
  rw [DIs] at h
  obtain ⟨a,xs,_,_,q⟩:=h
  rw [deq]; exact Zf7 ds q
 | _,_,.lst ds,v,h=>by
  rw [DIs] at h
  obtain ⟨a,xs,_,_,q⟩:=h
  rw [deq]; exact Zf7 ds q
theorem Zf7:∀ {K:PySem.W.Frag} {H:Hp} (ds:Ds) {xs:List V},DIss K H ds xs→deqs ds ds=true
 | _,_,.nil,_,_=>by rw [deqs]
 | _,_,.cons d r,xs,h=>by
  rw [DIss] at h
  obtain ⟨x,ys,_,h1,h2⟩:=h
  rw [deqs,Zfc d h1,Zf7 r h2]; rfl
end
theorem DIss.len {K:PySem.W.Frag} {H:Hp}:∀ {ds:Ds} {xs:List V},DIss K H ds xs→ds.len=xs.length
 | .nil,xs,h=>by rw [DIss] at h; rw [h]; rfl
 | .cons d r,xs,h=>by
  rw [DIss] at h
  obtain ⟨x,ys,rfl,_,h2⟩:=h
  show r.len+1=ys.length+1
  rw [DIss.len h2]
theorem DIss.get {K:PySem.W.Frag} {H:Hp}:∀ {ds:Ds} {xs:List V} {i:Nat} {x:V},DIss K H ds xs→xs[i]?=some x→DIs K H (ds.get i) x
 | .nil,xs,i,x,h,e=>by rw [DIss] at h; rw [h] at e; simp at e
 | .cons d r,xs,i,x,h,e=>by
  rw [DIss] at h
  obtain ⟨y,ys,rfl,h1,h2⟩:=h
  cases i with
  | zero=>simp at e; subst e; exact h1
  | succ i =>
   show DIs K H (r.get i) x
   exact DIss.get h2 (by simpa using e)
theorem Zib:∀ (ds:Ds) (i:Nat),i < ds.len→dep (ds.get i)≤deps ds
 | .nil,i,h=>absurd h (by simp [Ds.len])
 | .cons d r,0,_=>by show dep d≤_; rw [deps]; omega
 | .cons d r,i+1,h=>by
  have:=Zib r i (by simpa [Ds.len] using h)
  show dep (r.get i)≤_
  rw [deps]; omega
section
variable {X:Cx} {pins:List (Addr × Obj)} {σ:St} {H:Hp} {s:Shared}
mutual
theorem DIs.inj (I:Inv X pins σ H s):∀ {d e:D} {v:V},DIs X.K H d v→DIs X.K H e v→d=e
 | .at u,.at w',v,h,h'=>by
  rw [DIs] at h
  rw [DIs] at h'
  rw [← h.1,← h'.1]
 | .at u,.tup ds,v,h,h'=>by
  rw [DIs] at h
  rw [DIs] at h'
  obtain ⟨a,xs,e,_⟩:=h'
  have:=h.2
  rw [← h.1,e] at this
  cases this
 | .at u,.lst ds,v,h,h'=>by
  rw [DIs] at h
  rw [DIs] at h'
  obtain ⟨a,xs,e,_⟩:=h'
  have:=h.2
  rw [← h.1,e] at this
  cases this
 | .tup ds,.at u,v,h',h=>by
  rw [DIs] at h
  rw [DIs] at h'
  obtain ⟨a,xs,e,_⟩:=h'
  have:=h.2
  rw [← h.1,e] at this
  cases this
 | .lst ds,.at u,v,h',h=>by
  rw [DIs] at h
  rw [DIs] at h'
  obtain ⟨a,xs,e,_⟩:=h'
  have:=h.2
  rw [← h.1,e] at this
  cases this
 | .tup ds,.tup es,v,h,h'=>by
  rw [DIs] at h
  rw [DIs] at h'
  obtain ⟨a,xs,rfl,h1,h2⟩:=h
  obtain ⟨b,ys,e,k1,k2⟩:=h'
  cases e
  have e:=I.tuple_inj h1 k1
  subst e
  rw [DIss.inj I h2 k2]
 | .lst ds,.lst es,v,h,h'=>by
  rw [DIs] at h
  rw [DIs] at h'
  obtain ⟨a,xs,rfl,h1,h2⟩:=h
  obtain ⟨b,ys,e,k1,k2⟩:=h'
  cases e
  have e:=I.list_inj h1 k1
  subst e
  rw [DIss.inj I h2 k2]
 | .tup ds,.lst es,v,h,h'=>by
  rw [DIs] at h
  rw [DIs] at h'
  obtain ⟨a,xs,rfl,h1,h2⟩:=h
  obtain ⟨b,ys,e,k1,k2⟩:=h'
  cases e
  obtain ⟨_,_,t1,_⟩:=I.tuple h1
  obtain ⟨_,_,t2,_⟩:=I.list k1
  exact absurd rfl (ne_of_list_tuple t2.isList (show s.heap.IsTuple a _ from t1))
 | .lst ds,.tup es,v,h,h'=>by
  rw [DIs] at h
  rw [DIs] at h'
  obtain ⟨a,xs,rfl,h1,h2⟩:=h
  obtain ⟨b,ys,e,k1,k2⟩:=h'
  cases e
  obtain ⟨_,_,t1,_⟩:=I.tuple k1
  obtain ⟨_,_,t2,_⟩:=I.list h1
  exact absurd rfl (ne_of_list_tuple t2.isList (show s.heap.IsTuple a _ from t1))
theorem DIss.inj (I:Inv X pins σ H s):∀ {ds es:Ds} {xs:List V},DIss X.K H ds xs→DIss X.K H es xs→ds=es
 | .nil,.nil,xs,h,h'=>rfl
 | .nil,.cons d r,xs,h,h'=>by
  rw [DIss] at h
  rw [DIss] at h'
  obtain ⟨x,ys,e,_⟩:=h'
  rw [h] at e; cases e
 | .cons d r,.nil,xs,h',h=>by
  rw [DIss] at h
  rw [DIss] at h'
  obtain ⟨x,ys,e,_⟩:=h'
  rw [h] at e; cases e
 | .cons d r,.cons e q,xs,h,h'=>by
  rw [DIss] at h
  rw [DIss] at h'
  obtain ⟨x,ys,rfl,h1,h2⟩:=h
  obtain ⟨y,zs,e',k1,k2⟩:=h'
  cases e'
  rw [DIs.inj I h1 k1,DIss.inj I h2 k2]
end
theorem Zh5 {A:Around} {u:V} {x:Value} {l:Addr} {items:Array Value} (r:RelV u x) (f:flatV u=true) (hl:s.heap.IsTuple l items) (hu:A.units < cLine):EqAt A s x (.ref l) false∧EqAt A s (.ref l) x false:=by
 cases u with
 | non=>cases r; exact ⟨.none_tuple hl hu,.tuple_none hl hu⟩
 | bl b=>cases r; exact ⟨.bool_tuple b hl hu,.tuple_bool b hl hu⟩
 | int b=>obtain ⟨t,rfl⟩:=r; exact ⟨.int_tuple b t hl hu,.tuple_int b t hl hu⟩
 | str b=>obtain ⟨t,rfl⟩:=r; exact ⟨.str_tuple b t hl hu,.tuple_str b t hl hu⟩
 | _=>exact absurd (show false=true from f) Bool.false_ne_true
theorem Zh6 {A:Around} {u:V} {x:Value} {l:Addr} {items:Array Value} (r:RelV u x) (f:flatV u=true) (hl:s.heap.IsList l items) (hu:A.units < cLine):EqAt A s x (.ref l) false∧EqAt A s (.ref l) x false:=by
 cases u with
 | non=>cases r; exact ⟨.none_list hl hu,.list_none hl hu⟩
 | bl b=>cases r; exact ⟨.bool_list b hl hu,.list_bool b hl hu⟩
 | int b=>obtain ⟨t,rfl⟩:=r; exact ⟨.int_list b t hl hu,.list_int b t hl hu⟩
 | str b=>obtain ⟨t,rfl⟩:=r; exact ⟨.str_list b t hl hu,.list_str b t hl hu⟩
 | _=>exact absurd (show false=true from f) Bool.false_ne_true
theorem eqAt_D (I:Inv X pins σ H s):∀ (n:Nat) (A:Around) (d e:D) (x y:V) (u v:Value),dep d≤n→DIs X.K H d x→DIs X.K H e y→RelV x u→RelV y v→A.units+n < cLine→EqAt A s u v (deq d e):=by
 intro n
 induction n with
 | zero =>
  intro A d e x y u v hn hd he rx ry hu
  cases d with
  | tup ds=>rw [dep] at hn; omega
  | lst ds=>rw [dep] at hn; omega
  | «at» p =>
   rw [DIs] at hd
   obtain ⟨rfl,hf⟩:=hd
   cases e with
   | «at» q =>
    rw [DIs] at he
    obtain ⟨rfl,hg⟩:=he
    rw [deq]; exact eqAt_V rx ry hf hg
   | tup es =>
    rw [DIs] at he
    obtain ⟨b,ys,rfl,h1,_⟩:=he
    obtain ⟨_,_,t,_⟩:=I.tuple h1
    cases ry
    rw [deq]
    ·exact (Zh5 rx hf (show s.heap.IsTuple b _ from t) hu).1
    all_goals (intros; simp_all)
   | lst es =>
    rw [DIs] at he
    obtain ⟨b,ys,rfl,h1,_⟩:=he
    obtain ⟨_,_,t,_⟩:=I.list h1
    cases ry
    rw [deq]
    ·exact (Zh6 rx hf t.isList hu).1
    all_goals (intros; simp_all)
 | succ n ih =>
  intro A d e x y u v hn hd he rx ry hu
  have hu1:A.in1.units+n < cLine:=by show A.units+1+n < cLine; omega
  cases d with
  | «at» p =>
   rw [DIs] at hd
   obtain ⟨rfl,hf⟩:=hd
   cases e with
   | «at» q =>
    rw [DIs] at he
    obtain ⟨rfl,hg⟩:=he
    rw [deq]; exact eqAt_V rx ry hf hg
   | tup es =>
    rw [DIs] at he
    obtain ⟨b,ys,rfl,h1,_⟩:=he
    obtain ⟨_,_,t,_⟩:=I.tuple h1
    cases ry
    rw [deq]
    ·exact (Zh5 rx hf (show s.heap.IsTuple b _ from t) (by omega)).1
    all_goals (intros; simp_all)
   | lst es =>
    rw [DIs] at he
    obtain ⟨b,ys,rfl,h1,_⟩:=he
    obtain ⟨_,_,t,_⟩:=I.list h1
    cases ry
    rw [deq]
    ·exact (Zh6 rx hf t.isList (by omega)).1
    all_goals (intros; simp_all)
  | tup ds =>
   have hd0:=hd
   rw [dep] at hn
   rw [DIs] at hd
   obtain ⟨a,xs,rfl,h1,h2⟩:=hd
   obtain ⟨i1,r1,t1,_⟩:=I.tuple h1
   cases rx
   cases e with
   | «at» q =>
    rw [DIs] at he
    obtain ⟨rfl,hg⟩:=he
    rw [deq]
    ·exact (Zh5 ry hg (show s.heap.IsTuple a _ from t1) (by omega)).2
    all_goals (intros; simp_all)
   | lst es =>
    rw [DIs] at he
    obtain ⟨b,ys,rfl,k1,_⟩:=he
    obtain ⟨_,_,t2,_⟩:=I.list k1
    cases ry
    rw [deq]
    ·exact EqAt.tuple_list (show s.heap.IsTuple a _ from t1) t2.isList (by omega)
    all_goals (intros; simp_all)
   | tup es =>
    have he0:=he
    rw [DIs] at he
    obtain ⟨b,ys,rfl,k1,k2⟩:=he
    obtain ⟨i2,r2,t2,_⟩:=I.tuple k1
    cases ry
    by_cases hab:a=b
    ·subst hab
     rw [DIs.inj I he0 hd0,Zfc _ hd0]
     exact EqAt.same _
    ·refine EqAt.of_refs hab ?_
     have:=RcAt.tuples (A:=A) (e:=fun j=>deq (ds.get j) (es.get j)) (show s.heap.IsTuple a i1.toArray from t1) (show s.heap.IsTuple b i2.toArray from t2) (by omega) fun j g1 g2=>?_
     ·have l1:=r1.length
      have l2:=r2.length
      have m1:=h2.len
      have m2:=k2.len
      rw [List.size_toArray,List.size_toArray,← l1,← l2,← m1,← m2,Zcx] at this
      rw [deq]; exact this
     ·have l1:=r1.length
      have l2:=r2.length
      have m1:=h2.len
      have g1':j < xs.length:=by simp at g1; omega
      have g2':j < ys.length:=by simp at g2; omega
      obtain ⟨u1,e1,q1⟩:=r1.get (List.getElem?_eq_getElem g1')
      obtain ⟨u2,e2,q2⟩:=r2.get (List.getElem?_eq_getElem g2')
      have d1:i1.toArray[j]=u1:=by
       have:i1[j]?=some i1.toArray[j]:=by simp
       rw [e1] at this; exact (Option.some.inj this).symm
      have d2:i2.toArray[j]=u2:=by
       have:i2[j]?=some i2.toArray[j]:=by simp
       rw [e2] at this; exact (Option.some.inj this).symm
      rw [d1,d2]
      exact ih _ _ _ _ _ _ _ (Nat.le_trans (Zib ds j (by omega)) (by omega)) (h2.get (List.getElem?_eq_getElem g1')) (k2.get (List.getElem?_eq_getElem g2')) q1 q2 hu1
  | lst ds =>
   have hd0:=hd
   rw [dep] at hn
   rw [DIs] at hd
   obtain ⟨a,xs,rfl,h1,h2⟩:=hd
   obtain ⟨i1,r1,t1,_⟩:=I.list h1
   cases rx
   cases e with
   | «at» q =>
    rw [DIs] at he
    obtain ⟨rfl,hg⟩:=he
    rw [deq]
    ·exact (Zh6 ry hg t1.isList (by omega)).2
    all_goals (intros; simp_all)
   | tup es =>
    rw [DIs] at he
    obtain ⟨b,ys,rfl,k1,_⟩:=he
    obtain ⟨_,_,t2,_⟩:=I.tuple k1
    cases ry
    rw [deq]
    ·exact EqAt.list_tuple t1.isList (show s.heap.IsTuple b _ from t2) (by omega)
    all_goals (intros; simp_all)
   | lst es =>
    have he0:=he
    rw [DIs] at he
    obtain ⟨b,ys,rfl,k1,k2⟩:=he
    obtain ⟨i2,r2,t2,_⟩:=I.list k1
    cases ry
    by_cases hab:a=b
    ·subst hab
     rw [DIs.inj I he0 hd0,Zfc _ hd0]
     exact EqAt.same _
    ·refine EqAt.of_refs hab ?_
     have l1:=r1.length
     have l2:=r2.length
     have m1:=h2.len
     have m2:=k2.len
     rw [deq]
     rw [← Zcx]
     by_cases hz:ds.len=es.len
     ·have:=RcAt.lists (A:=A) (e:=fun j=>deq (ds.get j) (es.get j)) t1.isList t2.isList (by simp; omega) (by omega) fun j g1 g2=>?_
      ·rw [List.size_toArray,← l1,← m1] at this
       rw [hz,Nat.min_self,beq_self_eq_true,Bool.and_true,← hz]
       exact this
      ·have g1':j < xs.length:=by simp at g1; omega
       have g2':j < ys.length:=by simp at g2; omega
       obtain ⟨u1,e1,q1⟩:=r1.get (List.getElem?_eq_getElem g1')
       obtain ⟨u2,e2,q2⟩:=r2.get (List.getElem?_eq_getElem g2')
       have d1:i1.toArray[j]=u1:=by
        have:i1[j]?=some i1.toArray[j]:=by simp
        rw [e1] at this; exact (Option.some.inj this).symm
       have d2:i2.toArray[j]=u2:=by
        have:i2[j]?=some i2.toArray[j]:=by simp
        rw [e2] at this; exact (Option.some.inj this).symm
       rw [d1,d2]
       exact ih _ _ _ _ _ _ _ (Nat.le_trans (Zib ds j (by omega)) (by omega)) (h2.get (List.getElem?_eq_getElem g1')) (k2.get (List.getElem?_eq_getElem g2')) q1 q2 hu1
     ·have e0:(ds.len == es.len)=false:=by simpa using hz
      rw [e0,Bool.and_false]
      exact RcAt.lists_lengths t1.isList t2.isList (by simp; omega) (by omega)
end
section
variable {X:Cx}
theorem Zh9 {pins:List (Addr × Obj)} {σ:St} {H:Hp} {s:Shared} (I:Inv X pins σ H s) {A:Around} {ds es:Ds} {xs ys:List V} {i1 i2:List Value} (h2:DIss X.K H ds xs) (k2:DIss X.K H es ys) (r1:Vals xs i1) (r2:Vals ys i2)
  (hu:A.units+60 < cLine) (hd:deps ds≤50):∀ j (g1:j < i1.toArray.size) (g2:j < i2.toArray.size),EqAt A.in1 s i1.toArray[j] i2.toArray[j] (deq (ds.get j) (es.get j)):=fun j g1 g2=>by
 have l1:=r1.length
 have l2:=r2.length
 have m1:=h2.len
 have g1':j < xs.length:=by simp at g1; omega
 have g2':j < ys.length:=by simp at g2; omega
 obtain ⟨u1,e1,q1⟩:=r1.get (List.getElem?_eq_getElem g1')
 obtain ⟨u2,e2,q2⟩:=r2.get (List.getElem?_eq_getElem g2')
 have d1:i1.toArray[j]=u1:=by
  have:i1[j]?=some i1.toArray[j]:=by simp
  rw [e1] at this; exact (Option.some.inj this).symm
 have d2:i2.toArray[j]=u2:=by
  have:i2[j]?=some i2.toArray[j]:=by simp
  rw [e2] at this; exact (Option.some.inj this).symm
 rw [d1,d2]
 exact eqAt_D I 50 _ _ _ _ _ _ _ (Nat.le_trans (Zib ds j (by omega)) hd) (h2.get (List.getElem?_eq_getElem g1')) (k2.get (List.getElem?_eq_getElem g2')) q1 q2 (by show A.units+1+50 < cLine; omega)
def rEqD (K:PySem.W.Frag) (neg:Bool):R2:=fun x y H Q=>∃ d e,DIs K H d x∧DIs K H e y∧(∃ a,x=.ref a)∧(∃ b,y=.ref b)∧dep d≤50∧Q (.bl (if neg then !deq d e else deq d e)) H
theorem op_eqD {k:Nat} (hr:Room k X.A):OpR X (compareOp .Eq) (rEqD X.K false):=by
 intro pins s σ H x y v u Q I rx ry h
 obtain ⟨d,e,hd,he,⟨a,rfl⟩,⟨b,rfl⟩,hn,q⟩:=h
 cases rx
 cases ry
 have hu:=hr.units
 cases d with
 | «at» p=>rw [DIs] at hd; obtain ⟨rfl,hf⟩:=hd; cases hf
 | tup ds =>
  rw [dep] at hn
  rw [DIs] at hd
  obtain ⟨a',xs,e',h1,h2⟩:=hd
  cases e'
  obtain ⟨i1,r1,t1,_⟩:=I.tuple h1
  cases e with
  | «at» p=>rw [DIs] at he; obtain ⟨rfl,hf⟩:=he; cases hf
  | tup es =>
   rw [DIs] at he
   obtain ⟨b',ys,e',k1,k2⟩:=he
   cases e'
   obtain ⟨i2,r2,t2,_⟩:=I.tuple k1
   refine RcAt.tuples (show s.heap.IsTuple a i1.toArray from t1) (show s.heap.IsTuple b i2.toArray from t2) (by omega) (Zh9 I h2 k2 r1 r2 (by omega) (by omega)) _ _ _ _ ⟨.bl _,H,I,?_,q⟩
   show Value.bool _=Value.bool _
   rw [List.size_toArray,List.size_toArray,← r1.length,← r2.length,← h2.len,← k2.len,Zcx]
   simp only [Bool.false_eq_true,if_false]
   rw [deq]
  | lst es =>
   rw [DIs] at he
   obtain ⟨b',ys,e',k1,k2⟩:=he
   cases e'
   obtain ⟨i2,r2,t2,_⟩:=I.list k1
   refine RcAt.tuple_list (show s.heap.IsTuple a _ from t1) t2.isList (by omega) _ _ _ _ ⟨.bl _,H,I,?_,q⟩
   show Value.bool _=Value.bool _
   simp only [Bool.false_eq_true,if_false]
   rw [deq] <;> (intros; simp_all)
 | lst ds =>
  rw [dep] at hn
  rw [DIs] at hd
  obtain ⟨a',xs,e',h1,h2⟩:=hd
  cases e'
  obtain ⟨i1,r1,t1,_⟩:=I.list h1
  cases e with
  | «at» p=>rw [DIs] at he; obtain ⟨rfl,hf⟩:=he; cases hf
  | tup es =>
   rw [DIs] at he
   obtain ⟨b',ys,e',k1,k2⟩:=he
   cases e'
   obtain ⟨i2,r2,t2,_⟩:=I.tuple k1
   refine RcAt.list_tuple t1.isList (show s.heap.IsTuple b _ from t2) (by omega) _ _ _ _ ⟨.bl _,H,I,?_,q⟩
   show Value.bool _=Value.bool _
   simp only [Bool.false_eq_true,if_false]
   rw [deq] <;> (intros; simp_all)
  | lst es =>
   rw [DIs] at he
   obtain ⟨b',ys,e',k1,k2⟩:=he
   cases e'
   obtain ⟨i2,r2,t2,_⟩:=I.list k1
   have l1:=r1.length
   have l2:=r2.length
   have m1:=h2.len
   have m2:=k2.len
   by_cases hz:ds.len=es.len
   ·refine RcAt.lists t1.isList t2.isList (by simp; omega) (by omega) (Zh9 I h2 k2 r1 r2 (by omega) (by omega)) _ _ _ _ ⟨.bl _,H,I,?_,q⟩
    show Value.bool _=Value.bool _
    simp only [Bool.false_eq_true,if_false]
    rw [deq,← Zcx,List.size_toArray,← l1,← m1,hz,Nat.min_self,beq_self_eq_true,Bool.and_true]
   ·refine RcAt.lists_lengths t1.isList t2.isList (by simp; omega) (by omega) _ _ _ _ ⟨.bl _,H,I,?_,q⟩
    show Value.bool _=Value.bool _
    have e0:(ds.len == es.len)=false:=by simpa using hz
    simp only [Bool.false_eq_true,if_false]
    rw [deq,← Zcx,e0,Bool.and_false]
theorem op_neD {k:Nat} (hr:Room k X.A):OpR X (compareOp .NotEq) (rEqD X.K true):=by
 intro pins s σ H x y v u Q I rx ry h
 obtain ⟨d,e,hd,he,⟨a,rfl⟩,⟨b,rfl⟩,hn,q⟩:=h
 cases rx
 cases ry
 have hu:=hr.units
 cases d with
 | «at» p=>rw [DIs] at hd; obtain ⟨rfl,hf⟩:=hd; cases hf
 | tup ds =>
  rw [dep] at hn
  rw [DIs] at hd
  obtain ⟨a',xs,e',h1,h2⟩:=hd
  cases e'
  obtain ⟨i1,r1,t1,_⟩:=I.tuple h1
  cases e with
  | «at» p=>rw [DIs] at he; obtain ⟨rfl,hf⟩:=he; cases hf
  | tup es =>
   rw [DIs] at he
   obtain ⟨b',ys,e',k1,k2⟩:=he
   cases e'
   obtain ⟨i2,r2,t2,_⟩:=I.tuple k1
   refine RcNeAt.tuples (show s.heap.IsTuple a i1.toArray from t1) (show s.heap.IsTuple b i2.toArray from t2) (by omega) (Zh9 I h2 k2 r1 r2 (by omega) (by omega)) _ _ _ _ ⟨.bl _,H,I,?_,q⟩
   show Value.bool _=Value.bool _
   rw [List.size_toArray,List.size_toArray,← r1.length,← r2.length,← h2.len,← k2.len,Zcx]
   simp only [if_true]
   rw [deq]
  | lst es =>
   rw [DIs] at he
   obtain ⟨b',ys,e',k1,k2⟩:=he
   cases e'
   obtain ⟨i2,r2,t2,_⟩:=I.list k1
   refine RcNeAt.tuple_list (show s.heap.IsTuple a _ from t1) t2.isList (by omega) _ _ _ _ ⟨.bl _,H,I,?_,q⟩
   show Value.bool _=Value.bool _
   simp only [if_true]
   rw [deq] <;> first | rfl | (intros; simp_all)
 | lst ds =>
  rw [dep] at hn
  rw [DIs] at hd
  obtain ⟨a',xs,e',h1,h2⟩:=hd
  cases e'
  obtain ⟨i1,r1,t1,_⟩:=I.list h1
  cases e with
  | «at» p=>rw [DIs] at he; obtain ⟨rfl,hf⟩:=he; cases hf
  | tup es =>
   rw [DIs] at he
   obtain ⟨b',ys,e',k1,k2⟩:=he
   cases e'
   obtain ⟨i2,r2,t2,_⟩:=I.tuple k1
   refine RcNeAt.list_tuple t1.isList (show s.heap.IsTuple b _ from t2) (by omega) _ _ _ _ ⟨.bl _,H,I,?_,q⟩
   show Value.bool _=Value.bool _
   simp only [if_true]
   rw [deq] <;> first | rfl | (intros; simp_all)
  | lst es =>
   rw [DIs] at he
   obtain ⟨b',ys,e',k1,k2⟩:=he
   cases e'
   obtain ⟨i2,r2,t2,_⟩:=I.list k1
   have l1:=r1.length
   have l2:=r2.length
   have m1:=h2.len
   have m2:=k2.len
   by_cases hz:ds.len=es.len
   ·refine RcNeAt.lists t1.isList t2.isList (by simp; omega) (by omega) (Zh9 I h2 k2 r1 r2 (by omega) (by omega)) _ _ _ _ ⟨.bl _,H,I,?_,q⟩
    show Value.bool _=Value.bool _
    simp only [if_true]
    rw [deq,← Zcx,List.size_toArray,← l1,← m1,hz,Nat.min_self,beq_self_eq_true,Bool.and_true]
   ·refine RcNeAt.lists_lengths t1.isList t2.isList (by simp; omega) (by omega) _ _ _ _ ⟨.bl _,H,I,?_,q⟩
    show Value.bool _=Value.bool _
    have e0:(ds.len == es.len)=false:=by simpa using hz
    simp only [if_true]
    rw [deq,← Zcx,e0,Bool.and_false]; rfl
end
end L2
namespace L2
open PySem PySem.Spec PyProof.Rows
section
variable {X:Cx} {e st:Expr} {te ts:TE} {pos p2:Pos}
end
end L2
namespace L2
open PySem PySem.Spec PyProof.Rows
structure MkOk (P:Program) (w:World) (K:PySem.W.Frag) (mg:Str→Option Value) (base:Heap) (k:Nat) (x:Str) (C:Addr) (ps:List Str) (sp:Sp):Prop where
 ex:∃ (f:Addr) (fd:FuncData),Mk K C f∧FnOk P w K mg base CX0 k f fd ps sp∧mg x=some (.ref C)∧Binds K fd ps []
section
variable {X:Cx} {k j:Nat} {x m:Str} {C:Addr} {ps:List Str} {sp:Sp} {p pos apos:Pos} {e o:Expr} {es:List Expr} {t:TA} {ta:TE}
theorem pe_mk (D:MkOk X.prog X.w X.K X.mg X.base k x C ps sp) (hr:Room j X.A) (ha:PA X (e :: es) t) (hj:k+1≤j:=by decide) (hg:Gl X x:=by rfl) (hdb:(x == ("__debug__":Str))=false:=by decide)
  (he:starEach (e :: es) X.env=(false,eval e X.env) :: starEach es X.env:=by rfl) (hpl:(backTo pos (starEach es X.env)).any (·.1)=false:=by rfl):PE X (.Call (.Name x p) (e :: es) [] pos) (tMake C sp [] E0 t):=by
 obtain ⟨f,fd,M,F,hm,hb⟩:=D.ex
 exact pe_make M F (hr.mono hj) hg hm hb .nil pass0 ha hdb he hpl
end
section
variable {X:Cx} {K:PySem.W.Frag} {pos:Pos}
theorem pg_tupK {es:List Expr} {k:Nat} {t:TGs} {n:Nat} (hc:X.calm=true) (h:PGs X es t) (hK:X.K=K:=by rfl)
  (hn:(assignEach es X.env).length=n:=by rfl) (hst:(assignEach es X.env).findIdx? (·.1)=none:=by rfl):PG X (.Tuple es k pos) (gTup K n t):=by
 subst hK; exact Zdl hc h hn hst
end
end L2
namespace GB
open PySem L2
structure Rc where
 t:Int
 l:Int
 b:Int
 r:Int
 deriving DecidableEq
def key:List Int→Int
 | [a,b,c,d]=>((a * 13+b) * 13+c) * 13+d
 | _=>0
end GB
namespace L2
open PySem PySem.Spec PyProof.Rows
section
variable {prog:Program} {w:World} {A:Around} {E:Value→Shared→Prop} {h:Heap} {g:Array GenState} {d:Drawn} {t:Nat} {os:OsState}
 {nm qn:Str} {C N:Addr} {bs bm bmB:List Value} {hdct:Bool} {sn:List Str} {sub:List Value} {ab:Bool} {col:Option Bool} {dd:Option Addr} {k0 k1 k2 k3 k5:Option Value} {B newId initId:String}
end
end L2
namespace L2
open PySem PySem.Spec PyProof.Rows PySem.W PySem.Builtin PySem.Builtin.ObjectAttr
def vErr:List Value:=[.type "ValueError",.type "Exception",.type "BaseException",.type "object"]
def excMro:List Value→Bool
 | []=>false
 | x :: r=>(match x with | .ref _=>excMro r | _=>false) || (x :: r == vErr)
def excIn (K:Frag) (C:Addr):Bool:=(clsIn K C).any fun cd=>excMro cd.mro
section
variable {prog:Program} {w:World} {A:Around} {E:Value→Shared→Prop} {R:Result→Shared→Prop} {s:Shared} {K:Frag} {x C:Addr} {ox:Obj} {od:Option Obj} {name:Str} {tk:Tok} {v:Value}
end
end L2
namespace L2
open PySem PySem.Spec PyProof.Rows PySem.W PySem.Builtin PySem.Builtin.ObjectAttr
section
variable {prog:Program} {w:World} {A:Around} {E:Value→Shared→Prop} {R:Result→Shared→Prop} {s:Shared} {K:Frag} {x C:Addr} {ox:Obj} {od:Option Obj} {name:Str} {tk:Tok} {v:Value} {expr:Bool}
end
end L2
namespace L2
open PySem PySem.Spec PyProof.Rows PySem.W
section
variable {P:Program} {w:World} {H:Hp} {h:Heap} {x C dx:Addr} {fs:List (Str × V)}
end
section
variable {X:Cx} {pins:List (Addr × Obj)} {σ:St} {H:Hp} {s:Shared} {a C dx:Addr} {fs:List (Str × V)} {f:Str} {v:V} {A:Around} {E:Value→Shared→Prop}
end
section
variable {X:Cx}
end
section
variable {X:Cx} {o e value:Expr} {f:Str} {pos pos':Pos} {ta tv:TE}
end
end L2
namespace L2
open PySem PySem.Spec PyProof.Rows PySem.W
section
variable {X:Cx} {CX:CXT} {k j:Nat} {f C:Addr} {fd:FuncData} {ps names:List Str} {sp:Sp} {E:XK} {x m:Str} {p pos apos:Pos} {e o:Expr} {es:List Expr} {ta:TE} {t:TA}
end
end L2
namespace L2
open PySem PySem.Spec PyProof.Rows PySem.W
section
variable {M:Model} {A:Around} {E:Value→Shared→Prop} {s:Shared} {base:Heap} {env:Env} {outer:List Env} {L e:Addr} {cls:Value} {d:Option Addr} {vs:Array Value} {sl:Array (Option Value)} {Q:Unit→Shared→Prop}
end
end L2
namespace L2
open PySem PySem.Spec PyProof.Rows PySem.W
section
variable {prog:Program} {w:World} {A:Around} {E:Value→Shared→Prop} {s:Shared} {K:Frag} {C fI e:Addr} {d:Option Addr} {env:Env}
end
end L2
namespace L2
open PySem PySem.Spec PyProof.Rows PySem.W
section
variable {X:Cx} {pins:List (Addr × Obj)} {σ:St} {H:Hp} {s:Shared} {x C T:Addr} {d:Option Addr} {h1 h2:Heap} {fl:Value} {tt:List Addr}
end
end L2
namespace L2
open PySem PySem.Spec PyProof.Rows PySem.W
section
variable {P:Program} {w:World} {K:PySem.W.Frag} {mg:Str→Option Value} {base:Heap} {N:List Str} {qual:Str} {scope:Scope} {f:Addr} {cd:Value} {A:Around} {outer:List Env} {s:Shared} {H:Hp} {E E₁:XK}
end
section
variable {X:Cx} {E E₁:XK}
end
section
variable {X:Cx} {k j:Nat} {x:Str} {C:Addr} {ps names:List Str} {sp:Sp} {p pos cpos:Pos} {e:Expr} {es:List Expr} {t:TA} {E E₁:XK}
end
end L2
namespace L2
open PySem PySem.Spec PyProof.Rows PySem.W
section
variable {X:Cx} {pins:List (Addr × Obj)} {σ:St} {H:Hp} {s:Shared}
end
end L2
namespace L2
open PySem PySem.Spec PyProof.Rows PySem.W
section
variable {X:Cx} {k j:Nat} {x:Str} {C:Addr} {ps:List Str} {sp:Sp} {p pos:Pos} {e:Expr} {es:List Expr} {t:TA} {E:XK}
end
section
variable {X:Cx} {i im:Nat} {n m g:Str} {G:Addr} {value:Expr} {b₀:Stmt} {suite:List Stmt} {np apos gp hpos pos:Pos} {te:XK→TE} {ts:TS}
end
end L2
namespace L2
open PySem PySem.Spec PyProof.Rows
def tCompF (wi:TI) (g:TG) (tc:TT) (te:TE) (fr:List (Option Nat)):TE:=fun σ H Q=>wi σ H fun J H1=>∀ acc,H1 acc=none→∃ W:Nat→Nat→St→Hp→Prop,(∃ m,W 0 m (stC fr σ) (upd H1 acc (.lst [])))∧∀ i m σ1 H2,W i m σ1 H2 →
 (J.stop i H2∧Q (.ref acc) H2)∨(J.go i H2∧∀ x H3,J.yld i H2 x H3→g x σ1 H3 fun σ4 H4=>tc σ4 H4 fun b Hb=>match b with
  | true=>te σ4 Hb fun v H5=>∃ xs,H5 acc=some (.lst xs)∧xs.length < sizeLine∧∃ m',m' < m∧W (i+1) m' σ4 (upd H5 acc (.lst (xs++[v])))
  | false=>∃ m',m' < m∧W (i+1) m' σ4 Hb)
section
variable {prog:Program} {w:World} {A:Around} {R:Result→Shared→Prop} {s:Shared}
theorem Zic {elt target iter cnd:Expr} {scope:Scope} {pos:Pos} {it acc:Value} {env:Env} (I:Nat→Shared→Prop)
    (turn:∀ n s,I n s→wpAny (model prog w) A (pyNext it) (fun r s₁=>match r with
      | none=>R (.ok .next) s₁
      | some v=>wpAny (model prog w) A (letOwnedTupleGo target it v) (fun _ s₁=>wpAny (model prog w) A (assign target env v) (fun _ s₂ =>
          wpAny (model prog w) A (forIn [cnd] true fun c r=>if r=true then do let ok ← isTrue c env (eval c env); pure (ForInStep.yield ok) else pure (ForInStep.yield r)) (fun ok s₃ =>
            if ok=true then wpAny (model prog w) A (eval elt env) (fun x s₄=>wpAny (model prog w) A (call (.builtin "list.append") [acc,x]) (fun _ s₅=>∃ m,m < n∧I m s₅) (notedBy (model prog w) A env fun e s'=>R (.error e) s') s₄)
              (notedBy (model prog w) A env fun e s'=>R (.error e) s') s₃
            else ∃ m,m < n∧I m s₃) (notedBy (model prog w) A env fun e s'=>R (.error e) s') s₂)
          (notedBy (model prog w) A env fun e s'=>R (.error e) s') s₁) (notedBy (model prog w) A env fun e s'=>R (.error e) s') s₁) (notedBy (model prog w) A env fun e s'=>R (.error e) s') s)
    (n:Nat) (h:I n s) :
    codeAny (model prog w) A (.compLoop (.ListComp elt [⟨target,iter,[cnd],0⟩] scope pos) 0 it acc env) R s:=by
  refine codeAny_loop rfl I (fun n s hI=>?_) n h
  show wpAny _ _ ((compTurn (.ListComp elt [⟨target,iter,[cnd],0⟩] scope pos) 0 it acc env).onRaise (fun x=>do noteFrame x env; theTreesLotGoes x)) _ _ s
  refine wpAny_noted ?_
  rw [compTurn_list]
  refine wpAny_bind (wpAny_standAt (wpAny_bind (wpAny_mono (turn n s hI) (fun r s₁ h₁=>?_) fun _ _ h'=>h')))
  cases r with
  | none=>exact wpAny_pure h₁
  | some v =>
    refine wpAny_bind (wpAny_mono h₁ (fun _ s₁ h₁=>?_) fun _ _ h'=>h')
    refine wpAny_bind (wpAny_mono h₁ (fun _ s₂ h₂=>wpAny_bind (wpAny_mono h₂ (fun ok s₃ h₃=>?_) fun _ _ h'=>h')) fun _ _ h'=>h')
    cases ok with
    | false=>exact wpAny_pure ⟨rfl,h₃⟩
    | true=>exact wpAny_bind (wpAny_bind (wpAny_mono h₃ (fun x s₄ h₄=>wpAny_bind (wpAny_mono h₄ (fun _ s₅ h₅=>wpAny_pure (wpAny_pure ⟨rfl,h₅⟩)) fun _ _ h'=>h')) fun _ _ h'=>h'))
end
section
variable {X:Cx} {elt tg iter:Expr} {scope:Scope} {pos:Pos} {wi:TI} {g:TG} {te:TE} {N:List Str} {fr:List (Option Nat)}
variable {cnd:Expr} {tc:TT}
theorem comp_coreF {pins:List (Addr × Obj)} {σ:St} {H:Hp} {s:Shared} {Q:VK} {cl:List (Str × Addr)} {R:Value→Addr→Result→Shared→Prop} (hc:X.calm=true) (I:Inv X pins σ H s) (hi:PI X tg iter wi)
  (hg:∀ cl C s H ex,PG (compCx X scope cl N C s H ex) tg g) (hcn:∀ cl C s H ex,PT (compCx X scope cl N C s H ex) cnd tc) (he:∀ cl C s H ex,PE (compCx X scope cl N C s H ex) elt te) (ck:Zgh X.env.scope X.N scope N fr)
  (c1:∀ x c,cl.lookup x=some c→X.env.cells.lookup x=some c) (c2:∀ x,(x,NameKind.free)∈scope.names→∃ c,cl.lookup x=some c)
  (h:tCompF wi g tc te fr σ H Q)
  (hR:∀ acc C s' H' m,s'.heap.Ns C m→FpOk X pins H' C→Inv X pins σ H' s'→Q (.ref acc) H'→R (.ref acc) C (.ok .next) s') :
  wpAny (model X.prog X.w) X.A (eval iter X.env) (fun x s₁=>wpAny (model X.prog X.w) X.A (pyIter x) (fun it s₂=>wpAny (model X.prog X.w) X.A (newList []) (fun acc s₃ =>
   wpAny (model X.prog X.w) X.A (newFunctionEnv scope X.env.globals cl [] X.env.qual none .none (some X.env)) (fun cenv s₄ =>
    codeAny (model X.prog X.w) X.A (.compStart (.ListComp elt [⟨tg,iter,[cnd],0⟩] scope pos) 0 it acc { cenv with scope:=relabel scope X.env }) (R acc cenv.locals) s₄) X.xe s₃) X.xe s₂) X.xe s₁) X.xe s:=by
 refine thn (hi pins s σ H _ I h) fun v s1 h1=>thn h1 fun itv s2 h2=>?_
 obtain ⟨it,fp,tn,J,H2,e,I2,T,st2,f2,q2⟩:=h2
 subst e
 refine wpAny_newObj_type (wpAny_newFunctionEnv ck.nocell (by intro y hy; simp at hy) (fun h₁ hns₁ hsb₁=>?_) ck.kind)
 dsimp only at hns₁ hsb₁ ⊢
 have I3:Inv X pins σ (upd H2 s2.heap.objs.size (.lst [])) { s2 with heap:=s2.heap.push { cls:=.type "list",dict:=none,data:=.seq ([]:List Value).toArray } }:=I2.lnew (t':=s2.toks) (its:=[]) .nil (Nat.zero_le _)
 have acc0:H2 s2.heap.objs.size=none:=I2.fresh
 obtain ⟨W,⟨m0,w0⟩,turn⟩:=q2 s2.heap.objs.size acc0
 generalize hH3:s2.heap.push { cls:=.type "list",dict:=none,data:=.seq ([]:List Value).toArray }=h3 at hns₁ hsb₁ I3 ⊢
 have hz3:h3.objs.size=s2.heap.objs.size+1:=by rw [← hH3,Heap.size_push]
 have k23:∀ b o,s2.heap.get? b=some o→h3.get? b=some o:=fun b o e=>by rw [← hH3]; exact Heap.get?_push_of_some _ e
 have k34:∀ b o,h3.get? b=some o→h₁.get? b=some o:=fun b o e=>hsb₁.extBut b o (Nat.ne_of_lt (Heap.lt_size e)) (Heap.get?_push_of_some _ e)
 have fpo:∀ b∈fp,∃ o,s2.heap.get? b=some o∧∀ v,o.data≠.cell v:=T.obj 0 _ st2
 have hex:∀ b∈fp,FpOk X pins (upd H2 s2.heap.objs.size (.lst [])) b∧b < h3.objs.size:=fun b hb=>by
  obtain ⟨o,eo,_⟩:=fpo b hb
  have lt:=Heap.lt_size eo
  obtain ⟨f0,fr'⟩:=f2 b hb
  exact ⟨⟨by rw [Zaj (Nat.ne_of_lt lt)]; exact f0,fr'⟩,by rw [hz3]; exact Nat.lt_succ_of_lt lt⟩
 have I4:Inv (compCx X scope cl N h3.objs.size { s2 with heap:=h3 } (upd H2 s2.heap.objs.size (.lst [])) fp) [] (stC fr σ) (upd H2 s2.heap.objs.size (.lst [])) { s2 with heap:=h₁,toks:=s2.toks+([]:List (Str × Value)).length } :=
  Zha I3 ck c1 c2 hex (Nat.le_refl _) hns₁ k34 rfl rfl
 have stat:∀ {H':Hp},(∀ b∈fp,H' b=none)→∀ b∈fp,FpOk (compCx X scope cl N h3.objs.size { s2 with heap:=h3 } (upd H2 s2.heap.objs.size (.lst [])) fp) [] H' b:=fun hn b hb =>
  ⟨hn b hb,(I4.ok.exf b hb).1,I4.ok.exfs b hb,.inl hb,(I4.ok.exf b hb).2,fun p hp=>by simp at hp⟩
 have stn:∀ i h h',tn i h→(∀ b o,h.get? b=some o→h'.get? b=some o)→tn i h':=fun i h h' st kk=>T.keep i h h' st fun b _ o e=>kk b o e
 have loop:codeAny (model X.prog X.w) X.A (.compLoop (.ListComp elt [⟨tg,iter,[cnd],0⟩] scope pos) 0 (.ref it) (.ref s2.heap.objs.size) (compEnvC scope cl h3.objs.size X.env)) (R (.ref s2.heap.objs.size) h3.objs.size)
   { s2 with heap:=h₁,toks:=s2.toks+([]:List (Str × Value)).length }:=by
  refine Zic (fun n s'=>∃ i σ' H',Inv (compCx X scope cl N h3.objs.size { s2 with heap:=h3 } (upd H2 s2.heap.objs.size (.lst [])) fp) [] σ' H' s'∧tn i s'.heap∧(∀ b∈fp,H' b=none)∧W i n σ' H') ?_ m0
   ⟨0,_,_,I4,stn _ _ _ st2 fun b o e=>k34 b o (k23 b o e),fun b hb=>(hex b hb).1.1,w0⟩
  rintro n s3 ⟨i,σ3,H3,J3,st3,fr3,w3⟩
  rcases turn i n σ3 H3 w3 with ⟨stop,qn⟩ | ⟨go,step⟩
  ·refine Zcl (thn (T.done (compCx X scope cl N h3.objs.size { s2 with heap:=h3 } (upd H2 s2.heap.objs.size (.lst [])) fp) rfl rfl rfl hc i [] s3 σ3 H3 (fun _ _=>False) J3 (stat fr3) st3 stop) fun r s4 ⟨hr,J4⟩=>?_)
   subst hr
   obtain ⟨mc,hmc,_⟩:=J4.loc
   have I5:Inv X pins σ H3 s4:=I3.call' (ch:=fp) J4.os J4.base J4.hok J4.bare fun b hb=>⟨(hex b hb).1.2.2.2.1,(hex b hb).1.2.1,(hex b hb).1.2.2.2.2.1,(hex b hb).1.2.2.2.2.2⟩
   exact hR _ _ s4 H3 mc hmc (I3.fpOk (Nat.le_refl _) J4.free) I5 qn
  ·refine Zcl (thn (T.item (compCx X scope cl N h3.objs.size { s2 with heap:=h3 } (upd H2 s2.heap.objs.size (.lst [])) fp) rfl rfl rfl hc i [] s3 σ3 H3 (fun _ _=>False) J3 (stat fr3) st3 go) fun r s4 ⟨u,hr,h4⟩=>?_)
   subst hr
   refine Zcl (thn h4 fun _ s5 ⟨x,H5,J5,r5,y5,st5,fr5⟩=>?_)
   have J5':=J5.pinned (stat fr5) (T.obj _ _ st5)
   refine Zcl (thn (hg _ _ _ _ _ _ s5 σ3 H5 x u _ J5' r5 (step x H5 y5)) fun _ s6 ⟨σ6,H6,J6,q6⟩=>?_)
   refine wpAny_tests_one (Zcl (thn (hcn _ _ _ _ _ _ s6 σ6 H6 _ J6 q6) fun b sb ⟨Hb,Jb,qb⟩=>?_))
   cases b with
   | false =>
    obtain ⟨m',hm',w7⟩:=qb
    refine ite_ff ⟨m',hm',i+1,σ6,_,Jb.unpinned,T.keep _ _ _ st5 fun b hb o e=>(Jb.pin (b,o) (List.mem_append_right _ (List.mem_append_right _ (Zb2 hb e)))).1,fun b hb=>?_,w7⟩
    obtain ⟨o,e,d⟩:=T.obj _ _ st5 b hb
    exact (Jb.pin (b,o) (List.mem_append_right _ (List.mem_append_right _ (Zb2 hb e)))).2.1
   | true =>
    refine ite_tt ?_
    refine Zcl (thn (he _ _ _ _ _ _ sb σ6 Hb _ Jb qb) fun y s7 ⟨v7,H7,J7,r7,xs,hx,hz,m',hm',w7⟩=>?_)
    refine Zcl (thn (Zbn _ s7 σ6 H7 (.ref s2.heap.objs.size) [v7] (.ref s2.heap.objs.size) [y] (fun v H8=>H8=upd H7 s2.heap.objs.size (.lst (xs++[v7]))) J7 rfl (.cons r7 .nil) ⟨_,xs,v7,rfl,rfl,hx,hz,rfl⟩) fun _ s8 ⟨_,H8,J8,_,e8⟩=>?_)
    subst e8
    refine ⟨m',hm',i+1,σ6,_,J8.unpinned,T.keep _ _ _ st5 fun b hb o e=>(J8.pin (b,o) (List.mem_append_right _ (List.mem_append_right _ (Zb2 hb e)))).1,fun b hb=>?_,w7⟩
    obtain ⟨o,e,d⟩:=T.obj _ _ st5 b hb
    exact (J8.pin (b,o) (List.mem_append_right _ (List.mem_append_right _ (Zb2 hb e)))).2.1
 exact codeAny_compStart_list loop (T.self _ 0 _ _ _ (stn _ _ _ st2 fun b o e=>k34 b o (k23 b o e)) loop)
theorem pe_compF (hc:X.calm=true) (hi:PI X tg iter wi) (hg:∀ cl C s H ex,PG (compCx X scope cl N C s H ex) tg g) (hcn:∀ cl C s H ex,PT (compCx X scope cl N C s H ex) cnd tc) (he:∀ cl C s H ex,PE (compCx X scope cl N C s H ex) elt te)
  (hk:Zgb X.env.scope X.N scope N fr=true:=by rfl) (hs:∀ x,foldedSetIterable iter X.env x=pure x:=by intro _; rfl):PE X (.ListComp elt [⟨tg,iter,[cnd],0⟩] scope pos) (tCompF wi g tc te fr):=by
 intro pins s σ H Q I h
 have ck:=Zex hk
 obtain ⟨cl,e1,c1,c2⟩:=Zk1 I.ok ck
 rw [eval_ListComp]
 refine wpAny_comprehension_free (use:=none) (Q:=EP X pins σ Q) rfl hs e1 ck.kind ck.loc (comp_coreF (R:=fun acc C=>compPost (model X.prog X.w) X.A X.xe none (EP X pins σ Q) acc C) hc I hi hg hcn he ck c1 c2 h fun acc C s' H' m hn f I' q=>?_)
 obtain ⟨f0,f1,f2,f3,f4,f5⟩:=f
 exact ⟨m,hn,fun h' hs'=>⟨.ref acc,H',I'.turned (t':=s'.toks) (fun b o hb e=>hs'.extBut b o hb e) f0 f1 f3 f4 f5,rfl,q⟩⟩
end
end L2
namespace L2
open PySem PySem.Spec PyProof.Rows
section
variable {X:Cx} {a b c d:Expr} {ta tb tc td:TE} {pos:Pos}
theorem ix_tupK {K:PySem.W.Frag} (hK:X.K=K:=by rfl):IxR X (rIxT K):=by subst hK; exact Zal
theorem ix_listK {K:PySem.W.Frag} (hK:X.K=K:=by rfl):IxR X (rIxL K):=by subst hK; exact Za9
end
def fW (acc:Addr) (n:Nat) (Pv:Nat→List V→St→Hp→Prop) (i m:Nat) (σ:St) (H:Hp):Prop:=i≤n∧m=n - i∧∃ xs,xs.length≤i∧H acc=some (.lst xs)∧Pv i xs σ H
def fNx (acc:Addr) (n:Nat) (Pv:Nat→List V→St→Hp→Prop) (i:Nat) (σ:St) (v:V) (H:Hp):Prop:=∃ xs,H acc=some (.lst xs)∧xs.length < sizeLine∧∃ m',m' < n - i∧fW acc n Pv (i+1) m' σ (upd H acc (.lst (xs++[v])))
def fSk (acc:Addr) (n:Nat) (Pv:Nat→List V→St→Hp→Prop) (i:Nat) (σ:St) (H:Hp):Prop:=∃ m',m' < n - i∧fW acc n Pv (i+1) m' σ H
theorem fNx.mk {acc:Addr} {n:Nat} {Pv:Nat→List V→St→Hp→Prop} {i:Nat} {σ:St} {v:V} {H:Hp} {xs:List V} (hn:n≤sizeLine) (hi:i < n) (hl:xs.length≤i) (ha:H acc=some (.lst xs)) (hp:Pv (i+1) (xs++[v]) σ (upd H acc (.lst (xs++[v])))) :
  fNx acc n Pv i σ v H:=⟨xs,ha,by omega,n - (i+1),by omega,hi,rfl,xs++[v],by rw [List.length_append,List.length_singleton]; omega,Zab,hp⟩
theorem fSk.mk {acc:Addr} {n:Nat} {Pv:Nat→List V→St→Hp→Prop} {i:Nat} {σ:St} {H:Hp} {xs:List V} (hi:i < n) (hl:xs.length≤i) (ha:H acc=some (.lst xs)) (hp:Pv (i+1) xs σ H):fSk acc n Pv i σ H:=⟨n - (i+1),by omega,hi,rfl,xs,by omega,ha,hp⟩
theorem comp_listF {K:PySem.W.Frag} {a:Addr} {ys:List V} {g:TG} {tc:TT} {te:TE} {σ:St} {H1:Hp} {acc:Addr} {Qr:Hp→Prop} (Pv:Nat→List V→St→Hp→Prop) (h0:Pv 0 [] σ (upd H1 acc (.lst [])))
  (hq:∀ i xs σ H,i≤ys.length→H acc=some (.lst xs)→Pv i xs σ H→SqL K H a ys)
  (hs:∀ i x xs σ H,ys[i]?=some x→i < ys.length→xs.length≤i→H acc=some (.lst xs)→Pv i xs σ H→g x σ H fun σ2 H2=>tc σ2 H2 fun b Hb=>match b with
   | true=>te σ2 Hb fun v H3=>fNx acc ys.length Pv i σ2 v H3
   | false=>fSk acc ys.length Pv i σ2 Hb)
  (hd:∀ xs σ H,xs.length≤ys.length→H acc=some (.lst xs)→Pv ys.length xs σ H→Qr H) :
  ∃ W:Nat→Nat→St→Hp→Prop,(∃ m,W 0 m σ (upd H1 acc (.lst [])))∧∀ i m σ1 H2,W i m σ1 H2 →
   ((Itl K a).stop i H2∧Qr H2)∨((Itl K a).go i H2∧∀ x H3,(Itl K a).yld i H2 x H3→g x σ1 H3 fun σ4 H4=>tc σ4 H4 fun b Hb=>match b with
    | true=>te σ4 Hb fun v H5=>∃ xs,H5 acc=some (.lst xs)∧xs.length < sizeLine∧∃ m',m' < m∧W (i+1) m' σ4 (upd H5 acc (.lst (xs++[v])))
    | false=>∃ m',m' < m∧W (i+1) m' σ4 Hb):=by
 refine ⟨fW acc ys.length Pv,⟨ys.length,Nat.zero_le _,rfl,[],Nat.le_refl _,Zab,h0⟩,?_⟩
 rintro i m σ1 H2 ⟨hi,rfl,xs,hl,ha,hp⟩
 have hsq:=hq i xs σ1 H2 hi ha hp
 rcases Nat.lt_or_ge i ys.length with h | h
 ·refine .inr ⟨⟨ys,ys[i],hsq,List.getElem?_eq_getElem h⟩,?_⟩
  rintro x H3 ⟨rfl,hx⟩
  exact hs i x xs σ1 H3 (hx ys hsq) h hl ha hp
 ·have e:i=ys.length:=Nat.le_antisymm hi h
  subst e
  exact .inl ⟨⟨ys,hsq,Nat.le_refl _⟩,hd xs σ1 H2 hl ha hp⟩
end L2
namespace L2
open PySem PySem.Spec PyProof.Rows PySem.W
section
variable {X:Cx}
end
end L2
namespace L2
open PySem PySem.Spec PyProof.Rows
theorem Paired.get {α β:Type} {F:α→β→Prop}:∀ {l₁:List α} {l₂:List β},Paired F l₁ l₂→∀ {i:Nat} {a:α},l₁[i]?=some a→∃ b,l₂[i]?=some b∧F a b
 | _,_,.nil,i,a,h=>by simp at h
 | _,_,.cons f t,0,a,h=>by
  simp only [List.getElem?_cons_zero,Option.some.injEq] at h
  subst h
  exact ⟨_,rfl,f⟩
 | _,_,.cons f t,i+1,a,h=>by
  simp only [List.getElem?_cons_succ] at h ⊢
  exact Paired.get t h
section
variable {X:Cx}
end
section
variable {X:Cx}
end
section
variable {prog:Program} {w:World} {A:Around} {E:Value→Shared→Prop} {s:Shared}
end
section
variable {X:Cx}
end
section
variable {prog:Program} {w:World} {A:Around} {E:Value→Shared→Prop} {s:Shared} {R:Result→Shared→Prop} {I:Addr} {fp wr:List Addr} {n:Nat} {P:Nat→Value→Prop} {St:Nat→Heap→Prop}
end
section
variable {X:Cx}
end
section
variable {X:Cx} {a:Expr} {ta:TE}
end
end L2
namespace L2
open PySem PySem.Spec PyProof.Rows
section
variable {X:Cx}
end
end L2
namespace L2
open PySem PySem.Spec PyProof.Rows
def tFnv (mg:Str→Option Value) (x:Str) (tv:TE) (sp:Sp) (t:TA):TE:=fun σ H Q=>tv σ H fun v H1=>(∃ f,v=.ref f∧mg x=some (.ref f))∧tCall sp [] E0 t σ H1 Q
section
variable {X:Cx} {k j:Nat} {x y:Str} {ps:List Str} {sp:Sp} {p pos:Pos} {e:Expr} {es:List Expr} {tv:TE} {t:TA}
theorem pe_fnv (D:DefOk X.prog X.w X.K X.mg X.base k x ps sp) (hr:Room j X.A) (hv:PE X (.Name y p) tv) (ha:PA X (e :: es) t) (hj:k≤j:=by decide)
  (he:starEach (e :: es) X.env=(false,eval e X.env) :: starEach es X.env:=by rfl) (hpl:(backTo pos (starEach es X.env)).any (·.1)=false:=by rfl):PE X (.Call (.Name y p) (e :: es) [] pos) (tFnv X.mg x tv sp t):=by
 intro pins s σ H Q I h
 obtain ⟨f,fd,F,hm,hk,hb⟩:=D.ex
 refine wpAny_Call_Name_kw (thn (hv pins s σ H _ I h) fun u s1 ⟨v,H1,I1,r1,⟨f',e1,e2⟩,q1⟩=>?_)
 subst e1
 cases r1
 rw [hm] at e2
 cases e2
 refine PySem.W.callWith_K (h₀:=X.base) I1.ok.mod.kin hk (thn (ha pos pins s1 σ H1 _ I1 q1) fun us s2 ⟨vs,H2,I2,r,q⟩=>⟨I2.kIn,?_⟩) he hpl
 exact run_fn F (hr.mono hj) hb .nil pass0 I2 r q
end
section
variable {prog:Program} {w:World} {A:Around} {E:Value→Shared→Prop} {s:Shared} {it d v:Addr} {i n ep:Nat} {od:Obj} {es:Array DictEntry} {k0 v0:Value}
theorem items_made {Q:Value→Shared→Prop} (hs:(d == sysModules)=false) (hT:s.TypeIs (.ref d) "dict")
  (fin:Q (.ref s.heap.objs.size) { s with heap:=s.heap.push { cls:=.type "dict_items",data:=.fields #[.ref d] } }):wpAny (model prog w) A (call (.builtin "dict.items") [.ref d]) Q E s:=by
 refine wpAny_call_entry PySem.F.slot_dict_items hT PySem.F.entry_dict_items ?_ (PySem.F.args_dict_items_1 _)
 unfold Builtin.«dict.items» Builtin.Dict.noArgs
 refine wpAny_bind (wpAny_bind (wpAny_notOrdered_dict hT ?_))
 show wpAny (model prog w) _ (pure d) _ _ s
 refine wpAny_pure ?_
 unfold Builtin.Dict.showsAll
 have no:¬ (d == sysModules)=true:=by rw [hs]; exact Bool.false_ne_true
 rw [if_neg no]
 exact wpAny_bind (wpAny_pure (wpAny_bind (wpAny_newObj_type (wpAny_pure ⟨_,rfl,fin⟩))))
theorem Zku {Q:Value→Shared→Prop} (hv:s.heap.IsItemsView v d) (hd:s.heap.get? d=some od) (dd:od.data=.dict es ep) (hn:es.size=n)
  (fin:Q (.ref s.heap.objs.size) { s with heap:=s.heap.push { cls:=.type "dict_itemiterator",data:=.fields #[.none,.bool false,.ref d,.int 0 0,.int n 0,.int ep 0,.none,.none] } }) :
  wpAny (model prog w) A (pyIter (.ref v)) Q E s:=by
 obtain ⟨ov,g1,g2,g3⟩:=id hv
 refine wpAny_pyIter_slot hv.typeIs PySem.F.slot_dict_items_iter (wpAny_call_entry PySem.F.slot_dict_items_iter hv.typeIs PySem.F.entry_dict_items_iter ?_ (PySem.F.args_dict_items_iter_1 _))
 unfold Builtin.«dict_items.__iter__» Builtin.Dict_items.dictOf Builtin.Dict_items.newIterator
 refine wpAny_bind (wpAny_pure (wpAny_bind (wpAny_bind (wpAny_field g1 g3 (x:=.ref d) rfl (wpAny_pure ?_)))))
 refine wpAny_bind (wpAny_bind (wpAny_dictEntries hd dd (wpAny_bind (wpAny_dictEpoch hd dd ?_))))
 have own:Builtin.Dict_items.ownsTuple "dict_itemiterator"=true:=by decide
 simp only [own,if_true]
 refine wpAny_newObj_type (wpAny_pure ⟨_,rfl,"dict_itemiterator",_,⟨_,Heap.get?_push_size _ rfl,rfl⟩,PySem.F.slot_dict_itemiterator_next.lookup,?_⟩) ?_
 ·subst hn
  simpa [rawInt,Builtin.Dict_items.ownedTupleFields] using fin
 ·simp only [sizeOk,Builtin.Dict_items.ownedTupleFields,List.size_toArray,List.length_append,List.length_cons,List.length_nil,sizeLine_eq]
  omega
theorem next_pair {e:DictEntry} {Q:Option Value→Shared→Prop} (g:IsItemIter s.heap it d i n ep k0 v0) (hd:s.heap.get? d=some od) (dd:od.data=.dict es ep) (hn:es.size=n) (he:es[i]?=some e)
  (fin:∀ h',IsItemIterOut h' it d (i+1) n ep e.key e.val s.heap.objs.size→h'.get? s.heap.objs.size=some { cls:=.type "tuple",data:=.seq #[e.key,e.val] } →
   (∀ b o,b≠it→s.heap.get? b=some o→h'.get? b=some o)→Q (some (.ref s.heap.objs.size)) { s with heap:=h' }):wpAny (model prog w) A (pyNext (.ref it)) Q E s:=by
 obtain ⟨hp,gs,dr,tk,os⟩:=s
 have ty:Shared.TypeIs ⟨hp,gs,dr,tk,os⟩ (.ref it) "dict_itemiterator":=⟨_,g,rfl⟩
 have lt:=(Array.getElem?_eq_some_iff.mp he).1
 unfold pyNext
 refine wpAny_bind (wpAny_attempt (wpAny_callSpecial?_slot (name:=Str.ofString "__next__") ty PySem.F.slot_dict_itemiterator_next (wpAny_call_entry PySem.F.slot_dict_itemiterator_next ty PySem.F.entry_dict_itemiterator_next ?_ (PySem.F.args_dict_itemiterator_next_1 _))))
 refine wpAny_bind (wpAny_pure (wpAny_bind (wpAny_bind ?_)))
 first | refine wpAny_bind (wpAny_typeNameOfWhole_itemiter ty (wpAny_pure ?_)) | refine wpAny_bind (wpAny_typeNameOf_itemiter ty (wpAny_pure ?_))
 refine wpAny_bind (wpAny_fieldsOf g rfl ?_)
 have own:Builtin.Dict_items.ownsTuple "dict_itemiterator"=true:=by decide
 have nn:¬ ((Value.ref d == Value.none)=true):=Bool.false_ne_true
 simp only [own,if_true]
 show wpAny (model prog w) _ (if (Value.ref d == Value.none)=true then _ else _) _ _ _
 rw [if_neg nn]
 refine wpAny_bind (wpAny_pure (wpAny_bind (wpAny_dictEntries hd dd ?_)))
 rw [if_neg (by rw [hn]; simp)]
 refine wpAny_bind (wpAny_pure (wpAny_bind (wpAny_dictEpoch hd dd ?_)))
 rw [if_neg (by simp)]
 refine wpAny_pure ?_
 simp only [show ¬ ((i:Int) < 0) from by omega,if_false,Int.toNat_natCast,he]
 refine wpAny_bind ?_
 first | refine wpAny_bind (wpAny_typeNameOfWhole_itemiter ty (wpAny_pure ?_)) | refine wpAny_bind (wpAny_typeNameOf_itemiter ty (wpAny_pure ?_))
 refine wpAny_bind (wpAny_isOneOf_itemiter ty ?_)
 show wpAny (model prog w) _ (setField (.ref it) 3 (rawInt ((i:Int)+1)) >>= _) _ _ ⟨hp,gs,dr,tk,os⟩
 refine wpAny_bind (wpAny_setField_rec g (by simp) fun h1 g1 b1=>?_)
 replace b1:Heap.SameBut it hp h1:=b1
 replace g1:IsItemIter h1 it d (i+1) n ep k0 v0:=by
  have z:((i+1:Nat):Int)=(i:Int)+1:=by omega
  unfold IsItemIter; rw [z]; simpa [rawInt] using g1
 have ty1:Shared.TypeIs ⟨h1,gs,dr,tk,os⟩ (.ref it) "dict_itemiterator":=⟨_,g1,rfl⟩
 refine wpAny_bind (wpAny_holding (wpAny_bind (wpAny_isOneOf_itemiter ty1 (wpAny_bind (wpAny_isOneOf_itemiter ty1 ?_)))))
 show wpAny (model prog w) _ (Builtin.Dict_items.pairFromOwner (.ref it) 6 e.key e.val) _ _ ⟨h1,gs,dr,tk,os⟩
 unfold Builtin.Dict_items.pairFromOwner Builtin.Dict_items.ownedTupleIsFree
 refine wpAny_bind (wpAny_newTuple ?_)
 have z1:h1.objs.size=hp.objs.size:=b1.1
 have il:it < hp.objs.size:=Heap.lt_size g
 obtain ⟨h2,e2⟩:∃ h2,h2=h1.push { cls:=.type "tuple",data:=.seq #[e.key,e.val] }:=⟨_,rfl⟩
 have g2:IsItemIter h2 it d (i+1) n ep k0 v0:=by rw [e2]; exact Heap.get?_push_of_some _ g1
 have t2:h2.get? hp.objs.size=some { cls:=.type "tuple",data:=.seq #[e.key,e.val] }:=by rw [e2,← z1]; exact Heap.get?_push_size _ rfl
 have k2:∀ b o,b≠it→hp.get? b=some o→h2.get? b=some o:=fun b o nb q=>by rw [e2]; exact Heap.get?_push_of_some _ (b1.extBut b o nb q)
 show wpAny (model prog w) _ _ _ _ ⟨h1.push { cls:=.type "tuple",data:=.seq #[e.key,e.val] },gs,dr,tk,os⟩
 rw [z1,← e2]
 clear e2 g1 b1 ty1 z1
 refine wpAny_bind (wpAny_bind (wpAny_field g2 rfl (x:=.none) rfl (wpAny_pure ?_)))
 simp only [if_true]
 refine wpAny_bind (wpAny_field g2 rfl (x:=k0) rfl (wpAny_bind (wpAny_field g2 rfl (x:=v0) rfl ?_)))
 refine wpAny_bind (wpAny_setField_rec g2 (by simp) fun h3 g3 b3=>?_)
 replace b3:Heap.SameBut it h2 h3:=b3
 replace g3:IsItemIter h3 it d (i+1) n ep e.key v0:=g3
 refine wpAny_bind (wpAny_setField_rec g3 (by simp) fun h4 g4 b4=>?_)
 replace b4:Heap.SameBut it h3 h4:=b4
 replace g4:IsItemIter h4 it d (i+1) n ep e.key e.val:=g4
 refine wpAny_bind (wpAny_setField_rec g4 (by simp) fun h5 g5 b5=>?_)
 replace b5:Heap.SameBut it h4 h5:=b5
 replace g5:IsItemIterOut h5 it d (i+1) n ep e.key e.val hp.objs.size:=g5
 refine wpAny_bind (wpAny_setField_rec g5 (by simp) fun h6 g6 b6=>?_)
 replace b6:Heap.SameBut it h5 h6:=b6
 have far:∀ b o,b≠it→h2.get? b=some o→h6.get? b=some o:=fun b o nb q=>b6.extBut b o nb (b5.extBut b o nb (b4.extBut b o nb (b3.extBut b o nb q)))
 exact wpAny_bind (wpAny_letGo (wpAny_pure (wpAny_pure ⟨_,rfl,wpAny_pure (fin h6 g6 (far _ _ (Nat.ne_of_gt il) t2) fun b o nb q=>far b o nb (k2 b o nb q))⟩)))
theorem next_none {Q:Option Value→Shared→Prop} (hh:A.handled=none) (g:IsItemIter s.heap it d i n ep k0 v0) (hd:s.heap.get? d=some od) (dd:od.data=.dict es ep) (hn:es.size=n) (he:n≤i)
  (fin:∀ h',Heap.ExtBut it s.heap h'→Q none { s with heap:=h' }):wpAny (model prog w) A (pyNext (.ref it)) Q E s:=by
 have ty:s.TypeIs (.ref it) "dict_itemiterator":=⟨_,g,rfl⟩
 unfold pyNext
 refine wpAny_bind (wpAny_attempt (wpAny_callSpecial?_slot (name:=Str.ofString "__next__") ty PySem.F.slot_dict_itemiterator_next (wpAny_call_entry PySem.F.slot_dict_itemiterator_next ty PySem.F.entry_dict_itemiterator_next ?_ (PySem.F.args_dict_itemiterator_next_1 _))))
 refine wpAny_bind (wpAny_pure (wpAny_bind (wpAny_bind ?_)))
 first | refine wpAny_bind (wpAny_typeNameOfWhole_itemiter ty (wpAny_pure ?_)) | refine wpAny_bind (wpAny_typeNameOf_itemiter ty (wpAny_pure ?_))
 refine wpAny_bind (wpAny_fieldsOf g rfl ?_)
 have own:Builtin.Dict_items.ownsTuple "dict_itemiterator"=true:=by decide
 have nn:¬ ((Value.ref d == Value.none)=true):=Bool.false_ne_true
 simp only [own,if_true]
 show wpAny (model prog w) _ (if (Value.ref d == Value.none)=true then _ else _) _ _ s
 rw [if_neg nn]
 refine wpAny_bind (wpAny_pure (wpAny_bind (wpAny_dictEntries hd dd ?_)))
 rw [if_neg (by rw [hn]; simp)]
 refine wpAny_bind (wpAny_pure (wpAny_bind (wpAny_dictEpoch hd dd ?_)))
 rw [if_neg (by simp)]
 refine wpAny_pure ?_
 have off:es[i]?=none:=Array.getElem?_eq_none (by omega)
 simp only [show ¬ ((i:Int) < 0) from by omega,if_false,Int.toNat_natCast,off]
 refine wpAny_bind ?_
 first | refine wpAny_bind (wpAny_typeNameOfWhole_itemiter ty (wpAny_pure ?_)) | refine wpAny_bind (wpAny_typeNameOf_itemiter ty (wpAny_pure ?_))
 show wpAny (model prog w) _ (setField (.ref it) 2 .none >>= _) _ _ s
 refine wpAny_bind (wpAny_setField g rfl (by simp) ?_)
 show wpAny (model prog w) _ (newExc (.type "StopIteration") [] >>= _) _ _ _
 refine wpAny_bind ?_
 simp only [newExc,newTuple]
 refine wpAny_bind (wpAny_newObj_type (wpAny_bind (m:=firstArgMember _ _) (wpAny_of_eq (a:=Value.none) (by first | rfl | (simp only [firstArgMember]; rfl)) (wpAny_newObj_type ?_ (by size_fits)))) (by size_fits))
 simp only [raiseNew]
 refine wpAny_bind (wpAny_handled ?_)
 have hh1:A.in1.handled=none:=hh
 rw [hh1]
 refine wpAny_bind (wpAny_pure (wpAny_throw ?_))
 refine wpAny_bind (wpAny_isInstance (T:="StopIteration") (b:=true) ⟨_,Heap.get?_push_size _ rfl,rfl⟩ isSubtype_stop ?_)
 exact wpAny_pure (fin _ (((Heap.SameBut.update ..).extBut.push _).push _))
end
def Itn (a:Addr) (ob:Obj):It :=
 ⟨fun i H=>∃ kvs p,H a=some (.frz ob (.dT kvs))∧kvs[i]?=some p,
  fun i H y H'=>∃ t b p,(∀ kvs,H a=some (.frz ob (.dT kvs))→kvs[i]?=some p)∧H b=some (.tup (p.1.map kV))∧y=.ref t∧H t=none∧H'=upd H t (.tup [.ref b,p.2]),
  fun i H=>∃ kvs,H a=some (.frz ob (.dT kvs))∧kvs.length≤i⟩
theorem frzT_at {P:Program} {w:World} {H:Hp} {h:Heap} {a:Addr} {ob:Obj} {kvs:List (List Key × V)} {ents:Array DictEntry} {ep:Nat} (ok:HOk P w H h) (e:H a=some (.frz ob (.dT kvs))) (hd:ob.data=.dict ents ep) :
  h.get? a=some ob∧∃ xs,KT H kvs xs∧ents.toList=xs.map (entryOfKey (tupleKind (Zbd P w)))∧ents.size=kvs.length:=by
 obtain ⟨ho,_,_,xs,rel,o,es,ep',h1,h2,h3,h4,h5⟩:=(show ObjOk P w H h a (.frz ob (.dT kvs)) from ok a _ e)
 rw [ho] at h1
 cases h1
 rw [hd] at h3
 cases h3
 refine ⟨ho,xs,rel,h4,?_⟩
 rw [size_of_entries h4]
 exact (Paired.length rel).symm
theorem Zj5 {P:Program} {w:World} {K:PySem.W.Frag} {es:List Expr} {k:Nat} {pos:Pos} (a it:Addr) {ob:Obj} {ents:Array DictEntry} {n ep:Nat} (hd:ob.data=.dict ents ep) (hn:ents.size=n) :
  Turn P w K (.Tuple es k pos) (Itn a ob) [it] it (fun i h=>∃ ok ov,IsItemIter h it a i n ep ok ov) where
 mem:=by simp
 obj:=fun i h st b hb=>by
  obtain ⟨ok,ov,he⟩:=st
  rw [List.mem_singleton.mp hb]
  exact ⟨_,he,fun v z=>by
   have z':Data.fields _=Data.cell v:=z
   cases z'⟩
 keep:=fun i h h' st kk=>by
  obtain ⟨ok,ov,he⟩:=st
  exact ⟨ok,ov,kk it (by simp) _ he⟩
 item:=by
  intro X hP hw hK hc i pins s σ H E I hf st hg
  subst hP hw hK
  obtain ⟨ok,ov,he⟩:=st
  obtain ⟨kvs,p,hq,hx⟩:=hg
  obtain ⟨ho,xs,rel,hes,hl⟩:=frzT_at I.hok hq hd
  obtain ⟨⟨k',b,u⟩,hu,hk',hb,ru⟩:=Paired.get rel hx
  have fi:=hf it (by simp)
  have hei:ents[i]?=some ⟨(tupleKind (Zbd X.prog X.w)).hash k',.ref b,u⟩:=by rw [entry_at hes i,hu]; rfl
  refine next_pair he ho hd hn hei fun h' ho' hT kk=>?_
  refine ⟨_,rfl,?_⟩
  have hfr:H s.heap.objs.size=none:=I.hok.fresh (Nat.le_refl _)
  have ltI:it < s.heap.objs.size:=Heap.lt_size he
  have I1:Inv X pins σ (upd H s.heap.objs.size (.tup [.ref b,p.2])) { s with heap:=h',toks:=s.toks }:=by
   refine Zjj I fi fi (fun b o nb _ z=>kk b o nb z) ⟨_,ho'⟩ ⟨_,ho'⟩ ⟨?_,[.ref b,u],.cons rfl (.cons ru .nil),⟨_,hT,rfl,_,rfl⟩⟩
   show 2≤sizeLine
   decide
  refine wpAny_letOwnedTupleGo_items (s:={ s with heap:=h' }) ho' fun h2 he2 sb=>?_
  have nI:it≠s.heap.objs.size:=Nat.ne_of_lt ltI
  have fi2:(upd H s.heap.objs.size (.tup [.ref b,p.2])) it=none:=by rw [Zaj nI]; exact fi.1
  have I2:Inv X pins σ (upd H s.heap.objs.size (.tup [.ref b,p.2])) { ({ s with heap:=h',toks:=s.toks }:Shared) with heap:=h2,toks:=s.toks } :=
   I1.turned (t':=s.toks) (it:=it) (fun b o hb z=>(sb.2 b hb).trans z) fi2 fi.2.1 fi.2.2.2.1 fi.2.2.2.2.1 fi.2.2.2.2.2
  refine ⟨.ref s.heap.objs.size,_,I2,rfl,⟨_,b,p,fun ys hy=>?_,hb,rfl,hfr,rfl⟩,⟨_,_,he2⟩,fun b hb=>?_⟩
  ·rw [hq] at hy
   cases hy
   exact hx
  ·rw [List.mem_singleton.mp hb]; exact fi2
 done:=by
  intro X hP hw hK hc i pins s σ H E I hf st hg
  subst hP hw hK
  obtain ⟨ok,ov,he⟩:=st
  obtain ⟨kvs,hq,hx⟩:=hg
  obtain ⟨ho,xs,rel,hes,hl⟩:=frzT_at I.hok hq hd
  obtain ⟨f0,f1,f2,f3,f4,f5⟩:=hf it (by simp)
  exact next_none (I.ok.hd hc) he ho hd hn (by omega) fun h' eb=>⟨rfl,I.turned (t':=s.toks) (fun b o hb z=>eb b o hb z) f0 f1 f3 f4 f5⟩
 self:=fun _ _ _ _ _ st h=>by
  obtain ⟨ok,ov,he⟩:=st
  exact PySem.W.kcp_self he h
def iItemsT (td:TE):TI:=fun σ H R=>td σ H fun x H1=>∃ a kvs,x=.ref a∧H1 a=some (.dT kvs)∧∀ ob,R (Itn a ob) (upd H1 a (.frz ob (.dT kvs)))
section
variable {X:Cx}
theorem pi_itemsT {o:Expr} {es:List Expr} {k:Nat} {tpos apos cpos:Pos} {td:TE} (hp:PE X o td)
  (hb:attributeBase o "items" X.env (eval o X.env)=eval o X.env:=by rfl) (hline:(apos.endLine == cpos.line)=true:=by rfl) :
  PI X (.Tuple es k tpos) (.Call (.Attribute o "items" apos) [] [] cpos) (iItemsT td):=by
 intro pins s σ H R I h
 refine wpAny_Call_method0_late hb hline (thn (hp pins s σ H _ I h) fun v s1 ⟨x,H1,I1,r1,q1⟩=>?_)
 obtain ⟨a,kvs,e,ea,q⟩:=q1
 subst e
 cases r1
 obtain ⟨hty,hnd,hsys⟩:=isD_at I1 (.inr ⟨kvs,.inl ea⟩)
 refine ⟨"dict","dict.items",PySem.F.plainAttrs_dict,PySem.F.slot_dict_items,PySem.F.type_dict_items,hty,hnd,Calls.callWith_builtin rfl (PySem.evalArgs_none ?_)⟩
 refine items_made hsys hty ?_
 obtain ⟨_,_,xs,rel,ob,ents,ep,g1,g2,g3,g4,g5⟩:=(show ObjOk X.prog X.w H1 s1.heap a (.dT kvs) from I1.hok a _ ea)
 refine Zku (n:=ents.size) ⟨_,Heap.get?_push_size _ rfl,rfl,rfl⟩ (Heap.get?_push_of_some _ g1) g3 rfl ?_
 have I2:Inv X pins σ H1 { s1 with heap:=s1.heap.push { cls:=.type "dict_items",data:=.fields #[.ref a] },toks:=s1.toks }:=I1.kept fun b u z=>Heap.get?_push_of_some _ z
 have I3:=I2.kept (h':=(s1.heap.push { cls:=.type "dict_items",data:=.fields #[.ref a] }).push { cls:=.type "dict_itemiterator",data:=.fields #[.none,.bool false,.ref a,.int 0 0,.int ents.size 0,.int ep 0,.none,.none] }) (t':=s1.toks) fun b u z=>Heap.get?_push_of_some _ z
 have g1':((s1.heap.push { cls:=.type "dict_items",data:=.fields #[.ref a] }).push { cls:=.type "dict_itemiterator",data:=.fields #[.none,.bool false,.ref a,.int 0 0,.int ents.size 0,.int ep 0,.none,.none] }).get? a=some ob:=Heap.get?_push_of_some _ (Heap.get?_push_of_some _ g1)
 have new:ObjOk X.prog X.w (upd H1 a (.frz ob (.dT kvs))) ((s1.heap.push { cls:=.type "dict_items",data:=.fields #[.ref a] }).push { cls:=.type "dict_itemiterator",data:=.fields #[.none,.bool false,.ref a,.int 0 0,.int ents.size 0,.int ep 0,.none,.none] }) a (.frz ob (.dT kvs)):=by
  obtain ⟨y1,y2,ys,yr,y3⟩:=(show ObjOk X.prog X.w H1 _ a (.dT kvs) from I3.hok a _ ea)
  refine ⟨g1',y1,y2,ys,KT.keeps yr fun c zs ec=>?_,y3⟩
  rw [Zaj (ne_of ec ea (fun z=>nomatch z))]
  exact ec
 have I4:=I3.write (x:=a) (e:=a) (o:=.frz ob (.dT kvs)) (h':=(s1.heap.push { cls:=.type "dict_items",data:=.fields #[.ref a] }).push { cls:=.type "dict_itemiterator",data:=.fields #[.none,.bool false,.ref a,.int 0 0,.int ents.size 0,.int ep 0,.none,.none] }) (t':=s1.toks)
  (by rw [ea]; exact True.intro) (.inl rfl) (fun b u _ z=>z) ⟨ob,g1'⟩ new
 have na:s1.heap.objs.size+1≠a:=Nat.ne_of_gt (Nat.lt_succ_of_lt (Heap.lt_size g1))
 refine ⟨(s1.heap.push { cls:=.type "dict_items",data:=.fields #[.ref a] }).objs.size,[(s1.heap.push { cls:=.type "dict_items",data:=.fields #[.ref a] }).objs.size],_,_,_,rfl,I4,Zj5 a _ g3 rfl,⟨_,_,Heap.get?_push_size _ rfl⟩,fun b hb'=>?_,q ob⟩
 rw [List.mem_singleton.mp hb']
 refine I2.fpOk (Nat.le_refl _) ?_
 rw [Zaj (by rw [Heap.size_push]; exact na)]
 exact I2.hok.fresh (Nat.le_refl _)
end
theorem for_itemsT {a:Addr} {ob:Obj} {kvs:List (List Key × V)} {g:TG} {tb:TS} {D:Ends} {σ:St} {H:Hp} (Pv:Nat→St→Hp→Prop) (h0:Pv 0 σ H) (hl:∀ i σ H,i≤kvs.length→Pv i σ H→H a=some (.frz ob (.dT kvs)))
  (hs:∀ i p σ H t b,kvs[i]?=some p→Pv i σ H→H b=some (.tup (p.1.map kV))→H t=none→g (.ref t) σ (upd H t (.tup [.ref b,p.2])) fun σ2 H2=>tb { D with nx:=Pv (i+1),ct:=Pv (i+1),bk:=D.nx } σ2 H2) (hd:∀ σ H,Pv kvs.length σ H→D.nx σ H) :
  ∃ W:Nat→Nat→St→Hp→Prop,(∃ m,W 0 m σ H)∧∀ i m σ H,W i m σ H →
   ((Itn a ob).stop i H∧D.nx σ H)∨((Itn a ob).go i H∧∃ N:St→Hp→Prop,(∀ σ' H',N σ' H'→∃ m',m' < m∧W (i+1) m' σ' H')∧∀ x H',(Itn a ob).yld i H x H'→g x σ H' fun σ2 H2=>tb { D with nx:=N,ct:=N,bk:=D.nx } σ2 H2):=by
 refine ⟨fun i m σ H=>m=kvs.length - i∧i≤kvs.length∧Pv i σ H,⟨kvs.length,by simp,Nat.zero_le _,h0⟩,?_⟩
 rintro i m σ H ⟨rfl,hi,p⟩
 have q:=hl i σ H hi p
 by_cases hlt:i < kvs.length
 ·refine .inr ⟨⟨kvs,kvs[i],q,by simp [hlt]⟩,Pv (i+1),fun σ' H' p'=>⟨kvs.length - (i+1),by omega,rfl,hlt,p'⟩,fun x H' y=>?_⟩
  obtain ⟨t,b,z,hz,hb,rfl,ht,rfl⟩:=y
  exact hs i z σ H t b (hz kvs q) p hb ht
 ·have e:i=kvs.length:=by omega
  subst e
  exact .inl ⟨⟨kvs,q,Nat.le_refl _⟩,hd σ H p⟩
end L2
namespace L2
open PySem PySem.Spec PyProof.Rows
section
variable {prog:Program} {w:World} {A:Around} {E:Value→Shared→Prop} {s:Shared} {d:Addr} {od:Obj} {es:Array DictEntry} {ep:Nat}
theorem len_raw {Q:Value→Shared→Prop} (hs:(d == sysModules)=false) (hT:s.TypeIs (.ref d) "dict") (hd:s.heap.get? d=some od) (dd:od.data=.dict es ep) (fit:(es.size:Int) < 2^63)
  (fin:Q (.int es.size (s.toks+1)) { s with toks:=s.toks+1+1 }):wpAny (model prog w) A (call (.builtin "len") [.ref d]) Q E s:=by
 refine Calls.call_function_entry kind_len plain_len entry_len (args_len1 _) ?_
 unfold Builtin.«len»
 refine wpAny_bind (m:=oneArg "len" _) (wpAny_pure ?_)
 refine wpAny_bind (m:=callSpecial? (.ref d) (Str.ofString "__len__")) (wpAny_callSpecial?_slot (name:=Str.ofString "__len__") hT PySem.F.slot_dict_len (wpAny_call_entry PySem.F.slot_dict_len hT PySem.F.entry_dict_len ?_ (PySem.F.args_dict_len_1 _)))
 unfold Builtin.«dict.__len__» Builtin.Dict.dictSlotNone
 refine wpAny_bind (wpAny_bind (wpAny_notOrdered_dict hT ?_))
 show wpAny (model prog w) _ (pure (Value.ref d)) _ _ s
 refine wpAny_pure (wpAny_bind (wpAny_pure ?_))
 unfold dictSize
 refine wpAny_bind (wpAny_bind (wpAny_dictEntries hd dd (wpAny_pure ?_)))
 refine wpAny_bind (wpAny_pendingCount_other hs ?_)
 refine wpAny_ret_mkInt ?_
 refine wpAny_bind (wpAny_holding (wpAny_pure ?_))
 refine wpAny_bind (wpAny_letGo ?_)
 have c1:¬ ((es.size+0:Nat):Int) < 0:=by omega
 have c2:¬ ((es.size+0:Nat):Int)≥2^63:=by omega
 show wpAny (model prog w) _ (if ((es.size+0:Nat):Int) < 0 then _ else _) _ _ _
 rw [if_neg c1]
 show wpAny (model prog w) _ (if ((es.size+0:Nat):Int)≥2^63 then _ else _) _ _ _
 rw [if_neg c2]
 exact wpAny_bind (wpAny_mkInt (wpAny_pure ⟨_,rfl,fin⟩))
theorem clear_raw {Q:Value→Shared→Prop} (hT:s.TypeIs (.ref d) "dict") (hd:s.heap.get? d=some od) (dd:od.data=.dict es ep) (hz:es.size≤sizeLine)
  (fin:Q .none { s with heap:=s.heap.update d (Obj.mapDictKeys fun _=>#[]) }):wpAny (model prog w) A (call (.builtin "dict.clear") [.ref d]) Q E s:=by
 refine wpAny_call_entry PySem.F.slot_dict_clear hT PySem.F.entry_dict_clear ?_ (PySem.F.args_dict_clear_1 _)
 unfold Builtin.«dict.clear» Builtin.Dict.noArgs bearsInstanceDictMark
 refine wpAny_bind (wpAny_bind (wpAny_notOrdered_dict hT ?_))
 show wpAny (model prog w) _ (pure d) _ _ s
 refine wpAny_pure (wpAny_bind (wpAny_dictEntries hd dd (wpAny_bind (wpAny_bind (wpAny_load hd (wpAny_pure ?_))))))
 refine wpAny_bind (wpAny_updateDictKeys (hz:=hz) hd dd ?_)
 split
 ·exact wpAny_bind (wpAny_letGo (wpAny_pure ⟨.none,rfl,fin⟩))
 ·exact wpAny_bind (wpAny_pure (wpAny_pure ⟨.none,rfl,fin⟩))
def Lone (es:Array DictEntry):Prop:=∀ e∈es,(es.filter (·.hash == e.hash)).size≤1
theorem Zkx {id:String} {Q:Array DictEntry→Shared→Prop} (hd:s.heap.get? d=some od) (dd:od.data=.dict es ep) (hk:∀ e∈es,∃ b,e.key=.ref b∧s.TypeIs (.ref b) "tuple") (lone:Lone es) (fin:Q es s) :
  wpAny (model prog w) A (Builtin.Dict.entriesForEmpty id d) Q E s:=by
 unfold Builtin.Dict.entriesForEmpty
 refine wpAny_bind (wpAny_dictEntries hd dd (wpAny_bind ?_))
 rw [← Array.forIn_toList]
 refine wpAny_forIn_list _ (fun rest _ s'=>s'=s∧∀ e∈rest,e∈es) _ ?_ ?_ _ _ ⟨rfl,fun e he=>Array.mem_toList_iff.mp he⟩
 ·rintro e rest b s' ⟨rfl,all⟩
  have em:=all e (by simp)
  obtain ⟨a,ek,et⟩:=hk e em
  have l1:¬ (es.filter (·.hash == e.hash)).size > 1:=by have:=lone e em; omega
  unfold Builtin.Dict.quietEq
  rw [ek]
  refine wpAny_bind (wpAny_bind (wpAny_specialOf et (PySem.F.slot_tuple_eq).lookup (wpAny_pure ?_)))
  rw [if_pos (by decide),if_neg l1]
  exact wpAny_pure ⟨rfl,fun x hx=>all x (List.mem_cons_of_mem _ hx)⟩
 ·rintro b s' ⟨rfl,_⟩
  exact wpAny_pure fin
theorem copy_raw {Q:Value→Shared→Prop} (hs:(d == sysModules)=false) (hT:s.TypeIs (.ref d) "dict") (hd:s.heap.get? d=some od) (dd:od.data=.dict es ep) (h0:0 < es.size) (hz:es.size≤sizeLine)
  (hk:∀ e∈es,∃ b,e.key=.ref b∧s.TypeIs (.ref b) "tuple") (lone:Lone es)
  (fin:∀ h' o',h'.get? s.heap.objs.size=some o'→o'.ExactDict→(∃ ep',o'.data=.dict es ep')→(∀ b o,s.heap.get? b=some o→h'.get? b=some o)→Q (.ref s.heap.objs.size) { s with heap:=h' }) :
  wpAny (model prog w) A (call (.type "dict") [.ref d]) Q E s:=by
 refine callType_codes (Q₁:=fun obj s₁=>obj=.ref s.heap.objs.size∧s₁={ s with heap:=s.heap.push { cls:=.type "dict",data:=.dict #[] } }) PySem.F.kt_called_dict (PySem.F.kt_typeCall_dict_1 _) PySem.F.entry_dict_init (kt_code_dict_new _ ⟨rfl,rfl⟩) ?_
 rintro obj s1 ⟨rfl,rfl⟩
 obtain ⟨S1,eS⟩:∃ S1:Shared,S1={ s with heap:=s.heap.push { cls:=.type "dict",data:=.dict #[] } }:=⟨_,rfl⟩
 have gN:S1.heap.get? s.heap.objs.size=some { cls:=.type "dict",data:=.dict #[] }:=by rw [eS]; exact Heap.get?_push_size _ rfl
 have gO:S1.heap.get? d=some od:=by rw [eS]; exact Heap.get?_push_of_some _ hd
 have tN:S1.TypeIs (.ref s.heap.objs.size) "dict":=⟨_,gN,rfl⟩
 have tO:S1.TypeIs (.ref d) "dict":=by
  obtain ⟨o,ho,hc⟩:=hT
  exact ⟨o,by rw [eS]; exact Heap.get?_push_of_some _ ho,hc⟩
 have ne:s.heap.objs.size≠d:=Nat.ne_of_gt (Heap.lt_size hd)
 have hk1:∀ e∈es,∃ b,e.key=.ref b∧S1.TypeIs (.ref b) "tuple":=fun e he=>by
  obtain ⟨b,ek,o,ho,hc⟩:=hk e he
  exact ⟨b,ek,o,by rw [eS]; exact Heap.get?_push_of_some _ ho,hc⟩
 have old:∀ b o,s.heap.get? b=some o→S1.heap.get? b=some o∧b≠s.heap.objs.size:=fun b o q=>⟨by rw [eS]; exact Heap.get?_push_of_some _ q,Nat.ne_of_lt (Heap.lt_size q)⟩
 rw [← eS]
 refine ⟨tN,PySem.F.args_dict_init_2 _ _,?_⟩
 unfold Builtin.«dict.__init__» Builtin.Dict.selfAndRest
 refine wpAny_bind (wpAny_bind (wpAny_notOrdered_dict tN ?_))
 show wpAny (model prog w) _ (pure (s.heap.objs.size,[Value.ref d])) _ _ _
 refine wpAny_pure ?_
 show wpAny (model prog w) _ (Builtin.Dict.updateFrom "dict.__init__" s.heap.objs.size (.ref d) [] .none) _ _ _
 unfold Builtin.Dict.updateFrom
 refine wpAny_bind (wpAny_typeOf tO ?_)
 rw [if_neg (by decide)]
 refine wpAny_bind ?_
 unfold Builtin.Dict.merge Builtin.Dict.readDirectly
 refine wpAny_bind (wpAny_bind (wpAny_isInstance tO isSubtype_dict_dict ?_))
 simp only [Bool.not_true,Bool.false_eq_true,if_false]
 refine wpAny_bind (wpAny_specialOf tO PySem.F.slot_dict_iter.lookup (wpAny_pure ?_))
 simp only [beq_self_eq_true,if_true]
 refine wpAny_bind (wpAny_pure ?_)
 unfold Builtin.Dict.mergeDict Builtin.Dict.showsAll
 have nodd:¬ (s.heap.objs.size == d)=true:=by simpa using ne
 have nosys:¬ (d == sysModules)=true:=by rw [hs]; exact Bool.false_ne_true
 rw [if_neg nodd,if_neg nosys]
 refine wpAny_bind (wpAny_pure (wpAny_bind (wpAny_dictEntries gO dd ?_)))
 have many:(decide (es.size≤8) && es.all fun e=>(keyPart e.key).isSome)=false:=by
  rw [Bool.and_eq_false_iff]
  right
  rw [Bool.eq_false_iff]
  intro z
  have m:es[0]∈es:=Array.getElem_mem h0
  obtain ⟨b,ek,_⟩:=hk es[0] m
  have:=Array.all_eq_true_iff_forall_mem.mp z es[0] m
  rw [ek] at this
  cases this
 show wpAny (model prog w) _ (if (!(decide (es.size≤8) && es.all fun e=>(keyPart e.key).isSome))=true then _ else _) _ _ _
 rw [many,if_pos (by decide)]
 refine wpAny_bind (wpAny_dictEntries gN rfl ?_)
 rw [if_pos (by decide)]
 refine wpAny_bind (Zkx gO dd hk1 lone ?_)
 have nonil:(!es.isEmpty)=true:=by
  rw [Bool.not_eq_true',Array.isEmpty_eq_false_iff]
  intro z
  rw [z] at h0
  exact Nat.lt_irrefl _ h0
 rw [if_pos nonil]
 refine wpAny_bind (wpAny_updateDictKeysTo gN rfl ?_ (Nat.le_succ_of_le hz))
 refine wpAny_pure ?_
 show wpAny (model prog w) _ (Builtin.Dict.addKeywords s.heap.objs.size [] >>= _) _ _ _
 refine wpAny_bind (wpAny_pure (wpAny_pure ⟨rfl,?_⟩))
 have gU:=Heap.get?_update_self (Obj.mapDictKeys fun _=>es) gN rfl
 have q:=fin (S1.heap.update s.heap.objs.size (Obj.mapDictKeys fun _=>es)) _ gU ⟨rfl,rfl,rfl⟩ ⟨_,rfl⟩ fun b o z=>(Heap.get?_update_other _ _ (Ne.symm (old b o z).2)).trans (old b o z).1
 rw [eS] at q ⊢
 exact q
theorem same_raw {nm:String} {K':Type} [DecidableEq K'] {knd:HeapKind prog w K'} {a b:Addr} {oa ob:Obj} {ea eb:Array DictEntry} {pa pb:Nat} {xs ys:List (K' × Addr × Value)} {Q:Bool→Shared→Prop} (sa:(a == sysModules)=false) (sb:(b == sysModules)=false) (hu:knd.room A)
  (ga:s.heap.get? a=some oa) (da:oa.data=.dict ea pa) (xa:ea.toList=xs.map (entryOfKey knd)) (ka:∀ x∈xs,knd.is s.heap x.1 x.2.1)
  (gb:s.heap.get? b=some ob) (db:ob.data=.dict eb pb) (xb:eb.toList=ys.map (entryOfKey knd)) (kb:∀ x∈ys,knd.is s.heap x.1 x.2.1) (nb:(ys.map (·.1)).Nodup) (len:xs.length=ys.length)
  (all:∀ x∈xs,∃ y∈ys,y.1=x.1∧SeqAt.EqAt A s x.2.2 y.2.2 true) (fin:Q true s):wpAny (model prog w) A (Builtin.Dict.samePairs nm a b) Q E s:=by
 have la:ea.size=xs.length:=size_of_entries xa
 have lb:eb.size=ys.length:=size_of_entries xb
 have na:¬ (a == sysModules)=true:=by rw [sa]; exact Bool.false_ne_true
 have nbs:¬ (b == sysModules)=true:=by rw [sb]; exact Bool.false_ne_true
 unfold Builtin.Dict.samePairs Builtin.Dict.showsAll
 rw [if_neg na,if_neg nbs]
 refine wpAny_bind (wpAny_pure (wpAny_bind (wpAny_pure (wpAny_bind (wpAny_dictEntries ga da ?_)))))
 dsimp only
 refine wpAny_bind (wpAny_dictEntries gb db ?_)
 rw [if_neg (by rw [la,lb,len]; simp)]
 refine wpAny_bind (wpAny_dictEpoch ga da (wpAny_bind ?_))
 rw [Std.Legacy.Range.forIn_eq_forIn_range']
 simp only [Std.Legacy.Range.size,Nat.sub_zero,Nat.add_sub_cancel,Nat.div_one]
 refine wpAny_forIn_list _ (fun rest q s'=>s'=s∧q=(none,())∧∀ i∈rest,i < ea.size) _ ?_ ?_ _ _ ⟨rfl,rfl,fun i hi=>by simpa using (List.mem_range'_1.mp hi).2⟩
 ·rintro x rest q s' ⟨rfl,rfl,lt⟩
  have hlt:x < ea.size:=lt x (by simp)
  obtain ⟨p,hp⟩:∃ p,xs[x]?=some p:=⟨xs[x]'(by omega),List.getElem?_eq_getElem _⟩
  have hx:ea[x]?=some (entryOfKey knd p):=by rw [entry_at xa x,hp]; rfl
  have pm:=List.mem_of_getElem? hp
  obtain ⟨y,ym,ey,eqv⟩:=all p pm
  obtain ⟨jy,hjy⟩:=List.mem_iff_getElem?.mp ym
  refine wpAny_bind (wpAny_dictEntries ga da ?_)
  rw [hx]
  refine wpAny_bind (wpAny_holding (wpAny_bind ?_))
  refine wpAny_dictFind_heap (k:=p.1) (a:=p.2.1) hu (ka p pm) gb db xb kb nb (fun no=>absurd hjy (by have:=no jy y.2; rw [← ey] at this; exact this)) fun j z hj=>?_
  have ez:z=y.2:=by
   have i1:=idxH_unique nb hj (show ys[jy]?=some (p.1,y.2) from by rw [hjy,← ey])
   subst i1
   rw [hjy] at hj
   have:=Option.some.inj hj
   rw [this]
  refine wpAny_bind (wpAny_dictEntries gb db ?_)
  rw [entry_at xb j,hj]
  show wpAny (model prog w) _ (holding [z.2] (eqBool p.2.2 z.2)) _ _ _
  rw [ez]
  refine wpAny_holding (eqv prog w _ _ ?_)
  show wpAny (model prog w) _ (if (!true)=true then _ else _) _ _ _
  rw [if_neg (by decide)]
  refine wpAny_bind (wpAny_dictEpoch ga da ?_)
  rw [if_neg (by simp)]
  exact wpAny_pure ⟨rfl,rfl,fun i hi=>lt i (List.mem_cons_of_mem _ hi)⟩
 ·rintro q s' ⟨rfl,rfl,_⟩
  exact wpAny_pure fin
theorem eq_raw {K':Type} [DecidableEq K'] {knd:HeapKind prog w K'} {a b:Addr} {oa ob:Obj} {ea eb:Array DictEntry} {pa pb:Nat} {xs ys:List (K' × Addr × Value)} {Q:Value→Shared→Prop} (sa:(a == sysModules)=false) (sb:(b == sysModules)=false) (hu0:A.units < cLine) (hu:knd.room A.in1)
  (ta:s.TypeIs (.ref a) "dict") (tb:s.TypeIs (.ref b) "dict")
  (ga:s.heap.get? a=some oa) (da:oa.data=.dict ea pa) (xa:ea.toList=xs.map (entryOfKey knd)) (ka:∀ x∈xs,knd.is s.heap x.1 x.2.1)
  (gb:s.heap.get? b=some ob) (db:ob.data=.dict eb pb) (xb:eb.toList=ys.map (entryOfKey knd)) (kb:∀ x∈ys,knd.is s.heap x.1 x.2.1) (nb:(ys.map (·.1)).Nodup) (len:xs.length=ys.length)
  (all:∀ x∈xs,∃ y∈ys,y.1=x.1∧SeqAt.EqAt A.in1 s x.2.2 y.2.2 true) (fin:Q (.bool true) s):wpAny (model prog w) A (compareOp .Eq (.ref a) (.ref b)) Q E s:=by
 refine wpAny_richCompare_same_room (op:=.Eq) ta tb PySem.F.slot_dict_eq (wpAny_call_entry PySem.F.slot_dict_eq ta PySem.F.entry_dict_eq ?_ (PySem.F.args_dict_eq_2 _ _)) hu0
 show wpAny (model prog w) _ (Builtin.Dict.dictSlotArgs "__eq__" ⟨[.ref a,.ref b],[]⟩ >>= _) _ _ s
 unfold Builtin.Dict.dictSlotArgs
 refine wpAny_bind (wpAny_bind (wpAny_notOrdered_dict ta ?_))
 show wpAny (model prog w) _ (pure (Value.ref a,Value.ref b)) _ _ s
 refine wpAny_pure (wpAny_bind (wpAny_isInstance (T:="dict") tb PySem.F.sub_dict_dict ?_))
 simp only [Bool.not_true,Bool.false_eq_true,if_false]
 refine wpAny_bind (wpAny_pure (wpAny_bind (wpAny_pure (wpAny_bind (same_raw sa sb hu ga da xa ka gb db xb kb nb len all ?_)))))
 exact wpAny_pure ⟨_,rfl,(fun x=>nomatch x),fin⟩
end
theorem KT.mem {H:Hp} {kvs:List (List Key × V)} {xs:List (List Key × Addr × Value)} (r:KT H kvs xs) {x:List Key × Addr × Value} (h:x∈xs):∃ p∈kvs,p.1=x.1∧H x.2.1=some (.tup (x.1.map kV))∧RelV p.2 x.2.2:=by
 induction r with
 | nil=>exact nomatch h
 | @cons p q ps qs hh t ih =>
  rcases List.mem_cons.mp h with rfl | h
  ·exact ⟨p,by simp,hh.1,by rw [← hh.1]; exact hh.2.1,hh.2.2⟩
  ·obtain ⟨p',m,r'⟩:=ih h
   exact ⟨p',List.mem_cons_of_mem _ m,r'⟩
theorem KT.keys {H:Hp} {kvs:List (List Key × V)} {xs:List (List Key × Addr × Value)} (r:KT H kvs xs):kvs.map (·.1)=xs.map (·.1):=by
 induction r with
 | nil=>rfl
 | @cons p q ps qs hh t ih=>rw [List.map_cons,List.map_cons,ih,hh.1]
def LoneK (P:Program) (w:World) (kvs:List (List Key × V)):Prop:=(kvs.map fun p=>(tupleKind (Zbd P w)).hash p.1).Nodup
section
variable {X:Cx}
theorem call_lenT:CallR X (.builtin "len") (fun xs H Q=>∃ a kvs,xs=[V.ref a]∧H a=some (.dT kvs)∧Q (.int kvs.length) H):=by
 intro pins s σ H xs us Q I r h
 obtain ⟨a,kvs,rfl,ea,q⟩:=h
 obtain ⟨u,rfl,ru⟩:=vals1 r
 cases ru
 obtain ⟨z,hsys,ys,rel,o,es,ep,h1,h2,h3,h4,h5⟩:=(show ObjOk X.prog X.w H s.heap a (.dT kvs) from I.hok a _ ea)
 have hl:es.size=kvs.length:=by rw [size_of_entries h4]; exact (Paired.length rel).symm
 refine len_raw hsys ⟨o,h1,h2.1⟩ h1 h3 (by rw [sizeLine_eq] at z; omega) ?_
 rw [hl]
 exact ⟨.int kvs.length,H,I.tok _,⟨_,rfl⟩,q⟩
theorem Zk3:CallR X (.builtin "isinstance") (fun xs H Q=>∃ a kvs,xs=[.ref a,.ty "dict"]∧H a=some (.dT kvs)∧Q (.bl true) H):=by
 intro pins s σ H xs us Q I r h
 obtain ⟨a,kvs,rfl,ea,q⟩:=h
 obtain ⟨u,w',rfl,rx,ry⟩:=vals2 r
 cases (show w'=Value.type "dict" from ry)
 exact Zf2 I rx (.dT ea) (show PySem.W.kitOne X.K (.type "dict") (.type "dict")=some true from rfl) fun tk=>⟨.bl true,H,I.tok tk,rfl,q⟩
theorem mt_clearT:MtM X "dict.clear" (fun x vs H Q=>∃ a kvs,x=.ref a∧vs=[]∧H a=some (.dT kvs)∧Q .non (upd H a (.dT []))):=by
 intro pins s σ H x xs v us Q I rx rv h
 obtain ⟨a,kvs,rfl,rfl,ea,q⟩:=h
 cases rx
 cases rv
 obtain ⟨z,hsys,ys,rel,o,es,ep,h1,h2,h3,h4,h5⟩:=(show ObjOk X.prog X.w H s.heap a (.dT kvs) from I.hok a _ ea)
 have hl:es.size=kvs.length:=by rw [size_of_entries h4]; exact (Paired.length rel).symm
 refine clear_raw ⟨o,h1,h2.1⟩ h1 h3 (by omega) ?_
 have gU:=Heap.get?_update_self (Obj.mapDictKeys fun _=>#[]) h1 (Obj.isFreed_of_dict (Obj.data_mapDictKeys h3 _))
 refine ⟨.non,_,Zk0 (ob:=.dT []) (t':=s.toks) I (by rw [ea]; exact True.intro) (Heap.SameBut.update ..) ⟨_,gU⟩ ⟨Nat.zero_le _,hsys,[],.nil,_,#[],_,gU,h2.mapDictKeys _,Obj.data_mapDictKeys h3 _,rfl,List.nodup_nil⟩,rfl,q⟩
theorem Zjo:CallR X (.type "dict") (fun xs H Q=>∃ a kvs,xs=[.ref a]∧H a=some (.dT kvs)∧kvs≠[]∧LoneK X.prog X.w kvs∧∀ l,H l=none→Q (.ref l) (upd H l (.dT kvs))):=by
 intro pins s σ H xs us Q I r h
 obtain ⟨a,kvs,rfl,ea,ne,lone,q⟩:=h
 obtain ⟨u,rfl,ru⟩:=vals1 r
 cases ru
 obtain ⟨z,hsys,ys,rel,o,es,ep,h1,h2,h3,h4,h5⟩:=(show ObjOk X.prog X.w H s.heap a (.dT kvs) from I.hok a _ ea)
 have hl:es.size=kvs.length:=by rw [size_of_entries h4]; exact (Paired.length rel).symm
 have pos:0 < kvs.length:=List.length_pos_iff.mpr ne
 have hkeys:∀ e∈es,∃ b,e.key=.ref b∧s.TypeIs (.ref b) "tuple":=fun e he=>by
  have:e∈ys.map (entryOfKey (tupleKind (Zbd X.prog X.w))):=h4 ▸ Array.mem_toList_iff.mpr he
  obtain ⟨y,hy,rfl⟩:=List.mem_map.mp this
  obtain ⟨p,_,_,hb,_⟩:=KT.mem rel hy
  obtain ⟨_,_,_,oo,g1,g2,_⟩:=(show ObjOk X.prog X.w H s.heap y.2.1 (.tup (y.1.map kV)) from I.hok _ _ hb)
  exact ⟨y.2.1,rfl,oo,g1,g2⟩
 have hlone:Lone es:=fun e he=>by
  have nd:(es.toList.map (·.hash)).Nodup:=by
   rw [h4,List.map_map]
   have:(ys.map ((fun x=>x.hash)∘entryOfKey (tupleKind (Zbd X.prog X.w))))=(kvs.map fun p=>(tupleKind (Zbd X.prog X.w)).hash p.1):=by
    have k:=KT.keys rel
    have e1:(kvs.map fun p=>(tupleKind (Zbd X.prog X.w)).hash p.1)=(kvs.map (·.1)).map (tupleKind (Zbd X.prog X.w)).hash:=by rw [List.map_map]; rfl
    rw [e1,k,List.map_map]; rfl
   rw [this]
   exact lone
  rw [← Array.length_toList,Array.toList_filter]
  have gen:∀ (l:List DictEntry),(l.map (·.hash)).Nodup→(l.filter fun x=>x.hash == e.hash).length≤1:=by
   intro l
   induction l with
   | nil=>intro _; exact Nat.zero_le _
   | cons c r ih =>
    intro n
    rw [List.map_cons,List.nodup_cons] at n
    rw [List.filter_cons]
    by_cases c1:(c.hash == e.hash)=true
    ·rw [if_pos c1]
     have z:(r.filter fun x=>x.hash == e.hash)=[]:=by
      rw [List.filter_eq_nil_iff]
      intro x hx c2
      have q1:c.hash=e.hash:=by simpa using c1
      have q2:x.hash=e.hash:=by simpa using c2
      exact n.1 (List.mem_map.mpr ⟨x,hx,by rw [q1,q2]⟩)
     rw [z]; exact Nat.le_refl _
    ·rw [if_neg c1]
     exact ih n.2
  exact gen _ nd
 refine copy_raw hsys ⟨o,h1,h2.1⟩ h1 h3 (by omega) (by omega) hkeys hlone fun h' o' g1 g2 ⟨ep',g3⟩ kp=>?_
 have hn:H s.heap.objs.size=none:=I.hok.fresh (Nat.le_refl _)
 refine ⟨.ref s.heap.objs.size,_,I.laid (a:=s.heap.objs.size) (o:=.dT kvs) (t':=s.toks) kp (Nat.le_refl _) ⟨z,beq_eq_false_iff_ne.mpr (Ne.symm (Nat.ne_of_lt I.big)),ys,KT.keeps rel fun c zs ec=>?_,o',es,ep',g1,g2,g3,h4,h5⟩,rfl,q _ hn⟩
 rw [Zaj (Zah ec hn)]
 exact ec
theorem op_eqDT (hu0:X.A.units < cLine) (hu:X.A.units+1 < cLine):OpR X (compareOp .Eq) (fun x y H Q=>∃ a b kvs kvs',x=.ref a∧y=.ref b∧H a=some (.dT kvs)∧H b=some (.dT kvs')∧kvs.length=kvs'.length∧(∀ p∈kvs,∃ i:Int,p.2=.int i∧valV kvs' p.1=some (.int i))∧Q (.bl true) H):=by
 intro pins s σ H x y v u Q I rx ry h
 obtain ⟨a,b,kvs,kvs',rfl,rfl,ea,eb,len,all,q⟩:=h
 cases rx
 cases ry
 obtain ⟨z,hsys,xs,rel,o,es,ep,h1,h2,h3,h4,h5⟩:=(show ObjOk X.prog X.w H s.heap a (.dT kvs) from I.hok a _ ea)
 obtain ⟨z',hsys',ys,rel',o',es',ep',h1',h2',h3',h4',h5'⟩:=(show ObjOk X.prog X.w H s.heap b (.dT kvs') from I.hok b _ eb)
 have l1:=Paired.length rel
 have l2:=Paired.length rel'
 refine eq_raw hsys hsys' hu0 (tupleKind_room_in1 hu) ⟨o,h1,h2.1⟩ ⟨o',h1',h2'.1⟩ h1 h3 h4 (fun x hx=>?_) h1' h3' h4' (fun x hx=>?_) h5' (by omega) (fun x hx=>?_) ⟨.bl true,H,I,rfl,q⟩
 ·obtain ⟨_,_,_,hb,_⟩:=KT.mem rel hx
  exact Zg6 I.hok hb
 ·obtain ⟨_,_,_,hb,_⟩:=KT.mem rel' hx
  exact Zg6 I.hok hb
 ·obtain ⟨p,pm,pk,_,pr⟩:=KT.mem rel hx
  obtain ⟨i,e1,e2⟩:=all p pm
  rw [pk] at e2
  have rv:=KT.val rel' x.1
  rw [e2] at rv
  obtain ⟨w',hw,rw'⟩:=RelO.some_of (v:=.int i) rv
  obtain ⟨pp,hp,hp2⟩:=Option.map_eq_some_iff.mp hw
  unfold atKey at hp
  obtain ⟨y,hy,hy2⟩:=Option.map_eq_some_iff.mp hp
  have ym:=List.mem_of_find?_eq_some hy
  have yk:y.1=x.1:=by simpa using List.find?_some hy
  refine ⟨y,ym,yk,?_⟩
  rw [e1] at pr
  obtain ⟨t1,q1⟩:=(show ∃ t,x.2.2=Value.int i t from pr)
  have q2:y.2.2=w':=by rw [hy2,hp2]
  obtain ⟨t2,q3⟩:=(show ∃ t,w'=Value.int i t from rw')
  rw [q1,q2,q3]
  have:=SeqAt.EqAt.int_int (A:=X.A.in1) (s:=s) i t1 i t2
  simpa using this
end
theorem most_at {its:List Value} {ns:List Int} {xs:Array (Int × Tok)} (hi:IntsAre its ns) (e:its.toArray=intItems xs) (hn:ns≠[]) {v:Value}
  (hv:(intItems xs)[argBest (fun i j=>decide (numAt xs i > numAt xs j)) (xs.size - 1)]?=some v):∃ m t,v=.int m t∧m∈ns∧∀ z∈ns,z≤m:=by
 have hns:ns=xs.toList.map (·.1):=by rw [← hi.numsOf,← nums_intItems,← e]
 have hsz:0 < xs.size:=by
  rcases Nat.eq_zero_or_pos xs.size with z | z
  ·exact absurd (by rw [hns,List.map_eq_nil_iff,← List.length_eq_zero_iff,Array.length_toList]; exact z) hn
  ·exact z
 obtain ⟨t,rfl⟩:=intItems_at hv
 obtain ⟨b1,b2⟩:=argBest_gt (numAt xs) (xs.size - 1)
 refine ⟨_,t,rfl,?_,fun z hz=>?_⟩
 ·rw [hns,numAt_eq]; exact getD_mem (by rw [List.length_map,Array.length_toList]; omega)
 ·rw [hns] at hz
  obtain ⟨j,hj,rfl⟩:=mem_getD hz
  rw [List.length_map,Array.length_toList] at hj
  rw [← numAt_eq]; exact b2 j (by omega)
section
variable {X:Cx}
theorem call_max1:CallR X (.builtin "max") (fun xs H Q=>∃ (p:Addr) (ns:List Int),xs=[.ref p]∧SqL X.K H p (ns.map V.int)∧X.calm=true∧ns≠[]∧∀ m,m∈ns→(∀ z∈ns,z≤m)→Q (.int m) H):=by
 intro pins s σ H xs us Q I r h
 obtain ⟨p,ns,rfl,hp,hc,hn,q⟩:=h
 obtain ⟨u,rfl,ru⟩:=vals1 r
 cases ru
 obtain ⟨its,rv,pl,hz⟩:=I.list hp
 have hi:=Zew rv
 obtain ⟨xs,e⟩:=hi.allInts.items
 have hl:s.heap.IsList p (intItems xs):=e ▸ pl.isList
 have hsz:0 < xs.size:=by
  have l1:ns.length=its.length:=by rw [← hi.length]
  have l2:its.length=xs.size:=by
   have:=congrArg Array.size e
   simpa [intItems] using this
  have l3:0 < ns.length:=List.length_pos_iff.mpr hn
  omega
 refine max_intList (I.ok.hd hc) hl hsz fun v h' tk hv hk=>?_
 obtain ⟨m,t,rfl,hm,hle⟩:=most_at hi e hn hv
 exact ⟨.int m,H,I.kept (t':=tk) hk,⟨t,rfl⟩,q m hm hle⟩
end
end L2
namespace L2
open PySem PySem.Spec PyProof.Rows
section
variable {prog:Program} {w:World} {A:Around} {E:Value→Shared→Prop} {s:Shared} {it d:Addr} {i ep:Nat} {od:Obj} {es:Array DictEntry}
end
section
variable {X:Cx}
end
end L2
namespace L2
open PySem PySem.Spec PyProof.Rows
section
variable {X:Cx}
end
end L2
namespace L2
open PySem PySem.Spec PyProof.Rows
section
variable {X:Cx}
end
section
variable {X:Cx}
end
end L2
namespace L2
open PySem PySem.Spec PyProof.Rows
section
open HT
variable {prog:Program} {w:World} {A:Around} {E:Value→Shared→Prop} {s:Shared}
end
section
variable {X:Cx} {e st:Expr} {te ts:TE} {pos p2:Pos}
end
end L2
namespace L2
open PySem PySem.Spec PyProof.Rows
section
variable {prog:Program} {w:World} {A:Around} {E:Value→Shared→Prop} {s:Shared} {R:Result→Shared→Prop} {I:Addr} {fp wr:List Addr} {n:Nat} {P:Nat→Value→Prop} {St:Nat→Heap→Prop}
end
section
variable {X:Cx}
end
end L2
namespace L2
open PySem PySem.Spec PyProof.Rows
end L2
namespace L2
open PySem PySem.Spec PyProof.Rows
section
variable {X:Cx}
end
end L2
namespace L2
open PySem PySem.Spec PyProof.Rows
section
open PySem.SeqAt
open PySem.AutoSeq1 (wpAny_loadPart')
open PySem.MeetsSeq PySem.MeetsSeq2 PySem.MeetsSeq3
variable {prog:Program} {w:World} {A:Around} {E:Value→Shared→Prop} {s:Shared}
end
section
variable {X:Cx}
end
end L2
namespace L2
open PySem PySem.Spec PyProof.Rows
structure ICls (K:PySem.W.Frag) (C:Addr):Prop where
 cl:Cls K C
 ha:PySem.W.findIn K (.ref C) "__class__"=some (some (.builtin "object.__class__"))
 hn:PySem.W.specialIn K (.builtin "object.__class__") "__get__"=some (some (.builtin "getset_descriptor.__get__"))
 htk:PySem.W.takesIn K (.builtin "object.__class__")=some true
 hm:PySem.W.mroIn K C (.type "object")=some true
section
variable {X:Cx}
theorem Zdx:CallR X (.builtin "isinstance") (fun xs H Q=>∃ a C dx fs c u b,xs=[.ref a,c]∧H a=some (.ins C dx fs)∧ICls X.K C∧RelV c u∧(∀ u',RelV c u'→u'=u)∧PySem.W.kitOne X.K (.ref C) u=some b∧Q (.bl b) H):=by
 intro pins s σ H xs us Q I r h
 obtain ⟨a,C,dx,fs,c,u,b,rfl,he,hc,ru,uq,hk,q⟩:=h
 obtain ⟨v1,v2,rfl,r1,r2⟩:=vals2 r
 have:=uq v2 r2
 subst this
 exact Zf2 I r1 (.ins he hc.cl hc.ha hc.hn hc.htk hc.hm) hk fun tk=>⟨.bl b,H,I.tok tk,rfl,q⟩
end
def Itv (K:PySem.W.Frag) (a:Addr) (n:Nat):It :=
 ⟨fun i H=>∃ xs,SqL K H a xs∧xs.length=n∧i < n,fun i H x H'=>H'=H∧∀ xs,SqL K H a xs→xs[n - 1 - i]?=some x,fun i H=>n≤i⟩
theorem turn_rev {P:Program} {w:World} {K:PySem.W.Frag} {tg:Expr} (a it:Addr) (n:Nat):Turn P w K tg (Itv K a n) [it] it (fun i h=>i≤n∧h.IsRevIter it a ((n:Int) - 1 - i)) where
 mem:=by simp
 obj:=fun i h st b hb=>by
  have e:b=it:=by simpa using hb
  subst e
  obtain ⟨_,o,e,c,d⟩:=st
  exact ⟨o,e,fun v z=>by rw [d] at z; cases z⟩
 keep:=fun i h h' st k=>⟨st.1,st.2.at fun o e=>k it (by simp) o e⟩
 item:=by
  intro X hP hw hK hc i pins s σ H E I hf st hg
  subst hP hw hK
  obtain ⟨xs,hq,hn,hi⟩:=hg
  obtain ⟨hin,st⟩:=st
  obtain ⟨its,rv,p,hz⟩:=I.list hq
  have hx:xs[n - 1 - i]?=some (xs[n - 1 - i]'(by omega)):=List.getElem?_eq_getElem (by omega)
  obtain ⟨u,hu,ru⟩:=rv.get hx
  obtain ⟨f0,f1,f2,f3,f4,f5⟩:=hf it (by simp)
  have st':s.heap.IsRevIter it a (((n - 1 - i:Nat):Int)):=by
   rw [show (((n - 1 - i:Nat):Int))=(n:Int) - 1 - i by omega]; exact st
  refine wpAny_pyNext_rev_item st' p.isList (x:=u) (by simpa using hu) fun h' st' sb=>?_
  have I1:Inv X pins σ H { s with heap:=h' }:=I.turned (t':=s.toks) (fun b o hb e=>(sb.2 b hb).trans e) f0 f1 f3 f4 f5
  obtain ⟨o,e,c,d⟩:=id st'
  refine ⟨u,rfl,go_of (s:={ s with heap:=h' }) e c d (by decide) ⟨_,H,I1,ru,⟨rfl,fun ys hy=>by rw [I.list_inj hy hq]; exact hx⟩,⟨by omega,?_⟩,fun b hb=>(hf b hb).1⟩⟩
  rw [show (n:Int) - 1 - ((i+1:Nat):Int)=((n - 1 - i:Nat):Int) - 1 by omega]; exact st'
 done:=by
  intro X hP hw hK hc i pins s σ H E I hf st hg
  subst hP hw hK
  obtain ⟨hin,st⟩:=st
  obtain ⟨f0,f1,f2,f3,f4,f5⟩:=hf it (by simp)
  have e:i=n:=Nat.le_antisymm hin hg
  subst e
  rw [show (i:Int) - 1 - (i:Int)=-1 by omega] at st
  exact wpAny_pyNext_rev_end (I.ok.hd hc) st fun h' eb=>⟨rfl,I.turned (t':=s.toks) (fun b o hb e=>eb b o hb e) f0 f1 f3 f4 f5⟩
 self:=fun _ _ _ _ _ st h=>wpAny_pyIter_revIter st.2 h
def iRev (K:PySem.W.Frag) (ta:TA):TI:=fun σ H R=>ta σ H fun vs H1=>∃ a xs,vs=[.ref a]∧SqL K H1 a xs∧R (Itv K a xs.length) H1
theorem Zid:bootBuiltins "reversed"=some (.type "reversed"):=rfl
section
variable {X:Cx} {tg:Expr}
theorem pi_revd {a:Expr} {ta:TA} {p pos:Pos} (hg:Gl X "reversed") (hm:X.mg "reversed"=none) (ha:PA X [a] ta) (hs:starEach [a] X.env=[(false,eval a X.env)]:=by rfl) :
  PI X tg (.Call (.Name "reversed" p) [a] [] pos) (iRev X.K ta):=by
 intro pins s σ H R I h
 refine Call_ (Ze3 I hg hm Zid (PyProof.Rows.callWith_type1 (thn (ha pos pins s σ H _ I h) fun us s1 ⟨vs,H1,I1,r1,q1⟩=>?_) hs rfl))
 obtain ⟨b,xs,e,hq,q⟩:=q1
 subst e
 cases r1 with
 | cons r rr =>
  cases rr
  cases r
  obtain ⟨its,rv,pl,hz⟩:=I1.list hq
  have hl:=rv.length
  refine call_reversed_list pl.isList ?_
  have I2:Inv X pins σ H1 { s1 with heap:=s1.heap.push (revObj b ((its.toArray.size:Int) - 1)) }:=I1.kept (t':=s1.toks) fun c o e=>Heap.get?_push_of_some _ e
  refine wpAny_pyIter_revIter (s:={ s1 with heap:=s1.heap.push (revObj b ((its.toArray.size:Int) - 1)) }) ⟨_,Heap.get?_push_size _ rfl,rfl,rfl⟩ ?_
  refine ⟨s1.heap.objs.size,[s1.heap.objs.size],_,_,H1,rfl,I2,turn_rev b _ xs.length,⟨Nat.zero_le _,⟨_,Heap.get?_push_size _ rfl,rfl,?_⟩⟩,fun c hc=>?_,q⟩
  ·show Data.fields _=Data.fields _
   rw [show ((its.toArray.size:Int) - 1)=(xs.length:Int) - 1 - ((0:Nat):Int) by rw [List.size_toArray,← hl]; omega]
  ·have e:c=s1.heap.objs.size:=by simpa using hc
   subst e
   exact I1.fpOk (Nat.le_refl _) (I1.hok.fresh (Nat.le_refl _))
end
theorem for_rev {K:PySem.W.Frag} {a:Addr} {xs:List V} {g:TG} {tb:TS} {D:Ends} {σ:St} {H:Hp} (Pv:Nat→St→Hp→Prop) (h0:Pv 0 σ H) (hl:∀ i σ H,i≤xs.length→Pv i σ H→SqL K H a xs)
  (hs:∀ i x σ H,xs[xs.length - 1 - i]?=some x→i < xs.length→Pv i σ H→g x σ H fun σ2 H2=>tb { D with nx:=Pv (i+1),ct:=Pv (i+1),bk:=D.nx } σ2 H2) (hd:∀ σ H,Pv xs.length σ H→D.nx σ H) :
  ∃ W:Nat→Nat→St→Hp→Prop,(∃ m,W 0 m σ H)∧∀ i m σ H,W i m σ H →
   ((Itv K a xs.length).stop i H∧D.nx σ H)∨((Itv K a xs.length).go i H∧∃ N:St→Hp→Prop,(∀ σ' H',N σ' H'→∃ m',m' < m∧W (i+1) m' σ' H')∧∀ x H',(Itv K a xs.length).yld i H x H'→g x σ H' fun σ2 H2=>tb { D with nx:=N,ct:=N,bk:=D.nx } σ2 H2):=by
 refine ⟨fun i m σ H=>m=xs.length - i∧i≤xs.length∧Pv i σ H,⟨xs.length,by simp,Nat.zero_le _,h0⟩,?_⟩
 rintro i m σ H ⟨rfl,hi,p⟩
 have q:=hl i σ H hi p
 by_cases hlt:i < xs.length
 ·refine .inr ⟨⟨xs,q,rfl,hlt⟩,Pv (i+1),fun σ' H' p'=>⟨xs.length - (i+1),by omega,rfl,hlt,p'⟩,fun x H' y=>?_⟩
  obtain ⟨e,y⟩:=y
  subst e
  exact hs i x σ _ (y xs q) hlt p
 ·have e:i=xs.length:=by omega
  subst e
  exact .inl ⟨Nat.le_refl _,hd σ H p⟩
end L2
namespace L2
open PySem PySem.Spec PyProof.Rows PySem.W
section
variable {X:Cx} {k j:Nat} {m:Str} {ps:List Str} {sp:Sp} {pos apos:Pos} {e o:Expr} {es:List Expr} {t:TA} {ta:TE} {S:Addr→Prop}
end
section
variable {X:Cx} {g:Str} {G:Addr} {value:Expr} {b₀:Stmt} {suite:List Stmt} {apos gp hpos pos:Pos} {te:XK→TE} {ts:TS}
end
end L2
namespace L2
open PySem PySem.Spec PyProof.Rows PySem.W
structure FunD (K:PySem.W.Frag) (x qual:Str) (st:Stmt) (f:Addr) (fd:FuncData):Prop where
 ex:∃ (oc:Value) (od:Option Addr) (T:Addr) (kV doc pm:Value) (an:Option Addr) (cdv ct:Value) (osl:Array (Option Value)) (o:Obj) (n:Nat),
  fd=PySem.W.fnOf x qual (Zam st) (Zak st) (Zac st) (.ref T) kV doc pm an cdv ct∧K.lookup f=some ⟨oc,od,.func fd,osl⟩∧PySem.W.codeIn K cdv qual=true∧K.lookup T=some o∧o.data=.seq #[.none] n
 kp:PySem.W.keepIn K (.ref f)=true
section
variable {P:Program} {w:World} {K:PySem.W.Frag} {mg:Str→Option Value} {base:Heap}
theorem FunD.ok {x qual:Str} {st:Stmt} {f:Addr} {fd:FuncData} {N ps:List Str} {k:Nat} {sp:Sp} (F:FunD K x qual st f fd) (S:Zap N ps (Zac st)) (len:∀ vs H Q E,sp vs H Q E→vs.length=ps.length)
  (hbody:∀ (cdv:Value) (A:Around) (outer:List Env) (s:Shared) (H:Hp) (vs:List V) (Q:VK) (E:XK),Room k (A.deeper (envOfC qual (Zac st) s.heap.objs.size f cdv))→sp vs H Q E →
   ∃ t,PSs (cxOf CX0 P w K mg base N qual (Zac st) f cdv A outer s H E).nox (Zak st) t∧t { nx:=fun _ H'=>Q .non H',rt:=Q } (start N vs) H):FnOk P w K mg base CX0 (k+1) f fd ps sp:=by
 obtain ⟨oc,od,T,kV,doc,pm,an,cdv,ct,osl,o,n,rfl,lk,hcd,lT,dT⟩:=F.ex
 refine fn_of lk hcd S len fun A outer s H vs Q E hr hsp=>?_
 obtain ⟨t,h,q⟩:=hbody cdv A outer s H vs Q E hr hsp
 exact ⟨t,h.nox,q⟩
theorem FunD.binds {x qual:Str} {st:Stmt} {f:Addr} {fd:FuncData} {ps:List Str} {ds:List Value} (F:FunD K x qual st f fd)
  (h:∀ (T:Addr) (kV doc pm:Value) (an:Option Addr) (cdv ct:Value) (us:List Value),(us++ds).length=ps.length→∃ k:Option (Array Value)→Sem (List (Str × Value)),
   bindArgs (PySem.W.fnOf x qual (Zam st) (Zak st) (Zac st) (.ref T) kV doc pm an cdv ct) ⟨us,[]⟩=seqItems? (.ref T) >>= k∧k (some #[.none])=pure (ps.zip (us++ds))):Binds K fd ps ds:=by
 obtain ⟨oc,od,T,kV,doc,pm,an,cdv,ct,osl,o,n,rfl,lk,hcd,lT,dT⟩:=F.ex
 intro s us X hl
 obtain ⟨k,h1,h2⟩:=h T kV doc pm an cdv ct us hl
 exact .of_defaults rfl (X _ _ lT) dT h1 h2
end
end L2
namespace L2
open PySem PySem.Spec PyProof.Rows PySem.W
end L2
namespace L2
open PySem PySem.Spec PyProof.Rows
section
variable {X:Cx} {elt tg iter:Expr} {scope:Scope} {pos:Pos} {wi:TI} {g:TG} {te:TE} {N:List Str} {fr:List (Option Nat)}
end
end L2
namespace L2
open PySem PySem.Spec PyProof.Rows PySem.W
section
variable {M:Model} {A:Around} {E:Value→Shared→Prop} {s:Shared} {e:Addr} {cls:Value} {d:Option Addr} {vs:Array Value} {sl:Array (Option Value)}
end
section
variable {M:Model} {A:Around} {E:Value→Shared→Prop} {s:Shared} {base:Heap} {env:Env} {outer:List Env} {L e:Addr} {cls:Value} {d:Option Addr} {vs:Array Value} {sl:Array (Option Value)} {Q:Unit→Shared→Prop}
end
end L2
namespace L2
open PySem PySem.Spec PyProof.Rows PySem.W
section
variable {X:Cx} {pins:List (Addr × Obj)} {σ:St} {H:Hp} {s:Shared} {x C T:Addr} {d:Option Addr} {h1 h2:Heap} {fl:Value} {tt:List Addr} {nw:HO}
end
end L2
namespace L2
open PySem PySem.Spec PyProof.Rows PySem.W
section
variable {X:Cx} {elt tg iter:Expr} {scope:Scope} {pos:Pos} {wi:TI} {g:TG} {te:TE} {N:List Str} {fr:List (Option Nat)}
end
section
variable {P:Program} {w:World} {K:PySem.W.Frag} {mg:Str→Option Value} {base:Heap} {N:List Str} {qual:Str} {scope:Scope} {f:Addr} {cd:Value} {A:Around} {outer:List Env} {s:Shared} {H:Hp} {E:XK} {Hs:Hp}
end
end L2
namespace L2
open PySem PySem.Spec PyProof.Rows PySem.W
section
variable {X:Cx} {i im:Nat} {n m g:Str} {G:Addr} {value c:Expr} {b₀ st su:Stmt} {suite:List Stmt} {np apos gp hpos pos:Pos} {te:XK→TE} {ts:TS} {t u:XK→TS} {tc:TT}
end
end L2
namespace L2
open PySem PySem.Spec PyProof.Rows PySem.W
section
variable {X:Cx}
end
end L2
namespace L2
open PySem PySem.Spec PyProof.Rows PySem.W
section
variable {X:Cx}
end
end L2
namespace L2
open PySem PySem.Spec PyProof.Rows PySem.W
mutual
def DAt (H:Hp):D→V→Prop
 | .at u,v=>v=u∧flatV u=true
 | .tup ds,v=>∃ a xs,v=.ref a∧H a=some (.tup xs)∧DAts H ds xs
 | .lst ds,v=>∃ a xs,v=.ref a∧H a=some (.lst xs)∧DAts H ds xs
def DAts (H:Hp):Ds→List V→Prop
 | .nil,xs=>xs=[]
 | .cons d r,xs=>∃ x ys,xs=x :: ys∧DAt H d x∧DAts H r ys
end
mutual
theorem dat_same {H H':Hp} (s:Same H H'):∀ (d:D) {v:V},DAt H d v→DAt H' d v
 | .at u,v,h=>by rw [DAt] at h ⊢; exact h
 | .tup ds,v,h=>by
  rw [DAt] at h ⊢
  obtain ⟨a,xs,e,q,r⟩:=h
  exact ⟨a,xs,e,s _ _ q,Zf8 s ds r⟩
 | .lst ds,v,h=>by
  rw [DAt] at h ⊢
  obtain ⟨a,xs,e,q,r⟩:=h
  exact ⟨a,xs,e,s _ _ q,Zf8 s ds r⟩
theorem Zf8 {H H':Hp} (s:Same H H'):∀ (ds:Ds) {xs:List V},DAts H ds xs→DAts H' ds xs
 | .nil,xs,h=>by rw [DAts] at h ⊢; exact h
 | .cons d r,xs,h=>by
  rw [DAts] at h ⊢
  obtain ⟨x,ys,e,p,q⟩:=h
  exact ⟨x,ys,e,dat_same s d p,Zf8 s r q⟩
end
mutual
theorem dat_is {K:PySem.W.Frag} {H:Hp}:∀ (d:D) {v:V},DAt H d v→DIs K H d v
 | .at u,v,h=>by rw [DAt] at h; rw [DIs]; exact h
 | .tup ds,v,h=>by
  rw [DAt] at h
  rw [DIs]
  obtain ⟨a,xs,e,q,r⟩:=h
  exact ⟨a,xs,e,SqT.of q,Zkz ds r⟩
 | .lst ds,v,h=>by
  rw [DAt] at h
  rw [DIs]
  obtain ⟨a,xs,e,q,r⟩:=h
  exact ⟨a,xs,e,SqL.of q,Zkz ds r⟩
theorem Zkz {K:PySem.W.Frag} {H:Hp}:∀ (ds:Ds) {xs:List V},DAts H ds xs→DIss K H ds xs
 | .nil,xs,h=>by rw [DAts] at h; rw [DIss]; exact h
 | .cons d r,xs,h=>by
  rw [DAts] at h
  rw [DIss]
  obtain ⟨x,ys,e,p,q⟩:=h
  exact ⟨x,ys,e,dat_is d p,Zkz r q⟩
end
section
variable {X:Cx}
end
end L2
namespace L2
open PySem PySem.Spec PyProof.Rows PySem.W
def CodeO (c:Addr) (q:Str):HO:=.ext fun h=>∃ o vs t,h.get? c=some o∧o.data=.fields vs∧vs[1]?=some (.str q t)
def ObjO (f:Addr) (o:Obj):HO:=.ext fun h=>h.get? f=some o
theorem codeO_rec {P:Program} {w:World} {H:Hp} {h:Heap} {c:Addr} {q:Str} (x:ObjOk P w H h c (CodeO c q)):h.CodeRec (.ref c) q:=by
 obtain ⟨⟨o,vs,t,e,d,v⟩,_⟩:=x
 exact ⟨c,o,vs,t,rfl,e,d,v⟩
theorem codeO_ok {P:Program} {w:World} {H:Hp} {h:Heap} {c:Addr} {q:Str} (x:h.CodeRec (.ref c) q):ObjOk P w H h c (CodeO c q):=by
 obtain ⟨c',o,vs,t,e,g,d,v⟩:=x
 cases e
 exact ⟨⟨o,vs,t,g,d,v⟩,⟨o,g⟩,fun h1 h2 ⟨o,vs,t,e,d,v⟩ k=>⟨o,vs,t,k o e,d,v⟩⟩
theorem Zkq {P:Program} {w:World} {H:Hp} {h:Heap} {f:Addr} {o:Obj} (x:h.get? f=some o):ObjOk P w H h f (ObjO f o):=⟨x,⟨o,x⟩,fun h1 h2 e k=>k o e⟩
section
variable {X:Cx} {pins:List (Addr × Obj)} {σ:St} {H:Hp} {s:Shared} {h1:Heap}
theorem Inv.grow {T c':Addr} {ps more:Array Value} {o:HO} {t':Nat} (I:Inv X pins σ H s) (hT:H T=some (.tbl ps)) (k:∀ b u,b≠T→s.heap.get? b=some u→h1.get? b=some u) (eT:h1.get? T=some (tabObj (ps++more)))
  (hc:s.heap.objs.size≤c') (new:ObjOk X.prog X.w (upd (upd H T (.tbl (ps++more))) c' o) h1 c' o):Inv X pins σ (upd (upd H T (.tbl (ps++more))) c' o) { s with heap:=h1,toks:=t' }:=by
 have hn:H c'=none:=I.hok.fresh hc
 have nT:T≠c':=Zah hT hn
 have ne:∀ {b:Addr} {u:HO},H b=some u→(∀ ps,u≠.tbl ps)→b≠T:=fun {b u} e nu z=>by rw [z,hT] at e; cases e; exact nu _ rfl
 have to:∀ {b:Addr} {u:HO},H b=some u→(∀ ps,u≠.tbl ps)→(upd (upd H T (.tbl (ps++more))) c' o) b=some u:=fun {b u} e nu=>by rw [Zaj (Zah e hn),Zaj (ne e nu)]; exact e
 refine I.un ⟨fun b u q n _ _=>k b u (fun z=>by rw [z,hT] at n; cases n) q,fun b u q n _ _=>⟨u.slots,k b u (fun z=>by rw [z,hT] at n; cases n) q⟩,fun b u q n _=>?_,fun b u q _=>?_,
  fun b xs q=>to q (fun _ z=>nomatch z),fun b u xs q=>to q (fun _ z=>nomatch z),fun b ps' q=>?_⟩ fun b u e=>?_
 ·rw [Zaj (Nat.ne_of_lt (Nat.lt_of_lt_of_le (Heap.lt_size q) hc)),Zaj (fun z=>by rw [z,hT] at n; cases n)]; exact n
 ·by_cases z:b=T
  ·exact ⟨_,by rw [z]; exact eT⟩
  ·exact ⟨u,k b u z q⟩
 ·by_cases z:b=T
  ·subst z
   rw [hT] at q; cases q
   exact ⟨more,by rw [Zaj nT,Zab]⟩
  ·exact ⟨#[],by rw [Zaj (Zah q hn),Zaj z,q]; simp⟩
 ·by_cases z:b=c'
  ·subst z; rw [Zab] at e; cases e; exact new
  ·rw [Zaj z] at e
   by_cases zT:b=T
   ·subst zT; rw [Zab] at e; cases e; exact eT
   ·rw [Zaj zT] at e
    refine (I.hok b u e).stay (fun c v hcb r=>k c v ?_ r) (fun c r=>to r (fun _ z=>nomatch z)) fun c xs r=>to r (fun _ z=>nomatch z)
    rcases hcb with rfl | hcb
    ·exact zT
    ·exact ne hcb (fun _ z=>nomatch z)
end
structure BmIn (K:Frag) (mg:Str→Option Value):Prop where
 ex:∃ bm sl,mg "__builtins__"=some (.ref bm)∧bm≠builtinsNs∧bm≠mainGlobals∧K.lookup bm=some ⟨.type "module",some builtinsNs,.plain,sl⟩
abbrev lamObj (mg:Str→Option Value) (qual:Str) (params:Arguments) (body:Expr) (scope:Scope) (clos:List (Str × Addr)) (c':Addr) (ctv:Value):Obj:=kla_obj "<lambda>" qual params body scope clos ((mg "__name__").getD .none) c' ctv
def tLam (mg:Str→Option Value) (T:Addr) (pos:Pos) (params:Arguments) (body:Expr) (scope:Scope) (clos:List (Str × Addr)) (qual:Str):TE:=fun σ H Q=>∃ ps,H T=some (.tbl ps)∧TriplesOk ps.toList ∧
 ((codeAmong pos ps.toList=none∧∀ c' f ctv,H c'=none→H f=none→c'≠f→c'≠T→f≠T→Q (.ref f) (upd (upd (upd H T (.tbl (ps++#[rawInt pos.line,rawInt pos.col,.ref c']))) c' (CodeO c' qual)) f (ObjO f (lamObj mg qual params body scope clos c' ctv)))) ∨
  ∃ c',codeAmong pos ps.toList=some (.ref c')∧H c'=some (CodeO c' qual)∧∀ f ctv,H f=none→Q (.ref f) (upd H f (ObjO f (lamObj mg qual params body scope clos c' ctv))))
section
variable {X:Cx}
theorem pe_lam {params:Arguments} {body:Expr} {scope:Scope} {pos:Pos} {c T:Addr} {clos:List (Str × Addr)} {qual:Str} (hcode:X.env.code=.ref c) (hC:∀ h,X.K.In h→CodeHd h c T) (hB:BmIn X.K X.mg) (hdef:defaultsOf params X.env=([],[]))
  (hcl:closureFor scope X.env=pure clos) (hq:X.env.qual++"<lambda>"=qual):PE X (.Lambda params body scope pos) (tLam X.mg T pos params body scope clos qual):=by
 intro pins s σ H Q I h
 obtain ⟨ps,hT,ht,alt⟩:=h
 have hP:s.heap.get? T=some (tabObj ps):=I.hok T _ hT
 have hg:s.heap.Ns mainGlobals X.mg:=I.mod.glob.keeps I.bk
 obtain ⟨bm,sl,b1,b2,b3,b4⟩:=hB.ex
 have hbm:X.base.get? bm=some ⟨.type "module",some builtinsNs,.plain,sl⟩:=I.mod.kin bm _ b4
 have hbT:bm≠T:=fun z=>by
  have:=(I.bs bm _ hbm).2
  rw [z,hT] at this; cases this
 have hgT:mainGlobals≠T:=fun z=>by
  obtain ⟨o,es,ep,e,_⟩:=I.mod.glob
  have:=(I.bs _ _ e).2
  rw [z,hT] at this; cases this
 have hb:s.heap.BuiltinsAt X.mg T:=⟨bm,_,b1,b2,b3,hbT,I.bk bm _ hbm,rfl,rfl,rfl⟩
 refine kla_eval hdef ?_
 rw [hq]
 rcases alt with ⟨hnf,q⟩ | ⟨c',hf,hc',q⟩
 ·refine kla_makeFunction hcl I.ok.glob hg hcode (hC _ I.kIn) hP ht hnf hgT hb fun c' ctv h' tk hx hge hlt hrec htb=>?_
  have I1:=I.grow (t':=tk) (h1:=h') (c':=c') (o:=CodeO c' qual) (more:=#[rawInt pos.line,rawInt pos.col,.ref c']) hT (fun b u nb e=>hx b u nb e) htb hge (codeO_ok hrec)
  have hn:H c'=none:=I.hok.fresh hge
  have hnf':H h'.objs.size=none:=I.hok.fresh (Nat.le_trans hge (Nat.le_of_lt hlt))
  have I2:=I1.laid (a:=h'.objs.size) (o:=ObjO h'.objs.size (lamObj X.mg qual params body scope clos c' ctv)) (t':=tk) (h':=h'.push (lamObj X.mg qual params body scope clos c' ctv)) (fun b u e=>Heap.get?_push_of_some _ e) (Nat.le_refl _) (Zkq (Heap.get?_push_size _ rfl))
  exact ⟨.ref h'.objs.size,_,I2,rfl,q c' h'.objs.size ctv hn hnf' (Nat.ne_of_lt hlt) (Ne.symm (Zah hT hn)) (Ne.symm (Zah hT hnf'))⟩
 ·refine kla_makeFunctionHit hcl I.ok.glob hg hcode (hC _ I.kIn) hP ht hf hb fun ctv h' tk hk hsz=>?_
  have hnf':H h'.objs.size=none:=I.hok.fresh hsz
  have I1:=I.kept (t':=tk) hk
  have I2:=I1.laid (a:=h'.objs.size) (o:=ObjO h'.objs.size (lamObj X.mg qual params body scope clos c' ctv)) (t':=tk) (h':=h'.push (lamObj X.mg qual params body scope clos c' ctv)) (fun b u e=>Heap.get?_push_of_some _ e) (Nat.le_refl _) (Zkq (Heap.get?_push_size _ rfl))
  exact ⟨.ref h'.objs.size,_,I2,rfl,q h'.objs.size ctv hnf'⟩
end
end L2
namespace L2
open PySem PySem.Spec PyProof.Rows PySem.W
section
variable {X:Cx} {pins:List (Addr × Obj)} {σ:St} {H:Hp} {s:Shared}
theorem Inv.track {D:Addr} {o:HO} (I:Inv X pins σ H s) (hn:H D=none) (h1:X.s₀.heap.objs.size≤D) (hL:D≠X.env.locals) (h2:∀ x c,X.env.cells.lookup x=some c→c≠D) (h3:∀ p∈X.pn++pins,p.1≠D)
  (new:ObjOk X.prog X.w (upd H D o) s.heap D o):Inv X pins σ (upd H D o) s:=by
 have to:∀ {b:Addr} {u:HO},H b=some u→(upd H D o) b=some u:=fun {b u} e=>by rw [Zaj (Zah e hn)]; exact e
 have J:=I.step (h':=s.heap) (H':=upd H D o) (g':=s.gens) (d':=s.drawn) (t':=s.toks) (ch:=[D]) (fun b hb=>?_) (fun b u _ _ _ e _=>e) (fun b u _ _ _ e _=>⟨u.slots,e⟩) (fun b u hc e n=>?_) (fun b u _ e=>⟨u,e⟩)
  (fun b xs e=>to e) (fun b u xs e=>to e) (fun b ps e=>⟨#[],by rw [to e]; simp⟩) (fun m hm=>hm) (fun b u e=>?_) I.bare
 ·exact J
 ·have e:b=D:=by simpa using hb
  subst e
  exact ⟨.inr h1,hL,h2,h3⟩
 ·rw [Zaj (fun z=>hc (by simp [z]))]; exact n
 ·by_cases hb:b=D
  ·subst hb; rw [Zab] at e; cases e; exact new
  ·rw [Zaj hb] at e
   exact (I.hok b u e).stay (fun c v _ r=>r) (fun c r=>to r) fun c xs r=>to r
theorem Inv.apart (I:Inv X pins σ H s) {D:Addr} (h:s.heap.objs.size≤D):H D=none∧X.s₀.heap.objs.size≤D∧D≠X.env.locals∧D ∉ X.fs∧(∀ x c,X.env.cells.lookup x=some c→c≠D)∧∀ p∈X.pn++pins,p.1≠D:=by
 have no:¬ D < s.heap.objs.size:=Nat.not_lt.mpr h
 refine ⟨I.hok.fresh h,Nat.le_trans I.sz h,fun z=>no (by rw [z]; exact I.lt),fun hb=>?_,fun x c e z=>?_,fun p hp z=>?_⟩
 ·obtain ⟨_,o,ho,_⟩:=I.ok.funs.mem hb
  exact no (Nat.lt_of_lt_of_le (Heap.lt_size ho) I.sz)
 ·obtain ⟨v,o,ho,_⟩:=I.cell x c e
  exact no (by rw [← z]; exact Heap.lt_size ho)
 ·exact no (by rw [← z]; exact Heap.lt_size (I.pin p hp).1)
theorem Inv.unpin {p:Addr × Obj} (I:Inv X (p :: pins) σ H s):Inv X pins σ H s:=I.pins_of fun q hq=>I.pin q (List.mem_append_right _ (List.mem_cons_of_mem _ hq))
end
section
variable {X:Cx} {pins:List (Addr × Obj)} {σ:St} {H:Hp} {s:Shared} {A:Around} {D kS:Addr} {vs ks:List Value} {e e1:Nat}
theorem Zfp {p:Addr × Obj} (I:Inv X pins σ H s) (hp:p∈pins):s.heap.get? p.1=some p.2:=(I.pin p (List.mem_append_right _ hp)).1
theorem Inv.repin {D:Addr} {n:Nat} {items:Array Value} {g:Array Value→Array Value} {pins:List (Addr × Obj)} (I:Inv X ((D,seqObj "list" items n) :: pins) σ H s) (h1:X.s₀.heap.objs.size≤D) (h2:∀ x c,X.env.cells.lookup x=some c→c≠D) (h3:∀ p∈X.pn++pins,p.1≠D) :
  ∃ c,Inv X ((D,seqObj "list" (g items) c) :: pins) σ H { s with heap:=s.heap.update D (Obj.mapSeq g) }:=by
 obtain ⟨e,hn,hL,hf,_⟩:=I.pin (D,seqObj "list" items n) (List.mem_append_right _ List.mem_cons_self)
 obtain ⟨c,hc⟩:∃ c,(s.heap.update D (Obj.mapSeq g)).get? D=some (seqObj "list" (g items) c):=⟨_,get?_update_seq e g⟩
 have J:Inv X pins σ H { s with heap:=s.heap.update D (Obj.mapSeq g),toks:=s.toks }:=I.unpin.turned (it:=D) (t':=s.toks) (fun b o nb q=>by rw [Heap.get?_update_ne _ _ _ _ nb]; exact q) hn hL (.inr h1) h2 h3
 refine ⟨c,J.pins_of fun p hp=>?_⟩
 rcases List.mem_cons.mp hp with rfl | hp
 ·exact ⟨hc,hn,hL,hf,fun v z=>nomatch z⟩
 ·exact J.pin p (List.mem_append_right _ hp)
end
section
variable {X:Cx} {pins:List (Addr × Obj)} {σ:St} {H:Hp} {s:Shared} {A:Around} {D kS f:Addr} {vs:List Value} {e1:Nat} {kts:List (Addr × List Int)} {m:Nat} {key:List Int→Int} {P:PySem.Fin→Shared→Prop} {E:Value→Shared→Prop}
end
section
variable {X:Cx}
end
end L2
namespace L2
open PySem PySem.Spec PyProof.Rows PySem.W
theorem ltG_of {M:Model} {A:Around} {E:Value→Shared→Prop} {s:Shared} {kd:SortKind} {κ:Value→Int} {S:Keyed→Prop} (h:∀ x y,S x→S y→∀ C:Bool→Shared→Prop,C (decide (κ x.1 < κ y.1)) s→wpAny M A (keyLt' kd x.1 y.1) C (fun _ _=>False) s):LtG M A E s kd (fun p=>κ p.1) S:=fun x y hx hy st Q hk hq=>by
 rw [lt'_eq]
 refine wpS_bind (wpS_get ?_)
 rw [hk]
 refine wpS_bind (wpS_lift (wpAny_attempt (wpAny_mono (h x y hx hy (fun b s'=>b=decide (κ x.1 < κ y.1)∧s'=s) ⟨rfl,rfl⟩) (fun b s' hb=>?_) fun _ _ z=>z.elim)))
 obtain ⟨rfl,rfl⟩:=hb
 exact ⟨rfl,wpS_pure hq⟩
theorem perm_pre {α β:Type} {f:α→β} {l m:List β} (h:l.Perm m):∀ ts:List α,m=ts.map f→∃ ts':List α,ts'.Perm ts∧l=ts'.map f:=by
 induction h with
 | nil =>
  intro ts e
  rw [List.map_eq_nil_iff.mp e.symm]
  exact ⟨[],.nil,rfl⟩
 | cons x p ih =>
  intro ts e
  obtain ⟨t,r,rfl,e1,e2⟩:=List.map_eq_cons_iff.mp e.symm
  obtain ⟨r',p',e'⟩:=ih r e2.symm
  exact ⟨t :: r',p'.cons t,by rw [e',List.map_cons,e1]⟩
 | swap x y l =>
  intro ts e
  obtain ⟨t,r,rfl,e1,e2⟩:=List.map_eq_cons_iff.mp e.symm
  obtain ⟨u,q,rfl,e3,e4⟩:=List.map_eq_cons_iff.mp e2
  exact ⟨u :: t :: q,List.Perm.swap _ _ _,by rw [List.map_cons,List.map_cons,e1,e3,e4]⟩
 | trans p q ih1 ih2 =>
  intro ts e
  obtain ⟨t2,p2,e2⟩:=ih2 ts e
  obtain ⟨t1,p1,e1⟩:=ih1 t2 e2
  exact ⟨t1,p1.trans p2,e1⟩
def KeyOk (X:Cx) (σ:St) (H:Hp) (kvs:List V) (kd:SortKind) (κ:Value→Int):Prop:=∀ (A:Around) (ks:List Value) (pins:List (Addr × Obj)) (s:Shared),Vals kvs ks→Inv X pins σ H s →
 (∀ (C:SortKind→Shared→Prop) (E:Value→Shared→Prop),2≤ks.length→C kd s→wpAny (model X.prog X.w) A (keyKind' ks.toArray) C E s) ∧
 ∀ x∈ks,∀ y∈ks,∀ C:Bool→Shared→Prop,C (decide (κ x < κ y)) s→wpAny (model X.prog X.w) A (keyLt' kd x y) C (fun _ _=>False) s
section
variable {X:Cx} {pins:List (Addr × Obj)} {σ:St} {H:Hp} {s:Shared} {A:Around} {D kS f:Addr} {vs:List Value} {e1:Nat} {kvs:List V} {kd:SortKind} {κ:Value→Int} {P:PySem.Fin→Shared→Prop} {E:Value→Shared→Prop}
theorem gsk_tail {e:Nat} {st:SortSt} {ks out:List Value} (I:Inv X ((kS,seqObj "list" ks.toArray e) :: (D,seqObj "list" #[] e1) :: pins) σ H s) (hk1:X.s₀.heap.objs.size≤kS) (hkc:∀ x c,X.env.cells.lookup x=some c→c≠kS) (hkp:∀ p∈X.pn++((D,seqObj "list" #[] e1) :: pins),p.1≠kS)
  (hD1:X.s₀.heap.objs.size≤D) (hDc:∀ x c,X.env.cells.lookup x=some c→c≠D) (hDp:∀ p∈X.pn++pins,p.1≠D) (hout:(arrOf st).map (·.2)=List.toArray out) (hz:out.length≤sizeLine) (hkz:ks.length≤sizeLine) (hf:failedOf st=none)
  (h:∀ (c:Nat) (s':Shared),Inv X pins σ H s'→s'.heap.get? D=some (seqObj "list" (List.toArray out) c)→P (.done (.ret .none)) s'):wpAny (model X.prog X.w) A (ksk_tail D false e1 (.ref kS) st) P E s:=by
 have ek:=Zfp I List.mem_cons_self
 obtain ⟨ck,I1⟩:=I.repin (g:=fun _=>(#[]:Array Value)) hk1 hkc hkp
 have eD:=Zfp I1 (List.mem_cons_of_mem _ List.mem_cons_self)
 obtain ⟨cD,I2⟩:=(I1.unpin).repin (g:=fun _=>List.toArray out) hD1 hDc hDp
 unfold ksk_tail
 try dsimp only
 rw [hout]
 refine wpAny_bind (listUpdate_at ek rfl ?_ (by rw [List.size_toArray]; exact hkz) (Nat.zero_le _))
 refine wpAny_bind (wpAny_letGo ?_)
 refine wpAny_bind (seqEpoch_at eD rfl ?_)
 refine wpAny_bind (listUpdate_at eD rfl ?_ (Nat.zero_le _) (by show out.toArray.size≤_; rw [List.size_toArray]; omega))
 rw [hf]
 simp only [bne_self_eq_false,Bool.false_eq_true,if_false]
 exact wpAny_pure (h cD _ I2.unpin (Zfp I2 List.mem_cons_self))
theorem gsk_end {e:Nat} {ks:List Value} (G:KeyOk X σ H kvs kd κ) (hks:Vals kvs ks) (I:Inv X ((kS,seqObj "list" ks.toArray e) :: (D,seqObj "list" #[] e1) :: pins) σ H s) (hk1:X.s₀.heap.objs.size≤kS) (hkc:∀ x c,X.env.cells.lookup x=some c→c≠kS) (hkp:∀ p∈X.pn++((D,seqObj "list" #[] e1) :: pins),p.1≠kS)
  (hD1:X.s₀.heap.objs.size≤D) (hDc:∀ x c,X.env.cells.lookup x=some c→c≠D) (hDp:∀ p∈X.pn++pins,p.1≠D) (hl:ks.length=vs.length) (hz:vs.length≤sizeLine)
  (h:∀ (zs:List Keyed) (c:Nat) (s':Shared),zs.Perm (ks.zip vs)→(zs.map fun p=>κ p.1).Pairwise (·≤·)→Inv X pins σ H s'→s'.heap.get? D=some (seqObj "list" (List.toArray (zs.map (·.2))) c)→P (.done (.ret .none)) s') :
  wpAny (model X.prog X.w) A (ksk_end D false vs.toArray e1 (.ref kS) ks.toArray) P E s:=by
 obtain ⟨g1,g2⟩:=G A ks _ s hks I
 unfold ksk_end
 try dsimp only
 simp only [Bool.false_eq_true,if_false]
 have hsz:vs.toArray.size=vs.length:=by simp
 have zl:((ks.toArray.zip vs.toArray).toList:List Keyed)=ks.zip vs:=by simp
 by_cases h2:vs.toArray.size < 2
 ·rw [if_pos h2,if_pos h2]
  refine wpAny_bind (wpAny_pure ?_)
  rw [StateT.run_pure]
  refine wpAny_bind (wpAny_pure ?_)
  dsimp only
  have e2:(arrOf (SortSt.mk' general' (ks.toArray.zip vs.toArray) #[] 7 none)).map (·.2)=List.toArray ((ks.zip vs).map (·.2)):=by
   show (ks.toArray.zip vs.toArray).map (·.2)=_
   apply Array.ext'
   rw [Array.toList_map,zl]
  refine gsk_tail I hk1 hkc hkp hD1 hDc hDp e2 (by rw [List.length_map,List.length_zip,hl,Nat.min_self]; exact hz) (by omega) rfl fun c s' I' e'=>h _ c s' (List.Perm.refl _) ?_ I' e'
  rw [hsz] at h2
  have l1:((ks.zip vs).map fun p=>κ p.1).length≤1:=by rw [List.length_map,List.length_zip]; omega
  generalize (ks.zip vs).map (fun p=>κ p.1)=l at l1
  match l,l1 with
  | [],_=>exact List.Pairwise.nil
  | [x],_=>exact List.pairwise_singleton _ _
 ·rw [if_neg h2,if_neg h2]
  refine wpAny_bind (g1 _ _ (by omega) ?_)
  refine wpAny_bind (wpAny_mono (Zhd (A:=A) (E:=E) (s:=s) (M:=model X.prog X.w) (kd:=kd) (κ:=fun p=>κ p.1) (S:=fun p=>p∈ks.zip vs) (st:=SortSt.mk' kd (ks.toArray.zip vs.toArray) #[] 7 none)
   (Q:=fun _ st'=>(arrOf st').toList.Perm (ks.zip vs)∧failedOf st'=none∧Rise (fun p:Keyed=>κ p.1) (arrOf st').toList) (ltG_of fun x y hx hy C hc=>g2 _ (List.of_mem_zip hx).1 _ (List.of_mem_zip hy).1 C hc) rfl rfl rfl
   (fun x hx=>by rw [← zl]; exact hx) fun u p f r=>⟨by rw [← zl]; exact Array.perm_iff_toList_perm.mp p,f,r⟩) ?_ fun _ _ e=>e)
  rintro ⟨⟨⟩,st'⟩ s' ⟨rfl,hp,hf,hr⟩
  dsimp only
  have e2:(arrOf st').map (·.2)=List.toArray ((arrOf st').toList.map (·.2)):=by
   apply Array.ext'
   rw [Array.toList_map]
  refine gsk_tail I hk1 hkc hkp hD1 hDc hDp e2 (by rw [List.length_map,hp.length_eq,List.length_zip,hl,Nat.min_self]; exact hz) (by omega) hf fun c s' I' e'=>h _ c s' hp ?_ I' e'
  exact List.pairwise_map.mpr hr
theorem gsk_rest (G:KeyOk X σ H kvs kd κ) (I:Inv X ((kS,seqObj "list" #[] 0) :: (D,seqObj "list" #[] e1) :: pins) σ H s) (hk1:X.s₀.heap.objs.size≤kS) (hkc:∀ x c,X.env.cells.lookup x=some c→c≠kS) (hkp:∀ p∈X.pn++((D,seqObj "list" #[] e1) :: pins),p.1≠kS)
  (hD1:X.s₀.heap.objs.size≤D) (hDc:∀ x c,X.env.cells.lookup x=some c→c≠D) (hDp:∀ p∈X.pn++pins,p.1≠D) (hl:kvs.length=vs.length) (hz:vs.length≤sizeLine)
  (hcall:∀ (i:Nat) (v:Value) (k:V) (pins':List (Addr × Obj)) (s':Shared),vs[i]?=some v→kvs[i]?=some k→Inv X pins' σ H s'→wpAny (model X.prog X.w) A (call (.ref f) [v]) (fun u s''=>RelV k u∧Inv X pins' σ H s'') (fun _ _=>False) s')
  (h:∀ (ks:List Value) (zs:List Keyed) (c:Nat) (s':Shared),Vals kvs ks→zs.Perm (ks.zip vs)→(zs.map fun p=>κ p.1).Pairwise (·≤·)→Inv X pins σ H s'→s'.heap.get? D=some (seqObj "list" (List.toArray (zs.map (·.2))) c)→P (.done (.ret .none)) s') :
  wpAny (model X.prog X.w) A (ksk_rest D (.ref f) false vs.toArray e1 (.ref kS)) P E s:=by
 unfold ksk_rest
 refine wpAny_bind (wpAny_rule ?_)
 first
  | rw [List.forIn_toArray]
  | (rw [← Array.forIn_toList]; simp only [List.toList_toArray])
  | rw [← Array.forIn_toList]
 refine wpAny_bind (ksk_fold (fun i s'=>∃ (ks:List Value) (e:Nat),Vals (kvs.take i) ks∧Inv X ((kS,seqObj "list" ks.toArray e) :: (D,seqObj "list" #[] e1) :: pins) σ H s') vs 0 s ⟨[],0,by rw [List.take_zero]; exact .nil,I⟩ (fun j x s' hx hJ=>?_) fun s' hJ=>?_)
 ·obtain ⟨ks,e,hv,J⟩:=hJ
  rw [Nat.zero_add] at hv ⊢
  have hj:j < kvs.length:=by rw [hl]; exact (List.getElem?_eq_some_iff.mp hx).1
  have htj:kvs[j]?=some kvs[j]:=List.getElem?_eq_getElem hj
  refine wpAny_bind (wpAny_attempt (wpAny_mono (hcall j x kvs[j] _ s' hx htj J) (fun u s'' hu=>?_) fun _ _ hF=>hF.elim))
  obtain ⟨ru,J'⟩:=hu
  have ek:=Zfp J' List.mem_cons_self
  obtain ⟨c,J2⟩:=J'.repin (g:=(·.push u)) hk1 hkc hkp
  have ea:(ks.toArray).push u=(ks++[u]).toArray:=by simp
  rw [ea] at J2
  have lk:ks.length=j:=by rw [← hv.length,List.length_take]; omega
  try dsimp only
  refine wpAny_bind (listUpdate_at ek rfl ?_ (by rw [List.size_toArray]; omega) (Nat.le_trans (Nat.le_of_eq (Array.size_push ..)) (by rw [List.size_toArray]; omega)))
  exact wpAny_pure ⟨rfl,ks++[u],c,by rw [List.take_succ,htj]; exact hv.append (.cons ru .nil),J2⟩
 ·obtain ⟨ks,e,hv,J⟩:=hJ
  rw [Nat.zero_add,← hl,List.take_length] at hv
  try dsimp only
  refine wpAny_bind (listItems_at (Zfp J List.mem_cons_self) rfl ?_)
  exact gsk_end G hv J hk1 hkc hkp hD1 hDc hDp (by rw [← hv.length]; exact hl) hz fun zs c s'=>h ks zs c s' hv
end
theorem list_sortG {X:Cx} {pins:List (Addr × Obj)} {σ:St} {H:Hp} {s:Shared} {A:Around} {D f:Addr} {vs:List Value} {n:Nat} {kvs:List V} {kd:SortKind} {κ:Value→Int} {P:PySem.Fin→Shared→Prop} {E:Value→Shared→Prop} (G:KeyOk X σ H kvs kd κ)
  (I:Inv X pins σ H s) (ho:s.heap.get? D=some (seqObj "list" vs.toArray n)) (hD:H D=none) (hD1:X.s₀.heap.objs.size≤D) (hDL:D≠X.env.locals) (hDf:D ∉ X.fs) (hDc:∀ x c,X.env.cells.lookup x=some c→c≠D) (hDp:∀ p∈X.pn++pins,p.1≠D)
  (hl:kvs.length=vs.length) (hz:vs.length≤sizeLine)
  (hcall:∀ (i:Nat) (v:Value) (k:V) (pins':List (Addr × Obj)) (s':Shared),vs[i]?=some v→kvs[i]?=some k→Inv X pins' σ H s'→wpAny (model X.prog X.w) A (call (.ref f) [v]) (fun u s''=>RelV k u∧Inv X pins' σ H s'') (fun _ _=>False) s')
  (h:∀ (ks:List Value) (zs:List Keyed) (c:Nat) (s':Shared),Vals kvs ks→zs.Perm (ks.zip vs)→(zs.map fun p=>κ p.1).Pairwise (·≤·)→Inv X pins σ H s'→s'.heap.get? D=some (seqObj "list" (List.toArray (zs.map (·.2))) c)→P (.done (.ret .none)) s') :
  wpAny (model X.prog X.w) A (Builtin.«list.sort» ⟨[.ref D],[(Str.ofString "key",.ref f)]⟩) P E s:=by
 rw [ksk_t1]
 unfold ksk_tree
 refine wpAny_bind (listItems_at ho rfl ?_)
 refine wpAny_bind (listUpdate_at ho rfl ?_ (by rw [List.size_toArray]; exact hz) (Nat.zero_le _))
 obtain ⟨e1,ho1⟩:∃ e1,(s.heap.update D (Obj.mapSeq fun _=>(#[]:Array Value))).get? D=some (seqObj "list" #[] e1):=⟨_,get?_update_seq ho fun _=>#[]⟩
 have I1:Inv X pins σ H { s with heap:=s.heap.update D (Obj.mapSeq fun _=>(#[]:Array Value)),toks:=s.toks }:=I.turned (it:=D) (fun b o nb q=>by rw [Heap.get?_update_ne _ _ _ _ nb]; exact q) hD hDL (.inr hD1) hDc hDp
 have I1:Inv X ((D,seqObj "list" #[] e1) :: pins) σ H { s with heap:=s.heap.update D (Obj.mapSeq fun _=>(#[]:Array Value)) }:=I1.pins_of fun p hp=>by
  rcases List.mem_cons.mp hp with rfl | hp
  ·exact ⟨ho1,hD,hDL,hDf,fun v z=>nomatch z⟩
  ·exact I1.pin p (List.mem_append_right _ hp)
 refine wpAny_bind (seqEpoch_at ho1 rfl ?_)
 refine wpAny_bind (wpAny_newTuple ?_ hz)
 refine wpAny_bind (wpAny_newList ?_ (Nat.zero_le _))
 refine wpAny_holding ?_
 have I2:=(I1.kept (t':=s.toks) (h':=(s.heap.update D (Obj.mapSeq fun _=>(#[]:Array Value))).push (seqObj "tuple" vs.toArray 0)) fun b u q=>Heap.get?_push_of_some _ q)
 have ap:=I2.apart (D:=((s.heap.update D (Obj.mapSeq fun _=>(#[]:Array Value))).push (seqObj "tuple" vs.toArray 0)).objs.size) (Nat.le_refl _)
 have I3:=I2.kept (t':=s.toks) (h':=((s.heap.update D (Obj.mapSeq fun _=>(#[]:Array Value))).push (seqObj "tuple" vs.toArray 0)).push (seqObj "list" #[] 0)) fun b u q=>Heap.get?_push_of_some _ q
 have hk0:(((s.heap.update D (Obj.mapSeq fun _=>(#[]:Array Value))).push (seqObj "tuple" vs.toArray 0)).push (seqObj "list" #[] 0)).get? ((s.heap.update D (Obj.mapSeq fun _=>(#[]:Array Value))).push (seqObj "tuple" vs.toArray 0)).objs.size=some (seqObj "list" #[] 0):=Heap.get?_push_size _ rfl
 show wpAny (model X.prog X.w) A (ksk_rest D (.ref f) false vs.toArray e1 (.ref ((s.heap.update D (Obj.mapSeq fun _=>(#[]:Array Value))).push (seqObj "tuple" vs.toArray 0)).objs.size)) P E { s with heap:=((s.heap.update D (Obj.mapSeq fun _=>(#[]:Array Value))).push (seqObj "tuple" vs.toArray 0)).push (seqObj "list" #[] 0) }
 obtain ⟨a1,a2,a3,a4,a5,a6⟩:=ap
 refine gsk_rest G (I3.pins_of fun p hp=>?_) a2 a5 a6 hD1 hDc hDp hl hz hcall h
 rcases List.mem_cons.mp hp with rfl | hp
 ·exact ⟨hk0,a1,a3,a4,fun v z=>nomatch z⟩
 ·exact I3.pin p (List.mem_append_right _ hp)
theorem Zkg {X:Cx} {pins:List (Addr × Obj)} {σ:St} {H:Hp} {s:Shared} {f p:Addr} {β:Type} {ts:List (Addr × β)} {kv:Addr × β→V} {K:Addr × β→Int} {kd:SortKind} {κ:Value→Int} {Q:VK} (I:Inv X pins σ H s) (hp:SqL X.K H p (ts.map fun t=>V.ref t.1)) (G:KeyOk X σ H (ts.map kv) kd κ)
  (hκ:∀ t∈ts,∀ u,RelV (kv t) u→κ u=K t)
  (hcall:∀ t∈ts,∀ (pins':List (Addr × Obj)) (s':Shared),Inv X pins' σ H s'→wpAny (model X.prog X.w) X.A.in1.in1 (call (.ref f) [.ref t.1]) (fun u s''=>RelV (kv t) u∧Inv X pins' σ H s'') (fun _ _=>False) s')
  (h:∀ l (ts':List (Addr × β)),H l=none→ts'.Perm ts→(ts'.map K).Pairwise (·≤·)→Q (.ref l) (upd H l (.lst (ts'.map fun t=>V.ref t.1)))) :
  wpAny (model X.prog X.w) X.A (call (.builtin "sorted") [.ref p] [(Str.ofString "key",.ref f)]) (EP X pins σ Q) X.xe s:=by
 obtain ⟨its,rv,pl,hz⟩:=I.list hp
 have hits:its=ts.map fun t=>Value.ref t.1:=by
  have:=Zix (ts:=ts.map (·.1)) (its:=its) (by rw [List.map_map]; exact rv)
  rw [this,List.map_map]; rfl
 have hlen:its.length=ts.length:=by rw [hits,List.length_map]
 rw [List.length_map] at hz
 refine call_function_entry_kw kind_sorted plain_sorted entry_sorted (ksk_s1 _ _) ?_
 unfold Builtin.«sorted»
 refine wpAny_bind (m:=checkCount "sorted" 1 1 _) (wpAny_pure ?_)
 refine wpAny_bind (collect_list pl.isList ?_ (by rw [hlen]; exact hz))
 refine wpAny_bind (wpAny_newList ?_ (by rw [hlen]; exact hz))
 have hsz:((s.heap.push (seqObj "list" #[] 0)).update s.heap.objs.size (Obj.mapSeq (·++its.toArray))).objs.size=s.heap.objs.size+1:=by
  rw [Heap.size_update,size_push']
 have hoL:(((s.heap.push (seqObj "list" #[] 0)).update s.heap.objs.size (Obj.mapSeq (·++its.toArray))).push (seqObj "list" its.toArray 0)).get? (s.heap.objs.size+1)=some (seqObj "list" its.toArray 0):=by
  rw [← hsz]; exact Heap.get?_push_size _ rfl
 have keep:∀ b o,s.heap.get? b=some o→(((s.heap.push (seqObj "list" #[] 0)).update s.heap.objs.size (Obj.mapSeq (·++its.toArray))).push (seqObj "list" its.toArray 0)).get? b=some o:=fun b o q=>by
  have hlt:b < s.heap.objs.size:=Heap.lt_size q
  rw [Heap.get?_push_ne _ _ _ (by rw [hsz]; exact Nat.ne_of_lt (Nat.lt_succ_of_lt hlt)),Heap.get?_update_ne _ _ _ _ (Nat.ne_of_lt hlt),Heap.get?_push_ne _ _ _ (Nat.ne_of_lt hlt)]
  exact q
 obtain ⟨a1,a2,a3,a4,a5,a6⟩:=I.apart (D:=s.heap.objs.size+1) (Nat.le_succ _)
 have I3:Inv X pins σ H { s with heap:=((s.heap.push (seqObj "list" #[] 0)).update s.heap.objs.size (Obj.mapSeq (·++its.toArray))).push (seqObj "list" its.toArray 0) }:=I.kept (t':=s.toks) keep
 show wpAny _ _ _ _ _ { s with heap:=((s.heap.push (seqObj "list" #[] 0)).update s.heap.objs.size (Obj.mapSeq (·++its.toArray))).push (seqObj "list" its.toArray 0) }
 rw [hsz]
 refine wpAny_bind (wpAny_holding (wpAny_call_entry_kw slot_list_sort ⟨_,hoL,rfl⟩ entry_list_sort ?body (ksk_l1 _ _)))
 case body =>
  refine list_sortG G I3 hoL a1 a2 a3 a4 a5 a6 (by rw [List.length_map,hlen]) (by rw [hlen]; exact hz) (fun i v k pins' s' hv hk J=>?_) fun ks zs c s' rk pz sz J eD=>?_
  ·rw [List.getElem?_map] at hk
   obtain ⟨t0,ht0,rfl⟩:=Option.map_eq_some_iff.mp hk
   rw [hits,List.getElem?_map,ht0] at hv
   cases hv
   exact hcall t0 (List.mem_of_getElem? ht0) pins' s' J
  ·refine ⟨_,rfl,wpAny_pure ⟨_,rfl,?_⟩⟩
   have lk:ks.length=ts.length:=by rw [← rk.length,List.length_map]
   have ez:ks.zip its=(ts.zip ks).map fun p=>(p.2,Value.ref p.1.1):=by
    rw [hits]
    clear rk sz pz hp G hκ hcall h hits rv pl hlen hz I3 hoL keep hsz J
    induction ts generalizing ks with
    | nil=>simp
    | cons t r ih =>
     match ks,lk with
     | k :: ks,lk =>
      have:=ih ks (by simpa using lk)
      simpa using this
   obtain ⟨ys,py,ey⟩:=perm_pre pz (ts.zip ks) ez
   have memK:∀ y∈ts.zip ks,κ y.2=K y.1:=fun y hy=>by
    refine hκ y.1 (List.of_mem_zip hy).1 y.2 ?_
    clear ez py ey pz sz hits rv pl hlen hz I3 hoL keep hsz J hp G hκ hcall h
    induction ts generalizing ks with
    | nil=>simp at hy
    | cons t r ih =>
     match ks,rk,lk with
     | k :: ks,.cons r1 r2,lk =>
      rw [List.zip_cons_cons] at hy
      rcases List.mem_cons.mp hy with rfl | hy
      ·exact r1
      ·exact ih ks r2 (by simpa using lk) hy
   have eO:zs.map (·.2)=(ys.map (·.1)).map fun t=>Value.ref t.1:=by
    rw [ey,List.map_map,List.map_map]; rfl
   have pT:(ys.map (·.1)).Perm ts:=by
    have:=py.map (·.1)
    rwa [List.map_fst_zip (by omega)] at this
   rw [eO] at eD
   refine ⟨.ref (s.heap.objs.size+1),_,J.track (o:=.lst ((ys.map (·.1)).map fun t=>V.ref t.1)) a1 a2 a3 a5 a6 ⟨?_,_,c,?_,eD⟩,rfl,h _ _ a1 pT ?_⟩
   ·rw [List.length_map,pT.length_eq]; exact hz
   ·have:=Zg1 ((ys.map (·.1)).map (·.1))
    rw [List.map_map,List.map_map (l:=ys.map (·.1))] at this
    exact this
   ·rw [ey,List.map_map] at sz
    rw [List.map_map]
    have:ys.map (K∘fun y=>y.1)=ys.map ((fun p:Keyed=>κ p.1)∘fun p=>(p.2,Value.ref p.1.1)):=List.map_congr_left fun y hy=>(memK y (py.mem_iff.mp hy)).symm
    rw [this]; exact sz
theorem keyOk_int {X:Cx} {σ:St} {H:Hp} {ns:List Int}:KeyOk X σ H (ns.map V.int) oneType' numOf:=fun A ks pins s rk I=>by
 have ia:IntsAre ks ns:=by simpa using Zew rk
 refine ⟨fun C E h2 hc=>?_,fun x hx y hy C hc=>?_⟩
 ·rw [ksk_kind (keys:=ks.toArray) (by simpa using ia) (by simpa using h2)]
  exact wpAny_pure hc
 ·obtain ⟨n,t,rfl⟩:=ia.all x hx
  obtain ⟨m,u,rfl⟩:=ia.all y hy
  exact kat_lt_int hc
end L2
namespace L2
open PySem PySem.Spec PyProof.Rows PySem.W
theorem def_in {X:Cx} {pins:List (Addr × Obj)} {σ:St} {H:Hp} {s:Shared} {A:Around} {f a:Addr} {fd:FuncData} {ps:List Str} {sp:Sp} {k:Nat} {kv:V} (F:FnOk X.prog X.w X.K X.mg X.base CX0 k f fd ps sp) (hb:Binds X.K fd ps []) (hr:Room k A) (e0:Env0 X.prog X.w X.K X.mg X.base A X.stack s H) (I:Inv X pins σ H s)
  (h:sp [.ref a] H (fun y H'=>y=kv∧H'=H) E0):wpAny (model X.prog X.w) A (call (.ref f) [.ref a]) (fun u s'=>RelV kv u∧Inv X pins σ H s') (fun _ _=>False) s:=by
 have r2:Vals [V.ref a] [Value.ref a]:=.cons rfl .nil
 have hl:([Value.ref a]++([]:List Value)).length=ps.length:=F.len _ _ _ _ h
 refine wpAny_call (codeAny_mono (F.run A X.stack s H ⟨[.ref a],[]⟩ [.ref a] [.ref a] _ E0 hr e0 (hb s [.ref a] I.kIn hl) r2 h) fun r s' hq=>?_)
 cases r with
 | error e=>exact hq.elim
 | ok fl =>
  cases fl with
  | ret y =>
   obtain ⟨z,H',J,rz,ez,eH⟩:=I.after hq
   subst ez eH
   exact ⟨rz,J⟩
  | next=>exact False.elim hq
  | brk=>exact False.elim hq
  | cont=>exact False.elim hq
def tSortDI (K:Frag) (sp:Sp) (ta:TA):TE:=fun σ H Q=>ta σ H fun xs H1=>∃ (p:Addr) (β:Type) (ts:List (Addr × β)) (key:Addr × β→Int),xs=[.ref p]∧SqL K H1 p (ts.map fun t=>V.ref t.1)∧(∀ t∈ts,sp [.ref t.1] H1 (fun y H'=>y=.int (key t)∧H'=H1) E0) ∧
 ∀ l (ts':List (Addr × β)),H1 l=none→ts'.Perm ts→(ts'.map key).Pairwise (·≤·)→Q (.ref l) (upd H1 l (.lst (ts'.map fun t=>V.ref t.1)))
section
variable {X:Cx} {k j:Nat} {y:Str} {ps:List Str} {sp:Sp} {e:Expr} {p q kp pos:Pos} {ta:TA}
theorem pe_sortDI (D:DefOk X.prog X.w X.K X.mg X.base k y ps sp) (hr:Room j X.A) (hg:Gl X "sorted") (hm:X.mg "sorted"=none) (ha:PA X [e] ta) (hj:k+2≤j:=by decide) (hy:Gl X y:=by rfl) (hdb:(y == ("__debug__":Str))=false:=by decide)
  (he:backTo pos (starEach [e] X.env)=(false,eval e X.env) :: backTo pos (starEach [] X.env):=by rfl) (hn:(backTo pos (starEach [e] X.env)).any (·.1)=false:=by rfl):PE X (.Call (.Name "sorted" p) [e] [⟨some "key",.Name y q,kp⟩] pos) (tSortDI X.K sp ta):=by
 intro pins s σ H Q I h
 obtain ⟨f,fd,F,hmf,hk,hb⟩:=D.ex
 refine wpAny_Call_Name_kw (Ze3 I hg hm (by rfl) ?_)
 refine PyProof.Rows.callWith_kw (thn (ha pos pins s σ H _ I h) fun us s1 ⟨vs,H1,I1,r1,q1⟩=>?_) he hn
 refine PyProof.Rows.kws_cons (Zf0 I1 hy hmf (PyProof.Rows.kws_nil ?_) hdb)
 obtain ⟨l,β,ts,key,rfl,hp,hsp,q⟩:=q1
 obtain ⟨u,rfl,ru⟩:=vals1 r1
 cases ru
 have hr2:=(hr.mono hj).in1.in1
 have G:=keyOk_int (X:=X) (σ:=σ) (H:=H1) (ns:=ts.map key)
 rw [List.map_map] at G
 exact Zkg (K:=key) (kv:=fun t=>V.int (key t)) I1 hp G (fun t _ u hu=>by obtain ⟨tk,rfl⟩:=hu; rfl) (fun t ht pins' s' J=>def_in F hb hr2 (J.env0.in1.in1) J (hsp t ht)) q
end
end L2
namespace L2
open PySem PySem.Spec PyProof.Rows PySem.W
def OnlyT (Ts:List Addr) (H:Hp):Prop:=(∀ b,H b=none∨(∃ o xs,H b=some (.frz o (.lst xs)))∨(b∈Ts∧H b=some (.tbl #[])))∧∀ T∈Ts,H T=some (.tbl #[])
theorem Zjn {h:Heap} {c T:Addr} (x:CodeHd h c T):isCodeTable h T:=by
 obtain ⟨o,vs,file,tf,flags,tg,inF,text,tt,e1,e2,e3,e4,_⟩:=x
 exact ⟨c,o,vs,e1,e2,e3,e4⟩
theorem law_callT {P:Program} {w:World} {K:PySem.W.Frag} {mg mb:Str→Option Value} {CX:CXT} {k:Nat} {fa a:Addr} {fd:FuncData} {x:Str} {sp:Sp} {s₁:Shared} {vs:List Value} {ns:List Int} {Ts:List Addr}
  (KX:K.In s₁.heap) (hns:s₁.heap.Ns mainGlobals mg) (hb:s₁.heap.Ns builtinsNs mb) (hbb:∀ x:Str,x≠"__name__"→mb x=bootBuiltins x) (hlim:s₁.heap.NoLimit) (hg:s₁.gens=#[])
  (ha:s₁.heap.get? a=some { cls:=.type "list",data:=.seq vs.toArray }) (hi:IntsAre vs ns) (hl:ns.length≤sizeLine) (hr:Room k callerA)
  (hT:∀ T∈Ts,s₁.heap.get? T=some (tabObj #[])∧K.lookup T=none∧∃ c,CodeHd s₁.heap c T)
  (F:∀ base:Heap,K.In base→base.Ns mainGlobals mg→FnOk P w K mg base CX k fa fd [x] sp) (hbind:∀ (s:Shared) (u:Value),BindsTo s fd ⟨[u],[]⟩ [(x,u)])
  (hsp:∀ H:Hp,OnlyT Ts H→SqL K H a (ns.map V.int)→sp [.ref a] H (fun v _=>v=.bl true) fun _ _ _=>False)
  (hCX:∀ H e s',CX [] H s₁ (fun _ _ _=>False) e s'→False) :
  codeAny (model P w) callerA (.call (.ref fa) ⟨[.ref a],[]⟩) (fun r s'=>r=.ok (.ret (.bool true))∧OldK s₁.heap s'.heap∧s'.os=s₁.os∧AllBare s'.gens) s₁:=by
 have rv:=Zfg hi
 have lenV:=hi.length
 have core:∀ H:Hp,OnlyT Ts H→SqL K H a (ns.map V.int)→HOk P w H s₁.heap→(∀ b,H b≠none→b=a∨b∈Ts)→(H a≠none→K.lookup a=none) →
   codeAny (model P w) callerA (.call (.ref fa) ⟨[.ref a],[]⟩) (fun r s'=>r=.ok (.ret (.bool true))∧OldK s₁.heap s'.heap∧s'.os=s₁.os∧AllBare s'.gens) s₁:=by
  intro H hO hS hok hA hK
  have base_of:∀ {b:Addr} {o:Obj},s₁.heap.get? b=some o→H b=none→(hidT s₁.heap H).get? b=some o:=fun e n=>hidT_get e n
  have noA:∀ {b:Addr} {o:Obj} {es:Array DictEntry} {ep:Nat},s₁.heap.get? b=some o→o.data=.dict es ep→H b=none:=fun {b o es ep} e d=>by
   cases q:H b with
   | none=>rfl
   | some u =>
    rcases hA b (by rw [q]; simp) with e' | e'
    ·subst e'
     rw [ha] at e; cases e
     have d':Data.seq vs.toArray _=Data.dict es ep:=d
     cases d'
    ·rw [(hT b e').1] at e; cases e
     cases d
  have nsK:∀ {b:Addr} {m:Str→Option Value},s₁.heap.Ns b m→(hidT s₁.heap H).Ns b m:=fun {b m} ⟨o,es,ep,e,d,r⟩=>⟨o,es,ep,base_of e (noA e d),d,r⟩
  have hKb:K.In (hidT s₁.heap H):=fun b o e=>base_of (KX b o e) (by
   cases q:H b with
   | none=>rfl
   | some u =>
    rcases hA b (by rw [q]; simp) with e' | e'
    ·subst e'
     rw [hK (by rw [q]; simp)] at e; cases e
    ·rw [(hT b e').2.1] at e; cases e)
  have hM:Mod K mg (hidT s₁.heap H):=⟨hKb,nsK hns,⟨mb,nsK hb,hbb⟩,let ⟨mc,h1,h2⟩:=hlim; ⟨mc,nsK h1,h2⟩⟩
  have e0:Env0 P w K mg (hidT s₁.heap H) callerA [] s₁ H:=⟨rfl,hM,fun b o e=>of_hidT e,Nat.le_of_eq (Zje _ _),trivial,fun b hb=>absurd (show b∈([]:List Addr) from hb) (by simp),hok,.of_eq hg⟩
  refine codeAny_mono ((F _ hKb (nsK hns)).run callerA [] s₁ H ⟨[.ref a],[]⟩ [.ref a] [.ref a] _ _ hr e0 (hbind s₁ (.ref a)) (.cons rfl .nil) (hsp H hO hS)) fun r s' h=>?_
  cases r with
  | error e=>exact (hCX H e s' h).elim
  | ok fl =>
   cases fl with
   | next=>exact False.elim h
   | brk=>exact False.elim h
   | cont=>exact False.elim h
   | ret u =>
    obtain ⟨v,H',os,bare,un,hok',r',q⟩:=h
    have q':v=.bl true:=q
    subst q'
    obtain rfl:u=Value.bool true:=r'
    have old:∀ b o,s₁.heap.get? b=some o→asItWas s₁.heap s'.heap b o∧∃ o',s'.heap.get? b=some o':=fun b o e=>by
     cases q:H b with
     | none =>
      have:=un.keep b o e q (by intro z; exact absurd (show b∈([]:List Addr) from z) (by simp)) (by simp)
      exact ⟨.inl this,_,this⟩
     | some u =>
      rcases hO.1 b with z | ⟨ob,xs,z⟩ | ⟨hb',z⟩
      ·rw [q] at z; cases z
      ·have z2:=un.frzs b ob _ z
       obtain ⟨e1,_⟩:=hok b _ z
       obtain ⟨e2,_⟩:=hok' b _ z2
       rw [e] at e1; cases e1
       exact ⟨.inl e2,_,e2⟩
      ·obtain ⟨more,z2⟩:=un.tbls b #[] z
       have e2:s'.heap.get? b=some (tabObj (#[]++more)):=hok' b _ z2
       obtain ⟨e1,_,c,hc⟩:=hT b hb'
       rw [e] at e1; cases e1
       exact ⟨.inr (.inl ⟨Zjn hc,rfl,#[],more,rfl,e2⟩),_,e2⟩
    exact ⟨rfl,⟨fun b o e=>(old b o e).1,fun b o e=>(old b o e).2⟩,os,bare⟩
 have aT:a ∉ Ts:=fun z=>by
  have e:=(hT a z).1
  rw [ha] at e; cases e
 have tblT:∀ T∈Ts,∀ H:Hp,ObjOk P w H s₁.heap T (.tbl #[]):=fun T z H=>(hT T z).1
 cases hk:K.lookup a with
 | some o =>
  have e:=KX a o hk
  rw [ha] at e
  cases e
  refine core (fun b=>if b∈Ts then some (.tbl #[]) else none) ⟨fun b=>?_,fun T z=>if_pos z⟩ (.inr ⟨_,vs.toArray,_,hk,rfl,rfl,rfl,by rw [List.size_toArray,lenV]; exact hl,by simpa using rv⟩) (fun b u z=>?_) (fun b z=>?_) fun z=>absurd (if_neg aT) z
  ·by_cases hb:b∈Ts
   ·exact .inr (.inr ⟨hb,if_pos hb⟩)
   ·exact .inl (if_neg hb)
  ·by_cases hb:b∈Ts
   ·have z':=(if_pos hb).symm.trans z
    cases z'
    exact tblT b hb _
   ·have z':=(if_neg hb).symm.trans z
    cases z'
  ·by_cases hb:b∈Ts
   ·exact .inr hb
   ·exact absurd (if_neg hb) z
 | none =>
  refine core (fun b=>if b=a then some (.frz { cls:=.type "list",data:=.seq vs.toArray } (.lst (ns.map V.int))) else if b∈Ts then some (.tbl #[]) else none) ⟨fun b=>?_,fun T z=>?_⟩ (.inl (.inr ⟨{ cls:=.type "list",data:=.seq vs.toArray },if_pos rfl⟩)) (fun b u z=>?_) (fun b z=>?_) fun _=>hk
  ·by_cases hb:b=a
   ·exact .inr (.inl ⟨_,_,if_pos hb⟩)
   ·by_cases hb2:b∈Ts
    ·exact .inr (.inr ⟨hb2,(if_neg hb).trans (if_pos hb2)⟩)
    ·exact .inl ((if_neg hb).trans (if_neg hb2))
  ·have ne:¬ T=a:=fun e=>aT (by rw [← e]; exact z)
   exact (if_neg ne).trans (if_pos z)
  ·by_cases hb:b=a
   ·have z':=(if_pos hb).symm.trans z
    cases z'
    subst hb
    exact ⟨ha,by rw [List.length_map]; exact hl,vs,_,rv,ha⟩
   ·by_cases hb2:b∈Ts
    ·have z':=((if_neg hb).trans (if_pos hb2)).symm.trans z
     cases z'
     exact tblT b hb2 _
    ·have z':=((if_neg hb).trans (if_neg hb2)).symm.trans z
     cases z'
  ·by_cases hb:b=a
   ·exact .inl hb
   ·by_cases hb2:b∈Ts
    ·exact .inr hb2
    ·exact absurd ((if_neg hb).trans (if_neg hb2)) z
theorem walk_ofT {l:PySem.W.OpenLaw} {n k:Nat} {q:Program} {loose:List Str} {XP:(Str→Option Value)→Heap→Prop} {YP:World→Heap→Prop} {d:DefRec} {K:Params→PySem.W.Frag} {CX:World→CXT} {sp:World→Sp} {x:Str} {Ts:List Addr}
  (hn:l.most=some n) (hn2:n≤sizeLine) (hdf:d.params.defaults=[]) (hr:Room k callerA)
  (hY:∀ (w:World) (h:Heap),YP w h→(K w.params).In h) (hT:∀ (w:World) (h:Heap),YP w h→∀ T∈Ts,h.get? T=some (tabObj #[])∧(K w.params).lookup T=none∧∃ c,CodeHd h c T)
  (F:∀ (w:World) (mg:Str→Option Value) (fa:Addr) (h:Heap),(K w.params).In h→h.Ns mainGlobals mg→mg d.name=some (.ref fa) →
   ∃ fd:FuncData,(∀ (s:Shared) (u:Value),BindsTo s fd ⟨[u],[]⟩ [(x,u)]) ∧
    ∀ base:Heap,(K w.params).In base→base.Ns mainGlobals mg→FnOk l.prog w (K w.params) mg base (CX w) k fa fd [x] (sp w))
  (hsp:∀ (w:World) (H:Hp) (a:Addr) (ns:List Int),ns.length≤n→OnlyT Ts H→SqL (K w.params) H a (ns.map V.int)→sp w [.ref a] H (fun v _=>v=.bl true) fun _ _ _=>False)
  (hCX:∀ (w:World) (H:Hp) (s:Shared) (e:Value) (s':Shared),CX w [] H s (fun _ _ _=>False) e s'→False) :
  PySem.W.WalkO q loose XP YP l.row.toRowW d [] (fun f vs=>PySem.call f vs):=by
 refine Att.attach_call hn hdf fun w s₀ s₁ mg mb fa o pm cd doc a vs ns G Y ho hd hcd hmg hobj hints hlen hg=>?_
 have KX:=hY w _ Y
 obtain ⟨fd,hb,hF⟩:=F w mg fa _ KX G.T.g hmg
 exact law_callT KX G.T.g G.T.b G.T.builtins G.T.nolimit hg hobj hints (Nat.le_trans hlen hn2) hr (hT w _ Y) hF hb (fun H hO hS=>hsp w H a ns hlen hO hS) fun H e s'=>hCX w H s₁ e s'
end L2
namespace L2
open PySem PySem.Spec PyProof.Rows PySem.W
structure FunC (K:PySem.W.Frag) (x qual:Str) (st:Stmt) (f:Addr) (fd:FuncData) (c:Addr):Prop where
 ex:∃ (oc:Value) (od:Option Addr) (kV doc pm:Value) (an:Option Addr) (ct:Value) (osl:Array (Option Value)),
  fd=PySem.W.fnOf x qual (Zam st) (Zak st) (Zac st) .none kV doc pm an (.ref c) ct∧K.lookup f=some ⟨oc,od,.func fd,osl⟩∧PySem.W.codeIn K (.ref c) qual=true
 kp:PySem.W.keepIn K (.ref f)=true
section
variable {P:Program} {w:World} {K:PySem.W.Frag} {mg:Str→Option Value} {base:Heap} {x qual:Str} {st:Stmt} {f c:Addr} {fd:FuncData} {N ps:List Str} {k:Nat} {sp:Sp}
theorem FunC.fn (F:FunC K x qual st f fd c):Fun K x qual st f fd:=by
 obtain ⟨oc,od,kV,doc,pm,an,ct,osl,e,lk,hcd⟩:=F.ex
 exact ⟨⟨oc,od,kV,doc,pm,an,.ref c,ct,osl,e,lk,hcd⟩,F.kp⟩
theorem func_mk {oc:Value} {od an:Option Addr} {osl:Array (Option Value)} {kV doc pm cdv ct:Value} (l:K.lookup f=some ⟨oc,od,.func (PySem.W.fnOf x qual (Zam st) (Zak st) (Zac st) .none kV doc pm an cdv ct),osl⟩)
  (cc:PySem.W.codeIn K cdv qual=true) (kp:PySem.W.keepIn K (.ref f)=true) (e:cdv=.ref c):FunC K x qual st f (PySem.W.fnOf x qual (Zam st) (Zak st) (Zac st) .none kV doc pm an cdv ct) c:=by
 subst e
 exact ⟨⟨oc,od,kV,doc,pm,an,ct,osl,rfl,l,cc⟩,kp⟩
end
def codeTB (K:PySem.W.Frag) (c T:Addr):Bool:=match K.lookup c with
 | some o=>match o.data with
  | .fields vs=>(o.cls == .type "code") && (vs[11]? == some (.ref T)) && (match vs.getD 18 .none with | .str _ _=>true | _=>false) && (match vs.getD 7 .none with | .int _ _=>true | _=>false) && (match vs.getD 9 .none with | .bool _=>true | _=>false) && (match vs.getD 10 .none with | .int _ _=>true | _=>false) && (c != T)
  | _=>false
 | none=>false
theorem codeTB_of {K:PySem.W.Frag} {c T:Addr} (h:codeTB K c T=true):∀ hp:Heap,K.In hp→CodeHd hp c T:=fun hp KX=>by
 unfold codeTB at h
 cases e:K.lookup c with
 | none=>rw [e] at h; cases h
 | some o =>
  rw [e] at h
  cases d:o.data with
  | fields vs =>
   simp only [d,Bool.and_eq_true] at h
   obtain ⟨⟨⟨⟨⟨⟨h1,h2⟩,h3⟩,h4⟩,h5⟩,h6⟩,h7⟩:=h
   have h2:vs[11]?=some (.ref T):=eq_of_beq h2
   have e18:∃ a b,vs.getD 18 .none=.str a b:=by
    generalize vs.getD 18 .none=v at h3
    cases v with
    | str a b=>exact ⟨a,b,rfl⟩
    | _=>cases h3
   have e7:∃ a b,vs.getD 7 .none=.int a b:=by
    generalize vs.getD 7 .none=v at h4
    cases v with
    | int a b=>exact ⟨a,b,rfl⟩
    | _=>cases h4
   have e9:∃ a,vs.getD 9 .none=.bool a:=by
    generalize vs.getD 9 .none=v at h5
    cases v with
    | bool a=>exact ⟨a,rfl⟩
    | _=>cases h5
   have e10:∃ a b,vs.getD 10 .none=.int a b:=by
    generalize vs.getD 10 .none=v at h6
    cases v with
    | int a b=>exact ⟨a,b,rfl⟩
    | _=>cases h6
   obtain ⟨f1,f2,e18⟩:=e18
   obtain ⟨g1,g2,e7⟩:=e7
   obtain ⟨i1,e9⟩:=e9
   obtain ⟨t1,t2,e10⟩:=e10
   refine ⟨o,vs,f1,f2,g1,g2,i1,t1,t2,KX c o e,eq_of_beq h1,d,h2,?_,e18,e7,e9,e10,?_⟩
   ·rw [Array.getD_eq_getD_getElem?,h2]; rfl
   ·intro z; rw [z] at h7; simp at h7
  | _=>simp only [d] at h; cases h
def SameN (H H':Hp):Prop:=∀ a o,H a=some o→(∀ ps,o≠.tbl ps)→H' a=some o
theorem SameN.trans {H H1 H2:Hp} (a:SameN H H1) (b:SameN H1 H2):SameN H H2:=fun x o e n=>b x o (a x o e n) n
theorem Same.n {H H':Hp} (s:Same H H'):SameN H H':=fun a o e _=>s a o e
theorem SameN.tup {H H':Hp} (s:SameN H H') {a:Addr} {xs:List V} (e:H a=some (.tup xs)):H' a=some (.tup xs):=s a _ e fun _ z=>nomatch z
theorem SameN.lst {H H':Hp} (s:SameN H H') {a:Addr} {xs:List V} (e:H a=some (.lst xs)):H' a=some (.lst xs):=s a _ e fun _ z=>nomatch z
def TabOk (pos:Pos) (qual:Str) (T:Addr) (H:Hp):Prop:=∃ ps,H T=some (.tbl ps)∧TriplesOk ps.toList∧(codeAmong pos ps.toList=none∨∃ c',codeAmong pos ps.toList=some (.ref c')∧H c'=some (CodeO c' qual))
theorem TabOk.same {pos:Pos} {qual:Str} {T:Addr} {H H':Hp} (h:TabOk pos qual T H) (s:Same H H'):TabOk pos qual T H':=by
 obtain ⟨ps,e,t,c⟩:=h
 refine ⟨ps,s _ _ e,t,?_⟩
 rcases c with c | ⟨c',c1,c2⟩
 ·exact .inl c
 ·exact .inr ⟨c',c1,s _ _ c2⟩
theorem TabOk.new {pos:Pos} {qual:Str} {T:Addr} {H:Hp} (h:H T=some (.tbl #[])):TabOk pos qual T H:=⟨#[],h,trivial,.inl rfl⟩
theorem Zez {a b c:Int} {t u:Tok} {v:Value}:∀ (l:List Value),TriplesOk l→TriplesOk (l++[.int a t,.int b u,v])
 | [],_=>trivial
 | .int _ _ :: .int _ _ :: _ :: rest,h=>Zez (c:=c) rest h
end L2
namespace L2
open PySem PySem.Spec PyProof.Rows PySem.W
section
variable {prog:Program} {w:World} {A:Around} {E:Value→Shared→Prop} {s:Shared}
end
section
variable {X:Cx}
end
end L2
namespace L2
open PySem PySem.Spec PyProof.Rows PySem.W
section
variable {X:Cx}
end
end L2
namespace L2
open PySem PySem.Spec PyProof.Rows
section
variable {X:Cx}
end
section
variable {X:Cx}
end
end L2
namespace L2
open PySem PySem.Spec PyProof.Rows
section
variable {X:Cx}
theorem call_sum:CallR X (.builtin "sum") (fun xs H Q=>∃ (p:Addr) (ns:List Int),xs=[.ref p]∧SqL X.K H p (ns.map V.int)∧X.calm=true∧Q (.int ns.sum) H):=by
 intro pins s σ H xs us Q I r h
 obtain ⟨p,ns,rfl,hp,hc,q⟩:=h
 obtain ⟨u,rfl,ru⟩:=vals1 r
 cases ru
 obtain ⟨its,rv,pl,hz⟩:=I.list hp
 have hi:=Zew rv
 obtain ⟨xs,hx⟩:=hi.allInts.items
 have hl':s.heap.IsList p (intItems xs):=hx ▸ pl.isList
 refine sum_intListG (I.ok.hd hc) hl' fun h' tk t' hk=>?_
 have e1:ns=xs.toList.map (·.1):=by
  rw [← nums_intItems,← hx]
  exact (show numsOf its.toArray.toList=ns from hi.numsOf).symm
 have e2:preSum (numAt xs) xs.size=ns.sum:=by
  rw [preSum_eq,List.take_of_length_le (by simp),e1]
 rw [e2]
 exact ⟨.int ns.sum,H,I.kept (t':=tk) hk,⟨t',rfl⟩,q⟩
end
end L2
namespace L2
end L2
namespace HT
open PySem PySem.Spec PyProof.Rows
section
variable {prog:Program} {w:World} {A:Around} {s:Shared} {E:Value→Shared→Prop}
end
end HT
namespace L2
open PySem PySem.Spec PyProof.Rows
section
variable {X:Cx}
end
section
variable {P:Program} {w:World} {K:PySem.W.Frag} {mg:Str→Option Value} {base:Heap} {x qual:Str} {st:Stmt} {f c:Addr} {fd:FuncData} {N ps:List Str} {k:Nat} {sp:Sp}
theorem FunC.ok (F:FunC K x qual st f fd c) (S:Zap N ps (Zac st)) (len:∀ vs H Q E,sp vs H Q E→vs.length=ps.length)
  (hbody:∀ (A:Around) (outer:List Env) (s:Shared) (H:Hp) (vs:List V) (Q:VK) (E:XK),Room k (A.deeper (envOfC qual (Zac st) s.heap.objs.size f (.ref c)))→sp vs H Q E →
   ∃ t,PSs (cxOf CX0 P w K mg base N qual (Zac st) f (.ref c) A outer s H E).nox (Zak st) t∧t { nx:=fun _ H'=>Q .non H',rt:=Q } (start N vs) H):FnOk P w K mg base CX0 (k+1) f fd ps sp:=by
 obtain ⟨oc,od,kV,doc,pm,an,ct,osl,rfl,lk,hcd⟩:=F.ex
 refine fn_of lk hcd S len fun A outer s H vs Q E hr hsp=>?_
 obtain ⟨t,h,q⟩:=hbody A outer s H vs Q E hr hsp
 exact ⟨t,h.nox,q⟩
end
end L2
namespace L2
open PySem PySem.Spec PyProof.Rows PySem.W
def tkd (H:Hp) (L:List (Addr × Obj)):Hp:=fun a=>match L.lookup a with | some o=>some (ObjO a o) | none=>H a
def utk (H:Hp) (L:List (Addr × Obj)):Hp:=fun a=>match L.lookup a with | some _=>none | none=>H a
section
variable {P:Program} {w:World} {H H':Hp} {h h':Heap} {a:Addr} {o:Obj} {L:List (Addr × Obj)} {fs:List Addr}
theorem Zir (e:L.lookup a=some o):tkd H L a=some (ObjO a o):=by unfold tkd; rw [e]
theorem Zbj (e:L.lookup a=none):tkd H L a=H a:=by unfold tkd; rw [e]
theorem Zgx (e:L.lookup a=some o):utk H L a=none:=by unfold utk; rw [e]
theorem Zcg (e:L.lookup a=none):utk H L a=H a:=by unfold utk; rw [e]
theorem Zdt (e:H a=none):utk H L a=none:=by
 cases q:L.lookup a with
 | none=>rw [Zcg q]; exact e
 | some o=>exact Zgx q
theorem Ze1 {u:HO} (hL:∀ a o,L.lookup a=some o→H a=none) (e:H a=some u):L.lookup a=none:=by
 cases q:L.lookup a with
 | none=>rfl
 | some o=>rw [hL a o q] at e; cases e
theorem Zet {u:HO} (hL:∀ a o,L.lookup a=some o→H a=some (ObjO a o)) (e:H a=some u) (n:∀ o,u≠ObjO a o):L.lookup a=none:=by
 cases q:L.lookup a with
 | none=>rfl
 | some o=>rw [hL a o q] at e; cases e; exact absurd rfl (n o)
theorem HOk.tkd (hok:HOk P w H h) (hL:∀ a o,L.lookup a=some o→H a=none) (hc:∀ a o,L.lookup a=some o→h.get? a=some o):HOk P w (tkd H L) h:=fun a u e=>by
 cases q:L.lookup a with
 | some o =>
  rw [Zir q] at e; cases e
  exact Zkq (hc a o q)
 | none =>
  rw [Zbj q] at e
  exact (hok a u e).stay (fun _ _ _ z=>z) (fun b z=>by rw [Zbj (Ze1 hL z)]; exact z) (fun b xs z=>by rw [Zbj (Ze1 hL z)]; exact z)
theorem HOk.utk (hok:HOk P w H h) (hL:∀ a o,L.lookup a=some o→H a=some (ObjO a o)):HOk P w (utk H L) h:=fun a u e=>by
 cases q:L.lookup a with
 | some o=>rw [Zgx q] at e; cases e
 | none =>
  rw [Zcg q] at e
  exact (hok a u e).stay (fun _ _ _ z=>z) (fun b z=>by rw [Zcg (Zet hL z (fun _ z=>nomatch z))]; exact z) (fun b xs z=>by rw [Zcg (Zet hL z (fun _ z=>nomatch z))]; exact z)
theorem Un.utk (u:Un fs [] (L2.tkd H L) H' h h') (hok:HOk P w H' h') (hL:∀ a o,L.lookup a=some o→H a=none) (hc:∀ a o,L.lookup a=some o→h.get? a=some o) (hf:∀ a o,L.lookup a=some o→a ∉ fs) (hk:∀ a o,L.lookup a=some o→H' a=some (ObjO a o)):Un fs [] H (L2.utk H' L) h h' where
 keep b o q n nf nx:=by
  cases e:L.lookup b with
  | some o' =>
   rw [hc b o' e] at q; cases q
   exact (hok b _ (hk b o e)).1
  | none=>exact u.keep b o q (by rw [Zbj e]; exact n) nf nx
 slot b o q n hb nx:=by
  cases e:L.lookup b with
  | some o'=>exact absurd hb (hf b o' e)
  | none=>exact u.slot b o q (by rw [Zbj e]; exact n) hb nx
 free b o q n nx:=by
  cases e:L.lookup b with
  | some o'=>exact Zgx e
  | none=>rw [Zcg e]; exact u.free b o q (by rw [Zbj e]; exact n) nx
 there b o q nx:=u.there b o q nx
 tups b xs e:=by
  have n:=Ze1 hL e
  rw [Zcg n]; exact u.tups b xs (by rw [Zbj n]; exact e)
 frzs b o v e:=by
  have n:=Ze1 hL e
  rw [Zcg n]; exact u.frzs b o v (by rw [Zbj n]; exact e)
 tbls b ps e:=by
  have n:=Ze1 hL e
  rw [Zcg n]; exact u.tbls b ps (by rw [Zbj n]; exact e)
theorem Un.tkd (u:Un fs [] (L2.utk H L) H' h h') (hL:∀ a o,L.lookup a=some o→H a=some (ObjO a o)):Un fs [] H (L2.tkd H' L) h h':=by
 have out:∀ {b},H b=none→L.lookup b=none:=fun {b} n=>by
  cases e:L.lookup b with
  | none=>rfl
  | some o=>rw [hL b o e] at n; cases n
 exact {
  keep:=fun b o q n nf nx=>u.keep b o q (Zdt n) nf nx
  slot:=fun b o q n hb nx=>u.slot b o q (Zdt n) hb nx
  free:=fun b o q n nx=>by rw [Zbj (out n)]; exact u.free b o q (Zdt n) nx
  there:=fun b o q nx=>u.there b o q nx
  tups:=fun b xs e=>by
   have n:=Zet hL e (fun _ z=>nomatch z)
   rw [Zbj n]; exact u.tups b xs (by rw [Zcg n]; exact e)
  frzs:=fun b o v e=>by
   have n:=Zet hL e (fun _ z=>nomatch z)
   rw [Zbj n]; exact u.frzs b o v (by rw [Zcg n]; exact e)
  tbls:=fun b ps e=>by
   have n:=Zet hL e (fun _ z=>nomatch z)
   rw [Zbj n]; exact u.tbls b ps (by rw [Zcg n]; exact e) }
end
def FvOk (P:Program) (w:World) (K:Frag) (mg:Str→Option Value) (base:Heap) (k:Nat) (H:Hp) (f:Addr) (sp:Sp):Prop :=
 (∃ o fd,H f=some (ObjO f o)∧o.data=.func fd)∧∀ (A:Around) (outer:List Env) (s:Shared) (H':Hp) (us:List Value) (vs:List V) (Q:VK) (E:XK),Same H H'→Room k A→Env0 P w K mg base A outer s H'→Vals vs us→sp vs H' Q E →
  codeAny (model P w) A (.call (.ref f) ⟨us,[]⟩) (CR CX0 outer P w H' s Q E) s
theorem FvOk.same {P:Program} {w:World} {K:Frag} {mg:Str→Option Value} {base:Heap} {k:Nat} {H H':Hp} {f:Addr} {sp:Sp} (h:FvOk P w K mg base k H f sp) (s:Same H H'):FvOk P w K mg base k H' f sp :=
 ⟨let ⟨o,fd,e,d⟩:=h.1; ⟨o,fd,s _ _ e,d⟩,fun A outer sh H2 us vs Q E s2=>h.2 A outer sh H2 us vs Q E (s.trans s2)⟩
theorem FvOk.imp {P:Program} {w:World} {K:Frag} {mg:Str→Option Value} {base:Heap} {k:Nat} {H:Hp} {f:Addr} {sp sp':Sp} (h:FvOk P w K mg base k H f sp) (i:∀ vs H' Q E,Same H H'→sp' vs H' Q E→sp vs H' Q E):FvOk P w K mg base k H f sp' :=
 ⟨h.1,fun A outer sh H2 us vs Q E s2 hr e0 r q=>h.2 A outer sh H2 us vs Q E s2 hr e0 r (i vs H2 Q E s2 q)⟩
def tFv (P:Program) (w:World) (K:Frag) (mg:Str→Option Value) (base:Heap) (k:Nat) (tv:TE) (t:TA):TE:=fun σ H Q=>tv σ H fun v H1=>∃ f sp,v=.ref f∧FvOk P w K mg base k H1 f sp∧t σ H1 fun vs H2=>Same H1 H2∧sp vs H2 Q E0
section
variable {X:Cx} {k j:Nat} {y:Str} {p pos:Pos} {e:Expr} {es:List Expr} {tv:TE} {t:TA}
theorem pe_fv (hr:Room j X.A) (hv:PE X (.Name y p) tv) (ha:PA X (e :: es) t) (hj:k≤j:=by decide)
  (he:starEach (e :: es) X.env=(false,eval e X.env) :: starEach es X.env:=by rfl) (hpl:(backTo pos (starEach es X.env)).any (·.1)=false:=by rfl):PE X (.Call (.Name y p) (e :: es) [] pos) (tFv X.prog X.w X.K X.mg X.base k tv t):=by
 intro pins s σ H Q I h
 refine wpAny_Call_Name_kw (thn (hv pins s σ H _ I h) fun u s1 ⟨v,H1,I1,r1,f,sp,e1,F,q1⟩=>?_)
 subst e1
 cases r1
 have fnat:∀ {H2:Hp} {s2:Shared},Same H1 H2→Inv X pins σ H2 s2→FnAt f s2.heap:=fun {H2 s2} sm I2=>by
  obtain ⟨o,fd,e,d⟩:=F.1
  have:=(show ObjOk X.prog X.w H2 s2.heap f (ObjO f o) from I2.hok f _ (sm _ _ e)).1
  obtain ⟨oc,od,dt,sl⟩:=o
  cases d
  exact ⟨_,_,_,_,this⟩
 refine callWith_F (fnat (Same.refl _) I1) (thn (ha pos pins s1 σ H1 _ I1 q1) fun us s2 ⟨vs,H2,I2,r,sm,q⟩=>⟨fnat sm I2,?_⟩) he hpl
 refine wpAny_call (codeAny_mono (F.2 X.A X.stack s2 H2 us vs Q E0 sm (hr.mono hj) I2.env0 r q) fun r s' hq=>?_)
 cases r with
 | error e=>exact pass0 pins σ H2 s2 e s' I2 hq
 | ok fl =>
  cases fl with
  | ret u=>exact I2.after hq
  | next=>exact False.elim hq
  | brk=>exact False.elim hq
  | cont=>exact False.elim hq
end
theorem Zjb {g:Addr→Obj}:∀ {l:List Addr} {a:Addr},(l.map fun c=>(c,g c)).lookup a=if a∈l then some (g a) else none
 | [],a=>by simp
 | c :: r,a=>by
  rw [List.map_cons,List.lookup_cons]
  by_cases e:a=c
  ·subst e; simp
  ·have:(a == c)=false:=by simpa using e
   rw [this]
   show List.lookup a (r.map fun c=>(c,g c))=_
   rw [Zjb]
   simp [e]
structure CellsAt (N:List Str) (clos:List (Str × Addr)) (σ:St) (H:Hp) (L:List (Addr × Obj)):Prop where
 new:∀ a o,L.lookup a=some o→H a=none
 has:∀ p∈clos,∃ o v,L.lookup p.2=some o∧o.data=.cell v
 val:∀ p∈clos,∀ (i:Nat) (v:V),N[i]?=some p.1→σ[i]?=some (some v)→∃ o u,L.lookup p.2=some o∧o.data=.cell (some u)∧RelV v u
def tCallC (N:List Str) (clos:List (Str × Addr)) (sp:Sp) (t:TA):TE:=fun σ H Q=>t σ H fun vs H1=>∀ L,CellsAt N clos σ H1 L→sp vs (tkd H1 L) (fun v H2=>(∀ a o,L.lookup a=some o→H2 a=some (ObjO a o))∧Q v (utk H2 L)) E0
section
variable {X:Cx} {k j:Nat} {x:Str} {ps:List Str} {sp:Sp} {p pos:Pos} {e:Expr} {es:List Expr} {t:TA} {clos:List (Str × Addr)}
theorem pe_fnC (D:DefOk X.prog X.w X.K X.mg X.base k x ps sp) (hr:Room j X.A) (ha:PA X (e :: es) t) (hcl:∀ p∈clos,X.env.cells.lookup p.1=some p.2∧X.env.kindOf p.1=some .cell) (hfn:∀ y,X.fn y=true) (hex:X.ex=[]) (hj:k≤j:=by decide) (hg:Gl X x:=by rfl) (hdb:(x == ("__debug__":Str))=false:=by decide)
  (he:starEach (e :: es) X.env=(false,eval e X.env) :: starEach es X.env:=by rfl) (hpl:(backTo pos (starEach es X.env)).any (·.1)=false:=by rfl):PE X (.Call (.Name x p) (e :: es) [] pos) (tCallC X.N clos sp t):=by
 obtain ⟨f,fd,F,hm,hk,hb⟩:=D.ex
 intro pins s σ H Q I h
 refine wpAny_Call_Name_kw (Zf0 I hg hm ?_ hdb)
 refine PySem.W.callWith_K (h₀:=X.base) I.ok.mod.kin hk (thn (ha pos pins s σ H _ I h) fun us s1 ⟨vs,H1,I1,r,q⟩=>⟨I1.kIn,?_⟩) he hpl
 let g:Addr→Obj:=fun c=>(s1.heap.get? c).getD ⟨.none,none,.plain,#[]⟩
 let L:List (Addr × Obj):=(clos.map (·.2)).map fun c=>(c,g c)
 have hLk:∀ a,L.lookup a=if a∈clos.map (·.2) then some (g a) else none:=fun a=>Zjb
 have hcell:∀ p∈clos,∃ v,s1.heap.IsCell p.2 v:=fun p hp=>I1.cell p.1 p.2 (hcl p hp).1
 have hin:∀ a o,L.lookup a=some o→∃ p∈clos,p.2=a∧s1.heap.get? a=some o:=fun a o e=>by
  rw [hLk] at e
  split at e
  ·rename_i hm
   obtain ⟨p,hp,rfl⟩:=List.mem_map.mp hm
   refine ⟨p,hp,rfl,?_⟩
   obtain ⟨v,o',ho',_⟩:=hcell p hp
   cases e
   show _=some ((s1.heap.get? p.2).getD _)
   rw [ho']; rfl
  ·cases e
 have hof:∀ p∈clos,∀ o,s1.heap.get? p.2=some o→L.lookup p.2=some o:=fun p hp o e=>by
  rw [hLk,if_pos (List.mem_map.mpr ⟨p,hp,rfl⟩)]
  show some ((s1.heap.get? p.2).getD _)=_
  rw [e]; rfl
 have hnew:∀ a o,L.lookup a=some o→H1 a=none:=fun a o e=>by
  obtain ⟨p,hp,rfl,_⟩:=hin a o e
  exact I1.freeC p.1 p.2 (hcl p hp).1
 have hget:∀ a o,L.lookup a=some o→s1.heap.get? a=some o:=fun a o e=>let ⟨_,_,_,z⟩:=hin a o e; z
 have habove:∀ a o,L.lookup a=some o→X.s₀.heap.objs.size≤a:=fun a o e=>by
  obtain ⟨p,hp,rfl,_⟩:=hin a o e
  exact I1.ok.cab p.1 p.2 (hfn _) (hcl p hp).1
 have hnf:∀ a o,L.lookup a=some o→a ∉ frs X.stack:=fun a o e hb=>by
  have ab:=habove a o e
  obtain ⟨p,hp,rfl,_⟩:=hin a o e
  rcases List.mem_cons.mp (I1.stkSub _ hb) with z | z
  ·exact I1.cne p.1 p.2 (hcl p hp).1 z
  ·obtain ⟨_,o',ho',_⟩:=I1.ok.funs.mem z
   exact absurd (Nat.lt_of_lt_of_le (Heap.lt_size ho') ab) (Nat.lt_irrefl _)
 have CA:CellsAt X.N clos σ H1 L:=by
  refine ⟨hnew,fun p hp=>?_,fun p hp i v hi hv=>?_⟩
  ·obtain ⟨v,o,ho,hd⟩:=hcell p hp
   exact ⟨o,v,hof p hp o ho,hd⟩
  ·obtain ⟨m,hns,hloc⟩:=I1.loc
   obtain ⟨u,ru,hlook⟩:=hloc i p.1 v hi hv (.inr (.inl (hcl p hp).2))
   rcases hlook with ⟨k1,_⟩ | ⟨_,c,hc,o,ho,hd⟩
   ·rw [(hcl p hp).2] at k1; cases k1
   ·rw [(hcl p hp).1] at hc; cases hc
    exact ⟨o,u,hof p hp o ho,hd,ru⟩
 have hsp:=q L CA
 have e0:Env0 X.prog X.w X.K X.mg X.base X.A X.stack s1 (tkd H1 L):=by
  have z:=I1.env0
  refine ⟨z.frames,z.mod,fun b o e=>?_,z.bsz,z.funs,fun b hb=>?_,z.hok.tkd hnew hget,z.bare⟩
  ·refine ⟨(z.bs b o e).1,?_⟩
   cases q:L.lookup b with
   | none=>rw [Zbj q]; exact (z.bs b o e).2
   | some o'=>exact absurd (Nat.lt_of_lt_of_le (Heap.lt_size e) (Nat.le_trans I1.ok.bsz (habove b o' q))) (Nat.lt_irrefl _)
  ·cases q:L.lookup b with
   | none=>rw [Zbj q]; exact z.frf b hb
   | some o'=>exact absurd hb (hnf b o' q)
 have hl:us.length=ps.length:=by rw [← r.length]; exact F.len _ _ _ _ hsp
 have hbd:=hb s1 us I1.kIn (by rw [List.append_nil]; exact hl)
 rw [List.append_nil] at hbd
 refine wpAny_call (codeAny_mono (F.run X.A X.stack s1 (tkd H1 L) ⟨us,[]⟩ us vs _ E0 (hr.mono hj) e0 hbd r hsp) fun rs s' hq=>?_)
 cases rs with
 | error e=>exact pass0 pins σ H1 s1 e s' I1 (by exact hq)
 | ok fl =>
  cases fl with
  | ret u =>
   obtain ⟨v,H2,os,bare,un,hok,rv,hkp,q2⟩:=hq
   exact I1.after ⟨v,utk H2 L,os,bare,un.utk hok hnew hget hnf hkp,hok.utk hkp,rv,q2⟩
  | next=>exact False.elim hq
  | brk=>exact False.elim hq
  | cont=>exact False.elim hq
end
def cxCl (P:Program) (w:World) (K:Frag) (mg:Str→Option Value) (base:Heap) (N:List Str) (qual:Str) (scope:Scope) (f:Addr) (cd:Value) (clos:List (Str × Addr)) (A:Around) (outer:List Env) (s:Shared) (H Hx:Hp) (E:XK):Cx where
 prog:=P
 w:=w
 K:=K
 mg:=mg
 base:=base
 A:=A.deeper (envX qual scope s.heap.objs.size f cd clos)
 N:=N
 s₀:=s
 H₀:=H
 env:=envX qual scope s.heap.objs.size f cd clos
 outer:=outer
 stack:=envX qual scope s.heap.objs.size f cd clos :: outer
 ex:=[]
 calm:=true
 fn:=fun _=>false
 pn:=[]
 xe:=fun e s'=>wpAny (model P w) (A.deeper (envX qual scope s.heap.objs.size f cd clos)) (leaving (envX qual scope s.heap.objs.size f cd clos) e) (fun _ s''=>CX0 outer Hx s E e s'') (fun e' s''=>CX0 outer Hx s E e' s'') s'
structure LamScope (pn:Str) (fs:List Str) (sc:Scope):Prop where
 kind:sc.kind=.function
 co:sc.isCoroutine=false
 gen:sc.isGenerator=false
 par:sc.names.lookup pn=some .local
 nocell:∀ y∈sc.names,y.2≠.cell
 free:∀ y,sc.names.lookup y=some .free→y∈fs
 isfree:∀ y∈fs,sc.names.lookup y=some .free
theorem fv_lam {P:Program} {w:World} {K:Frag} {mg:Str→Option Value} {base:Heap} {k:Nat} {H:Hp} {f c':Addr} {params:Arguments} {body:Expr} {scope:Scope} {qual pn:Str} {ctv:Value} {fs:List Str} {clos:List (Str × Addr)} {cv:List V} {L:List (Addr × Obj)} {te:TE}
  (hf:H f=some (ObjO f (lamObj mg qual params body scope clos c' ctv))) (hc:H c'=some (CodeO c' qual)) (S:LamScope pn fs scope) (hlen:cv.length=fs.length) (hkeys:∀ y,(∃ c,clos.lookup y=some c)↔y∈fs) (hinj:∀ x y c,clos.lookup x=some c→clos.lookup y=some c→x=y)
  (hL:∀ a o,L.lookup a=some o→H a=some (ObjO a o)) (hcell:∀ p∈clos,∃ o v,L.lookup p.2=some o∧o.data=.cell v) (hval:∀ p∈clos,∀ (i:Nat) (v:V),fs[i]?=some p.1→cv[i]?=some v→∃ o u,L.lookup p.2=some o∧o.data=.cell (some u)∧RelV v u)
  (hb:∀ (s:Shared) (u:Value),BindsTo s (kla_fn "<lambda>" qual params body scope clos ((mg "__name__").getD .none) (.ref c') ctv) ⟨[u],[]⟩ ([pn].zip [u]))
  (hbody:∀ (A:Around) (outer:List Env) (s:Shared) (H Hx:Hp) (E:XK),Room k (A.deeper (envX qual scope s.heap.objs.size f (.ref c') clos))→PE (cxCl P w K mg base (pn :: fs) qual scope f (.ref c') clos A outer s H Hx E) body te) :
  FvOk P w K mg base (k+1) H f (fun vs H' Q _=>∃ v,vs=[v]∧te (some v :: cv.map some) (utk H' L) (fun v' H2=>Q v' (tkd H2 L))):=by
 refine ⟨⟨_,_,hf,rfl⟩,fun A outer s H' us vs Q E sm hr e0 r h=>?_⟩
 obtain ⟨v,rfl,h⟩:=h
 obtain ⟨u,rfl,ru⟩:=vals1 r
 have hL':∀ a o,L.lookup a=some o→H' a=some (ObjO a o):=fun a o e=>sm _ _ (hL a o e)
 have hget:∀ a o,L.lookup a=some o→s.heap.get? a=some o:=fun a o e=>(show ObjOk P w H' s.heap a (ObjO a o) from e0.hok a _ (hL' a o e)).1
 have lim:s.heap.NoLimit:=e0.mod.nolimit.keeps fun b o e=>(e0.bs b o e).1
 have ho:s.heap.get? f=some (lamObj mg qual params body scope clos c' ctv):=(show ObjOk P w H' s.heap f (ObjO f _) from e0.hok f _ (sm _ _ hf)).1
 refine kla_callFunE hr.depth ho rfl S.co S.gen rfl (codeO_rec (e0.hok c' _ (sm _ _ hc))) (hb s u _ _ _ _ ?_)
 refine wpAny_newFunctionEnv S.nocell (fun y hy=>?_) (fun h1 hns hsb=>?_) S.kind
 ·rw [List.mem_singleton.mp (show y∈[(pn,u)] from hy)]; exact S.par
 have hk:∀ b o,s.heap.get? b=some o→h1.get? b=some o:=fun b o e=>hsb.extBut b o (Nat.ne_of_lt (Heap.lt_size e)) (Heap.get?_push_of_some _ e)
 refine ⟨lim.keeps hk,?_⟩
 show codeAny _ _ (.expr body (envX qual scope s.heap.objs.size f (.ref c') clos)) _ _
 refine kla_codeExpr ?_
 have noA:∀ b:Addr,b ∉ (cxCl P w K mg base (pn :: fs) qual scope f (.ref c') clos A outer s (utk H' L) H' E).ex:=fun b z=>absurd (show b∈([]:List Addr) from z) (by simp)
 have mem:∀ y c,clos.lookup y=some c→(y,c)∈clos:=fun y c e=>PySem.mem_of_lookup e
 have I:Inv (cxCl P w K mg base (pn :: fs) qual scope f (.ref c') clos A outer s (utk H' L) H' E) [] (some v :: cv.map some) (utk H' L) { s with heap:=h1,toks:=s.toks+([pn].zip [u]).length }:=by
  refine ⟨⟨e0.mod,S.kind,rfl,rfl,Nat.le_refl _,hinj,fun y hy=>?_,fun y c z=>absurd z (by simp [cxCl]),fun _=>hr.hd,Around.frames_deeper e0.frames,.inr ⟨rfl,rfl⟩,fun b z=>absurd z (noA b),fun b o e=>⟨(e0.bs b o e).1,Zdt (e0.bs b o e).2⟩,e0.bsz,fun b _ _=>noA b,fun b z=>absurd z (noA b),e0.funs,fun b hb=>Zdt (e0.frf b hb)⟩,
   rfl,e0.bare,Un.kept hk,⟨_,hns,fun i y vv h1' h2 h3=>?_⟩,fun y c e=>?_,Zdt (e0.hok.fresh (Nat.le_refl _)),fun y c e=>?_,fun p hp=>absurd (show p∈([]:List (Addr × Obj)) from hp) (by simp),(e0.hok.utk hL').kept hk,?_⟩
  ·have hy:scope.names.lookup y=some .cell∨scope.names.lookup y=some .free:=hy
   rcases hy with hy | hy
   ·exact absurd rfl (S.nocell _ (PySem.mem_of_lookup hy))
   ·exact (hkeys y).mpr (S.free y hy)
  ·have h1':(pn :: fs)[i]?=some y:=h1'
   cases i with
   | zero =>
    cases h1'
    cases h2
    exact ⟨u,ru,.inl ⟨S.par,by simp⟩⟩
   | succ i =>
    have h1':fs[i]?=some y:=h1'
    have h2:(cv.map some)[i]?=some (some vv):=h2
    rw [List.getElem?_map] at h2
    obtain ⟨z,hz,e⟩:=Option.map_eq_some_iff.mp h2
    cases e
    obtain ⟨c,hc'⟩:=(hkeys y).mpr (List.mem_of_getElem? h1')
    obtain ⟨o,u',ho',hd,rv⟩:=hval (y,c) (mem y c hc') i vv h1' hz
    exact ⟨u',rv,.inr ⟨.inr (S.isfree y (List.mem_of_getElem? h1')),c,hc',o,hk _ _ (hget _ _ ho'),hd⟩⟩
  ·obtain ⟨o,vv,ho',hd⟩:=hcell (y,c) (mem y c e)
   exact ⟨vv,o,hk _ _ (hget _ _ ho'),hd⟩
  ·obtain ⟨o,vv,ho',hd⟩:=hcell (y,c) (mem y c e)
   exact Zgx ho'
  ·show (some v :: cv.map some).length=(pn :: fs).length
   rw [List.length_cons,List.length_cons,List.length_map,hlen]
 refine wpAny_mono (hbody A outer s (utk H' L) H' E (hr.deeper _) [] _ _ _ _ I h) (fun u2 s' ⟨v2,H2,J,rv,q⟩=>?_) fun e s' z=>z
 have un:Un (frs outer) [] (utk H' L) H2 s.heap s'.heap:=J.base
 have hnf:∀ a o,L.lookup a=some o→a ∉ frs outer:=fun a o e hb=>by
  have:=e0.frf a hb
  rw [hL' a o e] at this; cases this
 exact ⟨v2,tkd H2 L,J.os,J.bare,un.tkd hL',J.hok.tkd (fun a o e=>un.free a o (hget a o e) (Zgx e) (by simp)) (fun a o e=>un.keep a o (hget a o e) (Zgx e) (hnf a o e) (by simp)),rv,q⟩
theorem TabOk.lamC {clos:List (Str × Addr)} {mg:Str→Option Value} {pos:Pos} {qual:Str} {T:Addr} {params:Arguments} {body:Expr} {scope:Scope} {σ:St} {H:Hp} {Q:VK} (h:TabOk pos qual T H)
  (q:∀ c' f ctv H',SameX T H H'→TabOk pos qual T H'→H' f=some (ObjO f (lamObj mg qual params body scope clos c' ctv))→H' c'=some (CodeO c' qual)→(∀ b,H b=none→H' b=none∨b=c'∨b=f)→Q (.ref f) H'):tLam mg T pos params body scope clos qual σ H Q:=by
 obtain ⟨ps,e,t,c⟩:=h
 refine ⟨ps,e,t,?_⟩
 rcases c with c | ⟨c',c1,c2⟩
 ·refine .inl ⟨c,fun c' f ctv hc hf n1 n2 n3=>?_⟩
  have eT:(upd (upd (upd H T (.tbl (ps++#[rawInt pos.line,rawInt pos.col,.ref c']))) c' (CodeO c' qual)) f (ObjO f (lamObj mg qual params body scope clos c' ctv))) T=some (.tbl (ps++#[rawInt pos.line,rawInt pos.col,.ref c'])):=by
   rw [Zaj (Ne.symm n3),Zaj (Ne.symm n2),Zab]
  have eC:(upd (upd (upd H T (.tbl (ps++#[rawInt pos.line,rawInt pos.col,.ref c']))) c' (CodeO c' qual)) f (ObjO f (lamObj mg qual params body scope clos c' ctv))) c'=some (CodeO c' qual):=by
   rw [Zaj n1,Zab]
  refine q c' f ctv _ (fun a o ea no=>?_) ⟨_,eT,?_,.inr ⟨c',?_,eC⟩⟩ Zab eC fun b hb=>?_
  ·rw [Zaj (Zah no hf),Zaj (Zah no hc),Zaj ea]
   exact no
  ·rw [Array.toList_append]
   exact Zez (c:=0) _ t
  ·rw [Array.toList_append]
   exact codeAmong_snoc _ t c
  ·by_cases h1:b=f
   ·exact .inr (.inr h1)
   ·by_cases h2:b=c'
    ·exact .inr (.inl h2)
    ·refine .inl ?_
     rw [Zaj h1,Zaj h2,Zaj (fun z=>by rw [z,e] at hb; cases hb)]
     exact hb
 ·refine .inr ⟨c',c1,c2,fun f ctv hf=>?_⟩
  have s:Same H (upd H f (ObjO f (lamObj mg qual params body scope clos c' ctv))):=Same.new hf
  refine q c' f ctv _ s.x (TabOk.same ⟨ps,e,t,.inr ⟨c',c1,c2⟩⟩ s) Zab (s _ _ c2) fun b hb=>?_
  by_cases h1:b=f
  ·exact .inr (.inr h1)
  ·exact .inl (by rw [Zaj h1]; exact hb)
theorem TabOk.tbl {pos:Pos} {qual:Str} {T:Addr} {H:Hp} (h:TabOk pos qual T H):∃ ps,H T=some (.tbl ps):=let ⟨ps,e,_⟩:=h; ⟨ps,e⟩
theorem SameX.toN {T:Addr} {H H':Hp} (s:SameX T H H') (hT:∃ ps,H T=some (.tbl ps)):SameN H H':=fun a o e n=>s a o (fun z=>by obtain ⟨ps,e'⟩:=hT; rw [z,e'] at e; cases e; exact n _ rfl) e
theorem same_utk {H H':Hp} {L:List (Addr × Obj)} (hL:∀ a o,L.lookup a=some o→H a=none) (s:Same (tkd H L) H'):Same H (utk H' L)∧∀ a o,L.lookup a=some o→H' a=some (ObjO a o) :=
 ⟨fun a o e=>by
  have n:=Ze1 hL e
  rw [Zcg n]; exact s _ _ (by rw [Zbj n]; exact e),fun a o e=>s _ _ (Zir e)⟩
theorem utk_at {H:Hp} {L:List (Addr × Obj)} {a:Addr} {u:HO} (hL:∀ a o,L.lookup a=some o→H a=some (ObjO a o)) (e:H a=some u) (n:∀ o,u≠ObjO a o):utk H L a=some u:=by rw [Zcg (Zet hL e n)]; exact e
theorem DefOk.imp {P:Program} {w:World} {K:Frag} {mg:Str→Option Value} {base:Heap} {k:Nat} {x:Str} {ps:List Str} {sp sp':Sp} (D:DefOk P w K mg base k x ps sp) (h:∀ vs H Q E,sp' vs H Q E→sp vs H Q E):DefOk P w K mg base k x ps sp' :=
 let ⟨f,fd,F,a,b,c⟩:=D.ex; ⟨f,fd,F.imp h,a,b,c⟩
end L2
namespace K54
open PySem L2
def top (i:Nat):Stmt:=PySem.Challenge.pw_glazebench_k54_flawed_worths.main.body.getD i (.Pass ⟨0,0,0,0⟩)
abbrev Zcz:Stmt:=top 9
abbrev Zdb:Stmt:=top 10
abbrev Zc9:Stmt:=top 11
abbrev Zdd:Stmt:=top 12
abbrev Zcd:Stmt:=Zb5 (top 18) 0
abbrev Zbr:Stmt:=Zb5 (top 19) 0
abbrev Zce:Stmt:=Zb5 (top 20) 0
abbrev Zc1:Stmt:=top 21
abbrev Zcn:Stmt:=top 22
abbrev Zb7:Stmt:=top 23
abbrev Zbx:Stmt:=top 24
abbrev Zbv:Stmt:=top 25
abbrev Zdc:Stmt:=top 29
abbrev Zbz:Stmt:=top 30
abbrev Zc0:Stmt:=top 31
abbrev Zb6:Stmt:=top 32
abbrev Zbq:Stmt:=top 33
abbrev Zby:Stmt:=top 34
abbrev Zb1:Stmt:=top 35
abbrev Zbm:Stmt:=top 36
abbrev Zcm:Stmt:=top 37
abbrev Za1:Stmt:=top 41
abbrev Zbo:Stmt:=top 42
abbrev Zb0:Stmt:=top 43
abbrev Zdu:Stmt:=top 44
abbrev Zbu:Stmt:=top 45
abbrev Zbg:Stmt:=top 46
abbrev Zda:Stmt:=top 47
abbrev Zbp:Stmt:=top 48
abbrev Za6:Stmt:=top 49
abbrev Zbh:Stmt:=top 50
abbrev Zbw:Stmt:=top 51
abbrev Zcr:Stmt:=top 53
abbrev Zcq:Stmt:=top 54
abbrev Zcp:Stmt:=top 55
abbrev Zcb:Stmt:=top 56
abbrev Zb8:Stmt:=top 57
abbrev Zco:Stmt:=top 58
abbrev Zcc:Stmt:=top 59
abbrev Zba:Stmt:=top 60
abbrev Zb9:Stmt:=top 61
abbrev Zca:Stmt:=top 62
abbrev Zfl:Stmt:=top 63
def upto (n:Nat):List Int:=(List.range n).map fun k:Nat=>1+(k:Int)
theorem upto_succ (n:Nat):upto (n+1)=upto n++[1+(n:Int)]:=by unfold upto; rw [List.range_succ,List.map_append]; rfl
theorem mem_upto {n:Nat} {z:Int}:z∈upto n↔1≤z∧z≤n:=by
 unfold upto
 rw [List.mem_map]
 constructor
 ·rintro ⟨k,hk,rfl⟩
  have:=List.mem_range.mp hk
  lia
 ·rintro ⟨a,b⟩
  exact ⟨(z - 1).toNat,List.mem_range.mpr (by lia),by lia⟩
abbrev Kind:=Int × Int × Int × Bool
def KOk (k:Kind):Prop:=1≤k.1∧k.1≤12∧1≤k.2.1∧k.2.1≤12∧0≤k.2.2.1∧k.2.2.1≤1000000000
def hasB (w h W T:Int) (t:Bool):Bool:=(decide (w=W) && decide (h=T)) || (t && (decide (w=T) && decide (h=W)))
def ofK (k:Kind) (w h:Int):Bool:=hasB w h k.1 k.2.1 k.2.2.2
def ofL (k:Kind) (w h:Int):Bool:=hasB k.1 k.2.1 w h k.2.2.2
theorem of_same (k:Kind) (w h:Int):ofL k w h=ofK k w h:=by
 unfold ofL ofK hasB
 have e:∀ a b:Int,decide (a=b)=decide (b=a):=fun a b=>by
  by_cases q:a=b
  ·rw [q]
  ·rw [decide_eq_false q,decide_eq_false (Ne.symm q)]
 rw [e k.1 w,e k.2.1 h,e k.1 h,e k.2.1 w,Bool.and_comm (decide (h=k.1))]
def pick (w h:Int) (m:Int) (k:Kind):Int:=if ofK k w h=true∧m < k.2.2.1 then k.2.2.1 else m
def uncut (ks:List Kind) (w h:Int):Int:=ks.foldl (pick w h) 0
def cutsL (w h:Int):List (Bool × Int):=(upto (w - 1).toNat).map (fun a=>(true,a))++(upto (h - 1).toNat).map (fun a=>(false,a))
theorem Zhz {w h:Int} {c:Bool × Int} (hc:c∈cutsL w h):(c.1=true∧1≤c.2∧c.2 < w)∨(c.1=false∧1≤c.2∧c.2 < h):=by
 unfold cutsL at hc
 rcases List.mem_append.mp hc with hc | hc
 ·obtain ⟨a,ha,rfl⟩:=List.mem_map.mp hc
  have:=mem_upto.mp ha
  exact .inl ⟨rfl,by show 1≤a; lia,by show a < w; lia⟩
 ·obtain ⟨a,ha,rfl⟩:=List.mem_map.mp hc
  have:=mem_upto.mp ha
  exact .inr ⟨rfl,by show 1≤a; lia,by show a < h; lia⟩
theorem Zh4 {α:Type} (g:α→Int) (s:Int→α→Int) (hs:∀ m c,s m c=if m < g c then g c else m):∀ (l:List α) (m:Int),(l.foldl s m=m∨∃ c∈l,l.foldl s m=g c)∧m≤l.foldl s m∧∀ c∈l,g c≤l.foldl s m
 | [],m=>⟨.inl rfl,Int.le_refl _,fun c hc=>nomatch hc⟩
 | x :: l,m=>by
  obtain ⟨h1,h2,h3⟩:=Zh4 g s hs l (s m x)
  show ((l.foldl s (s m x)=m∨∃ c∈x :: l,l.foldl s (s m x)=g c)∧m≤l.foldl s (s m x)∧∀ c∈x :: l,g c≤l.foldl s (s m x))
  generalize l.foldl s (s m x)=r at h1 h2 h3
  rw [hs] at h1 h2
  refine ⟨?_,?_,fun c hc=>?_⟩
  ·rcases h1 with z | ⟨c,hc,z⟩
   ·by_cases q:m < g x
    ·rw [if_pos q] at z; exact .inr ⟨x,by simp,z⟩
    ·rw [if_neg q] at z; exact .inl z
   ·exact .inr ⟨c,List.mem_cons_of_mem _ hc,z⟩
  ·split at h2 <;> lia
  ·rcases List.mem_cons.mp hc with rfl | hc
   ·split at h2 <;> lia
   ·exact h3 c hc
theorem Zdr (w h:Int):∀ (l:List Kind) (m:Int),(l.foldl (pick w h) m=m∨∃ k∈l,ofK k w h=true∧l.foldl (pick w h) m=k.2.2.1)∧m≤l.foldl (pick w h) m∧∀ k∈l,ofK k w h=true→k.2.2.1≤l.foldl (pick w h) m
 | [],m=>⟨.inl rfl,Int.le_refl _,fun c hc=>nomatch hc⟩
 | x :: l,m=>by
  obtain ⟨h1,h2,h3⟩:=Zdr w h l (pick w h m x)
  show ((l.foldl (pick w h) (pick w h m x)=m∨∃ c∈x :: l,ofK c w h=true∧l.foldl (pick w h) (pick w h m x)=c.2.2.1)∧m≤l.foldl (pick w h) (pick w h m x)∧∀ c∈x :: l,ofK c w h=true→c.2.2.1≤l.foldl (pick w h) (pick w h m x))
  generalize l.foldl (pick w h) (pick w h m x)=r at h1 h2 h3
  unfold pick at h1 h2
  refine ⟨?_,?_,fun c hc o=>?_⟩
  ·rcases h1 with z | ⟨c,hc,o,z⟩
   ·by_cases q:ofK x w h=true∧m < x.2.2.1
    ·rw [if_pos q] at z; exact .inr ⟨x,by simp,q.1,z⟩
    ·rw [if_neg q] at z; exact .inl z
   ·exact .inr ⟨c,List.mem_cons_of_mem _ hc,o,z⟩
  ·split at h2 <;> lia
  ·rcases List.mem_cons.mp hc with rfl | hc
   ·by_cases q:m < c.2.2.1
    ·rw [if_pos ⟨o,q⟩] at h2; exact h2
    ·rw [if_neg (fun z=>q z.2)] at h2; lia
   ·exact h3 c hc o
theorem Zjh {α:Type} {s s':Int→α→Int}:∀ {l:List α} {m:Int},(∀ m c,c∈l→s m c=s' m c)→l.foldl s m=l.foldl s' m
 | [],_,_=>rfl
 | x :: l,m,h=>by
  show l.foldl s (s m x)=l.foldl s' (s' m x)
  rw [h m x (by simp),Zjh fun m c hc=>h m c (List.mem_cons_of_mem _ hc)]
theorem inj_of {α β:Type} {g:α→β}:∀ {l:List α},(l.map g).Nodup→∀ {p q:α},p∈l→q∈l→g p=g q→p=q
 | [],_,_,_,h,_,_=>nomatch h
 | x :: l,n,p,q,hp,hq,e=>by
  rw [List.map_cons,List.nodup_cons] at n
  rcases List.mem_cons.mp hp with a | a <;> rcases List.mem_cons.mp hq with b | b
  ·rw [a,b]
  ·exact absurd (List.mem_map.mpr ⟨q,b,by rw [← a]; exact e.symm⟩) n.1
  ·exact absurd (List.mem_map.mpr ⟨p,a,by rw [← b]; exact e⟩) n.1
  ·exact inj_of n.2 a b e
theorem nd_map {α β:Type} {f:α→β} (inj:∀ a b,f a=f b→a=b):∀ {l:List α},l.Nodup→(l.map f).Nodup
 | [],_=>List.nodup_nil
 | x :: l,h=>by
  rw [List.nodup_cons] at h
  rw [List.map_cons,List.nodup_cons]
  refine ⟨fun z=>?_,nd_map inj h.2⟩
  obtain ⟨y,hy,e⟩:=List.mem_map.mp z
  exact h.1 (inj _ _ e ▸ hy)
def refs {α:Type} (ts:List (Addr × α)):List V:=ts.map fun t=>V.ref t.1
theorem Zct {α:Type} {ts:List (Addr × α)} {i:Nat} {x:V} (h:(refs ts)[i]?=some x):∃ u,ts[i]?=some u∧x=.ref u.1:=by
 rw [refs,List.getElem?_map] at h
 cases e:ts[i]? with
 | none=>rw [e] at h; cases h
 | some u=>rw [e] at h; exact ⟨u,rfl,(Option.some.inj h).symm⟩
theorem Zav {α:Type} (ts:List (Addr × α)):(refs ts).length=ts.length:=List.length_map ..
theorem ints_get {xs:List Int} {i:Nat} {x:V} (h:(xs.map V.int)[i]?=some x):∃ z,xs[i]?=some z∧x=.int z:=by
 rw [List.getElem?_map] at h
 cases e:xs[i]? with
 | none=>rw [e] at h; cases h
 | some z=>rw [e] at h; exact ⟨z,rfl,(Option.some.inj h).symm⟩
theorem Zd0 {H H':Hp} (s:Same H H') {a:Addr} (h:H' a=none):H a=none:=by
 cases q:H a with
 | none=>rfl
 | some o=>rw [s a o q] at h; cases h
def KindsAt (H:Hp) (a:Addr) (ks:List Kind):Prop:=∃ ts:List (Addr × Kind),H a=some (.lst (refs ts))∧(∀ t∈ts,H t.1=some (.tup [.int t.2.1,.int t.2.2.1,.int t.2.2.2.1,.bl t.2.2.2.2]))∧ts.map (·.2)=ks
theorem KindsAt.same {H H':Hp} {a:Addr} {ks:List Kind} (h:KindsAt H a ks) (s:Same H H'):KindsAt H' a ks :=
 let ⟨ts,a,b,c⟩:=h; ⟨ts,s _ _ a,fun t ht=>s _ _ (b t ht),c⟩
def wd (u:Bool):Str:=if u=true then "upright" else "level"
theorem wd_eq (u:Bool):decide (V.str (wd u)=V.str "upright")=u:=by cases u <;> decide
theorem Zgw (u v:Bool):decide (V.str (wd u)=V.str (wd v))=(u == v):=by cases u <;> cases v <;> decide +kernel
theorem wd_whole (u:Bool):decide (V.str (wd u)=V.str "whole")=false:=by cases u <;> decide +kernel
inductive Tr where
 | whole (m:Option Int)
 | cut (u:Bool) (k:Int) (x y:Tr)
def Tr.dp:Tr→Nat
 | .whole _=>0
 | .cut _ _ x y=>max x.dp y.dp+1
def Tr.sz:Tr→Nat
 | .whole _=>1
 | .cut _ _ x y=>x.sz+y.sz
def markV:Option Int→V
 | none=>.non
 | some i=>.int i
def Told (H:Hp):Tr→V→Prop
 | .whole m,v=>∃ a,v=.ref a∧H a=some (.tup [.str "whole",markV m])
 | .cut u k x y,v=>∃ a vx vy,v=.ref a∧H a=some (.tup [.str (wd u),.int k,vx,vy])∧Told H x vx∧Told H y vy
theorem Told.same {H H':Hp} (s:Same H H'):∀ {t:Tr} {v:V},Told H t v→Told H' t v
 | .whole m,v,h=>by
  rw [Told] at h ⊢
  obtain ⟨a,e,h⟩:=h
  exact ⟨a,e,s _ _ h⟩
 | .cut u k x y,v,h=>by
  rw [Told] at h ⊢
  obtain ⟨a,vx,vy,e,h,h1,h2⟩:=h
  exact ⟨a,vx,vy,e,s _ _ h,Told.same s h1,Told.same s h2⟩
def Fit:Tr→Int→Int→Prop
 | .whole _,_,_=>True
 | .cut u k x y,w,h=>if u=true then (1≤k∧k < w∧Fit x k h∧Fit y (w - k) h) else (1≤k∧k < h∧Fit x w k∧Fit y w (h - k))
theorem Zji:∀ {t:Tr} {w h:Int},1≤w→1≤h→Fit t w h→(t.dp:Int)+2≤w+h
 | .whole _,w,h,hw,hh,_=>by show ((0:Nat):Int)+2≤_; lia
 | .cut u k x y,w,h,hw,hh,f=>by
  rw [Fit] at f
  show ((max x.dp y.dp+1:Nat):Int)+2≤_
  cases u with
  | true =>
   obtain ⟨a,b,c,d⟩:=f
   have:=Zji a hh c
   have:=Zji (by lia) hh d
   lia
  | false =>
   obtain ⟨a,b,c,d⟩:=f
   have:=Zji hw a c
   have:=Zji hw (by lia) d
   lia
theorem Zg9:∀ {t:Tr} {w h:Int},1≤w→1≤h→Fit t w h→(t.sz:Int)≤w * h
 | .whole _,w,h,hw,hh,_=>by
  show ((1:Nat):Int)≤_
  have:=Int.mul_le_mul hw hh (by lia) (by lia)
  lia
 | .cut u k x y,w,h,hw,hh,f=>by
  rw [Fit] at f
  show ((x.sz+y.sz:Nat):Int)≤_
  cases u with
  | true =>
   obtain ⟨a,b,c,d⟩:=f
   have h1:=Zg9 a hh c
   have h2:=Zg9 (by lia) hh d
   rw [Int.sub_mul] at h2
   lia
  | false =>
   obtain ⟨a,b,c,d⟩:=f
   have h1:=Zg9 hw a c
   have h2:=Zg9 hw (by lia) d
   rw [Int.mul_sub] at h2
   lia
theorem nilL {K:PySem.W.Frag} {H:Hp} {a:Addr} (h:H a=some (.lst [])):DIs K H (.lst .nil) (.ref a):=by
 rw [DIs]
 exact ⟨a,[],rfl,SqL.of h,by rw [DIss]⟩
theorem Zig {x0 x1 x2 x3:V}:atI [x0,x1,x2,x3] 0=some x0:=rfl
theorem Zif {x0 x1 x2 x3:V}:atI [x0,x1,x2,x3] 1=some x1:=rfl
theorem Zie {x0 x1 x2 x3:V}:atI [x0,x1,x2,x3] 2=some x2:=rfl
theorem at4_3 {x0 x1 x2 x3:V}:atI [x0,x1,x2,x3] 3=some x3:=rfl
theorem Zcy {x0 x1:V}:atI [x0,x1] 0=some x0:=rfl
theorem Zdh {x0 x1:V}:atI [x0,x1] 1=some x1:=rfl
theorem pow9:CPow 10 9:=⟨by decide,by decide,by decide⟩
theorem divL {j:Int} (z:Int) (h:0 < j) (h2:j < 18446744073709551616):CDivL z j:=⟨h,Nat.lt_trans (Zg4 (k:=64) (by decide) (by lia)) (by decide)⟩
theorem mul64 {a b:Int} (h1:-18446744073709551616 < a) (h2:a < 18446744073709551616) (h3:-18446744073709551616 < b) (h4:b < 18446744073709551616):IntMulOk a b:=by
 have c:(2:Nat)^128=340282366920938463463374607431768211456:=by decide +kernel
 refine mulOk_of ?_ ?_ <;> rw [c] <;> lia
theorem atI_in {L:List V} {i:Int} (h0:0≤i) (h1:i < L.length):∃ v,atI L i=some v∧v∈L:=by
 have h:i.toNat < L.length:=by lia
 have e:=Zk6 (List.getElem?_eq_getElem h)
 rw [Int.toNat_of_nonneg h0] at e
 exact ⟨_,e,List.getElem_mem h⟩
theorem at_ints {ns:List Int} {k:Int} (h0:0≤k) (h1:k < (ns.length:Int)):∃ z,atI (ns.map V.int) k=some (.int z):=by
 have hk:k.toNat < ns.length:=by lia
 have hz:(ns.map V.int)[k.toNat]?=some (.int ns[k.toNat]):=by rw [List.getElem?_map,List.getElem?_eq_getElem hk]; rfl
 have e:=Zk6 hz
 rw [Int.toNat_of_nonneg h0] at e
 exact ⟨_,e⟩
theorem ty_tup {H:Hp} {a:Addr} {xs:List V} (h:H a=some (.tup xs)):tyS H (.ref a)=some "tuple":=by
 show tyO (H a)=some "tuple"
 rw [h]; rfl
inductive En where
 | w (m:Option Int)
 | c (u:Bool) (k:Int)
def enV:En→List V
 | .w m=>[.str "whole",markV m]
 | .c u k=>[.str (wd u),.int k]
def UE (ks:List Kind) (w h m:Int):En→Prop
 | .w none=>m=0
 | .w (some i)=>∃ k,0≤i∧ks[i.toNat]?=some k∧ofK k w h=true∧m=k.2.2.1
 | .c _ _=>False
def Cho (H:Hp) (c:Addr) (m:Int) (G:En→Prop):Prop:=∃ ea en,H c=some (.tup [.int m,.ref ea])∧H ea=some (.tup (enV en))∧G en
theorem Cho.same {H H':Hp} {c:Addr} {m:Int} {G:En→Prop} (h:Cho H c m G) (s:Same H H'):Cho H' c m G:=let ⟨ea,en,a,b,g⟩:=h; ⟨ea,en,s _ _ a,s _ _ b,g⟩
theorem Cho.imp {H:Hp} {c:Addr} {m:Int} {G G':En→Prop} (h:Cho H c m G) (i:∀ e,G e→G' e):Cho H c m G':=let ⟨ea,en,a,b,g⟩:=h; ⟨ea,en,a,b,i _ g⟩
abbrev ChU (H:Hp) (c:Addr) (ks:List Kind) (w h m:Int):Prop:=Cho H c m (UE ks w h m)
def pairD (x y:Int):D:=.tup (.cons (.at (.int x)) (.cons (.at (.int y)) .nil))
theorem Zcw {K:PySem.W.Frag} {H:Hp} {a:Addr} {x y:Int} (h:SqT K H a [.int x,.int y]):DIs K H (pairD x y) (.ref a):=by
 unfold pairD
 rw [DIs]
 refine ⟨_,_,rfl,h,?_⟩
 rw [DIss]
 refine ⟨_,_,rfl,by rw [DIs]; exact ⟨rfl,rfl⟩,?_⟩
 rw [DIss]
 exact ⟨_,_,rfl,by rw [DIs]; exact ⟨rfl,rfl⟩,by rw [DIss]⟩
theorem Zeg (x y:Int):dep (pairD x y)≤50:=by unfold pairD; rw [dep,deps,dep,deps,dep,deps]; lia
theorem Zdw (x y x' y':Int):deq (pairD x y) (pairD x' y')=(decide (x=x') && decide (y=y')):=by
 unfold pairD
 rw [deq,deqs,deq,deqs,deq,deqs]
 have e:∀ a b:Int,eqV (.int a) (.int b)=decide (a=b):=fun a b=>by
  by_cases q:a=b
  ·subst q; simp [eqV]
  ·simp [eqV,q]
 rw [e,e,Bool.and_true]
def kindsD:List Kind→Ds
 | []=>.nil
 | z :: r=>.cons (.tup (.cons (.at (.int z.1)) (.cons (.at (.int z.2.1)) (.cons (.at (.int z.2.2.1)) (.cons (.at (.bl z.2.2.2)) .nil))))) (kindsD r)
theorem Zjc {K:PySem.W.Frag} {H:Hp}:∀ (ts:List (Addr × Kind)),(∀ t∈ts,H t.1=some (.tup [.int t.2.1,.int t.2.2.1,.int t.2.2.2.1,.bl t.2.2.2.2]))→DIss K H (kindsD (ts.map (·.2))) (refs ts)
 | [],_=>by
  show DIss K H .nil []
  rw [DIss]
 | t :: r,h=>by
  show DIss K H (.cons (.tup (.cons (.at (.int t.2.1)) (.cons (.at (.int t.2.2.1)) (.cons (.at (.int t.2.2.2.1)) (.cons (.at (.bl t.2.2.2.2)) .nil))))) (kindsD (r.map (·.2)))) (.ref t.1 :: refs r)
  rw [DIss]
  refine ⟨_,_,rfl,?_,Zjc r fun u hu=>h u (List.mem_cons_of_mem _ hu)⟩
  rw [DIs]
  refine ⟨_,_,rfl,SqT.of (h t (by simp)),?_⟩
  rw [DIss]
  refine ⟨_,_,rfl,by rw [DIs]; exact ⟨rfl,rfl⟩,?_⟩
  rw [DIss]
  refine ⟨_,_,rfl,by rw [DIs]; exact ⟨rfl,rfl⟩,?_⟩
  rw [DIss]
  refine ⟨_,_,rfl,by rw [DIs]; exact ⟨rfl,rfl⟩,?_⟩
  rw [DIss]
  exact ⟨_,_,rfl,by rw [DIs]; exact ⟨rfl,rfl⟩,by rw [DIss]⟩
theorem Zg5:∀ (zs:List Kind),deps (kindsD zs)≤1
 | []=>by rw [kindsD,deps]; lia
 | z :: r=>by
  have:=Zg5 r
  rw [kindsD,deps,dep,deps,dep,deps,dep,deps,dep,deps,dep,deps]
  lia
theorem KindsAt.data {K:PySem.W.Frag} {H:Hp} {l:Addr} {ks:List Kind} (h:KindsAt H l ks):DIs K H (.lst (kindsD ks)) (.ref l):=by
 obtain ⟨ts,e1,e2,rfl⟩:=h
 rw [DIs]
 exact ⟨l,_,rfl,SqL.of e1,Zjc ts e2⟩
theorem at0 {x0 x1 x2 x3:V}:atI [x0,x1,x2,x3] 0=some x0:=rfl
theorem at1 {x0 x1 x2 x3:V}:atI [x0,x1,x2,x3] 1=some x1:=rfl
theorem at2 {x0 x1 x2 x3:V}:atI [x0,x1,x2,x3] 2=some x2:=rfl
theorem at3 {x0 x1 x2 x3:V}:atI [x0,x1,x2,x3] 3=some x3:=rfl
def Zd8:Sp:=fun vs H Q _=>∃ i:Int,vs=[.int i]∧Q (.bl true) H
def Zhi:Sp:=fun vs H Q _=>∃ i:Int,vs=[.int i]∧1≤i∧i≤12∧Q (.bl true) H
def Pc (H:Hp) (a:Addr) (t l b r:Int):Prop:=H a=some (.tup [.int t,.int l,.int b,.int r])
def sp_first:Sp:=fun vs H Q _=>∃ (a:Addr) (t l b r k:Int) (u:Bool),vs=[.ref a,.str (wd u),.int k]∧Pc H a t l b r∧∀ c H',Same H H'→Pc H' c t l (if u=true then b else t+k) (if u=true then l+k else r)→Q (.ref c) H'
def sp_other:Sp:=fun vs H Q _=>∃ (a:Addr) (t l b r k:Int) (u:Bool),vs=[.ref a,.str (wd u),.int k]∧Pc H a t l b r∧∀ c H',Same H H'→Pc H' c (if u=true then t else t+k) (if u=true then l+k else l) b r→Q (.ref c) H'
def Zka:Sp:=fun vs H Q _=>∃ (a:Addr) (k:Kind),vs=[.ref a]∧H a=some (.tup [.int k.1,.int k.2.1,.int k.2.2.1,.bl k.2.2.2])∧KOk k∧Q (.bl true) H
def Zhn:Sp:=fun vs H Q _=>∃ (a:Addr) (ks:List Kind),vs=[.ref a]∧KindsAt H a ks∧ks.length≤8∧(∀ k∈ks,KOk k)∧∀ H',Same H H'→Q .non H'
def Zhh:Sp:=fun vs H Q _=>∃ (a:Addr) (t l b r:Int),vs=[.ref a]∧Pc H a t l b r∧∀ c H',Same H H'→H' c=some (.tup [.int (r - l),.int (b - t)])→Q (.ref c) H'
def sp_has:Sp:=fun vs H Q _=>∃ (a:Addr) (w h W T:Int) (u:Bool),vs=[.ref a,.int W,.int T,.bl u]∧H a=some (.tup [.int w,.int h])∧∀ H',Same H H'→Q (.bl (hasB w h W T u)) H'
def sp_of:Sp:=fun vs H Q _=>∃ (a b:Addr) (t l o r:Int) (k:Kind),vs=[.ref a,.ref b]∧Pc H a t l o r∧H b=some (.tup [.int k.1,.int k.2.1,.int k.2.2.1,.bl k.2.2.2])∧∀ H',Same H H'→Q (.bl (ofK k (r - l) (o - t))) H'
def Zhg:Sp:=fun vs H Q _=>∃ (a b:Addr) (t l o r:Int) (ks:List Kind),vs=[.ref a,.ref b]∧Pc H a t l o r∧KindsAt H b ks∧ks.length≤8∧∀ c H',Same H H'→ChU H' c ks (r - l) (o - t) (uncut ks (r - l) (o - t))→Q (.ref c) H'
def CutsAt (H:Hp) (l:Addr) (cs:List (Bool × Int)):Prop:=∃ ts:List (Addr × Bool × Int),H l=some (.lst (refs ts))∧(∀ t∈ts,H t.1=some (.tup [.str (wd t.2.1),.int t.2.2]))∧ts.map (·.2)=cs
def Zkc:Sp:=fun vs H Q _=>∃ (a:Addr) (t l o r:Int),vs=[.ref a]∧Pc H a t l o r∧1≤r - l∧r - l≤12∧1≤o - t∧o - t≤12∧∀ c H',Same H H'→CutsAt H' c (cutsL (r - l) (o - t))→Q (.ref c) H'
abbrev Rk:=GB.Rc
abbrev Rk.vs (p:Rk):List V:=[.int p.t,.int p.l,.int p.b,.int p.r]
def Rk.len (p:Rk) (u:Bool):Int:=if u then p.r - p.l else p.b - p.t
def Rk.fst (p:Rk) (u:Bool) (k:Int):Rk:=if u then ⟨p.t,p.l,p.b,p.l+k⟩ else ⟨p.t,p.l,p.t+k,p.r⟩
def Rk.oth (p:Rk) (u:Bool) (k:Int):Rk:=if u then ⟨p.t,p.l+k,p.b,p.r⟩ else ⟨p.t+k,p.l,p.b,p.r⟩
def FitR (p:Rk) (t:Tr):Prop:=Fit t (p.r - p.l) (p.b - p.t)
theorem fitR_cut {p:Rk} {u:Bool} {k:Int} {x y:Tr}:FitR p (.cut u k x y)↔(1≤k∧k < p.len u)∧FitR (p.fst u k) x∧FitR (p.oth u k) y:=by
 unfold FitR Rk.len Rk.fst Rk.oth
 rw [Fit]
 cases u with
 | true =>
  show (1≤k∧k < p.r - p.l∧Fit x k (p.b - p.t)∧Fit y (p.r - p.l - k) (p.b - p.t))↔((1≤k∧k < p.r - p.l)∧Fit x (p.l+k - p.l) (p.b - p.t)∧Fit y (p.r - (p.l+k)) (p.b - p.t))
  rw [show p.l+k - p.l=k by lia,show p.r - (p.l+k)=p.r - p.l - k by lia]
  exact ⟨fun ⟨a,b,c,d⟩=>⟨⟨a,b⟩,c,d⟩,fun ⟨⟨a,b⟩,c,d⟩=>⟨a,b,c,d⟩⟩
 | false =>
  show (1≤k∧k < p.b - p.t∧Fit x (p.r - p.l) k∧Fit y (p.r - p.l) (p.b - p.t - k))↔((1≤k∧k < p.b - p.t)∧Fit x (p.r - p.l) (p.t+k - p.t)∧Fit y (p.r - p.l) (p.b - (p.t+k)))
  rw [show p.t+k - p.t=k by lia,show p.b - (p.t+k)=p.b - p.t - k by lia]
  exact ⟨fun ⟨a,b,c,d⟩=>⟨⟨a,b⟩,c,d⟩,fun ⟨⟨a,b⟩,c,d⟩=>⟨a,b,c,d⟩⟩
def Zkd (K:PySem.W.Frag):Sp:=fun vs H Q _=>∃ (a:Addr) (ns:List Int) (k:Int),vs=[.ref a,.int k]∧SqL K H a (ns.map V.int)∧0≤k∧∀ z,Q (.int z) H
def Zhm:Sp:=fun vs H Q _=>∃ (c n m:Int),vs=[.int c,.int n,.int m]∧0≤n∧n≤1000∧0 < m∧∀ r,0≤r→r < m→Q (.int r) H
def Zhj:Sp:=fun vs H Q _=>∃ c:Int,vs=[.int c]∧∀ (k:Kind) a H',Same H H'→H' a=some (.tup [.int k.1,.int k.2.1,.int k.2.2.1,.bl k.2.2.2])→KOk k→H a=none→Q (.ref a) H'
def Zhk:Sp:=fun vs H Q _=>∃ (b:Addr) (k:Kind) (w h:Int),vs=[.ref b,.int w,.int h]∧H b=some (.tup [.int k.1,.int k.2.1,.int k.2.2.1,.bl k.2.2.2])∧∀ H',Same H H'→Q (.bl (ofK k w h)) H'
def SizesAt (H:Hp) (l:Addr) (zs:List (Int × Int)):Prop:=∃ ts:List (Addr × Int × Int),H l=some (.lst (refs ts))∧(∀ t∈ts,H t.1=some (.tup [.int t.2.1,.int t.2.2]))∧ts.map (·.2)=zs
theorem SizesAt.same {H H':Hp} {a:Addr} {ks:List (Int × Int)} (h:SizesAt H a ks) (s:Same H H'):SizesAt H' a ks :=
 let ⟨ts,a,b,c⟩:=h; ⟨ts,s _ _ a,fun t ht=>s _ _ (b t ht),c⟩
def Ziu:Sp:=fun vs H Q _=>∃ (a:Addr) (p:Rk) (u:Bool) (k:Int),vs=[.ref a,.str (wd u),.int k]∧H a=some (.tup p.vs)∧∀ x,H x=none→Q (.ref x) (upd H x (.tup (p.fst u k).vs))
def Zit:Sp:=fun vs H Q _=>∃ (a:Addr) (p:Rk) (u:Bool) (k:Int),vs=[.ref a,.str (wd u),.int k]∧H a=some (.tup p.vs)∧∀ x,H x=none→Q (.ref x) (upd H x (.tup (p.oth u k).vs))
theorem fst_first (vs:List V) (H:Hp) (Q:VK) (E:XK) (h:sp_first vs H Q E):Ziu vs H Q E:=by
 obtain ⟨a,t,l,b,r,k,u,rfl,ha,q⟩:=h
 refine ⟨a,⟨t,l,b,r⟩,u,k,rfl,ha,fun x hx=>q x _ (Same.new hx) ?_⟩
 cases u <;> exact Zab
theorem oth_other (vs:List V) (H:Hp) (Q:VK) (E:XK) (h:sp_other vs H Q E):Zit vs H Q E:=by
 obtain ⟨a,t,l,b,r,k,u,rfl,ha,q⟩:=h
 refine ⟨a,⟨t,l,b,r⟩,u,k,rfl,ha,fun x hx=>q x _ (Same.new hx) ?_⟩
 cases u <;> exact Zab
abbrev Rc:=Int × Int × Int × Int
abbrev wR (p:Rc):Int:=p.2.2.2 - p.2.1
abbrev hR (p:Rc):Int:=p.2.2.1 - p.1
def InS (W T:Int) (p:Rc):Prop:=0≤p.1∧p.1 < p.2.2.1∧p.2.2.1≤T∧0≤p.2.1∧p.2.1 < p.2.2.2∧p.2.2.2≤W
theorem Zh0 {W T:Int} {p:Rc} (h:InS W T p):0≤wR p+hR p:=by
 unfold InS at h
 show 0≤p.2.2.2 - p.2.1+(p.2.2.1 - p.1)
 lia
def hitB (s:Int × Int) (p:Rc):Bool:=(decide (p.1≤s.1) && decide (s.1 < p.2.2.1)) && (decide (p.2.1≤s.2) && decide (s.2 < p.2.2.2))
def foul (fl:List (Int × Int)) (p:Rc):Bool:=fl.any fun s=>hitB s p
def uncutF (ks:List Kind) (fl:List (Int × Int)) (p:Rc):Int:=if foul fl p=true then uncut [] (wR p) (hR p) else uncut ks (wR p) (hR p)
def pA (p:Rc) (c:Bool × Int):Rc:=(p.1,p.2.1,if c.1=true then p.2.2.1 else p.1+c.2,if c.1=true then p.2.1+c.2 else p.2.2.2)
def pB (p:Rc) (c:Bool × Int):Rc:=(if c.1=true then p.1 else p.1+c.2,if c.1=true then p.2.1+c.2 else p.2.1,p.2.2.1,p.2.2.2)
def twoR (f:Rc→Int) (p:Rc) (c:Bool × Int):Int:=f (pA p c)+f (pB p c)
def stepR (f:Rc→Int) (p:Rc) (m:Int) (c:Bool × Int):Int:=if m < twoR f p c then twoR f p c else m
def bestR (f:Rc→Int) (p:Rc) (m:Int):Int:=(cutsL (wR p) (hR p)).foldl (stepR f p) m
def GOk (ks:List Kind) (fl:List (Int × Int)) (f:Rc→Int) (p:Rc):Prop:=f p=bestR f p (uncutF ks fl p)
theorem in_cuts {w h:Int} {b:Bool} {k:Int} (h1:1≤k) (h2:k < if b=true then w else h):(b,k)∈cutsL w h:=by
 unfold cutsL
 cases b with
 | true =>
  rw [if_pos rfl] at h2
  exact List.mem_append_left _ (List.mem_map.mpr ⟨k,mem_upto.mpr ⟨h1,by lia⟩,rfl⟩)
 | false =>
  rw [if_neg Bool.false_ne_true] at h2
  exact List.mem_append_right _ (List.mem_map.mpr ⟨k,mem_upto.mpr ⟨h1,by lia⟩,rfl⟩)
structure Cut2 (W T:Int) (p:Rc) (c:Bool × Int):Prop where
 a:InS W T (pA p c)
 b:InS W T (pB p c)
 la:wR (pA p c)+hR (pA p c) < wR p+hR p
 lb:wR (pB p c)+hR (pB p c) < wR p+hR p
 ma:hR (pA p c) * wR (pA p c) < hR p * wR p
 mb:hR (pB p c) * wR (pB p c) < hR p * wR p
theorem Zjk {W T:Int} {p:Rc} {c:Bool × Int} (h:InS W T p) (hc:c∈cutsL (wR p) (hR p)):Cut2 W T p c:=by
 obtain ⟨t,l,b,r⟩:=p
 obtain ⟨u,k⟩:=c
 obtain ⟨h1,h2,h3,h4,h5,h6⟩:=h
 simp only at h1 h2 h3 h4 h5 h6
 rcases Zhz hc with ⟨e,a1,a2⟩ | ⟨e,a1,a2⟩
 ·have e:u=true:=e
  subst e
  have a1:1≤k:=a1
  have a2:k < r - l:=a2
  have m1:(b - t) * k < (b - t) * (r - l):=Int.mul_lt_mul_of_pos_left a2 (by lia)
  have m2:(b - t) * (r - l - k) < (b - t) * (r - l):=Int.mul_lt_mul_of_pos_left (by lia) (by lia)
  refine ⟨⟨h1,h2,h3,h4,by show l < l+k; lia,by show l+k≤W; lia⟩,⟨h1,h2,h3,by show 0≤l+k; lia,by show l+k < r; lia,h6⟩,by show l+k - l+(b - t) < r - l+(b - t); lia,by show r - (l+k)+(b - t) < r - l+(b - t); lia,?_,?_⟩
  ·show (b - t) * (l+k - l) < (b - t) * (r - l)
   rw [show l+k - l=k from by lia]; exact m1
  ·show (b - t) * (r - (l+k)) < (b - t) * (r - l)
   rw [show r - (l+k)=r - l - k from by lia]; exact m2
 ·have e:u=false:=e
  subst e
  have a1:1≤k:=a1
  have a2:k < b - t:=a2
  have m1:k * (r - l) < (b - t) * (r - l):=Int.mul_lt_mul_of_pos_right a2 (by lia)
  have m2:(b - t - k) * (r - l) < (b - t) * (r - l):=Int.mul_lt_mul_of_pos_right (by lia) (by lia)
  refine ⟨⟨h1,by show t < t+k; lia,by show t+k≤T; lia,h4,h5,h6⟩,⟨by show 0≤t+k; lia,by show t+k < b; lia,h3,h4,h5,h6⟩,by show r - l+(t+k - t) < r - l+(b - t); lia,by show r - l+(b - (t+k)) < r - l+(b - t); lia,?_,?_⟩
  ·show (t+k - t) * (r - l) < (b - t) * (r - l)
   rw [show t+k - t=k from by lia]; exact m1
  ·show (b - (t+k)) * (r - l) < (b - t) * (r - l)
   rw [show b - (t+k)=b - t - k from by lia]; exact m2
theorem Zjf {ks:List Kind} {fl:List (Int × Int)} {f:Rc→Int} {p:Rc} (G:GOk ks fl f p):f p=0∨(foul fl p=false∧∃ k∈ks,ofK k (wR p) (hR p)=true∧f p=k.2.2.1)∨∃ c∈cutsL (wR p) (hR p),f p=twoR f p c:=by
 obtain ⟨a1,a2,a3⟩:=Zh4 (twoR f p) (stepR f p) (fun _ _=>rfl) (cutsL (wR p) (hR p)) (uncutF ks fl p)
 have Fe:f p=(cutsL (wR p) (hR p)).foldl (stepR f p) (uncutF ks fl p):=G
 rcases a1 with z | ⟨c,hc,z⟩
 ·rw [z] at Fe
  unfold uncutF at Fe
  cases hf:foul fl p with
  | true=>rw [if_pos hf] at Fe; exact .inl Fe
  | false =>
   rw [if_neg (by rw [hf]; exact Bool.false_ne_true)] at Fe
   obtain ⟨b1,_,_⟩:=Zdr (wR p) (hR p) ks 0
   rcases b1 with y | ⟨k,hk,o,y⟩
   ·exact .inl (Fe.trans y)
   ·exact .inr (.inl ⟨rfl,k,hk,o,Fe.trans y⟩)
 ·exact .inr (.inr ⟨c,hc,Fe.trans z⟩)
theorem Zf4 {ks:List Kind} {fl:List (Int × Int)} {f:Rc→Int} {p:Rc} (G:GOk ks fl f p):uncutF ks fl p≤f p∧∀ c∈cutsL (wR p) (hR p),twoR f p c≤f p:=by
 obtain ⟨a1,a2,a3⟩:=Zh4 (twoR f p) (stepR f p) (fun _ _=>rfl) (cutsL (wR p) (hR p)) (uncutF ks fl p)
 have Fe:f p=(cutsL (wR p) (hR p)).foldl (stepR f p) (uncutF ks fl p):=G
 rw [← Fe] at a2 a3
 exact ⟨a2,a3⟩
theorem gok_nn {ks:List Kind} {fl:List (Int × Int)} {f:Rc→Int} {p:Rc} (G:GOk ks fl f p):0≤f p:=by
 refine Int.le_trans ?_ (Zf4 G).1
 unfold uncutF
 split
 ·exact (Zdr (wR p) (hR p) [] 0).2.1
 ·exact (Zdr (wR p) (hR p) ks 0).2.1
theorem Zh1 {ks:List Kind} {fl:List (Int × Int)} {f:Rc→Int} {p:Rc} (G:GOk ks fl f p) (hf:foul fl p=false) {k:Kind} (hk:k∈ks) (o:ofK k (wR p) (hR p)=true):k.2.2.1≤f p:=by
 refine Int.le_trans ?_ (Zf4 G).1
 unfold uncutF
 rw [if_neg (by rw [hf]; exact Bool.false_ne_true)]
 exact (Zdr (wR p) (hR p) ks 0).2.2 k hk o
theorem gok_le {W T:Int} {ks:List Kind} {fl:List (Int × Int)} {f g:Rc→Int} (G:∀ p,InS W T p→GOk ks fl f p) (h0:∀ p,InS W T p→0≤g p) (hk:∀ p,InS W T p→foul fl p=false→∀ k∈ks,ofK k (wR p) (hR p)=true→k.2.2.1≤g p)
  (hc:∀ p,InS W T p→∀ c∈cutsL (wR p) (hR p),g (pA p c)+g (pB p c)≤g p):∀ (n:Nat) (p:Rc),(wR p+hR p).toNat=n→InS W T p→f p≤g p:=by
 intro n
 induction n using Nat.strongRecOn with
 | ind n ih =>
  intro p hn hp
  have pos:0≤wR p+hR p:=by have:=hp; unfold InS at this; show 0≤p.2.2.2 - p.2.1+(p.2.2.1 - p.1); lia
  rcases Zjf (G p hp) with e | ⟨e1,k,e2,e3,e⟩ | ⟨c,e1,e⟩
  ·rw [e]; exact h0 p hp
  ·rw [e]; exact hk p hp e1 k e2 e3
  ·obtain ⟨ia,ib,la,lb,_,_⟩:=Zjk hp e1
   have a0:=Zh0 ia
   have b0:=Zh0 ib
   have h1:=ih _ (by lia) (pA p c) rfl ia
   have h2:=ih _ (by lia) (pB p c) rfl ib
   have:=hc p hp c e1
   rw [e]
   unfold twoR
   lia
theorem foul_iff {fl:List (Int × Int)} {p:Rc}:foul fl p=false↔∀ s∈fl,hitB s p=false:=by
 unfold foul
 rw [List.any_eq_false]
 exact ⟨fun h s hs=>by have:=h s hs; cases e:hitB s p with | false=>rfl | true=>rw [e] at this; exact absurd rfl this,fun h s hs=>by rw [h s hs]; exact Bool.false_ne_true⟩
def ky4 (p:Rc):List Key:=[Sum.inl p.1,Sum.inl p.2.1,Sum.inl p.2.2.1,Sum.inl p.2.2.2]
theorem ky4_inj {p q:Rc} (h:ky4 p=ky4 q):p=q:=by
 obtain ⟨a,b,c,d⟩:=p
 obtain ⟨a',b',c',d'⟩:=q
 unfold ky4 at h
 simp only [List.cons.injEq,Sum.inl.injEq,and_true] at h
 obtain ⟨rfl,rfl,rfl,rfl⟩:=h
 rfl
def tabR (L:List Rc) (v:Rc→V):List (List Key × V):=L.map fun p=>(ky4 p,v p)
theorem Zdi (v:Rc→V):∀ (L:List Rc) (p:Rc),p∈L→valV (tabR L v) (ky4 p)=some (v p)
 | [],p,h=>nomatch h
 | q :: L,p,h=>by
  show valV ((ky4 q,v q) :: tabR L v) (ky4 p)=some (v p)
  by_cases e:q=p
  ·subst e; rw [Ze9 rfl]
  ·have ne:¬ ky4 q=ky4 p:=fun z=>e (ky4_inj z)
   rw [Zd6 (p:=(ky4 q,v q)) ne]
   rcases List.mem_cons.mp h with rfl | h
   ·exact absurd rfl e
   ·exact Zdi v L p h
theorem Zis (v:Rc→V):∀ (L:List Rc) (p:Rc),p ∉ L→valV (tabR L v) (ky4 p)=none
 | [],p,h=>rfl
 | q :: L,p,h=>by
  show valV ((ky4 q,v q) :: tabR L v) (ky4 p)=none
  have e:q≠p:=fun z=>h (by rw [z]; simp)
  have ne:¬ ky4 q=ky4 p:=fun z=>e (ky4_inj z)
  rw [Zd6 (p:=(ky4 q,v q)) ne]
  exact Zis v L p fun z=>h (List.mem_cons_of_mem _ z)
theorem tabR_put (v:Rc→V) (L:List Rc) (p:Rc) (h:p ∉ L) (y:V):putK (tabR L v) (ky4 p) y=tabR L v++[(ky4 p,y)]:=by
 have e:((tabR L v).any fun kv=>decide (kv.1=ky4 p))=false:=by rw [Zhf,Zis v L p h]; rfl
 unfold putK
 rw [e,if_neg Bool.false_ne_true]
theorem tabR_congr {v v':Rc→V} {L:List Rc} (h:∀ p∈L,v p=v' p):tabR L v=tabR L v':=by
 unfold tabR
 exact List.map_congr_left fun p hp=>by rw [h p hp]
theorem Zdj (L:List Rc) (v:Rc→V):(tabR L v).length=L.length:=List.length_map ..
def ksF (ks:List Kind) (fl:List (Int × Int)) (p:Rc):List Kind:=if foul fl p=true then [] else ks
def GR (ks:List Kind) (fl:List (Int × Int)) (f:Rc→Int) (p:Rc) (m:Int):En→Prop
 | .c u k=>(u,k)∈cutsL (wR p) (hR p)∧m=twoR f p (u,k)
 | .w x=>UE (ksF ks fl p) (wR p) (hR p) m (.w x)
theorem gr_congr {ks:List Kind} {fl:List (Int × Int)} {f g:Rc→Int} {p:Rc} {m:Int} (e:∀ c∈cutsL (wR p) (hR p),f (pA p c)=g (pA p c)∧f (pB p c)=g (pB p c)):∀ {x:En},GR ks fl f p m x→GR ks fl g p m x
 | .c u k,z=>⟨z.1,by
  obtain ⟨e1,e2⟩:=e _ z.1
  have:=z.2
  unfold twoR at this ⊢
  rw [← e1,← e2]; exact this⟩
 | .w x,z=>z
abbrev ChR (H:Hp) (c:Addr) (ks:List Kind) (fl:List (Int × Int)) (f:Rc→Int) (p:Rc) (m:Int):Prop:=Cho H c m (GR ks fl f p m)
theorem Cho.up {H:Hp} {c:Addr} {ks:List Kind} {fl:List (Int × Int)} {f:Rc→Int} {p:Rc} {m:Int} (z:ChU H c (ksF ks fl p) (wR p) (hR p) m):ChR H c ks fl f p m:=z.imp fun e g=>by
 cases e with
 | w x=>exact g
 | c u k=>exact g.elim
def TabQ (ks:List Kind) (fl:List (Int × Int)) (H:Hp) (d:Addr) (L:List Rc) (ad:Rc→Addr) (f:Rc→Int):Prop:=H d=some (.dT (tabR L fun p=>.ref (ad p)))∧∀ p∈L,ChR H (ad p) ks fl f p (f p)
theorem TabQ.same {ks:List Kind} {fl:List (Int × Int)} {H H':Hp} {d:Addr} {L:List Rc} {ad:Rc→Addr} {f:Rc→Int} (t:TabQ ks fl H d L ad f) (s:Same H H'):TabQ ks fl H' d L ad f:=⟨s _ _ t.1,fun p hp=>(t.2 p hp).same s⟩
def runsL (n:Nat):List (Int × Int):=(List.range n).flatMap fun b:Nat=>(List.range (n - b)).map fun e:Nat=>((b:Int),(b:Int)+1+(e:Int))
theorem mem_runs {n:Nat} {p:Int × Int}:p∈runsL n↔0≤p.1∧p.1 < p.2∧p.2≤n:=by
 unfold runsL
 rw [List.mem_flatMap]
 constructor
 ·rintro ⟨b,hb,hp⟩
  obtain ⟨e,he,rfl⟩:=List.mem_map.mp hp
  have:=List.mem_range.mp hb
  have:=List.mem_range.mp he
  exact ⟨by show (0:Int)≤(b:Int); lia,by show (b:Int) < (b:Int)+1+(e:Int); lia,by show (b:Int)+1+(e:Int)≤n; lia⟩
 ·obtain ⟨x,y⟩:=p
  rintro ⟨a,b,c⟩
  have a:0≤x:=a
  have b:x < y:=b
  have c:y≤n:=c
  refine ⟨x.toNat,List.mem_range.mpr (by lia),List.mem_map.mpr ⟨(y - x - 1).toNat,List.mem_range.mpr (by lia),?_⟩⟩
  exact Prod.ext (by show ((x.toNat:Nat):Int)=x; lia) (by show ((x.toNat:Nat):Int)+1+(((y - x - 1).toNat:Nat):Int)=y; lia)
theorem nd_flat {α β:Type} {f:α→List β} {l:List α} (h1:∀ a∈l,(f a).Nodup) (h2:l.Pairwise fun a b=>∀ x∈f a,∀ y∈f b,x≠y):(l.flatMap f).Nodup:=by
 induction l with
 | nil=>exact List.nodup_nil
 | cons a l ih =>
  rw [List.flatMap_cons,List.nodup_append]
  have h2:=List.pairwise_cons.mp h2
  refine ⟨h1 a (by simp),ih (fun b hb=>h1 b (List.mem_cons_of_mem _ hb)) h2.2,fun x hx y hy=>?_⟩
  obtain ⟨b,hb,hy⟩:=List.mem_flatMap.mp hy
  exact h2.1 b hb x hx y hy
theorem runs_nd (n:Nat):(runsL n).Nodup:=by
 unfold runsL
 refine nd_flat (fun b _=>nd_map (fun x y e=>?_) List.nodup_range) ?_
 ·have:(b:Int)+1+(x:Int)=(b:Int)+1+(y:Int):=(Prod.mk.inj e).2
  lia
 ·refine List.Pairwise.imp (R:=fun a b:Nat=>a≠b) (fun {a b} ne x hx y hy e=>?_) List.nodup_range
  obtain ⟨_,_,rfl⟩:=List.mem_map.mp hx
  obtain ⟨_,_,rfl⟩:=List.mem_map.mp hy
  have:(a:Int)=(b:Int):=(Prod.mk.inj e).1
  lia
def rectsL (W T:Nat):List Rc:=(runsL T).flatMap fun v=>(runsL W).map fun h=>(v.1,h.1,v.2,h.2)
theorem mem_rects {W T:Nat} {p:Rc}:p∈rectsL W T↔InS W T p:=by
 unfold rectsL
 rw [List.mem_flatMap]
 constructor
 ·rintro ⟨v,hv,hp⟩
  obtain ⟨h,hh,rfl⟩:=List.mem_map.mp hp
  obtain ⟨a1,a2,a3⟩:=mem_runs.mp hv
  obtain ⟨b1,b2,b3⟩:=mem_runs.mp hh
  exact ⟨a1,a2,a3,b1,b2,b3⟩
 ·rintro ⟨a1,a2,a3,b1,b2,b3⟩
  exact ⟨(p.1,p.2.2.1),mem_runs.mpr ⟨a1,a2,a3⟩,List.mem_map.mpr ⟨(p.2.1,p.2.2.2),mem_runs.mpr ⟨b1,b2,b3⟩,rfl⟩⟩
theorem rects_nd (W T:Nat):(rectsL W T).Nodup:=by
 unfold rectsL
 refine nd_flat (fun v _=>nd_map (fun x y e=>?_) (runs_nd W)) ?_
 ·have e1:=(Prod.mk.inj (Prod.mk.inj e).2)
  exact Prod.ext e1.1 (Prod.mk.inj e1.2).2
 ·refine List.Pairwise.imp (R:=fun a b:Int × Int=>a≠b) (fun {a b} ne x hx y hy e=>?_) (runs_nd T)
  obtain ⟨_,_,rfl⟩:=List.mem_map.mp hx
  obtain ⟨_,_,rfl⟩:=List.mem_map.mp hy
  have e1:=Prod.mk.inj e
  exact ne (Prod.ext e1.1 (Prod.mk.inj (Prod.mk.inj e1.2).2).1)
theorem runs_len {n:Nat} (h:n≤7):(runsL n).length≤28:=by
 have:∀ n:Fin 8,(runsL n.1).length≤28:=by decide +kernel
 exact this ⟨n,by lia⟩
theorem Ziy {W T:Nat} (h1:W≤7) (h2:T≤7):(rectsL W T).length≤784:=by
 have:∀ W:Fin 8,∀ T:Fin 8,(rectsL W.1 T.1).length≤784:=by decide +kernel
 exact this ⟨W,by lia⟩ ⟨T,by lia⟩
def PcsAt (H:Hp) (a:Addr) (ps:List Rc):Prop:=∃ ts:List (Addr × Rc),H a=some (.lst (refs ts))∧(∀ t∈ts,Pc H t.1 t.2.1 t.2.2.1 t.2.2.2.1 t.2.2.2.2)∧ts.map (·.2)=ps
def Zke:Sp:=fun vs H Q _=>∃ (a:Addr) (p:Rc),vs=[.ref a]∧Pc H a p.1 p.2.1 p.2.2.1 p.2.2.2∧0≤hR p∧hR p≤100∧0≤wR p∧wR p≤100∧Q (.int (hR p * wR p)) H
def Zfk:Sp:=fun vs H Q _=>∃ w h:Int,vs=[.int w,.int h]∧1≤w∧w≤7∧1≤h∧h≤7∧∀ H',Same H H'→Q .non H'
def sp_sq:Sp:=fun vs H Q _=>∃ (a:Addr) (s:Int × Int) (w h:Int),vs=[.ref a,.int w,.int h]∧H a=some (.tup [.int s.1,.int s.2])∧0≤s.1∧s.1 < h∧0≤s.2∧s.2 < w∧Q (.bl true) H
def FlOk (W T:Int) (fl:List (Int × Int)):Prop:=fl.length≤49∧∀ s∈fl,0≤s.1∧s.1 < T∧0≤s.2∧s.2 < W
def sp_cfl:Sp:=fun vs H Q _=>∃ (a:Addr) (fl:List (Int × Int)) (w h:Int),vs=[.ref a,.int w,.int h]∧SizesAt H a fl∧FlOk w h fl∧∀ H',Same H H'→Q .non H'
def Zdn:Sp:=fun vs H Q _=>∃ v:V,vs=[v]∧Q v H
def Zj7:Sp:=fun vs H Q _=>∃ n:Int,vs=[.int n]∧0≤n∧n≤7∧∀ c H',Same H H'→H c=none→SizesAt H' c (runsL n.toNat)→Q (.ref c) H'
def sp_pcs:Sp:=fun vs H Q _=>∃ W T:Int,vs=[.int W,.int T]∧0≤W∧W≤7∧0≤T∧T≤7∧∀ c H',Same H H'→PcsAt H' c (rectsL W.toNat T.toNat)→Q (.ref c) H'
def Zj9:Sp:=fun vs H Q _=>∃ (a b:Addr) (s:Int × Int) (p:Rc),vs=[.ref a,.ref b]∧H a=some (.tup [.int s.1,.int s.2])∧Pc H b p.1 p.2.1 p.2.2.1 p.2.2.2∧Q (.bl (hitB s p)) H
def Zfj:Sp:=fun vs H Q _=>∃ (a b d:Addr) (p:Rc) (ks:List Kind) (fl:List (Int × Int)),vs=[.ref a,.ref b,.ref d]∧Pc H a p.1 p.2.1 p.2.2.1 p.2.2.2∧KindsAt H b ks∧ks.length≤8∧SizesAt H d fl∧fl.length≤49∧∀ c H',Same H H'→Cho H' c (uncutF ks fl p) (UE (ksF ks fl p) (wR p) (hR p) (uncutF ks fl p))→Q (.ref c) H'
def Zho (mg:Str→Option Value):Sp:=fun vs H Q _=>∃ (ks:List Kind) (fl:List (Int × Int)) (a u d fk:Addr) (p:Rc) (m:Int) (L:List Rc) (ad:Rc→Addr) (f:Rc→Int),vs=[.ref a,.ref u,.ref d,.ref fk]∧mg "itself"=some (.ref fk)∧Pc H a p.1 p.2.1 p.2.2.1 p.2.2.2∧Cho H u m (UE (ksF ks fl p) (wR p) (hR p) m)∧TabQ ks fl H d L ad f∧InS 12 12 p ∧
 (∀ c∈cutsL (wR p) (hR p),pA p c∈L∧pB p c∈L)∧∀ c H',Same H H'→Cho H' c (bestR f p m) (GR ks fl f p (bestR f p m))→Q (.ref c) H'
def sp_inR:Sp:=fun vs H Q _=>∃ (ks:List Kind) (fl:List (Int × Int)) (d:Addr) (L:List Rc) (ad:Rc→Addr) (f:Rc→Int),vs=[.ref d]∧TabQ ks fl H d L ad f∧L.Nodup∧L.length≤784∧∀ c H',SameX d H H'→H c=none→H' c=some (.dT (tabR L fun p=>.int (f p)))→Q (.ref c) H'
def sp_chR:Sp:=fun vs H Q _=>∃ (w h:Int) (b e:Addr) (ks:List Kind) (fl:List (Int × Int)),vs=[.int w,.int h,.ref b,.ref e]∧1≤w∧w≤7∧1≤h∧h≤7∧KindsAt H b ks∧ks.length≤8∧(∀ k∈ks,KOk k)∧SizesAt H e fl∧FlOk w h fl ∧
 ∀ d L ad f H',Same H H'→H d=none→TabQ ks fl H' d L ad f→L.Nodup→L.length≤784→(∀ p,p∈L↔InS w h p)→(∀ p,InS w h p→GOk ks fl f p)→Q (.ref d) H'
def sp_fw:Sp:=fun vs H Q _=>∃ (w h:Int) (b e:Addr) (ks:List Kind) (fl:List (Int × Int)),vs=[.int w,.int h,.ref b,.ref e]∧1≤w∧w≤7∧1≤h∧h≤7∧KindsAt H b ks∧ks.length≤8∧(∀ k∈ks,KOk k)∧SizesAt H e fl∧FlOk w h fl ∧
 ∀ c L f H',Same H H'→H c=none→H' c=some (.dT (tabR L fun p=>.int (f p)))→L.Nodup→L.length≤784→(∀ p,p∈L↔InS w h p)→(∀ p,InS w h p→GOk ks fl f p)→Q (.ref c) H'
def Zfa:Sp:=fun vs H Q _=>∃ (a b:Addr) (p:Rc) (fl:List (Int × Int)),vs=[.ref a,.ref b]∧Pc H a p.1 p.2.1 p.2.2.1 p.2.2.2∧SizesAt H b fl∧fl.length≤49∧Q (.bl (!foul fl p)) H
theorem Zch {H:Hp} {x acc:Addr} {xs ys zs:List V} (e:H x=some (.tup xs)) (ha:H acc=some (.lst ys)):(upd H acc (.lst zs)) x=some (.tup xs):=by
 rw [Zaj (fun z=>by rw [z,ha] at e; cases e)]; exact e
structure Txt (mg:Str→Option Value) (tk:Tok × Tok × Tok × Tok × Tok × Tok × Tok × Tok × Addr):Prop where
 z_isinstance:mg "isinstance"=none
 z_int:mg "int"=none
 z_bool:mg "bool"=none
 z_tuple:mg "tuple"=none
 z_list:mg "list"=none
 z_dict:mg "dict"=none
 z_len:mg "len"=none
 z_enumerate:mg "enumerate"=none
 z_range:mg "range"=none
 z_any:mg "any"=none
 z_max:mg "max"=none
 z_sorted:mg "sorted"=none
 z_sum:mg "sum"=none
 z_reversed:mg "reversed"=none
 g_LONGEST_SIDE:mg "LONGEST_SIDE"=some (.int 12 tk.1)
 g_MOST_KINDS:mg "MOST_KINDS"=some (.int 8 tk.2.1)
 g_GREATEST_WORTH:mg "GREATEST_WORTH"=some (.int 1000000000 tk.2.2.1)
 g_WHOLE:mg "WHOLE"=some (.str "whole" tk.2.2.2.1)
 g_UPRIGHT:mg "UPRIGHT"=some (.str "upright" tk.2.2.2.2.1)
 g_LEVEL:mg "LEVEL"=some (.str "level" tk.2.2.2.2.2.1)
 g_LONGEST_FLAWED:mg "LONGEST_FLAWED"=some (.int 7 tk.2.2.2.2.2.2.1)
 g_MOST_FLAWS:mg "MOST_FLAWS"=some (.int 49 tk.2.2.2.2.2.2.2.1)
 g_itself:mg "itself"=some (.ref tk.2.2.2.2.2.2.2.2)
section
variable {P:Program} {w:World} {K:PySem.W.Frag} {mg:Str→Option Value} {base:Heap} {tk:Tok × Tok × Tok × Tok × Tok × Tok × Tok × Tok × Addr} {cT cW cU cL:Addr}
theorem S_is_whole:Zap ["thing"] ["thing"] (Zac Zcz):=⟨rfl,rfl,rfl,by decide +kernel,rfl,by decide +kernel,by decide +kernel⟩
theorem Zkn {f:Addr} {fd:FuncData} (F:Fun K "is_whole" "is_whole" Zcz f fd) (T:Txt mg tk):FnOk P w K mg base CX0 1 f fd ["thing"] Zd8:=by
 have S:=S_is_whole
 refine F.ok S (fun vs H Q E h=>?_) (fun cdv A outer s H vs Q E hr h=>?_)
 ·obtain ⟨i,rfl,_⟩:=h; rfl
 ·obtain ⟨i,rfl,q⟩:=h
  refine ⟨_,(Zag (Zaq (Zef (Za2 Zc5 rfl T.z_isinstance rfl (Zaa (pv 0) (Zaa (Zdp (v:=.ty "int") rfl T.z_int rfl rfl) Zad))) (Zed (pe_not (Za2 Zc5 rfl T.z_isinstance rfl (Zaa (pv 0) (Zaa (Zdp (v:=.ty "bool") rfl T.z_bool rfl rfl) Zad)))))))),?_⟩
  refine ⟨_,rfl,.int i,"int","int",rfl,rfl,.inl rfl,_,rfl,ite3 (fun h=>?_) (fun h=>absurd h (by decide))⟩
  refine ⟨_,rfl,.int i,"int","bool",rfl,rfl,.inr (.inl rfl),_,rfl,?_⟩
  have e:(!isB "int" "bool")=true:=by decide
  rw [e]
  exact q
theorem S_is_side:Zap ["thing"] ["thing"] (Zac Zdb):=⟨rfl,rfl,rfl,by decide +kernel,rfl,by decide +kernel,by decide +kernel⟩
theorem ok_is_side {f:Addr} {fd:FuncData} (F:Fun K "is_side" "is_side" Zdb f fd) (T:Txt mg tk) (D_is_whole:DefOk P w K mg base 1 "is_whole" ["thing"] Zd8):FnOk P w K mg base CX0 2 f fd ["thing"] Zhi:=by
 have S:=S_is_side
 refine F.ok S (fun vs H Q E h=>?_) (fun cdv A outer s H vs Q E hr h=>?_)
 ·obtain ⟨i,rfl,_⟩:=h; rfl
 ·obtain ⟨i,rfl,i1,i2,q⟩:=h
  refine ⟨_,(Zag (Zaq (Zef (Zax D_is_whole hr (Zaa (pv 0) Zad)) (Zed (Zdv Zfr Zfr Zae (pv 0) (Zbf (v:=.int 12) rfl T.g_LONGEST_SIDE ⟨_,rfl⟩)))))),?_⟩
  refine ⟨_,rfl,i,rfl,_,rfl,iteT ⟨_,rfl,_,_,rfl,rfl,_,rfl,ite3 (fun h=>?_) (fun h=>absurd i1 (of_decide_eq_false h))⟩⟩
  refine ⟨_,_,rfl,rfl,?_⟩
  show Q (.bl (decide (i≤12))) H
  rw [decide_eq_true i2]
  exact q
theorem S_is_kind:Zap ["thing"] ["thing"] (Zac Zdc):=⟨rfl,rfl,rfl,by decide +kernel,rfl,by decide +kernel,by decide +kernel⟩
theorem ok_is_kind {f:Addr} {fd:FuncData} (F:Fun K "is_kind" "is_kind" Zdc f fd) (T:Txt mg tk) (D_is_whole:DefOk P w K mg base 1 "is_whole" ["thing"] Zd8) (D_is_side:DefOk P w K mg base 2 "is_side" ["thing"] Zhi):FnOk P w K mg base CX0 3 f fd ["thing"] Zka:=by
 have S:=S_is_kind
 refine F.ok S (fun vs H Q E h=>?_) (fun cdv A outer s H vs Q E hr h=>?_)
 ·obtain ⟨a,k,rfl,_⟩:=h; rfl
 ·obtain ⟨a,k,rfl,ha,⟨w1,w2,h1,h2,o1,o2⟩,q⟩:=h
  refine ⟨_,(Zaf (Zbi (PW.pt (Zfm (Zci (Zbs (Za2 Zc5 rfl T.z_isinstance rfl (Zaa (pv 0) (Zaa (Zdp (v:=.ty "tuple") rfl T.z_tuple rfl rfl) Zad))))) (Zdz (Za0 op_ne (Za2 Zcf rfl T.z_len rfl (Zaa (pv 0) Zad)) Zae (nomark _))))) (Zag (Zaq Zer)) Zas)
   (Zaf (Zbi (PW.pt (Zfm (Zci (Zbs (Zax D_is_side hr (Zaa (Zao Zal (pv 0) Zae (fun _ _=>rfl)) Zad)))) (Zdz (Zci (Zbs (Zax D_is_side hr (Zaa (Zao Zal (pv 0) Zae (fun _ _=>rfl)) Zad))))))) (Zag (Zaq Zer)) Zas)
   (Zag (Zaq (Zef (Zax D_is_whole hr (Zaa (Zao Zal (pv 0) Zae (fun _ _=>rfl)) Zad)) (Zef (Zdv Zfr Zfr Zae (Zao Zal (pv 0) Zae (fun _ _=>rfl)) (Zbf (v:=.int 1000000000) rfl T.g_GREATEST_WORTH ⟨_,rfl⟩)) (Zed (Za2 Zc5 rfl T.z_isinstance rfl (Zaa (Zao Zal (pv 0) Zae (fun _ _=>rfl)) (Zaa (Zdp (v:=.ty "bool") rfl T.z_bool rfl rfl) Zad)))))))))),?_⟩
  refine ⟨_,rfl,.ref a,"tuple","tuple",rfl,ty_tup ha,.inr (.inr (.inl rfl)),_,rfl,ite3 (fun z=>absurd z (by decide)) (fun _=>?_)⟩
  refine ⟨_,rfl,a,_,rfl,.inr (SqT.of ha),rfl,_,rfl,iteN (show (!decide (V.int ((4:Nat):Int)=V.int 4))=false from by decide) ?_⟩
  refine ⟨_,rfl,a,_,_,_,rfl,rfl,SqT.of ha,Zig,k.1,rfl,w1,w2,_,rfl,iteF ⟨_,rfl,a,_,_,_,rfl,rfl,SqT.of ha,Zif,k.2.1,rfl,h1,h2,_,rfl,iteF ?_⟩⟩
  refine ⟨_,rfl,a,_,_,_,rfl,rfl,SqT.of ha,Zie,k.2.2.1,rfl,_,rfl,iteT ⟨_,rfl,a,_,_,_,rfl,rfl,SqT.of ha,Zie,_,_,rfl,rfl,_,rfl,ite3 (fun _=>?_) (fun z=>absurd o1 (of_decide_eq_false z))⟩⟩
  refine ⟨_,_,rfl,rfl,_,rfl,ite3 (fun _=>?_) (fun z=>absurd o2 (of_decide_eq_false z))⟩
  refine ⟨_,rfl,a,_,_,_,rfl,rfl,SqT.of ha,at4_3,.bl k.2.2.2,"bool","bool",rfl,rfl,.inr (.inl rfl),?_⟩
  have e1:isB "bool" "bool"=true:=by decide
  rw [e1]
  exact q
theorem Zin:Zap ["kinds","place","kind"] ["kinds"] (Zac Zbz):=⟨rfl,rfl,rfl,by decide +kernel,rfl,by decide +kernel,by decide +kernel⟩
theorem Zgp {f:Addr} {fd:FuncData} (F:Fun K "check_kinds" "check_kinds" Zbz f fd) (T:Txt mg tk) (D_is_kind:DefOk P w K mg base 3 "is_kind" ["thing"] Zka):FnOk P w K mg base CX0 4 f fd ["kinds"] Zhn:=by
 have S:=Zin
 refine F.ok S (fun vs H Q E h=>?_) (fun cdv A outer s H vs Q E hr h=>?_)
 ·obtain ⟨a,ks,rfl,_⟩:=h; rfl
 ·obtain ⟨a,ks,rfl,⟨ts,ha,ht,rfl⟩,few,ok,q⟩:=h
  rw [List.length_map] at few
  refine ⟨_,(Zaf (Zbi (Za0 op_gt (Za2 Zcf rfl T.z_len rfl (Zaa (pv 0) Zad)) (Zbf (v:=.int 8) rfl T.g_MOST_KINDS ⟨_,rfl⟩) (nomark _)) (Zag Zeb) Zas)
   (Zag (Zcj PassesOwn.never rfl (Zki rfl T.z_enumerate (Zaa (pv 0) Zad)) (Zdl rfl (Zat (Zan (i:=1) S.nd rfl (Or.inl rfl)) (Zat (Zan (i:=2) S.nd rfl (Or.inl rfl)) Zcv))) (Zag (Zbi (Zci (Zbs (Zax D_is_kind hr (Zaa (pv 2) Zad)))) (Zag Zeb) Zas))))),?_⟩
  refine ⟨_,rfl,a,_,rfl,.inl (SqL.of ha),_,_,rfl,rfl,_,rfl,iteN (decide_eq_false (by rw [Zav]; lia)) ?_⟩
  refine ⟨_,rfl,a,rfl,⟨_,SqL.of ha⟩,Zh3 (K:=K) (a:=a) (xs:=refs ts) (fun i σ H'=>(∃ x y,σ=[some (.ref a),x,y])∧Same H H') ⟨⟨none,none,rfl⟩,Same.refl H⟩ (fun i σ H' _ hp=>SqL.of (hp.2 _ _ ha)) ?_ ?_⟩
  ·rintro i x σ H1 t hx ⟨⟨x0,y0,rfl⟩,s1⟩ nt
   obtain ⟨u,hu,rfl⟩:=Zct hx
   have hm:=List.mem_of_getElem? hu
   have s2:Same H1 (upd H1 t (.tup [.int i,.ref u.1])):=Same.new nt
   refine ⟨t,_,rfl,SqT.of Zab,rfl,_,_,rfl,_,_,rfl,rfl,_,rfl,u.1,u.2,rfl,s2 _ _ (s1 _ _ (ht u hm)),ok _ (List.mem_map.mpr ⟨u,hm,rfl⟩),_,rfl,iteF ⟨⟨_,_,rfl⟩,s1.trans s2⟩⟩
  ·rintro σ H1 ⟨_,s1⟩
   exact q H1 s1
theorem S_size_of:Zap ["rectangle"] ["rectangle"] (Zac Zc9):=⟨rfl,rfl,rfl,by decide +kernel,rfl,by decide +kernel,by decide +kernel⟩
theorem ok_size_of {f:Addr} {fd:FuncData} (F:Fun K "size_of" "size_of" Zc9 f fd):FnOk P w K mg base CX0 1 f fd ["rectangle"] Zhh:=by
 have S:=S_size_of
 refine F.ok S (fun vs H Q E h=>?_) (fun cdv A outer s H vs Q E hr h=>?_)
 ·obtain ⟨a,t,l,b,r,rfl,_⟩:=h; rfl
 ·obtain ⟨a,t,l,b,r,rfl,ha,q⟩:=h
  refine ⟨_,(Zag (Zaq (Za3 (Zaa (Zaw Zdm (Zao Zal (pv 0) Zae (fun _ _=>rfl)) (Zao Zal (pv 0) Zae (fun _ _=>rfl))) (Zaa (Zaw Zdm (Zao Zal (pv 0) Zae (fun _ _=>rfl)) (Zao Zal (pv 0) Zae (fun _ _=>rfl))) Zad))))),?_⟩
  exact ⟨_,rfl,a,_,_,_,rfl,rfl,SqT.of ha,at4_3,_,rfl,a,_,_,_,rfl,rfl,SqT.of ha,Zif,_,_,rfl,rfl,_,rfl,a,_,_,_,rfl,rfl,SqT.of ha,Zie,_,rfl,a,_,_,_,rfl,rfl,SqT.of ha,Zig,_,_,rfl,rfl,lenOk 2,fun p np=>q p _ (Same.new np) Zab⟩
theorem S_has_size:Zap ["size","width","height","turns"] ["size","width","height","turns"] (Zac Zc0):=⟨rfl,rfl,rfl,by decide +kernel,rfl,by decide +kernel,by decide +kernel⟩
theorem Zko {f:Addr} {fd:FuncData} (F:Fun K "has_size" "has_size" Zc0 f fd):FnOk P w K mg base CX0 1 f fd ["size","width","height","turns"] sp_has:=by
 have S:=S_has_size
 refine F.ok S (fun vs H Q E h=>?_) (fun cdv A outer s H vs Q E hr h=>?_)
 ·obtain ⟨a,w,h,W,T',u,rfl,_⟩:=h; rfl
 ·obtain ⟨a,w,h,W,T',u,rfl,ha,q⟩:=h
  refine ⟨_,(Zag (Zaq (pe_or (Zd3 (op_eqD hr) (pv 0) (Za3 (Zaa (pv 1) (Zaa (pv 2) Zad))) (nomark _)) (Zed (Zef (pv 3) (Zed (Zd3 (op_eqD hr) (pv 0) (Za3 (Zaa (pv 2) (Zaa (pv 1) Zad))) (nomark _)))))))),?_⟩
  refine ⟨_,rfl,_,rfl,_,rfl,lenOk 2,fun p np=>?_⟩
  have s1:Same H (upd H p (.tup [.int W,.int T'])):=Same.new np
  refine ⟨_,_,Zcw (SqT.of (s1 _ _ ha)),Zcw (SqT.of Zab),⟨_,rfl⟩,⟨_,rfl⟩,Zeg _ _,_,rfl,ite3 (fun c=>?_) (fun c=>?_)⟩
  ·rw [if_neg Bool.false_ne_true,Zdw] at c
   have e:hasB w h W T' u=true:=by unfold hasB; rw [c]; rfl
   have:=q _ s1
   rw [e] at this
   exact this
  ·rw [if_neg Bool.false_ne_true,Zdw] at c
   have e:hasB w h W T' u=(u && (decide (w=T') && decide (h=W))):=by unfold hasB; rw [c]; rfl
   refine ⟨_,rfl,_,rfl,ite3 (fun c1=>?_) (fun c1=>?_)⟩
   ·refine ⟨_,rfl,_,rfl,_,rfl,lenOk 2,fun p2 np2=>?_⟩
    have s2:Same (upd H p (.tup [.int W,.int T'])) (upd (upd H p (.tup [.int W,.int T'])) p2 (.tup [.int T',.int W])):=Same.new np2
    refine ⟨_,_,Zcw (SqT.of (s2 _ _ (s1 _ _ ha))),Zcw (SqT.of Zab),⟨_,rfl⟩,⟨_,rfl⟩,Zeg _ _,?_⟩
    rw [if_neg Bool.false_ne_true,Zdw]
    have:=q _ (s1.trans s2)
    rw [e,c1] at this
    exact this
   ·have:=q _ s1
    rw [e,c1] at this
    exact this
theorem Zjv:Zap ["piece","kind"] ["piece","kind"] (Zac Zb6):=⟨rfl,rfl,rfl,by decide +kernel,rfl,by decide +kernel,by decide +kernel⟩
theorem Zhu {f:Addr} {fd:FuncData} (F:Fun K "is_of_kind" "is_of_kind" Zb6 f fd) (D_size_of:DefOk P w K mg base 1 "size_of" ["rectangle"] Zhh) (D_has_size:DefOk P w K mg base 1 "has_size" ["size","width","height","turns"] sp_has):FnOk P w K mg base CX0 2 f fd ["piece","kind"] sp_of:=by
 have S:=Zjv
 refine F.ok S (fun vs H Q E h=>?_) (fun cdv A outer s H vs Q E hr h=>?_)
 ·obtain ⟨a,b,t,l,o,r,k,rfl,_⟩:=h; rfl
 ·obtain ⟨a,b,t,l,o,r,k,rfl,ha,hb,q⟩:=h
  refine ⟨_,(Zag (Zaq (Zax D_has_size hr (Zaa (Zax D_size_of hr (Zaa (pv 0) Zad)) (Zaa (Zao Zal (pv 1) Zae (fun _ _=>rfl)) (Zaa (Zao Zal (pv 1) Zae (fun _ _=>rfl)) (Zaa (Zao Zal (pv 1) Zae (fun _ _=>rfl)) Zad))))))),?_⟩
  refine ⟨_,rfl,a,t,l,o,r,rfl,ha,fun c H1 s1 hc=>?_⟩
  exact ⟨_,rfl,b,_,_,_,rfl,rfl,SqT.of (s1 _ _ hb),Zig,_,rfl,b,_,_,_,rfl,rfl,SqT.of (s1 _ _ hb),Zif,_,rfl,b,_,_,_,rfl,rfl,SqT.of (s1 _ _ hb),at4_3,c,_,_,_,_,_,rfl,hc,fun H2 s2=>q H2 (s1.trans s2)⟩
theorem Zgu:Zap ["piece","kinds","choice","mark","kind"] ["piece","kinds"] (Zac Zbq):=⟨rfl,rfl,rfl,by decide +kernel,rfl,by decide +kernel,by decide +kernel⟩
theorem Zfu {f:Addr} {fd:FuncData} (F:Fun K "choice_uncut" "choice_uncut" Zbq f fd) (T:Txt mg tk) (D_is_of_kind:DefOk P w K mg base 2 "is_of_kind" ["piece","kind"] sp_of):FnOk P w K mg base CX0 3 f fd ["piece","kinds"] Zhg:=by
 have S:=Zgu
 refine F.ok S (fun vs H Q E h=>?_) (fun cdv A outer s H vs Q E hr h=>?_)
 ·obtain ⟨a,b,t,l,o,r,ks,rfl,_⟩:=h; rfl
 ·obtain ⟨a,b,t,l,o,r,ks,rfl,ha,⟨ts,hb,ht,rfl⟩,few,q⟩:=h
  refine ⟨_,(Zaf (Zay (i:=2) S.nd rfl (Or.inl rfl) (Za3 (Zaa Zae (Zaa (Za3 (Zaa (Zbf (v:=.str "whole") rfl T.g_WHOLE ⟨_,rfl⟩) (Zaa Zc7 Zad))) Zad))))
   (Zaf (Zcj PassesOwn.never rfl (Zki rfl T.z_enumerate (Zaa (pv 1) Zad)) (Zdl rfl (Zat (Zan (i:=3) S.nd rfl (Or.inl rfl)) (Zat (Zan (i:=4) S.nd rfl (Or.inl rfl)) Zcv))) (Zag (Zbi (PW.pt (Ziz (Zbs (Zax D_is_of_kind hr (Zaa (pv 0) (Zaa (pv 4) Zad)))) (Zfn (Za0 op_gt (Zao Zal (pv 4) Zae (fun _ _=>rfl)) (Zao Zal (pv 2) Zae (fun _ _=>rfl)) (nomark _))))) (Zag (Zay (i:=2) S.nd rfl (Or.inl rfl) (Za3 (Zaa (Zao Zal (pv 4) Zae (fun _ _=>rfl)) (Zaa (Za3 (Zaa (Zbf (v:=.str "whole") rfl T.g_WHOLE ⟨_,rfl⟩) (Zaa (pv 3) Zad))) Zad))))) Zas)))
   (Zag (Zaq (pv 2))))),?_⟩
  refine ⟨lenOk 2,fun p1 n1=>⟨lenOk 2,fun p2 n2=>?_⟩⟩
  have z1:Same H (upd H p1 (.tup [.str "whole",.non])):=Same.new n1
  have z2:Same (upd H p1 (.tup [.str "whole",.non])) (upd (upd H p1 (.tup [.str "whole",.non])) p2 (.tup [.int 0,.ref p1])):=Same.new n2
  have e2:ChU (upd (upd H p1 (.tup [.str "whole",.non])) p2 (.tup [.int 0,.ref p1])) p2 (ts.map (·.2)) (r - l) (o - t) 0:=⟨p1,.w none,Zab,z2 _ _ Zab,rfl⟩
  have s2:=z1.trans z2
  generalize upd (upd H p1 (.tup [.str "whole",.non])) p2 (.tup [.int 0,.ref p1])=H2 at e2 s2 ⊢
  clear z1 z2
  refine ⟨_,rfl,b,rfl,⟨_,SqL.of (s2 _ _ hb)⟩,Zh3 (K:=K) (a:=b) (xs:=refs ts) (fun i σ H'=>Same H H'∧∃ c,(∃ x y,σ=[some (.ref a),some (.ref b),some (.ref c),x,y])∧ChU H' c (ts.map (·.2)) (r - l) (o - t) (((ts.map (·.2)).take i).foldl (pick (r - l) (o - t)) 0)) ⟨s2,p2,⟨none,none,rfl⟩,e2⟩ (fun i σ H' _ hp=>SqL.of (hp.1 _ _ hb)) ?_ ?_⟩
  ·rintro i x σ H3 tt hx ⟨s3,c,⟨x0,y0,rfl⟩,hc⟩ nt
   obtain ⟨u,hu,rfl⟩:=Zct hx
   have um:=List.mem_of_getElem? hu
   have tk1:(ts.map (·.2)).take (i+1)=(ts.map (·.2)).take i++[u.2]:=by rw [List.take_succ,List.getElem?_map,hu]; rfl
   have s4:Same H3 (upd H3 tt (.tup [.int i,.ref u.1])):=Same.new nt
   have hu4:=s4 _ _ (s3 _ _ (ht u um))
   have ha4:=s4 _ _ (s3 _ _ ha)
   have hc4:=hc.same s4
   refine ⟨tt,_,rfl,SqT.of Zab,rfl,_,_,rfl,_,_,rfl,rfl,?_⟩
   generalize upd H3 tt (.tup [.int i,.ref u.1])=H4 at s4 hu4 ha4 hc4 ⊢
   refine ⟨_,rfl,_,rfl,a,u.1,t,l,o,r,u.2,rfl,ha4,hu4,fun H5 s5=>⟨_,rfl,ite3 (fun c1=>?_) (fun c1=>?_)⟩⟩
   ·obtain ⟨ea,en,he,he2,ge⟩:=hc4.same s5
    have hu5:=s5 _ _ hu4
    refine ⟨_,rfl,u.1,_,_,_,rfl,rfl,SqT.of hu5,Zie,_,rfl,c,_,_,_,rfl,rfl,SqT.of he,Zcy,_,_,rfl,rfl,_,rfl,ite3 (fun c2=>?_) (fun c2=>?_)⟩
    ·refine ⟨_,rfl,u.1,_,_,_,rfl,rfl,SqT.of hu5,Zie,_,rfl,lenOk 2,fun q1 m1=>⟨lenOk 2,fun q2 m2=>?_⟩⟩
     have y1:Same H5 (upd H5 q1 (.tup [.str "whole",.int i])):=Same.new m1
     have y2:Same (upd H5 q1 (.tup [.str "whole",.int i])) (upd (upd H5 q1 (.tup [.str "whole",.int i])) q2 (.tup [.int u.2.2.2.1,.ref q1])):=Same.new m2
     refine ⟨s3.trans (s4.trans (s5.trans (y1.trans y2))),q2,⟨_,_,rfl⟩,?_⟩
     rw [tk1,List.foldl_append]
     show ChU _ q2 (ts.map (·.2)) (r - l) (o - t) (pick (r - l) (o - t) _ u.2)
     unfold pick
     rw [if_pos ⟨c1,of_decide_eq_true c2⟩]
     exact ⟨q1,.w (some (i:Int)),Zab,y2 _ _ Zab,u.2,Int.natCast_nonneg _,by rw [Int.toNat_natCast,List.getElem?_map,hu]; rfl,c1,rfl⟩
    ·refine ⟨s3.trans (s4.trans s5),c,⟨_,_,rfl⟩,?_⟩
     rw [tk1,List.foldl_append]
     show ChU _ c (ts.map (·.2)) (r - l) (o - t) (pick (r - l) (o - t) _ u.2)
     unfold pick
     rw [if_neg (fun z=>of_decide_eq_false c2 z.2)]
     exact ⟨ea,en,he,he2,ge⟩
   ·refine iteF ⟨s3.trans (s4.trans s5),c,⟨_,_,rfl⟩,?_⟩
    rw [tk1,List.foldl_append]
    show ChU _ c (ts.map (·.2)) (r - l) (o - t) (pick (r - l) (o - t) _ u.2)
    unfold pick
    rw [if_neg (fun z=>by rw [c1] at z; cases z.1)]
    exact hc4.same s5
  ·rintro σ H3 ⟨s3,c,⟨x0,y0,rfl⟩,hc⟩
   have e:(ts.map (·.2)).take (refs ts).length=ts.map (·.2):=by rw [Zav,← List.length_map (f:=fun x:Addr × Kind=>x.2) (as:=ts),List.take_length]
   rw [e] at hc
   exact ⟨_,rfl,q c H3 s3 hc⟩
theorem Zim:Zap ["piece","size"] ["piece"] (Zac Zby):=⟨rfl,rfl,rfl,by decide +kernel,rfl,by decide +kernel,by decide +kernel⟩
def cI (H1:Hp) (acc:Addr) (g:Bool) (j:Nat) (zs:List V) (σ:St) (H':Hp):Prop :=
 (∃ y,σ=[y])∧Same H1 H'∧∃ us:List (Addr × Bool × Int),zs=refs us∧(∀ t∈us,H' t.1=some (.tup [.str (wd t.2.1),.int t.2.2])∧t.1≠acc)∧us.map (·.2)=(upto j).map fun a=>(g,a)
theorem cI.next {H1 H2:Hp} {acc t:Addr} {g:Bool} {j n:Nat} {zs:List V} {σ:St} {y:Option V} (c:cI H1 acc g j zs σ H2) (na:H1 acc=none) (ha:H2 acc=some (.lst zs)) (hn:n≤12) (hj:j < n) (hz:zs.length=j) (nt:H2 t=none) :
  cNx acc n (cI H1 acc g) j [y] (.ref t) (upd H2 t (.tup [.str (wd g),.int (1+(j:Int))])):=by
 obtain ⟨_,s1,us,rfl,h1,h2⟩:=c
 have nt':t≠acc:=fun z=>by rw [z,ha] at nt; cases nt
 have s2:Same H2 (upd H2 t (.tup [.str (wd g),.int (1+(j:Int))])):=Same.new nt
 refine cNx.mk (Nat.le_of_lt (Zar (by lia))) hj hz (s2 _ _ ha) ⟨⟨_,rfl⟩,fun b o e=>?_,us++[(t,g,1+(j:Int))],?_,fun u hu=>?_,?_⟩
 ·rw [Zaj (Zah e na)]
  exact s2 _ _ (s1 b o e)
 ·simp [refs]
 ·rcases List.mem_append.mp hu with hu | hu
  ·obtain ⟨e,n⟩:=h1 u hu
   exact ⟨by rw [Zaj n]; exact s2 _ _ e,n⟩
  ·rw [List.mem_singleton.mp hu]
   exact ⟨by rw [Zaj nt']; exact Zab,nt'⟩
 ·rw [List.map_append,h2,upto_succ,List.map_append]; rfl
theorem Zgo {f:Addr} {fd:FuncData} (F:Fun K "cuts_within" "cuts_within" Zby f fd) (T:Txt mg tk) (D_size_of:DefOk P w K mg base 1 "size_of" ["rectangle"] Zhh):FnOk P w K mg base CX0 2 f fd ["piece"] Zkc:=by
 have S:=Zim
 refine F.ok S (fun vs H Q E h=>?_) (fun cdv A outer s H vs Q E hr h=>?_)
 ·obtain ⟨a,t,l,o,r,rfl,_⟩:=h; rfl
 ·obtain ⟨a,t,l,o,r,rfl,ha,w1,w2,h1,h2,q⟩:=h
  refine ⟨_,(Zaf (Zay (i:=1) S.nd rfl (Or.inl rfl) (Zax D_size_of hr (Zaa (pv 0) Zad)))
   (Zag (Zaq (Zaw op_cat (Zeq rfl (Zc2 rfl T.z_range (Zaa Zae (Zaa (Zao Zal (pv 1) Zae (fun _ _=>rfl)) Zad))) (fun _ _ _ _ _=>(Zan (i:=0) (show List.Nodup (["at"]:List Str) from by decide +kernel) rfl (Or.inl rfl))) (fun _ _ _ _ _=>(Za3 (Zaa (Zbf (v:=.str "upright") rfl T.g_UPRIGHT ⟨_,rfl⟩) (Zaa (pv 0) Zad)))) (N:=["at"]) (fr:=[none])) (Zeq rfl (Zc2 rfl T.z_range (Zaa Zae (Zaa (Zao Zal (pv 1) Zae (fun _ _=>rfl)) Zad))) (fun _ _ _ _ _=>(Zan (i:=0) (show List.Nodup (["at"]:List Str) from by decide +kernel) rfl (Or.inl rfl))) (fun _ _ _ _ _=>(Za3 (Zaa (Zbf (v:=.str "level") rfl T.g_LEVEL ⟨_,rfl⟩) (Zaa (pv 0) Zad)))) (N:=["at"]) (fr:=[none])))))),?_⟩
  refine ⟨_,rfl,a,t,l,o,r,rfl,ha,fun z H1 s1 hz=>?_⟩
  refine ⟨_,rfl,z,_,_,_,rfl,rfl,SqT.of hz,Zcy,1,_,rfl,⟨by lia,by lia,by lia,by lia⟩,fun acc na=>Zdg (lo:=1) (n:=(r - l - 1).toNat) (cI H1 acc true) ⟨⟨none,rfl⟩,Same.new na,[],rfl,(fun t ht=>nomatch ht),rfl⟩ ?_ ?_⟩
  ·rintro j zs σ H2 hj hzl ha2 c
   obtain ⟨⟨y,rfl⟩,s2,_⟩:=id c
   exact ⟨_,rfl,lenOk 2,fun p np=>c.next na ha2 (by lia) hj hzl np⟩
  ·rintro zs σ H2 hzl ha2 ⟨_,s2,us,rfl,hus,hm⟩
   refine ⟨_,rfl,z,_,_,_,rfl,rfl,SqT.of (s2 _ _ hz),Zdh,1,_,rfl,⟨by lia,by lia,by lia,by lia⟩,fun acc' na'=>Zdg (lo:=1) (n:=(o - t - 1).toNat) (cI H2 acc' false) ⟨⟨none,rfl⟩,Same.new na',[],rfl,(fun t ht=>nomatch ht),rfl⟩ ?_ ?_⟩
   ·rintro j zs σ H3 hj hzl' ha3 c
    obtain ⟨⟨y,rfl⟩,s3,_⟩:=id c
    exact ⟨_,rfl,lenOk 2,fun p np=>c.next na' ha3 (by lia) hj hzl' np⟩
   ·rintro zs σ H3 hzl' ha3 ⟨_,s3,vs,rfl,hvs,hm'⟩
    rw [Zav] at hzl hzl'
    refine ⟨acc,acc',_,_,rfl,rfl,s3 _ _ ha2,ha3,Nat.le_of_lt (Zar (by rw [Zav,Zav]; lia)),fun p np=>?_⟩
    have s4:Same H3 (upd H3 p (.lst (refs us++refs vs))):=Same.new np
    refine q p _ (s1.trans (s2.trans (s3.trans s4))) ⟨us++vs,by rw [Zab]; simp [refs],fun u hu=>?_,?_⟩
    ·rcases List.mem_append.mp hu with hu | hu
     ·exact s4 _ _ (s3 _ _ (hus u hu).1)
     ·exact s4 _ _ (hvs u hu).1
    ·rw [List.map_append,hm,hm']; rfl
theorem fn_none {f:Addr} {fd:FuncData} {x qual:Str} {st:Stmt} {N ps:List Str} {k:Nat} {sp:Sp} (F:Fun K x qual st f fd) (S:Zap N ps (Zac st)) (h:∀ vs H Q E,¬ sp vs H Q E):FnOk P w K mg base CX0 (k+1) f fd ps sp :=
 F.ok S (fun vs H Q E z=>absurd z (h vs H Q E)) (fun cdv A outer s H vs Q E hr z=>absurd z (h vs H Q E))
theorem Zip:Zap ["piece","uncut","choices","key","choice","word","at","first","other"] ["piece","uncut","choices","key"] (Zac Zb1):=⟨rfl,rfl,rfl,by decide +kernel,rfl,by decide +kernel,by decide +kernel⟩
theorem Zk8:Zap ["choices","found","key","choice"] ["choices"] (Zac Zcm):=⟨rfl,rfl,rfl,by decide +kernel,rfl,by decide +kernel,by decide +kernel⟩
theorem nd_take {α:Type} {L:List α} {i:Nat} {q:α} (n:L.Nodup) (h:L[i]?=some q):q ∉ L.take i:=by
 obtain ⟨hi,e⟩:=List.getElem?_eq_some_iff.mp h
 have d:L.drop i=q :: L.drop (i+1):=by rw [List.drop_eq_getElem_cons hi,e]
 have n':(L.take i++q :: L.drop (i+1)).Nodup:=by rw [← d,List.take_append_drop]; exact n
 intro m
 exact (List.nodup_append.mp n').2.2 q m q (by simp) rfl
theorem S_law_cell:Zap ["_law_script","_law_k"] ["_law_script","_law_k"] (Zac Zcr):=⟨rfl,rfl,rfl,by decide +kernel,rfl,by decide +kernel,by decide +kernel⟩
theorem Zkm {f:Addr} {fd:FuncData} (F:Fun K "_law_cell" "_law_cell" Zcr f fd) (T:Txt mg tk):FnOk P w K mg base CX0 1 f fd ["_law_script","_law_k"] (Zkd K):=by
 have S:=S_law_cell
 refine F.ok S (fun vs H Q E h=>?_) (fun cdv A outer s H vs Q E hr h=>?_)
 ·obtain ⟨a,ns,k,rfl,_⟩:=h; rfl
 ·obtain ⟨a,ns,k,rfl,hS,k0,q⟩:=h
  refine ⟨_,(Zaf (Zbi (Za0 Zht (pv 1) (Za2 Zcf rfl T.z_len rfl (Zaa (pv 0) Zad)) (nomark _)) (Zag (Zaq (Zao Za9 (pv 0) (pv 1) (fun _ _=>rfl)))) Zas)
   (Zag (Zaq Zae))),?_⟩
  refine ⟨_,rfl,_,rfl,a,_,rfl,.inl hS,_,_,rfl,rfl,_,rfl,ite3 (fun c=>?_) (fun c=>q 0)⟩
  have c:=of_decide_eq_true c
  rw [List.length_map] at c
  obtain ⟨z,hz⟩:=at_ints k0 c
  exact ⟨_,rfl,_,rfl,a,_,_,_,rfl,rfl,hS,hz,q _⟩
theorem S_law_draw:Zap ["_law_cell_here","_law_nth","_law_many","_law_number"] ["_law_cell_here","_law_nth","_law_many"] (Zac Zcq):=⟨rfl,rfl,rfl,by decide +kernel,rfl,by decide +kernel,by decide +kernel⟩
theorem Zkl {f:Addr} {fd:FuncData} (F:Fun K "_law_draw" "_law_draw" Zcq f fd):FnOk P w K mg base CX0 1 f fd ["_law_cell_here","_law_nth","_law_many"] Zhm:=by
 have S:=S_law_draw
 refine F.ok S (fun vs H Q E h=>?_) (fun cdv A outer s H vs Q E hr h=>?_)
 ·obtain ⟨c,n,m,rfl,_⟩:=h; rfl
 ·obtain ⟨c,n,m,rfl,n0,n1,m0,q⟩:=h
  refine ⟨_,(Zaf (Zay (i:=3) S.nd rfl (Or.inl rfl) (Zaw Ze2 (Zaw Zd4 (Zaw Zbc (Zaw Zbc (Zaw Ze2 (pv 0) Zae) Zae) (Zaw Zd4 (pv 1) (pv 1))) Zae) Zae))
   (Zag (Zaq (Zaw Ze2 (Zaw Zbc (Zaw Zfb (pv 3) Zae) (Zaw Zd4 (Zaw Ze2 (pv 3) Zae) (pv 1))) (pv 2))))),?_⟩
  have a:=Int.emod_nonneg c (b:=899809363) (by decide)
  have b:=Int.emod_lt_of_pos c (b:=899809363) (by decide)
  have nn:0≤n * n∧n * n≤1000000:=⟨Int.mul_nonneg n0 n0,Int.le_trans (Int.mul_le_mul n1 n1 n0 (by decide)) (by decide)⟩
  refine ⟨_,rfl,_,_,rfl,rfl,(show (0:Int) < 899809363 from by decide),_,_,rfl,rfl,_,rfl,_,rfl,_,_,rfl,rfl,mul64 (by lia) (by lia) (by lia) (by lia),_,_,rfl,rfl,_,_,rfl,rfl,mul64 (by lia) (by lia) (by decide) (by decide),_,_,rfl,rfl,(show (0:Int) < 899809363 from by decide),?_⟩
  have g0:=Int.emod_nonneg ((c % 899809363+3+n * n) * 60919 % 899809363) (b:=1013) (by decide)
  have g1:=Int.emod_lt_of_pos ((c % 899809363+3+n * n) * 60919 % 899809363) (b:=1013) (by decide)
  exact ⟨_,rfl,_,_,rfl,rfl,divL _ (by decide) (by decide),_,rfl,_,_,rfl,rfl,(show (0:Int) < 1013 from by decide),_,rfl,_,_,rfl,rfl,mul64 (by lia) (by lia) (by lia) (by lia),_,_,rfl,rfl,_,rfl,_,_,rfl,rfl,m0,q _ (Int.emod_nonneg _ (by lia)) (Int.emod_lt_of_pos _ m0)⟩
theorem S_law_kind:Zap ["_law_cell_here","_law_worth","_law_most"] ["_law_cell_here"] (Zac Zcp):=⟨rfl,rfl,rfl,by decide +kernel,rfl,by decide +kernel,by decide +kernel⟩
theorem worth_of {v:V} {a b:Int} (a0:0≤a) (a1:a < 9) (b0:0≤b) (b1:b < 1000000001) (h:v∈([.int 0,.int (1+a),.int b,.int (10^(9:Int).toNat)]:List V)):∃ z:Int,v=.int z∧0≤z∧z≤1000000000:=by
 simp only [List.mem_cons,List.not_mem_nil,or_false] at h
 rcases h with rfl | rfl | rfl | rfl
 ·exact ⟨0,rfl,by decide,by decide⟩
 ·exact ⟨1+a,rfl,by lia,by lia⟩
 ·exact ⟨b,rfl,b0,by lia⟩
 ·exact ⟨_,rfl,by decide,by decide⟩
theorem most_of {v:V} (h:v∈([.int 3,.int 5,.int 12]:List V)):∃ z:Int,v=.int z∧1≤z∧z≤12:=by
 simp only [List.mem_cons,List.not_mem_nil,or_false] at h
 rcases h with rfl | rfl | rfl
 ·exact ⟨3,rfl,by decide,by decide⟩
 ·exact ⟨5,rfl,by decide,by decide⟩
 ·exact ⟨12,rfl,by decide,by decide⟩
theorem Zkk {f:Addr} {fd:FuncData} (F:Fun K "_law_kind" "_law_kind" Zcp f fd) (D__law_draw:DefOk P w K mg base 1 "_law_draw" ["_law_cell_here","_law_nth","_law_many"] Zhm):FnOk P w K mg base CX0 2 f fd ["_law_cell_here"] Zhj:=by
 have S:=S_law_kind
 refine F.ok S (fun vs H Q E h=>?_) (fun cdv A outer s H vs Q E hr h=>?_)
 ·obtain ⟨c,rfl,_⟩:=h; rfl
 ·obtain ⟨c,rfl,q⟩:=h
  refine ⟨_,(Zaf (Zay (i:=1) S.nd rfl (Or.inl rfl) (Zao Za9 (Zck (Zaa Zae (Zaa (Zaw Zbc Zae (Zax D__law_draw hr (Zaa (pv 0) (Zaa Zae (Zaa Zae Zad))))) (Zaa (Zax D__law_draw hr (Zaa (pv 0) (Zaa Zae (Zaa (Zaw Zbc (Zaw op_pow Zae Zae) Zae) Zad)))) (Zaa (Zaw op_pow Zae Zae) Zad))))) (Zax D__law_draw hr (Zaa (pv 0) (Zaa Zae (Zaa Zae Zad)))) (fun _ _=>rfl)))
   (Zaf (Zay (i:=2) S.nd rfl (Or.inl rfl) (Zao Za9 (Zck (Zaa Zae (Zaa Zae (Zaa Zae Zad)))) (Zax D__law_draw hr (Zaa (pv 0) (Zaa Zae (Zaa Zae Zad)))) (fun _ _=>rfl)))
   (Zag (Zaq (Za3 (Zaa (Zaw Zbc Zae (Zax D__law_draw hr (Zaa (pv 0) (Zaa Zae (Zaa (pv 2) Zad))))) (Zaa (Zaw Zbc Zae (Zax D__law_draw hr (Zaa (pv 0) (Zaa Zae (Zaa (pv 2) Zad))))) (Zaa (pv 1) (Zaa (Zd3 Zgi (Zax D__law_draw hr (Zaa (pv 0) (Zaa Zae (Zaa Zae Zad)))) Zae (nomark _)) Zad))))))))),?_⟩
  refine ⟨_,rfl,c,3,9,rfl,by decide,by decide,by decide,fun r1 a0 a1=>⟨_,_,rfl,rfl,_,rfl,_,_,rfl,rfl,pow9,_,_,rfl,rfl,c,4,_,rfl,by decide,by decide,(show (0:Int) < 10^(9:Int).toNat+1 from by decide),fun r2 b0 b1=>⟨_,_,rfl,rfl,pow9,lenOk 4,fun L nL=>?_⟩⟩⟩
  have b1:r2 < 1000000001:=b1
  refine ⟨_,rfl,c,5,4,rfl,by decide,by decide,by decide,fun r3 c0 c1=>?_⟩
  obtain ⟨v,hv,hm⟩:=atI_in (L:=[.int 0,.int (1+r1),.int r2,.int (10^(9:Int).toNat)]) (i:=r3) c0 c1
  refine ⟨L,_,_,v,rfl,rfl,SqL.of Zab,hv,?_⟩
  obtain ⟨wo,rfl,w0,w1⟩:=worth_of a0 a1 b0 b1 hm
  have s1:Same H (upd H L (.lst [.int 0,.int (1+r1),.int r2,.int (10^(9:Int).toNat)])):=Same.new nL
  generalize upd H L (.lst [.int 0,.int (1+r1),.int r2,.int (10^(9:Int).toNat)])=H1 at s1 ⊢
  refine ⟨lenOk 3,fun L2 nL2=>⟨_,rfl,c,6,3,rfl,by decide,by decide,by decide,fun r4 d0 d1=>?_⟩⟩
  obtain ⟨v,hv,hm⟩:=atI_in (L:=[.int 3,.int 5,.int 12]) (i:=r4) d0 d1
  refine ⟨L2,_,_,v,rfl,rfl,SqL.of Zab,hv,?_⟩
  obtain ⟨mo,rfl,m0,m1⟩:=most_of hm
  have s2:Same H1 (upd H1 L2 (.lst [.int 3,.int 5,.int 12])):=Same.new nL2
  generalize upd H1 L2 (.lst [.int 3,.int 5,.int 12])=H2 at s2 ⊢
  refine ⟨_,rfl,_,rfl,c,1,mo,rfl,by decide,by decide,by lia,fun r5 e0 e1=>⟨_,_,rfl,rfl,_,rfl,_,rfl,c,2,mo,rfl,by decide,by decide,by lia,fun r6 f0 f1=>⟨_,_,rfl,rfl,_,rfl,_,rfl,c,7,2,rfl,by decide,by decide,by decide,fun r7 _ _=>⟨rfl,lenOk 4,fun t nt=>?_⟩⟩⟩⟩
  refine q (1+r5,1+r6,wo,_) t _ (s1.trans (s2.trans (Same.new nt))) Zab ⟨?_,?_,?_,?_,w0,w1⟩ (Zd0 (s1.trans s2) nt)
  ·show (1:Int)≤1+r5; lia
  ·show 1+r5≤12; lia
  ·show (1:Int)≤1+r6; lia
  ·show 1+r6≤12; lia
theorem Zlc:Zap ["_law_kind_here","_law_width","_law_height"] ["_law_kind_here","_law_width","_law_height"] (Zac Zcb):=⟨rfl,rfl,rfl,by decide +kernel,rfl,by decide +kernel,by decide +kernel⟩
theorem cut2 (x0 x1 x2 x3:V):cutV [x0,x1,x2,x3] none (some 2)=[x0,x1]:=rfl
theorem Zi8 {f:Addr} {fd:FuncData} (F:Fun K "_law_is_of" "_law_is_of" Zcb f fd):FnOk P w K mg base CX0 1 f fd ["_law_kind_here","_law_width","_law_height"] Zhk:=by
 have S:=Zlc
 refine F.ok S (fun vs H Q E h=>?_) (fun cdv A outer s H vs Q E hr h=>?_)
 ·obtain ⟨b,k,w,h,rfl,_⟩:=h; rfl
 ·obtain ⟨b,k,w,h,rfl,hb,q⟩:=h
  rw [← of_same] at q
  refine ⟨_,(Zaf (Zbi (Za0 (op_eqD hr) (Zec sl_tup (pv 0) Zkh (Zd2 Zae)) (Za3 (Zaa (pv 1) (Zaa (pv 2) Zad))) (nomark _)) (Zag (Zaq Zer)) Zas)
   (Zag (Zaq (Zef (Zao Zal (pv 0) Zae (fun _ _=>rfl)) (Zed (Zd3 (op_eqD hr) (Zec sl_tup (pv 0) Zkh (Zd2 Zae)) (Za3 (Zaa (pv 2) (Zaa (pv 1) Zad))) (nomark _))))))),?_⟩
  have nofull:¬ (HT.sIx [V.int k.1,.int k.2.1,.int k.2.2.1,.bl k.2.2.2].length 0 none=0∧HT.sIx [V.int k.1,.int k.2.1,.int k.2.2.1,.bl k.2.2.2].length [V.int k.1,.int k.2.1,.int k.2.2.1,.bl k.2.2.2].length (some 2)=[V.int k.1,.int k.2.1,.int k.2.2.1,.bl k.2.2.2].length):=fun z=>by
   have z2:(2:Nat)=4:=z.2
   cases z2
  refine ⟨_,rfl,_,rfl,b,_,rfl,SqT.of hb,nofull,fun p np=>?_⟩
  rw [cut2]
  have s1:Same H (upd H p (.tup [.int k.1,.int k.2.1])):=Same.new np
  have e1:(upd H p (.tup [.int k.1,.int k.2.1])) p=some (.tup [.int k.1,.int k.2.1]):=Zab
  generalize upd H p (.tup [.int k.1,.int k.2.1])=H1 at s1 e1 ⊢
  refine ⟨_,rfl,_,rfl,lenOk 2,fun p2 np2=>?_⟩
  have s2:Same H1 (upd H1 p2 (.tup [.int w,.int h])):=Same.new np2
  refine ⟨_,_,Zcw (SqT.of (s2 _ _ e1)),Zcw (SqT.of Zab),⟨_,rfl⟩,⟨_,rfl⟩,Zeg _ _,_,rfl,ite3 (fun c=>?_) (fun c=>?_)⟩
  ·rw [if_neg Bool.false_ne_true,Zdw] at c
   have e:ofL k w h=true:=by unfold ofL hasB; rw [c]; rfl
   rw [e] at q
   exact q _ (s1.trans s2)
  ·rw [if_neg Bool.false_ne_true,Zdw] at c
   have e:ofL k w h=(k.2.2.2 && (decide (k.1=h) && decide (k.2.1=w))):=by unfold ofL hasB; rw [c]; rfl
   rw [e] at q
   have hb2:=s2 _ _ (s1 _ _ hb)
   have s12:=s1.trans s2
   generalize upd H1 p2 (.tup [.int w,.int h])=H2 at hb2 s12 ⊢
   refine ⟨_,rfl,b,_,_,_,rfl,rfl,SqT.of hb2,at4_3,_,rfl,ite3 (fun c1=>?_) (fun c1=>?_)⟩
   ·refine ⟨_,rfl,_,rfl,b,_,rfl,SqT.of hb2,nofull,fun p3 np3=>?_⟩
    rw [cut2]
    have s3:Same H2 (upd H2 p3 (.tup [.int k.1,.int k.2.1])):=Same.new np3
    have e3:(upd H2 p3 (.tup [.int k.1,.int k.2.1])) p3=some (.tup [.int k.1,.int k.2.1]):=Zab
    generalize upd H2 p3 (.tup [.int k.1,.int k.2.1])=H3 at s3 e3 ⊢
    refine ⟨_,rfl,_,rfl,lenOk 2,fun p4 np4=>?_⟩
    have s4:Same H3 (upd H3 p4 (.tup [.int h,.int w])):=Same.new np4
    refine ⟨_,_,Zcw (SqT.of (s4 _ _ e3)),Zcw (SqT.of Zab),⟨_,rfl⟩,⟨_,rfl⟩,Zeg _ _,?_⟩
    rw [if_neg Bool.false_ne_true,Zdw]
    rw [c1] at q
    exact q _ (s12.trans (s3.trans s4))
   ·rw [c1] at q
    exact q _ s12
theorem S_area_of:Zap ["rectangle"] ["rectangle"] (Zac Zdd):=⟨rfl,rfl,rfl,by decide +kernel,rfl,by decide +kernel,by decide +kernel⟩
theorem ok_area_of {f:Addr} {fd:FuncData} (F:Fun K "area_of" "area_of" Zdd f fd):FnOk P w K mg base CX0 1 f fd ["rectangle"] Zke:=by
 have S:=S_area_of
 refine F.ok S (fun vs H Q E h=>?_) (fun cdv A outer s H vs Q E hr h=>?_)
 ·obtain ⟨a,p,rfl,_⟩:=h; rfl
 ·obtain ⟨a,p,rfl,ha,h1,h2,h3,h4,q⟩:=h
  replace h1:0≤p.2.2.1 - p.1:=h1
  replace h2:p.2.2.1 - p.1≤100:=h2
  replace h3:0≤p.2.2.2 - p.2.1:=h3
  replace h4:p.2.2.2 - p.2.1≤100:=h4
  refine ⟨_,(Zag (Zaq (Zaw Zd4 (Zaw Zdm (Zao Zal (pv 0) Zae (fun _ _=>rfl)) (Zao Zal (pv 0) Zae (fun _ _=>rfl))) (Zaw Zdm (Zao Zal (pv 0) Zae (fun _ _=>rfl)) (Zao Zal (pv 0) Zae (fun _ _=>rfl)))))),?_⟩
  exact ⟨_,rfl,a,_,_,_,rfl,rfl,SqT.of ha,Zie,_,rfl,a,_,_,_,rfl,rfl,SqT.of ha,Zig,_,_,rfl,rfl,_,rfl,a,_,_,_,rfl,rfl,SqT.of ha,at4_3,_,rfl,a,_,_,_,rfl,rfl,SqT.of ha,Zif,_,_,rfl,rfl,_,_,rfl,rfl,mul64 (by lia) (by lia) (by lia) (by lia),q⟩
theorem Zdy:Zap ["width","height","side"] ["width","height"] (Zac Za1):=⟨rfl,rfl,rfl,by decide +kernel,rfl,by decide +kernel,by decide +kernel⟩
theorem Zdq {f:Addr} {fd:FuncData} (F:Fun K "check_flawed_sides" "check_flawed_sides" Za1 f fd) (T:Txt mg tk) (D_is_side:DefOk P w K mg base 2 "is_side" ["thing"] Zhi):FnOk P w K mg base CX0 3 f fd ["width","height"] Zfk:=by
 have S:=Zdy
 refine F.ok S (fun vs H Q E h=>?_) (fun cdv A outer s H vs Q E hr h=>?_)
 ·obtain ⟨w,h,rfl,_⟩:=h; rfl
 ·obtain ⟨w,h,rfl,w1,w2,h1,h2,q⟩:=h
  refine ⟨_,(Zag (Zcj PassesOwn.never rfl (pi_tup (Za3 (Zaa (pv 0) (Zaa (pv 1) Zad)))) (Zan (i:=2) S.nd rfl (Or.inl rfl)) (Zag (Zbi (PW.pt (Zfm (Zci (Zbs (Zax D_is_side hr (Zaa (pv 2) Zad)))) (Zdz (Za0 op_gt (pv 2) (Zbf (v:=.int 7) rfl T.g_LONGEST_FLAWED ⟨_,rfl⟩) (nomark _))))) (Zag Zeb) Zas)))),?_⟩
  refine ⟨_,rfl,_,rfl,lenOk 2,fun t nt=>⟨t,rfl,⟨_,SqT.of Zab⟩,for_tup (K:=K) (a:=t) (xs:=[.int w,.int h]) (fun i σ H'=>(∃ y,σ=[some (.int w),some (.int h),y])∧H'=upd H t (.tup [.int w,.int h])) ⟨⟨none,rfl⟩,rfl⟩ (fun i σ H' _ hp=>by rw [hp.2]; exact SqT.of Zab) ?_ ?_⟩⟩
  ·rintro i x σ H' hx ⟨⟨y,rfl⟩,rfl⟩
   obtain ⟨z,rfl,z1,z2⟩:∃ z:Int,x=.int z∧1≤z∧z≤7:=by
    match i,hx with
    | 0,hx=>cases hx; exact ⟨_,rfl,w1,w2⟩
    | 1,hx=>cases hx; exact ⟨_,rfl,h1,h2⟩
    | i+2,hx=>cases hx
   exact ⟨_,rfl,z,rfl,z1,by lia,_,rfl,iteF ⟨_,rfl,_,_,rfl,rfl,_,rfl,iteN (decide_eq_false (by lia)) ⟨⟨_,rfl⟩,rfl⟩⟩⟩
  ·rintro σ H' ⟨_,rfl⟩
   exact q _ (Same.new nt)
theorem Zgs:Zap ["thing","width","height"] ["thing","width","height"] (Zac Zbo):=⟨rfl,rfl,rfl,by decide +kernel,rfl,by decide +kernel,by decide +kernel⟩
theorem Zfs {f:Addr} {fd:FuncData} (F:Fun K "is_square_of" "is_square_of" Zbo f fd) (T:Txt mg tk) (D_is_whole:DefOk P w K mg base 1 "is_whole" ["thing"] Zd8):FnOk P w K mg base CX0 2 f fd ["thing","width","height"] sp_sq:=by
 have S:=Zgs
 refine F.ok S (fun vs H Q E h=>?_) (fun cdv A outer s H vs Q E hr h=>?_)
 ·obtain ⟨a,s,w,h,rfl,_⟩:=h; rfl
 ·obtain ⟨a,s,w,h,rfl,ha,a1,a2,b1,b2,q⟩:=h
  refine ⟨_,(Zaf (Zbi (PW.pt (Zfm (Zci (Zbs (Za2 Zc5 rfl T.z_isinstance rfl (Zaa (pv 0) (Zaa (Zdp (v:=.ty "tuple") rfl T.z_tuple rfl rfl) Zad))))) (Zdz (Za0 op_ne (Za2 Zcf rfl T.z_len rfl (Zaa (pv 0) Zad)) Zae (nomark _))))) (Zag (Zaq Zer)) Zas)
   (Zaf (Zbi (PW.pt (Zfm (Zci (Zbs (Zax D_is_whole hr (Zaa (Zao Zal (pv 0) Zae (fun _ _=>rfl)) Zad)))) (Zdz (Zci (Zbs (Zax D_is_whole hr (Zaa (Zao Zal (pv 0) Zae (fun _ _=>rfl)) Zad))))))) (Zag (Zaq Zer)) Zas)
   (Zag (Zaq (Zef (Zdv Zfr Zht Zae (Zao Zal (pv 0) Zae (fun _ _=>rfl)) (pv 2)) (Zed (Zdv Zfr Zht Zae (Zao Zal (pv 0) Zae (fun _ _=>rfl)) (pv 1)))))))),?_⟩
  refine ⟨_,rfl,.ref a,"tuple","tuple",rfl,ty_tup ha,.inr (.inr (.inl rfl)),_,rfl,ite3 (fun z=>absurd z (by decide)) (fun _=>?_)⟩
  refine ⟨_,rfl,a,_,rfl,.inr (SqT.of ha),rfl,_,rfl,iteN (show (!decide (V.int ((2:Nat):Int)=V.int 2))=false from by decide) ?_⟩
  refine ⟨_,rfl,a,_,_,_,rfl,rfl,SqT.of ha,Zcy,s.1,rfl,_,rfl,iteF ⟨_,rfl,a,_,_,_,rfl,rfl,SqT.of ha,Zdh,s.2,rfl,_,rfl,iteF ?_⟩⟩
  refine ⟨_,rfl,a,_,_,_,rfl,rfl,SqT.of ha,Zcy,_,_,rfl,rfl,_,rfl,ite3 (fun _=>?_) (fun z=>absurd a1 (of_decide_eq_false z))⟩
  refine ⟨_,rfl,_,_,rfl,rfl,_,rfl,ite3 (fun _=>?_) (fun z=>absurd a2 (of_decide_eq_false z))⟩
  refine ⟨_,rfl,a,_,_,_,rfl,rfl,SqT.of ha,Zdh,_,_,rfl,rfl,_,rfl,ite3 (fun _=>?_) (fun z=>absurd b1 (of_decide_eq_false z))⟩
  refine ⟨_,rfl,_,_,rfl,rfl,?_⟩
  show Q (.bl (decide (s.2 < w))) H
  rw [decide_eq_true b2]
  exact q
theorem Zio:Zap ["flaws","width","height","place","flaw"] ["flaws","width","height"] (Zac Zb0):=⟨rfl,rfl,rfl,by decide +kernel,rfl,by decide +kernel,by decide +kernel⟩
theorem Zgq {f:Addr} {fd:FuncData} (F:Fun K "check_flaws" "check_flaws" Zb0 f fd) (T:Txt mg tk) (D_is_square_of:DefOk P w K mg base 2 "is_square_of" ["thing","width","height"] sp_sq):FnOk P w K mg base CX0 3 f fd ["flaws","width","height"] sp_cfl:=by
 have S:=Zio
 refine F.ok S (fun vs H Q E h=>?_) (fun cdv A outer s H vs Q E hr h=>?_)
 ·obtain ⟨a,fl,w,h,rfl,_⟩:=h; rfl
 ·obtain ⟨a,fl,ww,hh,rfl,⟨ts,ha,ht,rfl⟩,⟨few,ok⟩,q⟩:=h
  rw [List.length_map] at few
  refine ⟨_,(Zaf (Zbi (Za0 op_gt (Za2 Zcf rfl T.z_len rfl (Zaa (pv 0) Zad)) (Zbf (v:=.int 49) rfl T.g_MOST_FLAWS ⟨_,rfl⟩) (nomark _)) (Zag Zeb) Zas)
   (Zag (Zcj PassesOwn.never rfl (Zki rfl T.z_enumerate (Zaa (pv 0) Zad)) (Zdl rfl (Zat (Zan (i:=3) S.nd rfl (Or.inl rfl)) (Zat (Zan (i:=4) S.nd rfl (Or.inl rfl)) Zcv))) (Zag (Zbi (Zci (Zbs (Zax D_is_square_of hr (Zaa (pv 4) (Zaa (pv 1) (Zaa (pv 2) Zad)))))) (Zag Zeb) Zas))))),?_⟩
  refine ⟨_,rfl,a,_,rfl,.inl (SqL.of ha),_,_,rfl,rfl,_,rfl,iteN (decide_eq_false (by rw [Zav]; lia)) ?_⟩
  refine ⟨_,rfl,a,rfl,⟨_,SqL.of ha⟩,Zh3 (K:=K) (a:=a) (xs:=refs ts) (fun i σ H'=>(∃ x y,σ=[some (.ref a),some (.int ww),some (.int hh),x,y])∧Same H H') ⟨⟨none,none,rfl⟩,Same.refl H⟩ (fun i σ H' _ hp=>SqL.of (hp.2 _ _ ha)) ?_ ?_⟩
  ·rintro i x σ H1 t hx ⟨⟨x0,y0,rfl⟩,s1⟩ nt
   obtain ⟨u,hu,rfl⟩:=Zct hx
   have hm:=List.mem_of_getElem? hu
   have s2:Same H1 (upd H1 t (.tup [.int i,.ref u.1])):=Same.new nt
   obtain ⟨o1,o2,o3,o4⟩:=ok u.2 (List.mem_map.mpr ⟨u,hm,rfl⟩)
   refine ⟨t,_,rfl,SqT.of Zab,rfl,_,_,rfl,_,_,rfl,rfl,_,rfl,_,rfl,_,rfl,u.1,u.2,ww,hh,rfl,s2 _ _ (s1 _ _ (ht u hm)),o1,o2,o3,o4,_,rfl,iteF ⟨⟨_,_,rfl⟩,s1.trans s2⟩⟩
  ·rintro σ H1 ⟨_,s1⟩
   exact q H1 s1
theorem S_itself:Zap ["piece"] ["piece"] (Zac Zdu):=⟨rfl,rfl,rfl,by decide +kernel,rfl,by decide +kernel,by decide +kernel⟩
theorem ok_itself {f:Addr} {fd:FuncData} (F:Fun K "itself" "itself" Zdu f fd):FnOk P w K mg base CX0 1 f fd ["piece"] Zdn:=by
 have S:=S_itself
 refine F.ok S (fun vs H Q E h=>?_) (fun cdv A outer s H vs Q E hr h=>?_)
 ·obtain ⟨v,rfl,_⟩:=h; rfl
 ·obtain ⟨v,rfl,q⟩:=h
  refine ⟨_,(Zag (Zaq (pv 0))),?_⟩
  exact ⟨_,rfl,q⟩
theorem Zih:Zap ["length","runs","begin"] ["length"] (Zac Zbu):=⟨rfl,rfl,rfl,by decide +kernel,rfl,by decide +kernel,by decide +kernel⟩
def runsI (n i:Nat):List (Int × Int):=(List.range i).flatMap fun b:Nat=>(List.range (n - b)).map fun e:Nat=>((b:Int),(b:Int)+1+(e:Int))
theorem Zg0 (n i:Nat):runsI n (i+1)=runsI n i++(List.range (n - i)).map fun e:Nat=>((i:Int),(i:Int)+1+(e:Int)):=by
 unfold runsI
 rw [List.range_succ,List.flatMap_append,List.flatMap_cons,List.flatMap_nil,List.append_nil]
theorem Ziw:∀ (n i:Nat),(runsI n i).length≤i * n
 | n,0=>by rw [Nat.zero_mul]; exact Nat.le_refl _
 | n,i+1=>by
  have:=Ziw n i
  rw [Zg0,List.length_append,List.length_map,List.length_range,Nat.succ_mul]; lia
theorem Zgj {f:Addr} {fd:FuncData} (F:Fun K "runs_within" "runs_within" Zbu f fd) (T:Txt mg tk):FnOk P w K mg base CX0 1 f fd ["length"] Zj7:=by
 have S:=Zih
 refine F.ok S (fun vs H Q E h=>?_) (fun cdv A outer s H vs Q E hr h=>?_)
 ·obtain ⟨n,rfl,_⟩:=h; rfl
 ·obtain ⟨n,rfl,n0,n5,q⟩:=h
  refine ⟨_,(Zaf (Zay (i:=1) S.nd rfl (Or.inl rfl) (Zck Zad))
   (Zaf (Zcj PassesOwn.never rfl (Zdo rfl T.z_range (Zaa (pv 0) Zad)) (Zan (i:=2) S.nd rfl (Or.inr rfl)) (Zag (Zb3 (Ze6 PySem.F.plainAttrs_list PySem.F.slot_list_extend PySem.F.type_list_extend Zja (pv 1) (Zaa (Zeq rfl (Zc2 rfl T.z_range (Zaa (Zaw Zbc (pv 2) Zae) (Zaa (Zaw Zbc (pv 0) Zae) Zad))) (fun _ _ _ _ _=>(Zan (i:=0) (show List.Nodup (["end","begin"]:List Str) from by decide +kernel) rfl (Or.inl rfl))) (fun _ _ _ _ _=>(Za3 (Zaa (pv 1) (Zaa (pv 0) Zad)))) (N:=["end","begin"]) (fr:=[none,some 2])) Zad)))))
   (Zag (Zaq (pv 1))))),?_⟩
  refine ⟨lenOk 0,fun l nl=>?_⟩
  have s1:Same H (upd H l (.lst [])):=Same.new nl
  have e1:(upd H l (.lst [])) l=some (.lst []):=Zab
  generalize upd H l (.lst [])=H1 at s1 e1 ⊢
  refine ⟨_,rfl,_,rfl,by lia,by lia,Zc3 (lo:=0) (n:=n.toNat) (fun i σ H'=>(∃ y,σ=[some (.int n),some (.ref l),y])∧SameX l H1 H'∧∃ ts:List (Addr × Int × Int),H' l=some (.lst (refs ts))∧(∀ t∈ts,H' t.1=some (.tup [.int t.2.1,.int t.2.2]))∧ts.map (·.2)=runsI n.toNat i) ⟨⟨none,rfl⟩,SameX.refl,[],e1,(fun t ht=>nomatch ht),rfl⟩ ?_ ?_⟩
  ·rintro i σ H2 hi ⟨⟨y,rfl⟩,s2,ts,e2,h2,m2⟩
   refine ⟨_,rfl,.inl ⟨rfl,_,SqL.of e2⟩,_,rfl,_,_,rfl,rfl,_,rfl,_,_,rfl,rfl,_,_,rfl,⟨by lia,by lia,by lia,by lia⟩,fun acc na=>Zdg (lo:=0+(i:Int)+1) (n:=(n+1 - (0+(i:Int)+1)).toNat) (fun j zs σ H'=>(∃ y,σ=[y,some (.int (0+(i:Int)))])∧Same H2 H'∧∃ us:List (Addr × Int × Int),zs=refs us∧(∀ t∈us,H' t.1=some (.tup [.int t.2.1,.int t.2.2]))∧us.map (·.2)=(List.range j).map fun e:Nat=>((i:Int),(i:Int)+1+(e:Int))) ⟨⟨none,rfl⟩,Same.new na,[],rfl,(fun t ht=>nomatch ht),rfl⟩ ?_ ?_⟩
   ·rintro j zs σ H3 hj hz ha ⟨⟨y,rfl⟩,s3,us,rfl,hus,mus⟩
    refine ⟨_,rfl,_,rfl,lenOk 2,fun p np=>?_⟩
    have s4:Same H3 (upd H3 p (.tup [.int (0+(i:Int)),.int (0+(i:Int)+1+(j:Int))])):=Same.new np
    have e4:(upd H3 p (.tup [.int (0+(i:Int)),.int (0+(i:Int)+1+(j:Int))])) p=some (.tup [.int (0+(i:Int)),.int (0+(i:Int)+1+(j:Int))]):=Zab
    generalize upd H3 p (.tup [.int (0+(i:Int)),.int (0+(i:Int)+1+(j:Int))])=H4 at s4 e4 ⊢
    rw [Int.zero_add] at e4
    refine cNx.mk (Nat.le_of_lt (Zar (by lia))) hj hz (s4 _ _ ha) ⟨⟨_,rfl⟩,fun b o e=>?_,us++[(p,(i:Int),(i:Int)+1+(j:Int))],by simp [refs],fun t ht=>?_,?_⟩
    ·rw [Zaj (Zah e na)]; exact s4 _ _ (s3 b o e)
    ·rcases List.mem_append.mp ht with ht | ht
     ·exact Zch (s4 _ _ (hus t ht)) (s4 _ _ ha)
     ·rw [List.mem_singleton.mp ht]; exact Zch e4 (s4 _ _ ha)
    ·rw [List.map_append,mus,List.range_succ,List.map_append]; rfl
   ·rintro zs σ H3 hz ha ⟨_,s3,us,rfl,hus,mus⟩
    have e3:=s3 _ _ e2
    have lt:ts.length≤49:=by
     have h1:=Ziw n.toNat i
     rw [← m2,List.length_map] at h1
     have:i * n.toNat≤7 * 7:=Nat.mul_le_mul (by lia) (by lia)
     lia
    rw [Zav] at hz
    refine ⟨l,acc,_,_,rfl,rfl,e3,ha,Nat.le_of_lt (Zar (by rw [Zav,Zav]; lia)),⟨_,rfl⟩,fun x o nx ex=>?_,ts++us,by rw [Zab]; simp [refs],fun t ht=>?_,?_⟩
    ·rw [Zaj nx]; exact s3 _ _ (s2 x o nx ex)
    ·rcases List.mem_append.mp ht with ht | ht
     ·exact Zch (s3 _ _ (h2 t ht)) e3
     ·exact Zch (hus t ht) e3
    ·rw [List.map_append,m2,mus,Zg0]
     congr 3
     lia
  ·rintro σ H2 ⟨⟨y,rfl⟩,s2,ts,e2,h2,m2⟩
   exact ⟨_,rfl,q l H2 (s2.same s1 nl) nl ⟨ts,e2,h2,m2⟩⟩
theorem Zgd:Zap ["width","height","found","top","bottom"] ["width","height"] (Zac Zbg):=⟨rfl,rfl,rfl,by decide +kernel,rfl,by decide +kernel,by decide +kernel⟩
theorem Ze7 {f:Addr} {fd:FuncData} (F:Fun K "pieces_within" "pieces_within" Zbg f fd) (D_runs_within:DefOk P w K mg base 1 "runs_within" ["length"] Zj7):FnOk P w K mg base CX0 2 f fd ["width","height"] sp_pcs:=by
 have S:=Zgd
 refine F.ok S (fun vs H Q E h=>?_) (fun cdv A outer s H vs Q E hr h=>?_)
 ·obtain ⟨W,T,rfl,_⟩:=h; rfl
 ·obtain ⟨W,T',rfl,w0,w5,h0,h5,q⟩:=h
  refine ⟨_,(Zaf (Zay (i:=2) S.nd rfl (Or.inl rfl) (Zck Zad))
   (Zaf (Zcj PassesOwn.never rfl (Zdk (Zax D_runs_within hr (Zaa (pv 1) Zad))) (Zdl rfl (Zat (Zan (i:=3) S.nd rfl (Or.inr rfl)) (Zat (Zan (i:=4) S.nd rfl (Or.inr rfl)) Zcv))) (Zag (Zb3 (Ze6 PySem.F.plainAttrs_list PySem.F.slot_list_extend PySem.F.type_list_extend Zja (pv 2) (Zaa (Zeq rfl (Zdk (Zax D_runs_within hr (Zaa (pv 0) Zad))) (fun _ _ _ _ _=>(pg_tupK (K:=K) (n:=2) rfl (Zat (Zan (i:=0) (show List.Nodup (["left","right","top","bottom"]:List Str) from by decide +kernel) rfl (Or.inl rfl)) (Zat (Zan (i:=1) (show List.Nodup (["left","right","top","bottom"]:List Str) from by decide +kernel) rfl (Or.inl rfl)) Zcv)))) (fun _ _ _ _ _=>(Za3 (Zaa (pv 2) (Zaa (pv 0) (Zaa (pv 3) (Zaa (pv 1) Zad)))))) (N:=["left","right","top","bottom"]) (fr:=[none,none,some 3,some 4])) Zad)))))
   (Zag (Zaq (pv 2))))),?_⟩
  refine ⟨lenOk 0,fun l nl=>?_⟩
  have s1:Same H (upd H l (.lst [])):=Same.new nl
  have e1:(upd H l (.lst [])) l=some (.lst []):=Zab
  generalize upd H l (.lst [])=H1 at s1 e1 ⊢
  refine ⟨_,rfl,T',rfl,h0,h5,fun c H2 s2 nc hc=>?_⟩
  obtain ⟨vs,ev,hv,mv⟩:=hc
  have lv:vs.length≤28:=by rw [← List.length_map (f:=fun x:Addr × Int × Int=>x.2),mv]; exact runs_len (by lia)
  have cl:c≠l:=fun z=>by rw [z,e1] at nc; cases nc
  have e2:=s2 _ _ e1
  have s12:=s1.trans s2
  refine ⟨c,rfl,⟨_,SqL.of ev⟩,Zeh (K:=K) (a:=c) (xs:=refs vs) (fun i σ H'=>(∃ y z,σ=[some (.int W),some (.int T'),some (.ref l),y,z])∧SameX l H2 H'∧∃ ts:List (Addr × Rc),H' l=some (.lst (refs ts))∧(∀ t∈ts,Pc H' t.1 t.2.1 t.2.2.1 t.2.2.2.1 t.2.2.2.2)∧ts.map (·.2)=((runsL T'.toNat).take i).flatMap fun v=>(runsL W.toNat).map fun h=>(v.1,h.1,v.2,h.2)) ⟨⟨none,none,rfl⟩,SameX.refl,[],e2,(fun t ht=>nomatch ht),rfl⟩ (fun i σ H' _ hp=>SqL.of (hp.2.1 _ _ cl ev)) ?_ ?_⟩
  ·rintro i x σ H3 hx ⟨⟨y,z,rfl⟩,s3,ts,e3,h3,m3⟩
   obtain ⟨v,hvi,rfl⟩:=Zct hx
   have vm:=List.mem_of_getElem? hvi
   have li:i < vs.length:=(List.getElem?_eq_some_iff.mp hvi).1
   have hv3:=s3 _ _ (fun z=>by have:=hv v vm; rw [z,e2] at this; cases this) (hv v vm)
   have tk1:(runsL T'.toNat).take (i+1)=(runsL T'.toNat).take i++[v.2]:=by rw [← mv,List.take_succ,List.getElem?_map,hvi]; rfl
   refine ⟨v.1,_,rfl,SqT.of hv3,rfl,_,_,rfl,_,_,rfl,rfl,?_⟩
   refine ⟨_,rfl,.inl ⟨rfl,_,SqL.of e3⟩,_,rfl,W,rfl,w0,w5,fun c2 H4 s4 _ hc2=>?_⟩
   obtain ⟨us,eu,hu,mu⟩:=hc2
   have lu:us.length≤28:=by rw [← List.length_map (f:=fun x:Addr × Int × Int=>x.2),mu]; exact runs_len (by lia)
   refine ⟨c2,rfl,⟨_,SqL.of eu⟩,fun acc na=>Zga (K:=K) (a:=c2) (ys:=refs us) (fun j zs σ H'=>(∃ y z,σ=[y,z,some (.int v.2.1),some (.int v.2.2)])∧Same H4 H'∧∃ rs:List (Addr × Rc),zs=refs rs∧(∀ t∈rs,Pc H' t.1 t.2.1 t.2.2.1 t.2.2.2.1 t.2.2.2.2)∧rs.map (·.2)=((runsL W.toNat).take j).map fun h=>(v.2.1,h.1,v.2.2,h.2)) ⟨⟨none,none,rfl⟩,Same.new na,[],rfl,(fun t ht=>nomatch ht),rfl⟩ (fun j zs σ H' _ _ hp=>SqL.of (hp.2.1 _ _ eu)) ?_ ?_⟩
   ·rintro j x zs σ H5 hx hj hz ha ⟨⟨y,z,rfl⟩,s5,rs,rfl,hrs,mrs⟩
    obtain ⟨u,hui,rfl⟩:=Zct hx
    have um:=List.mem_of_getElem? hui
    have tj:(runsL W.toNat).take (j+1)=(runsL W.toNat).take j++[u.2]:=by rw [← mu,List.take_succ,List.getElem?_map,hui]; rfl
    refine ⟨u.1,_,rfl,SqT.of (s5 _ _ (hu u um)),rfl,_,_,rfl,_,_,rfl,rfl,?_⟩
    refine ⟨_,rfl,_,rfl,_,rfl,_,rfl,lenOk 4,fun p np=>?_⟩
    have s6:Same H5 (upd H5 p (.tup [.int v.2.1,.int u.2.1,.int v.2.2,.int u.2.2])):=Same.new np
    have e6:(upd H5 p (.tup [.int v.2.1,.int u.2.1,.int v.2.2,.int u.2.2])) p=some (.tup [.int v.2.1,.int u.2.1,.int v.2.2,.int u.2.2]):=Zab
    generalize upd H5 p (.tup [.int v.2.1,.int u.2.1,.int v.2.2,.int u.2.2])=H6 at s6 e6 ⊢
    refine cNx.mk (Nat.le_of_lt (Zar (by rw [Zav]; lia))) hj hz (s6 _ _ ha) ⟨⟨_,_,rfl⟩,fun b o e=>?_,rs++[(p,v.2.1,u.2.1,v.2.2,u.2.2)],by simp [refs],fun t ht=>?_,?_⟩
    ·rw [Zaj (Zah e na)]; exact s6 _ _ (s5 b o e)
    ·rcases List.mem_append.mp ht with ht | ht
     ·exact Zch (s6 _ _ (hrs t ht)) (s6 _ _ ha)
     ·rw [List.mem_singleton.mp ht]; exact Zch e6 (s6 _ _ ha)
    ·rw [List.map_append,mrs,tj,List.map_append]; rfl
   ·rintro zs σ H5 hz ha ⟨_,s5,rs,rfl,hrs,mrs⟩
    rw [Zav,Zav] at hz
    have e5:=s5 _ _ (s4 _ _ e3)
    have lt:ts.length≤784:=by
     have h1:ts.length=(((runsL T'.toNat).take i).flatMap fun v=>(runsL W.toNat).map fun h=>((v.1,h.1,v.2,h.2):Rc)).length:=by rw [← m3,List.length_map]
     have h2:=Ziy (W:=W.toNat) (T:=T'.toNat) (by lia) (by lia)
     have h3:(((runsL T'.toNat).take i).flatMap fun v=>(runsL W.toNat).map fun h=>((v.1,h.1,v.2,h.2):Rc)).length≤(rectsL W.toNat T'.toNat).length:=by
      unfold rectsL
      conv=>rhs; rw [← List.take_append_drop i (runsL T'.toNat),List.flatMap_append,List.length_append]
      lia
     lia
    have e:(runsL W.toNat).take (refs us).length=runsL W.toNat:=by rw [Zav,← List.length_map (f:=fun x:Addr × Int × Int=>x.2) (as:=us),mu,List.take_length]
    rw [e] at mrs
    refine ⟨l,acc,_,_,rfl,rfl,e5,ha,Nat.le_of_lt (Zar (by rw [Zav,Zav]; lia)),⟨_,_,rfl⟩,fun x o nx ex=>?_,ts++rs,by rw [Zab]; simp [refs],fun t ht=>?_,?_⟩
    ·rw [Zaj nx]; exact s5 _ _ (s4 _ _ (s3 x o nx ex))
    ·rcases List.mem_append.mp ht with ht | ht
     ·exact Zch (s5 _ _ (s4 _ _ (h3 t ht))) e5
     ·exact Zch (hrs t ht) e5
    ·rw [List.map_append,m3,mrs,tk1,List.flatMap_append,List.flatMap_cons,List.flatMap_nil,List.append_nil]
  ·rintro σ H3 ⟨⟨y,z,rfl⟩,s3,ts,e3,h3,m3⟩
   have e:(runsL T'.toNat).take (refs vs).length=runsL T'.toNat:=by rw [Zav,← List.length_map (f:=fun x:Addr × Int × Int=>x.2) (as:=vs),mv,List.take_length]
   rw [e] at m3
   exact ⟨_,rfl,q l H3 (s3.same s12 nl) ⟨ts,e3,h3,m3⟩⟩
theorem S_lies_in:Zap ["square","piece"] ["square","piece"] (Zac Zda):=⟨rfl,rfl,rfl,by decide +kernel,rfl,by decide +kernel,by decide +kernel⟩
theorem ok_lies_in {f:Addr} {fd:FuncData} (F:Fun K "lies_in" "lies_in" Zda f fd):FnOk P w K mg base CX0 1 f fd ["square","piece"] Zj9:=by
 have S:=S_lies_in
 refine F.ok S (fun vs H Q E h=>?_) (fun cdv A outer s H vs Q E hr h=>?_)
 ·obtain ⟨a,b,s,p,rfl,_⟩:=h; rfl
 ·obtain ⟨a,b,s,p,rfl,ha,hb,q⟩:=h
  unfold hitB at q
  refine ⟨_,(Zag (Zaq (Zef (Zdv Zfr Zht (Zao Zal (pv 1) Zae (fun _ _=>rfl)) (Zao Zal (pv 0) Zae (fun _ _=>rfl)) (Zao Zal (pv 1) Zae (fun _ _=>rfl))) (Zed (Zdv Zfr Zht (Zao Zal (pv 1) Zae (fun _ _=>rfl)) (Zao Zal (pv 0) Zae (fun _ _=>rfl)) (Zao Zal (pv 1) Zae (fun _ _=>rfl))))))),?_⟩
  refine ⟨_,rfl,b,_,_,_,rfl,rfl,SqT.of hb,Zig,_,rfl,a,_,_,_,rfl,rfl,SqT.of ha,Zcy,_,_,rfl,rfl,_,rfl,ite3 (fun c1=>?_) (fun c1=>?_)⟩
  ·replace c1:decide (p.1≤s.1)=true:=c1
   rw [c1] at q
   refine ⟨_,rfl,b,_,_,_,rfl,rfl,SqT.of hb,Zie,_,_,rfl,rfl,_,rfl,ite3 (fun c2=>?_) (fun c2=>?_)⟩
   ·replace c2:decide (s.1 < p.2.2.1)=true:=c2
    rw [c2] at q
    refine ⟨_,rfl,b,_,_,_,rfl,rfl,SqT.of hb,Zif,_,rfl,a,_,_,_,rfl,rfl,SqT.of ha,Zdh,_,_,rfl,rfl,_,rfl,ite3 (fun c3=>?_) (fun c3=>?_)⟩
    ·replace c3:decide (p.2.1≤s.2)=true:=c3
     rw [c3] at q
     exact ⟨_,rfl,b,_,_,_,rfl,rfl,SqT.of hb,at4_3,_,_,rfl,rfl,q⟩
    ·replace c3:decide (p.2.1≤s.2)=false:=c3
     rw [c3] at q
     exact q
   ·replace c2:decide (s.1 < p.2.2.1)=false:=c2
    rw [c2] at q
    exact q
  ·replace c1:decide (p.1≤s.1)=false:=c1
   rw [c1] at q
   exact ⟨_,rfl,iteF q⟩
theorem Zgt:Zap ["piece","kinds","flaws"] ["piece","kinds","flaws"] (Zac Zbp):=⟨rfl,rfl,rfl,by decide +kernel,rfl,by decide +kernel,by decide +kernel⟩
theorem Zft {f:Addr} {fd:FuncData} (F:Fun K "flawed_uncut" "flawed_uncut" Zbp f fd) (T:Txt mg tk) (D_lies_in:DefOk P w K mg base 1 "lies_in" ["square","piece"] Zj9) (D_choice_uncut:DefOk P w K mg base 3 "choice_uncut" ["piece","kinds"] Zhg):FnOk P w K mg base CX0 4 f fd ["piece","kinds","flaws"] Zfj:=by
 have S:=Zgt
 refine F.ok S (fun vs H Q E h=>?_) (fun cdv A outer s H vs Q E hr h=>?_)
 ·obtain ⟨a,b,d,p,ks,fl,rfl,_⟩:=h; rfl
 ·obtain ⟨a,b,d,p,ks,fl,rfl,ha,hb,few,⟨ts,ed,hd,md⟩,fewf,q⟩:=h
  have lt:ts.length=fl.length:=by rw [← md,List.length_map]
  refine ⟨_,(Zaf (Zbi (Zbs (Za2 call_any rfl T.z_any rfl (Zaa (Zeq rfl (Zdk (pv 2)) (fun _ _ _ _ _=>(Zan (i:=0) (show List.Nodup (["flaw","piece"]:List Str) from by decide +kernel) rfl (Or.inl rfl))) (fun _ _ _ _ _=>(Zax D_lies_in hr (Zaa (pv 0) (Zaa (pv 1) Zad)))) (N:=["flaw","piece"]) (fr:=[none,some 0])) Zad))) (Zag (Zaq (Zax D_choice_uncut hr (Zaa (pv 0) (Zaa (Zck Zad) Zad))))) Zas)
   (Zag (Zaq (Zax D_choice_uncut hr (Zaa (pv 0) (Zaa (pv 1) Zad)))))),?_⟩
  refine ⟨_,rfl,d,rfl,⟨_,SqL.of ed⟩,fun acc na=>Zga (K:=K) (a:=d) (ys:=refs ts) (fun j zs σ H'=>(∃ y,σ=[y,some (.ref a)])∧Same H H'∧zs=((fl.take j).map fun s=>hitB s p).map V.bl) ⟨⟨none,rfl⟩,Same.new na,rfl⟩ (fun j zs σ H' _ _ hp=>SqL.of (hp.2.1 _ _ ed)) ?_ ?_⟩
  ·rintro j x zs σ H1 hx hj hz hacc ⟨⟨y,rfl⟩,s1,rfl⟩
   obtain ⟨u,hui,rfl⟩:=Zct hx
   have um:=List.mem_of_getElem? hui
   have tj:fl.take (j+1)=fl.take j++[u.2]:=by rw [← md,List.take_succ,List.getElem?_map,hui]; rfl
   refine ⟨_,rfl,_,rfl,u.1,a,u.2,p,rfl,s1 _ _ (hd u um),s1 _ _ ha,cNx.mk (Nat.le_of_lt (Zar (by rw [Zav]; lia))) hj hz hacc ⟨⟨_,rfl⟩,fun b o e=>?_,?_⟩⟩
   ·rw [Zaj (Zah e na)]; exact s1 b o e
   ·rw [tj,List.map_append,List.map_append]; rfl
  ·rintro zs σ H1 hz hacc ⟨_,s1,rfl⟩
   have e:fl.take (refs ts).length=fl:=by rw [Zav,lt,List.take_length]
   rw [e] at hacc
   have e2:(fl.map fun s=>hitB s p).any id=foul fl p:=by unfold foul; rw [List.any_map]; rfl
   refine ⟨acc,_,rfl,SqL.of hacc,rfl,_,rfl,ite3 (fun c=>?_) (fun c=>?_)⟩
   ·rw [e2] at c
    refine ⟨_,rfl,lenOk 0,fun z nz=>⟨a,z,p.1,p.2.1,p.2.2.1,p.2.2.2,[],rfl,(s1.trans (Same.new nz)) _ _ ha,⟨[],Zab,(fun t ht=>nomatch ht),rfl⟩,by decide,fun c2 H2 s2 hc2=>q c2 H2 (s1.trans ((Same.new nz).trans s2)) ?_⟩⟩
    unfold uncutF ksF
    rw [if_pos c,if_pos c]
    exact hc2
   ·rw [e2] at c
    refine ⟨_,rfl,_,rfl,a,b,p.1,p.2.1,p.2.2.1,p.2.2.2,ks,rfl,s1 _ _ ha,hb.same s1,few,fun c2 H2 s2 hc2=>q c2 H2 (s1.trans s2) ?_⟩
    unfold uncutF ksF
    rw [if_neg (by rw [c]; exact Bool.false_ne_true),if_neg (by rw [c]; exact Bool.false_ne_true)]
    exact hc2
theorem Zgr {f:Addr} {fd:FuncData} (F:Fun K "best_choice" "best_choice" Zb1 f fd) (T:Txt mg tk) (D_itself:DefOk P w K mg base 1 "itself" ["piece"] Zdn) (D_first_piece:DefOk P w K mg base 1 "first_piece" ["piece","word","at"] Ziu) (D_other_piece:DefOk P w K mg base 1 "other_piece" ["piece","word","at"] Zit) (D_cuts_within:DefOk P w K mg base 2 "cuts_within" ["piece"] Zkc):FnOk P w K mg base CX0 3 f fd ["piece","uncut","choices","key"] (Zho mg):=by
 have S:=Zip
 have D_first_piece:=D_first_piece.imp fst_first
 have D_other_piece:=D_other_piece.imp oth_other
 refine F.ok S (fun vs H Q E h=>?_) (fun cdv A outer s H vs Q E hr h=>?_)
 ·obtain ⟨ks,fl,a,u,d,fk,p,m,L,ad,g,rfl,_⟩:=h; rfl
 ·obtain ⟨ks,fl,a,u,d,fk,p,m,L,ad,g,rfl,hfk,ha,hu0,tab,ins,need,q⟩:=h
  have hu:=Zkw hr
  unfold InS at ins
  refine ⟨_,(Zaf (Zay (i:=4) S.nd rfl (Or.inl rfl) (pv 1))
   (Zaf (Zcj PassesOwn.never rfl (Zdk (Zax D_cuts_within hr (Zaa (pv 0) Zad))) (Zdl rfl (Zat (Zan (i:=5) S.nd rfl (Or.inl rfl)) (Zat (Zan (i:=6) S.nd rfl (Or.inl rfl)) Zcv))) (Zaf (Zay (i:=7) S.nd rfl (Or.inl rfl) (Zc8 hu (pv 2) (pe_fnv D_itself hr (pv 3) (Zaa (Zax D_first_piece hr (Zaa (pv 0) (Zaa (pv 5) (Zaa (pv 6) Zad)))) Zad)) (fun _ _=>rfl)))
   (Zaf (Zay (i:=8) S.nd rfl (Or.inl rfl) (Zc8 hu (pv 2) (pe_fnv D_itself hr (pv 3) (Zaa (Zax D_other_piece hr (Zaa (pv 0) (Zaa (pv 5) (Zaa (pv 6) Zad)))) Zad)) (fun _ _=>rfl)))
   (Zag (Zbi (Za0 op_gt (Zaw Zbc (Zao Zal (pv 7) Zae (fun _ _=>rfl)) (Zao Zal (pv 8) Zae (fun _ _=>rfl))) (Zao Zal (pv 4) Zae (fun _ _=>rfl)) (nomark _)) (Zag (Zay (i:=4) S.nd rfl (Or.inl rfl) (Za3 (Zaa (Zaw Zbc (Zao Zal (pv 7) Zae (fun _ _=>rfl)) (Zao Zal (pv 8) Zae (fun _ _=>rfl))) (Zaa (Za3 (Zaa (pv 5) (Zaa (pv 6) Zad))) Zad))))) Zas)))))
   (Zag (Zaq (pv 4))))),?_⟩
  have look:∀ {H':Hp} {c2:Addr} {r:Rc},Same H H'→Pc H' c2 r.1 r.2.1 r.2.2.1 r.2.2.2→r∈L→DGet H' d (.ref c2) (some (.ref (ad r)))∧Cho H' (ad r) (g r) (GR ks fl g r (g r)):=fun {H' c2 r} s' e m=>by
   have t':=tab.same s'
   have dg:=DGet.t (k:=ky4 r) t'.1 (show H' c2=some (.tup ((ky4 r).map kV)) from e)
   rw [Zdi _ L r m] at dg
   exact ⟨dg,t'.2 _ m⟩
  refine ⟨_,rfl,_,rfl,a,p.1,p.2.1,p.2.2.1,p.2.2.2,rfl,ha,by lia,by lia,by lia,by lia,fun c H1 s1 hc=>?_⟩
  obtain ⟨ts,e1,e2,e3⟩:=hc
  refine ⟨c,rfl,⟨_,SqL.of e1⟩,Zeh (K:=K) (a:=c) (xs:=refs ts) (fun i σ H'=>Same H1 H'∧∃ c x5 x6 x7 x8,σ=[some (.ref a),some (.ref u),some (.ref d),some (.ref fk),some (.ref c),x5,x6,x7,x8]∧ChR H' c ks fl g p (((cutsL (wR p) (hR p)).take i).foldl (stepR g p) m)) ⟨Same.refl H1,u,none,none,none,none,rfl,(hu0.same s1).up⟩ (fun i σ H' _ hp=>SqL.of (hp.1 _ _ e1)) ?_ ?_⟩
  ·rintro i x σ H2 hx ⟨s2,c,x5,x6,x7,x8,rfl,hc⟩
   obtain ⟨⟨ta,b,k⟩,hv,rfl⟩:=Zct hx
   have tm:=List.mem_of_getElem? hv
   have hta:H2 ta=some (.tup [.str (wd b),.int k]):=s2 _ _ (e2 _ tm)
   have cin:(b,k)∈cutsL (wR p) (hR p):=by
    have:(b,k)∈ts.map (·.2):=List.mem_map.mpr ⟨_,tm,rfl⟩
    rw [e3] at this; exact this
   have tk1:(cutsL (wR p) (hR p)).take (i+1)=(cutsL (wR p) (hR p)).take i++[(b,k)]:=by
    show (cutsL (p.2.2.2 - p.2.1) (p.2.2.1 - p.1)).take (i+1)=(cutsL (p.2.2.2 - p.2.1) (p.2.2.1 - p.1)).take i++[(b,k)]
    rw [← e3,List.take_succ,List.getElem?_map,hv]; rfl
   obtain ⟨m1,m2⟩:=need _ cin
   have s02:=s1.trans s2
   refine ⟨ta,_,rfl,SqT.of hta,rfl,_,_,rfl,_,_,rfl,rfl,?_⟩
   refine ⟨_,rfl,_,rfl,⟨fk,rfl,hfk⟩,_,rfl,_,rfl,_,rfl,a,p.1,p.2.1,p.2.2.1,p.2.2.2,k,b,rfl,s02 _ _ ha,fun c1 H3 s3 hc1=>⟨_,rfl,?_⟩⟩
   have s04:=s02.trans s3
   obtain ⟨dg1,ch1⟩:=look (r:=pA p (b,k)) s04 hc1 m1
   refine ⟨d,_,rfl,dg1,_,rfl,_,rfl,⟨fk,rfl,hfk⟩,_,rfl,_,rfl,_,rfl,a,p.1,p.2.1,p.2.2.1,p.2.2.2,k,b,rfl,s04 _ _ ha,fun c3 H5 s5 hc3=>⟨_,rfl,?_⟩⟩
   obtain ⟨dg2,e4,n4,ch2,_,_⟩:=look (r:=pB p (b,k)) (s04.trans s5) hc3 m2
   obtain ⟨e3',n3',ch1,_,_⟩:=ch1.same s5
   obtain ⟨e5,n5,hc6,hc7,ge5⟩:=hc.same (s3.trans s5)
   refine ⟨d,_,rfl,dg2,_,rfl,ad (pA p (b,k)),_,_,_,rfl,rfl,SqT.of ch1,Zcy,_,rfl,ad (pB p (b,k)),_,_,_,rfl,rfl,SqT.of ch2,Zcy,_,_,rfl,rfl,_,rfl,c,_,_,_,rfl,rfl,SqT.of hc6,Zcy,_,_,rfl,rfl,_,rfl,ite3 (fun cc=>?_) (fun cc=>?_)⟩
   ·refine ⟨_,rfl,ad (pA p (b,k)),_,_,_,rfl,rfl,SqT.of ch1,Zcy,_,rfl,ad (pB p (b,k)),_,_,_,rfl,rfl,SqT.of ch2,Zcy,_,_,rfl,rfl,_,rfl,_,rfl,lenOk 2,fun q1 n1=>⟨lenOk 2,fun q2 n2=>?_⟩⟩
    have y1:Same H5 (upd H5 q1 (.tup [.str (wd b),.int k])):=Same.new n1
    have y2:Same (upd H5 q1 (.tup [.str (wd b),.int k])) (upd (upd H5 q1 (.tup [.str (wd b),.int k])) q2 (.tup [.int (g (pA p (b,k))+g (pB p (b,k))),.ref q1])):=Same.new n2
    refine ⟨s2.trans (s3.trans (s5.trans (y1.trans y2))),q2,_,_,_,_,rfl,?_⟩
    rw [tk1,List.foldl_append]
    show ChR _ q2 ks fl g p (if List.foldl (stepR g p) m (List.take i (cutsL (wR p) (hR p))) < twoR g p (b,k) then twoR g p (b,k) else List.foldl (stepR g p) m (List.take i (cutsL (wR p) (hR p))))
    rw [if_pos (show List.foldl (stepR g p) m (List.take i (cutsL (wR p) (hR p))) < twoR g p (b,k) from of_decide_eq_true cc)]
    exact ⟨q1,.c b k,Zab,y2 _ _ Zab,cin,rfl⟩
   ·refine ⟨s2.trans (s3.trans s5),c,_,_,_,_,rfl,?_⟩
    rw [tk1,List.foldl_append]
    show ChR _ c ks fl g p (if List.foldl (stepR g p) m (List.take i (cutsL (wR p) (hR p))) < twoR g p (b,k) then twoR g p (b,k) else List.foldl (stepR g p) m (List.take i (cutsL (wR p) (hR p))))
    rw [if_neg (show ¬ List.foldl (stepR g p) m (List.take i (cutsL (wR p) (hR p))) < twoR g p (b,k) from of_decide_eq_false cc)]
    exact ⟨e5,n5,hc6,hc7,ge5⟩
  ·rintro σ H2 ⟨s2,c,x5,x6,x7,x8,rfl,hc⟩
   have e:(cutsL (wR p) (hR p)).take (refs ts).length=cutsL (wR p) (hR p):=by
    show (cutsL (p.2.2.2 - p.2.1) (p.2.2.1 - p.1)).take (refs ts).length=cutsL (p.2.2.2 - p.2.1) (p.2.2.1 - p.1)
    rw [Zav,← List.length_map (f:=fun x:Addr × Bool × Int=>x.2) (as:=ts),e3,List.take_length]
   rw [e] at hc
   exact ⟨_,rfl,q c H2 (s1.trans s2) hc⟩
theorem Zi4 {f:Addr} {fd:FuncData} (F:Fun K "worths_in" "worths_in" Zcm f fd):FnOk P w K mg base CX0 1 f fd ["choices"] sp_inR:=by
 have S:=Zk8
 refine F.ok S (fun vs H Q E h=>?_) (fun cdv A outer s H vs Q E hr h=>?_)
 ·obtain ⟨ks,fl,d,L,ad,g,rfl,_⟩:=h; rfl
 ·obtain ⟨ks,fl,d,L,ad,g,rfl,tab,nd,few,q⟩:=h
  have hu:=Zkw hr
  refine ⟨_,(Zaf (Zay (i:=1) S.nd rfl (Or.inl rfl) pe_dnewT)
   (Zaf (Zcj PassesOwn.never rfl (pi_itemsT (pv 0)) (Zdl rfl (Zat (Zan (i:=2) S.nd rfl (Or.inl rfl)) (Zat (Zan (i:=3) S.nd rfl (Or.inl rfl)) Zcv))) (Zag (ps_dput hu (pv 1) (pv 2) (Zao Zal (pv 3) Zae (fun _ _=>rfl)) rfl)))
   (Zag (Zaq (pv 1))))),?_⟩
  refine fun c nc=>?_
  have s1:Same H (upd H c (.dT [])):=Same.new nc
  have cd:c≠d:=fun z=>by rw [z,tab.1] at nc; cases nc
  have tab1:=tab.same s1
  refine ⟨_,rfl,d,_,rfl,tab1.1,fun ob=>for_itemsT (a:=d) (ob:=ob) (kvs:=tabR L fun p=>.ref (ad p)) (fun i σ H'=>(∃ x y,σ=[some (.ref d),some (.ref c),x,y])∧SameX c (upd (upd H c (.dT [])) d (.frz ob (.dT (tabR L fun p=>.ref (ad p))))) H'∧H' c=some (.dT (tabR (L.take i) fun p=>.int (g p))))
   ⟨⟨none,none,rfl⟩,SameX.refl,by rw [Zaj cd]; exact Zab⟩ (fun i σ H' _ hp=>hp.2.1 _ _ (Ne.symm cd) Zab) ?_ ?_⟩
  ·rintro i p σ H2 t b hp ⟨⟨x0,y0,rfl⟩,s2,hc⟩ hb nt
   unfold tabR at hp
   rw [List.getElem?_map] at hp
   obtain ⟨p0,hp0,rfl⟩:=Option.map_eq_some_iff.mp hp
   have pm:=List.mem_of_getElem? hp0
   obtain ⟨ea,en,he,_,_⟩:=tab.2 p0 pm
   have hcho:(upd (upd H c (.dT [])) d (.frz ob (.dT (tabR L fun p=>.ref (ad p))))) (ad p0)=some (.tup [.int (g p0),.ref ea]):=by
    rw [Zaj (fun z=>by rw [z,tab.1] at he; cases he),Zaj (Zah he nc)]
    exact he
   have hc2:=s2 _ _ (fun z=>by rw [z,Zaj cd,Zab] at hcho; cases hcho) hcho
   have s3:Same H2 (upd H2 t (.tup [.ref b,.ref (ad p0)])):=Same.new nt
   refine ⟨t,_,rfl,SqT.of Zab,rfl,_,_,rfl,_,_,rfl,rfl,?_⟩
   refine ⟨_,rfl,ad p0,_,_,_,rfl,rfl,SqT.of (s3 _ _ hc2),Zcy,_,rfl,_,rfl,c,_,rfl,DPut.t (k:=ky4 p0) (s3 _ _ hc) (s3 _ _ hb) (Zar (by rw [Zdj,List.length_take]; lia)),⟨_,_,rfl⟩,fun x o nx ex=>?_,?_⟩
   ·rw [Zaj nx]
    exact s3 _ _ (s2 x o nx ex)
   ·rw [Zab,tabR_put _ _ p0 (nd_take nd hp0)]
    have tk1:L.take (i+1)=L.take i++[p0]:=by rw [List.take_succ,hp0]; rfl
    rw [tk1]
    unfold tabR
    rw [List.map_append]
    rfl
  ·rintro σ H2 ⟨⟨x0,y0,rfl⟩,s2,hc⟩
   rw [Zdj,List.take_length] at hc
   refine ⟨_,rfl,q c H2 (fun x o nx ex=>?_) nc hc⟩
   exact s2 x o (Zah ex nc) (by rw [Zaj nx,Zaj (Zah ex nc)]; exact ex)
theorem Zk5 {f g:Rc→Int} {p:Rc} {m:Int} (e:∀ c∈cutsL (wR p) (hR p),f (pA p c)=g (pA p c)∧f (pB p c)=g (pB p c)):bestR f p m=bestR g p m:=by
 unfold bestR
 refine Zjh fun m c hc=>?_
 obtain ⟨e1,e2⟩:=e c hc
 unfold stepR twoR
 rw [e1,e2]
abbrev N_chp:List Str:=["width","height","kinds","flaws","choices","piece"]
theorem Zel:Zap N_chp ["width","height","kinds","flaws"] (Zac Za6):=⟨rfl,rfl,rfl,by decide +kernel,rfl,by decide +kernel,by decide +kernel⟩
theorem Zd5 {f:Addr} {fd:FuncData} (F:Fun K "choices_by_piece" "choices_by_piece" Za6 f fd) (T:Txt mg tk) (D_area_of:DefOk P w K mg base 1 "area_of" ["rectangle"] Zke) (D_check_flawed_sides:DefOk P w K mg base 3 "check_flawed_sides" ["width","height"] Zfk) (D_check_kinds:DefOk P w K mg base 4 "check_kinds" ["kinds"] Zhn) (D_check_flaws:DefOk P w K mg base 3 "check_flaws" ["flaws","width","height"] sp_cfl) (D_pieces_within:DefOk P w K mg base 2 "pieces_within" ["width","height"] sp_pcs)
  (D_flawed_uncut:DefOk P w K mg base 4 "flawed_uncut" ["piece","kinds","flaws"] Zfj) (D_best_choice:DefOk P w K mg base 3 "best_choice" ["piece","uncut","choices","key"] (Zho mg)):FnOk P w K mg base CX0 5 f fd ["width","height","kinds","flaws"] sp_chR:=by
 have S:=Zel
 have R:=T
 refine F.ok S (fun vs H Q E h=>?_) (fun cdv A outer s H vs Q E hr h=>?_)
 ·obtain ⟨w,h,b,e,ks,fl,rfl,_⟩:=h; rfl
 ·obtain ⟨w,h,b,e,ks,fl,rfl,w1,w2,h1,h2,hk,few,ok,hfl,flok,q⟩:=h
  have hu:=Zkw hr
  refine ⟨_,(Zaf (Zb3 (Zax D_check_flawed_sides hr (Zaa (pv 0) (Zaa (pv 1) Zad))))
   (Zaf (Zb3 (Zax D_check_kinds hr (Zaa (pv 2) Zad)))
   (Zaf (Zb3 (Zax D_check_flaws hr (Zaa (pv 3) (Zaa (pv 0) (Zaa (pv 1) Zad)))))
   (Zaf (Zay (i:=4) S.nd rfl (Or.inl rfl) pe_dnewT)
   (Zaf (Zcj PassesOwn.never rfl (Zdk (pe_sortDI D_area_of hr rfl T.z_sorted (Zaa (Zax D_pieces_within hr (Zaa (pv 0) (Zaa (pv 1) Zad))) Zad))) (Zan (i:=5) S.nd rfl (Or.inl rfl)) (Zag (ps_dput hu (pv 4) (pv 5) (Zax D_best_choice hr (Zaa (pv 5) (Zaa (Zax D_flawed_uncut hr (Zaa (pv 5) (Zaa (pv 2) (Zaa (pv 3) Zad)))) (Zaa (pv 4) (Zaa (Zbf (v:=.ref (tk.2.2.2.2.2.2.2.2)) rfl R.g_itself rfl) Zad))))) rfl)))
   (Zag (Zaq (pv 4)))))))),?_⟩
  refine ⟨_,rfl,_,rfl,w,h,rfl,w1,by lia,h1,by lia,fun H1 s1=>⟨_,rfl,b,ks,rfl,hk.same s1,few,ok,fun H2 s2=>⟨_,rfl,_,rfl,_,rfl,e,fl,w,h,rfl,hfl.same (s1.trans s2),flok,fun H3 s3=>fun d nd=>?_⟩⟩⟩
  have s03:=s1.trans (s2.trans s3)
  have nd0:H d=none:=Zd0 s03 nd
  have s04:Same H (upd H3 d (.dT [])):=s03.trans (Same.new nd)
  have hd4:(upd H3 d (.dT [])) d=some (.dT []):=Zab
  generalize upd H3 d (.dT [])=H4 at s04 hd4 ⊢
  refine ⟨_,rfl,_,rfl,w,h,rfl,by lia,w2,by lia,h2,fun c H5 s5 hc=>?_⟩
  obtain ⟨ts,e1,ht,mt⟩:=hc
  have mem:∀ p:Rc,(∃ t∈ts,t.2=p)↔InS w h p:=fun p=>by
   have e:InS w h p↔p∈rectsL w.toNat h.toNat:=by
    rw [mem_rects]
    have ew:((w.toNat:Nat):Int)=w:=by lia
    have eh:((h.toNat:Nat):Int)=h:=by lia
    rw [ew,eh]
   rw [e,← mt]
   exact ⟨fun ⟨t,a,b⟩=>List.mem_map.mpr ⟨t,a,b⟩,fun z=>List.mem_map.mp z⟩
  refine ⟨c,Rc,ts,fun t=>hR t.2 * wR t.2,rfl,SqL.of e1,fun t htm=>?_,fun l ts' nl pm srt=>?_⟩
  ·have i:=(mem t.2).mp ⟨t,htm,rfl⟩
   unfold InS at i
   exact ⟨t.1,t.2,rfl,ht t htm,by show 0≤t.2.2.2.1 - t.2.1; lia,by show t.2.2.2.1 - t.2.1≤100; lia,by show 0≤t.2.2.2.2 - t.2.2.1; lia,by show t.2.2.2.2 - t.2.2.1≤100; lia,rfl,rfl⟩
  have nd':(ts'.map (·.2)).Nodup:=by
   have:=pm.map (fun t:Addr × Rc=>t.2)
   exact (this.nodup_iff).mpr (by rw [mt]; exact rects_nd _ _)
  have len':ts'.length≤784:=by
   rw [pm.length_eq,← List.length_map (f:=fun t:Addr × Rc=>t.2),mt]
   exact Ziy (by lia) (by lia)
  have mem':∀ p:Rc,p∈ts'.map (·.2)↔InS w h p:=fun p=>by
   rw [← mem p]
   constructor
   ·intro z
    obtain ⟨t,a,b⟩:=List.mem_map.mp z
    exact ⟨t,pm.mem_iff.mp a,b⟩
   ·rintro ⟨t,a,b⟩
    exact List.mem_map.mpr ⟨t,pm.mem_iff.mpr a,b⟩
  have s6:Same H5 (upd H5 l (.lst (ts'.map fun t=>V.ref t.1))):=Same.new nl
  have e6:(upd H5 l (.lst (ts'.map fun t=>V.ref t.1))) l=some (.lst (refs ts')):=Zab
  have hd6:=s6 _ _ (s5 _ _ hd4)
  have s06:=s04.trans (s5.trans s6)
  have ht6:∀ t∈ts',Pc (upd H5 l (.lst (ts'.map fun t=>V.ref t.1))) t.1 t.2.1 t.2.2.1 t.2.2.2.1 t.2.2.2.2:=fun t htm=>s6 _ _ (ht t (pm.mem_iff.mp htm))
  generalize upd H5 l (.lst (ts'.map fun t=>V.ref t.1))=H6 at s6 e6 hd6 s06 ht6 ⊢
  have dl:d≠l:=fun z=>by rw [z,e6] at hd6; cases hd6
  refine ⟨l,rfl,⟨_,SqL.of e6⟩,Zeh (K:=K) (a:=l) (xs:=refs ts') (fun i σ H'=>(∃ y,σ=[some (.int w),some (.int h),some (.ref b),some (.ref e),some (.ref d),y])∧SameX d H6 H'∧∃ (ad:Rc→Addr) (g:Rc→Int),TabQ ks fl H' d ((ts'.map (·.2)).take i) ad g∧∀ p∈(ts'.map (·.2)).take i,GOk ks fl g p∧∀ c∈cutsL (wR p) (hR p),pA p c∈(ts'.map (·.2)).take i∧pB p c∈(ts'.map (·.2)).take i)
   ⟨⟨none,rfl⟩,SameX.refl,(fun _=>0),(fun _=>0),⟨hd6,fun p hp=>nomatch hp⟩,fun p hp=>nomatch hp⟩ (fun i σ H' _ hp=>SqL.of (hp.2.1 _ _ (Ne.symm dl) e6)) ?_ ?_⟩
  ·rintro i x σ H7 hx ⟨⟨y,rfl⟩,s7,ad,g,tab,good⟩
   obtain ⟨t,hti,rfl⟩:=Zct hx
   have tm:=List.mem_of_getElem? hti
   have hi:i < ts'.length:=(List.getElem?_eq_some_iff.mp hti).1
   have gi:(ts'.map (·.2))[i]?=some t.2:=by rw [List.getElem?_map,hti]; rfl
   have ins:=(mem' t.2).mp (List.mem_of_getElem? gi)
   have notin:=nd_take nd' gi
   have tk1:(ts'.map (·.2)).take (i+1)=(ts'.map (·.2)).take i++[t.2]:=by rw [List.take_succ,gi]; rfl
   have s07:Same H H7:=s7.same s06 nd0
   have hp7:Pc H7 t.1 t.2.1 t.2.2.1 t.2.2.2.1 t.2.2.2.2:=s7 _ _ (fun z=>by have:=ht6 t tm; unfold Pc at this; rw [z,hd6] at this; cases this) (ht6 t tm)
   have early:∀ r:Rc,InS w h r→hR r * wR r < hR t.2 * wR t.2→r∈(ts'.map (·.2)).take i:=fun r hr lt=>by
    obtain ⟨j,hj,ej⟩:=List.getElem_of_mem ((mem' r).mpr hr)
    have hj':j < ts'.length:=by simpa using hj
    rcases Nat.lt_or_ge j i with ji | ji
    ·exact List.mem_iff_getElem.mpr ⟨j,by rw [List.length_take,List.length_map]; lia,by rw [List.getElem_take]; exact ej⟩
    ·exfalso
     have e1:ts'[i].2=t.2:=by rw [(List.getElem?_eq_some_iff.mp hti).2]
     have e2:ts'[j].2=r:=by simpa using ej
     rcases Nat.lt_or_ge i j with ij | ij
     ·have:=List.pairwise_iff_getElem.mp srt i j (by simpa using hi) (by simpa using hj') ij
      rw [List.getElem_map,List.getElem_map,e1,e2] at this
      lia
     ·have:i=j:=by lia
      subst this
      rw [e1] at e2
      rw [e2] at lt; lia
   have parts:∀ c∈cutsL (wR t.2) (hR t.2),pA t.2 c∈(ts'.map (·.2)).take i∧pB t.2 c∈(ts'.map (·.2)).take i:=fun c hc=>by
    obtain ⟨ia,ib,_,_,ma,mb⟩:=Zjk ins hc
    exact ⟨early _ ia ma,early _ ib mb⟩
   have ins12:InS 12 12 t.2:=by unfold InS at ins ⊢; lia
   refine ⟨_,rfl,_,rfl,_,rfl,_,rfl,t.1,b,e,t.2,ks,fl,rfl,hp7,hk.same s07,few,hfl.same s07,flok.1,fun c2 H8 s8 hc2=>?_⟩
   refine ⟨_,rfl,ks,fl,t.1,c2,d,tk.2.2.2.2.2.2.2.2,t.2,_,_,ad,g,rfl,T.g_itself,s8 _ _ hp7,hc2,tab.same s8,ins12,parts,fun c3 H9 s9 hc3=>?_⟩
   have s79:=s8.trans s9
   have tab9:=tab.same s79
   have few9:((ts'.map (·.2)).take i).length≤784:=by rw [List.length_take,List.length_map]; lia
   refine ⟨_,rfl,_,rfl,d,_,rfl,DPut.t (k:=ky4 t.2) tab9.1 (s79 _ _ hp7) (Zar (by rw [Zdj]; lia)),⟨_,rfl⟩,fun x o nx ex=>?_,fun z=>if z=t.2 then c3 else ad z,fun z=>if z=t.2 then bestR g t.2 (uncutF ks fl t.2) else g z,⟨?_,fun z hz=>?_⟩,fun z hz=>?_⟩
   ·rw [Zaj nx]
    exact s79 _ _ (s7 x o nx ex)
   ·rw [Zab,tabR_put (fun p=>.ref (ad p)) _ t.2 notin,tk1]
    have e1:tabR ((ts'.map (·.2)).take i) (fun p=>V.ref (ad p))=tabR ((ts'.map (·.2)).take i) (fun p=>V.ref (if p=t.2 then c3 else ad p)):=tabR_congr fun p hp=>by rw [if_neg (fun z:p=t.2=>notin (z ▸ hp))]
    rw [e1]
    unfold tabR
    rw [List.map_append]
    show some (HO.dT (_++[(ky4 t.2,V.ref c3)]))=some (HO.dT (_++[(ky4 t.2,V.ref (if t.2=t.2 then c3 else ad t.2))]))
    rw [if_pos rfl]
   ·have dne:∀ {x:Addr} {m:Int} {G:En→Prop},Cho H9 x m G→Cho (upd H9 d (.dT (putK (tabR ((ts'.map (·.2)).take i) fun p=>V.ref (ad p)) (ky4 t.2) (V.ref c3)))) x m G:=fun {x m G} ⟨ea,en,he,he2,ge⟩=>⟨ea,en,by rw [Zaj (fun z=>by rw [z,tab9.1] at he; cases he)]; exact he,by rw [Zaj (fun z=>by rw [z,tab9.1] at he2; cases he2)]; exact he2,ge⟩
    rw [tk1] at hz
    obtain ⟨f',ef'⟩:∃ f':Rc→Int,f'=fun z=>if z=t.2 then bestR g t.2 (uncutF ks fl t.2) else g z:=⟨_,rfl⟩
    have fo:∀ r:Rc,r∈(ts'.map (·.2)).take i→g r=f' r:=fun r hr=>by rw [ef']; exact (if_neg (fun z:r=t.2=>notin (z ▸ hr))).symm
    have fn:f' t.2=bestR g t.2 (uncutF ks fl t.2):=by rw [ef']; exact if_pos rfl
    show Cho _ (if z=t.2 then c3 else ad z) ((fun z=>if z=t.2 then bestR g t.2 (uncutF ks fl t.2) else g z) z) (GR ks fl (fun z=>if z=t.2 then bestR g t.2 (uncutF ks fl t.2) else g z) z ((fun z=>if z=t.2 then bestR g t.2 (uncutF ks fl t.2) else g z) z))
    rw [← ef']
    rcases List.mem_append.mp hz with hz | hz
    ·have ne:z≠t.2:=fun e=>notin (e ▸ hz)
     rw [if_neg ne,← fo z hz]
     exact dne ((tab9.2 z hz).imp fun e ge=>gr_congr (fun c hc=>⟨fo _ ((good z hz).2 c hc).1,fo _ ((good z hz).2 c hc).2⟩) ge)
    ·have e:z=t.2:=List.mem_singleton.mp hz
     subst e
     rw [if_pos rfl,fn]
     exact dne (hc3.imp fun e ge=>gr_congr (fun c hc=>⟨fo _ (parts c hc).1,fo _ (parts c hc).2⟩) ge)
   ·have old:∀ r:Rc,r∈(ts'.map (·.2)).take i→(if r=t.2 then bestR g t.2 (uncutF ks fl t.2) else g r)=g r:=fun r hr=>if_neg (fun z:r=t.2=>notin (z ▸ hr))
    have cong:∀ r:Rc,(∀ c∈cutsL (wR r) (hR r),pA r c∈(ts'.map (·.2)).take i∧pB r c∈(ts'.map (·.2)).take i)→∀ m,bestR g r m=bestR (fun z=>if z=t.2 then bestR g t.2 (uncutF ks fl t.2) else g z) r m:=fun r hr m=>Zk5 fun c hc=>⟨(old _ (hr c hc).1).symm,(old _ (hr c hc).2).symm⟩
    rw [tk1] at hz ⊢
    rcases List.mem_append.mp hz with hz | hz
    ·obtain ⟨g1,g2⟩:=good z hz
     refine ⟨?_,fun c hc=>⟨List.mem_append_left _ (g2 c hc).1,List.mem_append_left _ (g2 c hc).2⟩⟩
     show (if z=t.2 then bestR g t.2 (uncutF ks fl t.2) else g z)=bestR (fun z=>if z=t.2 then bestR g t.2 (uncutF ks fl t.2) else g z) z (uncutF ks fl z)
     rw [old z hz,← cong z g2]
     exact g1
    ·have e:z=t.2:=List.mem_singleton.mp hz
     subst e
     refine ⟨?_,fun c hc=>⟨List.mem_append_left _ (parts c hc).1,List.mem_append_left _ (parts c hc).2⟩⟩
     show (if t.2=t.2 then bestR g t.2 (uncutF ks fl t.2) else g t.2)=bestR (fun z=>if z=t.2 then bestR g t.2 (uncutF ks fl t.2) else g z) t.2 (uncutF ks fl t.2)
     rw [if_pos rfl,← cong t.2 parts]
  ·rintro σ H7 ⟨⟨y,rfl⟩,s7,ad,g,tab,good⟩
   have e:(ts'.map (·.2)).take (refs ts').length=ts'.map (·.2):=by rw [Zav,← List.length_map (f:=fun x:Addr × Rc=>x.2) (as:=ts'),List.take_length]
   rw [e] at tab good
   exact ⟨_,rfl,q d _ ad g H7 (s7.same s06 nd0) nd0 tab nd' (by rw [List.length_map]; exact len') mem' fun p hp=>(good p ((mem' p).mpr hp)).1⟩
theorem Zge:Zap ["width","height","kinds","flaws"] ["width","height","kinds","flaws"] (Zac Zbh):=⟨rfl,rfl,rfl,by decide +kernel,rfl,by decide +kernel,by decide +kernel⟩
theorem Ze8 {f:Addr} {fd:FuncData} (F:Fun K "flawed_worths" "flawed_worths" Zbh f fd) (D_choices_by_piece:DefOk P w K mg base 5 "choices_by_piece" ["width","height","kinds","flaws"] sp_chR) (D_worths_in:DefOk P w K mg base 1 "worths_in" ["choices"] sp_inR):FnOk P w K mg base CX0 6 f fd ["width","height","kinds","flaws"] sp_fw:=by
 have S:=Zge
 refine F.ok S (fun vs H Q E h=>?_) (fun cdv A outer s H vs Q E hr h=>?_)
 ·obtain ⟨w,h,b,e,ks,fl,rfl,_⟩:=h; rfl
 ·obtain ⟨w,h,b,e,ks,fl,rfl,w1,w2,h1,h2,hk,few,ok,hfl,flok,q⟩:=h
  refine ⟨_,(Zag (Zaq (Zax D_worths_in hr (Zaa (Zax D_choices_by_piece hr (Zaa (pv 0) (Zaa (pv 1) (Zaa (pv 2) (Zaa (pv 3) Zad))))) Zad)))),?_⟩
  exact ⟨_,rfl,_,rfl,_,rfl,_,rfl,w,h,b,e,ks,fl,rfl,w1,w2,h1,h2,hk,few,ok,hfl,flok,fun d L ad g H1 s1 nd tab nL lL mL good=>⟨ks,fl,d,L,ad,g,rfl,tab,nL,lL,fun c H2 s2 nc hc=>q c L g H2 (s2.same s1 nd) (Zd0 s1 nc) hc nL lL mL good⟩⟩
abbrev N_clear:List Str:=["_law_block","_law_flaws","_law_top","_law_left","_law_bottom","_law_right","_law_row","_law_column"]
theorem Zld:Zap N_clear ["_law_block","_law_flaws"] (Zac Zcc):=⟨rfl,rfl,rfl,by decide +kernel,rfl,by decide +kernel,by decide +kernel⟩
theorem Zi9 {f:Addr} {fd:FuncData} (F:Fun K "_law_clear" "_law_clear" Zcc f fd):FnOk P w K mg base CX0 1 f fd ["_law_block","_law_flaws"] Zfa:=by
 have S:=Zld
 refine F.ok S (fun vs H Q E h=>?_) (fun cdv A outer s H vs Q E hr h=>?_)
 ·obtain ⟨a,b,p,fl,rfl,_⟩:=h; rfl
 ·obtain ⟨a,b,p,fl,rfl,ha,⟨ts,eb,hb,mb⟩,few,q⟩:=h
  refine ⟨_,(Zaf (ps_asg (pv 0) (Zdl rfl (Zat (Zan (i:=2) S.nd rfl (Or.inl rfl)) (Zat (Zan (i:=3) S.nd rfl (Or.inl rfl)) (Zat (Zan (i:=4) S.nd rfl (Or.inl rfl)) (Zat (Zan (i:=5) S.nd rfl (Or.inl rfl)) Zcv))))))
   (Zaf (Zcj PassesOwn.never rfl (Zdk (pv 1)) (Zdl rfl (Zat (Zan (i:=6) S.nd rfl (Or.inl rfl)) (Zat (Zan (i:=7) S.nd rfl (Or.inl rfl)) Zcv))) (Zag (Zbi (PW.pt (Ziz (Zhs Zfr Zht (pv 2) (pv 6) (pv 4)) (Zfn (Zhs Zfr Zht (pv 3) (pv 7) (pv 5))))) (Zag (Zaq Zer)) Zas)))
   (Zag (Zaq Zer)))),?_⟩
  refine ⟨_,rfl,a,_,rfl,SqT.of ha,rfl,_,_,rfl,_,_,rfl,_,_,rfl,_,_,rfl,rfl,?_⟩
  refine ⟨_,rfl,b,rfl,⟨_,SqL.of eb⟩,Zeh (K:=K) (a:=b) (xs:=refs ts) (fun i σ H'=>(∃ x y,σ=[some (.ref a),some (.ref b),some (.int p.1),some (.int p.2.1),some (.int p.2.2.1),some (.int p.2.2.2),x,y])∧H'=H∧∀ s∈fl.take i,hitB s p=false) ⟨⟨none,none,rfl⟩,rfl,fun s hs=>nomatch hs⟩ (fun i σ H' _ hp=>by rw [hp.2.1]; exact SqL.of eb) ?_ ?_⟩
  ·rintro i x σ H' hx ⟨⟨x6,x7,rfl⟩,rfl,ok⟩
   obtain ⟨u,hui,rfl⟩:=Zct hx
   have um:=List.mem_of_getElem? hui
   have uf:u.2∈fl:=by rw [← mb]; exact List.mem_map.mpr ⟨u,um,rfl⟩
   have tk1:fl.take (i+1)=fl.take i++[u.2]:=by rw [← mb,List.take_succ,List.getElem?_map,hui]; rfl
   have on:hitB u.2 p=false→∀ s∈fl.take (i+1),hitB s p=false:=fun e s hs=>by
    rw [tk1] at hs
    rcases List.mem_append.mp hs with hs | hs
    ·exact ok s hs
    ·rw [List.mem_singleton.mp hs]; exact e
   refine ⟨u.1,_,rfl,SqT.of (hb u um),rfl,_,_,rfl,_,_,rfl,rfl,?_⟩
   refine ⟨_,rfl,_,rfl,_,_,rfl,rfl,_,rfl,ite3 (fun c1=>?_) (fun c1=>⟨_,rfl,iteF ⟨⟨_,_,rfl⟩,rfl,on ?_⟩⟩)⟩
   ·refine ⟨_,rfl,_,_,rfl,rfl,_,rfl,ite3 (fun c2=>?_) (fun c2=>⟨⟨_,_,rfl⟩,rfl,on ?_⟩)⟩
    ·refine ⟨_,rfl,_,rfl,_,_,rfl,rfl,_,rfl,ite3 (fun c3=>?_) (fun c3=>⟨_,rfl,iteF ⟨⟨_,_,rfl⟩,rfl,on ?_⟩⟩)⟩
     ·refine ⟨_,rfl,_,_,rfl,rfl,_,rfl,ite3 (fun c4=>?_) (fun c4=>⟨⟨_,_,rfl⟩,rfl,on ?_⟩)⟩
      ·have e:foul fl p=true:=by
        unfold foul
        refine List.any_eq_true.mpr ⟨u.2,uf,?_⟩
        unfold hitB
        replace c1:decide (p.1≤u.2.1)=true:=c1
        replace c2:decide (u.2.1 < p.2.2.1)=true:=c2
        replace c3:decide (p.2.1≤u.2.2)=true:=c3
        replace c4:decide (u.2.2 < p.2.2.2)=true:=c4
        rw [c1,c2,c3,c4]; rfl
       rw [e] at q
       exact q
      ·replace c4:decide (u.2.2 < p.2.2.2)=false:=c4
       unfold hitB
       rw [c4,Bool.and_false,Bool.and_false]
     ·replace c3:decide (p.2.1≤u.2.2)=false:=c3
      unfold hitB
      rw [c3,Bool.false_and,Bool.and_false]
    ·replace c2:decide (u.2.1 < p.2.2.1)=false:=c2
     unfold hitB
     rw [c2,Bool.and_false,Bool.false_and]
   ·replace c1:decide (p.1≤u.2.1)=false:=c1
    unfold hitB
    rw [c1,Bool.false_and,Bool.false_and]
  ·rintro σ H' ⟨_,rfl,ok⟩
   have e:fl.take (refs ts).length=fl:=by rw [Zav,← List.length_map (f:=fun x:Addr × Int × Int=>x.2) (as:=ts),mb,List.take_length]
   rw [e] at ok
   rw [foul_iff.mpr ok] at q
   exact q
theorem cut_ints4 (ns:List Int) (m:Int) (m0:0≤m) (m1:m≤8):∃ cs:List Int,cutV (ns.map V.int) (some 4) (some (4+m))=cs.map V.int∧cs.length≤8:=by
 unfold cutV
 refine ⟨(ns.drop (HT.sIx (ns.map V.int).length 0 (some 4))).take (HT.sIx (ns.map V.int).length (ns.map V.int).length (some (4+m)) - HT.sIx (ns.map V.int).length 0 (some 4)),by rw [← List.map_drop,← List.map_take],?_⟩
 rw [List.length_take,List.length_drop,List.length_map]
 unfold HT.sIx
 simp only []
 rw [if_neg (by lia),if_neg (by lia)]
 show min (min (4+m).toNat ns.length - min 4 ns.length) _≤8
 lia
theorem KindsAt.sameR {H H':Hp} {d b:Addr} {ks:List Kind} {kvs:List (List Key × V)} (h:KindsAt H b ks) (e:Rd H d (.dT kvs)) (s:SameX d H H'):KindsAt H' b ks:=by
 obtain ⟨ts,h1,h2,h3⟩:=h
 refine ⟨ts,s _ _ (fun z=>?_) h1,fun t ht=>s _ _ (fun z=>?_) (h2 t ht),h3⟩
 ·rw [z] at h1
  rcases e with e | ⟨o,e⟩ <;> · rw [e] at h1; cases h1
 ·have:=h2 t ht
  rw [z] at this
  rcases e with e | ⟨o,e⟩ <;> · rw [e] at this; cases this
theorem SizesAt.sameR {H H':Hp} {d b:Addr} {ks:List (Int × Int)} {kvs:List (List Key × V)} (h:SizesAt H b ks) (e:Rd H d (.dT kvs)) (s:SameX d H H'):SizesAt H' b ks:=by
 obtain ⟨ts,h1,h2,h3⟩:=h
 refine ⟨ts,s _ _ (fun z=>?_) h1,fun t ht=>s _ _ (fun z=>?_) (h2 t ht),h3⟩
 ·rw [z] at h1
  rcases e with e | ⟨o,e⟩ <;> · rw [e] at h1; cases h1
 ·have:=h2 t ht
  rw [z] at this
  rcases e with e | ⟨o,e⟩ <;> · rw [e] at this; cases this
def cutC (cU cL:Addr) (u:Bool):Addr:=if u then cU else cL
abbrev wF (m:V):List (Str × V):=putF "mark" m []
abbrev cF (k:Int) (vx vy:V):List (Str × V):=putF "other" vy (putF "first" vx (putF "at" (.int k) []))
def Obj (cW cU cL:Addr) (H:Hp):Tr→V→Prop
 | .whole m,v=>∃ a dx,v=.ref a∧H a=some (.ins cW dx (wF (markV m)))
 | .cut u k x y,v=>∃ a dx vx vy,v=.ref a∧H a=some (.ins (cutC cU cL u) dx (cF k vx vy))∧Obj cW cU cL H x vx∧Obj cW cU cL H y vy
theorem Obj.same {H H':Hp} (s:Same H H'):∀ {t:Tr} {v:V},Obj cW cU cL H t v→Obj cW cU cL H' t v
 | .whole m,v,h=>by
  rw [Obj] at h ⊢
  obtain ⟨a,dx,e,h⟩:=h
  exact ⟨a,dx,e,s _ _ h⟩
 | .cut u k x y,v,h=>by
  rw [Obj] at h ⊢
  obtain ⟨a,dx,vx,vy,e,h,h1,h2⟩:=h
  exact ⟨a,dx,vx,vy,e,s _ _ h,Obj.same s h1,Obj.same s h2⟩
structure RT (mg:Str→Option Value) (K:PySem.W.Frag) (cT cW cU cL:Addr):Prop where
 g_Tree:mg "Tree"=some (.ref cT)
 g_Whole:mg "Whole"=some (.ref cW)
 g_Upright:mg "Upright"=some (.ref cU)
 g_Level:mg "Level"=some (.ref cL)
 iW:ICls K cW
 iC:∀ u,ICls K (cutC cU cL u)
 n_mark:NoAttr K cW "mark"
 n_at:∀ u,NoAttr K (cutC cU cL u) "at"
 n_first:∀ u,NoAttr K (cutC cU cL u) "first"
 n_other:∀ u,NoAttr K (cutC cU cL u) "other"
 kWW:PySem.W.kitOne K (.ref cW) (.ref cW)=some true
 kWC:∀ u,PySem.W.kitOne K (.ref cW) (.ref (cutC cU cL u))=some false
 kCW:∀ u,PySem.W.kitOne K (.ref (cutC cU cL u)) (.ref cW)=some false
 kCC:∀ u v,PySem.W.kitOne K (.ref (cutC cU cL u)) (.ref (cutC cU cL v))=some (u == v)
 kWT:PySem.W.kitOne K (.ref cW) (.ref cT)=some true
 kCT:∀ u,PySem.W.kitOne K (.ref (cutC cU cL u)) (.ref cT)=some true
def sp_iW (C:Addr):Sp:=fun vs H Q _=>∃ (a dx:Addr) (m:V),vs=[.ref a,m]∧H a=some (.ins C dx [])∧Q .non (upd H a (.ins C dx (wF m)))
def sp_iC (C:Addr):Sp:=fun vs H Q _=>∃ (a dx:Addr) (k:Int) (vx vy:V),vs=[.ref a,.int k,vx,vy]∧H a=some (.ins C dx [])∧∀ H',SameX a H H'→H' a=some (.ins C dx (cF k vx vy))→Q .non H'
theorem Zjx:Zap ["self","mark"] ["self","mark"] (Zac Zcd):=⟨rfl,rfl,rfl,by decide +kernel,rfl,by decide +kernel,by decide +kernel⟩
theorem Zhw {f:Addr} {fd:FuncData} (F:FunD K "__init__" "Whole.__init__" Zcd f fd) (R:RT mg K cT cW cU cL):FnOk P w K mg base CX0 1 f fd ["self","mark"] (sp_iW cW):=by
 have S:=Zjx
 refine F.ok S (fun vs H Q E h=>?_) (fun cdv A outer s H vs Q E hr h=>?_)
 ·obtain ⟨a,dx,m,rfl,_⟩:=h; rfl
 ·obtain ⟨a,dx,m,rfl,ha,q⟩:=h
  refine ⟨_,(Zag (Zfo (pv 0) (pv 1) rfl)),?_⟩
  exact ⟨_,rfl,_,rfl,a,cW,dx,_,rfl,ha,R.iW.cl,R.n_mark,(by show 0 < 1000; decide),q⟩
theorem Zgv:Zap ["self","at","first","other"] ["self","at","first","other"] (Zac Zbr):=⟨rfl,rfl,rfl,by decide +kernel,rfl,by decide +kernel,by decide +kernel⟩
theorem Zfv {f:Addr} {fd:FuncData} (F:Fun K "__init__" "Upright.__init__" Zbr f fd) (R:RT mg K cT cW cU cL):FnOk P w K mg base CX0 1 f fd ["self","at","first","other"] (sp_iC cU):=by
 have S:=Zgv
 refine F.ok S (fun vs H Q E h=>?_) (fun cdv A outer s H vs Q E hr h=>?_)
 ·obtain ⟨a,dx,k,vx,vy,rfl,_⟩:=h; rfl
 ·obtain ⟨a,dx,k,vx,vy,rfl,ha,q⟩:=h
  refine ⟨_,(Zaf (Zfo (pv 0) (pv 1) rfl)
   (Zaf (Zfo (pv 0) (pv 2) rfl)
   (Zag (Zfo (pv 0) (pv 3) rfl)))),?_⟩
  refine ⟨_,rfl,_,rfl,a,cU,dx,_,rfl,ha,(R.iC true).cl,R.n_at true,(by show 0 < 1000; decide),?_⟩
  refine ⟨_,rfl,_,rfl,a,cU,dx,_,rfl,Zab,(R.iC true).cl,R.n_first true,(by show 1 < 1000; decide),?_⟩
  refine ⟨_,rfl,_,rfl,a,cU,dx,_,rfl,Zab,(R.iC true).cl,R.n_other true,(by show 2 < 1000; decide),?_⟩
  exact q _ ((SameX.upd.trans SameX.upd).trans SameX.upd) Zab
theorem Zjy:Zap ["self","at","first","other"] ["self","at","first","other"] (Zac Zce):=⟨rfl,rfl,rfl,by decide +kernel,rfl,by decide +kernel,by decide +kernel⟩
theorem Zhx {f:Addr} {fd:FuncData} (F:Fun K "__init__" "Level.__init__" Zce f fd) (R:RT mg K cT cW cU cL):FnOk P w K mg base CX0 1 f fd ["self","at","first","other"] (sp_iC cL):=by
 have S:=Zjy
 refine F.ok S (fun vs H Q E h=>?_) (fun cdv A outer s H vs Q E hr h=>?_)
 ·obtain ⟨a,dx,k,vx,vy,rfl,_⟩:=h; rfl
 ·obtain ⟨a,dx,k,vx,vy,rfl,ha,q⟩:=h
  refine ⟨_,(Zaf (Zfo (pv 0) (pv 1) rfl)
   (Zaf (Zfo (pv 0) (pv 2) rfl)
   (Zag (Zfo (pv 0) (pv 3) rfl)))),?_⟩
  refine ⟨_,rfl,_,rfl,a,cL,dx,_,rfl,ha,(R.iC false).cl,R.n_at false,(by show 0 < 1000; decide),?_⟩
  refine ⟨_,rfl,_,rfl,a,cL,dx,_,rfl,Zab,(R.iC false).cl,R.n_first false,(by show 1 < 1000; decide),?_⟩
  refine ⟨_,rfl,_,rfl,a,cL,dx,_,rfl,Zab,(R.iC false).cl,R.n_other false,(by show 2 < 1000; decide),?_⟩
  exact q _ ((SameX.upd.trans SameX.upd).trans SameX.upd) Zab
theorem Zfx {H:Hp} {x dx:Addr} {o1 o2:HO} (hx:H x=none) (hd:H dx=none):Same H (upd (upd H dx o1) x o2):=fun b o e=>by
 rw [Zaj (Zah e hx),Zaj (Zah e hd)]; exact e
theorem fW (m:V):(wF m).lookup ("mark":Str)=some m:=by rw [Zbk,if_pos rfl]
theorem fC_at (k:Int) (vx vy:V):(cF k vx vy).lookup ("at":Str)=some (.int k):=by rw [Zbk,if_neg (by decide +kernel),Zbk,if_neg (by decide +kernel),Zbk,if_pos rfl]
theorem fC_first (k:Int) (vx vy:V):(cF k vx vy).lookup ("first":Str)=some vx:=by rw [Zbk,if_neg (by decide +kernel),Zbk,if_pos rfl]
theorem fC_other (k:Int) (vx vy:V):(cF k vx vy).lookup ("other":Str)=some vy:=by rw [Zbk,if_pos rfl]
theorem refU {C:Addr}:∀ u',RelV (.ref C) u'→u'=.ref C:=fun _ z=>z
def ents:Tr→List En
 | .whole m=>[.w m]
 | .cut u k x y=>.c u k :: (ents x++ents y)
def Tr.nd:Tr→Nat
 | .whole _=>1
 | .cut _ _ x y=>x.nd+y.nd+1
theorem Zei:∀ t:Tr,(ents t).length=t.nd
 | .whole _=>rfl
 | .cut _ _ x y=>by rw [ents,List.length_cons,List.length_append,Zei x,Zei y]; rfl
theorem nd_pos:∀ t:Tr,0 < t.nd
 | .whole _=>Nat.one_pos
 | .cut _ _ x y=>Nat.succ_pos _
def Kp (H H':Hp):Prop:=∀ b o,H b=some o→(∀ xs,o≠.lst xs)→H' b=some o
theorem Zkt {H H':Hp} (s:Same H H'):Kp H H':=fun b o e _=>s b o e
theorem Kp.trans {H H1 H2:Hp} (a:Kp H H1) (b:Kp H1 H2):Kp H H2:=fun c o e n=>b c o (a c o e n) n
theorem Kp.put {H:Hp} {l:Addr} {xs ys:List V} (h:H l=some (.lst xs)):Kp H (upd H l (.lst ys)):=fun b o e n=>by
 rw [Zaj (ne_of e h (n xs))]; exact e
theorem Obj.kp {H H':Hp} (s:Kp H H'):∀ {t:Tr} {v:V},Obj cW cU cL H t v→Obj cW cU cL H' t v
 | .whole m,v,h=>by
  rw [Obj] at h ⊢
  obtain ⟨a,dx,e,h⟩:=h
  exact ⟨a,dx,e,s _ _ h (by intro xs z; cases z)⟩
 | .cut u k x y,v,h=>by
  rw [Obj] at h ⊢
  obtain ⟨a,dx,vx,vy,e,h,h1,h2⟩:=h
  exact ⟨a,dx,vx,vy,e,s _ _ h (by intro xs z; cases z),Obj.kp s h1,Obj.kp s h2⟩
def EnsAt (H:Hp):List V→List En→Prop
 | [],[]=>True
 | v :: r,e :: q=>(∃ a,v=.ref a∧H a=some (.tup (enV e)))∧EnsAt H r q
 | _,_=>False
theorem EnsAt.kp {H H':Hp} (s:Kp H H'):∀ {vs:List V} {es:List En},EnsAt H vs es→EnsAt H' vs es
 | [],[],_=>trivial
 | v :: r,e :: q,h=>⟨let ⟨a,b,c⟩:=h.1; ⟨a,b,s _ _ c (by intro xs z; cases z)⟩,EnsAt.kp s h.2⟩
 | [],_ :: _,h=>h
 | _ :: _,[],h=>h
theorem EnsAt.snoc {H:Hp} {a:Addr} {e:En} (ha:H a=some (.tup (enV e))):∀ {vs:List V} {es:List En},EnsAt H vs es→EnsAt H (vs++[.ref a]) (es++[e])
 | [],[],_=>⟨⟨a,rfl,ha⟩,trivial⟩
 | v :: r,e' :: q,h=>⟨h.1,EnsAt.snoc ha h.2⟩
 | [],_ :: _,h=>h.elim
 | _ :: _,[],h=>h.elim
theorem EnsAt.len {H:Hp}:∀ {vs:List V} {es:List En},EnsAt H vs es→vs.length=es.length
 | [],[],_=>rfl
 | v :: r,e' :: q,h=>by rw [List.length_cons,List.length_cons,EnsAt.len h.2]
 | [],_ :: _,h=>h.elim
 | _ :: _,[],h=>h.elim
theorem EnsAt.get {H:Hp}:∀ {vs:List V} {es:List En} {i:Nat} {v:V},EnsAt H vs es→vs[i]?=some v→∃ e a,es[i]?=some e∧v=.ref a∧H a=some (.tup (enV e))
 | v :: r,e :: q,0,_,h,hv=>by
  cases hv
  obtain ⟨a,b,c⟩:=h.1
  exact ⟨e,a,rfl,b,c⟩
 | v :: r,e :: q,i+1,_,h,hv=>EnsAt.get (i:=i) h.2 hv
 | [],[],_,_,_,hv=>by cases hv
 | [],_ :: _,_,_,h,_=>h.elim
 | _ :: _,[],_,_,h,_=>h.elim
def flat (ws:List (V × Tr)):List En:=ws.reverse.flatMap fun p=>ents p.2
theorem Zc4 (ws:List (V × Tr)) (p:V × Tr):flat (ws++[p])=ents p.2++flat ws:=by
 unfold flat
 rw [List.reverse_append,List.reverse_singleton,List.singleton_append,List.flatMap_cons]
def cnt (ws:List (V × Tr)):Nat:=(ws.map fun p=>p.2.nd).sum
theorem Zej (ws:List (V × Tr)) (p:V × Tr):cnt (ws++[p])=cnt ws+p.2.nd:=by
 unfold cnt
 rw [List.map_append,List.sum_append,List.map_singleton,List.sum_singleton]
theorem Zk2:∀ ws:List (V × Tr),ws.length≤cnt ws
 | []=>Nat.le_refl 0
 | p :: r=>by
  have:=Zk2 r
  have:=nd_pos p.2
  show r.length+1≤p.2.nd+cnt r
  lia
theorem Zf5 (p:V × Tr) (r:List (V × Tr)):flat (p :: r)=flat r++ents p.2:=by
 unfold flat
 rw [List.reverse_cons,List.flatMap_append,List.flatMap_cons,List.flatMap_nil,List.append_nil]
theorem Zh7:∀ ws:List (V × Tr),(flat ws).length=cnt ws
 | []=>rfl
 | p :: r=>by
  rw [Zf5,List.length_append,Zei,Zh7 r]
  show _=p.2.nd+cnt r
  lia
theorem Zep {α:Type} (ws:List α):ws=[]∨∃ ws0 p,ws=ws0++[p]:=by
 by_cases h:ws=[]
 ·exact .inl h
 ·exact .inr ⟨ws.dropLast,ws.getLast h,(List.dropLast_concat_getLast h).symm⟩
theorem last_map {ws0:List (V × Tr)} {p:V × Tr}:((ws0++[p]).map (·.1))[((ws0++[p]).map (·.1)).length - 1]?=some p.1:=by
 rw [List.length_map,List.length_append,List.length_singleton,Nat.add_sub_cancel,List.getElem?_map,List.getElem?_append_right (Nat.le_refl _),Nat.sub_self]; rfl
theorem drop_map {ws0:List (V × Tr)} {p:V × Tr}:((ws0++[p]).map (·.1)).dropLast=ws0.map (·.1):=by rw [List.map_append,List.map_singleton,List.dropLast_concat]
def wt:En→Int
 | .w _=>1
 | .c _ _=>-1
def wts (es:List En):Int:=(es.map wt).sum
theorem Zj1 (a b:List En):wts (a++b)=wts a+wts b:=by
 unfold wts
 rw [List.map_append,List.sum_append]
theorem wts_cons (e:En) (b:List En):wts (e :: b)=wt e+wts b:=by
 unfold wts
 rw [List.map_cons,List.sum_cons]
theorem Zds:∀ t:Tr,wts (ents t)=1
 | .whole _=>rfl
 | .cut u k x y=>by
  rw [ents,wts_cons,Zj1,Zds x,Zds y]; rfl
theorem Zhc:∀ ws:List (V × Tr),wts (flat ws)=ws.length
 | []=>rfl
 | p :: r=>by rw [Zf5,Zj1,Zds,Zhc r,List.length_cons]; lia
theorem Zj0:∀ (t:Tr) (a b:List En),ents t=a++b→b≠[]→1≤wts b
 | .whole m,a,b,h,hb=>by
  have h:[En.w m]=a++b:=h
  cases a with
  | nil=>rw [List.nil_append] at h; rw [← h]; exact Int.le_refl 1
  | cons e r =>
   have:=congrArg List.length h
   simp only [List.length_append,List.length_cons,List.length_nil] at this
   exact absurd (List.length_eq_zero_iff.mp (by lia)) hb
 | .cut u k x y,a,b,h,hb=>by
  cases a with
  | nil =>
   rw [List.nil_append] at h
   rw [← h,Zds]
   decide
  | cons e r =>
   rw [ents,List.cons_append] at h
   have h2:=List.cons.inj h |>.2
   rcases List.append_eq_append_iff.mp h2 with ⟨c,hc,hd⟩ | ⟨c,hc,hd⟩
   ·exact Zj0 y c b hd hb
   ·rw [hd,Zj1,Zds]
    by_cases e:c=[]
    ·rw [e]; decide
    ·have:=Zj0 x r c hc e
     lia
theorem Zia:∀ (t t':Tr) (r r':List En),ents t++r=ents t'++r'→t=t'∧r=r'
 | .whole m,.whole m',r,r',h=>by
  have h:En.w m :: r=En.w m' :: r':=h
  injection h with h1 h2
  injection h1 with h1
  exact ⟨by rw [h1],h2⟩
 | .whole m,.cut u k x y,r,r',h=>by
  have h:En.w m :: r=En.c u k :: (ents x++ents y++r'):=h
  injection h with h1 _
  cases h1
 | .cut u k x y,.whole m,r,r',h=>by
  have h:En.c u k :: (ents x++ents y++r)=En.w m :: r':=h
  injection h with h1 _
  cases h1
 | .cut u k x y,.cut u' k' x' y',r,r',h=>by
  have h:En.c u k :: (ents x++ents y++r)=En.c u' k' :: (ents x'++ents y'++r'):=h
  injection h with h1 h2
  injection h1 with h3 h4
  rw [List.append_assoc,List.append_assoc] at h2
  obtain ⟨e1,h5⟩:=Zia x x' _ _ h2
  obtain ⟨e2,h6⟩:=Zia y y' _ _ h5
  exact ⟨by rw [h3,h4,e1,e2],h6⟩
def Zeo (cW cU cL:Addr):Sp:=fun vs H Q _=>∃ (u:Bool) (k:Int) (v1 v2:V) (y1 y2:Tr),vs=[.str (wd u),.int k,v1,v2]∧Obj cW cU cL H y1 v1∧Obj cW cU cL H y2 v2∧∀ v' H',Same H H'→Obj cW cU cL H' (.cut u k y1 y2) v'→Q v' H'
theorem S_cut_from:Zap ["word","at","first","other"] ["word","at","first","other"] (Zac Zc1):=⟨rfl,rfl,rfl,by decide +kernel,rfl,by decide +kernel,by decide +kernel⟩
theorem Zkp {f:Addr} {fd:FuncData} (F:Fun K "cut_from" "cut_from" Zc1 f fd) (T:Txt mg tk) (K_Upright:MkOk P w K mg base 1 "Upright" cU ["self","at","first","other"] (sp_iC cU)) (K_Level:MkOk P w K mg base 1 "Level" cL ["self","at","first","other"] (sp_iC cL)) :
  FnOk P w K mg base CX0 3 f fd ["word","at","first","other"] (Zeo cW cU cL):=by
 have S:=S_cut_from
 refine F.ok S (fun vs H Q E h=>?_) (fun cdv A outer s H vs Q E hr h=>?_)
 ·obtain ⟨u,k,v1,v2,y1,y2,rfl,_⟩:=h; rfl
 ·obtain ⟨u,k,v1,v2,y1,y2,rfl,o1,o2,q⟩:=h
  refine ⟨_,(Zaf (Zbi (Za0 Zgi (pv 0) (Zbf (v:=.str "upright") rfl T.g_UPRIGHT ⟨_,rfl⟩) (nomark _)) (Zag (Zaq (pe_mk K_Upright hr (Zaa (pv 1) (Zaa (pv 2) (Zaa (pv 3) Zad)))))) Zas)
   (Zag (Zaq (pe_mk K_Level hr (Zaa (pv 1) (Zaa (pv 2) (Zaa (pv 3) Zad))))))),?_⟩
  cases u with
  | true =>
   refine ⟨_,rfl,rfl,_,rfl,iteP (Zgw true true) ⟨_,rfl,_,rfl,_,rfl,fun x dx nx ndx nex=>⟨x,dx,k,v1,v2,rfl,Zab,fun H3 s3 e3=>⟨rfl,?_⟩⟩⟩⟩
   have s4:Same H H3:=fun b o e=>s3 b o (Zah e nx) (Zfx nx ndx b o e)
   exact q _ _ s4 (by rw [Obj]; exact ⟨x,dx,v1,v2,rfl,e3,o1.same s4,o2.same s4⟩)
  | false =>
   refine ⟨_,rfl,rfl,_,rfl,iteN (Zgw false true) ⟨_,rfl,_,rfl,_,rfl,fun x dx nx ndx nex=>⟨x,dx,k,v1,v2,rfl,Zab,fun H3 s3 e3=>⟨rfl,?_⟩⟩⟩⟩
   have s4:Same H H3:=fun b o e=>s3 b o (Zah e nx) (Zfx nx ndx b o e)
   exact q _ _ s4 (by rw [Obj]; exact ⟨x,dx,v1,v2,rfl,e3,o1.same s4,o2.same s4⟩)
def Zkb (K:PySem.W.Frag) (cW cU cL:Addr):Sp:=fun vs H Q _=>∃ (l:Addr) (xs:List V) (t:Tr),vs=[.ref l]∧SqL K H l xs∧EnsAt H xs (ents t)∧t.nd≤400∧∀ v' H',Same H H'→Obj cW cU cL H' t v'→Q v' H'
theorem Zk9:Zap ["entries","done","word","number","first","other"] ["entries"] (Zac Zcn):=⟨rfl,rfl,rfl,by decide +kernel,rfl,by decide +kernel,by decide +kernel⟩
theorem drop_last {es:List En} {i:Nat} {e:En} (hi:i < es.length) (h:es[es.length - 1 - i]?=some e):es.drop (es.length - (i+1))=e :: es.drop (es.length - i):=by
 have hk:es.length - 1 - i < es.length:=by lia
 rw [show es.length - (i+1)=es.length - 1 - i by lia,List.drop_eq_getElem_cons hk]
 rw [List.getElem?_eq_getElem hk] at h
 rw [Option.some.inj h,show es.length - 1 - i+1=es.length - i by lia]
theorem Zi5 {f:Addr} {fd:FuncData} (F:Fun K "tree_from" "tree_from" Zcn f fd) (T:Txt mg tk) (R:RT mg K cT cW cU cL) (K_Whole:MkOk P w K mg base 1 "Whole" cW ["self","mark"] (sp_iW cW)) (D_cut_from:DefOk P w K mg base 3 "cut_from" ["word","at","first","other"] (Zeo cW cU cL)) :
  FnOk P w K mg base CX0 4 f fd ["entries"] (Zkb K cW cU cL):=by
 have S:=Zk9
 refine F.ok S (fun vs H Q E h=>?_) (fun cdv A outer s H vs Q E hr h=>?_)
 ·obtain ⟨l,xs,t,rfl,_⟩:=h; rfl
 ·obtain ⟨l,xs,t,rfl,hl,hen,hn,q⟩:=h
  refine ⟨_,(Zaf (Zay (i:=1) S.nd rfl (Or.inl rfl) (Zck Zad))
   (Zaf (Zcj PassesOwn.never rfl (pi_revd rfl T.z_reversed (Zaa (pv 0) Zad)) (Zdl rfl (Zat (Zan (i:=2) S.nd rfl (Or.inl rfl)) (Zat (Zan (i:=3) S.nd rfl (Or.inl rfl)) Zcv))) (Zag (Zbi (Za0 Zgi (pv 2) (Zbf (v:=.str "whole") rfl T.g_WHOLE ⟨_,rfl⟩) (nomark _)) (Zag (Zb3 (Ze6 PySem.F.plainAttrs_list PySem.F.slot_list_append PySem.F.type_list_append Zbn (pv 1) (Zaa (pe_mk K_Whole hr (Zaa (pv 3) Zad)) Zad)))) (Zaf (Zay (i:=4) S.nd rfl (Or.inl rfl) (Zi1 PySem.F.plainAttrs_list PySem.F.slot_list_pop PySem.F.type_list_pop mt_pop (pv 1)))
   (Zaf (Zay (i:=5) S.nd rfl (Or.inl rfl) (Zi1 PySem.F.plainAttrs_list PySem.F.slot_list_pop PySem.F.type_list_pop mt_pop (pv 1)))
   (Zag (Zb3 (Ze6 PySem.F.plainAttrs_list PySem.F.slot_list_append PySem.F.type_list_append Zbn (pv 1) (Zaa (Zax D_cut_from hr (Zaa (pv 2) (Zaa (pv 3) (Zaa (pv 4) (Zaa (pv 5) Zad))))) Zad)))))))))
   (Zag (Zaq (Zi1 PySem.F.plainAttrs_list PySem.F.slot_list_pop PySem.F.type_list_pop mt_pop (pv 1)))))),?_⟩
  refine ⟨lenOk 0,fun ld hld=>⟨_,rfl,l,xs,rfl,(Same.new hld).seq hl,?_⟩⟩
  have hxl:=hen.len
  have hel:=Zei t
  refine for_rev (K:=K) (a:=l) (xs:=xs) (fun i σ H'=>∃ (ws:List (V × Tr)) (x2 x3 x4 x5:Option V),σ=[some (.ref l),some (.ref ld),x2,x3,x4,x5]∧Same H H'∧H' ld=some (.lst (ws.map (·.1)))∧(∀ p∈ws,Obj cW cU cL H' p.2 p.1)∧(ents t).drop ((ents t).length - i)=flat ws)
   ⟨[],_,_,_,_,rfl,Same.new hld,Zab,(fun p hp=>(nomatch hp)),by rw [Nat.sub_zero,List.drop_length]; rfl⟩ (fun i σ H' _ hp=>let ⟨_,_,_,_,_,_,s,_⟩:=hp; s.seq hl) ?_ ?_
  ·rintro i v σ H' hv hi ⟨ws,x2,x3,x4,x5,rfl,s1,hd,hob,heq⟩
   obtain ⟨e,a,he,rfl,ha⟩:=hen.get hv
   have ha':=s1 _ _ ha
   rw [hxl] at he hi
   have hdr:=drop_last hi he
   have wl:ws.length≤400:=by
    have h1:=Zk2 ws
    have h2:=Zh7 ws
    rw [← heq,List.length_drop] at h2
    lia
   cases e with
   | w m =>
    refine ⟨a,_,rfl,SqT.of ha',rfl,_,_,rfl,_,_,rfl,rfl,?_⟩
    refine ⟨_,rfl,rfl,_,rfl,iteP (decide_eq_true rfl) ?_⟩
    refine ⟨_,rfl,.inl ⟨rfl,_,SqL.of hd⟩,_,rfl,fun x dx nx ndx nex=>⟨x,dx,_,rfl,Zab,rfl,?_⟩⟩
    have s2:Same H' (upd (upd (upd H' dx (.own x)) x (.ins cW dx [])) x (.ins cW dx (wF (markV m)))):=fun b o e=>by
     rw [Zaj (Zah e nx)]; exact Zfx nx ndx b o e
    have e2:(upd (upd (upd H' dx (.own x)) x (.ins cW dx [])) x (.ins cW dx (wF (markV m)))) x=some (.ins cW dx (wF (markV m))):=Zab
    generalize upd (upd (upd H' dx (.own x)) x (.ins cW dx [])) x (.ins cW dx (wF (markV m)))=H2 at s2 e2 ⊢
    have d2:=s2 _ _ hd
    refine ⟨ld,_,.ref x,rfl,rfl,d2,Zar (by rw [List.length_map]; lia),?_⟩
    have k3:Kp H2 (upd H2 ld (.lst (ws.map (·.1)++[.ref x]))):=Kp.put d2
    refine ⟨ws++[(.ref x,.whole m)],_,_,_,_,rfl,fun b o e=>?_,?_,fun p hp=>?_,?_⟩
    ·rw [Zaj (Zah e hld)]; exact s2 b o (s1 b o e)
    ·rw [Zab,List.map_append]; rfl
    ·rcases List.mem_append.mp hp with hp | hp
     ·exact ((hob p hp).same s2).kp k3
     ·rw [List.mem_singleton.mp hp,Obj]; exact ⟨x,dx,rfl,k3 _ _ e2 (by intro xs z; cases z)⟩
    ·rw [hdr,heq,Zc4]; rfl
   | c u k =>
    have big:2≤ws.length:=by
     have h1:=Zj0 t ((ents t).take ((ents t).length - (i+1))) ((ents t).drop ((ents t).length - (i+1))) (List.take_append_drop _ _).symm (by rw [hdr]; intro z; cases z)
     rw [hdr,heq,wts_cons,Zhc] at h1
     have:wt (.c u k)=-1:=rfl
     lia
    obtain rfl | ⟨ws1,p1,rfl⟩:=Zep ws
    ·exact absurd big (by decide)
    obtain rfl | ⟨ws2,p2,rfl⟩:=Zep ws1
    ·exact absurd big (by simp)
    refine ⟨a,_,rfl,SqT.of ha',rfl,_,_,rfl,_,_,rfl,rfl,?_⟩
    refine ⟨_,rfl,rfl,_,rfl,iteN (wd_whole u) ?_⟩
    refine ⟨_,rfl,.inl ⟨rfl,_,SqL.of hd⟩,ld,_,p1.1,rfl,rfl,hd,last_map,?_⟩
    rw [drop_map]
    have k2:Kp H' (upd H' ld (.lst ((ws2++[p2]).map (·.1)))):=Kp.put hd
    have s2:Same H (upd H' ld (.lst ((ws2++[p2]).map (·.1)))):=fun b o e=>by rw [Zaj (Zah e hld)]; exact s1 b o e
    have d2:(upd H' ld (.lst ((ws2++[p2]).map (·.1)))) ld=some (.lst ((ws2++[p2]).map (·.1))):=Zab
    generalize upd H' ld (.lst ((ws2++[p2]).map (·.1)))=H2 at k2 s2 d2 ⊢
    refine ⟨_,rfl,.inl ⟨rfl,_,SqL.of d2⟩,ld,_,p2.1,rfl,rfl,d2,last_map,?_⟩
    rw [drop_map]
    have k3:Kp H2 (upd H2 ld (.lst (ws2.map (·.1)))):=Kp.put d2
    have s3:Same H (upd H2 ld (.lst (ws2.map (·.1)))):=fun b o e=>by rw [Zaj (Zah e hld)]; exact s2 b o e
    have d3:(upd H2 ld (.lst (ws2.map (·.1)))) ld=some (.lst (ws2.map (·.1))):=Zab
    generalize upd H2 ld (.lst (ws2.map (·.1)))=H3 at k3 s3 d3 ⊢
    have kk:=k2.trans k3
    refine ⟨_,rfl,.inl ⟨rfl,_,SqL.of d3⟩,_,rfl,_,rfl,_,rfl,_,rfl,u,k,p1.1,p2.1,p1.2,p2.2,rfl,(hob p1 (by simp)).kp kk,(hob p2 (by simp)).kp kk,fun v' H4 s4 o4=>?_⟩
    have d4:=s4 _ _ d3
    rw [List.length_append,List.length_append] at wl
    refine ⟨ld,_,v',rfl,rfl,d4,Zar (by rw [List.length_map]; lia),?_⟩
    have k5:Kp H4 (upd H4 ld (.lst (ws2.map (·.1)++[v']))):=Kp.put d4
    refine ⟨ws2++[(v',.cut u k p1.2 p2.2)],_,_,_,_,rfl,fun b o e=>?_,?_,fun p hp=>?_,?_⟩
    ·rw [Zaj (Zah e hld)]; exact s4 b o (s3 b o e)
    ·rw [Zab,List.map_append]; rfl
    ·rcases List.mem_append.mp hp with hp | hp
     ·exact ((((hob p (by simp [hp])).kp kk).same s4)).kp k5
     ·rw [List.mem_singleton.mp hp]; exact o4.kp k5
    ·rw [hdr,heq,Zc4,Zc4,Zc4]
     show .c u k :: (ents p1.2++(ents p2.2++flat ws2))=.c u k :: (ents p1.2++ents p2.2)++flat ws2
     rw [List.cons_append,List.append_assoc]
  ·rintro σ H' ⟨ws,x2,x3,x4,x5,rfl,s1,hd,hob,heq⟩
   rw [hxl,Nat.sub_self,List.drop_zero] at heq
   have one:ws.length=1:=by
    have h1:=Zds t
    rw [heq,Zhc] at h1
    lia
   obtain ⟨p,rfl⟩:∃ p,ws=[p]:=by
    match ws,one with
    | [p],_=>exact ⟨p,rfl⟩
   have hp:=hob p (by simp)
   have et:p.2=t:=by
    have h1:ents t++[]=ents p.2++[]:=by
     rw [List.append_nil,heq]; rfl
    exact (Zia _ _ _ _ h1).1.symm
   refine ⟨_,rfl,.inl ⟨rfl,_,SqL.of hd⟩,ld,_,p.1,rfl,rfl,hd,rfl,?_⟩
   rw [et] at hp
   exact q _ _ (fun b o e=>by rw [Zaj (Zah e hld)]; exact s1 b o e) (hp.kp (Kp.put hd))
theorem len1 {α:Type} {us:List α} (h:us.length=1):∃ a,us=[a]:=List.length_eq_one_iff.mp h
theorem len2 {α:Type} {us:List α} (h:us.length=2):∃ a b,us=[a,b]:=by
 cases us with
 | nil=>cases h
 | cons a r=>obtain ⟨b,rfl⟩:=len1 (Nat.succ.inj h); exact ⟨a,b,rfl⟩
theorem len3 {α:Type} {us:List α} (h:us.length=3):∃ a b c,us=[a,b,c]:=by
 cases us with
 | nil=>cases h
 | cons a r=>obtain ⟨b,c,rfl⟩:=len2 (Nat.succ.inj h); exact ⟨a,b,c,rfl⟩
theorem len4 {α:Type} {us:List α} (h:us.length=4):∃ a b c d,us=[a,b,c,d]:=by
 cases us with
 | nil=>cases h
 | cons a r=>obtain ⟨b,c,d,rfl⟩:=len3 (Nat.succ.inj h); exact ⟨a,b,c,d,rfl⟩
theorem Zil:Zap ["piece","word","at"] ["piece","word","at"] (Zac Zbx):=⟨rfl,rfl,rfl,by decide +kernel,rfl,by decide +kernel,by decide +kernel⟩
theorem Zgn {f:Addr} {fd:FuncData} (F:Fun K "first_piece" "first_piece" Zbx f fd) (T:Txt mg tk):FnOk P w K mg base CX0 1 f fd ["piece","word","at"] Ziu:=by
 have S:=Zil
 refine F.ok S (fun vs H Q E h=>?_) (fun cdv A outer s H vs Q E hr h=>?_)
 ·obtain ⟨a,p,u,k,rfl,_⟩:=h; rfl
 ·obtain ⟨a,p,u,k,rfl,ha,q⟩:=h
  refine ⟨_,(Zaf (Zbi (Za0 Zgi (pv 1) (Zbf (v:=.str "upright") rfl T.g_UPRIGHT ⟨_,rfl⟩) (nomark _)) (Zag (Zaq (Za3 (Zaa (Zao Zal (pv 0) Zae (fun _ _=>rfl)) (Zaa (Zao Zal (pv 0) Zae (fun _ _=>rfl)) (Zaa (Zao Zal (pv 0) Zae (fun _ _=>rfl)) (Zaa (Zaw Zbc (Zao Zal (pv 0) Zae (fun _ _=>rfl)) (pv 2)) Zad))))))) Zas)
   (Zag (Zaq (Za3 (Zaa (Zao Zal (pv 0) Zae (fun _ _=>rfl)) (Zaa (Zao Zal (pv 0) Zae (fun _ _=>rfl)) (Zaa (Zaw Zbc (Zao Zal (pv 0) Zae (fun _ _=>rfl)) (pv 2)) (Zaa (Zao Zal (pv 0) Zae (fun _ _=>rfl)) Zad)))))))),?_⟩
  cases u with
  | true=>exact ⟨_,rfl,rfl,_,rfl,iteP (Zgw true true) ⟨_,rfl,a,_,_,_,rfl,rfl,SqT.of ha,at0,_,rfl,a,_,_,_,rfl,rfl,SqT.of ha,at1,_,rfl,a,_,_,_,rfl,rfl,SqT.of ha,at2,_,rfl,a,_,_,_,rfl,rfl,SqT.of ha,at1,_,rfl,_,_,rfl,rfl,lenOk 4,q⟩⟩
  | false=>exact ⟨_,rfl,rfl,_,rfl,iteN (Zgw false true) ⟨_,rfl,a,_,_,_,rfl,rfl,SqT.of ha,at0,_,rfl,a,_,_,_,rfl,rfl,SqT.of ha,at1,_,rfl,a,_,_,_,rfl,rfl,SqT.of ha,at0,_,rfl,_,_,rfl,rfl,_,rfl,a,_,_,_,rfl,rfl,SqT.of ha,at3,lenOk 4,q⟩⟩
theorem Zii:Zap ["piece","word","at"] ["piece","word","at"] (Zac Zbv):=⟨rfl,rfl,rfl,by decide +kernel,rfl,by decide +kernel,by decide +kernel⟩
theorem Zgk {f:Addr} {fd:FuncData} (F:Fun K "other_piece" "other_piece" Zbv f fd) (T:Txt mg tk):FnOk P w K mg base CX0 1 f fd ["piece","word","at"] Zit:=by
 have S:=Zii
 refine F.ok S (fun vs H Q E h=>?_) (fun cdv A outer s H vs Q E hr h=>?_)
 ·obtain ⟨a,p,u,k,rfl,_⟩:=h; rfl
 ·obtain ⟨a,p,u,k,rfl,ha,q⟩:=h
  refine ⟨_,(Zaf (Zbi (Za0 Zgi (pv 1) (Zbf (v:=.str "upright") rfl T.g_UPRIGHT ⟨_,rfl⟩) (nomark _)) (Zag (Zaq (Za3 (Zaa (Zao Zal (pv 0) Zae (fun _ _=>rfl)) (Zaa (Zaw Zbc (Zao Zal (pv 0) Zae (fun _ _=>rfl)) (pv 2)) (Zaa (Zao Zal (pv 0) Zae (fun _ _=>rfl)) (Zaa (Zao Zal (pv 0) Zae (fun _ _=>rfl)) Zad))))))) Zas)
   (Zag (Zaq (Za3 (Zaa (Zaw Zbc (Zao Zal (pv 0) Zae (fun _ _=>rfl)) (pv 2)) (Zaa (Zao Zal (pv 0) Zae (fun _ _=>rfl)) (Zaa (Zao Zal (pv 0) Zae (fun _ _=>rfl)) (Zaa (Zao Zal (pv 0) Zae (fun _ _=>rfl)) Zad)))))))),?_⟩
  cases u with
  | true=>exact ⟨_,rfl,rfl,_,rfl,iteP (Zgw true true) ⟨_,rfl,a,_,_,_,rfl,rfl,SqT.of ha,at0,_,rfl,a,_,_,_,rfl,rfl,SqT.of ha,at1,_,rfl,_,_,rfl,rfl,_,rfl,a,_,_,_,rfl,rfl,SqT.of ha,at2,_,rfl,a,_,_,_,rfl,rfl,SqT.of ha,at3,lenOk 4,q⟩⟩
  | false=>exact ⟨_,rfl,rfl,_,rfl,iteN (Zgw false true) ⟨_,rfl,a,_,_,_,rfl,rfl,SqT.of ha,at0,_,rfl,_,_,rfl,rfl,_,rfl,a,_,_,_,rfl,rfl,SqT.of ha,at1,_,rfl,a,_,_,_,rfl,rfl,SqT.of ha,at2,_,rfl,a,_,_,_,rfl,rfl,SqT.of ha,at3,lenOk 4,q⟩⟩
def PsAt (H:Hp) (ws:List (Addr × Rk × Tr)):Prop:=∀ p∈ws,H p.1=some (.tup p.2.1.vs)
abbrev trs (ws:List (Addr × Rk × Tr)):List (V × Tr):=ws.map fun p=>(V.ref p.1,p.2.2)
abbrev prefs (ws:List (Addr × Rk × Tr)):List V:=ws.map fun p=>V.ref p.1
theorem PsAt.kp {H H':Hp} {ws:List (Addr × Rk × Tr)} (h:PsAt H ws) (k:Kp H H'):PsAt H' ws:=fun p hp=>k _ _ (h p hp) (by intro xs z; cases z)
theorem last_pref {ws0:List (Addr × Rk × Tr)} {p:Addr × Rk × Tr}:(prefs (ws0++[p]))[(prefs (ws0++[p])).length - 1]?=some (.ref p.1):=by
 rw [List.length_map,List.length_append,List.length_singleton,Nat.add_sub_cancel,List.getElem?_map,List.getElem?_append_right (Nat.le_refl _),Nat.sub_self]; rfl
theorem drop_pref {ws0:List (Addr × Rk × Tr)} {p:Addr × Rk × Tr}:(prefs (ws0++[p])).dropLast=prefs ws0:=by
 show (List.map (fun p=>V.ref p.1) (ws0++[p])).dropLast=_
 rw [List.map_append,List.map_singleton,List.dropLast_concat]
theorem Zc6 (ws:List (Addr × Rk × Tr)) (p:Addr × Rk × Tr):trs (ws++[p])=trs ws++[(V.ref p.1,p.2.2)]:=by
 show List.map (fun p=>(V.ref p.1,p.2.2)) (ws++[p])=_
 rw [List.map_append]; rfl
theorem Zi0 (ws:List (Addr × Rk × Tr)) (p:Addr × Rk × Tr):prefs (ws++[p])=prefs ws++[V.ref p.1]:=by
 show List.map (fun p=>V.ref p.1) (ws++[p])=_
 rw [List.map_append]; rfl
theorem none_of {H H':Hp} {l:Addr} (s:Same H H') (h:H' l=none):H l=none:=by
 cases e:H l with
 | none=>rfl
 | some o=>rw [s _ _ e] at h; cases h
theorem nd_sz:∀ t:Tr,t.nd+1=2 * t.sz
 | .whole _=>by rw [Tr.nd,Tr.sz]
 | .cut _ _ x y=>by have:=nd_sz x; have:=nd_sz y; rw [Tr.nd,Tr.sz]; lia
theorem fit0 {t:Tr} {ww hh:Int} (f:Fit t ww hh):FitR ⟨0,0,hh,ww⟩ t:=by
 show Fit t (ww - 0) (hh - 0)
 rw [Int.sub_zero,Int.sub_zero]; exact f
def laid (ks:List Kind) (p:Rk) (mk:Int):Bool:=match ks[mk.toNat]? with
 | some k=>ofK k (p.r - p.l) (p.b - p.t)
 | none=>false
def wrth (ks:List Kind) (mk:Int):Int:=match ks[mk.toNat]? with
 | some k=>k.2.2.1
 | none=>0
theorem kinds_at {H:Hp} {b:Addr} {ks:List Kind} (h:KindsAt H b ks):∃ xs,H b=some (.lst xs)∧xs.length=ks.length∧∀ mk:Int,0≤mk→mk < (ks.length:Int)→∃ (a:Addr) (k:Kind),atI xs mk=some (.ref a)∧H a=some (.tup [.int k.1,.int k.2.1,.int k.2.2.1,.bl k.2.2.2])∧ks[mk.toNat]?=some k:=by
 obtain ⟨ts,h1,h2,rfl⟩:=h
 refine ⟨_,h1,by rw [Zav,List.length_map],fun mk h0 hl=>?_⟩
 rw [List.length_map] at hl
 have hi:mk.toNat < ts.length:=by lia
 have e:=Zk6 (xs:=refs ts) (j:=mk.toNat) (v:=.ref ts[mk.toNat].1) (by unfold refs; rw [List.getElem?_map,List.getElem?_eq_getElem hi]; rfl)
 rw [Int.toNat_of_nonneg h0] at e
 exact ⟨ts[mk.toNat].1,ts[mk.toNat].2,e,h2 _ (List.getElem_mem hi),by rw [List.getElem?_map,List.getElem?_eq_getElem hi]; rfl⟩
def Zd9:Sp:=fun vs H Q _=>∃ i:Int,vs=[.int i]∧Q (.bl true) H
theorem Zla:Zap ["_law_found"] ["_law_found"] (Zac Zb8):=⟨rfl,rfl,rfl,by decide +kernel,rfl,by decide +kernel,by decide +kernel⟩
theorem Zi6 {f:Addr} {fd:FuncData} (F:Fun K "_law_whole" "_law_whole" Zb8 f fd) (T:Txt mg tk):FnOk P w K mg base CX0 1 f fd ["_law_found"] Zd9:=by
 have S:=Zla
 refine F.ok S (fun vs H Q E h=>?_) (fun cdv A outer s H vs Q E hr h=>?_)
 ·obtain ⟨i,rfl,_⟩:=h; rfl
 ·obtain ⟨i,rfl,q⟩:=h
  refine ⟨_,(Zag (Zaq (Zef (Za2 Zc5 rfl T.z_isinstance rfl (Zaa (pv 0) (Zaa (Zdp (v:=.ty "int") rfl T.z_int rfl rfl) Zad))) (Zed (pe_not (Za2 Zc5 rfl T.z_isinstance rfl (Zaa (pv 0) (Zaa (Zdp (v:=.ty "bool") rfl T.z_bool rfl rfl) Zad)))))))),?_⟩
  exact ⟨_,rfl,_,"int","int",rfl,rfl,.inl rfl,_,rfl,iteP (by decide) ⟨_,rfl,_,"int","bool",rfl,rfl,.inr (.inl rfl),_,rfl,q⟩⟩
def Zea (cW cU cL:Addr) (n:Nat):Sp:=fun vs H Q _=>∃ (v:V) (t:Tr),vs=[v]∧Obj cW cU cL H t v∧t.dp < n∧∀ v' H',Same H H'→Told H' t v'→Q v' H'
theorem ltold0 {vs:List V} {H:Hp} {Q:VK} {E:XK}:¬ Zea cW cU cL 0 vs H Q E:=by
 rintro ⟨v,t,_,_,h,_⟩
 lia
theorem Zhb:Zap ["_law_tree","_law_word","_law_first","_law_other"] ["_law_tree"] (Zac Zco):=⟨rfl,rfl,rfl,by decide +kernel,rfl,by decide +kernel,by decide +kernel⟩
theorem Zd7 {H:Hp} {t:Tr} {v:V} (h:Told H t v):decide (v=V.non)=false:=by
 cases t <;> rw [Told] at h
 ·obtain ⟨a,rfl,_⟩:=h; exact decide_eq_false (by intro z; cases z)
 ·obtain ⟨a,_,_,rfl,_⟩:=h; exact decide_eq_false (by intro z; cases z)
theorem Zkj {f:Addr} {fd:FuncData} {n:Nat} (F:Fun K "_law_told" "_law_told" Zco f fd) (T:Txt mg tk) (R:RT mg K cT cW cU cL) (D__law_whole:DefOk P w K mg base 1 "_law_whole" ["_law_found"] Zd9) (D__law_told:DefOk P w K mg base (n+3) "_law_told" ["_law_tree"] (Zea cW cU cL n)):FnOk P w K mg base CX0 (n+4) f fd ["_law_tree"] (Zea cW cU cL (n+1)):=by
 have S:=Zhb
 refine F.ok S (fun vs H Q E h=>?_) (fun cdv A outer s H vs Q E hr h=>?_)
 ·obtain ⟨v,t,rfl,_⟩:=h; rfl
 ·obtain ⟨v,t,rfl,ho,hd,q⟩:=h
  refine ⟨_,(Zaf (Zbi (Zbs (Za2 Zdx rfl T.z_isinstance rfl (Zaa (pv 0) (Zaa (Zbf (v:=.ref (cW)) rfl R.g_Whole rfl) Zad)))) (Zaf (Zbi (PW.pt (Ziz (Za0 op_notN (Zfq (pv 0) rfl) Zc7 (nomark _)) (Zfn (Zci (Zbs (Zax D__law_whole hr (Zaa (Zfq (pv 0) rfl) Zad) (by omega))))))) (Zag (Zaq Zc7)) Zas)
   (Zag (Zaq (Za3 (Zaa Zg3 (Zaa (Zfq (pv 0) rfl) Zad)))))) Zas)
   (Zaf (Zbi (PW.pt (Ziz (Zci (Zbs (Za2 Zdx rfl T.z_isinstance rfl (Zaa (pv 0) (Zaa (Zbf (v:=.ref (cU)) rfl R.g_Upright rfl) Zad))))) (Zfn (Zci (Zbs (Za2 Zdx rfl T.z_isinstance rfl (Zaa (pv 0) (Zaa (Zbf (v:=.ref (cL)) rfl R.g_Level rfl) Zad)))))))) (Zag (Zaq Zc7)) Zas)
   (Zaf (Zay (i:=1) S.nd rfl (Or.inl rfl) Zg3)
   (Zaf (Zbi (Zbs (Za2 Zdx rfl T.z_isinstance rfl (Zaa (pv 0) (Zaa (Zbf (v:=.ref (cU)) rfl R.g_Upright rfl) Zad)))) (Zag (Zay (i:=1) S.nd rfl (Or.inl rfl) Zg3)) Zas)
   (Zaf (Zay (i:=2) S.nd rfl (Or.inl rfl) (Zax D__law_told hr (Zaa (Zfq (pv 0) rfl) Zad) (by omega)))
   (Zaf (Zay (i:=3) S.nd rfl (Or.inl rfl) (Zax D__law_told hr (Zaa (Zfq (pv 0) rfl) Zad) (by omega)))
   (Zaf (Zbi (PW.pt (Zfm (Zci (Zbs (Zax D__law_whole hr (Zaa (Zfq (pv 0) rfl) Zad) (by omega)))) (Zfm (Za0 op_isN (pv 2) Zc7 (nomark _)) (Zdz (Za0 op_isN (pv 3) Zc7 (nomark _)))))) (Zag (Zaq Zc7)) Zas)
   (Zag (Zaq (Za3 (Zaa (pv 1) (Zaa (Zfq (pv 0) rfl) (Zaa (pv 2) (Zaa (pv 3) Zad)))))))))))))),?_⟩
  cases t with
  | whole m =>
   rw [Obj] at ho
   obtain ⟨x,dx,rfl,hx⟩:=ho
   refine ⟨_,rfl,x,cW,dx,_,_,.ref cW,true,rfl,hx,R.iW,rfl,refU,R.kWW,_,rfl,iteP rfl ?_⟩
   refine ⟨_,rfl,x,cW,dx,_,_,rfl,hx,R.iW.cl,R.n_mark,fW _,rfl,_,rfl,?_⟩
   have fin:∀ a,H a=none→Q (.ref a) (upd H a (.tup [.str "whole",markV m])):=fun a ha=>q _ _ (Same.new ha) (by rw [Told]; exact ⟨a,rfl,Zab⟩)
   cases m with
   | none=>exact iteN (by show (!decide (V.non=V.non))=false; rw [decide_eq_true rfl]; rfl) (iteN rfl ⟨_,rfl,x,cW,dx,_,_,rfl,hx,R.iW.cl,R.n_mark,fW _,lenOk 2,fin⟩)
   | some i=>exact iteP (by show (!decide (V.int i=V.non))=true; rw [decide_eq_false (by intro z; cases z)]; rfl) ⟨_,rfl,x,cW,dx,_,_,rfl,hx,R.iW.cl,R.n_mark,fW _,i,rfl,_,rfl,iteN rfl ⟨_,rfl,x,cW,dx,_,_,rfl,hx,R.iW.cl,R.n_mark,fW _,lenOk 2,fin⟩⟩
  | cut u k y1 y2 =>
   rw [Obj] at ho
   obtain ⟨x,dx,w1,w2,rfl,hx,o1,o2⟩:=ho
   have hd:max y1.dp y2.dp+1 < n+1:=hd
   refine ⟨_,rfl,x,_,dx,_,_,.ref cW,false,rfl,hx,R.iC u,rfl,refU,R.kCW u,_,rfl,iteN rfl ?_⟩
   have go:∀ H1:Hp,H1=H→∀ z:Str,z=wd u→True:=fun _ _ _ _=>trivial
   cases u with
   | true =>
    refine ⟨_,rfl,x,_,dx,_,_,.ref cU,true,rfl,hx,R.iC true,rfl,refU,R.kCC true true,_,rfl,iteN rfl (iteN rfl ?_)⟩
    refine ⟨_,rfl,x,_,dx,_,_,.ref cU,true,rfl,hx,R.iC true,rfl,refU,R.kCC true true,_,rfl,iteP rfl ?_⟩
    refine ⟨_,rfl,x,_,dx,_,_,rfl,hx,(R.iC true).cl,R.n_first true,fC_first _ _ _,w1,y1,rfl,o1,by lia,fun v1 H1 s1 t1=>?_⟩
    have hx1:=s1 _ _ hx
    refine ⟨_,rfl,x,_,dx,_,_,rfl,hx1,(R.iC true).cl,R.n_other true,fC_other _ _ _,w2,y2,rfl,o2.same s1,by lia,fun v2 H2 s2 t2=>?_⟩
    have hx2:=s2 _ _ hx1
    have t1':=t1.same s2
    refine ⟨_,rfl,x,_,dx,_,_,rfl,hx2,(R.iC true).cl,R.n_at true,fC_at _ _ _,k,rfl,_,rfl,iteN rfl ?_⟩
    refine ⟨_,rfl,rfl,_,rfl,iteN (Zd7 t1') ⟨_,rfl,rfl,_,rfl,iteN (Zd7 t2) ?_⟩⟩
    refine ⟨_,rfl,_,rfl,x,_,dx,_,_,rfl,hx2,(R.iC true).cl,R.n_at true,fC_at _ _ _,_,rfl,_,rfl,lenOk 4,fun a ha=>?_⟩
    have s3:Same H2 (upd H2 a (.tup [.str (wd true),.int k,v1,v2])):=Same.new ha
    exact q _ _ ((s1.trans s2).trans s3) (by rw [Told]; exact ⟨a,v1,v2,rfl,Zab,t1'.same s3,t2.same s3⟩)
   | false =>
    refine ⟨_,rfl,x,_,dx,_,_,.ref cU,false,rfl,hx,R.iC false,rfl,refU,R.kCC false true,_,rfl,iteP rfl ?_⟩
    refine ⟨_,rfl,x,_,dx,_,_,.ref cL,true,rfl,hx,R.iC false,rfl,refU,R.kCC false false,_,rfl,iteN rfl ?_⟩
    refine ⟨_,rfl,x,_,dx,_,_,.ref cU,false,rfl,hx,R.iC false,rfl,refU,R.kCC false true,_,rfl,iteN rfl ?_⟩
    refine ⟨_,rfl,x,_,dx,_,_,rfl,hx,(R.iC false).cl,R.n_first false,fC_first _ _ _,w1,y1,rfl,o1,by lia,fun v1 H1 s1 t1=>?_⟩
    have hx1:=s1 _ _ hx
    refine ⟨_,rfl,x,_,dx,_,_,rfl,hx1,(R.iC false).cl,R.n_other false,fC_other _ _ _,w2,y2,rfl,o2.same s1,by lia,fun v2 H2 s2 t2=>?_⟩
    have hx2:=s2 _ _ hx1
    have t1':=t1.same s2
    refine ⟨_,rfl,x,_,dx,_,_,rfl,hx2,(R.iC false).cl,R.n_at false,fC_at _ _ _,k,rfl,_,rfl,iteN rfl ?_⟩
    refine ⟨_,rfl,rfl,_,rfl,iteN (Zd7 t1') ⟨_,rfl,rfl,_,rfl,iteN (Zd7 t2) ?_⟩⟩
    refine ⟨_,rfl,_,rfl,x,_,dx,_,_,rfl,hx2,(R.iC false).cl,R.n_at false,fC_at _ _ _,_,rfl,_,rfl,lenOk 4,fun a ha=>?_⟩
    have s3:Same H2 (upd H2 a (.tup [.str (wd false),.int k,v1,v2])):=Same.new ha
    exact q _ _ ((s1.trans s2).trans s3) (by rw [Told]; exact ⟨a,v1,v2,rfl,Zab,t1'.same s3,t2.same s3⟩)
def Grow (en:Rk→En) (D:Rk→Prop):Tr→Rk→Prop
 | .whole m,p=>D p∧en p=.w m
 | .cut u k x y,p=>D p∧en p=.c u k∧Grow en D x (p.fst u k)∧Grow en D y (p.oth u k)
def wsum (ks:List Kind):Tr→Int
 | .whole none=>0
 | .whole (some i)=>wrth ks i
 | .cut _ _ x y=>wsum ks x+wsum ks y
abbrev rcK (p:Rk):Rc:=(p.t,p.l,p.b,p.r)
def Lay (ks:List Kind) (fl:List (Int × Int)):Tr→Rk→Prop
 | .whole none,_=>True
 | .whole (some i),p=>0≤i∧laid ks p i=true∧foul fl (rcK p)=false
 | .cut u k x y,p=>Lay ks fl x (p.fst u k)∧Lay ks fl y (p.oth u k)
theorem rc_fst (p:Rk) (u:Bool) (k:Int):rcK (p.fst u k)=pA (rcK p) (u,k):=by cases u <;> rfl
theorem rc_oth (p:Rk) (u:Bool) (k:Int):rcK (p.oth u k)=pB (rcK p) (u,k):=by cases u <;> rfl
theorem cut_len {p:Rk} {u:Bool} {k:Int} (h:(u,k)∈cutsL (p.len true) (p.len false)):1≤k∧k < p.len u:=by
 rcases Zhz h with ⟨e,a,b⟩ | ⟨e,a,b⟩
 ·have e:u=true:=e
  subst e; exact ⟨a,b⟩
 ·have e:u=false:=e
  subst e; exact ⟨a,b⟩
theorem grow_ex {ks:List Kind} {fl:List (Int × Int)} {f:Rc→Int} {W T:Int} {en:Rc→En} (hg:∀ p,InS W T p→GR ks fl f p (f p) (en p)):∀ (n:Nat) (p:Rk),InS W T (rcK p)→(p.len true+p.len false).toNat=n →
  ∃ t,Grow (fun p=>en (rcK p)) (fun p=>InS W T (rcK p)) t p∧FitR p t∧Lay ks fl t p∧wsum ks t=f (rcK p):=by
 intro n
 induction n using Nat.strongRecOn with
 | ind n ih =>
  intro p ins hn
  have g:=hg _ ins
  cases e:en (rcK p) with
  | w x =>
   rw [e] at g
   cases x with
   | none=>exact ⟨.whole none,⟨ins,e⟩,trivial,trivial,g.symm⟩
   | some i =>
    obtain ⟨k,i0,hk,ho,hv⟩:=g
    have nf:foul fl (rcK p)=false:=by
     cases z:foul fl (rcK p) with
     | false=>rfl
     | true=>unfold ksF at hk; rw [if_pos z] at hk; cases hk
    unfold ksF at hk
    rw [if_neg (by rw [nf]; exact Bool.false_ne_true)] at hk
    refine ⟨.whole (some i),⟨ins,e⟩,trivial,⟨i0,?_,nf⟩,?_⟩
    ·unfold laid; rw [hk]; exact ho
    ·show wrth ks i=_
     unfold wrth; rw [hk]; exact hv.symm
  | c u k =>
   rw [e] at g
   obtain ⟨hc,hv⟩:=g
   obtain ⟨ia,ib,la,lb,_,_⟩:=Zjk ins hc
   rw [← rc_fst] at ia la
   rw [← rc_oth] at ib lb
   have pp:=Zh0 ia
   have pq:=Zh0 ib
   obtain ⟨x,gx,fx,lx,sx⟩:=ih _ (by rw [← hn]; change 0≤(p.fst u k).len true+(p.fst u k).len false at pp; change (p.fst u k).len true+(p.fst u k).len false < p.len true+p.len false at la; lia) (p.fst u k) ia rfl
   obtain ⟨y,gy,fy,ly,sy⟩:=ih _ (by rw [← hn]; change 0≤(p.oth u k).len true+(p.oth u k).len false at pq; change (p.oth u k).len true+(p.oth u k).len false < p.len true+p.len false at lb; lia) (p.oth u k) ib rfl
   refine ⟨.cut u k x y,⟨ins,e,gx,gy⟩,fitR_cut.mpr ⟨cut_len hc,fx,fy⟩,⟨lx,ly⟩,?_⟩
   show wsum ks x+wsum ks y=_
   rw [sx,sy,hv,rc_fst,rc_oth]; rfl
theorem laid_lt {ks:List Kind} {p:Rk} {i:Int} (i0:0≤i) (h:laid ks p i=true):i < (ks.length:Int):=by
 unfold laid at h
 cases e:ks[i.toNat]? with
 | none=>rw [e] at h; cases h
 | some k =>
  have:=(List.getElem?_eq_some_iff.mp e).1
  lia
def spE (en:Rk→En) (D:Rk→Prop):Sp:=fun vs H Q _=>∃ (a:Addr) (p:Rk),vs=[.ref a]∧H a=some (.tup p.vs)∧D p∧∀ e H',Same H H'→H' e=some (.tup (enV (en p)))→Q (.ref e) H'
def sp_by (P:Program) (w:World) (K:PySem.W.Frag) (mg:Str→Option Value) (base:Heap):Sp:=fun vs H Q _=>∃ (a f:Addr) (p:Rk) (t:Tr) (en:Rk→En) (D:Rk→Prop),vs=[.ref a,.ref f]∧H a=some (.tup p.vs)∧FvOk P w K mg base 3 H f (spE en D)∧Grow en D t p∧t.nd≤400∧∀ l xs H',Same H H'→H l=none→H' l=some (.lst xs)→EnsAt H' xs (ents t)→Q (.ref l) H'
theorem Zjw:Zap ["sheet","entry_at","entries","waiting","piece","entry"] ["sheet","entry_at"] (Zac Zb7):=⟨rfl,rfl,rfl,by decide +kernel,rfl,by decide +kernel,by decide +kernel⟩
abbrev BInv (en:Rk→En) (D:Rk→Prop) (H:Hp) (a f:Addr) (t:Tr) (le lw:Addr) (m:Nat) (σ:St) (H':Hp):Prop:=∃ (xs:List V) (es:List En) (ws:List (Addr × Rk × Tr)) (x4 x5:Option V),σ=[some (.ref a),some (.ref f),some (.ref le),some (.ref lw),x4,x5]∧Same H H'∧H' le=some (.lst xs)∧EnsAt H' xs es∧H' lw=some (.lst (prefs ws))∧PsAt H' ws∧(∀ p∈ws,Grow en D p.2.2 p.2.1)∧es++flat (trs ws)=ents t∧m=cnt (trs ws)
theorem in_words (e:En):inV ((enV e).headD .non) [V.str "upright",V.str "level"]=match e with
  | .w _=>false
  | .c _ _=>true:=by
 cases e with
 | w m =>
  show (eqV (V.str "upright") (V.str "whole") || (eqV (V.str "level") (V.str "whole") || false))=false
  decide +kernel
 | c u k =>
  cases u
  ·show (eqV (V.str "upright") (V.str "level") || (eqV (V.str "level") (V.str "level") || false))=true
   decide +kernel
  ·show (eqV (V.str "upright") (V.str "upright") || (eqV (V.str "level") (V.str "upright") || false))=true
   decide +kernel
theorem Zhv {f:Addr} {fd:FuncData} (F:Fun K "entries_by" "entries_by" Zb7 f fd) (T:Txt mg tk) (D_first_piece:DefOk P w K mg base 1 "first_piece" ["piece","word","at"] Ziu) (D_other_piece:DefOk P w K mg base 1 "other_piece" ["piece","word","at"] Zit):FnOk P w K mg base CX0 4 f fd ["sheet","entry_at"] (sp_by P w K mg base):=by
 have S:=Zjw
 refine F.ok S (fun vs H Q E h=>?_) (fun cdv A outer s H vs Q E hr h=>?_)
 ·obtain ⟨a,f,p,t,en,D,rfl,_⟩:=h; rfl
 ·obtain ⟨a,fv,p,t,en,D,rfl,ha,hfv,gr,hn,q⟩:=h
  refine ⟨_,(Zaf (Zay (i:=2) S.nd rfl (Or.inl rfl) (Zck Zad))
   (Zaf (Zay (i:=3) S.nd rfl (Or.inl rfl) (Zck (Zaa (pv 0) Zad)))
   (Zaf (ps_while PassesOwn.never (pt_truth (pv 3) (fun _=>rfl)) (Zaf (Zay (i:=4) S.nd rfl (Or.inl rfl) (Zi1 PySem.F.plainAttrs_list PySem.F.slot_list_pop PySem.F.type_list_pop mt_pop (pv 3)))
   (Zaf (Zay (i:=5) S.nd rfl (Or.inl rfl) (pe_fv (k:=3) hr (pv 1) (Zaa (pv 4) Zad)))
   (Zaf (Zb3 (Ze6 PySem.F.plainAttrs_list PySem.F.slot_list_append PySem.F.type_list_append Zbn (pv 2) (Zaa (pv 5) Zad)))
   (Zag (Zbi (Za0 Zi3 (Zao Zal (pv 5) Zae (fun _ _=>rfl)) (Za3 (Zaa (Zbf (v:=.str "upright") rfl T.g_UPRIGHT ⟨_,rfl⟩) (Zaa (Zbf (v:=.str "level") rfl T.g_LEVEL ⟨_,rfl⟩) Zad))) rfl) (Zaf (Zb3 (Ze6 PySem.F.plainAttrs_list PySem.F.slot_list_append PySem.F.type_list_append Zbn (pv 3) (Zaa (Zax D_other_piece hr (Zaa (pv 4) (Zaa (Zao Zal (pv 5) Zae (fun _ _=>rfl)) (Zaa (Zao Zal (pv 5) Zae (fun _ _=>rfl)) Zad)))) Zad)))
   (Zag (Zb3 (Ze6 PySem.F.plainAttrs_list PySem.F.slot_list_append PySem.F.type_list_append Zbn (pv 3) (Zaa (Zax D_first_piece hr (Zaa (pv 4) (Zaa (Zao Zal (pv 5) Zae (fun _ _=>rfl)) (Zaa (Zao Zal (pv 5) Zae (fun _ _=>rfl)) Zad)))) Zad))))) Zas))))))
   (Zag (Zaq (pv 2)))))),?_⟩
  refine ⟨lenOk 0,fun le hle=>⟨_,rfl,lenOk 1,fun lw hlw=>?_⟩⟩
  have nel:le≠lw:=Zah Zab hlw
  have s0:Same H (upd (upd H le (.lst [])) lw (.lst [.ref a])):=(Same.new hle).trans (Same.new hlw)
  have hlw0:H lw=none:=none_of (Same.new hle) hlw
  refine ⟨BInv en D H a fv t le lw,
   ⟨_,[],[],[(a,p,t)],none,none,rfl,s0,by rw [Zaj nel]; exact Zab,trivial,Zab,fun r hr=>?_,fun r hr=>?_,?_,rfl⟩,?_⟩
  ·rw [List.mem_singleton.mp hr]; exact s0 _ _ ha
  ·rw [List.mem_singleton.mp hr]; exact gr
  ·show []++flat [(V.ref a,t)]=ents t
   rw [Zf5]; rfl
  rintro m σ H' ⟨xs,es,ws,x4,x5,rfl,s1,hl,hen,hw,hps,hgr,heq,rfl⟩
  have tot:es.length+cnt (trs ws)=t.nd:=by rw [← Zei,← heq,List.length_append,Zh7]
  rcases Zep ws with rfl | ⟨ws0,r,rfl⟩
  ·refine ⟨_,rfl,_,.inl ⟨_,SqL.of hw,rfl⟩,iteN rfl ⟨_,rfl,q le xs H' s1 hle hl ?_⟩⟩
   rw [← heq]
   show EnsAt H' xs (es++[])
   rw [List.append_nil]; exact hen
  ·refine ⟨_,rfl,_,.inl ⟨_,SqL.of hw,rfl⟩,iteP (by simp) ⟨fun σ' H''=>∃ m',m' < cnt (trs (ws0++[r]))∧BInv en D H a fv t le lw m' σ' H'',fun σ' H'' z=>z,?_⟩⟩
   obtain ⟨pa,pk,pt⟩:=r
   have hp0:=hps (pa,pk,pt) (by simp)
   have hg0:=hgr (pa,pk,pt) (by simp)
   refine ⟨_,rfl,.inl ⟨rfl,_,SqL.of hw⟩,lw,_,_,rfl,rfl,hw,last_pref,?_⟩
   rw [drop_pref]
   have k2:Kp H' (upd H' lw (.lst (prefs ws0))):=Kp.put hw
   have s2:Same H (upd H' lw (.lst (prefs ws0))):=fun b o e=>by rw [Zaj (Zah e hlw0)]; exact s1 b o e
   have l2:(upd H' lw (.lst (prefs ws0))) le=some (.lst xs):=by rw [Zaj nel]; exact hl
   have w2:(upd H' lw (.lst (prefs ws0))) lw=some (.lst (prefs ws0)):=Zab
   generalize upd H' lw (.lst (prefs ws0))=H2 at k2 s2 l2 w2 ⊢
   have hp2:=k2 _ _ hp0 (by intro xs z; cases z)
   have ps2:PsAt H2 ws0:=fun r hr=>k2 _ _ (hps r (List.mem_append_left _ hr)) (by intro xs z; cases z)
   have gr2:∀ r∈ws0,Grow en D r.2.2 r.2.1:=fun r hr=>hgr r (List.mem_append_left _ hr)
   have hen2:=hen.kp k2
   rw [Zc6,Zc4] at heq
   rw [Zc6,Zej] at tot
   have hxl:=hen.len
   have np:=nd_pos pt
   have hDp:D pk:=by cases pt <;> exact hg0.1
   refine ⟨_,rfl,fv,spE en D,rfl,hfv.same s2,_,rfl,Same.refl H2,pa,pk,rfl,hp2,hDp,fun ea H3 s3 e3=>?_⟩
   have l3:=s3 _ _ l2
   refine ⟨_,rfl,.inl ⟨rfl,_,SqL.of l3⟩,_,rfl,le,xs,.ref ea,rfl,rfl,l3,Zar (by lia),?_⟩
   have k4:Kp H3 (upd H3 le (.lst (xs++[.ref ea]))):=Kp.put l3
   have s4:Same H (upd H3 le (.lst (xs++[.ref ea]))):=fun b o e=>by rw [Zaj (Zah e hle)]; exact s3 b o (s2 b o e)
   have l4:(upd H3 le (.lst (xs++[.ref ea]))) le=some (.lst (xs++[.ref ea])):=Zab
   have w4:(upd H3 le (.lst (xs++[.ref ea]))) lw=some (.lst (prefs ws0)):=by rw [Zaj (Ne.symm nel)]; exact s3 _ _ w2
   have en4:EnsAt (upd H3 le (.lst (xs++[.ref ea]))) (xs++[.ref ea]) (es++[en pk]):=((hen2.kp (Zkt s3)).kp k4).snoc (k4 _ _ e3 (by intro xs z; cases z))
   have kk:=(Zkt s3).trans k4
   have e4:=k4 _ _ e3 (by intro xs z; cases z)
   generalize upd H3 le (.lst (xs++[.ref ea]))=H4 at k4 s4 l4 w4 en4 kk e4 ⊢
   have hp4:=kk _ _ hp2 (by intro xs z; cases z)
   have ps4:PsAt H4 ws0:=ps2.kp kk
   cases pt with
   | whole m =>
    have een:en pk=.w m:=hg0.2
    rw [een] at e4 en4
    refine ⟨_,rfl,ea,_,_,_,rfl,rfl,SqT.of e4,Zcy,lenOk 2,fun tt ntt=>?_⟩
    have s5:Same H4 (upd H4 tt (.tup [.str "upright",.str "level"])):=Same.new ntt
    have e5:(upd H4 tt (.tup [.str "upright",.str "level"])) tt=some (.tup [.str "upright",.str "level"]):=Zab
    generalize upd H4 tt (.tup [.str "upright",.str "level"])=H5 at s5 e5 ⊢
    refine ⟨tt,_,rfl,.inr (SqT.of e5),rfl,rfl,_,rfl,iteN (by rw [if_neg Bool.false_ne_true]; exact in_words (.w m)) ?_⟩
    refine ⟨cnt (trs ws0),by rw [Zc6,Zej]; exact Nat.lt_succ_self _,_,_,ws0,_,_,rfl,s4.trans s5,s5 _ _ l4,en4.kp (Zkt s5),s5 _ _ w4,ps4.kp (Zkt s5),gr2,?_,rfl⟩
    rw [← heq,List.append_assoc]; rfl
   | cut u k y1 y2 =>
    obtain ⟨_,een,g1,g2⟩:=hg0
    have een:en pk=.c u k:=een
    rw [een] at e4 en4
    refine ⟨_,rfl,ea,_,_,_,rfl,rfl,SqT.of e4,Zcy,lenOk 2,fun tt ntt=>?_⟩
    have s5:Same H4 (upd H4 tt (.tup [.str "upright",.str "level"])):=Same.new ntt
    have e5:(upd H4 tt (.tup [.str "upright",.str "level"])) tt=some (.tup [.str "upright",.str "level"]):=Zab
    generalize upd H4 tt (.tup [.str "upright",.str "level"])=H5 at s5 e5 ⊢
    refine ⟨tt,_,rfl,.inr (SqT.of e5),rfl,rfl,_,rfl,iteP (by rw [if_neg Bool.false_ne_true]; exact in_words (.c u k)) ?_⟩
    have e55:=s5 _ _ e4
    have w5:=s5 _ _ w4
    have hp5:=s5 _ _ hp4
    refine ⟨_,rfl,.inl ⟨rfl,_,SqL.of w5⟩,_,rfl,_,rfl,ea,_,_,_,rfl,rfl,SqT.of e55,Zcy,_,rfl,ea,_,_,_,rfl,rfl,SqT.of e55,Zdh,pa,pk,u,k,rfl,hp5,fun t6 n6=>?_⟩
    have s6:Same H5 (upd H5 t6 (.tup (pk.oth u k).vs)):=Same.new n6
    have e6:(upd H5 t6 (.tup (pk.oth u k).vs)) t6=some (.tup (pk.oth u k).vs):=Zab
    generalize upd H5 t6 (.tup (pk.oth u k).vs)=H6 at s6 e6 ⊢
    have w6:=s6 _ _ w5
    have cl:=Zk2 (trs ws0)
    rw [List.length_map] at cl
    have ndp:(Tr.cut u k y1 y2).nd=y1.nd+y2.nd+1:=rfl
    refine ⟨lw,_,_,rfl,rfl,w6,Zar (by rw [List.length_map]; lia),?_⟩
    have k7:Kp H6 (upd H6 lw (.lst (prefs ws0++[.ref t6]))):=Kp.put w6
    have s7:Same H (upd H6 lw (.lst (prefs ws0++[.ref t6]))):=fun b o e=>by rw [Zaj (Zah e hlw0)]; exact s6 _ _ (s5 _ _ (s4 b o e))
    have l7:(upd H6 lw (.lst (prefs ws0++[.ref t6]))) le=some (.lst (xs++[.ref ea])):=by rw [Zaj nel]; exact s6 _ _ (s5 _ _ l4)
    have w7:(upd H6 lw (.lst (prefs ws0++[.ref t6]))) lw=some (.lst (prefs ws0++[.ref t6])):=Zab
    have kk7:=((Zkt s5).trans (Zkt s6)).trans k7
    have e7:=k7 _ _ e6 (by intro xs z; cases z)
    generalize upd H6 lw (.lst (prefs ws0++[.ref t6]))=H7 at k7 s7 l7 w7 kk7 e7 ⊢
    have ea7:=kk7 _ _ e4 (by intro xs z; cases z)
    have hp7:=kk7 _ _ hp4 (by intro xs z; cases z)
    refine ⟨_,rfl,.inl ⟨rfl,_,SqL.of w7⟩,_,rfl,_,rfl,ea,_,_,_,rfl,rfl,SqT.of ea7,Zcy,_,rfl,ea,_,_,_,rfl,rfl,SqT.of ea7,Zdh,pa,pk,u,k,rfl,hp7,fun t8 n8=>?_⟩
    have s8:Same H7 (upd H7 t8 (.tup (pk.fst u k).vs)):=Same.new n8
    have e8:(upd H7 t8 (.tup (pk.fst u k).vs)) t8=some (.tup (pk.fst u k).vs):=Zab
    generalize upd H7 t8 (.tup (pk.fst u k).vs)=H8 at s8 e8 ⊢
    have w8:=s8 _ _ w7
    refine ⟨lw,_,_,rfl,rfl,w8,Zar (by rw [List.length_append,List.length_map,List.length_singleton]; lia),?_⟩
    have k9:Kp H8 (upd H8 lw (.lst (prefs ws0++[.ref t6]++[.ref t8]))):=Kp.put w8
    have kk9:=(Zkt s8).trans k9
    have kall:=kk7.trans kk9
    refine ⟨cnt (trs (ws0++[(t6,pk.oth u k,y2)]++[(t8,pk.fst u k,y1)])),?_,xs++[.ref ea],es++[.c u k],ws0++[(t6,pk.oth u k,y2)]++[(t8,pk.fst u k,y1)],_,_,rfl,fun b o e=>?_,?_,en4.kp kall,?_,fun r hr=>?_,fun r hr=>?_,?_,rfl⟩
    ·rw [Zc6,Zc6,Zej,Zej,Zc6,Zej]
     show cnt (trs ws0)+y2.nd+y1.nd < cnt (trs ws0)+(y1.nd+y2.nd+1)
     lia
    ·rw [Zaj (Zah e hlw0)]; exact s8 b o (s7 b o e)
    ·rw [Zaj nel]; exact s8 _ _ l7
    ·rw [Zab,Zi0,Zi0]
    ·rcases List.mem_append.mp hr with hr | hr
     ·rcases List.mem_append.mp hr with hr | hr
      ·exact kall _ _ (ps4 r hr) (by intro xs z; cases z)
      ·rw [List.mem_singleton.mp hr]; exact kk9 _ _ e7 (by intro xs z; cases z)
     ·rw [List.mem_singleton.mp hr]; exact k9 _ _ e8 (by intro xs z; cases z)
    ·rcases List.mem_append.mp hr with hr | hr
     ·rcases List.mem_append.mp hr with hr | hr
      ·exact gr2 r hr
      ·rw [List.mem_singleton.mp hr]; exact g2
     ·rw [List.mem_singleton.mp hr]; exact g1
    ·rw [Zc6,Zc6,Zc4,Zc4,← heq]
     show es++[.c u k]++(ents y1++(ents y2++flat (trs ws0)))=es++(.c u k :: (ents y1++ents y2)++flat (trs ws0))
     simp [List.append_assoc]
def lamE2:Expr:=match (Zak Zbm).getD 0 (.Pass ⟨0,0,0,0⟩) with
 | .Return (some (.Call _ [.Call _ [_,k] _ _] _ _)) _=>k
 | _=>.Constant .none 0 ⟨0,0,0,0⟩
def lamP2:Arguments:=match lamE2 with | .Lambda p _ _ _=>p | _=>Zam Zbm
def lamB2:Expr:=match lamE2 with | .Lambda _ b _ _=>b | e=>e
def lamS2:Scope:=match lamE2 with | .Lambda _ _ s _=>s | _=>Zac Zbm
def lamQ2:Pos:=match lamE2 with | .Lambda _ _ _ q=>q | _=>⟨0,0,0,0⟩
def lamN2:Str:="tree_by.<locals>.<lambda>"
theorem S_lam2:LamScope "piece" ["choices","key"] lamS2:=⟨rfl,rfl,rfl,rfl,by decide +kernel,fun y hy=>(by decide +kernel:∀ p∈lamS2.names,p.2=.free→p.1∈(["choices","key"]:List Str)) _ (PySem.mem_of_lookup hy) rfl,by decide +kernel⟩
abbrev clos2 (L:Nat):List (Str × Addr):=[("key",L+2),("choices",L+1)]
theorem EnsAt.tups {H H':Hp} (s:∀ a xs,H a=some (.tup xs)→H' a=some (.tup xs)):∀ {vs:List V} {es:List En},EnsAt H vs es→EnsAt H' vs es
 | [],[],_=>trivial
 | v :: r,e :: q,h=>⟨let ⟨a,b,c⟩:=h.1; ⟨a,b,s _ _ c⟩,EnsAt.tups s h.2⟩
 | [],_ :: _,h=>h
 | _ :: _,[],h=>h
theorem S_tree_by:Zap ["choices","sheet","key"] ["choices","sheet","key"] (Zac Zbm):=⟨rfl,rfl,rfl,by decide +kernel,rfl,by decide +kernel,by decide +kernel⟩
def Zfh (tb2 cW cU cL:Addr) (mg:Str→Option Value):Sp:=fun vs H Q _=>∃ (d a fk:Addr) (ks:List Kind) (fl:List (Int × Int)) (p:Rk) (Lz:List Rc) (ad:Rc→Addr) (f:Rc→Int) (W T:Int),vs=[.ref d,.ref a,.ref fk]∧TabQ ks fl H d Lz ad f∧mg "itself"=some (.ref fk)∧H a=some (.tup p.vs)∧InS W T (rcK p)∧W≤7∧T≤7∧(∀ p,InS W T p→p∈Lz)∧TabOk lamQ2 lamN2 tb2 H ∧
 ∀ v t H',SameX tb2 H H'→TabOk lamQ2 lamN2 tb2 H'→Obj cW cU cL H' t v→FitR p t→Lay ks fl t p→wsum ks t=f (rcK p)→Q v H'
theorem ok_tree_by {f:Addr} {fd:FuncData} {c tb2:Addr} (F:FunC K "tree_by" "tree_by" Zbm f fd c) (hC:codeTB K c tb2=true) (hB:BmIn K mg) (D_itself:DefOk P w K mg base 1 "itself" ["piece"] Zdn) (D_entries_by:DefOk P w K mg base 4 "entries_by" ["sheet","entry_at"] (sp_by P w K mg base)) (D_tree_from:DefOk P w K mg base 4 "tree_from" ["entries"] (Zkb K cW cU cL)) :
  FnOk P w K mg base CX0 5 f fd ["choices","sheet","key"] (Zfh tb2 cW cU cL mg):=by
 have S:=S_tree_by
 refine F.ok S (fun vs H Q E h=>?_) (fun A outer s H vs Q E hr h=>?_)
 ·obtain ⟨d,a,fk,ks,fl',p,Lz,ad,g,W,T',rfl,_⟩:=h; rfl
 ·obtain ⟨d,a,fk,ks,fl',p,Lz,ad,g,W,T',rfl,tab,hfk,ha,ins,W7,T7,cov,tb,q⟩:=h
  have ins':0≤p.t∧p.t < p.b∧p.b≤T'∧0≤p.l∧p.l < p.r∧p.r≤W:=ins
  have hlam:=pe_lam (X:=(cxOf CX0 P w K mg base ["choices","sheet","key"] "tree_by" (Zac Zbm) f (.ref c) A outer s H E).nox) (params:=lamP2) (body:=lamB2) (scope:=lamS2) (pos:=lamQ2) (qual:=lamN2) (clos:=clos2 s.heap.objs.size) rfl (codeTB_of hC) hB rfl rfl rfl
  have hcl:∀ p∈clos2 s.heap.objs.size,(cxOf CX0 P w K mg base ["choices","sheet","key"] "tree_by" (Zac Zbm) f (.ref c) A outer s H E).nox.env.cells.lookup p.1=some p.2∧(cxOf CX0 P w K mg base ["choices","sheet","key"] "tree_by" (Zac Zbm) f (.ref c) A outer s H E).nox.env.kindOf p.1=some .cell:=fun p hp=>by
   rcases List.mem_cons.mp hp with rfl | hp
   ·exact ⟨rfl,rfl⟩
   ·rw [List.mem_singleton.mp hp]; exact ⟨rfl,rfl⟩
  refine ⟨_,(Zag (Zaq (Zax D_tree_from hr (Zaa (pe_fnC (clos:=clos2 s.heap.objs.size) D_entries_by hr (Zaa (pv 1) (Zaa hlam Zad)) hcl (fun _=>rfl) rfl) Zad)))),?_⟩
  obtain ⟨ea,en,he⟩:∃ (ea:Rc→Addr) (en:Rc→En),∀ z∈Lz,H (ad z)=some (.tup [.int (g z),.ref (ea z)])∧H (ea z)=some (.tup (enV (en z)))∧GR ks fl' g z (g z) (en z):=by
   classical
   refine ⟨fun z=>if h:z∈Lz then (tab.2 z h).choose else 0,fun z=>if h:z∈Lz then (tab.2 z h).choose_spec.choose else .w none,fun z hz=>?_⟩
   simp only [dif_pos hz]
   exact (tab.2 z hz).choose_spec.choose_spec
  obtain ⟨t,gr,fit,lay,sm⟩:=grow_ex (ks:=ks) (fl:=fl') (f:=g) (W:=W) (T:=T') (en:=en) (fun z hz=>(he z (cov z hz)).2.2) _ p ins rfl
  have tbl:=tb.tbl
  refine ⟨_,rfl,TabOk.lamC tb fun c' fl ctv H1 s1 tab1 hf hc hnew=>?_⟩
  have ne1:∀ {x:Addr} {u:HO},H x=some u→(∀ ps,u≠.tbl ps)→x≠tb2:=fun {x u} e n z=>by obtain ⟨ps,e'⟩:=tbl; rw [z,e'] at e; cases e; exact n _ rfl
  intro Lc CA
  have tup1:∀ {x:Addr} {xs:List V},H x=some (.tup xs)→H1 x=some (.tup xs):=fun e=>s1 _ _ (ne1 e (by intro ps z; cases z)) e
  have hd1:H1 d=some (.dT (tabR Lz fun p=>.ref (ad p))):=s1 _ _ (ne1 tab.1 (by intro ps z; cases z)) tab.1
  have up:∀ {x:Addr} {u:HO},H1 x=some u→(tkd H1 Lc) x=some u:=fun e=>by rw [Zbj (Ze1 CA.new e)]; exact e
  have fv:=fv_lam (P:=P) (w:=w) (K:=K) (mg:=mg) (base:=base) (k:=2) (H:=tkd H1 Lc) (f:=fl) (c':=c') (params:=lamP2) (body:=lamB2) (scope:=lamS2) (qual:=lamN2) (pn:="piece") (ctv:=ctv) (fs:=["choices","key"]) (clos:=clos2 s.heap.objs.size) (cv:=[.ref d,.ref fk]) (L:=Lc)
   (te:=tOp (rIxT K) (tDGet (tVar 1) (tFnv mg "itself" (tVar 2) Zdn (tCons (tVar 0) tNil))) (tC (.int 1)))
   (up hf) (up hc) S_lam2 rfl (fun y=>?_) (fun x y cc h1 h2=>?_) (fun a o e=>Zir e) CA.has (fun p hp i v hi hv=>?_) (fun _ _=>.of_eq rfl)
   (fun A' outer' s' H' Hx E' hr'=>Zao (ix_tupK (K:=K)) (Zc8 (Zkw hr') (pv 1) (pe_fnv D_itself hr' (pv 2) (Zaa (pv 0) Zad)) (fun _ _=>rfl)) Zae (fun _ _=>rfl))
  ·refine ⟨a,fl,p,t,_,_,rfl,up (tup1 ha),fv.imp fun vs H' Q' E' sm' hsp=>?_,gr,?_,fun l xs H2 s2 nl hl hens=>?_⟩
   ·obtain ⟨a',p',rfl,ha',ins2,q'⟩:=hsp
    have hL':∀ a o,Lc.lookup a=some o→H' a=some (ObjO a o):=fun a o e=>sm' _ _ (Zir e)
    have kp:∀ {x:Addr} {u:HO},H1 x=some u→(∀ o,u≠ObjO x o)→(utk H' Lc) x=some u:=fun e n=>utk_at hL' (sm' _ _ (up e)) n
    obtain ⟨e1,e2,_⟩:=he (rcK p') (cov _ ins2)
    refine ⟨_,rfl,_,rfl,_,rfl,⟨fk,rfl,hfk⟩,_,rfl,.ref a',rfl,?_⟩
    have dg:=DGet.t (k:=ky4 (rcK p')) (kp hd1 (by intro o z; cases z)) (show (utk H' Lc) a'=some (.tup ((ky4 (rcK p')).map kV)) from utk_at hL' ha' (by intro o z; cases z))
    rw [Zdi _ Lz (rcK p') (cov _ ins2)] at dg
    refine ⟨d,_,rfl,dg,ad (rcK p'),_,_,_,rfl,rfl,SqT.of (kp (tup1 e1) (by intro o z; cases z)),Zdh,q' _ _ (fun x o e=>?_) ?_⟩
    ·cases q:Lc.lookup x with
     | some o'=>rw [hL' x o' q] at e; cases e; exact Zir q
     | none=>rw [Zbj q,Zcg q]; exact e
    ·rw [Zbj (Ze1 CA.new (tup1 e2))]
     exact kp (tup1 e2) (by intro o z; cases z)
   ·have w1:1≤p.r - p.l:=by lia
    have h1:1≤p.b - p.t:=by lia
    have z1:=Zg9 w1 h1 fit
    have z2:(p.r - p.l) * (p.b - p.t)≤7 * 7:=Int.mul_le_mul (by lia) (by lia) (by lia) (by lia)
    have z3:=nd_sz t
    lia
   ·obtain ⟨sU,hk⟩:=same_utk CA.new s2
    refine ⟨hk,l,xs,t,rfl,SqL.of (utk_at hk hl (by intro o z; cases z)),hens.tups (fun a xs e=>utk_at hk e (by intro o z; cases z)),?_,fun v' H3 s3 ob=>?_⟩
    ·have w1:1≤p.r - p.l:=by lia
     have h1:1≤p.b - p.t:=by lia
     have z1:=Zg9 w1 h1 fit
     have z2:(p.r - p.l) * (p.b - p.t)≤7 * 7:=Int.mul_le_mul (by lia) (by lia) (by lia) (by lia)
     have z3:=nd_sz t
     lia
    ·exact q v' t H3 (s1.trans (sU.x.trans s3.x)) ((tab1.same sU).same s3) ob fit lay sm
  ·constructor
   ·rintro ⟨cc,h⟩
    have:=PySem.mem_of_lookup h
    rcases List.mem_cons.mp this with e | e
    ·cases e; simp
    ·cases List.mem_singleton.mp e; simp
   ·intro hy
    rcases List.mem_cons.mp hy with rfl | hy
    ·exact ⟨_,rfl⟩
    ·rw [List.mem_singleton.mp hy]; exact ⟨_,rfl⟩
  ·have m1:=PySem.mem_of_lookup h1
   have m2:=PySem.mem_of_lookup h2
   have n12:∀ L:Nat,L+2≠L+1:=fun L=>by lia
   rcases List.mem_cons.mp m1 with e1 | e1
   ·rcases List.mem_cons.mp m2 with e2 | e2
    ·cases e1; cases e2; rfl
    ·have e2:=List.mem_singleton.mp e2
     cases e1
     exact absurd (congrArg Prod.snd e2) (n12 _)
   ·have e1:=List.mem_singleton.mp e1
    rcases List.mem_cons.mp m2 with e2 | e2
    ·cases e2
     exact absurd (congrArg Prod.snd e1) (n12 _)
    ·have e2:=List.mem_singleton.mp e2
     exact (congrArg Prod.fst e1).trans (congrArg Prod.fst e2).symm
  ·rcases List.mem_cons.mp hp with rfl | hp
   ·match i,hi with
    | 1,_ =>
     cases hv
     exact CA.val _ hp 2 _ rfl rfl
    | 0,hi=>exact absurd (show ("choices":Str)="key" from Option.some.inj hi) (by decide +kernel)
   ·have hp':=List.mem_singleton.mp hp
    subst hp'
    match i,hi with
    | 0,_ =>
     cases hv
     exact CA.val _ (List.mem_cons_of_mem _ hp) 0 _ rfl rfl
    | 1,hi=>exact absurd (show ("key":Str)="choices" from Option.some.inj hi) (by decide +kernel)
def Zhl (tb2 cW cU cL:Addr):Sp:=fun vs H Q _=>∃ (w h:Int) (b e:Addr) (ks:List Kind) (fl:List (Int × Int)),vs=[.int w,.int h,.ref b,.ref e]∧1≤w∧w≤7∧1≤h∧h≤7∧KindsAt H b ks∧ks.length≤8∧(∀ k∈ks,KOk k)∧SizesAt H e fl∧FlOk w h fl∧TabOk lamQ2 lamN2 tb2 H ∧
 ∀ v t f H',SameX tb2 H H'→TabOk lamQ2 lamN2 tb2 H'→(∀ p,InS w h p→GOk ks fl f p)→Obj cW cU cL H' t v→Fit t w h→Lay ks fl t ⟨0,0,h,w⟩→wsum ks t=f (0,0,h,w)→Q v H'
theorem Zik:Zap ["width","height","kinds","flaws"] ["width","height","kinds","flaws"] (Zac Zbw):=⟨rfl,rfl,rfl,by decide +kernel,rfl,by decide +kernel,by decide +kernel⟩
theorem Zgm {f tb2:Addr} {fd:FuncData} (F:Fun K "flawed_best" "flawed_best" Zbw f fd) (T:Txt mg tk) (D_choices_by_piece:DefOk P w K mg base 5 "choices_by_piece" ["width","height","kinds","flaws"] sp_chR) (D_tree_by:DefOk P w K mg base 5 "tree_by" ["choices","sheet","key"] (Zfh tb2 cW cU cL mg)):FnOk P w K mg base CX0 6 f fd ["width","height","kinds","flaws"] (Zhl tb2 cW cU cL):=by
 have S:=Zik
 have R:=T
 refine F.ok S (fun vs H Q E h=>?_) (fun cdv A outer s H vs Q E hr h=>?_)
 ·obtain ⟨w,h,b,e,ks,fl,rfl,_⟩:=h; rfl
 ·obtain ⟨ww,hh,b,e,ks,fl,rfl,w1,w2,h1,h2,hk,few,ok,hfl,flok,tb,q⟩:=h
  refine ⟨_,(Zag (Zaq (Zax D_tree_by hr (Zaa (Zax D_choices_by_piece hr (Zaa (pv 0) (Zaa (pv 1) (Zaa (pv 2) (Zaa (pv 3) Zad))))) (Zaa (Za3 (Zaa Zae (Zaa Zae (Zaa (pv 1) (Zaa (pv 0) Zad))))) (Zaa (Zbf (v:=.ref (tk.2.2.2.2.2.2.2.2)) rfl R.g_itself rfl) Zad)))))),?_⟩
  refine ⟨_,rfl,_,rfl,_,rfl,_,rfl,ww,hh,b,e,ks,fl,rfl,w1,w2,h1,h2,hk,few,ok,hfl,flok,fun d L ad g H1 s1 nd tab nL lL mL good=>?_⟩
  refine ⟨_,rfl,_,rfl,lenOk 4,fun p np=>?_⟩
  have s2:Same H1 (upd H1 p (.tup [.int 0,.int 0,.int hh,.int ww])):=Same.new np
  have e2:(upd H1 p (.tup [.int 0,.int 0,.int hh,.int ww])) p=some (.tup [.int 0,.int 0,.int hh,.int ww]):=Zab
  generalize upd H1 p (.tup [.int 0,.int 0,.int hh,.int ww])=H2 at s2 e2 ⊢
  have s12:=s1.trans s2
  refine ⟨d,p,_,ks,fl,⟨0,0,hh,ww⟩,L,ad,g,ww,hh,rfl,tab.same s2,T.g_itself,e2,⟨Int.le_refl _,(show (0:Int) < hh from by lia),Int.le_refl _,Int.le_refl _,(show (0:Int) < ww from by lia),Int.le_refl _⟩,w2,h2,fun p hp=>(mL p).mpr hp,tb.same s12,fun v t H3 s3 tb3 ob fit lay sm=>?_⟩
  have fit:Fit t (ww - 0) (hh - 0):=fit
  rw [Int.sub_zero,Int.sub_zero] at fit
  exact q v t g H3 (s12.x.trans s3) tb3 good ob fit lay sm
def sp_lch:Sp:=fun vs H Q _=>∃ (d kn fa a:Addr) (p:Rc) (ks:List Kind) (fl:List (Int × Int)) (W T:Int) (L:List Rc) (f:Rc→Int),vs=[.ref d,.ref kn,.ref fa,.ref a]∧H d=some (.dT (tabR L fun p=>.int (f p)))∧KindsAt H kn ks∧ks.length≤8∧SizesAt H fa fl∧fl.length≤49∧Pc H a p.1 p.2.1 p.2.2.1 p.2.2.2∧InS W T p∧W≤7∧T≤7∧(∀ q,InS W T q→q∈L)∧GOk ks fl f p ∧
 ∀ l (ns:List Int) H',Same H H'→H' l=some (.lst (ns.map V.int))→f p∈ns→(∀ z∈ns,z≤f p)→Q (.ref l) H'
abbrev N_lch:List Str:=["_law_found","_law_kinds","_law_flaws","_law_block","_law_top","_law_left","_law_bottom","_law_right","_law_some","_law_line"]
theorem Zij:Zap N_lch ["_law_found","_law_kinds","_law_flaws","_law_block"] (Zac Zba):=⟨rfl,rfl,rfl,by decide +kernel,rfl,by decide +kernel,by decide +kernel⟩
structure ChI (ks:List Kind) (fl:List (Int × Int)) (f:Rc→Int) (p:Rc) (ns:List Int) (a b n:Nat):Prop where
 le:∀ z∈ns,z≤f p
 o:0∈ns
 k:foul fl p=false→∀ k∈ks,ofK k (wR p) (hR p)=true→k.2.2.1∈ns
 u:∀ j:Nat,j < a→twoR f p (true,1+(j:Int))∈ns
 v:∀ j:Nat,j < b→twoR f p (false,1+(j:Int))∈ns
 len:ns.length≤n
theorem ChI.addU {ks:List Kind} {fl:List (Int × Int)} {f:Rc→Int} {p:Rc} {ns:List Int} {a b n:Nat} (c:ChI ks fl f p ns a b n) (h:twoR f p (true,1+(a:Int))≤f p):ChI ks fl f p (ns++[twoR f p (true,1+(a:Int))]) (a+1) b (n+1):=by
 refine ⟨fun z hz=>?_,List.mem_append_left _ c.o,fun e k hk o=>List.mem_append_left _ (c.k e k hk o),fun j hj=>?_,fun j hj=>List.mem_append_left _ (c.v j hj),by have:=c.len; rw [List.length_append,List.length_singleton]; lia⟩
 ·rcases List.mem_append.mp hz with hz | hz
  ·exact c.le z hz
  ·rw [List.mem_singleton.mp hz]; exact h
 ·rcases Nat.lt_or_ge j a with ja | ja
  ·exact List.mem_append_left _ (c.u j ja)
  ·have:j=a:=by lia
   subst this
   exact List.mem_append_right _ (by simp)
theorem ChI.addV {ks:List Kind} {fl:List (Int × Int)} {f:Rc→Int} {p:Rc} {ns:List Int} {a b n:Nat} (c:ChI ks fl f p ns a b n) (h:twoR f p (false,1+(b:Int))≤f p):ChI ks fl f p (ns++[twoR f p (false,1+(b:Int))]) a (b+1) (n+1):=by
 refine ⟨fun z hz=>?_,List.mem_append_left _ c.o,fun e k hk o=>List.mem_append_left _ (c.k e k hk o),fun j hj=>List.mem_append_left _ (c.u j hj),fun j hj=>?_,by have:=c.len; rw [List.length_append,List.length_singleton]; lia⟩
 ·rcases List.mem_append.mp hz with hz | hz
  ·exact c.le z hz
  ·rw [List.mem_singleton.mp hz]; exact h
 ·rcases Nat.lt_or_ge j b with ja | ja
  ·exact List.mem_append_left _ (c.v j ja)
  ·have:j=b:=by lia
   subst this
   exact List.mem_append_right _ (by simp)
theorem ChI.fin {ks:List Kind} {fl:List (Int × Int)} {f:Rc→Int} {p:Rc} {ns:List Int} {a b n:Nat} (c:ChI ks fl f p ns a b n) (G:GOk ks fl f p) (ha:wR p≤(a:Int)+1) (hb:hR p≤(b:Int)+1):f p∈ns:=by
 rcases Zjf G with e | ⟨e,k,hk,o,e2⟩ | ⟨⟨u,k⟩,hc,e⟩
 ·rw [e]; exact c.o
 ·rw [e2]; exact c.k e k hk o
 ·rw [e]
  rcases Zhz hc with ⟨eu,k1,k2⟩ | ⟨eu,k1,k2⟩
  ·have eu:u=true:=eu
   subst eu
   have k1:1≤k:=k1
   have k2:k < wR p:=k2
   have:=c.u (k - 1).toNat (by lia)
   rw [show 1+(((k - 1).toNat:Nat):Int)=k from by lia] at this
   exact this
  ·have eu:u=false:=eu
   subst eu
   have k1:1≤k:=k1
   have k2:k < hR p:=k2
   have:=c.v (k - 1).toNat (by lia)
   rw [show 1+(((k - 1).toNat:Nat):Int)=k from by lia] at this
   exact this
theorem Zgl {f:Addr} {fd:FuncData} (F:Fun K "_law_choices" "_law_choices" Zba f fd) (T:Txt mg tk) (D__law_is_of:DefOk P w K mg base 1 "_law_is_of" ["_law_kind_here","_law_width","_law_height"] Zhk) (D__law_clear:DefOk P w K mg base 1 "_law_clear" ["_law_block","_law_flaws"] Zfa):FnOk P w K mg base CX0 2 f fd ["_law_found","_law_kinds","_law_flaws","_law_block"] sp_lch:=by
 have S:=Zij
 refine F.ok S (fun vs H Q E h=>?_) (fun cdv A outer s H vs Q E hr h=>?_)
 ·obtain ⟨d,kn,fa,a,p,ks,fl,W,T,L,g,rfl,_⟩:=h; rfl
 ·obtain ⟨d,kn,fa,a,p,ks,fl,W,T',L,g,rfl,hd,hk,few,hfl,fewf,ha,ins,W7,T7,need,G,q⟩:=h
  have hu:=Zkw hr
  have ins':0≤p.1∧p.1 < p.2.2.1∧p.2.2.1≤T'∧0≤p.2.1∧p.2.1 < p.2.2.2∧p.2.2.2≤W:=ins
  have low:=(Zf4 G).2
  obtain ⟨tC,hC,kC⟩:∃ rd,PSs (cxOf CX0 P w K mg base N_lch "_law_choices" (Zac Zba) f cdv A outer s H E).nox ((Zak Zba).drop 3) rd∧∀ (l:Addr) (ns:List Int) (H1:Hp),Same H H1→H l=none→H1 l=some (.lst (ns.map V.int))→ChI ks fl g p ns 0 0 9 →
    rd { nx:=fun _ H'=>Q .non H',rt:=Q } [some (.ref d),some (.ref kn),some (.ref fa),some (.ref a),some (.int p.1),some (.int p.2.1),some (.int p.2.2.1),some (.int p.2.2.2),some (.ref l),none] H1:=by
   refine ⟨_,(Zaf (Zcj PassesOwn.never rfl (Zc2 rfl T.z_range (Zaa (Zaw Zbc (pv 5) Zae) (Zaa (pv 7) Zad))) (Zan (i:=9) S.nd rfl (Or.inl rfl)) (Zag (Zb3 (Ze6 PySem.F.plainAttrs_list PySem.F.slot_list_append PySem.F.type_list_append Zbn (pv 8) (Zaa (Zaw Zbc (Zc8 hu (pv 0) (Za3 (Zaa (pv 4) (Zaa (pv 5) (Zaa (pv 6) (Zaa (pv 9) Zad))))) (fun _ _=>rfl)) (Zc8 hu (pv 0) (Za3 (Zaa (pv 4) (Zaa (pv 9) (Zaa (pv 6) (Zaa (pv 7) Zad))))) (fun _ _=>rfl))) Zad)))))
   (Zaf (Zcj PassesOwn.never rfl (Zc2 rfl T.z_range (Zaa (Zaw Zbc (pv 4) Zae) (Zaa (pv 6) Zad))) (Zan (i:=9) S.nd rfl (Or.inl rfl)) (Zag (Zb3 (Ze6 PySem.F.plainAttrs_list PySem.F.slot_list_append PySem.F.type_list_append Zbn (pv 8) (Zaa (Zaw Zbc (Zc8 hu (pv 0) (Za3 (Zaa (pv 4) (Zaa (pv 5) (Zaa (pv 9) (Zaa (pv 7) Zad))))) (fun _ _=>rfl)) (Zc8 hu (pv 0) (Za3 (Zaa (pv 9) (Zaa (pv 5) (Zaa (pv 6) (Zaa (pv 7) Zad))))) (fun _ _=>rfl))) Zad)))))
   (Zag (Zaq (pv 8))))),?_⟩
   intro l ns H1 s1 nl el c1
   have look:∀ {H':Hp} {c:Addr} {r:Rc},Same H H'→Pc H' c r.1 r.2.1 r.2.2.1 r.2.2.2→InS W T' r→DGet H' d (.ref c) (some (.int (g r))):=fun {H' c r} s' e m=>by
    have dg:=DGet.t (k:=ky4 r) (s' _ _ hd) (show H' c=some (.tup ((ky4 r).map kV)) from e)
    rw [Zdi _ L r (need r m)] at dg
    exact dg
   refine ⟨_,rfl,_,_,rfl,rfl,_,rfl,_,_,rfl,⟨by lia,by lia,by lia,by lia⟩,Zc3 (lo:=p.2.1+1) (n:=(p.2.2.2 - (p.2.1+1)).toNat) (fun i σ H'=>(∃ y,σ=[some (.ref d),some (.ref kn),some (.ref fa),some (.ref a),some (.int p.1),some (.int p.2.1),some (.int p.2.2.1),some (.int p.2.2.2),some (.ref l),y])∧Same H H'∧∃ ns:List Int,H' l=some (.lst (ns.map V.int))∧ChI ks fl g p ns i 0 (9+i)) ⟨⟨none,rfl⟩,s1,ns,el,c1⟩ ?_ ?_⟩
   ·rintro i σ H2 hi ⟨⟨y,rfl⟩,s2,ms,em,c2⟩
    have hi:(i:Int) < p.2.2.2 - p.2.1 - 1:=by lia
    have hc:(true,1+(i:Int))∈cutsL (wR p) (hR p):=in_cuts (by lia) (by rw [if_pos rfl]; show 1+(i:Int) < p.2.2.2 - p.2.1; lia)
    obtain ⟨ia,ib,_,_,_,_⟩:=Zjk ins hc
    refine ⟨_,rfl,.inl ⟨rfl,_,SqL.of em⟩,_,rfl,_,rfl,_,rfl,_,rfl,_,rfl,lenOk 4,fun q1 n1=>?_⟩
    have y1:Same H2 (upd H2 q1 (.tup [.int p.1,.int p.2.1,.int p.2.2.1,.int (p.2.1+1+(i:Int))])):=Same.new n1
    have e1:(upd H2 q1 (.tup [.int p.1,.int p.2.1,.int p.2.2.1,.int (p.2.1+1+(i:Int))])) q1=some (.tup [.int p.1,.int p.2.1,.int p.2.2.1,.int (p.2.1+1+(i:Int))]):=Zab
    generalize upd H2 q1 (.tup [.int p.1,.int p.2.1,.int p.2.2.1,.int (p.2.1+1+(i:Int))])=H3 at y1 e1 ⊢
    rw [Int.add_assoc] at e1
    refine ⟨d,_,rfl,look (r:=pA p (true,1+(i:Int))) (s2.trans y1) e1 ia,_,rfl,_,rfl,_,rfl,_,rfl,_,rfl,lenOk 4,fun q2 n2=>?_⟩
    have y2:Same H3 (upd H3 q2 (.tup [.int p.1,.int (p.2.1+1+(i:Int)),.int p.2.2.1,.int p.2.2.2])):=Same.new n2
    have e2:(upd H3 q2 (.tup [.int p.1,.int (p.2.1+1+(i:Int)),.int p.2.2.1,.int p.2.2.2])) q2=some (.tup [.int p.1,.int (p.2.1+1+(i:Int)),.int p.2.2.1,.int p.2.2.2]):=Zab
    generalize upd H3 q2 (.tup [.int p.1,.int (p.2.1+1+(i:Int)),.int p.2.2.1,.int p.2.2.2])=H4 at y2 e2 ⊢
    rw [Int.add_assoc] at e2
    have s4:=s2.trans (y1.trans y2)
    have em4:=y2 _ _ (y1 _ _ em)
    have cl:=c2.len
    refine ⟨d,_,rfl,look (r:=pB p (true,1+(i:Int))) s4 e2 ib,_,_,rfl,rfl,l,_,_,rfl,rfl,em4,Zar (by rw [List.length_map]; lia),⟨_,rfl⟩,fun x o e=>by rw [Zaj (Zah e nl)]; exact s4 x o e,ms++[twoR g p (true,1+(i:Int))],by rw [Zab,List.map_append]; rfl,c2.addU (low _ hc)⟩
   ·rintro σ H2 ⟨⟨y,rfl⟩,s2,ms,em,c2⟩
    have cl:=c2.len
    refine ⟨_,rfl,_,_,rfl,rfl,_,rfl,_,_,rfl,⟨by lia,by lia,by lia,by lia⟩,Zc3 (lo:=p.1+1) (n:=(p.2.2.1 - (p.1+1)).toNat) (fun i σ H'=>(∃ y,σ=[some (.ref d),some (.ref kn),some (.ref fa),some (.ref a),some (.int p.1),some (.int p.2.1),some (.int p.2.2.1),some (.int p.2.2.2),some (.ref l),y])∧Same H H'∧∃ ns:List Int,H' l=some (.lst (ns.map V.int))∧ChI ks fl g p ns (p.2.2.2 - (p.2.1+1)).toNat i (9+(p.2.2.2 - (p.2.1+1)).toNat+i)) ⟨⟨y,rfl⟩,s2,ms,em,c2⟩ ?_ ?_⟩
    ·rintro i σ H2 hi ⟨⟨y,rfl⟩,s2,ms,em,c2⟩
     have hi:(i:Int) < p.2.2.1 - p.1 - 1:=by lia
     have hc:(false,1+(i:Int))∈cutsL (wR p) (hR p):=in_cuts (by lia) (by rw [if_neg Bool.false_ne_true]; show 1+(i:Int) < p.2.2.1 - p.1; lia)
     obtain ⟨ia,ib,_,_,_,_⟩:=Zjk ins hc
     refine ⟨_,rfl,.inl ⟨rfl,_,SqL.of em⟩,_,rfl,_,rfl,_,rfl,_,rfl,_,rfl,lenOk 4,fun q1 n1=>?_⟩
     have y1:Same H2 (upd H2 q1 (.tup [.int p.1,.int p.2.1,.int (p.1+1+(i:Int)),.int p.2.2.2])):=Same.new n1
     have e1:(upd H2 q1 (.tup [.int p.1,.int p.2.1,.int (p.1+1+(i:Int)),.int p.2.2.2])) q1=some (.tup [.int p.1,.int p.2.1,.int (p.1+1+(i:Int)),.int p.2.2.2]):=Zab
     generalize upd H2 q1 (.tup [.int p.1,.int p.2.1,.int (p.1+1+(i:Int)),.int p.2.2.2])=H3 at y1 e1 ⊢
     rw [Int.add_assoc] at e1
     refine ⟨d,_,rfl,look (r:=pA p (false,1+(i:Int))) (s2.trans y1) e1 ia,_,rfl,_,rfl,_,rfl,_,rfl,_,rfl,lenOk 4,fun q2 n2=>?_⟩
     have y2:Same H3 (upd H3 q2 (.tup [.int (p.1+1+(i:Int)),.int p.2.1,.int p.2.2.1,.int p.2.2.2])):=Same.new n2
     have e2:(upd H3 q2 (.tup [.int (p.1+1+(i:Int)),.int p.2.1,.int p.2.2.1,.int p.2.2.2])) q2=some (.tup [.int (p.1+1+(i:Int)),.int p.2.1,.int p.2.2.1,.int p.2.2.2]):=Zab
     generalize upd H3 q2 (.tup [.int (p.1+1+(i:Int)),.int p.2.1,.int p.2.2.1,.int p.2.2.2])=H4 at y2 e2 ⊢
     rw [Int.add_assoc] at e2
     have s4:=s2.trans (y1.trans y2)
     have em4:=y2 _ _ (y1 _ _ em)
     have cl:=c2.len
     refine ⟨d,_,rfl,look (r:=pB p (false,1+(i:Int))) s4 e2 ib,_,_,rfl,rfl,l,_,_,rfl,rfl,em4,Zar (by rw [List.length_map]; lia),⟨_,rfl⟩,fun x o e=>by rw [Zaj (Zah e nl)]; exact s4 x o e,ms++[twoR g p (false,1+(i:Int))],by rw [Zab,List.map_append]; rfl,c2.addV (low _ hc)⟩
    ·rintro σ H3 ⟨⟨y,rfl⟩,s3,ms,em,c3⟩
     exact ⟨_,rfl,q l ms H3 s3 em (c3.fin G (by show p.2.2.2 - p.2.1≤_; lia) (by show p.2.2.1 - p.1≤_; lia)) c3.le⟩
  refine ⟨_,(Zaf (ps_asg (pv 3) (Zdl rfl (Zat (Zan (i:=4) S.nd rfl (Or.inr rfl)) (Zat (Zan (i:=5) S.nd rfl (Or.inr rfl)) (Zat (Zan (i:=6) S.nd rfl (Or.inr rfl)) (Zat (Zan (i:=7) S.nd rfl (Or.inr rfl)) Zcv))))))
   (Zaf (Zay (i:=8) S.nd rfl (Or.inl rfl) (Zck (Zaa Zae Zad)))
   (Zaf (Zbi (Zbs (Zax D__law_clear hr (Zaa (pv 3) (Zaa (pv 2) Zad)))) (Zag (Zay (i:=8) S.nd rfl (Or.inl rfl) (Zaw op_cat (pv 8) (pe_compF rfl (Zdk (pv 1)) (fun _ _ _ _ _=>(Zan (i:=0) (show List.Nodup (["_law_kind_here","_law_right","_law_left","_law_bottom","_law_top"]:List Str) from by decide +kernel) rfl (Or.inl rfl))) (fun _ _ _ _ _=>(Zbs (Zax D__law_is_of hr (Zaa (pv 0) (Zaa (Zaw Zdm (pv 1) (pv 2)) (Zaa (Zaw Zdm (pv 3) (pv 4)) Zad)))))) (fun _ _ _ _ _=>(Zao (ix_tupK (K:=K)) (pv 0) Zae (fun _ _=>rfl))) (N:=["_law_kind_here","_law_right","_law_left","_law_bottom","_law_top"]) (fr:=[none,some 7,some 5,some 6,some 4]))))) Zas)
   hC))),?_⟩
  refine ⟨_,rfl,a,_,rfl,SqT.of ha,rfl,_,_,rfl,_,_,rfl,_,_,rfl,_,_,rfl,rfl,?_⟩
  refine ⟨lenOk 1,fun z0 n0=>?_⟩
  have s1:Same H (upd H z0 (.lst [.int 0])):=Same.new n0
  have e0:(upd H z0 (.lst [.int 0])) z0=some (.lst [.int 0]):=Zab
  generalize upd H z0 (.lst [.int 0])=H1 at s1 e0 ⊢
  refine ⟨_,rfl,_,rfl,a,fa,p,fl,rfl,s1 _ _ ha,hfl.same s1,fewf,_,rfl,ite3 (fun cl=>?_) (fun cl=>?_)⟩
  ·have nf:foul fl p=false:=by
    cases e:foul fl p with
    | false=>rfl
    | true=>rw [e] at cl; cases cl
   obtain ⟨ts,hb,ht,hts⟩:=id hk
   have ln:ts.length=ks.length:=by rw [← hts,List.length_map]
   have sz:(refs ts).length≤sizeLine:=Nat.le_of_lt (Zar (by rw [Zav]; lia))
   refine ⟨_,rfl,_,rfl,kn,rfl,⟨_,SqL.of (s1 _ _ hb)⟩,fun acc na=>comp_listF (K:=K) (a:=kn) (ys:=refs ts) (fun i zs σ H'=>(∃ y,σ=[y,some (.int p.2.2.2),some (.int p.2.1),some (.int p.2.2.1),some (.int p.1)])∧Same H1 H'∧∃ ms:List Int,zs=ms.map V.int∧(∀ m∈ms,m≤g p)∧∀ k∈ks.take i,ofK k (wR p) (hR p)=true→k.2.2.1∈ms) ⟨⟨none,rfl⟩,Same.new na,[],rfl,(fun m hm=>nomatch hm),fun k hk=>nomatch hk⟩ (fun i zs σ H' _ _ hp=>SqL.of (hp.2.1 _ _ (s1 _ _ hb))) ?_ ?_⟩
   ·rintro i x zs σ H2 hx hi hl' hac ⟨⟨y,rfl⟩,s2,ms,rfl,hms,hin⟩
    obtain ⟨u,hu',rfl⟩:=Zct hx
    have um:=List.mem_of_getElem? hu'
    have hu2:=s2 _ _ (s1 _ _ (ht u um))
    have tk1:ks.take (i+1)=ks.take i++[u.2]:=by rw [← hts,List.take_succ,List.getElem?_map,hu']; rfl
    refine ⟨_,rfl,_,rfl,_,rfl,_,_,rfl,rfl,_,rfl,_,rfl,_,_,rfl,rfl,u.1,u.2,wR p,hR p,rfl,hu2,fun H3 s3=>⟨_,rfl,?_⟩⟩
    cases c:ofK u.2 (wR p) (hR p) with
    | true =>
     refine ⟨_,rfl,u.1,_,_,_,rfl,rfl,SqT.of (s3 _ _ hu2),Zie,fNx.mk sz hi hl' (s3 _ _ hac) ⟨⟨_,rfl⟩,fun d o e=>by rw [Zaj (Zah e na)]; exact s3 _ _ (s2 d o e),ms++[u.2.2.2.1],by rw [List.map_append]; rfl,fun m hm=>?_,fun k hk o=>?_⟩⟩
     ·rcases List.mem_append.mp hm with hm | hm
      ·exact hms m hm
      ·rw [List.mem_singleton.mp hm]
       exact Zh1 G nf (by rw [← hts]; exact List.mem_map.mpr ⟨u,um,rfl⟩) c
     ·rw [tk1] at hk
      rcases List.mem_append.mp hk with hk | hk
      ·exact List.mem_append_left _ (hin k hk o)
      ·rw [List.mem_singleton.mp hk]; exact List.mem_append_right _ (by simp)
    | false =>
     refine fSk.mk hi hl' (s3 _ _ hac) ⟨⟨_,rfl⟩,s2.trans s3,ms,rfl,hms,fun k hk o=>?_⟩
     rw [tk1] at hk
     rcases List.mem_append.mp hk with hk | hk
     ·exact hin k hk o
     ·rw [List.mem_singleton.mp hk,c] at o; cases o
   ·rintro zs σ H2 hl' hac ⟨_,s2,ms,rfl,hms,hin⟩
    rw [Zav] at hl'
    have lm:ms.length≤8:=by rw [List.length_map] at hl'; lia
    rw [Zav,ln,List.take_length] at hin
    refine ⟨z0,acc,_,_,rfl,rfl,s2 _ _ e0,hac,Nat.le_of_lt (Zar (by show 1+(ms.map V.int).length≤1000; rw [List.length_map]; lia)),fun r1 m1=>?_⟩
    have s3:Same H2 (upd H2 r1 (.lst ([.int 0]++ms.map V.int))):=Same.new m1
    have s02:=s1.trans s2
    refine kC r1 (0 :: ms) _ (s02.trans s3) (Zd0 s02 m1) Zab ⟨fun z hz=>?_,by simp,fun _ k hk o=>List.mem_cons_of_mem _ (hin k hk o),fun j hj=>absurd hj (Nat.not_lt_zero _),fun j hj=>absurd hj (Nat.not_lt_zero _),by rw [List.length_cons]; lia⟩
    rcases List.mem_cons.mp hz with e | e
    ·rw [e]; exact gok_nn G
    ·exact hms z e
  ·have fo:foul fl p=true:=by
    cases e:foul fl p with
    | true=>rfl
    | false=>rw [e] at cl; cases cl
   refine kC z0 [0] _ s1 n0 e0 ⟨fun z hz=>?_,by simp,fun e=>absurd (fo.symm.trans e) (by decide),fun j hj=>absurd hj (Nat.not_lt_zero _),fun j hj=>absurd hj (Nat.not_lt_zero _),by decide⟩
   rw [List.mem_singleton.mp hz]; exact gok_nn G
def Zj8:Sp:=fun vs H Q _=>∃ (d kn fa:Addr) (ks:List Kind) (fl:List (Int × Int)) (W T:Int) (L:List Rc) (f:Rc→Int),vs=[.ref d,.ref kn,.ref fa,.int W,.int T]∧1≤W∧W≤7∧1≤T∧T≤7∧H d=some (.dT (tabR L fun p=>.int (f p)))∧KindsAt H kn ks∧ks.length≤8∧SizesAt H fa fl∧fl.length≤49∧L.Nodup∧(∀ p,p∈L↔InS W T p)∧(∀ p,InS W T p→GOk ks fl f p) ∧
 ∀ H',Same H H'→Q (.bl true) H'
theorem rects_cnt:∀ a b:Fin 8,((rectsL a.1 b.1).length:Int)=(a.1:Int) * ((a.1:Int)+1) / 2 * ((b.1:Int) * ((b.1:Int)+1) / 2):=by decide +kernel
theorem tab_cnt {W T:Int} {L:List Rc} (w1:1≤W) (w2:W≤7) (h1:1≤T) (h2:T≤7) (nd:L.Nodup) (m:∀ p,p∈L↔InS W T p):(L.length:Int)=W * (W+1) / 2 * (T * (T+1) / 2):=by
 have ew:((W.toNat:Nat):Int)=W:=by lia
 have et:((T.toNat:Nat):Int)=T:=by lia
 have e:L.Perm (rectsL W.toNat T.toNat):=(List.perm_ext_iff_of_nodup nd (rects_nd _ _)).mpr fun p=>by rw [m p,mem_rects,ew,et]
 have:=rects_cnt ⟨W.toNat,by lia⟩ ⟨T.toNat,by lia⟩
 rw [e.length_eq,this]
 show (W.toNat:Int) * ((W.toNat:Int)+1) / 2 * ((T.toNat:Int) * ((T.toNat:Int)+1) / 2)=_
 rw [ew,et]
abbrev N_ltab:List Str:=["_law_found","_law_kinds","_law_flaws","_law_width","_law_height","_law_high","_law_wide","_law_top","_law_left","_law_block"]
theorem Zlb:Zap N_ltab ["_law_found","_law_kinds","_law_flaws","_law_width","_law_height"] (Zac Zb9):=⟨rfl,rfl,rfl,by decide +kernel,rfl,by decide +kernel,by decide +kernel⟩
theorem Zi7 {f:Addr} {fd:FuncData} (F:Fun K "_law_table" "_law_table" Zb9 f fd) (T:Txt mg tk) (D__law_whole:DefOk P w K mg base 1 "_law_whole" ["_law_found"] Zd9) (D__law_choices:DefOk P w K mg base 2 "_law_choices" ["_law_found","_law_kinds","_law_flaws","_law_block"] sp_lch):FnOk P w K mg base CX0 3 f fd ["_law_found","_law_kinds","_law_flaws","_law_width","_law_height"] Zj8:=by
 have S:=Zlb
 refine F.ok S (fun vs H Q E h=>?_) (fun cdv A outer s H vs Q E hr h=>?_)
 ·obtain ⟨d,kn,fa,ks,fl,W,T,L,g,rfl,_⟩:=h; rfl
 ·obtain ⟨d,kn,fa,ks,fl,W,T',L,g,rfl,W1,W7,T1,T7,hd,hk,few,hfl,fewf,nL,mL,G,q⟩:=h
  have hu:=Zkw hr
  refine ⟨_,(Zaf (Zcj PassesOwn.never rfl (Zc2 rfl T.z_range (Zaa Zae (Zaa (Zaw Zbc (pv 4) Zae) Zad))) (Zan (i:=5) S.nd rfl (Or.inl rfl)) (Zag (Zcj PassesOwn.never rfl (Zc2 rfl T.z_range (Zaa Zae (Zaa (Zaw Zbc (pv 3) Zae) Zad))) (Zan (i:=6) S.nd rfl (Or.inl rfl)) (Zag (Zcj PassesOwn.never rfl (Zdo rfl T.z_range (Zaa (Zaw Zbc (Zaw Zdm (pv 4) (pv 5)) Zae) Zad)) (Zan (i:=7) S.nd rfl (Or.inl rfl)) (Zag (Zcj PassesOwn.never rfl (Zdo rfl T.z_range (Zaa (Zaw Zbc (Zaw Zdm (pv 3) (pv 6)) Zae) Zad)) (Zan (i:=8) S.nd rfl (Or.inl rfl)) (Zaf (Zay (i:=9) S.nd rfl (Or.inl rfl) (Za3 (Zaa (pv 7) (Zaa (pv 8) (Zaa (Zaw Zbc (pv 7) (pv 5)) (Zaa (Zaw Zbc (pv 8) (pv 6)) Zad))))))
   (Zaf (Zbi (PW.pt (Zfm (pt_cmp (pc_dnotin hu (pv 9) (pv 0))) (Zdz (Zci (Zbs (Zax D__law_whole hr (Zaa (Zc8 hu (pv 0) (pv 9) (fun _ _=>rfl)) Zad))))))) (Zag (Zaq Zer)) Zas)
   (Zag (Zbi (Za0 op_ne (Zc8 hu (pv 0) (pv 9) (fun _ _=>rfl)) (Za2 call_max1 rfl T.z_max rfl (Zaa (Zax D__law_choices hr (Zaa (pv 0) (Zaa (pv 1) (Zaa (pv 2) (Zaa (pv 9) Zad))))) Zad)) (nomark _)) (Zag (Zaq Zer)) Zas)))))))))))
   (Zag (Zaq (Zd3 Zgi (Za2 call_lenT rfl T.z_len rfl (Zaa (pv 0) Zad)) (Zaw Zd4 (Zaw Zfb (Zaw Zd4 (pv 3) (Zaw Zbc (pv 3) Zae)) Zae) (Zaw Zfb (Zaw Zd4 (pv 4) (Zaw Zbc (pv 4) Zae)) Zae)) (nomark _))))),?_⟩
  refine ⟨_,rfl,_,_,rfl,rfl,1,T'+1,rfl,⟨by lia,by lia,by lia,by lia⟩,Zc3 (lo:=1) (n:=(T'+1 - 1).toNat) (fun i σ H'=>(∃ x5 x6 x7 x8 x9,σ=[some (.ref d),some (.ref kn),some (.ref fa),some (.int W),some (.int T'),x5,x6,x7,x8,x9])∧Same H H') ⟨⟨none,none,none,none,none,rfl⟩,Same.refl H⟩ ?_ ?_⟩
  ·rintro i σ H1 hi ⟨⟨x5,x6,x7,x8,x9,rfl⟩,s1⟩
   refine ⟨_,rfl,_,_,rfl,rfl,1,W+1,rfl,⟨by lia,by lia,by lia,by lia⟩,Zc3 (lo:=1) (n:=(W+1 - 1).toNat) (fun j σ H'=>(∃ x6 x7 x8 x9,σ=[some (.ref d),some (.ref kn),some (.ref fa),some (.int W),some (.int T'),some (.int (1+(i:Int))),x6,x7,x8,x9])∧Same H H') ⟨⟨_,_,_,_,rfl⟩,s1⟩ ?_ ?_⟩
   ·rintro j σ H2 hj ⟨⟨x6,x7,x8,x9,rfl⟩,s2⟩
    refine ⟨_,rfl,_,rfl,_,_,rfl,rfl,_,_,rfl,rfl,T' - (1+(i:Int))+1,rfl,by lia,by lia,Zc3 (lo:=0) (n:=(T' - (1+(i:Int))+1).toNat) (fun k σ H'=>(∃ x7 x8 x9,σ=[some (.ref d),some (.ref kn),some (.ref fa),some (.int W),some (.int T'),some (.int (1+(i:Int))),some (.int (1+(j:Int))),x7,x8,x9])∧Same H H') ⟨⟨_,_,_,rfl⟩,s2⟩ ?_ ?_⟩
    ·rintro k σ H3 hk' ⟨⟨x7,x8,x9,rfl⟩,s3⟩
     refine ⟨_,rfl,_,rfl,_,_,rfl,rfl,_,_,rfl,rfl,W - (1+(j:Int))+1,rfl,by lia,by lia,Zc3 (lo:=0) (n:=(W - (1+(j:Int))+1).toNat) (fun m σ H'=>(∃ x8 x9,σ=[some (.ref d),some (.ref kn),some (.ref fa),some (.int W),some (.int T'),some (.int (1+(i:Int))),some (.int (1+(j:Int))),some (.int (0+(k:Int))),x8,x9])∧Same H H') ⟨⟨_,_,rfl⟩,s3⟩ ?_ ?_⟩
     ·rintro m σ H4 hm ⟨⟨x8,x9,rfl⟩,s4⟩
      refine ⟨_,rfl,_,rfl,_,rfl,_,rfl,_,_,rfl,rfl,_,rfl,_,rfl,_,_,rfl,rfl,lenOk 4,fun bk nb=>?_⟩
      obtain ⟨p,ep⟩:∃ p:Rc,p=(0+(k:Int),0+(m:Int),0+(k:Int)+(1+(i:Int)),0+(m:Int)+(1+(j:Int))):=⟨_,rfl⟩
      have ins:InS W T' p:=by rw [ep]; exact ⟨by show 0≤0+(k:Int); lia,by show 0+(k:Int) < 0+(k:Int)+(1+(i:Int)); lia,by show 0+(k:Int)+(1+(i:Int))≤T'; lia,by show 0≤0+(m:Int); lia,by show 0+(m:Int) < 0+(m:Int)+(1+(j:Int)); lia,by show 0+(m:Int)+(1+(j:Int))≤W; lia⟩
      have y5:Same H4 (upd H4 bk (.tup [.int (0+(k:Int)),.int (0+(m:Int)),.int (0+(k:Int)+(1+(i:Int))),.int (0+(m:Int)+(1+(j:Int)))])):=Same.new nb
      have e5:Pc (upd H4 bk (.tup [.int (0+(k:Int)),.int (0+(m:Int)),.int (0+(k:Int)+(1+(i:Int))),.int (0+(m:Int)+(1+(j:Int)))])) bk p.1 p.2.1 p.2.2.1 p.2.2.2:=by rw [ep]; exact Zab
      generalize upd H4 bk (.tup [.int (0+(k:Int)),.int (0+(m:Int)),.int (0+(k:Int)+(1+(i:Int))),.int (0+(m:Int)+(1+(j:Int)))])=H5 at y5 e5 ⊢
      have s5:=s4.trans y5
      have dg:DGet H5 d (.ref bk) (some (.int (g p))):=by
       have dg:=DGet.t (k:=ky4 p) (s5 _ _ hd) (show H5 bk=some (.tup ((ky4 p).map kV)) from e5)
       rw [Zdi _ L p ((mL p).mpr ins)] at dg
       exact dg
      refine ⟨_,rfl,_,rfl,d,_,rfl,dg,_,rfl,iteN rfl ⟨_,rfl,_,rfl,d,_,rfl,dg,g p,rfl,_,rfl,iteF ?_⟩⟩
      refine ⟨_,rfl,_,rfl,d,_,rfl,dg,_,rfl,_,rfl,_,rfl,_,rfl,d,kn,fa,bk,p,ks,fl,W,T',L,g,rfl,s5 _ _ hd,hk.same s5,few,hfl.same s5,fewf,e5,ins,W7,T7,(fun q hq=>(mL q).mpr hq),G p ins,fun l ns H6 s6 el mem le=>⟨l,ns,rfl,SqL.of el,rfl,(fun z=>by rw [z] at mem; cases mem),fun mx hmx hle=>?_⟩⟩
      have:mx=g p:=Int.le_antisymm (le mx hmx) (hle _ mem)
      subst this
      exact ⟨rfl,_,rfl,iteN (by rw [decide_eq_true rfl]; rfl) ⟨⟨_,_,rfl⟩,s5.trans s6⟩⟩
     ·rintro σ H4 ⟨⟨x8,x9,rfl⟩,s4⟩
      exact ⟨⟨_,_,_,rfl⟩,s4⟩
    ·rintro σ H3 ⟨⟨x7,x8,x9,rfl⟩,s3⟩
     exact ⟨⟨_,_,_,_,rfl⟩,s3⟩
   ·rintro σ H2 ⟨⟨x6,x7,x8,x9,rfl⟩,s2⟩
    exact ⟨⟨_,_,_,_,_,rfl⟩,s2⟩
  ·rintro σ H1 ⟨⟨x5,x6,x7,x8,x9,rfl⟩,s1⟩
   have b0:0≤W * (W+1):=Int.mul_nonneg (by lia) (by lia)
   have b1:W * (W+1)≤7 * 8:=Int.mul_le_mul W7 (by lia) (by lia) (by lia)
   have c0:0≤T' * (T'+1):=Int.mul_nonneg (by lia) (by lia)
   have c1:T' * (T'+1)≤7 * 8:=Int.mul_le_mul T7 (by lia) (by lia) (by lia)
   refine ⟨_,rfl,d,_,rfl,s1 _ _ hd,_,rfl,_,rfl,_,_,rfl,rfl,_,_,rfl,rfl,mul64 (by lia) (by lia) (by lia) (by lia),_,_,rfl,rfl,divL _ (by decide) (by decide),_,rfl,_,rfl,_,_,rfl,rfl,_,_,rfl,rfl,mul64 (by lia) (by lia) (by lia) (by lia),_,_,rfl,rfl,divL _ (by decide) (by decide),_,_,rfl,rfl,mul64 (by lia) (by lia) (by lia) (by lia),rfl,?_⟩
   have e:=tab_cnt W1 W7 T1 T7 nL mL
   rw [Zdj,e,decide_eq_true rfl]
   exact q H1 s1
def Zfi (n:Nat):Sp:=fun vs H Q _=>∃ (v:V) (t:Tr) (a b fa:Addr) (ks:List Kind) (fl:List (Int × Int)) (p:Rk),vs=[v,.ref a,.ref b,.ref fa]∧Told H t v∧H a=some (.tup p.vs)∧FitR p t∧Lay ks fl t p∧KindsAt H b ks∧SizesAt H fa fl∧fl.length≤49∧t.dp < n∧∀ H',Same H H'→Q (.int (wsum ks t)) H'
theorem lsum0 {vs:List V} {H:Hp} {Q:VK} {E:XK}:¬ Zfi 0 vs H Q E:=by
 rintro ⟨v,t,a,b,fa,ks,fl,p,_,_,_,_,_,_,_,_,h,_⟩
 lia
theorem non_in (x y:Int):inV V.non [V.int x,V.int y]=false:=rfl
abbrev N_sum:List Str:=["_law_told_here","_law_block","_law_kinds","_law_flaws","_law_top","_law_left","_law_bottom","_law_right","_law_most","_law_line","_law_parts","_law_sums"]
theorem Zju:Zap N_sum ["_law_told_here","_law_block","_law_kinds","_law_flaws"] (Zac Zca):=⟨rfl,rfl,rfl,by decide +kernel,rfl,by decide +kernel,by decide +kernel⟩
theorem ok_law_sum {f:Addr} {fd:FuncData} {n:Nat} (F:Fun K "_law_sum" "_law_sum" Zca f fd) (T:Txt mg tk) (D__law_is_of:DefOk P w K mg base 1 "_law_is_of" ["_law_kind_here","_law_width","_law_height"] Zhk) (D__law_clear:DefOk P w K mg base 1 "_law_clear" ["_law_block","_law_flaws"] Zfa) (D__law_sum:DefOk P w K mg base (n+3) "_law_sum" ["_law_told_here","_law_block","_law_kinds","_law_flaws"] (Zfi n)):FnOk P w K mg base CX0 (n+4) f fd ["_law_told_here","_law_block","_law_kinds","_law_flaws"] (Zfi (n+1)):=by
 have S:=Zju
 refine F.ok S (fun vs H Q E h=>?_) (fun cdv A outer s H vs Q E hr h=>?_)
 ·obtain ⟨v,t,a,b,fa,ks,fl,p,rfl,_⟩:=h; rfl
 ·obtain ⟨v,t,a,b,fa,ks,fl,p,rfl,ht,ha,fit,lay,hk,hfl,fewf,hd,q⟩:=h
  obtain ⟨t4,h4,k4⟩:∃ rd,PSs (cxOf CX0 P w K mg base N_sum "_law_sum" (Zac Zca) f cdv A outer s H E).nox ((Zak Zca).drop 7) rd∧∀ (b0:Addr) (u:Bool) (k:Int) (v1 v2:V) (y1 y2:Tr) (x8 x9:Option V) (l a1 a2:Addr) (H1:Hp),v=.ref b0→H b0=some (.tup [.str (wd u),.int k,v1,v2])→Told H y1 v1→Told H y2 v2→y1.dp < n→y2.dp < n→FitR (p.fst u k) y1→FitR (p.oth u k) y2→Lay ks fl y1 (p.fst u k)→Lay ks fl y2 (p.oth u k)→wsum ks t=wsum ks y1+wsum ks y2→Same H H1→H1 l=some (.lst [.ref a1,.ref a2])→H1 a1=some (.tup (p.fst u k).vs)→H1 a2=some (.tup (p.oth u k).vs) →
    rd { nx:=fun _ H'=>Q .non H',rt:=Q } [some v,some (.ref a),some (.ref b),some (.ref fa),some (.int p.t),some (.int p.l),some (.int p.b),some (.int p.r),x8,x9,some (.ref l),none] H1:=by
   refine ⟨_,(Zaf (Zay (i:=11) S.nd rfl (Or.inl rfl) (Zck (Zaa (Zax D__law_sum hr (Zaa (Zao Zal (pv 0) Zae (fun _ _=>rfl)) (Zaa (Zao Za9 (pv 10) Zae (fun _ _=>rfl)) (Zaa (pv 2) (Zaa (pv 3) Zad)))) (by omega)) Zad)))
   (Zaf (Zb3 (Ze6 PySem.F.plainAttrs_list PySem.F.slot_list_append PySem.F.type_list_append Zbn (pv 11) (Zaa (Zax D__law_sum hr (Zaa (Zao Zal (pv 0) Zae (fun _ _=>rfl)) (Zaa (Zao Za9 (pv 10) Zae (fun _ _=>rfl)) (Zaa (pv 2) (Zaa (pv 3) Zad)))) (by omega)) Zad)))
   (Zaf (Zbi (Za0 Zi3 Zc7 (pv 11) rfl) (Zag (Zaq Zc7)) Zas)
   (Zag (Zaq (Za2 call_sum rfl T.z_sum rfl (Zaa (pv 11) Zad))))))),?_⟩
   intro b0 u k v1 v2 y1 y2 x8 x9 l a1 a2 H1 ev eb t1 t2 d1 d2 f1 f2 l1 l2 e s1 el p1 p2
   subst ev
   refine ⟨_,rfl,b0,_,_,v1,rfl,rfl,SqT.of (s1 _ _ eb),rfl,_,rfl,l,_,_,.ref a1,rfl,rfl,SqL.of el,rfl,_,rfl,_,rfl,v1,y1,a1,b,fa,ks,fl,p.fst u k,rfl,t1.same s1,p1,f1,l1,hk.same s1,hfl.same s1,fewf,d1,fun H2 s2=>⟨lenOk 1,fun ls nls=>?_⟩⟩
   have s3:Same H2 (upd H2 ls (.lst [.int (wsum ks y1)])):=Same.new nls
   have e3:(upd H2 ls (.lst [.int (wsum ks y1)])) ls=some (.lst [.int (wsum ks y1)]):=Zab
   have nls0:H ls=none:=Zd0 (s1.trans s2) nls
   generalize upd H2 ls (.lst [.int (wsum ks y1)])=H3 at s3 e3 ⊢
   have s13:=s2.trans s3
   have s03:=s1.trans s13
   refine ⟨_,rfl,.inl ⟨rfl,_,SqL.of e3⟩,_,rfl,b0,_,_,v2,rfl,rfl,SqT.of (s03 _ _ eb),rfl,_,rfl,l,_,_,.ref a2,rfl,rfl,SqL.of (s13 _ _ el),rfl,_,rfl,_,rfl,v2,y2,a2,b,fa,ks,fl,p.oth u k,rfl,t2.same s03,s13 _ _ p2,f2,l2,hk.same s03,hfl.same s03,fewf,d2,fun H4 s4=>?_⟩
   have e4:=s4 _ _ e3
   refine ⟨ls,_,_,rfl,rfl,e4,Zar (show 1≤1000 by decide),?_⟩
   have s5:Same H (upd H4 ls (.lst ([.int (wsum ks y1)]++[.int (wsum ks y2)]))):=fun x o ex=>by rw [Zaj (Zah ex nls0)]; exact s4 _ _ (s03 x o ex)
   have e5:(upd H4 ls (.lst ([.int (wsum ks y1)]++[.int (wsum ks y2)]))) ls=some (.lst [.int (wsum ks y1),.int (wsum ks y2)]):=Zab
   generalize upd H4 ls (.lst ([.int (wsum ks y1)]++[.int (wsum ks y2)]))=H5 at s5 e5 ⊢
   refine ⟨_,rfl,ls,_,rfl,.inl (SqL.of e5),rfl,rfl,_,rfl,iteN (by rw [if_neg Bool.false_ne_true]; exact non_in _ _) ?_⟩
   refine ⟨_,rfl,ls,[wsum ks y1,wsum ks y2],rfl,SqL.of e5,rfl,?_⟩
   have:=q H5 s5
   rw [e] at this
   show Q (.int (wsum ks y1+(wsum ks y2+0))) H5
   rw [Int.add_zero]; exact this
  refine ⟨_,(Zaf (ps_asg (pv 1) (Zdl rfl (Zat (Zan (i:=4) S.nd rfl (Or.inl rfl)) (Zat (Zan (i:=5) S.nd rfl (Or.inl rfl)) (Zat (Zan (i:=6) S.nd rfl (Or.inl rfl)) (Zat (Zan (i:=7) S.nd rfl (Or.inl rfl)) Zcv))))))
   (Zaf (Zbi (Za0 Zgi (Zao Zal (pv 0) Zae (fun _ _=>rfl)) Zg3 (nomark _)) (Zaf (Zbi (Za0 op_isN (Zao Zal (pv 0) Zae (fun _ _=>rfl)) Zc7 (nomark _)) (Zag (Zaq Zae)) Zas)
   (Zaf (Zbi (PW.pt (Zfm (Zci (Zhs Zfr Zht Zae (Zao Zal (pv 0) Zae (fun _ _=>rfl)) (Za2 Zcf rfl T.z_len rfl (Zaa (pv 2) Zad)))) (Zdz (Zci (Zbs (Zax D__law_clear hr (Zaa (pv 1) (Zaa (pv 3) Zad)) (by omega))))))) (Zag (Zaq Zc7)) Zas)
   (Zaf (Zbi (Zci (Zbs (Zax D__law_is_of hr (Zaa (Zao Za9 (pv 2) (Zao Zal (pv 0) Zae (fun _ _=>rfl)) (fun _ _=>rfl)) (Zaa (Zaw Zdm (pv 7) (pv 5)) (Zaa (Zaw Zdm (pv 6) (pv 4)) Zad))) (by omega)))) (Zag (Zaq Zc7)) Zas)
   (Zag (Zaq (Zao Zal (Zao Za9 (pv 2) (Zao Zal (pv 0) Zae (fun _ _=>rfl)) (fun _ _=>rfl)) Zae (fun _ _=>rfl))))))) Zas)
   (Zaf (Zay (i:=8) S.nd rfl (Or.inl rfl) (Zao Za9 (Zck (Zaa (Zaw Zdm (pv 6) (pv 4)) (Zaa (Zaw Zdm (pv 7) (pv 5)) Zad))) (Zee call_int1 rfl T.z_int rfl (Zaa (Zd3 Zgi (Zao Zal (pv 0) Zae (fun _ _=>rfl)) Zg3 (nomark _)) Zad)) (fun _ _=>rfl)))
   (Zaf (Zbi (PW.pt (Zfm (Za0 Zht (Zao Zal (pv 0) Zae (fun _ _=>rfl)) Zae (nomark _)) (Zdz (Za0 op_ge (Zao Zal (pv 0) Zae (fun _ _=>rfl)) (pv 8) (nomark _))))) (Zag (Zaq Zc7)) Zas)
   (Zaf (Zay (i:=9) S.nd rfl (Or.inl rfl) (Zaw Zbc (pv 4) (Zao Zal (pv 0) Zae (fun _ _=>rfl))))
   (Zaf (Zay (i:=10) S.nd rfl (Or.inl rfl) (Zck (Zaa (Za3 (Zaa (pv 4) (Zaa (pv 5) (Zaa (pv 9) (Zaa (pv 7) Zad))))) (Zaa (Za3 (Zaa (pv 9) (Zaa (pv 5) (Zaa (pv 6) (Zaa (pv 7) Zad))))) Zad))))
   (Zaf (Zbi (Za0 Zgi (Zao Zal (pv 0) Zae (fun _ _=>rfl)) Zg3 (nomark _)) (Zaf (Zay (i:=9) S.nd rfl (Or.inl rfl) (Zaw Zbc (pv 5) (Zao Zal (pv 0) Zae (fun _ _=>rfl))))
   (Zaf (Zay (i:=10) S.nd rfl (Or.inl rfl) (Zck (Zaa (Za3 (Zaa (pv 4) (Zaa (pv 5) (Zaa (pv 6) (Zaa (pv 9) Zad))))) Zad)))
   (Zag (Zb3 (Ze6 PySem.F.plainAttrs_list PySem.F.slot_list_append PySem.F.type_list_append Zbn (pv 10) (Zaa (Za3 (Zaa (pv 4) (Zaa (pv 9) (Zaa (pv 6) (Zaa (pv 7) Zad))))) Zad)))))) Zas)
   h4))))))),?_⟩
  refine ⟨_,rfl,a,_,rfl,SqT.of ha,rfl,_,_,rfl,_,_,rfl,_,_,rfl,_,_,rfl,rfl,?_⟩
  cases t with
  | whole m =>
   rw [Told] at ht
   obtain ⟨b0,rfl,hb0⟩:=ht
   refine ⟨_,rfl,b0,_,_,_,rfl,rfl,SqT.of hb0,Zcy,rfl,_,rfl,iteP (decide_eq_true rfl) ?_⟩
   cases m with
   | none=>exact ⟨_,rfl,b0,_,_,_,rfl,rfl,SqT.of hb0,Zdh,rfl,_,rfl,iteP (decide_eq_true rfl) (q H (Same.refl H))⟩
   | some i =>
    obtain ⟨i0,li,nf⟩:0≤i∧laid ks p i=true∧foul fl (rcK p)=false:=lay
    have lt:=laid_lt i0 li
    obtain ⟨xs,hb,hlx,at_⟩:=kinds_at hk
    obtain ⟨ka,k,e1,e2,e3⟩:=at_ i i0 lt
    have ofk:ofK k (p.r - p.l) (p.b - p.t)=true:=by
     unfold laid at li
     rw [e3] at li
     exact li
    refine ⟨_,rfl,b0,_,_,_,rfl,rfl,SqT.of hb0,Zdh,rfl,_,rfl,iteN (decide_eq_false (by intro z; cases z)) ?_⟩
    refine ⟨_,rfl,b0,_,_,_,rfl,rfl,SqT.of hb0,Zdh,_,_,rfl,rfl,_,rfl,iteP (decide_eq_true i0) ?_⟩
    refine ⟨_,rfl,b,_,rfl,.inl (SqL.of hb),_,_,rfl,rfl,_,rfl,iteN (show (!decide (i < (xs.length:Int)))=false by rw [decide_eq_true (by rw [hlx]; exact lt)]; rfl) ?_⟩
    refine ⟨_,rfl,_,rfl,a,fa,rcK p,fl,rfl,ha,hfl,fewf,?_⟩
    rw [nf]
    refine ⟨_,rfl,iteF ?_⟩
    refine ⟨_,rfl,_,rfl,b0,_,_,_,rfl,rfl,SqT.of hb0,Zdh,b,_,_,_,rfl,rfl,SqL.of hb,e1,_,rfl,_,rfl,_,_,rfl,rfl,_,rfl,_,rfl,_,_,rfl,rfl,ka,k,_,_,rfl,e2,fun H1 s1=>?_⟩
    rw [ofk]
    refine ⟨_,rfl,iteN rfl ?_⟩
    refine ⟨_,rfl,_,rfl,b0,_,_,_,rfl,rfl,SqT.of (s1 _ _ hb0),Zdh,b,_,_,_,rfl,rfl,SqL.of (s1 _ _ hb),e1,ka,_,_,_,rfl,rfl,SqT.of (s1 _ _ e2),Zie,?_⟩
    have:=q H1 s1
    have ew:wsum ks (.whole (some i))=k.2.2.1:=by show wrth ks i=_; unfold wrth; rw [e3]
    rw [ew] at this
    exact this
  | cut u k y1 y2 =>
   rw [Told] at ht
   obtain ⟨b0,v1,v2,rfl,eb,t1,t2⟩:=ht
   have hd:max y1.dp y2.dp+1 < n+1:=hd
   obtain ⟨⟨k1,k2⟩,f1,f2⟩:=fitR_cut.mp fit
   obtain ⟨l1,l2⟩:=lay
   refine ⟨_,rfl,b0,_,_,_,rfl,rfl,SqT.of eb,Zig,rfl,_,rfl,iteN (wd_whole u) ?_⟩
   refine ⟨_,rfl,_,rfl,_,_,rfl,rfl,_,rfl,_,rfl,_,_,rfl,rfl,lenOk 2,fun L nL=>?_⟩
   have s1:Same H (upd H L (.lst [.int (p.b - p.t),.int (p.r - p.l)])):=Same.new nL
   have e1:(upd H L (.lst [.int (p.b - p.t),.int (p.r - p.l)])) L=some (.lst [.int (p.b - p.t),.int (p.r - p.l)]):=Zab
   generalize upd H L (.lst [.int (p.b - p.t),.int (p.r - p.l)])=H1 at s1 e1 ⊢
   have eb1:=s1 _ _ eb
   refine ⟨_,rfl,b0,_,_,_,rfl,rfl,SqT.of eb1,Zig,rfl,.inr ⟨_,rfl,?_⟩⟩
   rw [wd_eq]
   have big:∀ z:Int,z=p.len u→(decide (k < 1)=false)∧decide (z≤k)=false:=fun z e=>⟨decide_eq_false (by lia),decide_eq_false (by lia)⟩
   refine ⟨L,_,_,.int (p.len u),rfl,rfl,SqL.of e1,by cases u <;> rfl,?_⟩
   refine ⟨_,rfl,b0,_,_,_,rfl,rfl,SqT.of eb1,Zif,_,_,rfl,rfl,_,rfl,iteN (decide_eq_false (by lia)) ?_⟩
   refine ⟨_,rfl,b0,_,_,_,rfl,rfl,SqT.of eb1,Zif,_,rfl,_,_,rfl,rfl,_,rfl,iteN (decide_eq_false (by lia)) ?_⟩
   refine ⟨_,rfl,_,rfl,b0,_,_,_,rfl,rfl,SqT.of eb1,Zif,_,_,rfl,rfl,?_⟩
   refine ⟨_,rfl,_,rfl,_,rfl,_,rfl,lenOk 4,fun q1 n1=>⟨_,rfl,_,rfl,_,rfl,_,rfl,lenOk 4,fun q2 n2=>⟨lenOk 2,fun l nl=>?_⟩⟩⟩
   have y1':Same H1 (upd H1 q1 (.tup [.int p.t,.int p.l,.int (p.t+k),.int p.r])):=Same.new n1
   have e1':(upd H1 q1 (.tup [.int p.t,.int p.l,.int (p.t+k),.int p.r])) q1=some (.tup [.int p.t,.int p.l,.int (p.t+k),.int p.r]):=Zab
   generalize upd H1 q1 (.tup [.int p.t,.int p.l,.int (p.t+k),.int p.r])=H2 at y1' e1' n2 nl ⊢
   have y2':Same H2 (upd H2 q2 (.tup [.int (p.t+k),.int p.l,.int p.b,.int p.r])):=Same.new n2
   have e2':(upd H2 q2 (.tup [.int (p.t+k),.int p.l,.int p.b,.int p.r])) q2=some (.tup [.int (p.t+k),.int p.l,.int p.b,.int p.r]):=Zab
   generalize upd H2 q2 (.tup [.int (p.t+k),.int p.l,.int p.b,.int p.r])=H3 at y2' e2' nl ⊢
   have y3':Same H3 (upd H3 l (.lst [.ref q1,.ref q2])):=Same.new nl
   have e3':(upd H3 l (.lst [.ref q1,.ref q2])) l=some (.lst [.ref q1,.ref q2]):=Zab
   generalize upd H3 l (.lst [.ref q1,.ref q2])=H4 at y3' e3' ⊢
   have s4:=s1.trans (y1'.trans (y2'.trans y3'))
   have eb4:=s4 _ _ eb
   cases u with
   | false =>
    refine ⟨_,rfl,b0,_,_,_,rfl,rfl,SqT.of eb4,Zig,rfl,_,rfl,iteN (by decide) ?_⟩
    exact k4 b0 false k v1 v2 y1 y2 _ _ l q1 q2 H4 rfl eb t1 t2 (by lia) (by lia) f1 f2 l1 l2 rfl s4 e3' (y3' _ _ (y2' _ _ e1')) (y3' _ _ e2')
   | true =>
    refine ⟨_,rfl,b0,_,_,_,rfl,rfl,SqT.of eb4,Zig,rfl,_,rfl,iteP (by decide) ?_⟩
    refine ⟨_,rfl,_,rfl,b0,_,_,_,rfl,rfl,SqT.of eb4,Zif,_,_,rfl,rfl,?_⟩
    refine ⟨_,rfl,_,rfl,_,rfl,_,rfl,lenOk 4,fun q3 n3=>⟨lenOk 1,fun l2' nl2=>?_⟩⟩
    have y4:Same H4 (upd H4 q3 (.tup [.int p.t,.int p.l,.int p.b,.int (p.l+k)])):=Same.new n3
    have e4:(upd H4 q3 (.tup [.int p.t,.int p.l,.int p.b,.int (p.l+k)])) q3=some (.tup [.int p.t,.int p.l,.int p.b,.int (p.l+k)]):=Zab
    generalize upd H4 q3 (.tup [.int p.t,.int p.l,.int p.b,.int (p.l+k)])=H5 at y4 e4 nl2 ⊢
    have nl0:H l2'=none:=Zd0 (s4.trans y4) nl2
    have y5:Same H5 (upd H5 l2' (.lst [.ref q3])):=Same.new nl2
    have e5:(upd H5 l2' (.lst [.ref q3])) l2'=some (.lst [.ref q3]):=Zab
    generalize upd H5 l2' (.lst [.ref q3])=H6 at y5 e5 ⊢
    refine ⟨_,rfl,.inl ⟨rfl,_,SqL.of e5⟩,_,rfl,_,rfl,_,rfl,_,rfl,lenOk 4,fun q4 n4=>?_⟩
    have y6:Same H6 (upd H6 q4 (.tup [.int p.t,.int (p.l+k),.int p.b,.int p.r])):=Same.new n4
    have e6:(upd H6 q4 (.tup [.int p.t,.int (p.l+k),.int p.b,.int p.r])) q4=some (.tup [.int p.t,.int (p.l+k),.int p.b,.int p.r]):=Zab
    generalize upd H6 q4 (.tup [.int p.t,.int (p.l+k),.int p.b,.int p.r])=H7 at y6 e6 ⊢
    have el7:=y6 _ _ e5
    refine ⟨l2',_,_,rfl,rfl,el7,Zar (show 1≤1000 by decide),?_⟩
    have s7:=s4.trans (y4.trans (y5.trans y6))
    refine k4 b0 true k v1 v2 y1 y2 _ _ l2' q3 q4 _ rfl eb t1 t2 (by lia) (by lia) f1 f2 l1 l2 rfl (fun x o ex=>by rw [Zaj (Zah ex nl0)]; exact s7 x o ex) Zab (Zch (y6 _ _ (y5 _ _ e4)) el7) (Zch e6 el7)
def hsh4 (p:Rc):Int:=reduceHash (Builtin.Tuple.tupleHashOf [hashInt p.1,hashInt p.2.1,hashInt p.2.2.1,hashInt p.2.2.2])
def uq (M:Int):List Int→Nat→Bool
 | [],_=>true
 | h :: r,b=>!(b.testBit (h % M).toNat) && uq M r (b ||| 2^(h % M).toNat)
theorem uq_of {M:Int}:∀ {l:List Int} {b:Nat},uq M l b=true→l.Nodup∧∀ h∈l,b.testBit (h % M).toNat=false
 | [],b,_=>⟨List.nodup_nil,fun h hh=>nomatch hh⟩
 | h :: r,b,e=>by
  rw [uq,Bool.and_eq_true] at e
  obtain ⟨e1,e2⟩:=e
  have e1:b.testBit (h % M).toNat=false:=by
   cases z:b.testBit (h % M).toNat with
   | false=>rfl
   | true=>rw [z] at e1; cases e1
  obtain ⟨n,f⟩:=uq_of e2
  refine ⟨List.nodup_cons.mpr ⟨fun hh=>?_,n⟩,fun x hx=>?_⟩
  ·have:=f h hh
   rw [Nat.testBit_or,Nat.testBit_two_pow_self,Bool.or_true] at this
   cases this
  ·rcases List.mem_cons.mp hx with rfl | hx
   ·exact e1
   ·have:=f x hx
    rw [Nat.testBit_or,Bool.or_eq_false_iff] at this
    exact this.1
theorem lone4_ok:((rectsL 7 7).map hsh4).Nodup:=(uq_of (M:=22074) (b:=0) (by decide +kernel)).1
theorem lone_rects {P:Program} {w:World} {W T:Int} {L:List Rc} (hW:W≤7) (hT:T≤7) (nd:L.Nodup) (m:∀ p∈L,InS W T p) (v:Rc→V):LoneK P w (tabR L v):=by
 unfold LoneK tabR
 rw [List.map_map]
 have:∀ (l:List Rc),l.Nodup→(∀ p∈l,p∈rectsL 7 7)→(l.map hsh4).Nodup:=by
  intro l
  induction l with
  | nil=>intro _ _; exact List.nodup_nil
  | cons p l ih =>
   intro n m
   rw [List.nodup_cons] at n
   rw [List.map_cons,List.nodup_cons]
   refine ⟨fun z=>?_,ih n.2 fun q hq=>m q (List.mem_cons_of_mem _ hq)⟩
   obtain ⟨q,hq,e⟩:=List.mem_map.mp z
   have:=inj_of lone4_ok (m p (by simp)) (m q (List.mem_cons_of_mem _ hq)) e.symm
   exact n.1 (this ▸ hq)
 exact this L nd fun p hp=>mem_rects.mpr (by have:=m p hp; unfold InS at this ⊢; lia)
theorem KindsAt.n {H H':Hp} {a:Addr} {ks:List Kind} (h:KindsAt H a ks) (s:SameN H H'):KindsAt H' a ks :=
 let ⟨ts,a,b,c⟩:=h; ⟨ts,s.lst a,fun t ht=>s.tup (b t ht),c⟩
theorem SizesAt.n {H H':Hp} {a:Addr} {ks:List (Int × Int)} (h:SizesAt H a ks) (s:SameN H H'):SizesAt H' a ks :=
 let ⟨ts,a,b,c⟩:=h; ⟨ts,s.lst a,fun t ht=>s.tup (b t ht),c⟩
def pairsD:List (Int × Int)→Ds
 | []=>.nil
 | z :: r=>.cons (pairD z.1 z.2) (pairsD r)
theorem Zi2 {K:PySem.W.Frag} {H:Hp}:∀ (ts:List (Addr × Int × Int)),(∀ t∈ts,H t.1=some (.tup [.int t.2.1,.int t.2.2]))→DIss K H (pairsD (ts.map (·.2))) (refs ts)
 | [],_=>by
  show DIss K H .nil []
  rw [DIss]
 | t :: r,h=>by
  show DIss K H (.cons (pairD t.2.1 t.2.2) (pairsD (r.map (·.2)))) (.ref t.1 :: refs r)
  rw [DIss]
  exact ⟨_,_,rfl,Zcw (SqT.of (h t (by simp))),Zi2 r fun u hu=>h u (List.mem_cons_of_mem _ hu)⟩
theorem Zes:∀ (zs:List (Int × Int)),deps (pairsD zs)≤1
 | []=>by rw [pairsD,deps]; lia
 | z :: r=>by
  have:=Zes r
  rw [pairsD,pairD,deps,dep,deps,dep,deps,dep,deps]
  lia
theorem SizesAt.data {K:PySem.W.Frag} {H:Hp} {l:Addr} {ks:List (Int × Int)} (h:SizesAt H l ks):DIs K H (.lst (pairsD ks)) (.ref l):=by
 obtain ⟨ts,e1,e2,rfl⟩:=h
 rw [DIs]
 exact ⟨l,_,rfl,SqL.of e1,Zi2 ts e2⟩
theorem pairsL_dep (ks:List (Int × Int)):dep (.lst (pairsD ks))≤50:=by have:=Zes ks; rw [dep]; lia
def twoD (ks:List Kind) (fl:List (Int × Int)):D:=.lst (.cons (.lst (kindsD ks)) (.cons (.lst (pairsD fl)) .nil))
theorem twoD_is {K:PySem.W.Frag} {H:Hp} {l a b:Addr} {ks:List Kind} {fl:List (Int × Int)} (e:H l=some (.lst [.ref a,.ref b])) (h:KindsAt H a ks) (g:SizesAt H b fl):DIs K H (twoD ks fl) (.ref l):=by
 unfold twoD
 rw [DIs]
 refine ⟨l,_,rfl,SqL.of e,?_⟩
 rw [DIss]
 refine ⟨_,_,rfl,h.data,?_⟩
 rw [DIss]
 exact ⟨_,_,rfl,g.data,by rw [DIss]⟩
theorem twoD_dep (ks:List Kind) (fl:List (Int × Int)):dep (twoD ks fl)≤50:=by
 have h1:=Zg5 ks
 have h2:=Zes fl
 unfold twoD
 rw [dep,deps,dep,deps,dep,deps]; lia
theorem gok_eq {W T:Int} {ks:List Kind} {fl:List (Int × Int)} {f g:Rc→Int} (G:∀ p,InS W T p→GOk ks fl f p) (G':∀ p,InS W T p→GOk ks fl g p):∀ p,InS W T p→f p=g p:=fun p hp =>
 Int.le_antisymm (gok_le G (fun p hp=>gok_nn (G' p hp)) (fun p hp hf k hk o=>Zh1 (G' p hp) hf hk o) (fun p hp c hc=>(Zf4 (G' p hp)).2 c hc) _ p rfl hp)
  (gok_le G' (fun p hp=>gok_nn (G p hp)) (fun p hp hf k hk o=>Zh1 (G p hp) hf hk o) (fun p hp c hc=>(Zf4 (G p hp)).2 c hc) _ p rfl hp)
theorem cut_ints24 (ns:List Int):∃ cs:List Int,cutV (ns.map V.int) (some 12) (some 24)=cs.map V.int∧cs.length≤12:=by
 unfold cutV
 refine ⟨(ns.drop (HT.sIx (ns.map V.int).length 0 (some 12))).take (HT.sIx (ns.map V.int).length (ns.map V.int).length (some 24) - HT.sIx (ns.map V.int).length 0 (some 12)),by rw [← List.map_drop,← List.map_take],?_⟩
 rw [List.length_take,List.length_drop,List.length_map]
 unfold HT.sIx
 simp only []
 rw [if_neg (by lia),if_neg (by lia)]
 show min (min (24:Int).toNat ns.length - min (12:Int).toNat ns.length) _≤12
 lia
theorem rep_refs {α:Type} (us:List (Addr × α)):∀ k:Nat,(List.replicate k (refs us)).flatten=refs (List.replicate k us).flatten
 | 0=>rfl
 | k+1=>by rw [List.replicate_succ,List.replicate_succ,List.flatten_cons,List.flatten_cons,rep_refs us k]; unfold refs; rw [List.map_append]
theorem cut49 {α:Type} (us:List (Addr × α)):cutV (refs us) none (some 49)=refs (us.take 49):=by
 unfold cutV
 have e0:HT.sIx (refs us).length 0 none=0:=rfl
 have e1:HT.sIx (refs us).length (refs us).length (some 49)=min 49 us.length:=by
  unfold HT.sIx
  simp only []
  rw [if_neg (by lia),Zav]; rfl
 rw [e0,e1,List.drop_zero,Nat.sub_zero]
 unfold refs
 rw [← List.map_take]
 congr 1
 rcases Nat.le_total 49 us.length with h | h
 ·rw [Nat.min_eq_left h]
 ·rw [Nat.min_eq_right h,List.take_length,List.take_of_length_le h]
theorem most_in {v:V} (h:v∈([.int 7,.int 4,.int 4,.int 4]:List V)):∃ z:Int,v=.int z∧1≤z∧z≤7:=by
 simp only [List.mem_cons,List.not_mem_nil,or_false] at h
 rcases h with rfl | rfl | rfl | rfl
 ·exact ⟨7,rfl,by decide,by decide⟩
 ·exact ⟨4,rfl,by decide,by decide⟩
 ·exact ⟨4,rfl,by decide,by decide⟩
 ·exact ⟨4,rfl,by decide,by decide⟩
abbrev N_law:List Str:=["_law_script","_law_most","_law_sides","_law_kinds","_law_flaws","_law_cell_here","_law_handed","_law_found","_law_told_here","_law_block","_law_kept"]
theorem S_law:Zap N_law ["_law_script"] (Zac Zfl):=⟨rfl,rfl,rfl,by decide +kernel,rfl,by decide +kernel,by decide +kernel⟩
def sp_law (tb2:Addr) (K:PySem.W.Frag):Sp:=fun vs H Q _=>∃ (a:Addr) (ns:List Int),vs=[.ref a]∧SqL K H a (ns.map V.int)∧ns.length≤63∧H tb2=some (.tbl #[])∧∀ H',Q (.bl true) H'
theorem ok_law {f tb2:Addr} {fd:FuncData} (F:Fun K "law" "law" Zfl f fd) (T:Txt mg tk) (D__law_cell:DefOk P w K mg base 1 "_law_cell" ["_law_script","_law_k"] (Zkd K)) (D__law_draw:DefOk P w K mg base 1 "_law_draw" ["_law_cell_here","_law_nth","_law_many"] Zhm) (D__law_kind:DefOk P w K mg base 2 "_law_kind" ["_law_cell_here"] Zhj) (D_flawed_worths:DefOk P w K mg base 6 "flawed_worths" ["width","height","kinds","flaws"] sp_fw) (D_flawed_best:DefOk P w K mg base 6 "flawed_best" ["width","height","kinds","flaws"] (Zhl tb2 cW cU cL)) (D__law_told:DefOk P w K mg base 17 "_law_told" ["_law_tree"] (Zea cW cU cL 14))
  (D__law_table:DefOk P w K mg base 3 "_law_table" ["_law_found","_law_kinds","_law_flaws","_law_width","_law_height"] Zj8) (D__law_sum:DefOk P w K mg base 17 "_law_sum" ["_law_told_here","_law_block","_law_kinds","_law_flaws"] (Zfi 14)):FnOk P w K mg base CX0 18 f fd ["_law_script"] (sp_law tb2 K):=by
 have S:=S_law
 refine F.ok S (fun vs H Q E h=>?_) (fun cdv A outer s H vs Q E hr h=>?_)
 ·obtain ⟨a,ns,rfl,_⟩:=h; rfl
 ·obtain ⟨a,ns,rfl,hS,hlen,htb2,q⟩:=h
  have hu:=Zkw hr
  have hu0:=hr.units0
  obtain ⟨tB,hB,kB⟩:∃ rd,PSs (cxOf CX0 P w K mg base N_law "law" (Zac Zfl) f cdv A outer s H E).nox ((Zak Zfl).drop 6) rd∧∀ (mo sd kn fa:Addr) (W T':Int) (ks:List Kind) (fl:List (Int × Int)) (x5:Option V) (H4:Hp),Same H H4→H4 sd=some (.lst [.int W,.int T'])→1≤W→W≤7→1≤T'→T'≤7→KindsAt H4 kn ks→ks.length≤8→(∀ k∈ks,KOk k)→SizesAt H4 fa fl→FlOk W T' fl →
    rd { nx:=fun _ H'=>Q .non H',rt:=Q } [some (.ref a),some (.ref mo),some (.ref sd),some (.ref kn),some (.ref fa),x5,none,none,none,none,none] H4:=by
   refine ⟨_,(Zaf (Zay (i:=6) S.nd rfl (Or.inl rfl) (Zck (Zaa (Zee Ze4 rfl T.z_list rfl (Zaa (pv 3) Zad)) (Zaa (Zee Ze4 rfl T.z_list rfl (Zaa (pv 4) Zad)) Zad))))
   (Zaf (Zay (i:=7) S.nd rfl (Or.inl rfl) (Zax D_flawed_worths hr (Zaa (Zao Za9 (pv 2) Zae (fun _ _=>rfl)) (Zaa (Zao Za9 (pv 2) Zae (fun _ _=>rfl)) (Zaa (Zao Za9 (pv 6) Zae (fun _ _=>rfl)) (Zaa (Zao Za9 (pv 6) Zae (fun _ _=>rfl)) Zad))))))
   (Zaf (Zbi (Zci (Zbs (Za2 Zk3 rfl T.z_isinstance rfl (Zaa (pv 7) (Zaa (Zdp (v:=.ty "dict") rfl T.z_dict rfl rfl) Zad))))) (Zag (Zaq Zer)) Zas)
   (Zaf (Zbi (Zci (Zbs (Zax D__law_table hr (Zaa (pv 7) (Zaa (pv 3) (Zaa (pv 4) (Zaa (Zao Za9 (pv 2) Zae (fun _ _=>rfl)) (Zaa (Zao Za9 (pv 2) Zae (fun _ _=>rfl)) Zad)))))))) (Zag (Zaq Zer)) Zas)
   (Zaf (Zay (i:=8) S.nd rfl (Or.inl rfl) (Zax D__law_told hr (Zaa (Zax D_flawed_best hr (Zaa (Zao Za9 (pv 2) Zae (fun _ _=>rfl)) (Zaa (Zao Za9 (pv 2) Zae (fun _ _=>rfl)) (Zaa (Zao Za9 (pv 6) Zae (fun _ _=>rfl)) (Zaa (Zao Za9 (pv 6) Zae (fun _ _=>rfl)) Zad))))) Zad)))
   (Zaf (Zbi (PW.pt (Zfm (Za0 op_isN (pv 8) Zc7 (nomark _)) (Zdz (Za0 (op_neD hr) (pv 6) (Zck (Zaa (pv 3) (Zaa (pv 4) Zad))) (nomark _))))) (Zag (Zaq Zer)) Zas)
   (Zaf (Zay (i:=9) S.nd rfl (Or.inl rfl) (Za3 (Zaa Zae (Zaa Zae (Zaa (Zao Za9 (pv 2) Zae (fun _ _=>rfl)) (Zaa (Zao Za9 (pv 2) Zae (fun _ _=>rfl)) Zad))))))
   (Zaf (Zbi (Za0 op_ne (Zax D__law_sum hr (Zaa (pv 8) (Zaa (pv 9) (Zaa (pv 3) (Zaa (pv 4) Zad))))) (Zc8 hu (pv 7) (pv 9) (fun _ _=>rfl)) (nomark _)) (Zag (Zaq Zer)) Zas)
   (Zaf (Zay (i:=10) S.nd rfl (Or.inl rfl) (Zee Zjo rfl T.z_dict rfl (Zaa (pv 7) Zad)))
   (Zaf (Zb3 (Zi1 PySem.F.plainAttrs_dict PySem.F.slot_dict_clear PySem.F.type_dict_clear mt_clearT (pv 7)))
   (Zag (Zaq (Zd3 (op_eqDT hu0 hu) (Zax D_flawed_worths hr (Zaa (Zao Za9 (pv 2) Zae (fun _ _=>rfl)) (Zaa (Zao Za9 (pv 2) Zae (fun _ _=>rfl)) (Zaa (pv 3) (Zaa (pv 4) Zad))))) (pv 10) (nomark _)))))))))))))),?_⟩
   intro mo sd kn fa W T' ks fl x5 H4 s04 esd W1 W2 T1 T2 kn4 few ok fa4 flok
   have tb24:TabOk lamQ2 lamN2 tb2 H4:=TabOk.same (TabOk.new htb2) s04
   obtain ⟨ts,ek,hkt,mk⟩:=id kn4
   obtain ⟨us,ef,hft,mf⟩:=id fa4
   refine ⟨_,rfl,kn,_,rfl,.inl (SqL.of ek),fun h1 n1=>?_⟩
   have z1:Same H4 (upd H4 h1 (.lst (refs ts))):=Same.new n1
   have hk1:KindsAt (upd H4 h1 (.lst (refs ts))) h1 ks:=⟨ts,Zab,fun t ht=>z1 _ _ (hkt t ht),mk⟩
   generalize upd H4 h1 (.lst (refs ts))=H5 at z1 hk1 ⊢
   refine ⟨_,rfl,fa,_,rfl,.inl (SqL.of (z1 _ _ ef)),fun h2 n2=>?_⟩
   have z2:Same H5 (upd H5 h2 (.lst (refs us))):=Same.new n2
   have hf2:SizesAt (upd H5 h2 (.lst (refs us))) h2 fl:=⟨us,Zab,fun t ht=>z2 _ _ (z1 _ _ (hft t ht)),mf⟩
   generalize upd H5 h2 (.lst (refs us))=H6 at z2 hf2 ⊢
   refine ⟨lenOk 2,fun hd nh=>?_⟩
   have z3:Same H6 (upd H6 hd (.lst [.ref h1,.ref h2])):=Same.new nh
   have ehd:(upd H6 hd (.lst [.ref h1,.ref h2])) hd=some (.lst [.ref h1,.ref h2]):=Zab
   generalize upd H6 hd (.lst [.ref h1,.ref h2])=H7 at z3 ehd ⊢
   have hk7:=(hk1.same z2).same z3
   have hf7:=hf2.same z3
   have s47:=z1.trans (z2.trans z3)
   have esd7:=s47 _ _ esd
   refine ⟨_,rfl,sd,_,_,_,rfl,rfl,SqL.of esd7,Zcy,_,rfl,sd,_,_,_,rfl,rfl,SqL.of esd7,Zdh,_,rfl,hd,_,_,_,rfl,rfl,SqL.of ehd,Zcy,_,rfl,hd,_,_,_,rfl,rfl,SqL.of ehd,Zdh,W,T',h1,h2,ks,fl,rfl,W1,W2,T1,T2,hk7,few,ok,hf7,flok,fun d L g H8 s8 nd ed nL lL mL good=>?_⟩
   have s48:=s47.trans s8
   have esd8:=s8 _ _ esd7
   refine ⟨_,rfl,d,_,rfl,ed,_,rfl,iteF ?_⟩
   refine ⟨_,rfl,_,rfl,_,rfl,_,rfl,sd,_,_,_,rfl,rfl,SqL.of esd8,Zcy,_,rfl,sd,_,_,_,rfl,rfl,SqL.of esd8,Zdh,d,kn,fa,ks,fl,W,T',L,g,rfl,W1,W2,T1,T2,ed,kn4.same s48,few,fa4.same s48,flok.1,nL,mL,good,fun H9 s9=>⟨_,rfl,iteF ?_⟩⟩
   have s49:=s48.trans s9
   have s79:=s8.trans s9
   have esd9:=s9 _ _ esd8
   have ehd9:=s79 _ _ ehd
   have tb29:=tb24.same s49
   refine ⟨_,rfl,sd,_,_,_,rfl,rfl,SqL.of esd9,Zcy,_,rfl,sd,_,_,_,rfl,rfl,SqL.of esd9,Zdh,_,rfl,hd,_,_,_,rfl,rfl,SqL.of ehd9,Zcy,_,rfl,hd,_,_,_,rfl,rfl,SqL.of ehd9,Zdh,W,T',h1,h2,ks,fl,rfl,W1,W2,T1,T2,hk7.same s79,few,ok,hf7.same s79,flok,tb29,fun v t g2 H10 sx tb210 good2 ob fit lay sm=>?_⟩
   have dp:=Zji W1 T1 fit
   have sN:SameN H9 H10:=sx.toN tb29.tbl
   have ed10:H10 d=some (.dT (tabR L fun p=>.int (g p))):=sN _ _ (s9 _ _ ed) (fun _ z=>nomatch z)
   refine ⟨v,t,rfl,ob,by lia,fun v' H11 s11 told=>?_⟩
   have sN11:=sN.trans s11.n
   have ed11:=s11 _ _ ed10
   refine ⟨_,rfl,rfl,_,rfl,iteN (Zd7 told) ?_⟩
   refine ⟨_,rfl,_,rfl,_,rfl,lenOk 2,fun nl nn=>?_⟩
   have y12:Same H11 (upd H11 nl (.lst [.ref kn,.ref fa])):=Same.new nn
   have e12:(upd H11 nl (.lst [.ref kn,.ref fa])) nl=some (.lst [.ref kn,.ref fa]):=Zab
   generalize upd H11 nl (.lst [.ref kn,.ref fa])=H12 at y12 e12 ⊢
   have sN12:=sN11.trans y12.n
   have kn12:=(kn4.same s49).n sN12
   have fa12:=(fa4.same s49).n sN12
   have D1:DIs K H12 (twoD ks fl) (.ref hd):=twoD_is (sN12.lst ehd9) ((hk7.same s79).n sN12) ((hf7.same s79).n sN12)
   have D2:DIs K H12 (twoD ks fl) (.ref nl):=twoD_is e12 kn12 fa12
   refine ⟨_,_,D1,D2,⟨_,rfl⟩,⟨_,rfl⟩,twoD_dep ks fl,_,rfl,iteN (by rw [if_pos rfl,Zfc _ D2]; rfl) ?_⟩
   have esd12:=sN12.lst esd9
   refine ⟨_,rfl,sd,_,_,_,rfl,rfl,SqL.of esd12,Zdh,_,rfl,sd,_,_,_,rfl,rfl,SqL.of esd12,Zcy,lenOk 4,fun bk nb=>?_⟩
   have y13:Same H12 (upd H12 bk (.tup [.int 0,.int 0,.int T',.int W])):=Same.new nb
   have e13:(upd H12 bk (.tup [.int 0,.int 0,.int T',.int W])) bk=some (.tup [.int 0,.int 0,.int T',.int W]):=Zab
   generalize upd H12 bk (.tup [.int 0,.int 0,.int T',.int W])=H13 at y13 e13 ⊢
   have whole:InS W T' (0,0,T',W):=⟨Int.le_refl _,(show (0:Int) < T' from by lia),Int.le_refl _,Int.le_refl _,(show (0:Int) < W from by lia),Int.le_refl _⟩
   refine ⟨_,rfl,_,rfl,_,rfl,_,rfl,v',t,bk,kn,fa,ks,fl,⟨0,0,T',W⟩,rfl,(told.same y12).same y13,e13,fit0 fit,lay,kn12.same y13,fa12.same y13,flok.1,by lia,fun H14 s14=>?_⟩
   have s114:=y12.trans (y13.trans s14)
   have ed14:=s114 _ _ ed11
   have dg:=DGet.t (k:=ky4 (0,0,T',W)) ed14 (show H14 bk=some (.tup ((ky4 (0,0,T',W)).map kV)) from s14 _ _ e13)
   rw [Zdi _ L _ ((mL _).mpr whole)] at dg
   have due:wsum ks t=g (0,0,T',W):=sm.trans (gok_eq good2 good _ whole)
   refine ⟨_,rfl,_,rfl,d,_,rfl,dg,rfl,_,rfl,iteN (by rw [due,decide_eq_true rfl]; rfl) ?_⟩
   have sN14:=sN11.trans s114.n
   have ne:tabR L (fun p=>V.int (g p))≠[]:=fun z=>by
    have z2:=congrArg List.length z
    rw [Zdj] at z2
    have z3:=List.length_pos_of_mem ((mL _).mpr whole)
    rw [z2] at z3
    exact absurd z3 (Nat.lt_irrefl 0)
   refine ⟨_,rfl,d,_,rfl,ed14,ne,lone_rects W2 T2 nL (fun p hp=>(mL p).mp hp) _,fun kp nkp=>?_⟩
   have y15:Same H14 (upd H14 kp (.dT (tabR L fun p=>.int (g p)))):=Same.new nkp
   have e15:(upd H14 kp (.dT (tabR L fun p=>.int (g p)))) kp=some (.dT (tabR L fun p=>.int (g p))):=Zab
   have kd:kp≠d:=fun z=>by rw [z,ed14] at nkp; cases nkp
   generalize upd H14 kp (.dT (tabR L fun p=>.int (g p)))=H15 at y15 e15 ⊢
   have ed15:=y15 _ _ ed14
   refine ⟨_,rfl,.inr (.inr (.inl ⟨rfl,.inr ⟨_,ed15⟩⟩)),d,_,rfl,rfl,ed15,?_⟩
   have s16:SameX d H15 (upd H15 d (.dT [])):=SameX.upd
   generalize upd H15 d (.dT [])=H16 at s16 ⊢
   have ekp:H16 kp=some (.dT (tabR L fun p=>.int (g p))):=s16 _ _ kd e15
   have sN15:=sN14.trans y15.n
   have kn16:KindsAt H16 kn ks:=((kn4.same s49).n sN15).sameR (.inl ed15) s16
   have fa16:SizesAt H16 fa fl:=((fa4.same s49).n sN15).sameR (.inl ed15) s16
   have esd15:=sN15.lst esd9
   have esd16:H16 sd=some (.lst [.int W,.int T']):=s16 _ _ (fun z=>by rw [z,ed15] at esd15; cases esd15) esd15
   refine ⟨_,rfl,sd,_,_,_,rfl,rfl,SqL.of esd16,Zcy,_,rfl,sd,_,_,_,rfl,rfl,SqL.of esd16,Zdh,_,rfl,_,rfl,W,T',kn,fa,ks,fl,rfl,W1,W2,T1,T2,kn16,few,ok,fa16,flok,fun c L2 g3 H17 s17 nc ec nL2 lL2 mL2 good3=>?_⟩
   refine ⟨_,rfl,c,kp,_,_,rfl,rfl,ec,s17 _ _ ekp,?_,fun p hp=>?_,q _⟩
   ·rw [Zdj,Zdj]
    exact ((List.perm_ext_iff_of_nodup nL2 nL).mpr fun p=>by rw [mL2 p,mL p]).length_eq
   ·obtain ⟨z,hz,rfl⟩:=List.mem_map.mp hp
    have iz:=(mL2 z).mp hz
    refine ⟨g3 z,rfl,?_⟩
    show valV (tabR L _) (ky4 z)=_
    rw [Zdi _ L z ((mL z).mpr iz),gok_eq good good3 z iz]
  refine ⟨_,(Zaf (Zay (i:=1) S.nd rfl (Or.inr rfl) (Zeq rfl (Zdo rfl T.z_range (Zaa Zae Zad)) (fun _ _ _ _ _=>(Zan (i:=0) (show List.Nodup (["_law_k","_law_script"]:List Str) from by decide +kernel) rfl (Or.inl rfl))) (fun _ _ _ _ _=>(Zao (ix_listK (K:=K)) (Zck (Zaa Zae (Zaa Zae (Zaa Zae (Zaa Zae Zad))))) (Zaw Ze2 (Zax D__law_cell hr (Zaa (pv 1) (Zaa (pv 0) Zad))) Zae) (fun _ _=>rfl))) (N:=["_law_k","_law_script"]) (fr:=[none,some 0])))
   (Zaf (Zg2 rfl (Zan (i:=2) S.nd rfl (Or.inl rfl)) (Zdo rfl T.z_range (Zaa Zae Zad)) (fun _ _ _ _ _=>(Zan (i:=0) (show List.Nodup (["_law_k","_law_most","_law_script"]:List Str) from by decide +kernel) rfl (Or.inl rfl))) (fun _ _ _ _ _=>(Zaw Zbc Zae (Zaw Ze2 (Zaw Zfb (Zax D__law_cell hr (Zaa (pv 2) (Zaa (pv 0) Zad))) Zae) (Zao (ix_listK (K:=K)) (pv 1) (pv 0) (fun _ _=>rfl))))) (N:=["_law_k","_law_most","_law_script"]) (fr:=[none,some 1,some 0]))
   (Zaf (Zg2 rfl (Zan (i:=3) S.nd rfl (Or.inl rfl)) (Zdk (Zec Zkf (pv 0) (Zd2 Zae) (Zd2 (Zaw Zbc Zae (Zaw Ze2 (Zax D__law_cell hr (Zaa (pv 0) (Zaa Zae Zad))) Zae))))) (fun _ _ _ _ _=>(Zan (i:=0) (show List.Nodup (["_law_cell_here"]:List Str) from by decide +kernel) rfl (Or.inl rfl))) (fun _ _ _ _ _=>(Zax D__law_kind hr (Zaa (pv 0) Zad))) (N:=["_law_cell_here"]) (fr:=[none]))
   (Zaf (Zay (i:=4) S.nd rfl (Or.inl rfl) (Zck Zad))
   (Zaf (Zcj PassesOwn.never rfl (Zdk (Zec Zkf (pv 0) (Zd2 Zae) (Zd2 Zae))) (Zan (i:=5) S.nd rfl (Or.inl rfl)) (Zag (Zb3 (Ze6 PySem.F.plainAttrs_list PySem.F.slot_list_append PySem.F.type_list_append Zbn (pv 4) (Zaa (Za3 (Zaa (Zax D__law_draw hr (Zaa (pv 5) (Zaa Zae (Zaa (Zao Za9 (pv 2) Zae (fun _ _=>rfl)) Zad)))) (Zaa (Zax D__law_draw hr (Zaa (pv 5) (Zaa Zae (Zaa (Zao Za9 (pv 2) Zae (fun _ _=>rfl)) Zad)))) Zad))) Zad)))))
   (Zaf (Zbi (PW.pt (Ziz (Za0 Zgi (Zaw Ze2 (Zax D__law_cell hr (Zaa (pv 0) (Zaa Zae Zad))) Zae) Zae (nomark _)) (Zfn (Za0 (op_neD hr) (pv 4) (Zck Zad) (nomark _))))) (Zag (Zay (i:=4) S.nd rfl (Or.inl rfl) (Zec Zkf (Zaw op_rep (pv 4) Zae) Zkh (Zd2 Zae)))) Zas)
   hB)))))),?_⟩
  refine ⟨2,rfl,by decide,by decide,fun mo nmo=>Zdg (lo:=0) (n:=2) (fun i zs σ H'=>(∃ y,σ=[y,some (.ref a)])∧Same H H'∧∃ ms:List Int,zs=ms.map V.int∧∀ m∈ms,1≤m∧m≤7) ⟨⟨none,rfl⟩,Same.new nmo,[],rfl,fun m hm=>nomatch hm⟩ ?_ ?_⟩
  ·rintro i zs σ H2 hi hz ha ⟨⟨y,rfl⟩,s2,ms,rfl,hms⟩
   refine ⟨lenOk 4,fun L nL=>?_⟩
   have s3:Same H2 (upd H2 L (.lst [.int 7,.int 4,.int 4,.int 4])):=Same.new nL
   have eL:(upd H2 L (.lst [.int 7,.int 4,.int 4,.int 4])) L=some (.lst [.int 7,.int 4,.int 4,.int 4]):=Zab
   generalize upd H2 L (.lst [.int 7,.int 4,.int 4,.int 4])=H3 at s3 eL ⊢
   refine ⟨_,rfl,_,rfl,a,ns,_,rfl,(s2.trans s3).seq hS,by lia,fun z2=>⟨_,_,rfl,rfl,(show (0:Int) < 4 from by decide),?_⟩⟩
   obtain ⟨v,hv,hm⟩:=atI_in (L:=[.int 7,.int 4,.int 4,.int 4]) (i:=z2 % 4) (Int.emod_nonneg _ (by decide)) (Int.emod_lt_of_pos _ (by decide))
   obtain ⟨m,rfl,m1,m2⟩:=most_in hm
   refine ⟨L,_,_,.int m,rfl,rfl,SqL.of eL,hv,cNx.mk (Nat.le_of_lt (Zar (by lia))) hi hz (s3 _ _ ha) ⟨⟨_,rfl⟩,fun x o e=>by rw [Zaj (Zah e nmo)]; exact s3 _ _ (s2 x o e),ms++[m],by rw [List.map_append]; rfl,fun q hq=>?_⟩⟩
   rcases List.mem_append.mp hq with hq | hq
   ·exact hms q hq
   ·rw [List.mem_singleton.mp hq]; exact ⟨m1,m2⟩
  rintro zs0 σ0 H1 hz0 emo ⟨_,s1,mss,rfl,hmss⟩
  rw [List.length_map] at hz0
  refine ⟨2,rfl,by decide,by decide,fun acc na=>Zdg (lo:=0) (n:=2) (fun i zs σ H'=>(∃ y,σ=[y,some (.ref mo),some (.ref a)])∧Same H1 H'∧∃ ms:List Int,zs=ms.map V.int∧∀ m∈ms,1≤m∧m≤7) ⟨⟨none,rfl⟩,Same.new na,[],rfl,fun m hm=>nomatch hm⟩ ?_ ?_⟩
  ·rintro i zs σ H2 hi hz ha ⟨⟨y,rfl⟩,s2,ms,rfl,hms⟩
   obtain ⟨v,hv,hm⟩:=atI_in (L:=mss.map V.int) (i:=0+(i:Int)) (by lia) (by rw [List.length_map,hz0]; lia)
   obtain ⟨m,hmm,rfl⟩:=List.mem_map.mp hm
   obtain ⟨m1,m2⟩:=hmss m hmm
   refine ⟨_,rfl,_,rfl,a,ns,_,rfl,(s1.trans s2).seq hS,by lia,fun z1=>⟨_,_,rfl,rfl,divL _ (by decide) (by decide),_,rfl,_,rfl,mo,_,_,.int m,rfl,rfl,SqL.of (s2 _ _ emo),hv,?_⟩⟩
   have r0:=Int.emod_nonneg (z1 / 4) (b:=m) (by lia)
   have r1:=Int.emod_lt_of_pos (z1 / 4) (b:=m) (by lia)
   refine ⟨_,_,rfl,rfl,by lia,_,_,rfl,rfl,cNx.mk (Nat.le_of_lt (Zar (by lia))) hi hz ha ⟨⟨_,rfl⟩,fun x o e=>by rw [Zaj (Zah e na)]; exact s2 x o e,ms++[1+z1 / 4 % m],by rw [List.map_append]; rfl,fun q hq=>?_⟩⟩
   rcases List.mem_append.mp hq with hq | hq
   ·exact hms q hq
   ·rw [List.mem_singleton.mp hq]; lia
  rintro zs σ H2 hz esd ⟨_,s2,ms,rfl,hms⟩
  obtain ⟨W,T',rfl⟩:∃ W T',ms=[W,T']:=by
   match ms,hz with
   | [x,y],_=>exact ⟨x,y,rfl⟩
  obtain ⟨W1,W2⟩:=hms W (by simp)
  obtain ⟨T1,T2⟩:=hms T' (by simp)
  have esd:H2 acc=some (.lst [.int W,.int T']):=esd
  have s02:=s1.trans s2
  refine ⟨_,rfl,4,rfl,_,rfl,a,ns,2,rfl,s02.seq hS,by decide,fun z=>⟨_,_,rfl,rfl,(show (0:Int) < 9 from by decide),_,_,rfl,rfl,_,rfl,a,ns.map V.int,rfl,s02.seq hS,fun p np=>?_⟩⟩
  obtain ⟨cs,ecs,lcs⟩:=cut_ints4 ns (z % 9) (Int.emod_nonneg _ (by decide)) (by have:=Int.emod_lt_of_pos z (b:=9) (by decide); lia)
  rw [ecs]
  have s3:Same H2 (upd H2 p (.lst (cs.map V.int))):=Same.new np
  have ep:(upd H2 p (.lst (cs.map V.int))) p=some (.lst (cs.map V.int)):=Zab
  generalize upd H2 p (.lst (cs.map V.int))=H3 at s3 ep ⊢
  have sz:(cs.map V.int).length≤sizeLine:=Nat.le_of_lt (Zar (by rw [List.length_map]; lia))
  refine ⟨p,rfl,⟨_,SqL.of ep⟩,fun kn nk=>Zga (K:=K) (a:=p) (ys:=cs.map V.int) (fun i zs σ H'=>(∃ y,σ=[y])∧Same H3 H'∧∃ ts:List (Addr × Kind),zs=refs ts∧∀ t∈ts,H' t.1=some (.tup [.int t.2.1,.int t.2.2.1,.int t.2.2.2.1,.bl t.2.2.2.2])∧KOk t.2) ⟨⟨none,rfl⟩,Same.new nk,[],rfl,fun t ht=>nomatch ht⟩ (fun i zs σ H' _ _ hp=>SqL.of (hp.2.1 _ _ ep)) ?_ ?_⟩
  ·rintro i x zs σ H4 hx hi hz' ha ⟨⟨y,rfl⟩,s4,ts,rfl,hts⟩
   obtain ⟨c,_,rfl⟩:=ints_get hx
   refine ⟨_,rfl,c,rfl,fun kd b H5 s5 eb okb nb=>?_⟩
   have ha5:=s5 _ _ ha
   refine cNx.mk sz hi hz' ha5 ⟨⟨_,rfl⟩,fun x o e=>by rw [Zaj (Zah e nk)]; exact s5 _ _ (s4 x o e),ts++[(b,kd)],by rw [refs,refs,List.map_append]; rfl,fun t ht=>?_⟩
   rcases List.mem_append.mp ht with ht | ht
   ·exact ⟨Zch (s5 _ _ (hts t ht).1) ha5,(hts t ht).2⟩
   ·rw [List.mem_singleton.mp ht]
    exact ⟨Zch eb ha5,okb⟩
  rintro zs σ H4 hz' ha4 ⟨_,s4,ts,rfl,hts⟩
  rw [Zav,List.length_map] at hz'
  have few:(ts.map (·.2)).length≤8:=by rw [List.length_map]; lia
  have ok:∀ k∈ts.map (·.2),KOk k:=fun k hk=>by
   obtain ⟨t,ht,rfl⟩:=List.mem_map.mp hk
   exact (hts t ht).2
  have hk4:KindsAt H4 kn (ts.map (·.2)):=⟨ts,ha4,fun t ht=>(hts t ht).1,rfl⟩
  generalize ts.map (·.2)=ks at few ok hk4
  have s24:=s3.trans s4
  have s04:=s02.trans s24
  have esd4:=s24 _ _ esd
  refine ⟨lenOk 0,fun fa nf=>?_⟩
  have nf0:H fa=none:=Zd0 s04 nf
  have s5:Same H4 (upd H4 fa (.lst [])):=Same.new nf
  have e5:(upd H4 fa (.lst [])) fa=some (.lst []):=Zab
  generalize upd H4 fa (.lst [])=H5 at s5 e5 ⊢
  refine ⟨_,rfl,12,rfl,24,rfl,a,_,rfl,(s04.trans s5).seq hS,fun l nl=>?_⟩
  obtain ⟨ds,eds,lds⟩:=cut_ints24 ns
  rw [eds]
  have s6:Same H5 (upd H5 l (.lst (ds.map V.int))):=Same.new nl
  have e6:(upd H5 l (.lst (ds.map V.int))) l=some (.lst (ds.map V.int)):=Zab
  have fl':l≠fa:=fun z=>by rw [z,e5] at nl; cases nl
  generalize upd H5 l (.lst (ds.map V.int))=H6 at s6 e6 ⊢
  have s46:=s5.trans s6
  refine ⟨l,rfl,⟨_,SqL.of e6⟩,Zeh (K:=K) (a:=l) (xs:=ds.map V.int) (fun i σ H'=>(∃ y,σ=[some (.ref a),some (.ref mo),some (.ref acc),some (.ref kn),some (.ref fa),y,none,none,none,none,none])∧Same H4 H'∧H' l=some (.lst (ds.map V.int))∧∃ us:List (Addr × Int × Int),H' fa=some (.lst (refs us))∧(∀ u∈us,H' u.1=some (.tup [.int u.2.1,.int u.2.2]))∧(∀ u∈us,0≤u.2.1∧u.2.1 < T'∧0≤u.2.2∧u.2.2 < W)∧us.length≤i) ⟨⟨none,rfl⟩,s46,e6,[],s6 _ _ e5,(fun u hu=>nomatch hu),(fun u hu=>nomatch hu),Nat.le_refl _⟩ (fun i σ H' _ hp=>SqL.of hp.2.2.1) ?_ ?_⟩
  ·rintro i x σ H7 hx ⟨⟨y,rfl⟩,s7,el7,us,eu,hus,bus,lus⟩
   obtain ⟨c,hc,rfl⟩:=ints_get hx
   have li:i < ds.length:=(List.getElem?_eq_some_iff.mp hc).1
   have esd7:=s7 _ _ esd4
   refine ⟨_,rfl,.inl ⟨rfl,_,SqL.of eu⟩,_,rfl,_,rfl,acc,_,_,_,rfl,rfl,SqL.of esd7,Zdh,c,15,T',rfl,by decide,by decide,by lia,fun r1 a1 a2=>⟨_,rfl,_,rfl,acc,_,_,_,rfl,rfl,SqL.of esd7,Zcy,c,16,W,rfl,by decide,by decide,by lia,fun r2 b1 b2=>⟨lenOk 2,fun t nt=>?_⟩⟩⟩
   have s8:Same H7 (upd H7 t (.tup [.int r1,.int r2])):=Same.new nt
   have e8:(upd H7 t (.tup [.int r1,.int r2])) t=some (.tup [.int r1,.int r2]):=Zab
   generalize upd H7 t (.tup [.int r1,.int r2])=H8 at s8 e8 ⊢
   have eu8:=s8 _ _ eu
   refine ⟨fa,_,_,rfl,rfl,eu8,Zar (by rw [Zav]; lia),⟨_,rfl⟩,fun x o ex=>by rw [Zaj (Zah ex nf)]; exact s8 _ _ (s7 x o ex),by rw [Zaj fl']; exact s8 _ _ el7,us++[(t,r1,r2)],by rw [Zab]; simp [refs],fun u hu=>?_,fun u hu=>?_,by rw [List.length_append,List.length_singleton]; lia⟩
   ·rcases List.mem_append.mp hu with hu | hu
    ·exact Zch (s8 _ _ (hus u hu)) eu8
    ·rw [List.mem_singleton.mp hu]; exact Zch e8 eu8
   ·rcases List.mem_append.mp hu with hu | hu
    ·exact bus u hu
    ·rw [List.mem_singleton.mp hu]; exact ⟨a1,a2,b1,b2⟩
  rintro σ H7 ⟨⟨y,rfl⟩,s7,_,us,eu,hus,bus,lus⟩
  rw [List.length_map] at lus
  have s07:=s04.trans s7
  have go:∀ (fa:Addr) (vs:List (Addr × Int × Int)) (H8:Hp),Same H7 H8→H8 fa=some (.lst (refs vs))→(∀ u∈vs,u∈us)→vs.length≤49→SizesAt H8 fa (vs.map (·.2))∧FlOk W T' (vs.map (·.2)):=fun fa vs H8 s8 ev sub lv=>⟨⟨vs,ev,fun t ht=>s8 _ _ (hus t (sub t ht)),rfl⟩,by rw [List.length_map]; exact lv,fun z hz=>by
   obtain ⟨u,hu,rfl⟩:=List.mem_map.mp hz
   exact bus u (sub u hu)⟩
  refine ⟨_,rfl,a,ns,3,rfl,s07.seq hS,by decide,fun z3=>⟨_,_,rfl,rfl,(show (0:Int) < 5 from by decide),rfl,_,rfl,ite3 (fun c=>?_) (fun c=>?_)⟩⟩
  ·refine ⟨_,rfl,lenOk 0,fun e ne=>?_⟩
   have s8:Same H7 (upd H7 e (.lst [])):=Same.new ne
   have e8:(upd H7 e (.lst [])) e=some (.lst []):=Zab
   generalize upd H7 e (.lst [])=H8 at s8 e8 ⊢
   have eu8:=s8 _ _ eu
   obtain ⟨g1,g2⟩:=go fa us H8 s8 eu8 (fun u hu=>hu) (by lia)
   refine ⟨_,_,g1.data,nilL e8,⟨_,rfl⟩,⟨_,rfl⟩,pairsL_dep _,_,rfl,ite3 (fun c2=>?_) (fun c2=>?_)⟩
   ·refine ⟨_,rfl,fa,49,refs us,rfl,rfl,eu8,by decide,by decide,by rw [Zav]; exact Nat.le_of_lt (Zar (by show us.length * 49≤1000; lia)),fun r nr=>?_⟩
    rw [show (49:Int).toNat=49 from rfl,rep_refs]
    have s9:Same H8 (upd H8 r (.lst (refs (List.replicate 49 us).flatten))):=Same.new nr
    have e9:(upd H8 r (.lst (refs (List.replicate 49 us).flatten))) r=some (.lst (refs (List.replicate 49 us).flatten)):=Zab
    generalize upd H8 r (.lst (refs (List.replicate 49 us).flatten))=H9 at s9 e9 ⊢
    refine ⟨_,rfl,r,_,rfl,SqL.of e9,fun fb nb=>?_⟩
    rw [cut49]
    have s10:Same H9 (upd H9 fb (.lst (refs ((List.replicate 49 us).flatten.take 49)))):=Same.new nb
    have s710:=s8.trans (s9.trans s10)
    obtain ⟨g1,g2⟩:=go fb _ _ s710 Zab (fun u hu=>by
     obtain ⟨l,hl,hul⟩:=List.mem_flatten.mp (List.mem_of_mem_take hu)
     rw [(List.mem_replicate.mp hl).2] at hul; exact hul) (by rw [List.length_take]; lia)
    exact kB mo acc kn fb W T' ks _ _ _ (s07.trans s710) (s710 _ _ (s7 _ _ esd4)) W1 W2 T1 T2 ((hk4.same s7).same s710) few ok g1 g2
   ·exact kB mo acc kn fa W T' ks _ _ _ (s07.trans s8) (s8 _ _ (s7 _ _ esd4)) W1 W2 T1 T2 ((hk4.same s7).same s8) few ok g1 g2
  ·obtain ⟨g1,g2⟩:=go fa us H7 (Same.refl _) eu (fun u hu=>hu) (by lia)
   exact kB mo acc kn fa W T' ks _ _ _ s07 (s7 _ _ esd4) W1 W2 T1 T2 (hk4.same s7) few ok g1 g2
def icB (K:PySem.W.Frag) (C:Addr):Bool:=PySem.W.plainGet K C Str.empty && (PySem.W.hasDictIn K C && (PySem.W.plainOver K C && ((PySem.W.findIn K (.ref C) "__setattr__" == some (some (.builtin "object.__setattr__"))) && ((PySem.W.findIn K (.ref C) "__class__" == some (some (.builtin "object.__class__"))) &&
 ((PySem.W.specialIn K (.builtin "object.__class__") "__get__" == some (some (.builtin "getset_descriptor.__get__"))) && ((PySem.W.takesIn K (.builtin "object.__class__") == some true) && ((PySem.W.mroIn K C (.type "object") == some true) && (PySem.W.makesIn K C && PySem.W.keepIn K (.ref C)))))))))
theorem icB_of {C:Addr} (h:icB K C=true):ICls K C∧PySem.W.makesIn K C=true∧PySem.W.keepIn K (.ref C)=true:=by
 unfold icB at h
 simp only [Bool.and_eq_true,beq_iff_eq] at h
 obtain ⟨a,b,c,d,e,f,g,i,j,l⟩:=h
 exact ⟨⟨⟨a,b,c,d⟩,e,f,g,i⟩,j,l⟩
def kitB (K:PySem.W.Frag) (cT cW cU cL:Addr):Bool:=([(cW,"mark"),(cU,"at"),(cU,"first"),(cU,"other"),(cL,"at"),(cL,"first"),(cL,"other")]:List (Addr × Str)).all (fun p=>PySem.W.findIn K (.ref p.1) p.2 == some none) &&
 ([(cW,cW,true),(cW,cU,false),(cW,cL,false),(cU,cW,false),(cL,cW,false),(cU,cU,true),(cU,cL,false),(cL,cU,false),(cL,cL,true),(cW,cT,true),(cU,cT,true),(cL,cT,true)]:List (Addr × Addr × Bool)).all (fun p=>PySem.W.kitOne K (.ref p.1) (.ref p.2.1) == some p.2.2)
theorem rt_of (h:kitB K cT cW cU cL=true) (iW:ICls K cW) (iU:ICls K cU) (iL:ICls K cL) (gT:mg "Tree"=some (.ref cT)) (gW:mg "Whole"=some (.ref cW)) (gU:mg "Upright"=some (.ref cU)) (gL:mg "Level"=some (.ref cL)):RT mg K cT cW cU cL:=by
 unfold kitB at h
 rw [Bool.and_eq_true,List.all_eq_true,List.all_eq_true] at h
 obtain ⟨h1,h2⟩:=h
 have f1:∀ p∈([(cW,"mark"),(cU,"at"),(cU,"first"),(cU,"other"),(cL,"at"),(cL,"first"),(cL,"other")]:List (Addr × Str)),PySem.W.findIn K (.ref p.1) p.2=some none:=fun p hp=>beq_iff_eq.mp (h1 p hp)
 have f2:∀ p∈([(cW,cW,true),(cW,cU,false),(cW,cL,false),(cU,cW,false),(cL,cW,false),(cU,cU,true),(cU,cL,false),(cL,cU,false),(cL,cL,true),(cW,cT,true),(cU,cT,true),(cL,cT,true)]:List (Addr × Addr × Bool)),PySem.W.kitOne K (.ref p.1) (.ref p.2.1)=some p.2.2:=fun p hp=>beq_iff_eq.mp (h2 p hp)
 simp only [List.forall_mem_cons,List.not_mem_nil,false_implies,implies_true,and_true] at f1 f2
 obtain ⟨a1,a2,a3,a4,a5,a6,a7⟩:=f1
 obtain ⟨k1,k2,k3,k4,k5,k6,k7,k8,k9,k10,k11,k12⟩:=f2
 refine ⟨gT,gW,gU,gL,iW,?_,a1,?_,?_,?_,k1,?_,?_,?_,k10,?_⟩
 ·intro u; cases u; exact iL; exact iU
 ·intro u; cases u; exact a5; exact a2
 ·intro u; cases u; exact a6; exact a3
 ·intro u; cases u; exact a7; exact a4
 ·intro u; cases u; exact k3; exact k2
 ·intro u; cases u; exact k5; exact k4
 ·intro u v; cases u <;> cases v; exact k9; exact k8; exact k7; exact k6
 ·intro u; cases u; exact k12; exact k11
end
theorem len5 {α:Type} {us:List α} (h:us.length=5):∃ a b c d e,us=[a,b,c,d,e]:=by
 match us,h with
 | [a,b,c,d,e],_=>exact ⟨a,b,c,d,e,rfl⟩
theorem all_mk {l:PySem.W.OpenLaw} {w:World} {K:PySem.W.Frag} {h:Heap} {mg:Str→Option Value} {fa:Addr} (X:K.In h) (G:h.Ns mainGlobals mg) (hfa:mg "law"=some (.ref fa))
  {cT:Addr} (aT:PySem.W.nsIn K mainGlobals "Tree"=some (some (.ref cT)))
  {cW:Addr} (aC_cW:PySem.W.nsIn K mainGlobals "Whole"=some (some (.ref cW))) (ic_cW:icB K cW=true)
  {f_cW:Addr} {od_cW an_cW:Option Addr} {sl_cW:Array (Option Value)} {oc_cW kV_cW dc_cW pm_cW cd_cW ct_cW:Value} {T_cW:Addr} {to_cW:Value} {td_cW:Option Addr} {ts_cW:Array (Option Value)} {ti_cW:Array Value} {tn_cW:Nat} (a_cWcW:PySem.W.findIn K (.ref cW) "__init__"=some (some (.ref f_cW))) (i_cW:PySem.W.isFn K (.ref f_cW)=true) (l_cW:K.lookup f_cW=some ⟨oc_cW,od_cW,.func (PySem.W.fnOf "__init__" "Whole.__init__" (Zam Zcd) (Zak Zcd) (Zac Zcd) (.ref T_cW) kV_cW dc_cW pm_cW an_cW cd_cW ct_cW),sl_cW⟩) (cc_cW:PySem.W.codeIn K cd_cW "Whole.__init__"=true) (k_cW:PySem.W.keepIn K (.ref f_cW)=true) (lT_cW:K.lookup T_cW=some ⟨to_cW,td_cW,.seq ti_cW tn_cW,ts_cW⟩) (eT_cW:ti_cW=#[.none])
  {cU:Addr} (aC_cU:PySem.W.nsIn K mainGlobals "Upright"=some (some (.ref cU))) (ic_cU:icB K cU=true)
  {f_cU:Addr} {od_cU an_cU:Option Addr} {sl_cU:Array (Option Value)} {oc_cU kV_cU dc_cU pm_cU cd_cU ct_cU:Value} (a_cUcU:PySem.W.findIn K (.ref cU) "__init__"=some (some (.ref f_cU))) (i_cU:PySem.W.isFn K (.ref f_cU)=true) (l_cU:K.lookup f_cU=some ⟨oc_cU,od_cU,.func (PySem.W.fnOf "__init__" "Upright.__init__" (Zam Zbr) (Zak Zbr) (Zac Zbr) .none kV_cU dc_cU pm_cU an_cU cd_cU ct_cU),sl_cU⟩) (cc_cU:PySem.W.codeIn K cd_cU "Upright.__init__"=true) (k_cU:PySem.W.keepIn K (.ref f_cU)=true)
  {cL:Addr} (aC_cL:PySem.W.nsIn K mainGlobals "Level"=some (some (.ref cL))) (ic_cL:icB K cL=true)
  {f_cL:Addr} {od_cL an_cL:Option Addr} {sl_cL:Array (Option Value)} {oc_cL kV_cL dc_cL pm_cL cd_cL ct_cL:Value} (a_cLcL:PySem.W.findIn K (.ref cL) "__init__"=some (some (.ref f_cL))) (i_cL:PySem.W.isFn K (.ref f_cL)=true) (l_cL:K.lookup f_cL=some ⟨oc_cL,od_cL,.func (PySem.W.fnOf "__init__" "Level.__init__" (Zam Zce) (Zak Zce) (Zac Zce) .none kV_cL dc_cL pm_cL an_cL cd_cL ct_cL),sl_cL⟩) (cc_cL:PySem.W.codeIn K cd_cL "Level.__init__"=true) (k_cL:PySem.W.keepIn K (.ref f_cL)=true)
  (kit:kitB K cT cW cU cL=true)
  {cG:Addr} (aG:PySem.W.nsIn K mainGlobals "GlassError"=some (some (.ref cG))) (eG:PySem.W.excIn K cG vErr "ValueError.__new__"=true)
  {f0:Addr} {od0 an0:Option Addr} {sl0:Array (Option Value)} {oc0 kV0 dc0 pm0 cd0 ct0:Value} (a0:PySem.W.nsIn K mainGlobals "is_whole"=some (some (.ref f0))) (l0:K.lookup f0=some ⟨oc0,od0,.func (PySem.W.fnOf "is_whole" "is_whole" (Zam Zcz) (Zak Zcz) (Zac Zcz) .none kV0 dc0 pm0 an0 cd0 ct0),sl0⟩) (cc0:PySem.W.codeIn K cd0 "is_whole"=true) (k0:PySem.W.keepIn K (.ref f0)=true)
  {f1:Addr} {od1 an1:Option Addr} {sl1:Array (Option Value)} {oc1 kV1 dc1 pm1 cd1 ct1:Value} (a1:PySem.W.nsIn K mainGlobals "is_side"=some (some (.ref f1))) (l1:K.lookup f1=some ⟨oc1,od1,.func (PySem.W.fnOf "is_side" "is_side" (Zam Zdb) (Zak Zdb) (Zac Zdb) .none kV1 dc1 pm1 an1 cd1 ct1),sl1⟩) (cc1:PySem.W.codeIn K cd1 "is_side"=true) (k1:PySem.W.keepIn K (.ref f1)=true)
  {f2:Addr} {od2 an2:Option Addr} {sl2:Array (Option Value)} {oc2 kV2 dc2 pm2 cd2 ct2:Value} (a2:PySem.W.nsIn K mainGlobals "size_of"=some (some (.ref f2))) (l2:K.lookup f2=some ⟨oc2,od2,.func (PySem.W.fnOf "size_of" "size_of" (Zam Zc9) (Zak Zc9) (Zac Zc9) .none kV2 dc2 pm2 an2 cd2 ct2),sl2⟩) (cc2:PySem.W.codeIn K cd2 "size_of"=true) (k2:PySem.W.keepIn K (.ref f2)=true)
  {f3:Addr} {od3 an3:Option Addr} {sl3:Array (Option Value)} {oc3 kV3 dc3 pm3 cd3 ct3:Value} (a3:PySem.W.nsIn K mainGlobals "area_of"=some (some (.ref f3))) (l3:K.lookup f3=some ⟨oc3,od3,.func (PySem.W.fnOf "area_of" "area_of" (Zam Zdd) (Zak Zdd) (Zac Zdd) .none kV3 dc3 pm3 an3 cd3 ct3),sl3⟩) (cc3:PySem.W.codeIn K cd3 "area_of"=true) (k3:PySem.W.keepIn K (.ref f3)=true)
  {f4:Addr} {od4 an4:Option Addr} {sl4:Array (Option Value)} {oc4 kV4 dc4 pm4 cd4 ct4:Value} (a4:PySem.W.nsIn K mainGlobals "cut_from"=some (some (.ref f4))) (l4:K.lookup f4=some ⟨oc4,od4,.func (PySem.W.fnOf "cut_from" "cut_from" (Zam Zc1) (Zak Zc1) (Zac Zc1) .none kV4 dc4 pm4 an4 cd4 ct4),sl4⟩) (cc4:PySem.W.codeIn K cd4 "cut_from"=true) (k4:PySem.W.keepIn K (.ref f4)=true)
  {f5:Addr} {od5 an5:Option Addr} {sl5:Array (Option Value)} {oc5 kV5 dc5 pm5 cd5 ct5:Value} (a5:PySem.W.nsIn K mainGlobals "tree_from"=some (some (.ref f5))) (l5:K.lookup f5=some ⟨oc5,od5,.func (PySem.W.fnOf "tree_from" "tree_from" (Zam Zcn) (Zak Zcn) (Zac Zcn) .none kV5 dc5 pm5 an5 cd5 ct5),sl5⟩) (cc5:PySem.W.codeIn K cd5 "tree_from"=true) (k5:PySem.W.keepIn K (.ref f5)=true)
  {f6:Addr} {od6 an6:Option Addr} {sl6:Array (Option Value)} {oc6 kV6 dc6 pm6 cd6 ct6:Value} (a6:PySem.W.nsIn K mainGlobals "first_piece"=some (some (.ref f6))) (l6:K.lookup f6=some ⟨oc6,od6,.func (PySem.W.fnOf "first_piece" "first_piece" (Zam Zbx) (Zak Zbx) (Zac Zbx) .none kV6 dc6 pm6 an6 cd6 ct6),sl6⟩) (cc6:PySem.W.codeIn K cd6 "first_piece"=true) (k6:PySem.W.keepIn K (.ref f6)=true)
  {f7:Addr} {od7 an7:Option Addr} {sl7:Array (Option Value)} {oc7 kV7 dc7 pm7 cd7 ct7:Value} (a7:PySem.W.nsIn K mainGlobals "other_piece"=some (some (.ref f7))) (l7:K.lookup f7=some ⟨oc7,od7,.func (PySem.W.fnOf "other_piece" "other_piece" (Zam Zbv) (Zak Zbv) (Zac Zbv) .none kV7 dc7 pm7 an7 cd7 ct7),sl7⟩) (cc7:PySem.W.codeIn K cd7 "other_piece"=true) (k7:PySem.W.keepIn K (.ref f7)=true)
  {f8:Addr} {od8 an8:Option Addr} {sl8:Array (Option Value)} {oc8 kV8 dc8 pm8 cd8 ct8:Value} (a8:PySem.W.nsIn K mainGlobals "entries_by"=some (some (.ref f8))) (l8:K.lookup f8=some ⟨oc8,od8,.func (PySem.W.fnOf "entries_by" "entries_by" (Zam Zb7) (Zak Zb7) (Zac Zb7) .none kV8 dc8 pm8 an8 cd8 ct8),sl8⟩) (cc8:PySem.W.codeIn K cd8 "entries_by"=true) (k8:PySem.W.keepIn K (.ref f8)=true)
  {f9:Addr} {od9 an9:Option Addr} {sl9:Array (Option Value)} {oc9 kV9 dc9 pm9 cd9 ct9:Value} (a9:PySem.W.nsIn K mainGlobals "is_kind"=some (some (.ref f9))) (l9:K.lookup f9=some ⟨oc9,od9,.func (PySem.W.fnOf "is_kind" "is_kind" (Zam Zdc) (Zak Zdc) (Zac Zdc) .none kV9 dc9 pm9 an9 cd9 ct9),sl9⟩) (cc9:PySem.W.codeIn K cd9 "is_kind"=true) (k9:PySem.W.keepIn K (.ref f9)=true)
  {f10:Addr} {od10 an10:Option Addr} {sl10:Array (Option Value)} {oc10 kV10 dc10 pm10 cd10 ct10:Value} (a10:PySem.W.nsIn K mainGlobals "check_kinds"=some (some (.ref f10))) (l10:K.lookup f10=some ⟨oc10,od10,.func (PySem.W.fnOf "check_kinds" "check_kinds" (Zam Zbz) (Zak Zbz) (Zac Zbz) .none kV10 dc10 pm10 an10 cd10 ct10),sl10⟩) (cc10:PySem.W.codeIn K cd10 "check_kinds"=true) (k10:PySem.W.keepIn K (.ref f10)=true)
  {f11:Addr} {od11 an11:Option Addr} {sl11:Array (Option Value)} {oc11 kV11 dc11 pm11 cd11 ct11:Value} (a11:PySem.W.nsIn K mainGlobals "has_size"=some (some (.ref f11))) (l11:K.lookup f11=some ⟨oc11,od11,.func (PySem.W.fnOf "has_size" "has_size" (Zam Zc0) (Zak Zc0) (Zac Zc0) .none kV11 dc11 pm11 an11 cd11 ct11),sl11⟩) (cc11:PySem.W.codeIn K cd11 "has_size"=true) (k11:PySem.W.keepIn K (.ref f11)=true)
  {f12:Addr} {od12 an12:Option Addr} {sl12:Array (Option Value)} {oc12 kV12 dc12 pm12 cd12 ct12:Value} (a12:PySem.W.nsIn K mainGlobals "is_of_kind"=some (some (.ref f12))) (l12:K.lookup f12=some ⟨oc12,od12,.func (PySem.W.fnOf "is_of_kind" "is_of_kind" (Zam Zb6) (Zak Zb6) (Zac Zb6) .none kV12 dc12 pm12 an12 cd12 ct12),sl12⟩) (cc12:PySem.W.codeIn K cd12 "is_of_kind"=true) (k12:PySem.W.keepIn K (.ref f12)=true)
  {f13:Addr} {od13 an13:Option Addr} {sl13:Array (Option Value)} {oc13 kV13 dc13 pm13 cd13 ct13:Value} (a13:PySem.W.nsIn K mainGlobals "choice_uncut"=some (some (.ref f13))) (l13:K.lookup f13=some ⟨oc13,od13,.func (PySem.W.fnOf "choice_uncut" "choice_uncut" (Zam Zbq) (Zak Zbq) (Zac Zbq) .none kV13 dc13 pm13 an13 cd13 ct13),sl13⟩) (cc13:PySem.W.codeIn K cd13 "choice_uncut"=true) (k13:PySem.W.keepIn K (.ref f13)=true)
  {f14:Addr} {od14 an14:Option Addr} {sl14:Array (Option Value)} {oc14 kV14 dc14 pm14 cd14 ct14:Value} (a14:PySem.W.nsIn K mainGlobals "cuts_within"=some (some (.ref f14))) (l14:K.lookup f14=some ⟨oc14,od14,.func (PySem.W.fnOf "cuts_within" "cuts_within" (Zam Zby) (Zak Zby) (Zac Zby) .none kV14 dc14 pm14 an14 cd14 ct14),sl14⟩) (cc14:PySem.W.codeIn K cd14 "cuts_within"=true) (k14:PySem.W.keepIn K (.ref f14)=true)
  {f15:Addr} {od15 an15:Option Addr} {sl15:Array (Option Value)} {oc15 kV15 dc15 pm15 cd15 ct15:Value} (a15:PySem.W.nsIn K mainGlobals "itself"=some (some (.ref f15))) (l15:K.lookup f15=some ⟨oc15,od15,.func (PySem.W.fnOf "itself" "itself" (Zam Zdu) (Zak Zdu) (Zac Zdu) .none kV15 dc15 pm15 an15 cd15 ct15),sl15⟩) (cc15:PySem.W.codeIn K cd15 "itself"=true) (k15:PySem.W.keepIn K (.ref f15)=true)
  {f16:Addr} {od16 an16:Option Addr} {sl16:Array (Option Value)} {oc16 kV16 dc16 pm16 cd16 ct16:Value} (a16:PySem.W.nsIn K mainGlobals "best_choice"=some (some (.ref f16))) (l16:K.lookup f16=some ⟨oc16,od16,.func (PySem.W.fnOf "best_choice" "best_choice" (Zam Zb1) (Zak Zb1) (Zac Zb1) .none kV16 dc16 pm16 an16 cd16 ct16),sl16⟩) (cc16:PySem.W.codeIn K cd16 "best_choice"=true) (k16:PySem.W.keepIn K (.ref f16)=true)
  {f17:Addr} {od17 an17:Option Addr} {sl17:Array (Option Value)} {oc17 kV17 dc17 pm17 cd17 ct17:Value} (a17:PySem.W.nsIn K mainGlobals "tree_by"=some (some (.ref f17))) (l17:K.lookup f17=some ⟨oc17,od17,.func (PySem.W.fnOf "tree_by" "tree_by" (Zam Zbm) (Zak Zbm) (Zac Zbm) .none kV17 dc17 pm17 an17 cd17 ct17),sl17⟩) (cc17:PySem.W.codeIn K cd17 "tree_by"=true) (k17:PySem.W.keepIn K (.ref f17)=true) {c17 tb2:Addr} (ec17:cd17=.ref c17) (hC17:codeTB K c17 tb2=true)
  {f18:Addr} {od18 an18:Option Addr} {sl18:Array (Option Value)} {oc18 kV18 dc18 pm18 cd18 ct18:Value} (a18:PySem.W.nsIn K mainGlobals "worths_in"=some (some (.ref f18))) (l18:K.lookup f18=some ⟨oc18,od18,.func (PySem.W.fnOf "worths_in" "worths_in" (Zam Zcm) (Zak Zcm) (Zac Zcm) .none kV18 dc18 pm18 an18 cd18 ct18),sl18⟩) (cc18:PySem.W.codeIn K cd18 "worths_in"=true) (k18:PySem.W.keepIn K (.ref f18)=true)
  {f19:Addr} {od19 an19:Option Addr} {sl19:Array (Option Value)} {oc19 kV19 dc19 pm19 cd19 ct19:Value} (a19:PySem.W.nsIn K mainGlobals "check_flawed_sides"=some (some (.ref f19))) (l19:K.lookup f19=some ⟨oc19,od19,.func (PySem.W.fnOf "check_flawed_sides" "check_flawed_sides" (Zam Za1) (Zak Za1) (Zac Za1) .none kV19 dc19 pm19 an19 cd19 ct19),sl19⟩) (cc19:PySem.W.codeIn K cd19 "check_flawed_sides"=true) (k19:PySem.W.keepIn K (.ref f19)=true)
  {f20:Addr} {od20 an20:Option Addr} {sl20:Array (Option Value)} {oc20 kV20 dc20 pm20 cd20 ct20:Value} (a20:PySem.W.nsIn K mainGlobals "is_square_of"=some (some (.ref f20))) (l20:K.lookup f20=some ⟨oc20,od20,.func (PySem.W.fnOf "is_square_of" "is_square_of" (Zam Zbo) (Zak Zbo) (Zac Zbo) .none kV20 dc20 pm20 an20 cd20 ct20),sl20⟩) (cc20:PySem.W.codeIn K cd20 "is_square_of"=true) (k20:PySem.W.keepIn K (.ref f20)=true)
  {f21:Addr} {od21 an21:Option Addr} {sl21:Array (Option Value)} {oc21 kV21 dc21 pm21 cd21 ct21:Value} (a21:PySem.W.nsIn K mainGlobals "check_flaws"=some (some (.ref f21))) (l21:K.lookup f21=some ⟨oc21,od21,.func (PySem.W.fnOf "check_flaws" "check_flaws" (Zam Zb0) (Zak Zb0) (Zac Zb0) .none kV21 dc21 pm21 an21 cd21 ct21),sl21⟩) (cc21:PySem.W.codeIn K cd21 "check_flaws"=true) (k21:PySem.W.keepIn K (.ref f21)=true)
  {f22:Addr} {od22 an22:Option Addr} {sl22:Array (Option Value)} {oc22 kV22 dc22 pm22 cd22 ct22:Value} (a22:PySem.W.nsIn K mainGlobals "runs_within"=some (some (.ref f22))) (l22:K.lookup f22=some ⟨oc22,od22,.func (PySem.W.fnOf "runs_within" "runs_within" (Zam Zbu) (Zak Zbu) (Zac Zbu) .none kV22 dc22 pm22 an22 cd22 ct22),sl22⟩) (cc22:PySem.W.codeIn K cd22 "runs_within"=true) (k22:PySem.W.keepIn K (.ref f22)=true)
  {f23:Addr} {od23 an23:Option Addr} {sl23:Array (Option Value)} {oc23 kV23 dc23 pm23 cd23 ct23:Value} (a23:PySem.W.nsIn K mainGlobals "pieces_within"=some (some (.ref f23))) (l23:K.lookup f23=some ⟨oc23,od23,.func (PySem.W.fnOf "pieces_within" "pieces_within" (Zam Zbg) (Zak Zbg) (Zac Zbg) .none kV23 dc23 pm23 an23 cd23 ct23),sl23⟩) (cc23:PySem.W.codeIn K cd23 "pieces_within"=true) (k23:PySem.W.keepIn K (.ref f23)=true)
  {f24:Addr} {od24 an24:Option Addr} {sl24:Array (Option Value)} {oc24 kV24 dc24 pm24 cd24 ct24:Value} (a24:PySem.W.nsIn K mainGlobals "lies_in"=some (some (.ref f24))) (l24:K.lookup f24=some ⟨oc24,od24,.func (PySem.W.fnOf "lies_in" "lies_in" (Zam Zda) (Zak Zda) (Zac Zda) .none kV24 dc24 pm24 an24 cd24 ct24),sl24⟩) (cc24:PySem.W.codeIn K cd24 "lies_in"=true) (k24:PySem.W.keepIn K (.ref f24)=true)
  {f25:Addr} {od25 an25:Option Addr} {sl25:Array (Option Value)} {oc25 kV25 dc25 pm25 cd25 ct25:Value} (a25:PySem.W.nsIn K mainGlobals "flawed_uncut"=some (some (.ref f25))) (l25:K.lookup f25=some ⟨oc25,od25,.func (PySem.W.fnOf "flawed_uncut" "flawed_uncut" (Zam Zbp) (Zak Zbp) (Zac Zbp) .none kV25 dc25 pm25 an25 cd25 ct25),sl25⟩) (cc25:PySem.W.codeIn K cd25 "flawed_uncut"=true) (k25:PySem.W.keepIn K (.ref f25)=true)
  {f26:Addr} {od26 an26:Option Addr} {sl26:Array (Option Value)} {oc26 kV26 dc26 pm26 cd26 ct26:Value} (a26:PySem.W.nsIn K mainGlobals "choices_by_piece"=some (some (.ref f26))) (l26:K.lookup f26=some ⟨oc26,od26,.func (PySem.W.fnOf "choices_by_piece" "choices_by_piece" (Zam Za6) (Zak Za6) (Zac Za6) .none kV26 dc26 pm26 an26 cd26 ct26),sl26⟩) (cc26:PySem.W.codeIn K cd26 "choices_by_piece"=true) (k26:PySem.W.keepIn K (.ref f26)=true)
  {f27:Addr} {od27 an27:Option Addr} {sl27:Array (Option Value)} {oc27 kV27 dc27 pm27 cd27 ct27:Value} (a27:PySem.W.nsIn K mainGlobals "flawed_worths"=some (some (.ref f27))) (l27:K.lookup f27=some ⟨oc27,od27,.func (PySem.W.fnOf "flawed_worths" "flawed_worths" (Zam Zbh) (Zak Zbh) (Zac Zbh) .none kV27 dc27 pm27 an27 cd27 ct27),sl27⟩) (cc27:PySem.W.codeIn K cd27 "flawed_worths"=true) (k27:PySem.W.keepIn K (.ref f27)=true)
  {f28:Addr} {od28 an28:Option Addr} {sl28:Array (Option Value)} {oc28 kV28 dc28 pm28 cd28 ct28:Value} (a28:PySem.W.nsIn K mainGlobals "flawed_best"=some (some (.ref f28))) (l28:K.lookup f28=some ⟨oc28,od28,.func (PySem.W.fnOf "flawed_best" "flawed_best" (Zam Zbw) (Zak Zbw) (Zac Zbw) .none kV28 dc28 pm28 an28 cd28 ct28),sl28⟩) (cc28:PySem.W.codeIn K cd28 "flawed_best"=true) (k28:PySem.W.keepIn K (.ref f28)=true)
  {f29:Addr} {od29 an29:Option Addr} {sl29:Array (Option Value)} {oc29 kV29 dc29 pm29 cd29 ct29:Value} (a29:PySem.W.nsIn K mainGlobals "_law_cell"=some (some (.ref f29))) (l29:K.lookup f29=some ⟨oc29,od29,.func (PySem.W.fnOf "_law_cell" "_law_cell" (Zam Zcr) (Zak Zcr) (Zac Zcr) .none kV29 dc29 pm29 an29 cd29 ct29),sl29⟩) (cc29:PySem.W.codeIn K cd29 "_law_cell"=true) (k29:PySem.W.keepIn K (.ref f29)=true)
  {f30:Addr} {od30 an30:Option Addr} {sl30:Array (Option Value)} {oc30 kV30 dc30 pm30 cd30 ct30:Value} (a30:PySem.W.nsIn K mainGlobals "_law_draw"=some (some (.ref f30))) (l30:K.lookup f30=some ⟨oc30,od30,.func (PySem.W.fnOf "_law_draw" "_law_draw" (Zam Zcq) (Zak Zcq) (Zac Zcq) .none kV30 dc30 pm30 an30 cd30 ct30),sl30⟩) (cc30:PySem.W.codeIn K cd30 "_law_draw"=true) (k30:PySem.W.keepIn K (.ref f30)=true)
  {f31:Addr} {od31 an31:Option Addr} {sl31:Array (Option Value)} {oc31 kV31 dc31 pm31 cd31 ct31:Value} (a31:PySem.W.nsIn K mainGlobals "_law_kind"=some (some (.ref f31))) (l31:K.lookup f31=some ⟨oc31,od31,.func (PySem.W.fnOf "_law_kind" "_law_kind" (Zam Zcp) (Zak Zcp) (Zac Zcp) .none kV31 dc31 pm31 an31 cd31 ct31),sl31⟩) (cc31:PySem.W.codeIn K cd31 "_law_kind"=true) (k31:PySem.W.keepIn K (.ref f31)=true)
  {f32:Addr} {od32 an32:Option Addr} {sl32:Array (Option Value)} {oc32 kV32 dc32 pm32 cd32 ct32:Value} (a32:PySem.W.nsIn K mainGlobals "_law_is_of"=some (some (.ref f32))) (l32:K.lookup f32=some ⟨oc32,od32,.func (PySem.W.fnOf "_law_is_of" "_law_is_of" (Zam Zcb) (Zak Zcb) (Zac Zcb) .none kV32 dc32 pm32 an32 cd32 ct32),sl32⟩) (cc32:PySem.W.codeIn K cd32 "_law_is_of"=true) (k32:PySem.W.keepIn K (.ref f32)=true)
  {f33:Addr} {od33 an33:Option Addr} {sl33:Array (Option Value)} {oc33 kV33 dc33 pm33 cd33 ct33:Value} (a33:PySem.W.nsIn K mainGlobals "_law_whole"=some (some (.ref f33))) (l33:K.lookup f33=some ⟨oc33,od33,.func (PySem.W.fnOf "_law_whole" "_law_whole" (Zam Zb8) (Zak Zb8) (Zac Zb8) .none kV33 dc33 pm33 an33 cd33 ct33),sl33⟩) (cc33:PySem.W.codeIn K cd33 "_law_whole"=true) (k33:PySem.W.keepIn K (.ref f33)=true)
  {f34:Addr} {od34 an34:Option Addr} {sl34:Array (Option Value)} {oc34 kV34 dc34 pm34 cd34 ct34:Value} (a34:PySem.W.nsIn K mainGlobals "_law_told"=some (some (.ref f34))) (l34:K.lookup f34=some ⟨oc34,od34,.func (PySem.W.fnOf "_law_told" "_law_told" (Zam Zco) (Zak Zco) (Zac Zco) .none kV34 dc34 pm34 an34 cd34 ct34),sl34⟩) (cc34:PySem.W.codeIn K cd34 "_law_told"=true) (k34:PySem.W.keepIn K (.ref f34)=true)
  {f35:Addr} {od35 an35:Option Addr} {sl35:Array (Option Value)} {oc35 kV35 dc35 pm35 cd35 ct35:Value} (a35:PySem.W.nsIn K mainGlobals "_law_clear"=some (some (.ref f35))) (l35:K.lookup f35=some ⟨oc35,od35,.func (PySem.W.fnOf "_law_clear" "_law_clear" (Zam Zcc) (Zak Zcc) (Zac Zcc) .none kV35 dc35 pm35 an35 cd35 ct35),sl35⟩) (cc35:PySem.W.codeIn K cd35 "_law_clear"=true) (k35:PySem.W.keepIn K (.ref f35)=true)
  {f36:Addr} {od36 an36:Option Addr} {sl36:Array (Option Value)} {oc36 kV36 dc36 pm36 cd36 ct36:Value} (a36:PySem.W.nsIn K mainGlobals "_law_choices"=some (some (.ref f36))) (l36:K.lookup f36=some ⟨oc36,od36,.func (PySem.W.fnOf "_law_choices" "_law_choices" (Zam Zba) (Zak Zba) (Zac Zba) .none kV36 dc36 pm36 an36 cd36 ct36),sl36⟩) (cc36:PySem.W.codeIn K cd36 "_law_choices"=true) (k36:PySem.W.keepIn K (.ref f36)=true)
  {f37:Addr} {od37 an37:Option Addr} {sl37:Array (Option Value)} {oc37 kV37 dc37 pm37 cd37 ct37:Value} (a37:PySem.W.nsIn K mainGlobals "_law_table"=some (some (.ref f37))) (l37:K.lookup f37=some ⟨oc37,od37,.func (PySem.W.fnOf "_law_table" "_law_table" (Zam Zb9) (Zak Zb9) (Zac Zb9) .none kV37 dc37 pm37 an37 cd37 ct37),sl37⟩) (cc37:PySem.W.codeIn K cd37 "_law_table"=true) (k37:PySem.W.keepIn K (.ref f37)=true)
  {f38:Addr} {od38 an38:Option Addr} {sl38:Array (Option Value)} {oc38 kV38 dc38 pm38 cd38 ct38:Value} (a38:PySem.W.nsIn K mainGlobals "_law_sum"=some (some (.ref f38))) (l38:K.lookup f38=some ⟨oc38,od38,.func (PySem.W.fnOf "_law_sum" "_law_sum" (Zam Zca) (Zak Zca) (Zac Zca) .none kV38 dc38 pm38 an38 cd38 ct38),sl38⟩) (cc38:PySem.W.codeIn K cd38 "_law_sum"=true) (k38:PySem.W.keepIn K (.ref f38)=true)
  {f39:Addr} {od39 an39:Option Addr} {sl39:Array (Option Value)} {oc39 kV39 dc39 pm39 cd39 ct39:Value} (a39:PySem.W.nsIn K mainGlobals "law"=some (some (.ref f39))) (l39:K.lookup f39=some ⟨oc39,od39,.func (PySem.W.fnOf "law" "law" (Zam Zfl) (Zak Zfl) (Zac Zfl) .none kV39 dc39 pm39 an39 cd39 ct39),sl39⟩) (cc39:PySem.W.codeIn K cd39 "law"=true) (k39:PySem.W.keepIn K (.ref f39)=true)
  {bm:Addr} {bsl:Array (Option Value)} (abm:PySem.W.nsIn K mainGlobals "__builtins__"=some (some (.ref bm))) (lbm:K.lookup bm=some ⟨.type "module",some builtinsNs,.plain,bsl⟩) (nbm1:bm≠builtinsNs) (nbm2:bm≠mainGlobals)
  (z0:PySem.W.nsIn K mainGlobals "isinstance"=some none)
  (z1:PySem.W.nsIn K mainGlobals "int"=some none)
  (z2:PySem.W.nsIn K mainGlobals "bool"=some none)
  (z3:PySem.W.nsIn K mainGlobals "tuple"=some none)
  (z4:PySem.W.nsIn K mainGlobals "list"=some none)
  (z5:PySem.W.nsIn K mainGlobals "dict"=some none)
  (z6:PySem.W.nsIn K mainGlobals "len"=some none)
  (z7:PySem.W.nsIn K mainGlobals "enumerate"=some none)
  (z8:PySem.W.nsIn K mainGlobals "range"=some none)
  (z9:PySem.W.nsIn K mainGlobals "any"=some none)
  (z10:PySem.W.nsIn K mainGlobals "max"=some none)
  (z11:PySem.W.nsIn K mainGlobals "sorted"=some none)
  (z12:PySem.W.nsIn K mainGlobals "sum"=some none)
  (z13:PySem.W.nsIn K mainGlobals "reversed"=some none)
  {tk0:Tok} (g0:PySem.W.nsIn K mainGlobals "LONGEST_SIDE"=some (some (.int 12 tk0)))
  {tk1:Tok} (g1:PySem.W.nsIn K mainGlobals "MOST_KINDS"=some (some (.int 8 tk1)))
  {tk2:Tok} (g2:PySem.W.nsIn K mainGlobals "GREATEST_WORTH"=some (some (.int 1000000000 tk2)))
  {tk3:Tok} (g3:PySem.W.nsIn K mainGlobals "WHOLE"=some (some (.str "whole" tk3)))
  {tk4:Tok} (g4:PySem.W.nsIn K mainGlobals "UPRIGHT"=some (some (.str "upright" tk4)))
  {tk5:Tok} (g5:PySem.W.nsIn K mainGlobals "LEVEL"=some (some (.str "level" tk5)))
  {tk6:Tok} (g6:PySem.W.nsIn K mainGlobals "LONGEST_FLAWED"=some (some (.int 7 tk6)))
  {tk7:Tok} (g7:PySem.W.nsIn K mainGlobals "MOST_FLAWS"=some (some (.int 49 tk7)))
  : ∃ fd:FuncData,(∀ (s:Shared) (v:Value),BindsTo s fd ⟨[v],[]⟩ [("_law_script",v)])∧∀ base:Heap,K.In base→base.Ns mainGlobals mg→FnOk l.prog w K mg base CX0 18 fa fd ["_law_script"] (sp_law tb2 K):=by
 have e:=hfa.symm.trans (PySem.W.mg_of X G a39)
 cases e
 have T:Txt mg (tk0,tk1,tk2,tk3,tk4,tk5,tk6,tk7,f15):=⟨PySem.W.mg_none_of X G z0,PySem.W.mg_none_of X G z1,PySem.W.mg_none_of X G z2,PySem.W.mg_none_of X G z3,PySem.W.mg_none_of X G z4,PySem.W.mg_none_of X G z5,PySem.W.mg_none_of X G z6,PySem.W.mg_none_of X G z7,PySem.W.mg_none_of X G z8,PySem.W.mg_none_of X G z9,PySem.W.mg_none_of X G z10,PySem.W.mg_none_of X G z11,PySem.W.mg_none_of X G z12,PySem.W.mg_none_of X G z13,PySem.W.mg_of X G g0,PySem.W.mg_of X G g1,PySem.W.mg_of X G g2,PySem.W.mg_of X G g3,PySem.W.mg_of X G g4,PySem.W.mg_of X G g5,PySem.W.mg_of X G g6,PySem.W.mg_of X G g7,PySem.W.mg_of X G a15⟩
 obtain ⟨I_cW,mk_cW,kc_cW⟩:=icB_of ic_cW
 obtain ⟨I_cU,mk_cU,kc_cU⟩:=icB_of ic_cU
 obtain ⟨I_cL,mk_cL,kc_cL⟩:=icB_of ic_cL
 have R0:RT mg K cT cW cU cL:=rt_of kit I_cW I_cU I_cL (PySem.W.mg_of X G aT) (PySem.W.mg_of X G aC_cW) (PySem.W.mg_of X G aC_cU) (PySem.W.mg_of X G aC_cL)
 have hB0:BmIn K mg:=⟨bm,bsl,PySem.W.mg_of X G abm,nbm1,nbm2,lbm⟩
 have F_cW:FunD K "__init__" "Whole.__init__" Zcd f_cW _:=⟨⟨_,_,_,_,_,_,_,_,_,_,_,tn_cW,rfl,l_cW,cc_cW,lT_cW,by rw [eT_cW]⟩,k_cW⟩
 have b_cW:=F_cW.binds (ps:=["self","mark"]) (ds:=[]) fun _ _ _ _ _ _ _ us hl=>by obtain ⟨u0,u1,rfl⟩:=len2 ((List.append_nil us) ▸ hl); exact ⟨_,rfl,rfl⟩
 have F_cU:=Zaz (st:=Zbr) l_cU cc_cU k_cU
 have b_cU:=F_cU.binds (ps:=["self","at","first","other"]) fun _ _ _ _ _ _ us hl=>by obtain ⟨u0,u1,u2,u3,rfl⟩:=len4 hl; rfl
 have F_cL:=Zaz (st:=Zce) l_cL cc_cL k_cL
 have b_cL:=F_cL.binds (ps:=["self","at","first","other"]) fun _ _ _ _ _ _ us hl=>by obtain ⟨u0,u1,u2,u3,rfl⟩:=len4 hl; rfl
 have F0:=Zaz (st:=Zcz) l0 cc0 k0
 have b0:=F0.binds (ps:=["thing"]) fun _ _ _ _ _ _ us hl=>by obtain ⟨u0,rfl⟩:=len1 hl; rfl
 have F1:=Zaz (st:=Zdb) l1 cc1 k1
 have b1:=F1.binds (ps:=["thing"]) fun _ _ _ _ _ _ us hl=>by obtain ⟨u0,rfl⟩:=len1 hl; rfl
 have F2:=Zaz (st:=Zc9) l2 cc2 k2
 have b2:=F2.binds (ps:=["rectangle"]) fun _ _ _ _ _ _ us hl=>by obtain ⟨u0,rfl⟩:=len1 hl; rfl
 have F3:=Zaz (st:=Zdd) l3 cc3 k3
 have b3:=F3.binds (ps:=["rectangle"]) fun _ _ _ _ _ _ us hl=>by obtain ⟨u0,rfl⟩:=len1 hl; rfl
 have F4:=Zaz (st:=Zc1) l4 cc4 k4
 have b4:=F4.binds (ps:=["word","at","first","other"]) fun _ _ _ _ _ _ us hl=>by obtain ⟨u0,u1,u2,u3,rfl⟩:=len4 hl; rfl
 have F5:=Zaz (st:=Zcn) l5 cc5 k5
 have b5:=F5.binds (ps:=["entries"]) fun _ _ _ _ _ _ us hl=>by obtain ⟨u0,rfl⟩:=len1 hl; rfl
 have F6:=Zaz (st:=Zbx) l6 cc6 k6
 have b6:=F6.binds (ps:=["piece","word","at"]) fun _ _ _ _ _ _ us hl=>by obtain ⟨u0,u1,u2,rfl⟩:=len3 hl; rfl
 have F7:=Zaz (st:=Zbv) l7 cc7 k7
 have b7:=F7.binds (ps:=["piece","word","at"]) fun _ _ _ _ _ _ us hl=>by obtain ⟨u0,u1,u2,rfl⟩:=len3 hl; rfl
 have F8:=Zaz (st:=Zb7) l8 cc8 k8
 have b8:=F8.binds (ps:=["sheet","entry_at"]) fun _ _ _ _ _ _ us hl=>by obtain ⟨u0,u1,rfl⟩:=len2 hl; rfl
 have F9:=Zaz (st:=Zdc) l9 cc9 k9
 have b9:=F9.binds (ps:=["thing"]) fun _ _ _ _ _ _ us hl=>by obtain ⟨u0,rfl⟩:=len1 hl; rfl
 have F10:=Zaz (st:=Zbz) l10 cc10 k10
 have b10:=F10.binds (ps:=["kinds"]) fun _ _ _ _ _ _ us hl=>by obtain ⟨u0,rfl⟩:=len1 hl; rfl
 have F11:=Zaz (st:=Zc0) l11 cc11 k11
 have b11:=F11.binds (ps:=["size","width","height","turns"]) fun _ _ _ _ _ _ us hl=>by obtain ⟨u0,u1,u2,u3,rfl⟩:=len4 hl; rfl
 have F12:=Zaz (st:=Zb6) l12 cc12 k12
 have b12:=F12.binds (ps:=["piece","kind"]) fun _ _ _ _ _ _ us hl=>by obtain ⟨u0,u1,rfl⟩:=len2 hl; rfl
 have F13:=Zaz (st:=Zbq) l13 cc13 k13
 have b13:=F13.binds (ps:=["piece","kinds"]) fun _ _ _ _ _ _ us hl=>by obtain ⟨u0,u1,rfl⟩:=len2 hl; rfl
 have F14:=Zaz (st:=Zby) l14 cc14 k14
 have b14:=F14.binds (ps:=["piece"]) fun _ _ _ _ _ _ us hl=>by obtain ⟨u0,rfl⟩:=len1 hl; rfl
 have F15:=Zaz (st:=Zdu) l15 cc15 k15
 have b15:=F15.binds (ps:=["piece"]) fun _ _ _ _ _ _ us hl=>by obtain ⟨u0,rfl⟩:=len1 hl; rfl
 have F16:=Zaz (st:=Zb1) l16 cc16 k16
 have b16:=F16.binds (ps:=["piece","uncut","choices","key"]) fun _ _ _ _ _ _ us hl=>by obtain ⟨u0,u1,u2,u3,rfl⟩:=len4 hl; rfl
 have F17:=func_mk (st:=Zbm) l17 cc17 k17 ec17
 have b17:=F17.fn.binds (ps:=["choices","sheet","key"]) fun _ _ _ _ _ _ us hl=>by obtain ⟨u0,u1,u2,rfl⟩:=len3 hl; rfl
 have F18:=Zaz (st:=Zcm) l18 cc18 k18
 have b18:=F18.binds (ps:=["choices"]) fun _ _ _ _ _ _ us hl=>by obtain ⟨u0,rfl⟩:=len1 hl; rfl
 have F19:=Zaz (st:=Za1) l19 cc19 k19
 have b19:=F19.binds (ps:=["width","height"]) fun _ _ _ _ _ _ us hl=>by obtain ⟨u0,u1,rfl⟩:=len2 hl; rfl
 have F20:=Zaz (st:=Zbo) l20 cc20 k20
 have b20:=F20.binds (ps:=["thing","width","height"]) fun _ _ _ _ _ _ us hl=>by obtain ⟨u0,u1,u2,rfl⟩:=len3 hl; rfl
 have F21:=Zaz (st:=Zb0) l21 cc21 k21
 have b21:=F21.binds (ps:=["flaws","width","height"]) fun _ _ _ _ _ _ us hl=>by obtain ⟨u0,u1,u2,rfl⟩:=len3 hl; rfl
 have F22:=Zaz (st:=Zbu) l22 cc22 k22
 have b22:=F22.binds (ps:=["length"]) fun _ _ _ _ _ _ us hl=>by obtain ⟨u0,rfl⟩:=len1 hl; rfl
 have F23:=Zaz (st:=Zbg) l23 cc23 k23
 have b23:=F23.binds (ps:=["width","height"]) fun _ _ _ _ _ _ us hl=>by obtain ⟨u0,u1,rfl⟩:=len2 hl; rfl
 have F24:=Zaz (st:=Zda) l24 cc24 k24
 have b24:=F24.binds (ps:=["square","piece"]) fun _ _ _ _ _ _ us hl=>by obtain ⟨u0,u1,rfl⟩:=len2 hl; rfl
 have F25:=Zaz (st:=Zbp) l25 cc25 k25
 have b25:=F25.binds (ps:=["piece","kinds","flaws"]) fun _ _ _ _ _ _ us hl=>by obtain ⟨u0,u1,u2,rfl⟩:=len3 hl; rfl
 have F26:=Zaz (st:=Za6) l26 cc26 k26
 have b26:=F26.binds (ps:=["width","height","kinds","flaws"]) fun _ _ _ _ _ _ us hl=>by obtain ⟨u0,u1,u2,u3,rfl⟩:=len4 hl; rfl
 have F27:=Zaz (st:=Zbh) l27 cc27 k27
 have b27:=F27.binds (ps:=["width","height","kinds","flaws"]) fun _ _ _ _ _ _ us hl=>by obtain ⟨u0,u1,u2,u3,rfl⟩:=len4 hl; rfl
 have F28:=Zaz (st:=Zbw) l28 cc28 k28
 have b28:=F28.binds (ps:=["width","height","kinds","flaws"]) fun _ _ _ _ _ _ us hl=>by obtain ⟨u0,u1,u2,u3,rfl⟩:=len4 hl; rfl
 have F29:=Zaz (st:=Zcr) l29 cc29 k29
 have b29:=F29.binds (ps:=["_law_script","_law_k"]) fun _ _ _ _ _ _ us hl=>by obtain ⟨u0,u1,rfl⟩:=len2 hl; rfl
 have F30:=Zaz (st:=Zcq) l30 cc30 k30
 have b30:=F30.binds (ps:=["_law_cell_here","_law_nth","_law_many"]) fun _ _ _ _ _ _ us hl=>by obtain ⟨u0,u1,u2,rfl⟩:=len3 hl; rfl
 have F31:=Zaz (st:=Zcp) l31 cc31 k31
 have b31:=F31.binds (ps:=["_law_cell_here"]) fun _ _ _ _ _ _ us hl=>by obtain ⟨u0,rfl⟩:=len1 hl; rfl
 have F32:=Zaz (st:=Zcb) l32 cc32 k32
 have b32:=F32.binds (ps:=["_law_kind_here","_law_width","_law_height"]) fun _ _ _ _ _ _ us hl=>by obtain ⟨u0,u1,u2,rfl⟩:=len3 hl; rfl
 have F33:=Zaz (st:=Zb8) l33 cc33 k33
 have b33:=F33.binds (ps:=["_law_found"]) fun _ _ _ _ _ _ us hl=>by obtain ⟨u0,rfl⟩:=len1 hl; rfl
 have F34:=Zaz (st:=Zco) l34 cc34 k34
 have b34:=F34.binds (ps:=["_law_tree"]) fun _ _ _ _ _ _ us hl=>by obtain ⟨u0,rfl⟩:=len1 hl; rfl
 have F35:=Zaz (st:=Zcc) l35 cc35 k35
 have b35:=F35.binds (ps:=["_law_block","_law_flaws"]) fun _ _ _ _ _ _ us hl=>by obtain ⟨u0,u1,rfl⟩:=len2 hl; rfl
 have F36:=Zaz (st:=Zba) l36 cc36 k36
 have b36:=F36.binds (ps:=["_law_found","_law_kinds","_law_flaws","_law_block"]) fun _ _ _ _ _ _ us hl=>by obtain ⟨u0,u1,u2,u3,rfl⟩:=len4 hl; rfl
 have F37:=Zaz (st:=Zb9) l37 cc37 k37
 have b37:=F37.binds (ps:=["_law_found","_law_kinds","_law_flaws","_law_width","_law_height"]) fun _ _ _ _ _ _ us hl=>by obtain ⟨u0,u1,u2,u3,u4,rfl⟩:=len5 hl; rfl
 have F38:=Zaz (st:=Zca) l38 cc38 k38
 have b38:=F38.binds (ps:=["_law_told_here","_law_block","_law_kinds","_law_flaws"]) fun _ _ _ _ _ _ us hl=>by obtain ⟨u0,u1,u2,u3,rfl⟩:=len4 hl; rfl
 have F39:=Zaz (st:=Zfl) l39 cc39 k39
 refine ⟨PySem.W.fnOf "law" "law" (Zam Zfl) (Zak Zfl) (Zac Zfl) .none kV39 dc39 pm39 an39 cd39 ct39,fun s v=>.of_eq rfl,fun base _ _=>?_⟩
 have K_Whole:MkOk l.prog w K mg base 1 "Whole" cW ["self","mark"] (sp_iW cW):=⟨_,_,⟨mk_cW,a_cWcW,i_cW,kc_cW⟩,Zhw F_cW R0,PySem.W.mg_of X G aC_cW,b_cW⟩
 have K_Upright:MkOk l.prog w K mg base 1 "Upright" cU ["self","at","first","other"] (sp_iC cU):=⟨_,_,⟨mk_cU,a_cUcU,i_cU,kc_cU⟩,Zfv F_cU R0,PySem.W.mg_of X G aC_cU,b_cU⟩
 have K_Level:MkOk l.prog w K mg base 1 "Level" cL ["self","at","first","other"] (sp_iC cL):=⟨_,_,⟨mk_cL,a_cLcL,i_cL,kc_cL⟩,Zhx F_cL R0,PySem.W.mg_of X G aC_cL,b_cL⟩
 have D_is_whole:DefOk l.prog w K mg base 1 "is_whole" ["thing"] Zd8:=⟨_,_,Zkn F0 T,PySem.W.mg_of X G a0,k0,b0⟩
 have D_is_side:DefOk l.prog w K mg base 2 "is_side" ["thing"] Zhi:=⟨_,_,ok_is_side F1 T D_is_whole,PySem.W.mg_of X G a1,k1,b1⟩
 have D_size_of:DefOk l.prog w K mg base 1 "size_of" ["rectangle"] Zhh:=⟨_,_,ok_size_of F2,PySem.W.mg_of X G a2,k2,b2⟩
 have D_area_of:DefOk l.prog w K mg base 1 "area_of" ["rectangle"] Zke:=⟨_,_,ok_area_of F3,PySem.W.mg_of X G a3,k3,b3⟩
 have D_cut_from:DefOk l.prog w K mg base 3 "cut_from" ["word","at","first","other"] (Zeo cW cU cL):=⟨_,_,Zkp F4 T K_Upright K_Level,PySem.W.mg_of X G a4,k4,b4⟩
 have D_tree_from:DefOk l.prog w K mg base 4 "tree_from" ["entries"] (Zkb K cW cU cL):=⟨_,_,Zi5 F5 T R0 K_Whole D_cut_from,PySem.W.mg_of X G a5,k5,b5⟩
 have D_first_piece:DefOk l.prog w K mg base 1 "first_piece" ["piece","word","at"] Ziu:=⟨_,_,Zgn F6 T,PySem.W.mg_of X G a6,k6,b6⟩
 have D_other_piece:DefOk l.prog w K mg base 1 "other_piece" ["piece","word","at"] Zit:=⟨_,_,Zgk F7 T,PySem.W.mg_of X G a7,k7,b7⟩
 have D_entries_by:DefOk l.prog w K mg base 4 "entries_by" ["sheet","entry_at"] (sp_by l.prog w K mg base):=⟨_,_,Zhv F8 T D_first_piece D_other_piece,PySem.W.mg_of X G a8,k8,b8⟩
 have D_is_kind:DefOk l.prog w K mg base 3 "is_kind" ["thing"] Zka:=⟨_,_,ok_is_kind F9 T D_is_whole D_is_side,PySem.W.mg_of X G a9,k9,b9⟩
 have D_check_kinds:DefOk l.prog w K mg base 4 "check_kinds" ["kinds"] Zhn:=⟨_,_,Zgp F10 T D_is_kind,PySem.W.mg_of X G a10,k10,b10⟩
 have D_has_size:DefOk l.prog w K mg base 1 "has_size" ["size","width","height","turns"] sp_has:=⟨_,_,Zko F11,PySem.W.mg_of X G a11,k11,b11⟩
 have D_is_of_kind:DefOk l.prog w K mg base 2 "is_of_kind" ["piece","kind"] sp_of:=⟨_,_,Zhu F12 D_size_of D_has_size,PySem.W.mg_of X G a12,k12,b12⟩
 have D_choice_uncut:DefOk l.prog w K mg base 3 "choice_uncut" ["piece","kinds"] Zhg:=⟨_,_,Zfu F13 T D_is_of_kind,PySem.W.mg_of X G a13,k13,b13⟩
 have D_cuts_within:DefOk l.prog w K mg base 2 "cuts_within" ["piece"] Zkc:=⟨_,_,Zgo F14 T D_size_of,PySem.W.mg_of X G a14,k14,b14⟩
 have D_itself:DefOk l.prog w K mg base 1 "itself" ["piece"] Zdn:=⟨_,_,ok_itself F15,PySem.W.mg_of X G a15,k15,b15⟩
 have D_best_choice:DefOk l.prog w K mg base 3 "best_choice" ["piece","uncut","choices","key"] (Zho mg):=⟨_,_,Zgr F16 T D_itself D_first_piece D_other_piece D_cuts_within,PySem.W.mg_of X G a16,k16,b16⟩
 have D_tree_by:DefOk l.prog w K mg base 5 "tree_by" ["choices","sheet","key"] (Zfh tb2 cW cU cL mg):=⟨_,_,ok_tree_by F17 hC17 hB0 D_itself D_entries_by D_tree_from,PySem.W.mg_of X G a17,k17,b17⟩
 have D_worths_in:DefOk l.prog w K mg base 1 "worths_in" ["choices"] sp_inR:=⟨_,_,Zi4 F18,PySem.W.mg_of X G a18,k18,b18⟩
 have D_check_flawed_sides:DefOk l.prog w K mg base 3 "check_flawed_sides" ["width","height"] Zfk:=⟨_,_,Zdq F19 T D_is_side,PySem.W.mg_of X G a19,k19,b19⟩
 have D_is_square_of:DefOk l.prog w K mg base 2 "is_square_of" ["thing","width","height"] sp_sq:=⟨_,_,Zfs F20 T D_is_whole,PySem.W.mg_of X G a20,k20,b20⟩
 have D_check_flaws:DefOk l.prog w K mg base 3 "check_flaws" ["flaws","width","height"] sp_cfl:=⟨_,_,Zgq F21 T D_is_square_of,PySem.W.mg_of X G a21,k21,b21⟩
 have D_runs_within:DefOk l.prog w K mg base 1 "runs_within" ["length"] Zj7:=⟨_,_,Zgj F22 T,PySem.W.mg_of X G a22,k22,b22⟩
 have D_pieces_within:DefOk l.prog w K mg base 2 "pieces_within" ["width","height"] sp_pcs:=⟨_,_,Ze7 F23 D_runs_within,PySem.W.mg_of X G a23,k23,b23⟩
 have D_lies_in:DefOk l.prog w K mg base 1 "lies_in" ["square","piece"] Zj9:=⟨_,_,ok_lies_in F24,PySem.W.mg_of X G a24,k24,b24⟩
 have D_flawed_uncut:DefOk l.prog w K mg base 4 "flawed_uncut" ["piece","kinds","flaws"] Zfj:=⟨_,_,Zft F25 T D_lies_in D_choice_uncut,PySem.W.mg_of X G a25,k25,b25⟩
 have D_choices_by_piece:DefOk l.prog w K mg base 5 "choices_by_piece" ["width","height","kinds","flaws"] sp_chR:=⟨_,_,Zd5 F26 T D_area_of D_check_flawed_sides D_check_kinds D_check_flaws D_pieces_within D_flawed_uncut D_best_choice,PySem.W.mg_of X G a26,k26,b26⟩
 have D_flawed_worths:DefOk l.prog w K mg base 6 "flawed_worths" ["width","height","kinds","flaws"] sp_fw:=⟨_,_,Ze8 F27 D_choices_by_piece D_worths_in,PySem.W.mg_of X G a27,k27,b27⟩
 have D_flawed_best:DefOk l.prog w K mg base 6 "flawed_best" ["width","height","kinds","flaws"] (Zhl tb2 cW cU cL):=⟨_,_,Zgm F28 T D_choices_by_piece D_tree_by,PySem.W.mg_of X G a28,k28,b28⟩
 have D__law_cell:DefOk l.prog w K mg base 1 "_law_cell" ["_law_script","_law_k"] (Zkd K):=⟨_,_,Zkm F29 T,PySem.W.mg_of X G a29,k29,b29⟩
 have D__law_draw:DefOk l.prog w K mg base 1 "_law_draw" ["_law_cell_here","_law_nth","_law_many"] Zhm:=⟨_,_,Zkl F30,PySem.W.mg_of X G a30,k30,b30⟩
 have D__law_kind:DefOk l.prog w K mg base 2 "_law_kind" ["_law_cell_here"] Zhj:=⟨_,_,Zkk F31 D__law_draw,PySem.W.mg_of X G a31,k31,b31⟩
 have D__law_is_of:DefOk l.prog w K mg base 1 "_law_is_of" ["_law_kind_here","_law_width","_law_height"] Zhk:=⟨_,_,Zi8 F32,PySem.W.mg_of X G a32,k32,b32⟩
 have D__law_whole:DefOk l.prog w K mg base 1 "_law_whole" ["_law_found"] Zd9:=⟨_,_,Zi6 F33 T,PySem.W.mg_of X G a33,k33,b33⟩
 have A__law_told:∀ n:Nat,DefOk l.prog w K mg base (n+3) "_law_told" ["_law_tree"] (Zea cW cU cL n):=fun n=>by
  induction n with
  | zero=>exact ⟨_,_,fn_none F34 Zhb (fun _ _ _ _=>ltold0),PySem.W.mg_of X G a34,k34,b34⟩
  | succ n ih=>exact ⟨_,_,Zkj F34 T R0 D__law_whole ih,PySem.W.mg_of X G a34,k34,b34⟩
 have D__law_told:=A__law_told 14
 have D__law_clear:DefOk l.prog w K mg base 1 "_law_clear" ["_law_block","_law_flaws"] Zfa:=⟨_,_,Zi9 F35,PySem.W.mg_of X G a35,k35,b35⟩
 have D__law_choices:DefOk l.prog w K mg base 2 "_law_choices" ["_law_found","_law_kinds","_law_flaws","_law_block"] sp_lch:=⟨_,_,Zgl F36 T D__law_is_of D__law_clear,PySem.W.mg_of X G a36,k36,b36⟩
 have D__law_table:DefOk l.prog w K mg base 3 "_law_table" ["_law_found","_law_kinds","_law_flaws","_law_width","_law_height"] Zj8:=⟨_,_,Zi7 F37 T D__law_whole D__law_choices,PySem.W.mg_of X G a37,k37,b37⟩
 have A__law_sum:∀ n:Nat,DefOk l.prog w K mg base (n+3) "_law_sum" ["_law_told_here","_law_block","_law_kinds","_law_flaws"] (Zfi n):=fun n=>by
  induction n with
  | zero=>exact ⟨_,_,fn_none F38 Zju (fun _ _ _ _=>lsum0),PySem.W.mg_of X G a38,k38,b38⟩
  | succ n ih=>exact ⟨_,_,ok_law_sum F38 T D__law_is_of D__law_clear ih,PySem.W.mg_of X G a38,k38,b38⟩
 have D__law_sum:=A__law_sum 14
 exact ok_law F39 T D__law_cell D__law_draw D__law_kind D_flawed_worths D_flawed_best D__law_told D__law_table D__law_sum
theorem walk (tb2:Addr) {l:PySem.W.OpenLaw} {q:Program} {loose:List Str} {XP:(Str→Option Value)→Heap→Prop} {YP:World→Heap→Prop} {d:DefRec} {K:Params→PySem.W.Frag} {Ts:List Addr} (hm_tb2:tb2∈Ts) (hn:l.most=some 63) (hdf:d.params.defaults=[])
  (hY:∀ (w:World) (h:Heap),YP w h→(K w.params).In h) (hT:∀ (w:World) (h:Heap),YP w h→∀ T∈Ts,h.get? T=some (PySem.W.tabObj #[])∧(K w.params).lookup T=none∧∃ c,PySem.W.CodeHd h c T)
  (F:∀ (w:World) (mg:Str→Option Value) (fa:Addr) (h:Heap),(K w.params).In h→h.Ns mainGlobals mg→mg d.name=some (.ref fa) →
   ∃ fd:FuncData,(∀ (s:Shared) (u:Value),BindsTo s fd ⟨[u],[]⟩ [("_law_script",u)])∧∀ base:Heap,(K w.params).In base→base.Ns mainGlobals mg→FnOk l.prog w (K w.params) mg base CX0 18 fa fd ["_law_script"] (sp_law tb2 (K w.params))) :
  PySem.W.WalkO q loose XP YP l.row.toRowW d [] (fun f vs=>PySem.call f vs) :=
 L2.walk_ofT (n:=63) (k:=18) (x:="_law_script") (CX:=fun _=>CX0) (sp:=fun w=>sp_law tb2 (K w.params)) hn (by decide) hdf ⟨rfl,by decide,by decide⟩ hY hT F (fun _ _ a ns hl hO hS=>⟨a,ns,rfl,hS,hl,hO.2 tb2 hm_tb2,fun _=>rfl⟩) fun _ _ _ _ _ z=>z
end K54
open PySem PySem.W PyProof.Rows
set_option maxRecDepth 100000 in
set_option maxHeartbeats 0 in
theorem PySem.Challenge.cw_glazebench_k54_flawed_worths_holds : PySem.Challenge.rw_glazebench_k54_flawed_worths.Holds := by
 refine KH.prep fun said => ?_
 have fx : ∀ s, KH.Xp PySem.Challenge.pw_glazebench_k54_flawed_worths s = true → XL (KH.qv PySem.Challenge.pw_glazebench_k54_flawed_worths) [] (s.heap.nsMap mainGlobals) s.heap := fun s e => xl_of s (Bool.and_eq_true_iff.mp e).1
 have fr : ∀ s, KH.Xp PySem.Challenge.pw_glazebench_k54_flawed_worths s = true → RecFacts (RowW.records (OpenRow.toRowW PySem.Challenge.rw_glazebench_k54_flawed_worths.row)) s.heap := fun s e => recFacts_of (Bool.and_eq_true_iff.mp e).2
 refine holds_open (XP := XL (KH.qv PySem.Challenge.pw_glazebench_k54_flawed_worths) []) KH.left (L2.hookT (kHook KH.KK KH.kas KH.kas_is) KH.Ts).of (L2.hookT (kHook KH.KK KH.kas KH.kas_is) KH.Ts).keeps fx XL.keeps (by rfl) (by rfl) (by rfl) fr (by rfl) said (by decide +kernel) ?hb ?hw ?hc
 case hb => exact ⟨rfl,rfl, rfl,rfl, rfl, by decide +kernel⟩
 case hw => w_witness2
 case hc =>
  k_fill
  refine K54.walk (l := PySem.Challenge.rw_glazebench_k54_flawed_worths) (Ts := KH.Ts) 329 (by simp [KH.Ts]) rfl rfl (fun w h Y => PySem.W.kIn_of Y.1) ?HT ?F
  case HT =>
   intro w h Y T hT
   refine ⟨Y.2 T hT, ?_⟩
   have hT : T ∈ [329] := hT
   simp only [List.mem_cons, List.not_mem_nil, or_false] at hT
   subst hT
   ·exact ⟨by kernel_rfl, 333, L2.codeTB_of (c := 333) (T := 329) (by kernel_rfl) h (PySem.W.kIn_of Y.1)⟩
  case F =>
   intro w mg fa h KX G hmg
   refine' K54.all_mk (tb2 := 329) KX G hmg ?my_aT ?my_aC_cW ?my_ic_cW ?my_a_cWcW ?my_i_cW ?my_l_cW ?my_cc_cW ?my_k_cW ?my_lT_cW ?my_eT_cW ?my_aC_cU ?my_ic_cU ?my_a_cUcU ?my_i_cU ?my_l_cU ?my_cc_cU ?my_k_cU ?my_aC_cL ?my_ic_cL ?my_a_cLcL ?my_i_cL ?my_l_cL ?my_cc_cL ?my_k_cL ?my_kit ?my_aG ?my_eG ?my_a0 ?my_l0 ?my_cc0 ?my_k0 ?my_a1 ?my_l1 ?my_cc1 ?my_k1 ?my_a2 ?my_l2 ?my_cc2 ?my_k2 ?my_a3 ?my_l3 ?my_cc3 ?my_k3 ?my_a4 ?my_l4 ?my_cc4 ?my_k4 ?my_a5 ?my_l5 ?my_cc5 ?my_k5 ?my_a6 ?my_l6 ?my_cc6 ?my_k6 ?my_a7 ?my_l7 ?my_cc7 ?my_k7 ?my_a8 ?my_l8 ?my_cc8 ?my_k8 ?my_a9 ?my_l9 ?my_cc9 ?my_k9 ?my_a10 ?my_l10 ?my_cc10 ?my_k10 ?my_a11 ?my_l11 ?my_cc11 ?my_k11 ?my_a12 ?my_l12 ?my_cc12 ?my_k12 ?my_a13 ?my_l13 ?my_cc13 ?my_k13 ?my_a14 ?my_l14 ?my_cc14 ?my_k14 ?my_a15 ?my_l15 ?my_cc15 ?my_k15 ?my_a16 ?my_l16 ?my_cc16 ?my_k16 ?my_a17 ?my_l17 ?my_cc17 ?my_k17 ?my_ec17 ?my_hC17 ?my_a18 ?my_l18 ?my_cc18 ?my_k18 ?my_a19 ?my_l19 ?my_cc19 ?my_k19 ?my_a20 ?my_l20 ?my_cc20 ?my_k20 ?my_a21 ?my_l21 ?my_cc21 ?my_k21 ?my_a22 ?my_l22 ?my_cc22 ?my_k22 ?my_a23 ?my_l23 ?my_cc23 ?my_k23 ?my_a24 ?my_l24 ?my_cc24 ?my_k24 ?my_a25 ?my_l25 ?my_cc25 ?my_k25 ?my_a26 ?my_l26 ?my_cc26 ?my_k26 ?my_a27 ?my_l27 ?my_cc27 ?my_k27 ?my_a28 ?my_l28 ?my_cc28 ?my_k28 ?my_a29 ?my_l29 ?my_cc29 ?my_k29 ?my_a30 ?my_l30 ?my_cc30 ?my_k30 ?my_a31 ?my_l31 ?my_cc31 ?my_k31 ?my_a32 ?my_l32 ?my_cc32 ?my_k32 ?my_a33 ?my_l33 ?my_cc33 ?my_k33 ?my_a34 ?my_l34 ?my_cc34 ?my_k34 ?my_a35 ?my_l35 ?my_cc35 ?my_k35 ?my_a36 ?my_l36 ?my_cc36 ?my_k36 ?my_a37 ?my_l37 ?my_cc37 ?my_k37 ?my_a38 ?my_l38 ?my_cc38 ?my_k38 ?my_a39 ?my_l39 ?my_cc39 ?my_k39 ?my_abm ?my_lbm ?my_nbm1 ?my_nbm2 ?my_z0 ?my_z1 ?my_z2 ?my_z3 ?my_z4 ?my_z5 ?my_z6 ?my_z7 ?my_z8 ?my_z9 ?my_z10 ?my_z11 ?my_z12 ?my_z13 ?my_g0 ?my_g1 ?my_g2 ?my_g3 ?my_g4 ?my_g5 ?my_g6 ?my_g7
   (case my_aT => k_is); (case my_aC_cW => k_is); (case my_a_cWcW => k_is); (case my_i_cW => k_is); (case my_l_cW => k_is); (case my_cc_cW => k_is); (case my_k_cW => k_is); (case my_lT_cW => k_is)
   (case my_aC_cU => k_is); (case my_a_cUcU => k_is); (case my_i_cU => k_is); (case my_l_cU => k_is); (case my_cc_cU => k_is); (case my_k_cU => k_is); (case my_aC_cL => k_is); (case my_a_cLcL => k_is)
   (case my_i_cL => k_is); (case my_l_cL => k_is); (case my_cc_cL => k_is); (case my_k_cL => k_is); (case my_aG => k_is); (case my_a0 => k_is); (case my_l0 => k_is); (case my_cc0 => k_is)
   (case my_k0 => k_is); (case my_a1 => k_is); (case my_l1 => k_is); (case my_cc1 => k_is); (case my_k1 => k_is); (case my_a2 => k_is); (case my_l2 => k_is); (case my_cc2 => k_is)
   (case my_k2 => k_is); (case my_a3 => k_is); (case my_l3 => k_is); (case my_cc3 => k_is); (case my_k3 => k_is); (case my_a4 => k_is); (case my_l4 => k_is); (case my_cc4 => k_is)
   (case my_k4 => k_is); (case my_a5 => k_is); (case my_l5 => k_is); (case my_cc5 => k_is); (case my_k5 => k_is); (case my_a6 => k_is); (case my_l6 => k_is); (case my_cc6 => k_is)
   (case my_k6 => k_is); (case my_a7 => k_is); (case my_l7 => k_is); (case my_cc7 => k_is); (case my_k7 => k_is); (case my_a8 => k_is); (case my_l8 => k_is); (case my_cc8 => k_is)
   (case my_k8 => k_is); (case my_a9 => k_is); (case my_l9 => k_is); (case my_cc9 => k_is); (case my_k9 => k_is); (case my_a10 => k_is); (case my_l10 => k_is); (case my_cc10 => k_is)
   (case my_k10 => k_is); (case my_a11 => k_is); (case my_l11 => k_is); (case my_cc11 => k_is); (case my_k11 => k_is); (case my_a12 => k_is); (case my_l12 => k_is); (case my_cc12 => k_is)
   (case my_k12 => k_is); (case my_a13 => k_is); (case my_l13 => k_is); (case my_cc13 => k_is); (case my_k13 => k_is); (case my_a14 => k_is); (case my_l14 => k_is); (case my_cc14 => k_is)
   (case my_k14 => k_is); (case my_a15 => k_is); (case my_l15 => k_is); (case my_cc15 => k_is); (case my_k15 => k_is); (case my_a16 => k_is); (case my_l16 => k_is); (case my_cc16 => k_is)
   (case my_k16 => k_is); (case my_a17 => k_is); (case my_l17 => k_is); (case my_cc17 => k_is); (case my_k17 => k_is); (case my_a18 => k_is); (case my_l18 => k_is); (case my_cc18 => k_is)
   (case my_k18 => k_is); (case my_a19 => k_is); (case my_l19 => k_is); (case my_cc19 => k_is); (case my_k19 => k_is); (case my_a20 => k_is); (case my_l20 => k_is); (case my_cc20 => k_is)
   (case my_k20 => k_is); (case my_a21 => k_is); (case my_l21 => k_is); (case my_cc21 => k_is); (case my_k21 => k_is); (case my_a22 => k_is); (case my_l22 => k_is); (case my_cc22 => k_is)
   (case my_k22 => k_is); (case my_a23 => k_is); (case my_l23 => k_is); (case my_cc23 => k_is); (case my_k23 => k_is); (case my_a24 => k_is); (case my_l24 => k_is); (case my_cc24 => k_is)
   (case my_k24 => k_is); (case my_a25 => k_is); (case my_l25 => k_is); (case my_cc25 => k_is); (case my_k25 => k_is); (case my_a26 => k_is); (case my_l26 => k_is); (case my_cc26 => k_is)
   (case my_k26 => k_is); (case my_a27 => k_is); (case my_l27 => k_is); (case my_cc27 => k_is); (case my_k27 => k_is); (case my_a28 => k_is); (case my_l28 => k_is); (case my_cc28 => k_is)
   (case my_k28 => k_is); (case my_a29 => k_is); (case my_l29 => k_is); (case my_cc29 => k_is); (case my_k29 => k_is); (case my_a30 => k_is); (case my_l30 => k_is); (case my_cc30 => k_is)
   (case my_k30 => k_is); (case my_a31 => k_is); (case my_l31 => k_is); (case my_cc31 => k_is); (case my_k31 => k_is); (case my_a32 => k_is); (case my_l32 => k_is); (case my_cc32 => k_is)
   (case my_k32 => k_is); (case my_a33 => k_is); (case my_l33 => k_is); (case my_cc33 => k_is); (case my_k33 => k_is); (case my_a34 => k_is); (case my_l34 => k_is); (case my_cc34 => k_is)
   (case my_k34 => k_is); (case my_a35 => k_is); (case my_l35 => k_is); (case my_cc35 => k_is); (case my_k35 => k_is); (case my_a36 => k_is); (case my_l36 => k_is); (case my_cc36 => k_is)
   (case my_k36 => k_is); (case my_a37 => k_is); (case my_l37 => k_is); (case my_cc37 => k_is); (case my_k37 => k_is); (case my_a38 => k_is); (case my_l38 => k_is); (case my_cc38 => k_is)
   (case my_k38 => k_is); (case my_a39 => k_is); (case my_l39 => k_is); (case my_cc39 => k_is); (case my_k39 => k_is); (case my_abm => k_is); (case my_lbm => k_is); (case my_z0 => k_is)
   (case my_z1 => k_is); (case my_z2 => k_is); (case my_z3 => k_is); (case my_z4 => k_is); (case my_z5 => k_is); (case my_z6 => k_is); (case my_z7 => k_is); (case my_z8 => k_is)
   (case my_z9 => k_is); (case my_z10 => k_is); (case my_z11 => k_is); (case my_z12 => k_is); (case my_z13 => k_is); (case my_g0 => k_is); (case my_g1 => k_is); (case my_g2 => k_is)
   (case my_g3 => k_is); (case my_g4 => k_is); (case my_g5 => k_is); (case my_g6 => k_is); (case my_g7 => k_is); (case my_eT_cW => rfl); (case my_ec17 => rfl); (case my_ic_cW => kernel_rfl)
   (case my_ic_cU => kernel_rfl); (case my_ic_cL => kernel_rfl); (case my_kit => kernel_rfl); (case my_eG => kernel_rfl); (case my_hC17 => kernel_rfl); (case my_nbm1 => decide); (case my_nbm2 => decide)
