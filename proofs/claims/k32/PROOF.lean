import PyProof.Rows.All
import Wide.All
import OpenK.AllK
import Wide.FinOn
import Lean
import PyProof.EqAt
import PyProof.EqKinds
import PyProof.TupleCall
import PyProof.Rows.SortRuns
import PyProof.NeKinds
import PyProof.ExcAttrAll.ValueError
import PyProof.StationsW
import PyProof.PassesOwn
import PyProof.RulesAs
import PyProof.NsDelKeeps
import PyProof.CompMap
import PyProof.DictItems
import KE.KPairComp
import KE.KMinKey
import KE.KDictList
import KE.KDictOf
import KE.KEqDict
import PyProof.DictIter
import PyProof.DictWalks
import PyProof.Rows.DictUnroll
import KE.KRevIter
import KE.KLam
import KE.KSortKey
import KE.KSortTup
import PyProof.Rows.StrJoin2
import PyProof.Rows.StrNews
import PyProof.StrLawsTight
import PyProof.StrWalks
import PyProof.StrBlockH
import KE.KIntText
import KE.LcSums
import PyProof.ZipIter
import KE.KItemsList
import PySem.Challenge.RW_glazebench_k32_moves
set_option Elab.async false
set_option linter.all false
set_option maxRecDepth 100000
namespace L2
open PySem PySem.Spec PyProof.Rows
abbrev Key:=Sum Int Str
def keyIs:Key→Value→Bool
 | .inl k,v=>Value.isInt k v
 | .inr x,v=>Value.isStrOf x v
def keyH (w:World):Key→Int
 | .inl k=>hashInt k
 | .inr x=>hashStr w x
theorem Zbg:∀ {k:Key} {v:Value},keyIs k v=true→(∃ i t,k=Sum.inl i∧v=Value.int i t)∨(∃ x t,k=Sum.inr x∧v=Value.str x t)
 | .inl i,v,h=>by
  obtain ⟨t,e⟩:=Value.isInt_shape (k:=i) (v:=v) h
  exact .inl ⟨i,t,rfl,e⟩
 | .inr x,v,h=>by
  obtain ⟨t,e⟩:=Value.isStrOf_shape (x:=x) (v:=v) h
  exact .inr ⟨x,t,rfl,e⟩
theorem keyIs_int (i:Int) (t:Tok):keyIs (.inl i) (.int i t)=true:=by simp [keyIs,Value.isInt]
theorem keyIs_str (x:Str) (t:Tok):keyIs (.inr x) (.str x t)=true:=by simp [keyIs,Value.isStrOf]
theorem key_ll (a b:Int):decide ((Sum.inl a:Key)=Sum.inl b)=(a == b):=by
 by_cases e:a=b
 ·subst e; simp
 ·have h:¬ (Sum.inl a:Key)=Sum.inl b:=fun q=>e (Sum.inl.inj q)
  rw [decide_eq_false h]
  exact (beq_eq_false_iff_ne.mpr e).symm
theorem key_rr (a b:Str):decide ((Sum.inr a:Key)=Sum.inr b)=decide (a=b):=by
 by_cases e:a=b
 ·subst e; simp
 ·have h:¬ (Sum.inr a:Key)=Sum.inr b:=fun q=>e (Sum.inr.inj q)
  rw [decide_eq_false h,decide_eq_false e]
theorem key_lr (a:Int) (b:Str):decide ((Sum.inl a:Key)=Sum.inr b)=false:=decide_eq_false (fun q=>nomatch q)
theorem key_rl (a:Str) (b:Int):decide ((Sum.inr a:Key)=Sum.inl b)=false:=decide_eq_false (fun q=>nomatch q)
def Zbt (prog:Program) (w:World):PySem.KeyKind prog w Key where
 is:=keyIs
 hash:=keyH w
 inj:=fun v a b ha hb=>by
  rcases Zbg ha with ⟨i,t,rfl,rfl⟩ | ⟨x,t,rfl,rfl⟩
  ·rcases Zbg hb with ⟨j,u,rfl,e⟩ | ⟨y,u,rfl,e⟩
   ·injection e with e1 _; rw [e1]
   ·exact nomatch e
  ·rcases Zbg hb with ⟨j,u,rfl,e⟩ | ⟨y,u,rfl,e⟩
   ·exact nomatch e
   ·injection e with e1 _; rw [e1]
 byValue:=fun k v h=>by
  rcases Zbg h with ⟨i,t,rfl,rfl⟩ | ⟨x,t,rfl,rfl⟩ <;> rfl
 pyHash:=fun hv h=>by
  rcases Zbg hv with ⟨i,t,rfl,rfl⟩ | ⟨x,t,rfl,rfl⟩
  ·exact wpAny_pyHash_int h
  ·exact wpAny_pyHash_str h
 eqBool:=fun hu hv h=>by
  rcases Zbg hu with ⟨i,t,rfl,rfl⟩ | ⟨x,t,rfl,rfl⟩
  ·rcases Zbg hv with ⟨j,u,rfl,rfl⟩ | ⟨y,u,rfl,rfl⟩
   ·rw [key_ll] at h; exact wpAny_eqBool_int h
   ·rw [key_lr] at h; exact SeqAt.EqAt.int_str i t y u _ _ _ _ h
  ·rcases Zbg hv with ⟨j,u,rfl,rfl⟩ | ⟨y,u,rfl,rfl⟩
   ·rw [key_rl] at h; exact SeqAt.EqAt.str_int x t j u _ _ _ _ h
   ·rw [key_rr] at h; exact wpAny_eqBool_str h
 «strs»:=fun k x t v h=>by
  rcases Zbg h with ⟨i,u,rfl,e⟩ | ⟨y,u,rfl,e⟩
  ·exact nomatch e
  ·injection e with e1 _
   subst e1
   cases v <;> rfl
theorem Zkt (prog:Program) (w:World) (i:Int) (t:Tok):(Zbt prog w).is (.inl i) (.int i t)=true:=keyIs_int i t
theorem Zks (prog:Program) (w:World) (x:Str) (t:Tok):(Zbt prog w).is (.inr x) (.str x t)=true:=keyIs_str x t
end L2
namespace L2
open PySem PySem.Spec PyProof.Rows
inductive V where
 | non | bl (b:Bool) | int (i:Int) | str (x:Str) | byt (b:Array UInt8) | flt (b:UInt64) | ref (a:Addr) | ty (n:String)
 deriving DecidableEq
def RelV:V→Value→Prop
 | .non,u=>u=Value.none
 | .bl b,u=>u=Value.bool b
 | .int i,u=>∃ t,u=Value.int i t
 | .str x,u=>∃ t,u=Value.str x t
 | .byt b,u=>∃ t,u=Value.bytes b t
 | .flt b,u=>∃ t,u=Value.float b t
 | .ref a,u=>u=Value.ref a
 | .ty n,u=>u=Value.type n
abbrev Vals:List V→List Value→Prop:=Paired RelV
theorem Vals.length {xs:List V} {us:List Value} (r:Vals xs us):xs.length=us.length:=Paired.length r
theorem Vals.get:∀ {xs:List V} {us:List Value} {i:Nat} {x:V},Vals xs us→xs[i]?=some x→∃ u,us[i]?=some u∧RelV x u
 | _,_,_,_,.nil,e=>by simp at e
 | _,_,0,_,.cons r _,e=>by simp at e; subst e; exact ⟨_,rfl,r⟩
 | _,_,i+1,x,.cons _ t,e=>by
  obtain ⟨u,h1,h2⟩:=Vals.get (i:=i) (x:=x) t (by simpa using e)
  exact ⟨u,by simpa using h1,h2⟩
theorem Vals.append:∀ {xs ys:List V} {us ws:List Value},Vals xs us→Vals ys ws→Vals (xs++ys) (us++ws)
 | _,_,_,_,.nil,s=>s
 | _,_,_,_,.cons r t,s=>.cons r (Vals.append t s)
theorem Vals.take:∀ {xs:List V} {us:List Value} (n:Nat),Vals xs us→Vals (xs.take n) (us.take n)
 | _,_,0,_=>.nil
 | _,_,_+1,.nil=>.nil
 | _,_,n+1,.cons r t=>.cons r (Vals.take n t)
theorem Vals.drop:∀ {xs:List V} {us:List Value} (n:Nat),Vals xs us→Vals (xs.drop n) (us.drop n)
 | _,_,0,r=>r
 | _,_,_+1,.nil=>.nil
 | _,_,n+1,.cons _ t=>Vals.drop n t
def RelO:Option V→Option Value→Prop
 | some v,some u=>RelV v u
 | none,none=>True
 | _,_=>False
def KV {κ:Type}:List (κ × V)→List (κ × Value)→Prop:=Paired fun (p:κ × V) (q:κ × Value)=>p.1=q.1∧RelV p.2 q.2
def kV:Key→V
 | .inl i=>.int i
 | .inr x=>.str x
inductive HO where
 | lst (xs:List V)
 | tup (xs:List V)
 | dK (kvs:List (Key × V)) | dT (kvs:List (List Key × V))
 | set (S:Int→Bool) (n:Nat)
 | ins (C dx:Addr) (fs:List (Str × V))
 | own (x:Addr)
 | xd (fs:List (Str × V))
 | met (f x:Addr)
 | rng (lo hi:Int)
 | frz (o:Obj) (u:HO)
 | tbl (ps:Array Value)
 | ext (φ:Heap→Prop)
abbrev Hp:=Addr→Option HO
def upd (H:Hp) (a:Addr) (o:HO):Hp:=fun b=>if b=a then some o else H b
theorem upd_same {H:Hp} {a:Addr} {o:HO}:upd H a o a=some o:=by unfold upd; rw [if_pos rfl]
theorem Zak {H:Hp} {a b:Addr} {o:HO} (h:b≠a):upd H a o b=H b:=by unfold upd; rw [if_neg h]
theorem Zi6 {H:Hp} {a b:Addr} {o u:HO} (h:H a=some o) (h':H b=some u) (d:o≠u):a≠b:=by
 intro e; subst e; rw [h] at h'; exact d (Option.some.inj h')
theorem Zag {H:Hp} {a b:Addr} {o:HO} (h:H a=some o) (h':H b=none):a≠b:=by
 intro e; subst e; rw [h] at h'; cases h'
section
variable (P:Program) (w:World)
def ObjOk (H:Hp) (h:Heap) (a:Addr):HO→Prop
 | .lst xs=>xs.length≤sizeLine∧∃ (its:List Value) (n:Nat),Vals xs its∧h.get? a=some { cls:=.type "list",data:=.seq its.toArray n }
 | .tup xs=>xs.length≤sizeLine∧∃ its:List Value,Vals xs its∧IsTup h a its.toArray
 | .dK kvs=>kvs.length≤sizeLine∧(a == sysModules)=false∧∃ vs,KV kvs vs∧h.DictOf (Zbt P w) a vs
 | .dT kvs=>kvs.length≤sizeLine∧(a == sysModules)=false∧∃ xs:List (List Key × Addr × Value),
   Paired (fun (p:List Key × V) (q:List Key × Addr × Value)=>p.1=q.1∧H q.2.1=some (.tup (p.1.map kV))∧RelV p.2 q.2.2) kvs xs ∧
   ∃ o es ep,h.get? a=some o∧o.ExactDict∧o.data=.dict es ep∧es.toList=xs.map (entryOfKey (tupleKind (Zbt P w)))∧(xs.map (·.1)).Nodup
 | .set S n=>h.SetOf (intKind P w) a S n
 | .ins C dx fs=>H dx=some (.own a)∧fs.length≤1000∧dx≠a∧h.get? a=some (PySem.W.instObj C dx) ∧
   ∃ mA,h.Ns1 dx mA∧(∀ f,RelO (fs.lookup f) (mA f))∧PySem.Within mA (fs.map (·.1))
 | .own _=>∃ o,h.get? a=some o
 | .xd fs=>∃ mA,h.Ns1 a mA∧∀ f,RelO (fs.lookup f) (mA f)
 | .rng lo hi=>∃ t u v,h.get? a=some { cls:=.type "range",data:=.fields #[.int lo t,.int hi u,.int 1 v] }
 | .frz o u=>h.get? a=some o∧ObjOk H h a u
 | .tbl ps=>h.get? a=some { cls:=.none,data:=.fields ps }
 | .met f x=>h.get? a=some (PySem.W.methodObj (.ref f) (.ref x))
 | .ext φ=>φ h∧(∃ o,h.get? a=some o)∧∀ h1 h2:Heap,φ h1→(∀ o,h1.get? a=some o→h2.get? a=some o)→φ h2
def HOk (H:Hp) (h:Heap):Prop:=∀ a o,H a=some o→ObjOk P w H h a o
end
section
variable {P:Program} {w:World} {H H':Hp} {h h':Heap} {a:Addr} {o:HO}
theorem ObjOk.lt (x:ObjOk P w H h a o):a < h.objs.size:=by
 cases o with
 | lst xs=>obtain ⟨_,_,_,_,e⟩:=x; exact Heap.lt_size e
 | tup xs=>obtain ⟨_,_,_,p⟩:=x; exact p.lt
 | dK kvs=>obtain ⟨_,_,_,_,o,_,_,e,_⟩:=x; exact Heap.lt_size e
 | dT kvs=>obtain ⟨_,_,_,_,o,_,_,e,_⟩:=x; exact Heap.lt_size e
 | set S n=>obtain ⟨o,_,_,_,e,_⟩:=x; exact Heap.lt_size e
 | ins C dx fs=>obtain ⟨_,_,_,e,_⟩:=x; exact Heap.lt_size e
 | own y=>obtain ⟨_,e⟩:=x; exact Heap.lt_size e
 | xd fs=>obtain ⟨_,⟨_,_,_,e,_⟩,_⟩:=x; exact Heap.lt_size e
 | rng lo hi=>obtain ⟨_,_,_,e⟩:=x; exact Heap.lt_size e
 | frz ob u=>obtain ⟨e,_⟩:=x; exact Heap.lt_size e
 | tbl ps=>exact Heap.lt_size (show h.get? a=some _ from x)
 | met f y=>exact Heap.lt_size (show h.get? a=some _ from x)
 | ext φ=>obtain ⟨_,⟨_,e⟩,_⟩:=x; exact Heap.lt_size e
theorem Paired.mapP {α β:Type} {F G:α→β→Prop}:∀ {l₁:List α} {l₂:List β},Paired F l₁ l₂→(∀ a b,F a b→G a b)→Paired G l₁ l₂
 | _,_,.nil,_=>.nil
 | _,_,.cons r t,f=>.cons (f _ _ r) (Paired.mapP t f)
theorem ObjOk.stay (x:ObjOk P w H h a o) (k:∀ b u,(b=a∨H b=some (.own a))→h.get? b=some u→h'.get? b=some u)
  (ho:∀ b,H b=some (.own a)→H' b=some (.own a)) (ht:∀ b xs,H b=some (.tup xs)→H' b=some (.tup xs)):ObjOk P w H' h' a o:=by
 induction o with
 | lst xs=>obtain ⟨z,its,n,r,e⟩:=x; exact ⟨z,its,n,r,k _ _ (.inl rfl) e⟩
 | tup xs=>obtain ⟨z,its,r,ob,e,c⟩:=x; exact ⟨z,its,r,ob,k _ _ (.inl rfl) e,c⟩
 | dK kvs=>obtain ⟨z,y,vs,r,ob,es,ep,e,c⟩:=x; exact ⟨z,y,vs,r,ob,es,ep,k _ _ (.inl rfl) e,c⟩
 | dT kvs =>
  obtain ⟨z,y,xs,r,ob,es,ep,e,c⟩:=x
  exact ⟨z,y,xs,Paired.mapP r fun p q z=>⟨z.1,ht _ _ z.2.1,z.2.2⟩,ob,es,ep,k _ _ (.inl rfl) e,c⟩
 | set S n=>obtain ⟨ob,es,ep,t,e,c⟩:=x; exact ⟨ob,es,ep,t,k _ _ (.inl rfl) e,c⟩
 | ins C dx fs =>
  obtain ⟨d,z,ne,e,mA,⟨od,es,ep,e2,c⟩,r⟩:=x
  exact ⟨ho _ d,z,ne,k _ _ (.inl rfl) e,mA,⟨od,es,ep,k _ _ (.inr d) e2,c⟩,r⟩
 | own y=>obtain ⟨ob,e⟩:=x; exact ⟨ob,k _ _ (.inl rfl) e⟩
 | xd fs=>obtain ⟨mA,⟨od,es,ep,e,c⟩,r⟩:=x; exact ⟨mA,⟨od,es,ep,k _ _ (.inl rfl) e,c⟩,r⟩
 | rng lo hi=>obtain ⟨t,u,v,e⟩:=x; exact ⟨t,u,v,k _ _ (.inl rfl) e⟩
 | frz ob u ih=>obtain ⟨e,q⟩:=x; exact ⟨k _ _ (.inl rfl) e,ih q⟩
 | tbl ps =>
  have e:h.get? a=some { cls:=.none,data:=.fields ps }:=x
  show h'.get? a=some { cls:=.none,data:=.fields ps }
  exact k a _ (.inl rfl) e
 | met f y =>
  have e:h.get? a=some (PySem.W.methodObj (.ref f) (.ref y)):=x
  show h'.get? a=some (PySem.W.methodObj (.ref f) (.ref y))
  exact k a _ (.inl rfl) e
 | ext φ=>obtain ⟨p,⟨o,e⟩,st⟩:=x; exact ⟨st _ _ p fun o q=>k _ _ (.inl rfl) q,⟨o,k _ _ (.inl rfl) e⟩,st⟩
theorem HOk.lt (x:HOk P w H h) (e:H a=some o):a < h.objs.size:=(x a o e).lt
theorem HOk.fresh (x:HOk P w H h) (e:h.objs.size≤a):H a=none:=by
 cases q:H a with
 | none=>rfl
 | some u=>exact absurd (Nat.lt_of_lt_of_le (x.lt q) e) (Nat.lt_irrefl _)
theorem HOk.kept (x:HOk P w H h) (k:∀ b u,h.get? b=some u→h'.get? b=some u):HOk P w H h':=fun a o e =>
 (x a o e).stay (fun b u _ q=>k b u q) (fun _ q=>q) fun _ _ q=>q
theorem HOk.laid (x:HOk P w H h) (k:∀ b u,h.get? b=some u→h'.get? b=some u) (hp:h.objs.size≤a) (new:ObjOk P w (upd H a o) h' a o):HOk P w (upd H a o) h':=fun b u e=>by
 have hn:=x.fresh hp
 by_cases hb:b=a
 ·subst hb; rw [upd_same] at e; cases e; exact new
 ·rw [Zak hb] at e
  exact (x b u e).stay (fun c v _ q=>k c v q) (fun c q=>by rw [Zak (Zag q hn)]; exact q) fun c xs q=>by rw [Zak (Zag q hn)]; exact q
end
def Rd (H:Hp) (a:Addr) (u:HO):Prop:=H a=some u∨∃ o,H a=some (.frz o u)
theorem Rd.ok {P:Program} {w:World} {H:Hp} {h:Heap} {a:Addr} {u:HO} (r:Rd H a u) (x:HOk P w H h):ObjOk P w H h a u:=by
 rcases r with r | ⟨o,r⟩
 ·exact x a u r
 ·obtain ⟨_,q⟩:=x a _ r
  exact q
def Mut:Option HO→Prop
 | some (.lst _)=>True
 | some (.dK _)=>True
 | some (.dT _)=>True
 | some (.set _ _)=>True
 | some (.ins _ _ _)=>True
 | some (.ext _)=>True
 | _=>False
section
variable {P:Program} {w:World} {H:Hp} {h h':Heap} {x e:Addr} {o':HO}
theorem HOk.write (ok:HOk P w H h) (mu:Mut (H x)) (he:e=x∨H e=some (.own x)) (k:∀ b u,b≠e→h.get? b=some u→h'.get? b=some u) (heo:∃ u,h'.get? e=some u)
  (new:ObjOk P w (upd H x o') h' x o'):HOk P w (upd H x o') h':=fun b u q=>by
 have nown:∀ c y,H c=some (.own y)→c≠x:=fun c y r z=>by subst z; rw [r] at mu; exact mu
 have ntup:∀ c xs,H c=some (.tup xs)→c≠x:=fun c xs r z=>by subst z; rw [r] at mu; exact mu
 by_cases hb:b=x
 ·subst hb; rw [upd_same] at q; cases q; exact new
 ·rw [Zak hb] at q
  by_cases hbe:b=e
  ·have q':H b=some (.own x):=by
    rcases he with z | z
    ·exact absurd (hbe.trans z) hb
    ·rw [hbe]; exact z
   rw [q] at q'; cases q'
   obtain ⟨v,hv⟩:=heo
   exact ⟨v,by rw [hbe]; exact hv⟩
  ·refine (ok b u q).stay (fun c v hc r=>k c v ?_ r) (fun c r=>by rw [Zak (nown c b r)]; exact r) fun c xs r=>by rw [Zak (ntup c xs r)]; exact r
   rcases hc with rfl | hc
   ·exact hbe
   ·rintro rfl
    rcases he with z | z
    ·exact nown c b hc z
    ·rw [hc] at z; cases z; exact hb rfl
end
structure Un (fs ex:List Addr) (H H':Hp) (h h':Heap):Prop where
 keep:∀ b o,h.get? b=some o→H b=none→b ∉ fs→b ∉ ex→h'.get? b=some o
 slot:∀ b o,h.get? b=some o→H b=none→b∈fs→b ∉ ex→∃ sl,h'.get? b=some { o with slots:=sl }
 free:∀ b o,h.get? b=some o→H b=none→b ∉ ex→H' b=none
 there:∀ b o,h.get? b=some o→b ∉ ex→∃ o',h'.get? b=some o'
 tups:∀ b xs,H b=some (.tup xs)→H' b=some (.tup xs)
 frzs:∀ b o u,H b=some (.frz o u)→H' b=some (.frz o u)
 tbls:∀ b ps,H b=some (.tbl ps)→∃ more,H' b=some (.tbl (ps++more))
section
variable {fs fs' ex ex':List Addr} {H H1 H2:Hp} {h h1 h2 h':Heap} {a x e:Addr} {o:HO}
theorem Un.any (u:Un fs ex H H1 h h1) {b:Addr} {ob:Obj} (q:h.get? b=some ob) (n:H b=none) (hx:b ∉ ex):∃ sl,h1.get? b=some { ob with slots:=sl }:=by
 by_cases hb:b∈fs
 ·exact u.slot b ob q n hb hx
 ·exact ⟨ob.slots,u.keep b ob q n hb hx⟩
theorem Un.kept (k:∀ b u,h.get? b=some u→h'.get? b=some u):Un fs ex H H h h' :=
 ⟨fun b ob q _ _ _=>k b ob q,fun b ob q _ _ _=>⟨ob.slots,k b ob q⟩,fun _ _ _ n _=>n,fun b ob q _=>⟨ob,k b ob q⟩,fun _ _ q=>q,fun _ _ _ q=>q,fun _ ps q=>⟨#[],by rw [q]; simp⟩⟩
theorem Un.refl:Un fs ex H H h h:=Un.kept fun _ _ q=>q
theorem Un.laid (k:∀ b u,h.get? b=some u→h'.get? b=some u) (hp:h.objs.size≤a) (hn:H a=none):Un fs ex H (upd H a o) h h' where
 keep:=fun b u q _ _ _=>k b u q
 slot:=fun b u q _ _ _=>⟨u.slots,k b u q⟩
 free:=fun b u q n _=>by rw [Zak (Nat.ne_of_lt (Nat.lt_of_lt_of_le (Heap.lt_size q) hp))]; exact n
 there:=fun b u q _=>⟨u,k b u q⟩
 tups:=fun b xs q=>by rw [Zak (Zag q hn)]; exact q
 frzs:=fun b u xs q=>by rw [Zak (Zag q hn)]; exact q
 tbls:=fun b ps q=>⟨#[],by rw [Zak (Zag q hn),q]; simp⟩
theorem Un.write (mu:Mut (H x)) (he:e=x∨H e=some (.own x)) (k:∀ b u,b≠e→h.get? b=some u→h'.get? b=some u) (heo:∃ u,h'.get? e=some u):Un fs ex H (upd H x o) h h':=by
 have hx:∀ b,H b=none→b≠x:=fun b n z=>by subst z; rw [n] at mu; exact mu
 have hb:∀ b,H b=none→b≠e:=fun b n z=>by
  subst z
  rcases he with r | r
  ·exact hx b n r
  ·rw [n] at r; cases r
 have hm:∀ b u,H b=some u→¬ Mut (some u)→b≠x:=fun b u q nm z=>by subst z; rw [q] at mu; exact nm mu
 refine ⟨fun b u q n _ _=>k b u (hb b n) q,fun b u q n _ _=>⟨u.slots,k b u (hb b n) q⟩,fun b u q n _=>by rw [Zak (hx b n)]; exact n,fun b u q _=>?_,
  fun b xs q=>by rw [Zak (hm b _ q fun z=>z)]; exact q,fun b u xs q=>by rw [Zak (hm b _ q fun z=>z)]; exact q,fun b ps q=>⟨#[],by rw [Zak (hm b _ q fun z=>z),q]; simp⟩⟩
 by_cases hbe:b=e
 ·subst hbe; exact heo
 ·exact ⟨u,k b u hbe q⟩
end
def trk (h:Heap) (H:Hp):List Addr:=(List.range h.objs.size).filter fun a=>(H a).isSome
def hidT (h:Heap) (H:Hp):Heap:=PySem.W.hideAll h (trk h H)
theorem hidT_size (h:Heap) (H:Hp):(hidT h H).objs.size=h.objs.size:=PySem.W.hideAll_size _ _
theorem hidT_get {h:Heap} {H:Hp} {b:Addr} {o:Obj} (e:h.get? b=some o) (n:H b=none):(hidT h H).get? b=some o :=
 PySem.W.hideAll_get _ e fun hm=>by
  have q:(H b).isSome=true:=(List.mem_filter.mp hm).2
  rw [n] at q; simp at q
theorem of_hidT {h:Heap} {H:Hp} {b:Addr} {o:Obj} (e:(hidT h H).get? b=some o):h.get? b=some o∧H b=none:=by
 have e':h.get? b=some o:=PySem.W.of_hideAll (trk h H) e
 refine ⟨e',?_⟩
 cases q:H b with
 | none=>rfl
 | some x =>
  have hm:b∈trk h H:=List.mem_filter.mpr ⟨List.mem_range.mpr (Heap.lt_size e'),by simp [q]⟩
  have z:(hidT h H).get? b=none:=PySem.W.hideAll_none (trk h H) hm
  rw [z] at e; cases e
def allNews (g h:Heap) (L:Addr):List (Addr × Obj):=(List.range h.objs.size).filterMap fun a=>if a=L∨(g.get? a).isSome=true then none else (h.get? a).map fun o=>(a,o)
def rest (g h:Heap) (L d:Addr):List (Addr × Obj):=(allNews g h L).filter fun p=>decide (p.1≠d)
end L2
namespace L2
open PySem PySem.Spec PyProof.Rows
structure Mod (K:PySem.W.Frag) (mg:Str→Option Value) (base:Heap):Prop where
 kin:K.In base
 glob:base.Ns mainGlobals mg
 blt:∃ mb,base.Ns builtinsNs mb∧∀ x:Str,x≠"__name__"→mb x=bootBuiltins x
 nolimit:base.NoLimit
structure Cx where
 prog:Program
 w:World
 K:PySem.W.Frag
 mg:Str→Option Value
 base:Heap
 A:Around
 N:List Str
 s₀:Shared
 H₀:Hp
 env:Env
 outer:List Env
 stack:List Env
 ex:List Addr
 fn:Str→Bool
 calm:Bool
 pn:List (Addr × Obj)
 xe:Value→Shared→Prop
def frs (l:List Env):List Addr:=l.filterMap (·.frame)
abbrev Cx.fs (X:Cx):List Addr:=frs X.outer
def Vis (sc:Scope) (x:Str):Prop:=sc.names.lookup x=some .local∨sc.names.lookup x=some .cell∨sc.names.lookup x=some .free
def Loc (sc:Scope) (x:Str):Prop:=sc.names.lookup x=some .local∨sc.names.lookup x=some .cell
def Look (env:Env) (h:Heap) (m:Str→Option Value) (x:Str) (u:Value):Prop :=
 (env.kindOf x=some .local∧m x=some u)∨((env.kindOf x=some .cell∨env.kindOf x=some .free)∧∃ c,env.cells.lookup x=some c∧h.IsCell c (some u))
structure Cx.Ok (X:Cx):Prop where
 mod:Mod X.K X.mg X.base
 kind:X.env.scope.kind=.function
 glob:X.env.globals=mainGlobals
 blt:X.env.builtins=builtinsNs
 above:X.s₀.heap.objs.size≤X.env.locals
 inj:∀ x y c,X.env.cells.lookup x=some c→X.env.cells.lookup y=some c→x=y
 has:∀ x,(X.env.kindOf x=some .cell∨X.env.kindOf x=some .free)→∃ c,X.env.cells.lookup x=some c
 cab:∀ x c,X.fn x=true→X.env.cells.lookup x=some c→X.s₀.heap.objs.size≤c
 hd:X.calm=true→X.A.handled=none
 frames:X.A.frames=some X.stack
 stk:X.stack=X.outer∨(X.stack=X.env :: X.outer∧X.env.frame=some X.env.locals)
 exf:∀ b∈X.ex,b≠X.env.locals∧∀ x c,X.env.cells.lookup x=some c→c≠b
 bs:∀ b o,X.base.get? b=some o→X.s₀.heap.get? b=some o∧X.H₀ b=none
 bsz:X.base.objs.size≤X.s₀.heap.objs.size
 noex:∀ b o,X.base.get? b=some o→b ∉ X.ex
 exfs:∀ b∈X.ex,b ∉ X.fs
 funs:X.s₀.heap.FunFrames X.base X.outer
 frf:∀ b∈X.fs,X.H₀ b=none
structure Inv (X:Cx) (pins:List (Addr × Obj)) (σ:List (Option V)) (H:Hp) (s:Shared):Prop where
 ok:X.Ok
 os:s.os=X.s₀.os
 bare:AllBare s.gens
 base:Un X.fs X.ex X.H₀ H X.s₀.heap s.heap
 loc:∃ m,s.heap.Ns X.env.locals m∧∀ (i:Nat) (x:Str) (v:V),X.N[i]?=some x→σ[i]?=some (some v)→Vis X.env.scope x→∃ u,RelV v u∧Look X.env s.heap m x u
 cell:∀ x c,X.env.cells.lookup x=some c→∃ v,s.heap.IsCell c v
 free:H X.env.locals=none
 freeC:∀ x c,X.env.cells.lookup x=some c→H c=none
 pin:∀ p∈X.pn++pins,s.heap.get? p.1=some p.2∧H p.1=none∧p.1≠X.env.locals∧p.1 ∉ X.fs∧∀ v,p.2.data≠.cell v
 hok:HOk X.prog X.w H s.heap
 len:σ.length=X.N.length
section
variable {X:Cx} {pins:List (Addr × Obj)} {σ:List (Option V)} {H H':Hp} {s:Shared} {h':Heap}
theorem Cx.Ok.nofr (ok:X.Ok) {b:Addr} {o:Obj} (e:X.base.get? b=some o):b ∉ X.fs:=fun hb=>by
 have:=(ok.funs.mem hb).1
 rw [e] at this; cases this
theorem Inv.bs (I:Inv X pins σ H s):∀ b o,X.base.get? b=some o→s.heap.get? b=some o∧H b=none:=fun b o e =>
 ⟨I.base.keep b o (I.ok.bs b o e).1 (I.ok.bs b o e).2 (I.ok.nofr e) (I.ok.noex b o e),I.base.free b o (I.ok.bs b o e).1 (I.ok.bs b o e).2 (I.ok.noex b o e)⟩
theorem Inv.bk (I:Inv X pins σ H s):∀ b o,X.base.get? b=some o→s.heap.get? b=some o:=fun b o e=>(I.bs b o e).1
theorem Inv.mod (I:Inv X pins σ H s):Mod X.K X.mg X.base:=I.ok.mod
theorem Inv.kIn (I:Inv X pins σ H s):X.K.In s.heap:=I.ok.mod.kin.keeps I.bk
theorem Inv.lt (I:Inv X pins σ H s):X.env.locals < s.heap.objs.size:=let ⟨_,hn,_⟩:=I.loc; hn.lt
theorem Inv.sz (I:Inv X pins σ H s):X.s₀.heap.objs.size≤s.heap.objs.size:=Nat.le_trans I.ok.above (Nat.le_of_lt I.lt)
theorem Inv.nofs (I:Inv X pins σ H s) {a:Addr} (h:s.heap.objs.size≤a):a ∉ X.fs:=fun hb=>by
 obtain ⟨_,o,ho,_⟩:=I.ok.funs.mem hb
 exact absurd (Nat.lt_of_lt_of_le (Heap.lt_size ho) (Nat.le_trans I.sz h)) (Nat.lt_irrefl _)
theorem Inv.cne (I:Inv X pins σ H s):∀ x c,X.env.cells.lookup x=some c→c≠X.env.locals:=fun x c e z=>by
 obtain ⟨v,o,ho,hd⟩:=I.cell x c e
 obtain ⟨m,⟨o',es,ep,ho',hd',_⟩,_⟩:=I.loc
 rw [z,ho'] at ho; cases ho; rw [hd'] at hd; cases hd
theorem Inv.funs (I:Inv X pins σ H s):s.heap.FunFrames X.base X.outer:=by
 have all:∀ (l:List Env),(∀ b∈frs l,b∈X.fs)→X.s₀.heap.FunFrames X.base l→s.heap.FunFrames X.base l:=by
  intro l
  induction l with
  | nil=>intro _ _; trivial
  | cons env r ih =>
   intro hs hl
   obtain ⟨hk,⟨L,o,hf,hn,ho,hd⟩,hr⟩:=hl
   have hL:L∈X.fs:=hs L (by unfold frs; rw [List.filterMap_cons,hf]; exact List.mem_cons_self)
   obtain ⟨sl,e⟩:=I.base.slot L o ho (I.ok.frf L hL) hL fun z=>I.ok.exfs L z hL
   exact ⟨hk,⟨L,_,hf,hn,e,hd⟩,ih (fun b hb=>hs b (by unfold frs; rw [List.filterMap_cons,hf]; exact List.mem_cons_of_mem _ hb)) hr⟩
 exact all X.outer (fun _ hb=>hb) I.ok.funs
theorem Inv.stack (I:Inv X pins σ H s):s.heap.FunFrames X.base X.stack:=by
 rcases I.ok.stk with e | ⟨e,hf⟩
 ·rw [e]; exact I.funs
 ·rw [e]
  obtain ⟨m,hn,_⟩:=I.loc
  refine .cons (by rw [I.ok.kind]; decide) hf hn ?_ I.funs
  exact Heap.get?_none_of_le (Nat.le_trans I.ok.bsz I.ok.above)
theorem Inv.stkSub (I:Inv X pins σ H s):∀ b∈frs X.stack,b∈X.env.locals :: X.fs:=fun b hb=>by
 rcases I.ok.stk with e | ⟨e,hf⟩
 ·rw [e] at hb; exact List.mem_cons_of_mem _ hb
 ·rw [e] at hb
  unfold frs at hb
  rw [List.filterMap_cons,hf] at hb
  exact hb
theorem Inv.stkFree (I:Inv X pins σ H s):∀ b∈frs X.stack,H b=none:=fun b hb=>by
 rcases List.mem_cons.mp (I.stkSub b hb) with e | hb
 ·rw [e]; exact I.free
 ·obtain ⟨_,o,ho,_⟩:=I.ok.funs.mem hb
  exact I.base.free b o ho (I.ok.frf b hb) fun z=>I.ok.exfs b z hb
theorem Inv.step {g':Array GenState} {t':Nat} {d':Drawn} {ch:List Addr} (I:Inv X pins σ H s)
  (hch:∀ b∈ch,(b∈X.ex∨X.s₀.heap.objs.size≤b)∧b≠X.env.locals∧(∀ x c,X.env.cells.lookup x=some c→c≠b)∧∀ p∈X.pn++pins,p.1≠b)
  (keep:∀ b o,b≠X.env.locals→b ∉ X.fs→b ∉ ch→s.heap.get? b=some o→H b=none→h'.get? b=some o)
  (slot:∀ b o,b≠X.env.locals→b∈X.fs→b ∉ ch→s.heap.get? b=some o→H b=none→∃ sl,h'.get? b=some { o with slots:=sl }) (free:∀ b o,b ∉ ch→s.heap.get? b=some o→H b=none→H' b=none)
  (there:∀ b o,b ∉ ch→s.heap.get? b=some o→∃ o',h'.get? b=some o')
  (tups:∀ b xs,H b=some (.tup xs)→H' b=some (.tup xs)) (frzs:∀ b o u,H b=some (.frz o u)→H' b=some (.frz o u)) (tbls:∀ b ps,H b=some (.tbl ps)→∃ more,H' b=some (.tbl (ps++more)))
  (ns:∀ m,s.heap.Ns X.env.locals m→h'.Ns X.env.locals m) (hok:HOk X.prog X.w H' h') (hg:AllBare g') :
  Inv X pins σ H' { s with heap:=h',gens:=g',drawn:=d',toks:=t' }:=by
 have neL:∀ b o,X.s₀.heap.get? b=some o→b≠X.env.locals:=fun b o e=>Nat.ne_of_lt (Nat.lt_of_lt_of_le (Heap.lt_size e) I.ok.above)
 have neC:∀ b o,X.s₀.heap.get? b=some o→b ∉ X.ex→b ∉ ch:=fun b o e hx hb=>by
  rcases (hch b hb).1 with z | z
  ·exact hx z
  ·exact absurd (Nat.lt_of_lt_of_le (Heap.lt_size e) z) (Nat.lt_irrefl _)
 have cellK:∀ x c,X.env.cells.lookup x=some c→∀ v,s.heap.IsCell c v→h'.IsCell c v:=fun x c e v ⟨o,ho,hd⟩=>by
  have nch:c ∉ ch:=fun z=>(hch c z).2.2.1 x c e rfl
  by_cases hc:c∈X.fs
  ·obtain ⟨sl,q⟩:=slot c o (I.cne x c e) hc nch ho (I.freeC x c e)
   exact ⟨_,q,hd⟩
  ·exact ⟨o,keep c o (I.cne x c e) hc nch ho (I.freeC x c e),hd⟩
 refine ⟨I.ok,I.os,hg,⟨fun b o e n hb hx=>?_,fun b o e n hb hx=>?_,fun b o e n hx=>?_,fun b o e hx=>?_,fun b xs e=>tups b xs (I.base.tups b xs e),fun b o xs e=>frzs b o xs (I.base.frzs b o xs e),fun b ps e=>?_⟩,?_,fun x c e=>?_,?_,fun x c e=>?_,fun p hp=>?_,hok,I.len⟩
 ·exact keep b o (neL b o e) hb (neC b o e hx) (I.base.keep b o e n hb hx) (I.base.free b o e n hx)
 ·obtain ⟨sl,e1⟩:=I.base.slot b o e n hb hx
  obtain ⟨sl',e2⟩:=slot b _ (neL b o e) hb (neC b o e hx) e1 (I.base.free b o e n hx)
  exact ⟨sl',e2⟩
 ·obtain ⟨o',e1⟩:=I.base.there b o e hx
  exact free b o' (neC b o e hx) e1 (I.base.free b o e n hx)
 ·obtain ⟨o',e1⟩:=I.base.there b o e hx
  exact there b o' (neC b o e hx) e1
 ·obtain ⟨m1,e1⟩:=I.base.tbls b ps e
  obtain ⟨m2,e2⟩:=tbls b _ e1
  exact ⟨m1++m2,by rw [e2,Array.append_assoc]⟩
 ·obtain ⟨m,hn,hl⟩:=I.loc
  refine ⟨m,ns m hn,fun i x v e1 e2 e3=>?_⟩
  obtain ⟨u,r,l⟩:=hl i x v e1 e2 e3
  refine ⟨u,r,?_⟩
  rcases l with l | ⟨k,c,e,z⟩
  ·exact .inl l
  ·exact .inr ⟨k,c,e,cellK x c e _ z⟩
 ·obtain ⟨v,z⟩:=I.cell x c e
  exact ⟨v,cellK x c e v z⟩
 ·obtain ⟨m,⟨o,_,_,ho,_⟩,_⟩:=I.loc
  exact free _ o (fun z=>(hch _ z).2.1 rfl) ho I.free
 ·obtain ⟨v,o,ho,hd⟩:=I.cell x c e
  exact free c o (fun z=>(hch c z).2.2.1 x c e rfl) ho (I.freeC x c e)
 ·obtain ⟨e,n,ne,nf,d⟩:=I.pin p hp
  have nch:p.1 ∉ ch:=fun z=>(hch p.1 z).2.2.2 p hp rfl
  exact ⟨keep p.1 p.2 ne nf nch e n,free p.1 p.2 nch e n,ne,nf,d⟩
theorem Inv.un {t':Nat} (I:Inv X pins σ H s) (u:Un X.fs [] H H' s.heap h') (hok:HOk X.prog X.w H' h'):Inv X pins σ H' { s with heap:=h',toks:=t' }:=by
 obtain ⟨m,⟨o,es,ep,ho,r⟩,_⟩:=id I.loc
 obtain ⟨sl,hL⟩:=u.any ho I.free (by simp)
 exact I.step (g':=s.gens) (d':=s.drawn) (ch:=[]) (fun _ z=>nomatch z) (fun b o _ hb _ e n=>u.keep b o e n hb (by simp)) (fun b o _ hb _ e n=>u.slot b o e n hb (by simp)) (fun b o _ e n=>u.free b o e n (by simp)) (fun b o _ e=>u.there b o e (by simp)) u.tups u.frzs u.tbls (fun m' hm=>by
  obtain ⟨o',es',ep',ho',r'⟩:=hm
  rw [ho] at ho'; cases ho'
  exact ⟨_,es',ep',hL,r'⟩) hok I.bare
theorem Inv.call {g':Array GenState} {t':Nat} {d':Drawn} {ch:List Addr} (I:Inv X pins σ H s) (u:Un (frs X.stack) ch H H' s.heap h') (hok:HOk X.prog X.w H' h') (hg:AllBare g')
  (hch:∀ b∈ch,(b∈X.ex∨X.s₀.heap.objs.size≤b)∧b≠X.env.locals∧(∀ x c,X.env.cells.lookup x=some c→c≠b)∧∀ p∈X.pn++pins,p.1≠b) :
  Inv X pins σ H' { s with heap:=h',gens:=g',drawn:=d',toks:=t' }:=by
 obtain ⟨m,⟨o,es,ep,ho,r⟩,_⟩:=id I.loc
 obtain ⟨sl,hL⟩:=u.any ho I.free fun z=>(hch _ z).2.1 rfl
 exact I.step (ch:=ch) hch (fun b o hL hb hc e n=>u.keep b o e n (fun z=>(List.mem_cons.mp (I.stkSub b z)).elim hL hb) hc) (fun b o _ _ hc e n=>u.any e n hc) (fun b o hc e n=>u.free b o e n hc) (fun b o hc e=>u.there b o e hc) u.tups u.frzs u.tbls (fun m' hm=>by
  obtain ⟨o',es',ep',ho',r'⟩:=hm
  rw [ho] at ho'; cases ho'
  exact ⟨_,es',ep',hL,r'⟩) hok hg
theorem Inv.turned {t':Nat} {it:Addr} (I:Inv X pins σ H s) (k:∀ b o,b≠it→s.heap.get? b=some o→h'.get? b=some o) (hn:H it=none) (hL:it≠X.env.locals)
  (h1:it∈X.ex∨X.s₀.heap.objs.size≤it) (h2:∀ x c,X.env.cells.lookup x=some c→c≠it) (h3:∀ p∈X.pn++pins,p.1≠it):Inv X pins σ H { s with heap:=h',toks:=t' }:=by
 have nit:∀ b u,H b=some u→b≠it:=fun b u e z=>by rw [z,hn] at e; cases e
 refine I.step (g':=s.gens) (d':=s.drawn) (ch:=[it]) (fun b hb=>?_) (fun b o _ _ hc e _=>k b o (fun z=>hc (by simp [z])) e) (fun b o _ _ hc e _=>⟨o.slots,k b o (fun z=>hc (by simp [z])) e⟩) (fun _ _ _ _ n=>n)
  (fun b o hc e=>⟨o,k b o (fun z=>hc (by simp [z])) e⟩) (fun _ _ e=>e) (fun _ _ _ e=>e) (fun b ps e=>⟨#[],by rw [e]; simp⟩) (fun m hm=>?_) (fun b u e=>?_) I.bare
 ·have e:b=it:=by simpa using hb
  subst e
  exact ⟨h1,hL,h2,h3⟩
 ·obtain ⟨o,es,ep,ho,r⟩:=hm
  exact ⟨o,es,ep,k _ o (Ne.symm hL) ho,r⟩
 ·refine (I.hok b u e).stay (fun c v hc q=>k c v ?_ q) (fun _ q=>q) fun _ _ q=>q
  rcases hc with z | z
  ·rw [z]; exact nit b u e
  ·exact nit c _ z
theorem Inv.tok (I:Inv X pins σ H s) (t:Nat):Inv X pins σ H { s with toks:=t }:=I.un (h':=s.heap) (t':=t) Un.refl I.hok
theorem Inv.kept {t':Nat} (I:Inv X pins σ H s) (k:∀ b u,s.heap.get? b=some u→h'.get? b=some u):Inv X pins σ H { s with heap:=h',toks:=t' }:=I.un (Un.kept k) (I.hok.kept k)
theorem Inv.laid {a:Addr} {o:HO} {t':Nat} (I:Inv X pins σ H s) (k:∀ b u,s.heap.get? b=some u→h'.get? b=some u) (hp:s.heap.objs.size≤a) (new:ObjOk X.prog X.w (upd H a o) h' a o) :
  Inv X pins σ (upd H a o) { s with heap:=h',toks:=t' }:=I.un (Un.laid k hp (I.hok.fresh hp)) (I.hok.laid k hp new)
theorem Inv.write {x e:Addr} {o:HO} {t':Nat} (I:Inv X pins σ H s) (mu:Mut (H x)) (he:e=x∨H e=some (.own x)) (k:∀ b u,b≠e→s.heap.get? b=some u→h'.get? b=some u) (heo:∃ u,h'.get? e=some u)
  (new:ObjOk X.prog X.w (upd H x o) h' x o):Inv X pins σ (upd H x o) { s with heap:=h',toks:=t' }:=I.un (Un.write mu he k heo) (I.hok.write mu he k heo new)
theorem Inv.pins_of {pins':List (Addr × Obj)} (I:Inv X pins σ H s) (h:∀ p∈pins',s.heap.get? p.1=some p.2∧H p.1=none∧p.1≠X.env.locals∧p.1 ∉ X.fs∧∀ v,p.2.data≠.cell v):Inv X pins' σ H s :=
 ⟨I.ok,I.os,I.bare,I.base,I.loc,I.cell,I.free,I.freeC,fun p hp=>(List.mem_append.mp hp).elim (fun z=>I.pin p (List.mem_append_left _ z)) (h p),I.hok,I.len⟩
theorem Zhp {N:List Str} (hN:N.Nodup) {i j:Nat} {x:Str} (a:N[i]?=some x) (b:N[j]?=some x):i=j:=by
 obtain ⟨h1,e1⟩:=List.getElem?_eq_some_iff.mp a
 obtain ⟨h2,e2⟩:=List.getElem?_eq_some_iff.mp b
 exact (List.getElem_inj hN).mp (e1.trans e2.symm)
theorem store_ok2 {M:Model} {A:Around} {E:Value→Shared→Prop} {i:Nat} {x:Str} {v:V} {u:Value} {Q:Unit→Shared→Prop} (I:Inv X pins σ H s) (hN:X.N.Nodup) (hi:X.N[i]?=some x) (hx:Loc X.env.scope x) (r:RelV v u)
  (h:∀ s',Inv X pins (σ.set i (some v)) H s'→(∃ a,Heap.SameBut a s.heap s'.heap∧(a=X.env.locals∨X.env.cells.lookup x=some a))→Q () s') (hf:X.fn x=true∨X.env.scope.names.lookup x=some .local:=by first | exact .inl rfl | exact .inr rfl | assumption):wpAny M A (storeName X.env x u) Q E s:=by
 obtain ⟨m,hn,hl⟩:=id I.loc
 have hcls:(X.env.scope.kind == .class || (X.env.scope.kind == .module && X.env.locals != X.env.globals))=false:=by rw [I.ok.kind]; rfl
 have hiσ:i < σ.length:=by rw [I.len]; exact (List.getElem?_eq_some_iff.mp hi).1
 have cne:=I.cne
 have tracked:∀ {a:Addr} {h':Heap},(∃ o,s.heap.get? a=some o∧H a=none)→Heap.SameBut a s.heap h'→HOk X.prog X.w H h':=fun {a h'} ha hs b ob e=>by
  obtain ⟨_,_,hfree⟩:=ha
  refine (I.hok b ob e).stay (fun c w' hc q=>(hs.2 c ?_).trans q) (fun _ q=>q) fun _ _ q=>q
  rintro rfl
  rcases hc with rfl | hc
  ·rw [hfree] at e; cases e
  ·rw [hfree] at hc; cases hc
 rcases hx with hk | hk
 ·refine wpAny_storeName_local hk hn (fun h' hn' hs=>?_) hcls
  obtain ⟨oL,_,_,hoL,_⟩:=id hn
  refine h _ ⟨I.ok,I.os,I.bare,⟨fun b o e n hb hx=>?_,fun b o e n hb hx=>?_,I.base.free,fun b o e hx=>?_,I.base.tups,I.base.frzs,I.base.tbls⟩,⟨_,hn',fun j y v' e1 e2 e3=>?_⟩,fun y c e=>?_,I.free,I.freeC,fun p hp=>?_,tracked ⟨oL,hoL,I.free⟩ hs,by simpa using I.len⟩ ⟨_,hs,.inl rfl⟩
  ·exact (hs.2 b (Nat.ne_of_lt (Nat.lt_of_lt_of_le (Heap.lt_size e) I.ok.above))).trans (I.base.keep b o e n hb hx)
  ·obtain ⟨sl,e1⟩:=I.base.slot b o e n hb hx
   exact ⟨sl,(hs.2 b (Nat.ne_of_lt (Nat.lt_of_lt_of_le (Heap.lt_size e) I.ok.above))).trans e1⟩
  ·obtain ⟨o',e1⟩:=I.base.there b o e hx
   exact ⟨o',(hs.2 b (Nat.ne_of_lt (Nat.lt_of_lt_of_le (Heap.lt_size e) I.ok.above))).trans e1⟩
  ·by_cases hj:j=i
   ·subst hj
    rw [hi] at e1; cases e1
    rw [List.getElem?_set_self hiσ] at e2
    cases e2
    exact ⟨u,r,.inl ⟨hk,by simp⟩⟩
   ·rw [List.getElem?_set_ne (Ne.symm hj)] at e2
    obtain ⟨u',r',q⟩:=hl j y v' e1 e2 e3
    refine ⟨u',r',?_⟩
    rcases q with ⟨k,e⟩ | ⟨k,c,e,z⟩
    ·refine .inl ⟨k,?_⟩
     have:y≠x:=fun e=>hj (Zhp hN e1 (e ▸ hi))
     simp [this,e]
    ·exact .inr ⟨k,c,e,z.sameBut hs (cne y c e)⟩
  ·obtain ⟨w',z⟩:=I.cell y c e
   exact ⟨w',z.sameBut hs (cne y c e)⟩
  ·obtain ⟨e,n,ne,nf,d⟩:=I.pin p hp
   exact ⟨(hs.2 p.1 ne).trans e,n,ne,nf,d⟩
 ·have hfn:X.fn x=true:=by
   rcases hf with z | z
   ·exact z
   ·rw [z] at hk; cases hk
  obtain ⟨c,hc⟩:=I.ok.has x (.inl hk)
  obtain ⟨w',z⟩:=I.cell x c hc
  refine wpAny_storeName_cell I.ok.kind hk hc z (fun h' hc' hs=>?_)
  obtain ⟨oc,hoc,hocd⟩:=id z
  refine h { s with heap:=h' } ⟨I.ok,I.os,I.bare,⟨fun b o e n hb hx=>?_,fun b o e n hb hx=>?_,I.base.free,fun b o e hx=>?_,I.base.tups,I.base.frzs,I.base.tbls⟩,⟨m,hn.sameBut hs (Ne.symm (cne x c hc)),fun j y v' e1 e2 e3=>?_⟩,fun y c' e=>?_,I.free,I.freeC,fun p hp=>?_,tracked ⟨oc,hoc,I.freeC x c hc⟩ hs,by simpa using I.len⟩ ⟨c,hs,.inr hc⟩
  ·exact (hs.2 b (Nat.ne_of_lt (Nat.lt_of_lt_of_le (Heap.lt_size e) (I.ok.cab x c hfn hc)))).trans (I.base.keep b o e n hb hx)
  ·obtain ⟨sl,e1⟩:=I.base.slot b o e n hb hx
   exact ⟨sl,(hs.2 b (Nat.ne_of_lt (Nat.lt_of_lt_of_le (Heap.lt_size e) (I.ok.cab x c hfn hc)))).trans e1⟩
  ·obtain ⟨o',e1⟩:=I.base.there b o e hx
   exact ⟨o',(hs.2 b (Nat.ne_of_lt (Nat.lt_of_lt_of_le (Heap.lt_size e) (I.ok.cab x c hfn hc)))).trans e1⟩
  ·by_cases hj:j=i
   ·subst hj
    rw [hi] at e1; cases e1
    rw [List.getElem?_set_self hiσ] at e2
    cases e2
    exact ⟨u,r,.inr ⟨.inl hk,c,hc,hc'⟩⟩
   ·rw [List.getElem?_set_ne (Ne.symm hj)] at e2
    obtain ⟨u',r',q⟩:=hl j y v' e1 e2 e3
    refine ⟨u',r',?_⟩
    rcases q with q | ⟨k,c',e,z'⟩
    ·exact .inl q
    ·refine .inr ⟨k,c',e,z'.sameBut hs ?_⟩
     rintro rfl
     exact hj (Zhp hN e1 (I.ok.inj _ _ _ e hc ▸ hi))
  ·by_cases hcc:c'=c
   ·subst hcc; exact ⟨_,hc'⟩
   ·obtain ⟨w2,z2⟩:=I.cell y c' e
    exact ⟨w2,z2.sameBut hs hcc⟩
  ·obtain ⟨e,n,ne,nf,d⟩:=I.pin p hp
   refine ⟨(hs.2 p.1 ?_).trans e,n,ne,nf,d⟩
   intro q
   rw [q,hoc] at e
   have q':oc=p.2:=Option.some.inj e
   exact d w' (by rw [← q']; exact hocd)
theorem Zew {M:Model} {A:Around} {E:Value→Shared→Prop} {i:Nat} {x:Str} {v:V} {u:Value} {Q:Unit→Shared→Prop} (I:Inv X pins σ H s) (hN:X.N.Nodup) (hi:X.N[i]?=some x) (hx:Loc X.env.scope x) (r:RelV v u)
  (h:∀ s',Inv X pins (σ.set i (some v)) H s'→Q () s') (hf:X.fn x=true∨X.env.scope.names.lookup x=some .local:=by first | exact .inl rfl | exact .inr rfl | assumption):wpAny M A (storeName X.env x u) Q E s :=
 store_ok2 I hN hi hx r (fun s' I' _=>h s' I') hf
theorem Inv.call' {s':Shared} {ch:List Addr} (I:Inv X pins σ H s) (ho:s'.os=s.os) (u:Un (frs X.stack) ch H H' s.heap s'.heap) (hok:HOk X.prog X.w H' s'.heap) (hg:AllBare s'.gens)
  (hch:∀ b∈ch,(b∈X.ex∨X.s₀.heap.objs.size≤b)∧b≠X.env.locals∧(∀ x c,X.env.cells.lookup x=some c→c≠b)∧∀ p∈X.pn++pins,p.1≠b):Inv X pins σ H' s':=by
 obtain ⟨h',g',d',t',o'⟩:=s'
 have e:o'=s.os:=ho
 subst e
 exact I.call (g':=g') (t':=t') (d':=d') u hok hg hch
end
abbrev XK:=Value→Option Addr→Hp→Prop
abbrev St:=List (Option V)
abbrev VK:=V→Hp→Prop
abbrev TE:=St→Hp→VK→Prop
abbrev TT:=St→Hp→(Bool→Hp→Prop)→Prop
abbrev TA:=St→Hp→(List V→Hp→Prop)→Prop
structure Ends where
 nx:St→Hp→Prop
 rt:VK
 bk:St→Hp→Prop:=fun _ _=>False
 ct:St→Hp→Prop:=fun _ _=>False
abbrev TS:=Ends→St→Hp→Prop
def EP (X:Cx) (pins:List (Addr × Obj)) (σ:St) (Q:VK) (u:Value) (s':Shared):Prop:=∃ v H',Inv X pins σ H' s'∧RelV v u∧Q v H'
def TP (X:Cx) (pins:List (Addr × Obj)) (σ:St) (Q:Bool→Hp→Prop) (b:Bool) (s':Shared):Prop:=∃ H',Inv X pins σ H' s'∧Q b H'
def AP (X:Cx) (pins:List (Addr × Obj)) (σ:St) (Q:List V→Hp→Prop) (us:List Value) (s':Shared):Prop:=∃ vs H',Inv X pins σ H' s'∧Vals vs us∧Q vs H'
def SP (X:Cx) (pins:List (Addr × Obj)) (D:Ends) (f:Flow) (s':Shared):Prop :=
 match f with
 | .next=>∃ σ' H',Inv X pins σ' H' s'∧D.nx σ' H'
 | .brk=>∃ σ' H',Inv X pins σ' H' s'∧D.bk σ' H'
 | .cont=>∃ σ' H',Inv X pins σ' H' s'∧D.ct σ' H'
 | .ret u=>∃ v σ' H',Inv X pins σ' H' s'∧RelV v u∧D.rt v H'
def PE (X:Cx) (e:Expr) (t:TE):Prop :=
 ∀ (pins:List (Addr × Obj)) (s:Shared) (σ:St) (H:Hp) (Q:VK),Inv X pins σ H s→t σ H Q→wpAny (model X.prog X.w) X.A (eval e X.env) (EP X pins σ Q) X.xe s
def PT (X:Cx) (e:Expr) (t:TT):Prop :=
 ∀ (pins:List (Addr × Obj)) (s:Shared) (σ:St) (H:Hp) (Q:Bool→Hp→Prop),Inv X pins σ H s→t σ H Q→wpAny (model X.prog X.w) X.A (isTrue e X.env (eval e X.env)) (TP X pins σ Q) X.xe s
def PW (X:Cx) (e:Expr) (t:TT):Prop :=
 ∀ (whole:Sem Value) (pins:List (Addr × Obj)) (s:Shared) (σ:St) (H:Hp) (Q:Bool→Hp→Prop),Inv X pins σ H s→t σ H Q→wpAny (model X.prog X.w) X.A (isTrue e X.env whole) (TP X pins σ Q) X.xe s
theorem PW.pt {X:Cx} {e:Expr} {t:TT} (h:PW X e t):PT X e t:=h _
def PA (X:Cx) (es:List Expr) (t:TA):Prop :=
 ∀ (pos:Pos) (pins:List (Addr × Obj)) (s:Shared) (σ:St) (H:Hp) (Q:List V→Hp→Prop),Inv X pins σ H s→t σ H Q→wpAny (model X.prog X.w) X.A (spliced (backTo pos (starEach es X.env))) (AP X pins σ Q) X.xe s
def PS (X:Cx) (st:Stmt) (t:TS):Prop :=
 ∀ (pins:List (Addr × Obj)) (s:Shared) (σ:St) (H:Hp) (D:Ends),Inv X pins σ H s→t D σ H→wpAny (model X.prog X.w) X.A (exec st X.env) (SP X pins D) X.xe s
def PSs (X:Cx) (st:List Stmt) (t:TS):Prop :=
 ∀ (pins:List (Addr × Obj)) (s:Shared) (σ:St) (H:Hp) (D:Ends),Inv X pins σ H s→t D σ H→wpAny (model X.prog X.w) X.A (execs st X.env) (SP X pins D) X.xe s
theorem thn {α:Type} {t:Sem α} {Q Q':α→Shared→Prop} {M:Model} {A:Around} {E:Value→Shared→Prop} {s:Shared} (h:wpAny M A t Q E s) (hQ:∀ a s,Q a s→Q' a s):wpAny M A t Q' E s:=wpAny_mono h hQ fun _ _ x=>x
end L2
namespace L2
open PySem PySem.Spec PyProof.Rows
section
variable {X:Cx}
def tVar (i:Nat):TE:=fun σ H Q=>∃ v,σ[i]?=some (some v)∧Q v H
def tC (v:V):TE:=fun _ H Q=>Q v H
theorem pe_var {i:Nat} {x:Str} {pos:Pos} (hN:X.N[i]?=some x) (hv:Vis X.env.scope x) (hd:(x == ("__debug__":Str))=false:=by decide) (hcd:(x == ("__classdict__":Str))=false:=by decide):PE X (.Name x pos) (tVar i):=by
 intro pins s σ H Q I h
 obtain ⟨v,e,h⟩:=h
 obtain ⟨m,hn,hl⟩:=I.loc
 obtain ⟨u,r,l⟩:=hl i x v hN e hv
 have fin:EP X pins σ Q u s:=⟨v,H,I,r,h⟩
 rcases l with ⟨hk,hm⟩ | ⟨hk,c,hc,hcell⟩
 ·exact wpAny_Name (wpAny_loadName_local I.ok.kind hk hn hm fin) hd
 ·rcases hk with hk | hk
  ·exact wpAny_Name (wpAny_loadName_cell I.ok.kind hk hc hcell fin) hd
  ·exact wpAny_Name (wpAny_loadName_free I.ok.kind hk hc hcell fin hcd) hd
theorem Zae {i j pos}:PE X (.Constant (.int i) j pos) (tC (.int i)):=fun _ _ _ H _ I h=>wpAny_Constant_int ⟨.int i,H,I.tok _,⟨_,rfl⟩,h⟩
theorem pe_bl {b j pos}:PE X (.Constant (.bool b) j pos) (tC (.bl b)):=fun _ _ _ H _ I h=>Constant_bool ⟨.bl b,H,I,rfl,h⟩
theorem Zbs {j pos}:PE X (.Constant .none j pos) (tC .non):=fun _ _ _ H _ I h=>Constant_none ⟨.non,H,I,rfl,h⟩
theorem Zax {x j pos}:PE X (.Constant (.str x) j pos) (tC (.str x)):=fun _ _ _ H _ I h=>Calls.Constant_str ⟨.str x,H,I.tok _,⟨_,rfl⟩,h⟩
def Gl (X:Cx) (x:Str):Prop:=X.env.kindOf x=some .globalImplicit
theorem Zek {E:Value→Shared→Prop} {pins:List (Addr × Obj)} {s:Shared} {σ:St} {H:Hp} {x:Str} {u:Value} {pos:Pos} {Q:Value→Shared→Prop} (I:Inv X pins σ H s) (hg:Gl X x) (hm:X.mg x=some u) (h:Q u s)
  (hd:(x == ("__debug__":Str))=false:=by decide):wpAny (model X.prog X.w) X.A (eval (.Name x pos) X.env) Q E s :=
 Calls.Name_function_global I.ok.kind hg (Calls.loadGlobal_global (by rw [I.ok.glob]; exact I.mod.glob.keeps I.bk) hm h) hd
theorem Zfq {E:Value→Shared→Prop} {pins:List (Addr × Obj)} {s:Shared} {σ:St} {H:Hp} {x:Str} {u:Value} {pos:Pos} {Q:Value→Shared→Prop} (I:Inv X pins σ H s) (hg:Gl X x) (hm:X.mg x=none) (hv:bootBuiltins x=some u) (h:Q u s)
  (hn:x≠"__name__":=by decide) (hd:(x == ("__debug__":Str))=false:=by decide):wpAny (model X.prog X.w) X.A (eval (.Name x pos) X.env) Q E s:=by
 obtain ⟨mb,h1,h2⟩:=I.mod.blt
 exact Calls.Name_function_global I.ok.kind hg (Calls.loadGlobal_builtin (by rw [I.ok.glob]; exact I.mod.glob.keeps I.bk) hm (by rw [I.ok.blt]; exact h1.keeps I.bk) ((h2 x hn).trans hv) h) hd
theorem Za1 {x:Str} {v:V} {u:Value} {pos:Pos} (hg:Gl X x) (hm:X.mg x=some u) (r:RelV v u) (hd:(x == ("__debug__":Str))=false:=by decide):PE X (.Name x pos) (tC v) :=
 fun _ _ _ H _ I h=>Zek I hg hm ⟨v,H,I,r,h⟩ hd
theorem Zeh {x:Str} {v:V} {u:Value} {pos:Pos} (hg:Gl X x) (hm:X.mg x=none) (hv:bootBuiltins x=some u) (r:RelV v u) (hn:x≠"__name__":=by decide) (hd:(x == ("__debug__":Str))=false:=by decide):PE X (.Name x pos) (tC v) :=
 fun _ _ _ H _ I h=>Zfq I hg hm hv ⟨v,H,I,r,h⟩ hn hd
variable {a b:Expr} {ta tb:TE} {pos:Pos}
def tB (t:TE):TT:=fun σ H Q=>t σ H fun x H1=>∃ c,x=.bl c∧Q c H1
theorem Zck {e:Expr} {t:TE} (h:PE X e t) (he:∀ whole,isTrue e X.env whole=(do let v ← whole; standAt e.pos; holding [v] (truthy v)):=by intro _; rfl):PT X e (tB t):=by
  intro pins s σ H Q I hw
  refine isTrue_plain (thn (h pins s σ H _ I hw) fun v s1 ⟨x,H1,I1,r1,q1⟩=>?_) (he _)
  obtain ⟨d,rfl,q⟩:=q1
  cases r1
  exact wpAny_truthy_bool ⟨H1,I1,q⟩
variable {tA tB':TT} {rest:List Expr}
def tAnd (t u:TT):TT:=fun σ H Q=>t σ H fun c H1=>if c=true then u σ H1 Q else Q false H1
def tOr (t u:TT):TT:=fun σ H Q=>t σ H fun c H1=>if c=true then Q true H1 else u σ H1 Q
def tNot (t:TT):TT:=fun σ H Q=>t σ H fun c H1=>Q (!c) H1
theorem Zdc (ha:PT X a tA):PW X (.BoolOp .And [a] pos) tA:=by
 intro wh pins s σ H Q I h
 refine isTrue_and (thn (ha pins s σ H Q I h) fun c s1 e=>?_)
 cases c with
 | true=>exact isTrue_and_nil e
 | false=>exact e
theorem Zgl (ha:PT X a tA):PW X (.BoolOp .Or [a] pos) tA:=by
 intro wh pins s σ H Q I h
 refine isTrue_or (thn (ha pins s σ H Q I h) fun c s1 e=>?_)
 cases c with
 | false=>exact isTrue_or_nil e
 | true=>exact e
theorem Zdn (ha:PT X a tA) (hb:PW X (.BoolOp .And (b :: rest) pos) tB'):PW X (.BoolOp .And (a :: b :: rest) pos) (tAnd tA tB'):=by
 intro wh pins s σ H Q I h
 refine isTrue_and (thn (ha pins s σ H _ I h) fun c s1 ⟨H1,I1,q1⟩=>?_)
 cases c with
 | true=>exact hb wh pins s1 σ H1 Q I1 q1
 | false=>exact ⟨H1,I1,q1⟩
theorem Zhg (ha:PT X a tA) (hb:PW X (.BoolOp .Or (b :: rest) pos) tB'):PW X (.BoolOp .Or (a :: b :: rest) pos) (tOr tA tB'):=by
 intro wh pins s σ H Q I h
 refine isTrue_or (thn (ha pins s σ H _ I h) fun c s1 ⟨H1,I1,q1⟩=>?_)
 cases c with
 | true=>exact ⟨H1,I1,q1⟩
 | false=>exact hb wh pins s1 σ H1 Q I1 q1
theorem Zdo (ha:PT X a tA):PT X (.UnaryOp .Not a pos) (tNot tA):=by
 intro pins s σ H Q I h
 exact isTrue_not (ha pins s σ H (fun c H1=>Q (!c) H1) I h)
def tAndV (ta tb:TE):TE:=fun σ H Q=>ta σ H fun x H1=>∃ c,x=.bl c∧if c=true then tb σ H1 Q else Q (.bl false) H1
def tNotV (ta:TE):TE:=fun σ H Q=>ta σ H fun x H1=>∃ c,x=.bl c∧Q (.bl (!c)) H1
theorem pe_one {op} {t:TE} (h:PE X a t):PE X (.BoolOp op [a] pos) t:=fun pins s σ H Q I hw=>BoolOp_one (h pins s σ H Q I hw)
theorem pe_and (ha:PE X a ta) (hb:PE X (.BoolOp .And (b :: rest) pos) tb):PE X (.BoolOp .And (a :: b :: rest) pos) (tAndV ta tb):=by
 intro pins s σ H Q I h
 refine BoolOp_and (thn (ha pins s σ H _ I h) fun v s1 ⟨x,H1,I1,r1,q1⟩=>?_)
 obtain ⟨c,rfl,q1⟩:=q1
 cases r1
 refine wpAny_truthy_bool ?_
 cases c with
 | true=>exact hb pins s1 σ H1 Q I1 q1
 | false=>exact ⟨.bl false,H1,I1,rfl,q1⟩
theorem pe_not (ha:PE X a ta):PE X (.UnaryOp .Not a pos) (tNotV ta):=by
 intro pins s σ H Q I h
 refine UnaryOp_ (thn (ha pins s σ H _ I h) fun v s1 ⟨x,H1,I1,r1,q1⟩=>?_)
 obtain ⟨c,rfl,q1⟩:=q1
 cases r1
 exact not_of (wpAny_truthy_bool ⟨.bl (!c),H1,I1,rfl,q1⟩)
def tIf (t:TT) (ta tb:TE):TE:=fun σ H Q=>t σ H fun c H1=>if c=true then ta σ H1 Q else tb σ H1 Q
theorem Ze0 {c:Expr} (hc:PT X c tA) (ha:PE X a ta) (hb:PE X b tb):PE X (.IfExp c a b pos) (tIf tA ta tb):=by
 intro pins s σ H Q I h
 refine wpAny_IfExp (thn (hc pins s σ H _ I h) fun d s1 ⟨H1,I1,q1⟩=>?_)
 cases d with
 | true=>exact ha pins s1 σ H1 Q I1 q1
 | false=>exact hb pins s1 σ H1 Q I1 q1
end
end L2
namespace L2
open PySem PySem.Spec PyProof.Rows
def SqL (K:PySem.W.Frag) (H:Hp) (a:Addr) (xs:List V):Prop :=
 Rd H a (.lst xs) ∨
  ∃ (o:Obj) (its:Array Value) (n:Nat),K.lookup a=some o∧o.cls=.type "list"∧o.dict=none∧o.data=.seq its n∧its.size≤sizeLine∧Vals xs its.toList
def SqT (K:PySem.W.Frag) (H:Hp) (a:Addr) (xs:List V):Prop :=
 Rd H a (.tup xs) ∨
  ∃ (o:Obj) (its:Array Value) (n:Nat),K.lookup a=some o∧o.cls=.type "tuple"∧o.data=.seq its n∧its.size≤sizeLine∧Vals xs its.toList
def absV:Value→Option V
 | .none=>some .non
 | .bool b=>some (.bl b)
 | .int i _=>some (.int i)
 | .str x _=>some (.str x)
 | .bytes b _=>some (.byt b)
 | .float b _=>some (.flt b)
 | .ref a=>some (.ref a)
 | .type n=>some (.ty n)
 | _=>none
theorem RelV.abs {x:V} {u:Value} (r:RelV x u):absV u=some x:=by
 cases x with
 | non=>cases r; rfl
 | bl _=>cases r; rfl
 | int _=>obtain ⟨t,rfl⟩:=r; rfl
 | str _=>obtain ⟨t,rfl⟩:=r; rfl
 | byt _=>obtain ⟨t,rfl⟩:=r; rfl
 | flt _=>obtain ⟨t,rfl⟩:=r; rfl
 | ref _=>cases r; rfl
 | ty _=>cases r; rfl
theorem RelV.inj {x y:V} {u:Value} (r:RelV x u) (q:RelV y u):x=y:=Option.some.inj (r.abs.symm.trans q.abs)
theorem Vals.inj:∀ {xs ys:List V} {us:List Value},Vals xs us→Vals ys us→xs=ys
 | _,_,_,.nil,.nil=>rfl
 | _,_,_,.cons r t,.cons r' t'=>by rw [r.inj r',Vals.inj t t']
section
variable {X:Cx} {pins:List (Addr × Obj)} {σ:St} {H:Hp} {s:Shared} {a:Addr} {xs ys:List V}
theorem SqL.of {K:PySem.W.Frag} (h:H a=some (.lst xs)):SqL K H a xs:=.inl (.inl h)
theorem SqT.of {K:PySem.W.Frag} (h:H a=some (.tup xs)):SqT K H a xs:=.inl (.inl h)
theorem Inv.list (I:Inv X pins σ H s) (h:SqL X.K H a xs):∃ its:List Value,Vals xs its∧PlainL s.heap a its.toArray∧xs.length≤sizeLine:=by
 rcases h with h | ⟨o,its,n,hk,hc,hd,hs,hz,r⟩
 ·obtain ⟨z,its,n,r,e⟩:=h.ok I.hok
  exact ⟨its,r,⟨_,n,e,rfl,rfl,rfl⟩,z⟩
 ·refine ⟨its.toList,r,⟨o,n,I.kIn a o hk,hc,hd,by simpa using hs⟩,?_⟩
  have e:=r.length
  simp only [Array.length_toList] at e
  omega
theorem Inv.tuple (I:Inv X pins σ H s) (h:SqT X.K H a xs):∃ its:List Value,Vals xs its∧IsTup s.heap a its.toArray∧xs.length≤sizeLine:=by
 rcases h with h | ⟨o,its,n,hk,hc,hs,hz,r⟩
 ·obtain ⟨z,its,r,p⟩:=h.ok I.hok
  exact ⟨its,r,p,z⟩
 ·refine ⟨its.toList,r,⟨o,I.kIn a o hk,hc,n,by simpa using hs⟩,?_⟩
  have e:=r.length
  simp only [Array.length_toList] at e
  omega
theorem Inv.list_inj (I:Inv X pins σ H s) (h:SqL X.K H a xs) (h':SqL X.K H a ys):xs=ys:=by
 obtain ⟨its,r,⟨o,n,e,_,_,d⟩,_⟩:=I.list h
 obtain ⟨its',r',⟨o',n',e',_,_,d'⟩,_⟩:=I.list h'
 rw [e] at e'; cases e'
 rw [d] at d'
 injection d' with d1 _
 have:its=its':=by simpa using congrArg Array.toList d1
 subst this
 exact r.inj r'
theorem Inv.tuple_inj (I:Inv X pins σ H s) (h:SqT X.K H a xs) (h':SqT X.K H a ys):xs=ys:=by
 obtain ⟨its,r,⟨o,e,_,n,d⟩,_⟩:=I.tuple h
 obtain ⟨its',r',⟨o',e',_,n',d'⟩,_⟩:=I.tuple h'
 rw [e] at e'; cases e'
 rw [d] at d'
 injection d' with d1 _
 have:its=its':=by simpa using congrArg Array.toList d1
 subst this
 exact r.inj r'
end
abbrev Cx.wish (X:Cx) (E:Value→Shared→Prop):Cx:={ X with xe:=E }
abbrev Cx.nox (X:Cx):Cx:=X.wish fun _ _=>False
theorem Cx.Ok.wish {X:Cx} (ok:X.Ok) (E:Value→Shared→Prop):(X.wish E).Ok :=
 ⟨ok.mod,ok.kind,ok.glob,ok.blt,ok.above,ok.inj,ok.has,ok.cab,ok.hd,ok.frames,ok.stk,ok.exf,ok.bs,ok.bsz,ok.noex,ok.exfs,ok.funs,ok.frf⟩
theorem Cx.Ok.unwish {X:Cx} {E:Value→Shared→Prop} (ok:(X.wish E).Ok):X.Ok :=
 ⟨ok.mod,ok.kind,ok.glob,ok.blt,ok.above,ok.inj,ok.has,ok.cab,ok.hd,ok.frames,ok.stk,ok.exf,ok.bs,ok.bsz,ok.noex,ok.exfs,ok.funs,ok.frf⟩
section
variable {X:Cx} {pins:List (Addr × Obj)} {σ:St} {H:Hp} {s:Shared} {E:Value→Shared→Prop}
theorem Inv.wish (I:Inv X pins σ H s) (E:Value→Shared→Prop):Inv (X.wish E) pins σ H s:=⟨I.ok.wish E,I.os,I.bare,I.base,I.loc,I.cell,I.free,I.freeC,I.pin,I.hok,I.len⟩
theorem Inv.unwish (I:Inv (X.wish E) pins σ H s):Inv X pins σ H s:=⟨I.ok.unwish,I.os,I.bare,I.base,I.loc,I.cell,I.free,I.freeC,I.pin,I.hok,I.len⟩
theorem SP.unwish {D:Ends} {f:Flow} {s':Shared} (h:SP (X.wish E) pins D f s'):SP X pins D f s':=by
 cases f with
 | next=>obtain ⟨σ',H',I,q⟩:=h; exact ⟨σ',H',I.unwish,q⟩
 | brk=>obtain ⟨σ',H',I,q⟩:=h; exact ⟨σ',H',I.unwish,q⟩
 | cont=>obtain ⟨σ',H',I,q⟩:=h; exact ⟨σ',H',I.unwish,q⟩
 | ret u=>obtain ⟨v,σ',H',I,r,q⟩:=h; exact ⟨v,σ',H',I.unwish,r,q⟩
theorem PSs.nox {st:List Stmt} {t:TS} (h:PSs X.nox st t):PSs X st t:=fun pins s σ H D I hw =>
 wpAny_mono (h pins s σ H D (I.wish _) hw) (fun _ _ q=>q.unwish) fun _ _ z=>False.elim z
end
section
variable {X:Cx} {st:Stmt} {rest:List Stmt} {t u:TS} {e:Expr} {te:TE} {pos:Pos}
def tNext:TS:=fun D σ H=>D.nx σ H
def tSeq (t u:TS):TS:=fun D σ H=>t { D with nx:=u D } σ H
theorem Zan:PSs X [] tNext:=fun _ _ σ H _ I h=>wpAny_execs_nil ⟨σ,H,I,h⟩
theorem Zab (h1:PS X st t) (h2:PSs X rest u):PSs X (st :: rest) (tSeq t u):=by
 intro pins s σ H D I h
 refine wpAny_execs_cons (thn (h1 pins s σ H { D with nx:=u D } I h) fun f s1 q=>?_)
 cases f with
 | next =>
  obtain ⟨σ',H',I',q⟩:=q
  exact h2 pins s1 σ' H' D I' q
 | ret v=>exact q
 | brk=>exact q
 | cont=>exact q
theorem Zaf (h1:PS X st t):PSs X [st] t:=by
 intro pins s σ H D I h
 refine wpAny_execs_cons (thn (h1 pins s σ H D I h) fun f s1 q=>?_)
 cases f with
 | next=>exact wpAny_execs_nil q
 | ret v=>exact q
 | brk=>exact q
 | cont=>exact q
theorem Inv.quiet {pins:List (Addr × Obj)} {σ:St} {H:Hp} {s:Shared} (I:Inv X pins σ H s):interactive X.env=false:=by simp [interactive,I.ok.kind]
def tDrop (te:TE):TS:=fun D σ H=>te σ H fun _ H1=>D.nx σ H1
theorem Zeg (he:PE X e te) (hs:swapsWith e none pos.line X.env=pure false:=by rfl):PS X (.Expr e pos) (tDrop te):=by
 intro pins s σ H D I h
 exact wpAny_Expr_any (thn (he pins s σ H _ I h) fun v s1 ⟨x,H1,I1,r1,q1⟩=>⟨σ,H1,I1,q1⟩) I.quiet hs
def tRet (te:TE):TS:=fun D σ H=>te σ H D.rt
theorem Zal (he:PE X e te):PS X (.Return (some e) pos) (tRet te):=by
 intro pins s σ H D I h
 exact wpAny_Return_some (thn (he pins s σ H _ I h) fun v s1 ⟨x,H1,I1,r1,q1⟩=>⟨x,σ,H1,I1,r1,q1⟩)
def tIfS (c:TT) (t u:TS):TS:=fun D σ H=>c σ H fun b H1=>if b=true then t D σ H1 else u D σ H1
theorem Za9 {c:Expr} {a b:List Stmt} {tc:TT} (hc:PT X c tc) (ha:PSs X a t) (hb:PSs X b u):PS X (.If c a b pos) (tIfS tc t u):=by
 intro pins s σ H D I h
 refine wpAny_If (thn (hc pins s σ H _ I h) fun d s1 ⟨H1,I1,q1⟩=>?_)
 cases d with
 | true=>exact ha pins s1 σ H1 D I1 q1
 | false=>exact hb pins s1 σ H1 D I1 q1
end
abbrev TG:=V→St→Hp→(St→Hp→Prop)→Prop
abbrev TGs:=List V→St→Hp→(St→Hp→Prop)→Prop
def PG (X:Cx) (target:Expr) (t:TG):Prop :=
 ∀ (pins:List (Addr × Obj)) (s:Shared) (σ:St) (H:Hp) (v:V) (u:Value) (Q:St→Hp→Prop),Inv X pins σ H s→RelV v u→t v σ H Q →
  wpAny (model X.prog X.w) X.A (assign target X.env u) (fun _ s'=>∃ σ' H',Inv X pins σ' H' s'∧Q σ' H') X.xe s
def PGs (X:Cx) (ts:List Expr) (t:TGs):Prop :=
 ∀ (pins:List (Addr × Obj)) (s:Shared) (σ:St) (H:Hp) (vs:List V) (us:List Value) (Q:St→Hp→Prop),Inv X pins σ H s→Vals vs us→t vs σ H Q →
  wpAny (model X.prog X.w) X.A (assignInOrder ((assignEach ts X.env).map (·.2)) us) (fun _ s'=>∃ σ' H',Inv X pins σ' H' s'∧Q σ' H') X.xe s
section
variable {X:Cx} {pos:Pos}
def gName (i:Nat):TG:=fun v σ H Q=>Q (σ.set i (some v)) H
theorem Zau {i:Nat} {x:Str} (hN:X.N.Nodup) (hi:X.N[i]?=some x) (hx:Loc X.env.scope x) (hf:X.fn x=true∨X.env.scope.names.lookup x=some .local:=by first | exact .inl rfl | exact .inr rfl | assumption):PG X (.Name x pos) (gName i):=by
 intro pins s σ H v u Q I r h
 exact wpAny_assign_Name (Zew I hN hi hx r (fun s' I'=>⟨_,H,I',h⟩) hf)
def gNil:TGs:=fun vs σ H Q=>vs=[]∧Q σ H
def gCons (t:TG) (u:TGs):TGs:=fun vs σ H Q=>∃ v r,vs=v :: r∧t v σ H fun σ' H'=>u r σ' H' Q
theorem Zcu:PGs X [] gNil:=by
 intro pins s σ H vs us Q I r h
 obtain ⟨e,h⟩:=h
 subst e
 cases r
 exact assignInOrder_nil ⟨σ,H,I,h⟩
theorem Zas {e:Expr} {es:List Expr} {t:TG} {u:TGs} (h1:PG X e t) (h2:PGs X es u)
  (hs:(assignEach (e :: es) X.env).map (·.2)=assign e X.env :: (assignEach es X.env).map (·.2):=by rfl):PGs X (e :: es) (gCons t u):=by
 intro pins s σ H vs us Q I r h
 obtain ⟨v,vr,e1,h⟩:=h
 subst e1
 cases r with
 | cons r rr =>
  rw [hs]
  refine assignInOrder_cons (thn (h1 pins s σ H _ _ _ I r h) fun _ s1 ⟨σ1,H1,I1,q1⟩=>?_)
  exact h2 pins s1 σ1 H1 _ _ Q I1 rr q1
def gTup (K:PySem.W.Frag) (n:Nat) (t:TGs):TG:=fun v σ H Q=>∃ a xs,v=.ref a∧SqT K H a xs∧xs.length=n∧t xs σ H Q
theorem Zdw {es:List Expr} {k:Nat} {t:TGs} {n:Nat} (hc:X.calm=true) (h:PGs X es t)
  (hn:(assignEach es X.env).length=n:=by rfl) (hst:(assignEach es X.env).findIdx? (·.1)=none:=by rfl):PG X (.Tuple es k pos) (gTup X.K n t):=by
 intro pins s σ H v u Q I r hw
 obtain ⟨a,xs,e1,hq,hl,hw⟩:=hw
 subst e1
 cases r
 obtain ⟨its,rv,ht,hz⟩:=I.tuple hq
 refine assign_Tuple_tuple (I.ok.hd hc) ht (by simp [hn,← hl,rv.length]) hst fun h' hx=>?_
 have I1:Inv X pins σ H { s with heap:=h' }:=I.kept (t':=s.toks) fun b o e=>hx b o (Nat.ne_of_lt (Heap.lt_size e)) e
 exact h pins _ σ H xs _ Q I1 (by simpa using rv) hw
def tAsg (te:TE) (g:TG):TS:=fun D σ H=>te σ H fun x H1=>g x σ H1 D.nx
theorem Zgn {tg e:Expr} {te:TE} {g:TG} (he:PE X e te) (hg:PG X tg g) (hs:swapsWithSole [tg] e pos.line X.env=pure false:=by rfl) (hw:swappedStores [tg] e X.env=pure none:=by rfl)
  (h1:(assignEach [tg] X.env).map (·.2)=[assign tg X.env]:=by rfl):PS X (.Assign [tg] e pos) (tAsg te g):=by
 intro pins s σ H D I h
 refine wpAny_Assign_stores (thn (he pins s σ H _ I h) fun v s1 ⟨x,H1,I1,r1,q1⟩=>?_) hs hw
 rw [h1]
 exact thn (hg pins s1 σ H1 x v _ I1 r1 q1) fun _ s2 q=>q
theorem Zam {i:Nat} {x:Str} {e:Expr} {te:TE} {pos':Pos} (hN:X.N.Nodup) (hi:X.N[i]?=some x) (hx:Loc X.env.scope x) (he:PE X e te) (hs:swapsWith e (some (.Name x pos')) pos.line X.env=pure false:=by rfl) (hf:X.fn x=true∨X.env.scope.names.lookup x=some .local:=by first | exact .inl rfl | exact .inr rfl | assumption) :
  PS X (.Assign [.Name x pos'] e pos) (tAsg te (gName i)):=by
 intro pins s σ H D I h
 refine wpAny_Assign_Name (thn (he pins s σ H _ I h) fun v s1 ⟨y,H1,I1,r1,q1⟩=>?_) hs
 exact Zew I1 hN hi hx r1 (fun s2 I2=>⟨_,H1,I2,q1⟩) hf
end
section
variable {X:Cx} {pos:Pos}
def tWhile (c:TT) (tb:TS):TS:=fun D σ H=>∃ W:Nat→St→Hp→Prop,(∃ m,W m σ H)∧∀ m σ H,W m σ H →
 c σ H fun b H1=>if b=true then ∃ N:St→Hp→Prop,(∀ σ' H',N σ' H'→∃ m',m' < m∧W m' σ' H')∧tb { D with nx:=N,ct:=N,bk:=D.nx } σ H1 else D.nx σ H1
theorem ps_while {c:Expr} {body:List Stmt} {tc:TT} {tb:TS} (hp:PassesOwn (model X.prog X.w) X.A X.env X.xe) (hc:PT X c tc) (hb:PSs X body tb):PS X (.While c body [] pos) (tWhile tc tb):=by
 intro pins s σ H D I h
 obtain ⟨W,⟨m0,w0⟩,turn⟩:=h
 refine wpAny_While (codeAny_whileLoop (fun n s'=>∃ σ' H',Inv X pins σ' H' s'∧W n σ' H') ?_ m0 ⟨σ,H,I,w0⟩)
 rintro n s1 ⟨σ1,H1,I1,w1⟩
 refine wpAny_passesOwn hp (thn (hc pins s1 σ1 H1 _ I1 (turn n σ1 H1 w1)) fun b s2 ⟨H2,I2,q2⟩=>?_)
 cases b with
 | true =>
  obtain ⟨N,hN,q2⟩:=q2
  rw [if_pos rfl]
  refine wpAny_passesOwn hp (thn (hb pins s2 σ1 H2 _ I2 q2) fun f s3 q3=>?_)
  cases f with
  | next =>
   obtain ⟨σ3,H3,I3,n3⟩:=q3
   obtain ⟨m',hm,w3⟩:=hN σ3 H3 n3
   exact ⟨m',hm,σ3,H3,I3,w3⟩
  | cont =>
   obtain ⟨σ3,H3,I3,n3⟩:=q3
   obtain ⟨m',hm,w3⟩:=hN σ3 H3 n3
   exact ⟨m',hm,σ3,H3,I3,w3⟩
  | brk=>exact q3
  | ret v=>exact q3
 | false =>
  rw [if_neg Bool.false_ne_true]
  exact wpAny_execs_nil ⟨σ1,H2,I2,q2⟩
end
structure It where
 go:Nat→Hp→Prop
 yld:Nat→Hp→V→Hp→Prop
 stop:Nat→Hp→Prop
def FpOk (X:Cx) (pins:List (Addr × Obj)) (H:Hp) (b:Addr):Prop :=
 H b=none∧b≠X.env.locals∧b ∉ X.fs∧(b∈X.ex∨X.s₀.heap.objs.size≤b)∧(∀ x c,X.env.cells.lookup x=some c→c≠b)∧∀ p∈X.pn++pins,p.1≠b
theorem Inv.fpOk {X:Cx} {pins:List (Addr × Obj)} {σ:St} {H H':Hp} {s:Shared} {b:Addr} (I:Inv X pins σ H s) (hb:s.heap.objs.size≤b) (hn:H' b=none):FpOk X pins H' b:=by
 refine ⟨hn,Nat.ne_of_gt (Nat.lt_of_lt_of_le I.lt hb),I.nofs hb,.inr (Nat.le_trans I.sz hb),fun x c e z=>?_,fun p hp z=>?_⟩
 ·obtain ⟨v,q⟩:=I.cell x c e
  exact absurd (Nat.lt_of_lt_of_le q.lt (by rw [z]; exact hb)) (Nat.lt_irrefl _)
 ·exact absurd (Nat.lt_of_lt_of_le (Heap.lt_size (I.pin p hp).1) (by rw [z]; exact hb)) (Nat.lt_irrefl _)
structure Turn (P:Program) (w:World) (K:PySem.W.Frag) (tg:Expr) (J:It) (fp:List Addr) (it:Addr) (tn:Nat→Heap→Prop):Prop where
 mem:it∈fp
 obj:∀ i h,tn i h→∀ b∈fp,∃ o,h.get? b=some o∧∀ v,o.data≠.cell v
 keep:∀ i h h',tn i h→(∀ b∈fp,∀ o,h.get? b=some o→h'.get? b=some o)→tn i h'
 item:∀ (X:Cx),X.prog=P→X.w=w→X.K=K→X.calm=true→∀ (i:Nat) (pins:List (Addr × Obj)) (s:Shared) (σ:St) (H:Hp) (E:Value→Shared→Prop),Inv X pins σ H s→(∀ b∈fp,FpOk X pins H b)→tn i s.heap→J.go i H →
  wpAny (model P w) X.A (pyNext (.ref it)) (fun r s1=>∃ u,r=some u ∧
   wpAny (model P w) X.A (letOwnedTupleGo tg (.ref it) u) (fun _ s2=>∃ x H',Inv X pins σ H' s2∧RelV x u∧J.yld i H x H'∧tn (i+1) s2.heap∧∀ b∈fp,H' b=none) E s1) E s
 done:∀ (X:Cx),X.prog=P→X.w=w→X.K=K→X.calm=true→∀ (i:Nat) (pins:List (Addr × Obj)) (s:Shared) (σ:St) (H:Hp) (E:Value→Shared→Prop),Inv X pins σ H s→(∀ b∈fp,FpOk X pins H b)→tn i s.heap→J.stop i H →
  wpAny (model P w) X.A (pyNext (.ref it)) (fun r s1=>r=none∧Inv X pins σ H s1) E s
 self:∀ (A:Around) (i:Nat) (s:Shared) (Q:Value→Shared→Prop) (E:Value→Shared→Prop),tn i s.heap→Q (.ref it) s→wpAny (model P w) A (pyIter (.ref it)) Q E s
abbrev TI:=St→Hp→(It→Hp→Prop)→Prop
def PIE (X:Cx) (pins:List (Addr × Obj)) (σ:St) (tg:Expr) (R:It→Hp→Prop) (itv:Value) (s2:Shared):Prop :=
 ∃ (it:Addr) (fp:List Addr) (tn:Nat→Heap→Prop) (J:It) (H':Hp),itv=.ref it∧Inv X pins σ H' s2∧Turn X.prog X.w X.K tg J fp it tn∧tn 0 s2.heap∧(∀ b∈fp,FpOk X pins H' b)∧R J H'
def PI (X:Cx) (tg iter:Expr) (wi:TI):Prop :=
 ∀ (pins:List (Addr × Obj)) (s:Shared) (σ:St) (H:Hp) (R:It→Hp→Prop),Inv X pins σ H s→wi σ H R →
  wpAny (model X.prog X.w) X.A (eval iter X.env) (fun v s1=>wpAny (model X.prog X.w) X.A (pyIter v) (PIE X pins σ tg R) X.xe s1) X.xe s
theorem go_of {M:Model} {A:Around} {E:Value→Shared→Prop} {s:Shared} {tg:Expr} {it:Addr} {u:Value} {o:Obj} {n:String} {vs:Array Value} {Q:Unit→Shared→Prop} (ho:s.heap.get? it=some o) (hc:o.cls=.type n) (hd:o.data=.fields vs)
    (hn:["enumerate","zip","dict_itemiterator","dict_reverseitemiterator","odict_iterator","itertools.zip_longest","itertools.pairwise"].contains n=false) (hQ:Q () s):wpAny M A (letOwnedTupleGo tg (.ref it) u) Q E s:=by
  unfold letOwnedTupleGo
  cases tg <;> first
    | exact wpAny_pure hQ
    | (cases u <;> first
        | exact wpAny_pure hQ
        | (refine wpAny_bind (wpAny_load ho ?_)
           rw [hc,hd]
           show wpAny M A (if (["enumerate","zip","dict_itemiterator","dict_reverseitemiterator","odict_iterator","itertools.zip_longest","itertools.pairwise"].contains n && vs[0]? == some (rawInt _))=true then _ else _) Q E s
           rw [if_neg (by intro h; rw [hn,Bool.false_and] at h; cases h)]
           exact wpAny_pure hQ))
def Itl (K:PySem.W.Frag) (a:Addr):It :=
 ⟨fun i H=>∃ xs x,SqL K H a xs∧xs[i]?=some x,fun i H x H'=>H'=H∧∀ xs,SqL K H a xs→xs[i]?=some x,fun i H=>∃ xs,SqL K H a xs∧xs.length≤i⟩
def Itt (K:PySem.W.Frag) (a:Addr):It :=
 ⟨fun i H=>∃ xs x,SqT K H a xs∧xs[i]?=some x,fun i H x H'=>H'=H∧∀ xs,SqT K H a xs→xs[i]?=some x,fun i H=>∃ xs,SqT K H a xs∧xs.length≤i⟩
def Itr (lo:Int) (n:Nat):It:=⟨fun i _=>i < n,fun i H x H'=>H'=H∧x=.int (lo+i),fun i _=>n≤i⟩
theorem turn_list {P:Program} {w:World} {K:PySem.W.Frag} {tg:Expr} (a it:Addr):Turn P w K tg (Itl K a) [it] it (fun i h=>h.IsListIter it a i) where
 mem:=by simp
 obj:=fun i h st b hb=>by
  have e:b=it:=by simpa using hb
  subst e
  obtain ⟨o,e,c,d⟩:=st
  exact ⟨o,e,fun v z=>by rw [d] at z; cases z⟩
 keep:=fun i h h' st k=>st.at fun o e=>k it (by simp) o e
 item:=by
  intro X hP hw hK hc i pins s σ H E I hf st hg
  subst hP hw hK
  obtain ⟨xs,x,hq,hx⟩:=hg
  obtain ⟨its,rv,p,hz⟩:=I.list hq
  obtain ⟨u,hu,ru⟩:=rv.get hx
  obtain ⟨f0,f1,f2,f3,f4,f5⟩:=hf it (by simp)
  refine wpAny_pyNext_list_item st p.isList (x:=u) (by simpa using hu) fun h' st' sb=>?_
  have I1:Inv X pins σ H { s with heap:=h' }:=I.turned (t':=s.toks) (fun b o hb e=>(sb.2 b hb).trans e) f0 f1 f3 f4 f5
  obtain ⟨o,e,c,d⟩:=id st'
  exact ⟨u,rfl,go_of (s:={ s with heap:=h' }) e c d (by decide) ⟨x,H,I1,ru,⟨rfl,fun ys hy=>by rw [I.list_inj hy hq]; exact hx⟩,st',fun b hb=>(hf b hb).1⟩⟩
 done:=by
  intro X hP hw hK hc i pins s σ H E I hf st hg
  subst hP hw hK
  obtain ⟨xs,hq,hx⟩:=hg
  obtain ⟨its,rv,p,hz⟩:=I.list hq
  obtain ⟨f0,f1,f2,f3,f4,f5⟩:=hf it (by simp)
  have hl:=rv.length
  exact wpAny_pyNext_list_end (I.ok.hd hc) st p.isList (by simp; omega) fun h' eb=>⟨rfl,I.turned (t':=s.toks) (fun b o hb e=>eb b o hb e) f0 f1 f3 f4 f5⟩
 self:=fun _ _ _ _ _ st h=>wpAny_pyIter_listiter st h
theorem turn_tuple {P:Program} {w:World} {K:PySem.W.Frag} {tg:Expr} (a it:Addr):Turn P w K tg (Itt K a) [it] it (fun i h=>h.IsTupleIter it a i) where
 mem:=by simp
 obj:=fun i h st b hb=>by
  have e:b=it:=by simpa using hb
  subst e
  obtain ⟨o,e,c,d⟩:=st
  exact ⟨o,e,fun v z=>by rw [d] at z; cases z⟩
 keep:=fun i h h' st k=>st.at fun o e=>k it (by simp) o e
 item:=by
  intro X hP hw hK hc i pins s σ H E I hf st hg
  subst hP hw hK
  obtain ⟨xs,x,hq,hx⟩:=hg
  obtain ⟨its,rv,p,hz⟩:=I.tuple hq
  obtain ⟨u,hu,ru⟩:=rv.get hx
  obtain ⟨f0,f1,f2,f3,f4,f5⟩:=hf it (by simp)
  refine wpAny_pyNext_tuple_item st (show s.heap.IsTuple a its.toArray from p) (x:=u) (by simpa using hu) fun h' st' sb=>?_
  have I1:Inv X pins σ H { s with heap:=h' }:=I.turned (t':=s.toks) (fun b o hb e=>(sb.2 b hb).trans e) f0 f1 f3 f4 f5
  obtain ⟨o,e,c,d⟩:=id st'
  exact ⟨u,rfl,go_of (s:={ s with heap:=h' }) e c d (by decide) ⟨x,H,I1,ru,⟨rfl,fun ys hy=>by rw [I.tuple_inj hy hq]; exact hx⟩,st',fun b hb=>(hf b hb).1⟩⟩
 done:=by
  intro X hP hw hK hc i pins s σ H E I hf st hg
  subst hP hw hK
  obtain ⟨xs,hq,hx⟩:=hg
  obtain ⟨its,rv,p,hz⟩:=I.tuple hq
  obtain ⟨f0,f1,f2,f3,f4,f5⟩:=hf it (by simp)
  have hl:=rv.length
  exact wpAny_pyNext_tuple_end (I.ok.hd hc) st (show s.heap.IsTuple a its.toArray from p) (by simp; omega) fun h' eb=>⟨rfl,I.turned (t':=s.toks) (fun b o hb e=>eb b o hb e) f0 f1 f3 f4 f5⟩
 self:=fun _ _ _ _ _ st h=>wpAny_pyIter_tupleiter st h
theorem turn_range {P:Program} {w:World} {K:PySem.W.Frag} {tg:Expr} (it:Addr) (lo:Int) (n:Nat):Turn P w K tg (Itr lo n) [it] it (fun i h=>IsRangeIter h it (lo+(i:Nat) * 1) ((n:Int) - (i:Nat)) 1) where
 mem:=by simp
 obj:=fun i h st b hb=>by
  have e:b=it:=by simpa using hb
  subst e
  exact ⟨_,st,fun v z=>by
   have z':Data.fields _=Data.cell v:=z
   cases z'⟩
 keep:=fun i h h' st k=>k it (by simp) _ st
 item:=by
  intro X hP hw hK hc i pins s σ H E I hf st hg
  subst hP hw hK
  obtain ⟨f0,f1,f2,f3,f4,f5⟩:=hf it (by simp)
  have W:=Walks.range (prog:=X.prog) (w:=X.w) (I.ok.hd hc) it lo 1 n
  refine W.item i s _ _ hg st fun v h' tk hv st' kk=>?_
  obtain ⟨t,rfl⟩:=hv
  have I1:Inv X pins σ H { s with heap:=h',toks:=tk }:=I.turned (fun b o hb e=>kk b o (by simpa using hb) e) f0 f1 f3 f4 f5
  refine ⟨_,rfl,go_of (s:={ s with heap:=h',toks:=tk }) (n:="range_iterator") st' rfl rfl (by decide) ⟨.int (lo+i),H,I1,⟨t,?_⟩,⟨rfl,rfl⟩,st',fun b hb=>(hf b hb).1⟩⟩
  rw [Int.mul_one]
 done:=by
  intro X hP hw hK hc i pins s σ H E I hf st hg
  subst hP hw hK
  obtain ⟨f0,f1,f2,f3,f4,f5⟩:=hf it (by simp)
  exact wpAny_pyNext_range_end (I.ok.hd hc) st (by have:n≤i:=hg; omega) fun h' eb=>⟨rfl,I.turned (t':=s.toks) (fun b o hb e=>eb b o hb e) f0 f1 f3 f4 f5⟩
 self:=fun _ _ _ _ _ st h=>wpAny_pyIter_rangeiter st h
end L2
namespace L2
open PySem PySem.Spec PyProof.Rows
section
variable {X:Cx} {tg:Expr}
def iList (K:PySem.W.Frag) (tl:TE):TI:=fun σ H R=>tl σ H fun x H1=>∃ a,x=.ref a∧(∃ xs,SqL K H1 a xs)∧R (Itl K a) H1
def iTup (K:PySem.W.Frag) (tl:TE):TI:=fun σ H R=>tl σ H fun x H1=>∃ a,x=.ref a∧(∃ xs,SqT K H1 a xs)∧R (Itt K a) H1
theorem Zfi {l:Expr} {tl:TE} (hl:PE X l tl):PI X tg l (iList X.K tl):=by
 intro pins s σ H R I h
 refine thn (hl pins s σ H _ I h) fun v s1 ⟨x,H1,I1,r1,q1⟩=>?_
 obtain ⟨a,e,⟨xs,hq⟩,q⟩:=q1
 subst e
 cases r1
 obtain ⟨its,rv,p,hz⟩:=I1.list hq
 refine wpAny_pyIter_list p.isList ?_
 refine ⟨s1.heap.objs.size,[s1.heap.objs.size],_,_,H1,rfl,I1.kept (t':=s1.toks) fun b o e=>Heap.get?_push_of_some _ e,turn_list a _,⟨_,Heap.get?_push_size _ rfl,rfl,rfl⟩,fun b hb=>?_,q⟩
 have e:b=s1.heap.objs.size:=by simpa using hb
 subst e
 exact I1.fpOk (Nat.le_refl _) (I1.hok.fresh (Nat.le_refl _))
theorem pi_tup {l:Expr} {tl:TE} (hl:PE X l tl):PI X tg l (iTup X.K tl):=by
 intro pins s σ H R I h
 refine thn (hl pins s σ H _ I h) fun v s1 ⟨x,H1,I1,r1,q1⟩=>?_
 obtain ⟨a,e,⟨xs,hq⟩,q⟩:=q1
 subst e
 cases r1
 obtain ⟨its,rv,p,hz⟩:=I1.tuple hq
 refine wpAny_pyIter_tuple (show s1.heap.IsTuple a its.toArray from p) ?_
 refine ⟨s1.heap.objs.size,[s1.heap.objs.size],_,_,H1,rfl,I1.kept (t':=s1.toks) fun b o e=>Heap.get?_push_of_some _ e,turn_tuple a _,⟨_,Heap.get?_push_size _ rfl,rfl,rfl⟩,fun b hb=>?_,q⟩
 have e:b=s1.heap.objs.size:=by simpa using hb
 subst e
 exact I1.fpOk (Nat.le_refl _) (I1.hok.fresh (Nat.le_refl _))
theorem range_it {pins:List (Addr × Obj)} {σ:St} {H:Hp} {s:Shared} {R:It→Hp→Prop} {E:Value→Shared→Prop} {lo hi:Int} {t u v:Tok} {tk:Nat} (I:Inv X pins σ H s) (h1:-(2^62)≤lo) (h2:lo < 2^62) (h3:-(2^62)≤hi) (h4:hi < 2^62)
  (q:R (Itr lo (hi - lo).toNat) H):wpAny (model X.prog X.w) X.A (pyIter (.ref s.heap.objs.size)) (PIE X pins σ tg R) E { s with heap:=s.heap.push { cls:=.type "range",data:=.fields #[.int lo t,.int hi u,.int 1 v] },toks:=tk }:=by
 refine wpAny_pyIter_range (IsRange.new ..) (small_one h1 h2 h3 h4) ?_
 have I1:Inv X pins σ H { s with heap:=s.heap.push { cls:=.type "range",data:=.fields #[.int lo t,.int hi u,.int 1 v] },toks:=tk }:=I.kept fun b o e=>Heap.get?_push_of_some _ e
 refine ⟨(s.heap.push { cls:=.type "range",data:=.fields #[.int lo t,.int hi u,.int 1 v] }).objs.size,[(s.heap.push { cls:=.type "range",data:=.fields #[.int lo t,.int hi u,.int 1 v] }).objs.size],_,_,H,rfl,
  I1.kept (t':=tk) fun b o e=>Heap.get?_push_of_some _ e,turn_range _ lo (hi - lo).toNat,?_,fun b hb=>?_,q⟩
 ·have e1:lo+((0:Nat):Int) * 1=lo:=by simp
  have e2:(((hi - lo).toNat:Nat):Int) - ((0:Nat):Int)=Builtin.Range.rangeSize lo hi 1:=by rw [rangeSize_one]; split <;> omega
  show IsRangeIter _ _ (lo+((0:Nat):Int) * 1) ((((hi - lo).toNat:Nat):Int) - ((0:Nat):Int)) 1
  rw [e1,e2]
  exact Heap.get?_push_size _ rfl
 ·have e:b=(s.heap.push { cls:=.type "range",data:=.fields #[.int lo t,.int hi u,.int 1 v] }).objs.size:=by simpa using hb
  subst e
  exact I1.fpOk (Nat.le_refl _) (I1.hok.fresh (Nat.le_refl _))
def iRng2 (ta:TA):TI:=fun σ H R=>ta σ H fun vs H1=>∃ i j:Int,vs=[.int i,.int j]∧(-(2^62)≤i∧i < 2^62∧-(2^62)≤j∧j < 2^62)∧R (Itr i (j - i).toNat) H1
theorem pi_range2 {a b:Expr} {ta:TA} {p pos:Pos} (hg:Gl X "range") (hm:X.mg "range"=none) (ha:PA X [a,b] ta) (hs:starEach [a,b] X.env=[(false,eval a X.env),(false,eval b X.env)]:=by rfl) (hs2:starEach [b] X.env=[(false,eval b X.env)]:=by rfl) :
  PI X tg (.Call (.Name "range" p) [a,b] [] pos) (iRng2 ta):=by
 intro pins s σ H R I h
 refine Call_ (Zfq I hg hm boot_range (PyProof.Rows.callWith_type1 (thn (ha pos pins s σ H _ I h) fun us s1 ⟨vs,H1,I1,r1,q1⟩=>?_) (by rw [hs,hs2]) (by rw [hs2]; rfl)))
 obtain ⟨i,j,e,⟨q1,q2,q3,q4⟩,q⟩:=q1
 subst e
 cases r1 with
 | cons r rr =>
  cases rr with
  | cons r' rr =>
   cases rr
   obtain ⟨t,rfl⟩:=r
   obtain ⟨t',rfl⟩:=r'
   exact call_range_2 (range_it I1 q1 q2 q3 q4 q)
def tFor (wi:TI) (g:TG) (tb:TS):TS:=fun D σ H=>wi σ H fun J H1=>∃ W:Nat→Nat→St→Hp→Prop,(∃ m,W 0 m σ H1)∧∀ i m σ H,W i m σ H →
 (J.stop i H∧D.nx σ H)∨(J.go i H∧∃ N:St→Hp→Prop,(∀ σ' H',N σ' H'→∃ m',m' < m∧W (i+1) m' σ' H')∧∀ x H',J.yld i H x H'→g x σ H' fun σ2 H2=>tb { D with nx:=N,ct:=N,bk:=D.nx } σ2 H2)
def pinsAt (fp:List Addr) (h:Heap):List (Addr × Obj):=fp.filterMap fun b=>(h.get? b).map fun o=>(b,o)
theorem Zbq {fp:List Addr} {h:Heap} {b:Addr} {o:Obj} (hb:b∈fp) (e:h.get? b=some o):(b,o)∈pinsAt fp h:=List.mem_filterMap.mpr ⟨b,hb,by rw [e]; rfl⟩
theorem of_pinsAt {fp:List Addr} {h:Heap} {p:Addr × Obj} (hp:p∈pinsAt fp h):p.1∈fp∧h.get? p.1=some p.2:=by
 obtain ⟨b,hb,e⟩:=List.mem_filterMap.mp hp
 cases q:h.get? b with
 | none=>rw [q] at e; cases e
 | some o =>
  rw [q] at e
  have e':(b,o)=p:=Option.some.inj e
  subst e'
  exact ⟨hb,q⟩
theorem Inv.pinned {pins:List (Addr × Obj)} {σ:St} {H:Hp} {s:Shared} {fp:List Addr} (I:Inv X pins σ H s) (hf:∀ b∈fp,FpOk X pins H b) (ho:∀ b∈fp,∃ o,s.heap.get? b=some o∧∀ v,o.data≠.cell v):Inv X (pins++pinsAt fp s.heap) σ H s :=
 I.pins_of fun p hp=>(List.mem_append.mp hp).elim (fun z=>I.pin p (List.mem_append_right _ z)) fun z=>by
  obtain ⟨hb,e⟩:=of_pinsAt z
  obtain ⟨f0,f1,f2,_⟩:=hf p.1 hb
  obtain ⟨o,e',d⟩:=ho p.1 hb
  rw [e] at e'; cases e'
  exact ⟨e,f0,f1,f2,d⟩
theorem Inv.unpinned {pins pl:List (Addr × Obj)} {σ:St} {H:Hp} {s:Shared} (I:Inv X (pins++pl) σ H s):Inv X pins σ H s:=I.pins_of fun p hp=>I.pin p (List.mem_append_right _ (List.mem_append_left _ hp))
theorem Zgm {iter:Expr} {body:List Stmt} {wi:TI} {g:TG} {tb:TS} {pos:Pos} (hp:PassesOwn (model X.prog X.w) X.A X.env X.xe) (hc:X.calm=true) (hi:PI X tg iter wi) (hg:PG X tg g) (hb:PSs X body tb)
  (hs:∀ x,foldedSetIterable iter X.env x=pure x:=by intro _; rfl):PS X (.For tg iter body [] pos) (tFor wi g tb):=by
 intro pins s σ H D I h
 refine wpAny_For (thn (hi pins s σ H _ I h) fun v s1 h1=>thn h1 fun itv s2 h2=>?_) hs
 obtain ⟨it,fp,tn,J,H2,e,I2,T,st2,f2,W,⟨m0,w0⟩,turn⟩:=h2
 subst e
 have stat:∀ {H':Hp},(∀ b∈fp,H' b=none)→∀ b∈fp,FpOk X pins H' b:=fun hn b hb=>⟨hn b hb,(f2 b hb).2⟩
 refine codeAny_forLoop_any (fun n s'=>∃ i σ' H',Inv X pins σ' H' s'∧tn i s'.heap∧(∀ b∈fp,H' b=none)∧W i n σ' H') ?_ m0 ⟨0,σ,H2,I2,st2,fun b hb=>(f2 b hb).1,w0⟩
 rintro n s3 ⟨i,σ3,H3,I3,st3,fr3,w3⟩
 rcases turn i n σ3 H3 w3 with ⟨stop,qn⟩ | ⟨go,N,hN,step⟩
 ·refine wpAny_passesOwn hp (thn (T.done X rfl rfl rfl hc i pins s3 σ3 H3 X.xe I3 (stat fr3) st3 stop) fun r s4 ⟨hr,I4⟩=>?_)
  subst hr
  exact wpAny_execs_nil ⟨σ3,H3,I4,qn⟩
 ·refine wpAny_passesOwn hp (thn (T.item X rfl rfl rfl hc i pins s3 σ3 H3 X.xe I3 (stat fr3) st3 go) fun r s4 ⟨u,hr,h4⟩=>?_)
  subst hr
  refine wpAny_passesOwn hp (thn h4 fun _ s5 ⟨x,H5,I5,r5,y5,st5,fr5⟩=>?_)
  have I5':=I5.pinned (stat fr5) (T.obj _ _ st5)
  refine wpAny_passesOwn hp (thn (hg _ s5 σ3 H5 x u _ I5' r5 (step x H5 y5)) fun _ s6 ⟨σ6,H6,I6,q6⟩=>?_)
  refine wpAny_passesOwn hp (thn (hb _ s6 σ6 H6 _ I6 q6) fun f s7 q7=>?_)
  have again:∀ {σ7:St} {H7:Hp},Inv X (pins++pinsAt fp s5.heap) σ7 H7 s7→N σ7 H7→∃ m,m < n∧∃ i σ' H',Inv X pins σ' H' s7∧tn i s7.heap∧(∀ b∈fp,H' b=none)∧W i m σ' H':=fun {σ7 H7} I7 n7=>by
   obtain ⟨m',hm,w7⟩:=hN σ7 H7 n7
   refine ⟨m',hm,i+1,σ7,H7,I7.unpinned,T.keep _ _ _ st5 fun b hb o e=>(I7.pin (b,o) (List.mem_append_right _ (List.mem_append_right _ (Zbq hb e)))).1,fun b hb=>?_,w7⟩
   obtain ⟨o,e,d⟩:=T.obj _ _ st5 b hb
   exact (I7.pin (b,o) (List.mem_append_right _ (List.mem_append_right _ (Zbq hb e)))).2.1
  cases f with
  | next=>obtain ⟨σ7,H7,I7,n7⟩:=q7; exact again I7 n7
  | cont=>obtain ⟨σ7,H7,I7,n7⟩:=q7; exact again I7 n7
  | brk=>obtain ⟨σ7,H7,I7,q7⟩:=q7; exact ⟨σ7,H7,I7.unpinned,q7⟩
  | ret v=>obtain ⟨x7,σ7,H7,I7,r7,q7⟩:=q7; exact ⟨x7,σ7,H7,I7.unpinned,r7,q7⟩
end
theorem for_list {K:PySem.W.Frag} {a:Addr} {xs:List V} {g:TG} {tb:TS} {D:Ends} {σ:St} {H:Hp} (Pv:Nat→St→Hp→Prop) (h0:Pv 0 σ H) (hl:∀ i σ H,i≤xs.length→Pv i σ H→SqL K H a xs)
  (hs:∀ i x σ H,xs[i]?=some x→Pv i σ H→g x σ H fun σ2 H2=>tb { D with nx:=Pv (i+1),ct:=Pv (i+1),bk:=D.nx } σ2 H2) (hd:∀ σ H,Pv xs.length σ H→D.nx σ H) :
  ∃ W:Nat→Nat→St→Hp→Prop,(∃ m,W 0 m σ H)∧∀ i m σ H,W i m σ H →
   ((Itl K a).stop i H∧D.nx σ H)∨((Itl K a).go i H∧∃ N:St→Hp→Prop,(∀ σ' H',N σ' H'→∃ m',m' < m∧W (i+1) m' σ' H')∧∀ x H',(Itl K a).yld i H x H'→g x σ H' fun σ2 H2=>tb { D with nx:=N,ct:=N,bk:=D.nx } σ2 H2):=by
 refine ⟨fun i m σ H=>m=xs.length - i∧i≤xs.length∧Pv i σ H,⟨xs.length,by simp,Nat.zero_le _,h0⟩,?_⟩
 rintro i m σ H ⟨rfl,hi,p⟩
 have q:=hl i σ H hi p
 by_cases hlt:i < xs.length
 ·refine .inr ⟨⟨xs,xs[i],q,by simp [hlt]⟩,Pv (i+1),fun σ' H' p'=>⟨xs.length - (i+1),by omega,rfl,hlt,p'⟩,fun x H' y=>?_⟩
  obtain ⟨e,y⟩:=y
  subst e
  exact hs i x σ _ (y xs q) p
 ·have e:i=xs.length:=by omega
  subst e
  exact .inl ⟨⟨xs,q,Nat.le_refl _⟩,hd σ H p⟩
theorem for_tup {K:PySem.W.Frag} {a:Addr} {xs:List V} {g:TG} {tb:TS} {D:Ends} {σ:St} {H:Hp} (Pv:Nat→St→Hp→Prop) (h0:Pv 0 σ H) (hl:∀ i σ H,i≤xs.length→Pv i σ H→SqT K H a xs)
  (hs:∀ i x σ H,xs[i]?=some x→Pv i σ H→g x σ H fun σ2 H2=>tb { D with nx:=Pv (i+1),ct:=Pv (i+1),bk:=D.nx } σ2 H2) (hd:∀ σ H,Pv xs.length σ H→D.nx σ H) :
  ∃ W:Nat→Nat→St→Hp→Prop,(∃ m,W 0 m σ H)∧∀ i m σ H,W i m σ H →
   ((Itt K a).stop i H∧D.nx σ H)∨((Itt K a).go i H∧∃ N:St→Hp→Prop,(∀ σ' H',N σ' H'→∃ m',m' < m∧W (i+1) m' σ' H')∧∀ x H',(Itt K a).yld i H x H'→g x σ H' fun σ2 H2=>tb { D with nx:=N,ct:=N,bk:=D.nx } σ2 H2):=by
 refine ⟨fun i m σ H=>m=xs.length - i∧i≤xs.length∧Pv i σ H,⟨xs.length,by simp,Nat.zero_le _,h0⟩,?_⟩
 rintro i m σ H ⟨rfl,hi,p⟩
 have q:=hl i σ H hi p
 by_cases hlt:i < xs.length
 ·refine .inr ⟨⟨xs,xs[i],q,by simp [hlt]⟩,Pv (i+1),fun σ' H' p'=>⟨xs.length - (i+1),by omega,rfl,hlt,p'⟩,fun x H' y=>?_⟩
  obtain ⟨e,y⟩:=y
  subst e
  exact hs i x σ _ (y xs q) p
 ·have e:i=xs.length:=by omega
  subst e
  exact .inl ⟨⟨xs,q,Nat.le_refl _⟩,hd σ H p⟩
theorem for_range {lo:Int} {n:Nat} {g:TG} {tb:TS} {D:Ends} {σ:St} {H:Hp} (Pv:Nat→St→Hp→Prop) (h0:Pv 0 σ H)
  (hs:∀ i σ H,i < n→Pv i σ H→g (.int (lo+i)) σ H fun σ2 H2=>tb { D with nx:=Pv (i+1),ct:=Pv (i+1),bk:=D.nx } σ2 H2) (hd:∀ σ H,Pv n σ H→D.nx σ H) :
  ∃ W:Nat→Nat→St→Hp→Prop,(∃ m,W 0 m σ H)∧∀ i m σ H,W i m σ H →
   ((Itr lo n).stop i H∧D.nx σ H)∨((Itr lo n).go i H∧∃ N:St→Hp→Prop,(∀ σ' H',N σ' H'→∃ m',m' < m∧W (i+1) m' σ' H')∧∀ x H',(Itr lo n).yld i H x H'→g x σ H' fun σ2 H2=>tb { D with nx:=N,ct:=N,bk:=D.nx } σ2 H2):=by
 refine ⟨fun i m σ H=>m=n - i∧i≤n∧Pv i σ H,⟨n,by simp,Nat.zero_le _,h0⟩,?_⟩
 rintro i m σ H ⟨rfl,hi,p⟩
 by_cases hlt:i < n
 ·refine .inr ⟨hlt,Pv (i+1),fun σ' H' p'=>⟨n - (i+1),by omega,rfl,hlt,p'⟩,fun x H' y=>?_⟩
  obtain ⟨e,y⟩:=y
  subst e y
  exact hs i σ _ hlt p
 ·have e:i=n:=by omega
  subst e
  exact .inl ⟨Nat.le_refl _,hd σ H p⟩
end L2
namespace L2
open PySem PySem.Spec PyProof.Rows
abbrev R2:=V→V→Hp→VK→Prop
def OpR (X:Cx) (f:Value→Value→Sem Value) (r:R2):Prop :=
 ∀ (pins:List (Addr × Obj)) (s:Shared) (σ:St) (H:Hp) (x y:V) (v u:Value) (Q:VK),Inv X pins σ H s→RelV x v→RelV y u→r x y H Q →
  wpAny (model X.prog X.w) X.A (f v u) (EP X pins σ Q) X.xe s
def UnR (X:Cx) (f:Value→Sem Value) (r:V→Hp→VK→Prop):Prop :=
 ∀ (pins:List (Addr × Obj)) (s:Shared) (σ:St) (H:Hp) (x:V) (v:Value) (Q:VK),Inv X pins σ H s→RelV x v→r x H Q →
  wpAny (model X.prog X.w) X.A (f v) (EP X pins σ Q) X.xe s
def CallR (X:Cx) (f:Value) (r:List V→Hp→VK→Prop):Prop :=
 ∀ (pins:List (Addr × Obj)) (s:Shared) (σ:St) (H:Hp) (xs:List V) (us:List Value) (Q:VK),Inv X pins σ H s→Vals xs us→r xs H Q →
  wpAny (model X.prog X.w) X.A (call f us) (EP X pins σ Q) X.xe s
def TruR (X:Cx) (r:V→Hp→(Bool→Hp→Prop)→Prop):Prop :=
 ∀ (pins:List (Addr × Obj)) (s:Shared) (σ:St) (H:Hp) (x:V) (v:Value) (Q:Bool→Hp→Prop),Inv X pins σ H s→RelV x v→r x H Q →
  wpAny (model X.prog X.w) X.A (truthy v) (TP X pins σ Q) X.xe s
def tOp (r:R2) (ta tb:TE):TE:=fun σ H Q=>ta σ H fun x H1=>tb σ H1 fun y H2=>r x y H2 Q
def tUn (r:V→Hp→VK→Prop) (ta:TE):TE:=fun σ H Q=>ta σ H fun x H1=>r x H1 Q
def rI (C:Int→Int→Prop) (g:Int→Int→V):R2:=fun x y H Q=>∃ i j,x=.int i∧y=.int j∧C i j∧Q (g i j) H
def rI0 (g:Int→Int→V):R2:=fun x y H Q=>∃ i j,x=.int i∧y=.int j∧Q (g i j) H
def rU (g:Int→V):V→Hp→VK→Prop:=fun x H Q=>∃ i,x=.int i∧Q (g i) H
section
variable {X:Cx} {a b c:Expr} {ta tb tc:TE} {pos:Pos}
theorem binT (ha:PE X a ta) (hb:PE X b tb) {pins:List (Addr × Obj)} {s:Shared} {σ:St} {H:Hp} {R:V→V→Hp→Prop} (I:Inv X pins σ H s)
  (h:ta σ H fun x H1=>tb σ H1 fun y H2=>R x y H2) {Q:Value→Shared→Prop} {f:Value→Value→Sem Value}
  (hf:∀ v u s2 x y H2,Inv X pins σ H2 s2→RelV x v→RelV y u→R x y H2→wpAny (model X.prog X.w) X.A (f v u) Q X.xe s2) :
  wpAny (model X.prog X.w) X.A (eval a X.env) (fun v s₁=>wpAny (model X.prog X.w) X.A (eval b X.env) (fun u s₂=>wpAny (model X.prog X.w) X.A (f v u) Q X.xe s₂) X.xe s₁) X.xe s:=by
 refine thn (ha pins s σ H _ I h) fun v s1 ⟨x,H1,I1,r1,q1⟩=>?_
 refine thn (hb pins s1 σ H1 _ I1 q1) fun u s2 ⟨y,H2,I2,r2,q2⟩=>?_
 exact hf v u s2 x y H2 I2 r1 r2 q2
theorem Zbb {op:Operator} {r:R2} (ho:OpR X (binaryOp op) r) (ha:PE X a ta) (hb:PE X b tb):PE X (.BinOp a op b pos) (tOp r ta tb):=by
 intro pins s σ H Q I h
 exact wpAny_BinOp (binT ha hb I h fun v u s2 x y H2 I2 rx ry q=>ho pins s2 σ H2 x y v u Q I2 rx ry q)
theorem Zkd {op:UnaryOp} {r:V→Hp→VK→Prop} (ho:UnR X (unaryOp op) r) (ha:PE X a ta):PE X (.UnaryOp op a pos) (tUn r ta):=by
 intro pins s σ H Q I h
 exact UnaryOp_ (thn (ha pins s σ H _ I h) fun v s1 ⟨x,H1,I1,r1,q1⟩=>ho pins s1 σ H1 x v Q I1 r1 q1)
theorem opI {f:Value→Value→Sem Value} {C:Int→Int→Prop} {g:Int→Int→Int}
  (rule:∀ (i j:Int) (t u:Tok) (s:Shared) (Q:Value→Shared→Prop) (E:Value→Shared→Prop),C i j→Q (.int (g i j) s.toks) { s with toks:=s.toks+1 }→wpAny (model X.prog X.w) X.A (f (.int i t) (.int j u)) Q E s) :
  OpR X f (rI C fun i j=>.int (g i j)):=by
 intro pins s σ H x y v u Q I rx ry h
 obtain ⟨i,j,rfl,rfl,hc,q⟩:=h
 obtain ⟨t,rfl⟩:=rx
 obtain ⟨t',rfl⟩:=ry
 exact rule i j t t' s _ _ hc ⟨.int (g i j),H,I.tok _,⟨_,rfl⟩,q⟩
theorem opI0 {f:Value→Value→Sem Value} {g:Int→Int→Int}
  (rule:∀ (i j:Int) (t u:Tok) (s:Shared) (Q:Value→Shared→Prop) (E:Value→Shared→Prop),Q (.int (g i j) s.toks) { s with toks:=s.toks+1 }→wpAny (model X.prog X.w) X.A (f (.int i t) (.int j u)) Q E s) :
  OpR X f (rI0 fun i j=>.int (g i j)):=by
 intro pins s σ H x y v u Q I rx ry h
 obtain ⟨i,j,rfl,rfl,q⟩:=h
 obtain ⟨t,rfl⟩:=rx
 obtain ⟨t',rfl⟩:=ry
 exact rule i j t t' s _ _ ⟨.int (g i j),H,I.tok _,⟨_,rfl⟩,q⟩
theorem opB0 {f:Value→Value→Sem Value} {g:Int→Int→Bool}
  (rule:∀ (i j:Int) (t u:Tok) (s:Shared) (Q:Value→Shared→Prop) (E:Value→Shared→Prop),Q (.bool (g i j)) s→wpAny (model X.prog X.w) X.A (f (.int i t) (.int j u)) Q E s) :
  OpR X f (rI0 fun i j=>.bl (g i j)):=by
 intro pins s σ H x y v u Q I rx ry h
 obtain ⟨i,j,rfl,rfl,q⟩:=h
 obtain ⟨t,rfl⟩:=rx
 obtain ⟨t',rfl⟩:=ry
 exact rule i j t t' s _ _ ⟨.bl (g i j),H,I,rfl,q⟩
def CPow (i j:Int):Prop:=0≤j∧j≤1000000∧i.natAbs < 2^64
theorem Zb4:OpR X (binaryOp .Add) (rI0 fun i j=>.int (i+j)):=opI0 fun _ _ _ _ _ _ _ q=>add_int q
theorem Zfj:OpR X (binaryOp .Sub) (rI0 fun i j=>.int (i - j)):=opI0 fun _ _ _ _ _ _ _ q=>sub_int q
theorem Zfk:OpR X (binaryOp .Mod) (rI (fun _ j=>0 < j) fun i j=>.int (i % j)):=opI fun i j _ _ _ _ _ hc q=>by
 have h1:(0:Int) < j:=hc
 exact mod_int' (by omega) (by rw [Int.fmod_eq_emod_of_nonneg i (by omega)]; exact q)
theorem op_pow:OpR X (binaryOp .Pow) (rI CPow fun i j=>.int (i^j.toNat)):=opI fun _ _ _ _ _ _ _ hc q=>pow_int_small hc.1 hc.2.1 hc.2.2 q
theorem unI {f:Value→Sem Value} {g:Int→Int}
  (rule:∀ (i:Int) (t:Tok) (s:Shared) (Q:Value→Shared→Prop) (E:Value→Shared→Prop),Q (.int (g i) s.toks) { s with toks:=s.toks+1 }→wpAny (model X.prog X.w) X.A (f (.int i t)) Q E s) :
  UnR X f (rU fun i=>.int (g i)):=by
 intro pins s σ H x v Q I rx h
 obtain ⟨i,rfl,q⟩:=h
 obtain ⟨t,rfl⟩:=rx
 exact rule i t s _ _ ⟨.int (g i),H,I.tok _,⟨_,rfl⟩,q⟩
theorem Ze5:UnR X (unaryOp .USub) (rU fun i=>.int (-i)):=unI fun _ _ _ _ _ q=>neg_int q
end
def scal:V→V→Bool
 | .non,.non=>true | .non,.int _=>true | .int _,.non=>true | .non,.bl _=>true | .bl _,.non=>true | .non,.str _=>true | .str _,.non=>true
 | .int _,.int _=>true | .bl _,.bl _=>true | .str _,.str _=>true | .byt _,.byt _=>true
 | .int _,.str _=>true | .str _,.int _=>true | .bl _,.str _=>true | .str _,.bl _=>true
 | _,_=>false
def rEq:R2:=fun x y H Q=>scal x y=true∧Q (.bl (decide (x=y))) H
def rNe:R2:=fun x y H Q=>scal x y=true∧Q (.bl (!decide (x=y))) H
theorem dec_int {i j:Int}:decide (V.int i=V.int j)=(i == j):=by
 rw [Bool.eq_iff_iff]
 simp
theorem dec_bl {i j:Bool}:decide (V.bl i=V.bl j)=(i == j):=by
 rw [Bool.eq_iff_iff]
 simp
theorem Zkz {i j:Str}:decide (V.str i=V.str j)=(i == j):=by
 rw [Bool.eq_iff_iff]
 simp
theorem dec_byt {i j:Array UInt8}:decide (V.byt i=V.byt j)=(i.toList == j.toList):=by
 rw [Bool.eq_iff_iff]
 cases i
 cases j
 simp
section
variable {X:Cx} {a b c:Expr} {ta tb tc:TE} {pos:Pos}
theorem Zba {pins:List (Addr × Obj)} {σ:St} {H:Hp} {s:Shared} {Q:VK} {k k':Bool} (I:Inv X pins σ H s) (q:Q (.bl k) H) (e:k=k'):EP X pins σ Q (.bool k') s:=by
 subst e
 exact ⟨.bl k,H,I,rfl,q⟩
theorem Zcf:OpR X (compareOp .Eq) rEq:=by
 intro pins s σ H x y v u Q I rx ry h
 obtain ⟨hs,q⟩:=h
 cases x with
 | non =>
  cases rx
  cases y with
  | non=>cases ry; exact PySem.EqNone.eq_none_none (Zba I q (by simp))
  | bl j=>cases ry; exact PySem.EqNone.eq_none_bool (Zba I q (by simp))
  | int j=>obtain ⟨t',rfl⟩:=ry; exact PySem.EqNone.eq_none_int (Zba I q (by simp))
  | str j=>obtain ⟨t',rfl⟩:=ry; exact PySem.EqNone.eq_none_str (Zba I q (by simp))
  | _=>exact absurd (show false=true from hs) Bool.false_ne_true
 | bl i =>
  cases rx
  cases y with
  | non=>cases ry; exact PySem.EqNone.eq_bool_none (Zba I q (by simp))
  | bl j=>cases ry; exact eq_bool (Zba I q dec_bl)
  | str j=>obtain ⟨t',rfl⟩:=ry; exact PySem.EqMixed.eq_bool_str (Zba I q (by simp))
  | _=>exact absurd (show false=true from hs) Bool.false_ne_true
 | int i =>
  obtain ⟨t,rfl⟩:=rx
  cases y with
  | non=>cases ry; exact PySem.EqNone.eq_int_none (Zba I q (by simp))
  | int j=>obtain ⟨t',rfl⟩:=ry; exact eq_int (Zba I q dec_int)
  | str j=>obtain ⟨t',rfl⟩:=ry; exact PySem.EqMixed.eq_int_str (Zba I q (by simp))
  | _=>exact absurd (show false=true from hs) Bool.false_ne_true
 | str i =>
  obtain ⟨t,rfl⟩:=rx
  cases y with
  | non=>cases ry; exact PySem.EqNone.eq_str_none (Zba I q (by simp))
  | bl j=>cases ry; exact PySem.EqMixed.eq_str_bool (Zba I q (by simp))
  | int j=>obtain ⟨t',rfl⟩:=ry; exact PySem.EqMixed.eq_str_int (Zba I q (by simp))
  | str j=>obtain ⟨t',rfl⟩:=ry; exact eq_str (Zba I q Zkz)
  | _=>exact absurd (show false=true from hs) Bool.false_ne_true
 | byt i =>
  obtain ⟨t,rfl⟩:=rx
  cases y with
  | byt j=>obtain ⟨t',rfl⟩:=ry; exact PySem.W.eq_bytes (Zba I q dec_byt)
  | _=>exact absurd (show false=true from hs) Bool.false_ne_true
 | _=>cases y <;> exact absurd (show false=true from hs) Bool.false_ne_true
theorem Zit:OpR X (compareOp .NotEq) rNe:=by
 intro pins s σ H x y v u Q I rx ry h
 obtain ⟨hs,q⟩:=h
 cases x with
 | non =>
  cases rx
  cases y with
  | non=>cases ry; exact PySem.EqNone.ne_none_none (Zba I q (by simp))
  | bl j=>cases ry; exact PySem.EqNone.ne_none_bool (Zba I q (by simp))
  | int j=>obtain ⟨t',rfl⟩:=ry; exact PySem.EqNone.ne_none_int (Zba I q (by simp))
  | str j=>obtain ⟨t',rfl⟩:=ry; exact PySem.EqNone.ne_none_str (Zba I q (by simp))
  | _=>exact absurd (show false=true from hs) Bool.false_ne_true
 | bl i =>
  cases rx
  cases y with
  | non=>cases ry; exact PySem.EqNone.ne_bool_none (Zba I q (by simp))
  | bl j=>cases ry; exact ne_bool (Zba I q (congrArg not dec_bl))
  | str j=>obtain ⟨t',rfl⟩:=ry; exact PySem.EqMixed.ne_bool_str (Zba I q (by simp))
  | _=>exact absurd (show false=true from hs) Bool.false_ne_true
 | int i =>
  obtain ⟨t,rfl⟩:=rx
  cases y with
  | non=>cases ry; exact PySem.EqNone.ne_int_none (Zba I q (by simp))
  | int j=>obtain ⟨t',rfl⟩:=ry; exact ne_int (Zba I q (congrArg not dec_int))
  | str j=>obtain ⟨t',rfl⟩:=ry; exact PySem.EqMixed.ne_int_str (Zba I q (by simp))
  | _=>exact absurd (show false=true from hs) Bool.false_ne_true
 | str i =>
  obtain ⟨t,rfl⟩:=rx
  cases y with
  | non=>cases ry; exact PySem.EqNone.ne_str_none (Zba I q (by simp))
  | bl j=>cases ry; exact PySem.EqMixed.ne_str_bool (Zba I q (by simp))
  | int j=>obtain ⟨t',rfl⟩:=ry; exact PySem.EqMixed.ne_str_int (Zba I q (by simp))
  | str j=>obtain ⟨t',rfl⟩:=ry; exact ne_str (Zba I q (congrArg not Zkz))
  | _=>exact absurd (show false=true from hs) Bool.false_ne_true
 | byt i =>
  obtain ⟨t,rfl⟩:=rx
  cases y with
  | byt j=>obtain ⟨t',rfl⟩:=ry; exact PySem.W.ne_bytes (Zba I q (congrArg not dec_byt))
  | _=>exact absurd (show false=true from hs) Bool.false_ne_true
 | _=>cases y <;> exact absurd (show false=true from hs) Bool.false_ne_true
theorem Ziu:OpR X (compareOp .Lt) (rI0 fun i j=>.bl (decide (i < j))):=opB0 fun _ _ _ _ _ _ _ q=>lt_int q
theorem op_gt:OpR X (compareOp .Gt) (rI0 fun i j=>.bl (decide (j < i))):=opB0 fun _ _ _ _ _ _ _ q=>gt_int q
theorem op_ge:OpR X (compareOp .GtE) (rI0 fun i j=>.bl (decide (j≤i))):=opB0 fun _ _ _ _ _ _ _ q=>ge_int q
theorem Ziv:OpR X (compareOp .Is) (fun x y H Q=>y=.non∧Q (.bl (decide (x=.non))) H):=by
 intro pins s σ H x y v u Q I rx ry h
 obtain ⟨rfl,q⟩:=h
 cases ry
 refine is_none_gen (Zba I q ?_)
 cases x <;> first
  | (cases rx; rfl)
  | (obtain ⟨t,rfl⟩:=rx; rfl)
theorem op_notN:OpR X (compareOp .IsNot) (fun x y H Q=>y=.non∧Q (.bl (!decide (x=.non))) H):=by
 intro pins s σ H x y v u Q I rx ry h
 obtain ⟨rfl,q⟩:=h
 cases ry
 refine isnot_none_gen (Zba I q ?_)
 cases x <;> first
  | (cases rx; rfl)
  | (obtain ⟨t,rfl⟩:=rx; rfl)
theorem nomark (b:Expr) {op:CmpOp} (h:op≠.In:=by decide) (h2:op≠.NotIn:=by decide):behindInMarks op b=false:=by
 have e1:(op == CmpOp.In)=false:=by cases op <;> first | rfl | exact absurd rfl h
 have e2:(op == CmpOp.NotIn)=false:=by cases op <;> first | rfl | exact absurd rfl h2
 cases b <;> simp [behindInMarks,e1,e2]
theorem Zke {op:CmpOp} {r:R2} (ho:OpR X (compareOp op) r) (ha:PE X a ta) (hb:PE X b tb) (hm:behindInMarks op b=false):PE X (.Compare a [op] [b] pos) (tOp r ta tb):=by
 intro pins s σ H Q I h
 exact wpAny_Compare1 (binT ha hb I h fun v u s2 x y H2 I2 rx ry q=>ho pins s2 σ H2 x y v u Q I2 rx ry q) hm
def tTest (t:TE):TT:=fun σ H Q=>t σ H fun x H'=>∃ k,x=.bl k∧Q k H'
theorem Zai {op:CmpOp} {r:R2} (ho:OpR X (compareOp op) r) (ha:PE X a ta) (hb:PE X b tb) (hm:behindInMarks op b=false):PT X (.Compare a [op] [b] pos) (tTest (tOp r ta tb)):=by
 intro pins s σ H Q I h
 refine wpAny_isTrue_Compare1 (thn (ha pins s σ H _ I h) fun v s1 ⟨x,H1,I1,r1,q1⟩=>thn (hb pins s1 σ H1 _ I1 q1) fun u s2 ⟨y,H2,I2,r2,q2⟩ =>
  thn (ho pins s2 σ H2 x y v u _ I2 r1 r2 q2) fun c s3 ⟨z,H3,I3,r3,k,e,q3⟩=>?_) hm
 subst e
 cases r3
 exact wpAny_truthy_bool ⟨H3,I3,q3⟩
def tChain (r r':R2) (ta tb tc:TE):TE:=fun σ H Q=>ta σ H fun x H1=>tb σ H1 fun y H2=>r x y H2 fun z H3=>∃ k,z=.bl k ∧
 (if k=true then tc σ H3 fun w' H4=>r' y w' H4 Q else Q (.bl false) H3)
theorem pe_chain {op op':CmpOp} {r r':R2} (ho:OpR X (compareOp op) r) (ho':OpR X (compareOp op') r') (ha:PE X a ta) (hb:PE X b tb) (hc:PE X c tc)
  (hm:lastMarks [op,op'] [b,c]=false:=by with_unfolding_all rfl):PE X (.Compare a [op,op'] [b,c] pos) (tChain r r' ta tb tc):=by
 intro pins s σ H Q I h
 refine Compare_chain (thn (ha pins s σ H _ I h) fun v s1 ⟨x,H1,I1,r1,q1⟩=>chain_link (thn (hb pins s1 σ H1 _ I1 q1) fun u s2 ⟨y,H2,I2,r2,q2⟩ =>
  thn (ho pins s2 σ H2 x y v u _ I2 r1 r2 q2) fun d s3 ⟨z,H3,I3,r3,k,e,q3⟩=>?_)) hm
 subst e
 cases r3
 refine wpAny_truthy_bool ?_
 cases k with
 | false=>exact ite_ff ⟨.bl false,H3,I3,rfl,q3⟩
 | true=>exact ite_tt (chain_last (thn (hc pins s3 σ H3 _ I3 q3) fun w' s4 ⟨z',H4,I4,r4,q4⟩=>ho' pins s4 σ H4 y z' u w' Q I4 r2 r4 q4))
theorem pt_chain {op op':CmpOp} {r r':R2} (ho:OpR X (compareOp op) r) (ho':OpR X (compareOp op') r') (ha:PE X a ta) (hb:PE X b tb) (hc:PE X c tc)
  (hm:lastMarks [op,op'] [b,c]=false:=by with_unfolding_all rfl):PT X (.Compare a [op,op'] [b,c] pos) (tTest (tChain r r' ta tb tc)):=by
 intro pins s σ H Q I h
 refine isTrue_chain (thn (ha pins s σ H _ I h) fun v s1 ⟨x,H1,I1,r1,q1⟩=>test_link (thn (hb pins s1 σ H1 _ I1 q1) fun u s2 ⟨y,H2,I2,r2,q2⟩ =>
  thn (ho pins s2 σ H2 x y v u _ I2 r1 r2 q2) fun d s3 ⟨z,H3,I3,r3,k,e,q3⟩=>?_)) hm
 subst e
 cases r3
 refine wpAny_truthy_bool ?_
 cases k with
 | false =>
  obtain ⟨k',e',q'⟩:=q3
  cases e'
  exact ite_ff ⟨H3,I3,q'⟩
 | true =>
  refine ite_tt (test_last (thn (hc pins s3 σ H3 _ I3 q3) fun w' s4 ⟨z',H4,I4,r4,q4⟩=>thn (ho' pins s4 σ H4 y z' u w' _ I4 r2 r4 q4) fun d' s5 ⟨z2,H5,I5,r5,k2,e2,q5⟩=>?_))
  subst e2
  cases r5
  exact wpAny_truthy_bool ⟨H5,I5,q5⟩
def TruV (K:PySem.W.Frag) (x:V) (H:Hp) (k:Bool):Prop :=
 match x with
 | .non=>k=false
 | .bl b=>k=b
 | .int i=>k=(i != 0)
 | .str y=>y.length≤sizeLine∧k=((y.length:Int) != 0)
 | .byt y=>y.size≤sizeLine∧k=((y.size:Int) != 0)
 | .ref p=>(∃ xs,SqL K H p xs∧k=!xs.isEmpty)∨(∃ xs,SqT K H p xs∧k=!xs.isEmpty)∨∃ kvs,H p=some (.dK kvs)∧k=!kvs.isEmpty
 | _=>False
theorem isEmpty_kv {κ:Type} {kvs:List (κ × V)} {vs:List (κ × Value)} (r:KV kvs vs):(!vs.isEmpty)=!kvs.isEmpty:=by
 cases r <;> rfl
theorem Zgr {xs:List V} {its:List Value} (r:Vals xs its):(!its.toArray.isEmpty)=!xs.isEmpty:=by
 cases r <;> simp
theorem line63:(sizeLine:Nat) < 2^63:=by rw [sizeLine_eq]; decide
theorem tru_ok:TruR X (fun x H Q=>∃ k,TruV X.K x H k∧Q k H):=by
 intro pins s σ H x v Q I rx h
 obtain ⟨k,e,q⟩:=h
 have hl:=line63
 have hs:sizeLine=16777216:=sizeLine_eq
 cases x with
 | non =>
  cases rx
  have e':k=false:=e
  subst e'
  exact truthy_none ⟨H,I,q⟩
 | bl b =>
  cases rx
  have e':k=b:=e
  subst e'
  exact wpAny_truthy_bool ⟨H,I,q⟩
 | int i =>
  obtain ⟨t,rfl⟩:=rx
  have e':k=(i != 0):=e
  subst e'
  exact PySem.P.truthy_int ⟨H,I,q⟩
 | str y =>
  obtain ⟨t,rfl⟩:=rx
  obtain ⟨hy,e'⟩:y.length≤sizeLine∧k=((y.length:Int) != 0):=e
  subst e'
  exact PySem.P.truthy_str (by omega) ⟨H,I.tok _,q⟩
 | byt y =>
  obtain ⟨t,rfl⟩:=rx
  obtain ⟨hy,e'⟩:y.size≤sizeLine∧k=((y.size:Int) != 0):=e
  subst e'
  exact PySem.W.truthy_bytes (by omega) ⟨H,I.tok _,q⟩
 | ref p =>
  cases rx
  have e':(∃ xs,SqL X.K H p xs∧k=!xs.isEmpty)∨(∃ xs,SqT X.K H p xs∧k=!xs.isEmpty)∨∃ kvs,H p=some (.dK kvs)∧k=!kvs.isEmpty:=e
  rcases e' with ⟨xs,hx,e'⟩ | ⟨xs,hx,e'⟩ | ⟨kvs,hx,e'⟩
  ·subst e'
   obtain ⟨its,r,pl,hz⟩:=I.list hx
   have hlen:=r.length
   exact wpAny_truthy_list pl.isList (by simp only [List.size_toArray]; omega) ⟨H,I.tok _,by rw [Zgr r]; exact q⟩
  ·subst e'
   obtain ⟨its,r,pl,hz⟩:=I.tuple hx
   have hlen:=r.length
   exact truthy_tuple pl (by simp only [List.size_toArray]; omega) ⟨H,I.tok _,by rw [Zgr r]; exact q⟩
  ·subst e'
   obtain ⟨hz,hS,vs,r,m⟩:kvs.length≤sizeLine∧(p == sysModules)=false∧∃ vs,KV kvs vs∧s.heap.DictOf (Zbt X.prog X.w) p vs:=I.hok p _ hx
   have hlen:kvs.length=vs.length:=Paired.length r
   exact wpAny_truthy_dict hS m (by omega) ⟨H,I.tok _,by rw [isEmpty_kv r]; exact q⟩
 | _=>exact (show False from e).elim
theorem pt_truth (ha:PE X a ta) (he:∀ whole,isTrue a X.env whole=(do let v ← whole; standAt a.pos; holding [v] (truthy v))) :
    PT X a (fun σ H Q=>ta σ H fun x H'=>∃ k,TruV X.K x H' k∧Q k H'):=by
  intro pins s σ H Q I h
  exact isTrue_plain (thn (ha pins s σ H _ I h) fun v s1 ⟨x,H1,I1,r1,q1⟩=>tru_ok pins s1 σ H1 x v Q I1 r1 q1) (he _)
theorem vals1 {x:V} {us:List Value} (r:Vals [x] us):∃ u,us=[u]∧RelV x u:=by
 cases r with
 | cons r1 r2=>cases r2; exact ⟨_,rfl,r1⟩
theorem vals2 {x y:V} {us:List Value} (r:Vals [x,y] us):∃ u w',us=[u,w']∧RelV x u∧RelV y w':=by
 cases r with
 | cons r1 r2 =>
  cases r2 with
  | cons r3 r4=>cases r4; exact ⟨_,_,rfl,r1,r3⟩
theorem call_abs:CallR X (.builtin "abs") (fun xs H Q=>∃ i,xs=[.int i]∧Q (.int (if i < 0 then -i else i)) H):=by
 intro pins s σ H xs us Q I r h
 obtain ⟨i,rfl,q⟩:=h
 obtain ⟨u,rfl,t,rfl⟩:=vals1 r
 exact call_abs_int fun u tk=>⟨.int (if i < 0 then -i else i),H,I.tok _,⟨_,rfl⟩,q⟩
theorem Zjl:CallR X (.type "int") (fun xs H Q=>(∃ i,xs=[.int i]∧Q (.int i) H)∨∃ k,xs=[.bl k]∧Q (.int (if k then 1 else 0)) H):=by
 intro pins s σ H xs us Q I r h
 rcases h with ⟨i,rfl,q⟩ | ⟨k,rfl,q⟩
 ·obtain ⟨u,rfl,t,rfl⟩:=vals1 r
  exact call_int_int ⟨.int i,H,I,⟨_,rfl⟩,q⟩
 ·obtain ⟨u,rfl,r1⟩:=vals1 r
  cases r1
  exact call_int_bool ⟨.int (if k then 1 else 0),H,I.tok _,⟨_,rfl⟩,q⟩
end
end L2
namespace L2
open PySem PySem.Spec PyProof.Rows
structure ObjM (h:Heap) (x dx C:Addr) (mA:Str→Option Value):Prop where
 obj:h.get? x=some (PySem.W.instObj C dx)
 ns:h.Ns1 dx mA
 ne:dx≠x
theorem Zi9 {h:Heap} {dx:Addr} {mA:Str→Option Value} (n:h.Ns1 dx mA):∃ od,h.get? dx=some od∧∀ name,PySem.W.lookIn name od=some (mA name):=by
 obtain ⟨o,es,ep,ho,hd,hk,_,hm⟩:=n
 refine ⟨o,ho,fun name=>?_⟩
 have e:=hm name
 unfold nsFind findBy at e
 rw [← Array.find?_toList] at e
 unfold PySem.W.lookIn
 rw [hd]
 dsimp only
 split
 ·rename_i y q
  rw [q] at e
  exact congrArg some e
 ·rename_i q
  rw [q] at e
  have a:es.toList.any (·.refKey)=false:=by
   rw [List.any_eq_false]
   intro y hy
   obtain ⟨z,t,hkey⟩:=hk y (Array.mem_toList_iff.mp hy)
   simp [DictEntry.refKey,hkey]
  have a':¬ es.toList.any (·.refKey)=true:=by rw [a]; exact Bool.false_ne_true
  rw [if_neg a']
  exact congrArg some e
theorem ObjM.look {h:Heap} {x dx C:Addr} {mA:Str→Option Value} (I:ObjM h x dx C mA):∃ od,PySem.W.InstAt h x (PySem.W.instObj C dx) C (some od)∧∀ name,PySem.W.lookIn name od=some (mA name) :=
 let ⟨od,ho,hl⟩:=Zi9 I.ns
 ⟨od,⟨I.obj,rfl,rfl,ho⟩,hl⟩
section
variable {prog:Program} {w:World} {A:Around} {E:Value→Shared→Prop} {s:Shared} {K:PySem.W.Frag} {x dx C f:Addr} {mA:Str→Option Value} {name:Str} {v:Value}
theorem get_map {expr:Bool} {Q:Value→Shared→Prop} (X:K.In s.heap) (I:ObjM s.heap x dx C mA) (hg:PySem.W.plainGet K C name=true) (hh:PySem.W.hasDictIn K C=true)
  (ha:PySem.W.findIn K (.ref C) name=some none) (hv:mA name=some v) (hv':PySem.W.handedIn v=true) (h:Q v { s with toks:=s.toks+1 }) :
  wpAny (model prog w) A (getAttr (.ref x) name expr) Q E s:=by
 obtain ⟨od,J,hl⟩:=I.look
 exact PySem.W.get_value X J (PySem.W.plainGet_of hg).1 (PySem.W.findObj_own hh ha rfl (by rw [hl,hv])) hv' h
theorem set_map {ns:List Str} {Q:Unit→Shared→Prop} (X:K.In s.heap) (I:ObjM s.heap x dx C mA)
  (hs:PySem.W.findIn K (.ref C) "__setattr__"=some (some (.builtin "object.__setattr__"))) (hp:PySem.W.plainOver K C=true) (ht:PySem.W.takerIn K C name=some none) (hh:PySem.W.hasDictIn K C=true)
  (hw:PySem.Within mA ns) (hsz:ns.length≤sizeLine)
  (h:∀ h',ObjM h' x dx C (fun y=>if y=name then some v else mA y)→Heap.SameBut dx s.heap h'→Q () { s with heap:=h',toks:=s.toks+2 }) :
  wpAny (model prog w) A (setAttr (.ref x) name v) Q E s:=by
 obtain ⟨od,J,hl⟩:=I.look
 refine PySem.W.set_plain X J hs (PySem.W.osa_open (s:={ s with toks:=s.toks+1 }) (r:=none) X J hp ht fun b=>?_)
 obtain ⟨cd,hc,hd'⟩:=PySem.W.any_some hh
 have hx:s.heap.get? x=some ⟨.ref C,some dx,.plain,#[]⟩:=I.obj
 refine wpAny_bind (wpAny_pure (wpAny_bind (wpAny_bind (wpAny_loadPart hx (wpAny_bind (PySem.W.Looks.here (s:={ s with toks:=s.toks+1 }) (PySem.W.looks_clsIn X hc) ?_))))))
 rw [hd']
 refine wpAny_pure (a:=some dx) (wpAny_bind (wpAny_pure (wpAny_bind ?_)))
 refine wpAny_nsSet1 (s:={ s with toks:=s.toks+1 }) I.ns fun h' hn2 hs2=>?_
 obtain ⟨oD,esD,epD,hoD,hdD,hcD⟩:=hn2.count (PySem.Within.cons name v hw)
 refine wpAny_bind (wpAny_lookBehind hoD (by rw [hdD]; exact pastItsLine_dict (Nat.le_trans hcD (by rw [List.length_cons]; omega))) ?_)
 exact wpAny_pure (h _ ⟨(hs2.2 _ (Ne.symm I.ne)).trans I.obj,hn2,I.ne⟩ hs2)
theorem make_map {R:Result→Shared→Prop} {vs:List Value} {kw:List (Str × Value)} (X:K.In s.heap) (hm:PySem.W.makesIn K C=true)
  (hi:PySem.W.findIn K (.ref C) "__init__"=some (some (.ref f))) (hf:PySem.W.typeIn K (.ref f)=some (.type "function"))
  (h:codeAny (model prog w) (A.under (.builtin "type.__call__" ⟨.ref C :: vs,kw⟩)) (.call (.ref f) ⟨.ref (s.heap.objs.size+1) :: vs,kw⟩) (PySem.W.InitBack (s.heap.objs.size+1) R)
   { s with heap:=(s.heap.push PySem.W.emptyDict).push (PySem.W.instObj C s.heap.objs.size) }) :
  codeAny (model prog w) A (.call (.ref C) ⟨vs,kw⟩) R s:=by
 obtain ⟨hh,g,d,t,os⟩:=s
 exact PySem.W.make_core (PySem.W.makes_of X hm) (PySem.W.looks_findIn X hi) (fun self=>PySem.W.bind_fn X self hf) (.inl rfl) h
end
def putF (f:Str) (v:V):List (Str × V)→List (Str × V)
 | []=>[(f,v)]
 | (g,x) :: r=>if g=f then (g,v) :: r else (g,x) :: putF f v r
theorem Zbd (f g:Str) (v:V):∀ fs:List (Str × V),(putF f v fs).lookup g=if g=f then some v else fs.lookup g
 | []=>by
  show List.lookup g [(f,v)]=_
  by_cases h:g=f
  ·have hb:(g == f)=true:=beq_iff_eq.mpr h
   simp only [List.lookup,hb,if_pos h]
  ·have hb:(g == f)=false:=beq_eq_false_iff_ne.mpr h
   simp only [List.lookup,hb,if_neg h]
 | (k,x) :: r=>by
  have ih:=Zbd f g v r
  rw [show putF f v ((k,x) :: r)=(if k=f then (k,v) :: r else (k,x) :: putF f v r) from rfl]
  by_cases hk:k=f
  ·rw [if_pos hk]
   by_cases h:g=k
   ·have hb:(g == k)=true:=beq_iff_eq.mpr h
    simp only [List.lookup,hb,if_pos (h.trans hk)]
   ·have hb:(g == k)=false:=beq_eq_false_iff_ne.mpr h
    simp only [List.lookup,hb,if_neg (fun e:g=f=>h (e.trans hk.symm))]
  ·rw [if_neg hk]
   by_cases h:g=k
   ·have hb:(g == k)=true:=beq_iff_eq.mpr h
    simp only [List.lookup,hb,if_neg (fun e:g=f=>hk (h.symm.trans e))]
   ·have hb:(g == k)=false:=beq_eq_false_iff_ne.mpr h
    simp only [List.lookup,hb]
    exact ih
theorem Zdg (f:Str) (v:V):∀ fs:List (Str × V),f∈(putF f v fs).map (·.1)∧∀ g,g∈fs.map (·.1)→g∈(putF f v fs).map (·.1)
 | []=>⟨by simp [putF],fun g h=>by simp at h⟩
 | (k,x) :: r=>by
  obtain ⟨i1,i2⟩:=Zdg f v r
  rw [show putF f v ((k,x) :: r)=(if k=f then (k,v) :: r else (k,x) :: putF f v r) from rfl]
  by_cases hk:k=f
  ·rw [if_pos hk]
   subst hk
   exact ⟨by simp,fun g h=>by simpa using h⟩
  ·rw [if_neg hk]
   refine ⟨?_,fun g h=>?_⟩
   ·rw [List.map_cons]
    exact List.mem_cons_of_mem _ i1
   ·rw [List.map_cons] at h ⊢
    rcases List.mem_cons.mp h with e | e
    ·exact List.mem_cons.mpr (.inl e)
    ·exact List.mem_cons_of_mem _ (i2 g e)
theorem Zfp (f:Str) (v:V):∀ fs:List (Str × V),(putF f v fs).length≤fs.length+1
 | []=>by simp [putF]
 | (k,x) :: r=>by
  have ih:=Zfp f v r
  rw [show putF f v ((k,x) :: r)=(if k=f then (k,v) :: r else (k,x) :: putF f v r) from rfl]
  by_cases hk:k=f
  ·rw [if_pos hk,List.length_cons,List.length_cons]; omega
  ·rw [if_neg hk,List.length_cons,List.length_cons]; omega
theorem RelO.some_of {v:V} {o:Option Value} (r:RelO (some v) o):∃ u,o=some u∧RelV v u:=by
 cases o with
 | none=>exact (show False from r).elim
 | some u=>exact ⟨u,rfl,r⟩
theorem Zje {v:V} {u:Value} (r:RelV v u):PySem.W.handedIn u=true:=by
 cases v with
 | non=>cases (show u=Value.none from r); rfl
 | bl b=>cases (show u=Value.bool b from r); rfl
 | int i=>obtain ⟨t,e⟩:=(show ∃ t,u=Value.int i t from r); cases e; rfl
 | str x=>obtain ⟨t,e⟩:=(show ∃ t,u=Value.str x t from r); cases e; rfl
 | byt b=>obtain ⟨t,e⟩:=(show ∃ t,u=Value.bytes b t from r); cases e; rfl
 | flt b=>obtain ⟨t,e⟩:=(show ∃ t,u=Value.float b t from r); cases e; rfl
 | ref a=>cases (show u=Value.ref a from r); rfl
 | ty n=>cases (show u=Value.type n from r); rfl
section
variable {P:Program} {w:World} {H H':Hp} {h h':Heap} {a C dx:Addr} {fs fs':List (Str × V)}
theorem Zkv (hok:HOk P w H h) (e:H a=some (.ins C dx fs)):∃ mA,ObjM h a dx C mA∧(∀ f,RelO (fs.lookup f) (mA f))∧PySem.Within mA (fs.map (·.1))∧fs.length≤1000∧H dx=some (.own a):=by
 obtain ⟨d,z,ne,ob,mA,n,r,q⟩:=(show ObjOk P w H h a (.ins C dx fs) from hok a _ e)
 exact ⟨mA,⟨ob,n,ne⟩,r,q,z,d⟩
end
structure Cls (K:PySem.W.Frag) (C:Addr):Prop where
 pg:PySem.W.plainGet K C Str.empty=true
 hd:PySem.W.hasDictIn K C=true
 po:PySem.W.plainOver K C=true
 sa:PySem.W.findIn K (.ref C) "__setattr__"=some (some (.builtin "object.__setattr__"))
theorem Cls.get {K:PySem.W.Frag} {C:Addr} (c:Cls K C) (f:Str):PySem.W.plainGet K C f=true:=c.pg
def NoAttr (K:PySem.W.Frag) (C:Addr) (f:Str):Prop:=PySem.W.findIn K (.ref C) f=some none
theorem NoAttr.taker {K:PySem.W.Frag} {C:Addr} {f:Str} (n:NoAttr K C f):PySem.W.takerIn K C f=some none:=by
 unfold PySem.W.takerIn
 rw [show PySem.W.findIn K (.ref C) f=some none from n]
 rfl
section
variable {X:Cx} {pins:List (Addr × Obj)} {σ:St} {H:Hp} {s:Shared} {a C dx:Addr} {fs:List (Str × V)} {f:Str} {v:V} {A:Around} {E:Value→Shared→Prop}
theorem getattr_ok {b:Bool} {Q:Value→Shared→Prop} (I:Inv X pins σ H s) (e:H a=some (.ins C dx fs)) (c:Cls X.K C) (n:NoAttr X.K C f) (l:fs.lookup f=some v)
  (h:∀ u s',Inv X pins σ H s'→RelV v u→Q u s'):wpAny (model X.prog X.w) A (getAttr (.ref a) f b) Q E s:=by
 obtain ⟨mA,O,r,_,_,_⟩:=Zkv I.hok e
 obtain ⟨u,hu,ru⟩:=RelO.some_of (v:=v) (o:=mA f) (by rw [← l]; exact r f)
 exact get_map I.kIn O (c.get f) c.hd n hu (Zje ru) (h u _ (I.tok _) ru)
theorem setattr_ok {y:V} {u:Value} {Q:Unit→Shared→Prop} (I:Inv X pins σ H s) (e:H a=some (.ins C dx fs)) (c:Cls X.K C) (n:NoAttr X.K C f) (hl:fs.length < 1000) (ry:RelV y u)
  (h:∀ s',Inv X pins σ (upd H a (.ins C dx (putF f y fs))) s'→Q () s'):wpAny (model X.prog X.w) A (setAttr (.ref a) f u) Q E s:=by
 obtain ⟨mA,O,r,wi,_,ho⟩:=Zkv I.hok e
 have hz:(fs.map (·.1)).length≤sizeLine:=by rw [List.length_map,sizeLine_eq]; omega
 refine set_map I.kIn O c.sa c.po n.taker c.hd wi hz fun h' O' sb=>h _ ?_
 have hd:∃ o,h'.get? dx=some o:=let ⟨o,_,_,e',_⟩:=O'.ns; ⟨o,e'⟩
 refine I.write (x:=a) (e:=dx) (by rw [e]; exact True.intro) (.inr ho) (fun b q hb z=>(sb.2 b hb).trans z) hd ?_
 refine ⟨by rw [Zak O.ne]; exact ho,?_,O.ne,O'.obj,_,O'.ns,fun g=>?_,fun g hg=>?_⟩
 ·have:=Zfp f y fs; omega
 ·show RelO ((putF f y fs).lookup g) (if g=f then some u else mA g)
  rw [Zbd]
  by_cases q:g=f
  ·rw [if_pos q,if_pos q]; exact ry
  ·rw [if_neg q,if_neg q]; exact r g
 ·by_cases q:g=f
  ·rw [q]; exact (Zdg f y fs).1
  ·refine (Zdg f y fs).2 g (wi g fun z=>hg ?_)
   show (if g=f then some u else mA g)=none
   rw [if_neg q]; exact z
theorem Inv.made (I:Inv X pins σ H s):Inv X pins σ (upd (upd H s.heap.objs.size (.own (s.heap.objs.size+1))) (s.heap.objs.size+1) (.ins C s.heap.objs.size []))
  { s with heap:=(s.heap.push PySem.W.emptyDict).push (PySem.W.instObj C s.heap.objs.size) }:=by
 have e1:(s.heap.push PySem.W.emptyDict).get? s.heap.objs.size=some PySem.W.emptyDict:=Heap.get?_push_size s.heap rfl
 have e2:((s.heap.push PySem.W.emptyDict).push (PySem.W.instObj C s.heap.objs.size)).get? (s.heap.objs.size+1)=some (PySem.W.instObj C s.heap.objs.size):=by
  have:=Heap.get?_push_size (s.heap.push PySem.W.emptyDict) (o:=PySem.W.instObj C s.heap.objs.size) rfl
  rwa [Heap.size_push] at this
 have e3:(s.heap.push PySem.W.emptyDict).Ns s.heap.objs.size (fun _=>none):=⟨PySem.W.emptyDict,#[],_,e1,rfl,(fun e he=>absurd he (by simp)),fun _=>rfl⟩
 have I1:=I.laid (a:=s.heap.objs.size) (o:=.own (s.heap.objs.size+1)) (h':=s.heap.push PySem.W.emptyDict) (t':=s.toks) (fun b u q=>Heap.get?_push_of_some _ q) (Nat.le_refl _) ⟨_,e1⟩
 refine I1.laid (a:=s.heap.objs.size+1) (o:=.ins C s.heap.objs.size []) (t':=s.toks) (fun b u q=>Heap.get?_push_of_some _ q) (Nat.le_of_eq (Heap.size_push _ _)) ?_
 have ne:s.heap.objs.size≠s.heap.objs.size+1:=Nat.ne_of_lt (Nat.lt_succ_self _)
 refine ⟨by rw [Zak ne,upd_same],Nat.zero_le _,ne,e2,fun _=>none,(Heap.Ns1.of_empty e3).at fun o q=>Heap.get?_push_of_some _ q,fun _=>True.intro,fun y hy=>absurd rfl hy⟩
theorem attr_of {prog:Program} {w:World} {env:Env} {e:Expr} {f:Str} {pos:Pos} {s:Shared} {Q:Value→Shared→Prop} (hb:attributeBase e f env (eval e env)=eval e env)
  (h:wpAny (model prog w) A (eval e env) (fun o s₁=>wpAny (model prog w) A (getAttr o f true) Q E s₁) E s):wpAny (model prog w) A (eval (.Attribute e f pos) env) Q E s :=
 Attribute_any_ h (by rw [arm_eval_Attribute,hb])
end
def tFld (K:PySem.W.Frag) (ta:TE) (f:Str):TE:=fun σ H Q=>ta σ H fun x H1=>∃ a C dx fs v,x=.ref a∧H1 a=some (.ins C dx fs)∧Cls K C∧NoAttr K C f∧fs.lookup f=some v∧Q v H1
def sFld (K:PySem.W.Frag) (ta tv:TE) (f:Str):TS:=fun D σ H=>tv σ H fun y H1=>ta σ H1 fun x H2=>∃ a C dx fs,x=.ref a∧H2 a=some (.ins C dx fs)∧Cls K C∧NoAttr K C f∧fs.length < 1000 ∧
 D.nx σ (upd H2 a (.ins C dx (putF f y fs)))
section
variable {X:Cx} {o e value:Expr} {f:Str} {pos pos' tpos:Pos} {ta tv:TE}
theorem Zaz (he:PE X e ta) (hb:attributeBase e f X.env (eval e X.env)=eval e X.env):PE X (.Attribute e f pos) (tFld X.K ta f):=by
 intro pins s σ H Q I h
 refine attr_of hb (thn (he pins s σ H _ I h) fun u s1 ⟨x,H1,I1,rx,a,C,dx,fs,v,ex,ea,c,n,l,q⟩=>?_)
 subst ex
 obtain rfl:u=Value.ref a:=rx
 exact getattr_ok I1 ea c n l fun u' s2 I2 ru=>⟨v,H1,I2,ru,q⟩
theorem Zfh (ha:PE X o ta) (hv:PE X value tv) (hs:swapsWith value (some (.Attribute o f pos')) pos.line X.env=pure false):PS X (.Assign [.Attribute o f pos'] value pos) (sFld X.K ta tv f):=by
 intro pins s σ H D I h
 refine plainObj_wpAny_Assign_Attribute (thn (hv pins s σ H _ I h) fun u s1 ⟨y,H1,I1,ry,q⟩=>thn (ha pins s1 σ H1 _ I1 q) fun ov s2 ⟨x,H2,I2,rx,a,C,dx,fs,ex,ea,c,n,l,q2⟩=>?_) hs
 subst ex
 obtain rfl:ov=Value.ref a:=rx
 exact setattr_ok I2 ea c n l ry fun s3 I3=>⟨σ,_,I3,q2⟩
end
section
variable {X:Cx} {pins:List (Addr × Obj)} {σ:St} {H:Hp} {s:Shared} {A:Around} {E:Value→Shared→Prop} {Q:Value→Shared→Prop} {c:Value} {b:Bool}
inductive TyOf (K:PySem.W.Frag) (H:Hp):V→Value→Prop where
 | non:TyOf K H .non (.type "NoneType")
 | bl (x:Bool):TyOf K H (.bl x) (.type "bool")
 | int (i:Int):TyOf K H (.int i) (.type "int")
 | str (x:Str):TyOf K H (.str x) (.type "str")
 | flt (x:UInt64):TyOf K H (.flt x) (.type "float")
 | lst {a:Addr} {xs:List V} (e:H a=some (.lst xs)):TyOf K H (.ref a) (.type "list")
 | frz {a:Addr} {o:Obj} {xs:List V} (e:H a=some (.frz o (.lst xs))):TyOf K H (.ref a) (.type "list")
 | tup {a:Addr} {xs:List V} (e:H a=some (.tup xs)):TyOf K H (.ref a) (.type "tuple")
 | dK {a:Addr} {kvs:List (Key × V)} (e:H a=some (.dK kvs)):TyOf K H (.ref a) (.type "dict")
 | dT {a:Addr} {kvs:List (List Key × V)} (e:H a=some (.dT kvs)):TyOf K H (.ref a) (.type "dict")
 | ins {a C dx:Addr} {fs:List (Str × V)} (e:H a=some (.ins C dx fs)) (cl:Cls K C) (ha:PySem.W.findIn K (.ref C) "__class__"=some (some (.builtin "object.__class__")))
   (hn:PySem.W.specialIn K (.builtin "object.__class__") "__get__"=some (some (.builtin "getset_descriptor.__get__"))) (htk:PySem.W.takesIn K (.builtin "object.__class__")=some true)
   (hm:PySem.W.mroIn K C (.type "object")=some true):TyOf K H (.ref a) (.ref C)
theorem Zjb {x:V} {u t:Value} (I:Inv X pins σ H s) (rx:RelV x u) (ty:TyOf X.K H x t) (e:PySem.W.kitOne X.K t c=some b) (h:∀ tk,Q (.bool b) { s with toks:=tk }) :
  wpAny (model X.prog X.w) A (call (.builtin "isinstance") [u,c]) Q E s:=by
 cases ty with
 | non=>cases (show u=Value.none from rx); exact PySem.W.kia_one PySem.W.kitx_none I.kIn True.intro e (fun z=>nomatch z) h
 | bl y=>cases (show u=Value.bool y from rx); exact PySem.W.kia_one PySem.W.kitx_bool I.kIn True.intro e (fun z=>nomatch z) h
 | int i=>obtain ⟨t,q⟩:=(show ∃ t,u=Value.int i t from rx); cases q; exact PySem.W.kia_one PySem.W.kitx_int I.kIn True.intro e (fun z=>nomatch z) h
 | str y=>obtain ⟨t,q⟩:=(show ∃ t,u=Value.str y t from rx); cases q; exact PySem.W.kia_one PySem.W.kitx_str I.kIn True.intro e (fun z=>nomatch z) h
 | flt y=>obtain ⟨t,q⟩:=(show ∃ t,u=Value.float y t from rx); cases q; exact PySem.W.kia_one PySem.W.kitx_float I.kIn True.intro e (fun z=>nomatch z) h
 | @lst a xs ea =>
  cases (show u=Value.ref a from rx)
  obtain ⟨_,_,n,_,h1⟩:=(show ObjOk X.prog X.w H s.heap a (.lst xs) from I.hok a _ ea)
  exact PySem.W.kia_one PySem.W.kitx_list I.kIn ⟨_,h1,rfl⟩ e (fun z=>nomatch z) h
 | @frz a ob xs ea =>
  cases (show u=Value.ref a from rx)
  obtain ⟨_,_,_,n,_,h1⟩:=(show ObjOk X.prog X.w H s.heap a (.frz ob (.lst xs)) from I.hok a _ ea)
  exact PySem.W.kia_one PySem.W.kitx_list I.kIn ⟨_,h1,rfl⟩ e (fun z=>nomatch z) h
 | @tup a xs ea =>
  cases (show u=Value.ref a from rx)
  obtain ⟨_,_,_,p⟩:=(show ObjOk X.prog X.w H s.heap a (.tup xs) from I.hok a _ ea)
  obtain ⟨o,h1,h2,_⟩:=p
  exact PySem.W.kia_one PySem.W.kitx_tuple I.kIn ⟨o,h1,h2⟩ e (fun z=>nomatch z) h
 | @dK a kvs ea =>
  cases (show u=Value.ref a from rx)
  obtain ⟨_,_,vs,_,p⟩:=(show ObjOk X.prog X.w H s.heap a (.dK kvs) from I.hok a _ ea)
  obtain ⟨o,es,ep,h1,h2,_⟩:=p
  exact PySem.W.kia_one PySem.W.kitx_dict I.kIn ⟨o,h1,h2.1⟩ e (fun z=>nomatch z) h
 | @dT a kvs ea =>
  cases (show u=Value.ref a from rx)
  obtain ⟨_,_,xs,_,o,es,ep,h1,h2,_⟩:=(show ObjOk X.prog X.w H s.heap a (.dT kvs) from I.hok a _ ea)
  exact PySem.W.kia_one PySem.W.kitx_dict I.kIn ⟨o,h1,h2.1⟩ e (fun z=>nomatch z) h
 | @ins a C dx fs ea cl ha hn htk hm =>
  cases (show u=Value.ref a from rx)
  obtain ⟨mA,O,_⟩:=Zkv I.hok ea
  obtain ⟨od,J,_⟩:=O.look
  exact PySem.W.kia_one (PySem.W.kitx_own (cl.get _) cl.hd ha hn htk hm) I.kIn J e (fun z=>nomatch z) h
end
end L2
namespace L2
open PySem PySem.Spec PyProof.Rows
structure Room (k:Nat) (A:Around):Prop where
 hd:A.handled=none
 dp:A.depth+3 * k+5 < recursionLimit
 un:A.units+16 * k+200 < cLine
theorem Room.mono {j k:Nat} {A:Around} (r:Room k A) (h:j≤k):Room j A:=⟨r.hd,by have:=r.dp; omega,by have:=r.un; omega⟩
theorem Room.deeper {k:Nat} {A:Around} (r:Room (k+1) A) (env:Env):Room k (A.deeper env) :=
 ⟨r.hd,by have:=r.dp; show A.depth+1+3 * k+5 < _; omega,by have:=r.un; show A.units+3+16 * k+200 < _; omega⟩
theorem make_depth {A:Around} {C:Addr} {us:List Value} {kw:List (Str × Value)}:(A.under (.builtin "type.__call__" ⟨.ref C :: us,kw⟩)).depth=A.depth+1:=by
 first | rfl | simp [Around.under,Code.weight,Code.isCreation,Code.isGuard,Code.isCaller,Code.frames,Code.isFrame,guardIds]
theorem make_units {A:Around} {C:Addr} {us:List Value} {kw:List (Str × Value)}:(A.under (.builtin "type.__call__" ⟨.ref C :: us,kw⟩)).units=A.units+1:=by
 first | rfl | simp [Around.under,Code.cUnits,Code.frames,Code.isFrame]
theorem Room.make {k:Nat} {A:Around} (r:Room (k+1) A) (C:Addr) (us:List Value) (kw:List (Str × Value)):Room k (A.under (.builtin "type.__call__" ⟨.ref C :: us,kw⟩)) :=
 ⟨r.hd,by have:=r.dp; rw [make_depth]; omega,by have:=r.un; rw [make_units]; omega⟩
theorem Room.depth {k:Nat} {A:Around} (r:Room k A):A.depth < recursionLimit:=by have:=r.dp; omega
theorem Room.units {k:Nat} {A:Around} (r:Room k A):A.units+64 < cLine:=by have:=r.un; omega
def tNil:TA:=fun _ H Q=>Q [] H
def tCons (ta:TE) (tr:TA):TA:=fun σ H Q=>ta σ H fun x H1=>tr σ H1 fun xs H2=>Q (x :: xs) H2
section
variable {X:Cx} {e:Expr} {es:List Expr} {te:TE} {t:TA} {pos:Pos}
theorem Zac:PA X [] tNil:=fun _ _ _ _ H Q I h=>Calls.spliced_nil ⟨[],H,I,.nil,h⟩
theorem Zaa (ha:PE X e te) (hr:PA X es t) (hs:starEach (e :: es) X.env=(false,eval e X.env) :: starEach es X.env:=by rfl):PA X (e :: es) (tCons te t):=by
 intro pos pins s σ H Q I h
 rw [hs]
 show wpAny _ _ (spliced ((false,eval e X.env) :: backTo pos (starEach es X.env))) _ _ s
 refine Calls.spliced_cons (thn (ha pins s σ H _ I h) fun u s1 ⟨x,H1,I1,r1,q1⟩=>?_)
 exact thn (hr pos pins s1 σ H1 _ I1 q1) fun us s2 ⟨xs,H2,I2,r2,q2⟩=>⟨x :: xs,H2,I2,.cons r1 r2,q2⟩
def tTup (t:TA):TE:=fun σ H Q=>t σ H fun xs H1=>xs.length≤sizeLine∧∀ p,H1 p=none→Q (.ref p) (upd H1 p (.tup xs))
def tLst (t:TA):TE:=fun σ H Q=>t σ H fun xs H1=>xs.length≤sizeLine∧∀ p,H1 p=none→Q (.ref p) (upd H1 p (.lst xs))
theorem Zaw {x1} (h:PA X es t):PE X (.Tuple es x1 pos) (tTup t):=by
 intro pins s σ H Q I hq
 refine wpAny_Tuple_spliced (thn (h pos pins s σ H _ I hq) fun us s1 ⟨xs,H1,I1,r,z,q⟩=>⟨by rw [← r.length]; exact z,?_⟩)
 have hf:H1 s1.heap.objs.size=none:=I1.hok.fresh (Nat.le_refl _)
 refine ⟨.ref s1.heap.objs.size,upd H1 s1.heap.objs.size (.tup xs),I1.laid (t':=s1.toks) (fun b u e=>Heap.get?_push_of_some _ e) (Nat.le_refl _) ?_,rfl,q _ hf⟩
 exact ⟨z,us,r,⟨_,Heap.get?_push_size _ rfl,rfl,_,rfl⟩⟩
theorem Zcv (h:PA X es t):PE X (.List es pos) (tLst t):=by
 intro pins s σ H Q I hq
 refine wpAny_List_spliced (thn (h pos pins s σ H _ I hq) fun us s1 ⟨xs,H1,I1,r,z,q⟩=>⟨by rw [← r.length]; exact z,?_⟩)
 have hf:H1 s1.heap.objs.size=none:=I1.hok.fresh (Nat.le_refl _)
 refine ⟨.ref s1.heap.objs.size,upd H1 s1.heap.objs.size (.lst xs),I1.laid (t':=s1.toks) (fun b u e=>Heap.get?_push_of_some _ e) (Nat.le_refl _) ?_,rfl,q _ hf⟩
 exact ⟨z,us,0,r,Heap.get?_push_size _ rfl⟩
end
abbrev Sp:=List V→Hp→VK→XK→Prop
abbrev CXT:=List Env→Hp→Shared→XK→Value→Shared→Prop
structure Env0 (P:Program) (w:World) (K:PySem.W.Frag) (mg:Str→Option Value) (base:Heap) (A:Around) (outer:List Env) (s:Shared) (H:Hp):Prop where
 frames:A.frames=some outer
 mod:Mod K mg base
 bs:∀ b o,base.get? b=some o→s.heap.get? b=some o∧H b=none
 bsz:base.objs.size≤s.heap.objs.size
 funs:s.heap.FunFrames base outer
 frf:∀ b∈frs outer,H b=none
 hok:HOk P w H s.heap
 bare:AllBare s.gens
def CE (outer:List Env) (P:Program) (w:World) (H:Hp) (s:Shared) (Q:VK) (u:Value) (s':Shared):Prop :=
 ∃ v H',s'.os=s.os∧AllBare s'.gens∧Un (frs outer) [] H H' s.heap s'.heap∧HOk P w H' s'.heap∧RelV v u∧Q v H'
def CR (CX:CXT) (outer:List Env) (P:Program) (w:World) (H:Hp) (s:Shared) (Q:VK) (E:XK) (r:Result) (s':Shared):Prop :=
 match r with
 | .ok (.ret u)=>CE outer P w H s Q u s'
 | .ok _=>False
 | .error e=>CX outer H s E e s'
structure FnOk (P:Program) (w:World) (K:PySem.W.Frag) (mg:Str→Option Value) (base:Heap) (CX:CXT) (k:Nat) (f:Addr) (fd:FuncData) (ps:List Str) (sp:Sp):Prop where
 len:∀ vs H Q E,sp vs H Q E→vs.length=ps.length
 run:∀ (A:Around) (outer:List Env) (s:Shared) (H:Hp) (args:Args) (us:List Value) (vs:List V) (Q:VK) (E:XK),Room k A→Env0 P w K mg base A outer s H→BindsTo s fd args (ps.zip us)→Vals vs us→sp vs H Q E →
  codeAny (model P w) A (.call (.ref f) args) (CR CX outer P w H s Q E) s
theorem Env0.make {P:Program} {w:World} {K:PySem.W.Frag} {mg:Str→Option Value} {base:Heap} {A:Around} {outer:List Env} {s:Shared} {H:Hp} (e:Env0 P w K mg base A outer s H) (C:Addr) (us:List Value) (kw:List (Str × Value)) :
  Env0 P w K mg base (A.under (.builtin "type.__call__" ⟨.ref C :: us,kw⟩)) outer s H:=⟨by first | exact e.frames | (simpa [Around.under,Code.envs,Code.isFrame,pushEnvs] using e.frames),e.mod,e.bs,e.bsz,e.funs,e.frf,e.hok,e.bare⟩
section
variable {X:Cx} {pins:List (Addr × Obj)} {σ:St} {H:Hp} {s s':Shared}
theorem Inv.env0 (I:Inv X pins σ H s):Env0 X.prog X.w X.K X.mg X.base X.A X.stack s H :=
 ⟨I.ok.frames,I.ok.mod,I.bs,Nat.le_trans I.ok.bsz I.sz,I.stack,I.stkFree,I.hok,I.bare⟩
theorem Inv.after {Q:VK} {u:Value} (I:Inv X pins σ H s) (h:CE X.stack X.prog X.w H s Q u s'):EP X pins σ Q u s':=by
 obtain ⟨v,H',os,bare,un,hok,r,q⟩:=h
 obtain ⟨hh,g,d,t,os'⟩:=s'
 obtain rfl:os'=s.os:=os
 exact ⟨v,H',I.call (h':=hh) (g':=g) (d':=d) (t':=t) (ch:=[]) un hok bare (fun b z=>absurd z (by simp)),r,q⟩
end
def tCall (sp:Sp) (dvs:List V) (E:XK) (t:TA):TE:=fun σ H Q=>t σ H fun vs H1=>sp (vs++dvs) H1 Q E
def tMake (C:Addr) (sp:Sp) (dvs:List V) (E:XK) (t:TA):TE:=fun σ H Q=>t σ H fun vs H1=>∀ x dx,H1 x=none→H1 dx=none→dx≠x →
 sp (.ref x :: (vs++dvs)) (upd (upd H1 dx (.own x)) x (.ins C dx [])) (fun v H2=>v=.non∧Q (.ref x) H2) E
def Binds (K:PySem.W.Frag) (fd:FuncData) (ps:List Str) (ds:List Value):Prop :=
 ∀ (s:Shared) (us:List Value),K.In s.heap→(us++ds).length=ps.length→BindsTo s fd ⟨us,[]⟩ (ps.zip (us++ds))
theorem Binds.all {K:PySem.W.Frag} {fd:FuncData} {ps:List Str} (h:∀ us:List Value,us.length=ps.length→bindArgs fd ⟨us,[]⟩=pure (ps.zip us)):Binds K fd ps []:=fun s us _ hl=>by
 rw [List.append_nil] at hl ⊢
 exact .of_eq (h us hl)
def Passes (CX:CXT) (X:Cx) (E:XK):Prop:=∀ (pins:List (Addr × Obj)) (σ:St) (H:Hp) (s:Shared) (e:Value) (s':Shared),Inv X pins σ H s→CX X.stack H s E e s'→X.xe e s'
section
variable {X:Cx} {CX:CXT} {k:Nat} {f C:Addr} {fd:FuncData} {ps:List Str} {sp:Sp} {dvs:List V} {ds:List Value} {E:XK} {x m:Str} {p pos apos:Pos} {e o:Expr} {es:List Expr} {ta:TE} {t:TA}
theorem run_fn {pins:List (Addr × Obj)} {σ:St} {H:Hp} {s:Shared} {Q:VK} {us:List Value} {vs:List V} (F:FnOk X.prog X.w X.K X.mg X.base CX k f fd ps sp) (hr:Room k X.A) (hb:Binds X.K fd ps ds) (hd:Vals dvs ds) (hx:Passes CX X E)
  (I:Inv X pins σ H s) (r:Vals vs us) (h:sp (vs++dvs) H Q E):wpAny (model X.prog X.w) X.A (call (.ref f) us) (EP X pins σ Q) X.xe s:=by
 have r2:Vals (vs++dvs) (us++ds):=r.append hd
 have hl:(us++ds).length=ps.length:=by rw [← r2.length]; exact F.len _ _ _ _ h
 refine wpAny_call (codeAny_mono (F.run X.A X.stack s H ⟨us,[]⟩ (us++ds) (vs++dvs) Q E hr I.env0 (hb s us I.kIn hl) r2 h) fun r s' hq=>?_)
 cases r with
 | error e=>exact hx pins σ H s e s' I hq
 | ok fl =>
  cases fl with
  | ret u=>exact I.after hq
  | next=>exact False.elim hq
  | brk=>exact False.elim hq
  | cont=>exact False.elim hq
theorem pe_call (F:FnOk X.prog X.w X.K X.mg X.base CX k f fd ps sp) (hr:Room k X.A) (hg:Gl X x) (hm:X.mg x=some (.ref f)) (hk:PySem.W.keepIn X.K (.ref f)=true) (hb:Binds X.K fd ps ds) (hd:Vals dvs ds) (hx:Passes CX X E)
  (ha:PA X (e :: es) t) (hdb:(x == ("__debug__":Str))=false:=by decide) (he:starEach (e :: es) X.env=(false,eval e X.env) :: starEach es X.env:=by rfl) (hpl:(backTo pos (starEach es X.env)).any (·.1)=false:=by rfl) :
  PE X (.Call (.Name x p) (e :: es) [] pos) (tCall sp dvs E t):=by
 intro pins s σ H Q I h
 refine wpAny_Call_Name_kw (Zek I hg hm ?_ hdb)
 refine PySem.W.callWith_K (h₀:=X.base) I.ok.mod.kin hk (thn (ha pos pins s σ H _ I h) fun us s1 ⟨vs,H1,I1,r,q⟩=>⟨I1.kIn,?_⟩) he hpl
 exact run_fn F hr hb hd hx I1 r q
structure Mk (K:PySem.W.Frag) (C f:Addr):Prop where
 makes:PySem.W.makesIn K C=true
 init:PySem.W.findIn K (.ref C) "__init__"=some (some (.ref f))
 fn:PySem.W.isFn K (.ref f)=true
 kp:PySem.W.keepIn K (.ref C)=true
theorem run_make {pins:List (Addr × Obj)} {σ:St} {H:Hp} {s:Shared} {Q:VK} {us:List Value} {vs:List V} (M:Mk X.K C f) (F:FnOk X.prog X.w X.K X.mg X.base CX k f fd ps sp) (hr:Room (k+1) X.A) (hb:Binds X.K fd ps ds) (hd:Vals dvs ds)
  (hx:Passes CX X E) (I:Inv X pins σ H s) (r:Vals vs us)
  (h:∀ x dx,H x=none→H dx=none→dx≠x→sp (.ref x :: (vs++dvs)) (upd (upd H dx (.own x)) x (.ins C dx [])) (fun v H2=>v=.non∧Q (.ref x) H2) E) :
  wpAny (model X.prog X.w) X.A (call (.ref C) us) (EP X pins σ Q) X.xe s:=by
 have hq:=h (s.heap.objs.size+1) s.heap.objs.size (I.hok.fresh (Nat.le_succ _)) (I.hok.fresh (Nat.le_refl _)) (Nat.ne_of_lt (Nat.lt_succ_self _))
 have I2:=Inv.made (C:=C) I
 have r2:Vals (V.ref (s.heap.objs.size+1) :: (vs++dvs)) (Value.ref (s.heap.objs.size+1) :: (us++ds)):=.cons rfl (r.append hd)
 have hl:(Value.ref (s.heap.objs.size+1) :: us++ds).length=ps.length:=by
  have e:=r2.length
  rw [F.len _ _ _ _ hq] at e
  exact e.symm
 refine wpAny_call (make_map (f:=f) I.kIn M.makes M.init (beq_iff_eq.mp M.fn) (codeAny_mono (F.run _ X.stack _ _ ⟨Value.ref (s.heap.objs.size+1) :: us,[]⟩ (Value.ref (s.heap.objs.size+1) :: (us++ds)) _ _ E (hr.make C us [])
  (I2.env0.make C us []) (hb _ (Value.ref (s.heap.objs.size+1) :: us) I2.kIn hl) r2 hq) fun r s' hq'=>?_))
 cases r with
 | error e=>exact hx pins σ _ _ e s' I2 hq'
 | ok fl =>
  cases fl with
  | ret u =>
   obtain ⟨v,H',I3,rv,ev,q3⟩:=I2.after hq'
   subst ev
   exact ⟨rv,⟨V.ref (s.heap.objs.size+1),H',I3,rfl,q3⟩⟩
  | next=>exact False.elim hq'
  | brk=>exact False.elim hq'
  | cont=>exact False.elim hq'
theorem pe_make (M:Mk X.K C f) (F:FnOk X.prog X.w X.K X.mg X.base CX k f fd ps sp) (hr:Room (k+1) X.A) (hg:Gl X x) (hm:X.mg x=some (.ref C)) (hb:Binds X.K fd ps ds) (hd:Vals dvs ds) (hx:Passes CX X E)
  (ha:PA X (e :: es) t) (hdb:(x == ("__debug__":Str))=false:=by decide) (he:starEach (e :: es) X.env=(false,eval e X.env) :: starEach es X.env:=by rfl) (hpl:(backTo pos (starEach es X.env)).any (·.1)=false:=by rfl) :
  PE X (.Call (.Name x p) (e :: es) [] pos) (tMake C sp dvs E t):=by
 intro pins s σ H Q I h
 refine wpAny_Call_Name_kw (Zek I hg hm ?_ hdb)
 refine PySem.W.callWith_K (h₀:=X.base) I.ok.mod.kin M.kp (thn (ha pos pins s σ H _ I h) fun us s1 ⟨vs,H1,I1,r,q⟩=>⟨I1.kIn,?_⟩) he hpl
 exact run_make M F hr hb hd hx I1 r q
end
section
variable {X:Cx} {CX:CXT} {k:Nat} {f C:Addr} {fd:FuncData} {ps ks:List Str} {sp:Sp} {E:XK} {x m:Str} {p pos apos kpos:Pos} {e o:Expr} {es:List Expr} {kws:List Keyword} {te ta:TE} {t tk:TA} {nm:Option Str}
variable {g:List Value→List Value→List Value} {gV:List V→List V→List V}
end
structure Zap (N P:List Str) (sc:Scope):Prop where
 kind:sc.kind=.function
 co:sc.isCoroutine=false
 gen:sc.isGenerator=false
 nd:N.Nodup
 pre:N.take P.length=P
 par:∀ x∈P,sc.names.lookup x=some .local∨sc.names.lookup x=some .cell
 nofree:∀ y∈sc.names,y.2≠.free
theorem Zjm {kindOf:Str→Option NameKind} {x:Str}:∀ {binds:List (Str × Value)} {m:Str→Option Value},(∀ v,(x,v) ∉ binds)→bindL kindOf binds m x=m x
 | [],_,_=>rfl
 | (n,v) :: r,m,h=>by
  unfold bindL
  rw [Zjm fun w hw=>h w (List.mem_cons_of_mem _ hw)]
  split
  ·have:x≠n:=by rintro rfl; exact h v List.mem_cons_self
   simp [this]
  ·rfl
theorem Zjo {kindOf:Str→Option NameKind} {x:Str}:∀ {binds:List (Str × Value)} {m:Str→Option Value},(∀ v,(x,v) ∉ binds)→bindC kindOf binds m x=m x
 | [],_,_=>rfl
 | (n,v) :: r,m,h=>by
  unfold bindC
  rw [Zjo fun w hw=>h w (List.mem_cons_of_mem _ hw)]
  split
  ·rfl
  ·have:x≠n:=by rintro rfl; exact h v List.mem_cons_self
   simp [this]
theorem Zjn {kindOf:Str→Option NameKind} {x:Str} {v:Value}:∀ {P:List Str} {vs:List Value} {i:Nat} {m:Str→Option Value},P.Nodup→P[i]?=some x→vs[i]?=some v→kindOf x=some .local →
  bindL kindOf (P.zip vs) m x=some v
 | [],_,_,_,_,h,_,_=>by simp at h
 | _ :: _,[],_,_,_,_,h,_=>by simp at h
 | p :: P,w :: vs,0,m,nd,h1,h2,hk=>by
  simp at h1 h2; subst h1; subst h2
  show bindL kindOf ((p,w) :: P.zip vs) m p=_
  unfold bindL
  rw [Zjm fun v hv=>(List.nodup_cons.mp nd).1 (List.of_mem_zip hv).1,if_pos hk]
  simp
 | p :: P,w :: vs,i+1,m,nd,h1,h2,hk=>by
  show bindL kindOf ((p,w) :: P.zip vs) m x=_
  unfold bindL
  exact Zjn (i:=i) (List.nodup_cons.mp nd).2 (by simpa using h1) (by simpa using h2) hk
theorem Zjp {kindOf:Str→Option NameKind} {x:Str} {v:Value}:∀ {P:List Str} {vs:List Value} {i:Nat} {m:Str→Option Value},P.Nodup→P[i]?=some x→vs[i]?=some v→kindOf x≠some .local →
  bindC kindOf (P.zip vs) m x=some v
 | [],_,_,_,_,h,_,_=>by simp at h
 | _ :: _,[],_,_,_,_,h,_=>by simp at h
 | p :: P,w :: vs,0,m,nd,h1,h2,hk=>by
  simp at h1 h2; subst h1; subst h2
  show bindC kindOf ((p,w) :: P.zip vs) m p=_
  unfold bindC
  rw [Zjo fun v hv=>(List.nodup_cons.mp nd).1 (List.of_mem_zip hv).1,if_neg hk]
  simp
 | p :: P,w :: vs,i+1,m,nd,h1,h2,hk=>by
  show bindC kindOf ((p,w) :: P.zip vs) m x=_
  unfold bindC
  exact Zjp (i:=i) (List.nodup_cons.mp nd).2 (by simpa using h1) (by simpa using h2) hk
def start (N:List Str) (vs:List V):St:=vs.map some++List.replicate (N.length - vs.length) none
def cxOf (CX:CXT) (P:Program) (w:World) (K:PySem.W.Frag) (mg:Str→Option Value) (base:Heap) (N:List Str) (qual:Str) (scope:Scope) (f:Addr) (cd:Value) (A:Around) (outer:List Env) (s:Shared) (H:Hp) (E:XK):Cx where
 prog:=P
 w:=w
 K:=K
 mg:=mg
 base:=base
 A:=A.deeper (envOfC qual scope s.heap.objs.size f cd)
 N:=N
 s₀:=s
 H₀:=H
 env:=envOfC qual scope s.heap.objs.size f cd
 outer:=outer
 stack:=envOfC qual scope s.heap.objs.size f cd :: outer
 ex:=[]
 calm:=true
 fn:=fun _=>true
 pn:=[]
 xe:=fun e s'=>wpAny (model P w) (A.deeper (envOfC qual scope s.heap.objs.size f cd)) (leaving (envOfC qual scope s.heap.objs.size f cd) e) (fun _ s''=>CX outer H s E e s'') (fun e' s''=>CX outer H s E e' s'') s'
theorem cell_has {sc:Scope} {n:Nat} {x:Str} (h:sc.names.lookup x=some .cell):∃ c,(cellsFrom n sc.names []).lookup x=some c:=by
 have q:=PySem.W.cellsFrom_some sc.names n [] (.inl h)
 exact Option.isSome_iff_exists.mp q
theorem inv_start {CX:CXT} {P:Program} {w:World} {K:PySem.W.Frag} {mg:Str→Option Value} {base:Heap} {N ps:List Str} {qual:Str} {scope:Scope} {f:Addr} {cd:Value} {A:Around} {outer:List Env} {s s1:Shared} {H:Hp} {E:XK} {us:List Value} {vs:List V}
  (S:Zap N ps scope) (hd:A.handled=none) (e0:Env0 P w K mg base A outer s H) (hl:vs.length=ps.length) (r:Vals vs us)
  (x:InCallC s s.heap.objs.size (bindL (envOfC qual scope s.heap.objs.size f cd).kindOf (ps.zip us) fun _=>none) (cellsFrom (s.heap.objs.size+1) scope.names []) (bindC (envOfC qual scope s.heap.objs.size f cd).kindOf (ps.zip us) fun _=>none) s1) :
  Inv (cxOf CX P w K mg base N qual scope f cd A outer s H E) [] (start N vs) H s1:=by
 have hpl:ps.length≤N.length:=by have:=congrArg List.length S.pre; rw [List.length_take] at this; omega
 obtain ⟨h1,tk,rfl,hk⟩:=x.done
 have noA:∀ b:Addr,b ∉ (cxOf CX P w K mg base N qual scope f cd A outer s H E).ex:=fun b z=>absurd (show b∈([]:List Addr) from z) (by simp)
 refine ⟨⟨e0.mod,S.kind,rfl,rfl,Nat.le_refl _,fun y z c h1 h2=>?_,fun y hy=>?_,fun y c _ h=>?_,fun _=>hd,Around.frames_deeper e0.frames,.inr ⟨rfl,rfl⟩,fun b z=>absurd z (noA b),e0.bs,e0.bsz,fun b _ _=>noA b,fun b z=>absurd z (noA b),e0.funs,e0.frf⟩,
  rfl,e0.bare,Un.kept hk,⟨_,x.toInCall.ns,fun i y v h1 h2 h3=>?_⟩,fun y c h=>⟨_,x.cell y c h⟩,e0.hok.fresh (Nat.le_refl _),fun y c h=>?_,fun p hp=>absurd (show p∈([]:List (Addr × Obj)) from hp) (by simp),e0.hok.kept hk,?_⟩
 ·exact name_of_addr x.apart (PySem.mem_of_lookup h1) (PySem.mem_of_lookup h2)
 ·have hy:scope.names.lookup y=some .cell∨scope.names.lookup y=some .free:=hy
  rcases hy with hy | hy
  ·exact cell_has hy
  ·exact absurd rfl (S.nofree _ (PySem.mem_of_lookup hy))
 ·exact Nat.le_of_lt (x.above y c (PySem.mem_of_lookup h))
 ·have hi:i < vs.length:=by
   unfold start at h2
   by_cases hi:i < vs.length
   ·exact hi
   ·rw [List.getElem?_append_right (by simpa using hi)] at h2
    rw [List.getElem?_replicate] at h2
    split at h2 <;> cases h2
  have ha:vs[i]?=some v:=by
   unfold start at h2
   rw [List.getElem?_append_left (by simpa using hi),List.getElem?_map] at h2
   cases e:vs[i]? with
   | none=>rw [e] at h2; cases h2
   | some a=>rw [e] at h2; cases h2; rfl
  obtain ⟨u,hu,rv⟩:=r.get ha
  have hp:ps[i]?=some y:=by
   rw [← S.pre,List.getElem?_take_of_lt (by omega)]; exact h1
  have ndP:ps.Nodup:=by rw [← S.pre]; exact S.nd.sublist (List.take_sublist _ _)
  refine ⟨u,rv,?_⟩
  rcases S.par y (List.mem_of_getElem? hp) with k | k
  ·exact .inl ⟨k,Zjn ndP hp hu k⟩
  ·obtain ⟨c,e⟩:=cell_has (n:=s.heap.objs.size+1) k
   refine .inr ⟨.inl k,c,e,?_⟩
   have q:=x.cell y c e
   rw [Zjp ndP hp hu (by show scope.names.lookup y≠_; rw [k]; decide)] at q
   exact q
 ·exact e0.hok.fresh (Nat.le_of_lt (x.above y c (PySem.mem_of_lookup h)))
 ·unfold start
  show _=N.length
  rw [List.length_append,List.length_map,List.length_replicate]
  omega
theorem fn_of {CX:CXT} {P:Program} {w:World} {K:PySem.W.Frag} {mg:Str→Option Value} {base:Heap} {k:Nat} {f:Addr} {name qual:Str} {params:Arguments} {body:List Stmt} {scope:Scope} {dV kV doc pm cdv ct oc:Value} {an od:Option Addr}
  {osl:Array (Option Value)} {N ps:List Str} {sp:Sp} (lk:K.lookup f=some ⟨oc,od,.func (PySem.W.fnOf name qual params body scope dV kV doc pm an cdv ct),osl⟩) (hcd:PySem.W.codeIn K cdv qual=true) (S:Zap N ps scope)
  (len:∀ vs H Q E,sp vs H Q E→vs.length=ps.length)
  (hbody:∀ (A:Around) (outer:List Env) (s:Shared) (H:Hp) (vs:List V) (Q:VK) (E:XK),Room k (A.deeper (envOfC qual scope s.heap.objs.size f cdv))→sp vs H Q E →
   ∃ t,PSs (cxOf CX P w K mg base N qual scope f cdv A outer s H E) body t∧t { nx:=fun _ H'=>Q .non H',rt:=Q } (start N vs) H) :
  FnOk P w K mg base CX (k+1) f (PySem.W.fnOf name qual params body scope dV kV doc pm an cdv ct) ps sp:=by
 refine ⟨len,fun A outer s H args us vs Q E hr e0 hb r hsp=>?_⟩
 have hl:=len _ _ _ _ hsp
 have KX:K.In s.heap:=e0.mod.kin.keeps fun b o e=>(e0.bs b o e).1
 have lim:s.heap.NoLimit:=e0.mod.nolimit.keeps fun b o e=>(e0.bs b o e).1
 have hkind:∀ y∈ps.zip us,scope.names.lookup y.1=some .local∨(scope.names.lookup y.1=some .cell∧((cellsFrom (s.heap.objs.size+1) scope.names []).lookup y.1).isSome=true):=fun ⟨n,v⟩ hy=>by
  rcases S.par n (List.of_mem_zip hy).1 with q | q
  ·exact .inl q
  ·exact .inr ⟨q,PySem.W.cellsFrom_some _ _ _ (.inl q)⟩
 refine codeAny_call_function hr.depth (KX _ _ lk) rfl S.co S.gen rfl (PySem.W.codeRec_of KX hcd) (hb _ _ _ _ ?_)
 refine wpAny_newFunctionEnv_cells S.kind hkind fun env he s1 x=>?_
 subst he
 refine ⟨lim.keeps x.toInCall.keep,codeAny_func ?_⟩
 obtain ⟨t,ht,hq⟩:=hbody A outer s H vs Q E (hr.deeper _) hsp
 have I:Inv (cxOf CX P w K mg base N qual scope f cdv A outer s H E) [] (start N vs) H s1:=inv_start S hr.hd e0 hl r x
 refine wpAny_mono (ht [] s1 (start N vs) H _ I hq) (fun fl s' hs=>?_) fun e s' hs=>hs
 have fin:∀ {σ':St} {H':Hp} {v:V} {u:Value},Inv (cxOf CX P w K mg base N qual scope f cdv A outer s H E) [] σ' H' s'→RelV v u→Q v H'→CE outer P w H s Q u s' :=
  fun {σ' H' v u} J rv q=>⟨v,H',J.os,J.bare,J.base,J.hok,rv,q⟩
 cases fl with
 | ret u =>
  obtain ⟨v,σ',H',J,rv,q⟩:=hs
  exact fin J rv q
 | next =>
  obtain ⟨σ',H',J,q⟩:=hs
  exact fin (v:=V.non) (u:=Value.none) J rfl q
 | brk =>
  obtain ⟨_,_,_,q⟩:=hs
  exact False.elim q
 | cont =>
  obtain ⟨_,_,_,q⟩:=hs
  exact False.elim q
end L2
namespace L2
open PySem PySem.Spec PyProof.Rows
section
variable {X:Cx} {x:Str} {p pos:Pos} {e:Expr} {es:List Expr} {t:TA} {id T:String} {r:List V→Hp→VK→Prop}
def tCB (r:List V→Hp→VK→Prop) (t:TA):TE:=fun σ H Q=>t σ H fun vs H1=>r vs H1 Q
theorem Zay (hc:CallR X (.builtin id) r) (hg:Gl X x) (hm:X.mg x=none) (hv:bootBuiltins x=some (.builtin id)) (ha:PA X (e :: es) t) (hn:x≠"__name__":=by decide) (hdb:(x == ("__debug__":Str))=false:=by decide)
  (he:starEach (e :: es) X.env=(false,eval e X.env) :: starEach es X.env:=by rfl) (hpl:(backTo pos (starEach es X.env)).any (·.1)=false:=by rfl):PE X (.Call (.Name x p) (e :: es) [] pos) (tCB r t):=by
 intro pins s σ H Q I h
 refine wpAny_Call_Name_kw (Zfq I hg hm hv ?_ hn hdb)
 exact PyProof.Rows.callWith_builtin1 (thn (ha pos pins s σ H _ I h) fun us s1 ⟨vs,H1,I1,r1,q1⟩=>hc pins s1 σ H1 vs us Q I1 r1 q1) he hpl
theorem Ziq (hc:CallR X (.type T) r) (hg:Gl X x) (hm:X.mg x=none) (hv:bootBuiltins x=some (.type T)) (ha:PA X (e :: es) t) (hn:x≠"__name__":=by decide) (hdb:(x == ("__debug__":Str))=false:=by decide)
  (he:starEach (e :: es) X.env=(false,eval e X.env) :: starEach es X.env:=by rfl) (hpl:(backTo pos (starEach es X.env)).any (·.1)=false:=by rfl):PE X (.Call (.Name x p) (e :: es) [] pos) (tCB r t):=by
 intro pins s σ H Q I h
 refine wpAny_Call_Name_kw (Zfq I hg hm hv ?_ hn hdb)
 exact PyProof.Rows.callWith_type1 (thn (ha pos pins s σ H _ I h) fun us s1 ⟨vs,H1,I1,r1,q1⟩=>hc pins s1 σ H1 vs us Q I1 r1 q1) he hpl
end
end L2
namespace HT
open PySem PyProof.Rows
def lexLt:List Int→List Int→Bool
 | [],[]=>false
 | [],_ :: _=>true
 | _ :: _,[]=>false
 | x :: xs,y :: ys=>if x=y then lexLt xs ys else decide (x < y)
theorem lexLt_cons (x y:Int) (xs ys:List Int):lexLt (x :: xs) (y :: ys)=if x=y then lexLt xs ys else decide (x < y):=rfl
theorem Zhr:lexLt [] []=false:=rfl
theorem Zgd (y:Int) (ys:List Int):lexLt [] (y :: ys)=true:=rfl
theorem Zge (x:Int) (xs:List Int):lexLt (x :: xs) []=false:=rfl
theorem eqAt_int (A:Around) (s:Shared) (a:Int) (t:Tok) (c:Int) (u:Tok):∃ e,SeqAt.EqAt A s (.int a t) (.int c u) e∧(e=true↔a=c) :=
 ⟨(a == c),SeqAt.EqAt.int_int a t c u,by simp⟩
theorem rcLt_int (A:Around) (s:Shared) (a:Int) (t:Tok) (c:Int) (u:Tok) (prog:Program) (w:World) (E:Value→Shared→Prop) (Q:Value→Shared→Prop) (h:Q (.bool (decide (a < c))) s) :
  wpAny (model prog w) A (richCompare .Lt (.int a t) (.int c u)) Q E s :=
 (PyProof.Rows.lt_int h:wpAny (model prog w) A (compareOp .Lt (.int a t) (.int c u)) Q E s)
section
open PySem.SeqAt
open PySem.AutoSeq1 (wpAny_loadPart')
open PySem.MeetsSeq PySem.MeetsSeq2 PySem.MeetsSeq3
theorem Zg6 (l b:Addr) (items items2:Array Value) (n n2:Nat) (dd dd2:Option Addr) (sl sl2:Array (Option Value)) (ns ms:List Int) (hi:IntsAre items.toList ns) (hj:IntsAre items2.toList ms) :
  Meets (Builtin.«tuple.__lt__» ⟨[.ref l,.ref b],[]⟩)
   (fun _ R s=>s.heap.get? l=some { cls:=.type "tuple",dict:=dd,data:=.seq items n,slots:=sl }∧s.heap.get? b=some { cls:=.type "tuple",dict:=dd2,data:=.seq items2 n2,slots:=sl2 } ∧
    R (.ok (.ret (.bool (lexLt ns ms)))) s) :=
 .of_wp fun prog w A R s h=>by
  obtain ⟨hp,g,d,tk,os⟩:=s; obtain ⟨hl,hb,h⟩:=h
  have f2:=AutoSeq1.sub_tuple_tuple
  have z1:items.size=ns.length:=by rw [← hi.length]; simp
  have z2:items2.size=ms.length:=by rw [← hj.length]; simp
  wp_walk using wpAny_loadPart' hl,wpAny_loadPart' hb,wpAny_forIn_list _ (fun rest b s'=>b.1=none∧s'=⟨hp,g,d,tk,os⟩∧∃ (vs ws:List Value) (ns' ms':List Int),rest=vs.zip ws ∧
   IntsAre vs ns'∧IntsAre ws ms'∧ns'.length+items2.size=ms'.length+items.size∧R (.ok (.ret (.bool (lexLt ns' ms')))) ⟨hp,g,d,tk,os⟩) _
  case turn =>
   rintro ⟨y,x⟩ rest b s' ⟨hb',rfl,vs,ws,ns',ms',hz,hvi,hwi,hlen,hR⟩
   cases hvi with
   | nil=>rw [List.zip_nil_left] at hz; cases hz
   | cons a t hvi' =>
    cases hwi with
    | nil=>rw [List.zip_nil_right] at hz; cases hz
    | cons c u hwi' =>
     rw [List.zip_cons_cons] at hz
     injection hz with hyx hrest
     injection hyx with hy hx
     subst hy hx
     rw [lexLt_cons] at hR
     simp only [List.length_cons] at hlen
     obtain ⟨e,he,hiff⟩:=eqAt_int A.in1 ⟨hp,g,d,tk,os⟩ a t c u
     refine wpAny_bind (he prog w _ _ ?_)
     cases e with
     | true =>
      rw [if_pos (hiff.mp rfl)] at hR
      wp_walk
      exact ⟨rfl,rfl,_,_,_,_,hrest,hvi',hwi',by omega,hR⟩
     | false =>
      rw [if_neg (fun q=>absurd (hiff.mpr q) Bool.false_ne_true)] at hR
      have hri:=rcLt_int A.in1 ⟨hp,g,d,tk,os⟩ a t c u prog w
      wp_walk using hri
      exact ⟨_,rfl,by simpa using hR⟩
  case fin =>
   rintro ⟨b1,b2⟩ s' ⟨hb',rfl,vs,ws,ns',ms',hz,hvi,hwi,hlen,hR⟩
   simp only at hb'
   subst hb'
   have hv:lexLt ns' ms'=decide (items.size < items2.size):=by
    cases hvi with
    | nil =>
     cases hwi with
     | nil =>
      simp only [List.length_nil] at hlen
      rw [Zhr]
      exact (decide_eq_false (by omega)).symm
     | cons c u hw =>
      simp only [List.length_nil,List.length_cons] at hlen
      rw [Zgd]
      exact (decide_eq_true (by omega)).symm
    | cons a t hv =>
     cases hwi with
     | nil =>
      simp only [List.length_nil,List.length_cons] at hlen
      rw [Zge]
      exact (decide_eq_false (by omega)).symm
     | cons c u hw =>
      rw [List.zip_cons_cons] at hz
      cases hz
   rw [hv] at hR
   wp_walk
   exact ⟨_,rfl,by simpa [Builtin.Tuple.tupleCompareSizes] using hR⟩
  case h =>
   exact ⟨rfl,rfl,items.toList,items2.toList,ns,ms,rfl,hi,hj,by omega,h⟩
end
section
variable {prog:Program} {w:World} {A:Around} {E:Value→Shared→Prop} {s:Shared}
theorem lt_tupInts {l b:Addr} {items items2:Array Value} {ns ms:List Int} {Q:Value→Shared→Prop} (hl:IsTup s.heap l items) (hb:IsTup s.heap b items2) (hi:IntsAre items.toList ns) (hj:IntsAre items2.toList ms)
  (hu:A.units < cLine) (h:Q (.bool (lexLt ns ms)) s):wpAny (model prog w) A (compareOp .Lt (.ref l) (.ref b)) Q E s:=by
 obtain ⟨⟨cls,dd,data,sl⟩,ho,hc,n,hd⟩:=id hl
 obtain ⟨⟨cls2,dd2,data2,sl2⟩,ho2,hc2,n2,hd2⟩:=id hb
 simp only at hc hd hc2 hd2
 subst hc hd hc2 hd2
 exact richCompare_meets_room (op:=.Lt) ⟨_,ho,rfl⟩ ⟨_,ho2,rfl⟩ PySem.F.slot_tuple_lt PySem.F.entry_tuple_lt (PySem.F.args_tuple_lt_2 _ _) (Zg6 l b items items2 n n2 dd dd2 sl sl2 ns ms hi hj)
  ⟨ho,ho2,show Value.bool (lexLt ns ms)≠Value.notImplemented∧Q (.bool (lexLt ns ms)) s from ⟨(fun x=>nomatch x),h⟩⟩ hu
theorem cat_tup {t b:Addr} {vs ws:List Value} {Q:Value→Shared→Prop} (ht:IsTup s.heap t vs.toArray) (hb:IsTup s.heap b ws.toArray) (hv:vs≠[])
  (h1:ws=[]→Q (.ref t) s) (h2:ws≠[]→Q (.ref s.heap.objs.size) { s with heap:=s.heap.push { cls:=.type "tuple",data:=.seq (vs++ws).toArray } })
  (hsz:vs.length+ws.length≤sizeLine):wpAny (model prog w) A (binaryOp .Add (.ref t) (.ref b)) Q E s:=by
 obtain ⟨⟨cls,dd,data,sl⟩,ho,hc,n,hd⟩:=id ht
 obtain ⟨⟨cls2,dd2,data2,sl2⟩,ho2,hc2,n2,hd2⟩:=id hb
 simp only at hc hd hc2 hd2
 subst hc hd hc2 hd2
 have e:vs.toArray++ws.toArray=(vs++ws).toArray:=by simp
 by_cases hw:ws=[]
 ·exact concat_meets ⟨_,ho,rfl⟩ ⟨_,ho2,rfl⟩ noFill_tuple_add seq_tuple_add PySem.F.slot_tuple_add PySem.F.entry_tuple_add (PySem.F.args_tuple_add_2 _ _)
   (tuple_addW1 t b vs.toArray ws.toArray n n2 dd dd2 sl sl2 (by simpa using hv) (by simp [hw])) ⟨ho,ho2,h1 hw⟩
 ·refine concat_meets ⟨_,ho,rfl⟩ ⟨_,ho2,rfl⟩ noFill_tuple_add seq_tuple_add PySem.F.slot_tuple_add PySem.F.entry_tuple_add (PySem.F.args_tuple_add_2 _ _)
   (tuple_addW2 t b vs.toArray ws.toArray n n2 dd dd2 sl sl2 (by simpa using hv) (by simpa using hw) (by rw [List.size_toArray,List.size_toArray]; exact hsz)) ⟨ho,ho2,?_⟩
  rw [e]
  exact h2 hw
def sIx (n d:Nat):Option Int→Nat
 | none=>d
 | some v=>if v < 0 then (v+(n:Int)).toNat else min v.toNat n
theorem sIx_nat (n d k:Nat):sIx n d (some (k:Int))=min k n:=by
 show (if (k:Int) < 0 then ((k:Int)+(n:Int)).toNat else min (k:Int).toNat n)=min k n
 rw [if_neg (by omega),Int.toNat_natCast]
theorem sIx_le (n d:Nat) (hd:d≤n) (o:Option Int):sIx n d o≤n:=by
 cases o with
 | none=>exact hd
 | some v =>
  show (if v < 0 then (v+(n:Int)).toNat else min v.toNat n)≤n
  by_cases hv:v < 0
  ·rw [if_pos hv]; omega
  ·rw [if_neg hv]; exact Nat.min_le_right _ _
theorem clip_eq (v:Int) (n d:Nat):(if v < 0 then max (v+(n:Int)) 0 else min v (n:Int))=((sIx n d (some v):Nat):Int):=by
 show (if v < 0 then max (v+(n:Int)) 0 else min v (n:Int))=(((if v < 0 then (v+(n:Int)).toNat else min v.toNat n):Nat):Int)
 by_cases hv:v < 0
 ·simp only [if_pos hv]; omega
 ·simp only [if_neg hv]; omega
theorem adjust_gen (lo hi:Option Int) (n:Nat):Builtin.Slice.sliceAdjust lo hi 1 (n:Int)=(((sIx n 0 lo:Nat):Int),((sIx n n hi:Nat):Int)):=by
 have h1:¬ ((1:Int) < 0):=by omega
 unfold Builtin.Slice.sliceAdjust
 simp only [h1,if_false]
 refine Prod.ext ?_ ?_
 ·cases lo with
  | none=>rfl
  | some v=>exact clip_eq v n 0
 ·cases hi with
  | none=>rfl
  | some v=>exact clip_eq v n n
theorem places_gen (i j:Nat):Builtin.Slice.slicePlaces (i:Int) (j:Int) 1=j - i:=by
 unfold Builtin.Slice.slicePlaces
 have h1:(1:Int) > 0:=by omega
 simp only [h1,if_true,Int.ediv_one]
 split <;> omega
theorem Zgi {v:Value} {o:Option Int} {Q:Option Int→Shared→Prop} (p:IsPart v o) (h:Q o s):wpAny (model prog w) A (Builtin.Slice.slicePartIndex v) Q E s:=by
 cases p with
 | none=>exact slicePart_none h
 | int i t=>exact slicePart_int h
theorem Zde {sl:Addr} {vl vu:Value} {lo hi:Option Int} {n:Nat} {Q:Int × Int × Nat→Shared→Prop} (hs:s.heap.IsSliceOf sl vl vu .none) (pl:IsPart vl lo) (pu:IsPart vu hi)
  (h:Q (((sIx n 0 lo:Nat):Int),1,sIx n n hi - sIx n 0 lo) s):wpAny (model prog w) A (Builtin.Slice.sliceApplied (.ref sl) (pure (n:Int))) Q E s:=by
 obtain ⟨os,hos,hcs,hds⟩:=id hs
 unfold Builtin.Slice.sliceApplied Builtin.Slice.sliceFields
 refine wpAny_bind (wpAny_bind (wpAny_field hos hds (x:=vl) rfl (wpAny_bind (wpAny_field hos hds (x:=vu) rfl (wpAny_bind (wpAny_field hos hds (x:=.none) rfl (wpAny_pure ?_)))))))
 refine wpAny_bind (slicePart_none ?_)
 show wpAny _ _ (if ((1:Int) == 0)=true then _ else _) _ _ s
 rw [if_neg (by decide)]
 refine wpAny_bind (Zgi pl (wpAny_bind (Zgi pu (wpAny_bind (wpAny_pure ?_)))))
 show wpAny _ _ (match Builtin.Slice.sliceAdjust lo hi 1 (n:Int) with | (lo,hi)=>pure (lo,(1:Int),Builtin.Slice.slicePlaces lo hi 1)) _ _ s
 rw [adjust_gen lo hi n]
 show wpAny _ _ (pure (((sIx n 0 lo:Nat):Int),(1:Int),Builtin.Slice.slicePlaces ((sIx n 0 lo:Nat):Int) ((sIx n n hi:Nat):Int) 1)) _ _ s
 rw [places_gen]
 exact wpAny_pure h
theorem pick_gen (xs:Array Value) (i k:Nat):((List.range k).filterMap fun (m:Nat)=>xs[((i:Int)+(m:Int) * 1).toNat]?).toArray=((xs.toList.drop i).take k).toArray:=by
 have e:(fun (m:Nat)=>xs[((i:Int)+(m:Int) * 1).toNat]?)=fun m=>xs[i+m]?:=by
  funext m
  have:((i:Int)+(m:Int) * 1).toNat=i+m:=by omega
  rw [this]
 rw [e]
 have:=pick_run xs i k
 rw [List.filterMap_map] at this
 have e2:((fun x=>xs[x]?)∘fun x=>i+x)=fun m=>xs[i+m]?:=rfl
 rw [e2] at this
 rw [this]
theorem getItem_tuple_cut {t sl:Addr} {items:Array Value} {vl vu:Value} {lo hi:Option Int} {Q:Value→Shared→Prop} (ht:IsTup s.heap t items) (hs:s.heap.IsSliceOf sl vl vu .none) (pl:IsPart vl lo) (pu:IsPart vu hi)
  (hw:¬ (sIx items.size 0 lo=0∧sIx items.size items.size hi=items.size))
  (h:Q (.ref s.heap.objs.size) { s with heap:=s.heap.push { cls:=.type "tuple",data:=.seq ((items.toList.drop (sIx items.size 0 lo)).take (sIx items.size items.size hi - sIx items.size 0 lo)).toArray } })
  (hsz:items.size≤sizeLine):wpAny (model prog w) A (getItem (.ref t) (.ref sl)) Q E s:=by
 have htake:sizeOk (.seq ((items.toList.drop (sIx items.size 0 lo)).take (sIx items.size items.size hi - sIx items.size 0 lo)).toArray):=by
  show ((items.toList.drop (sIx items.size 0 lo)).take (sIx items.size items.size hi - sIx items.size 0 lo)).toArray.size≤sizeLine
  rw [List.size_toArray,List.length_take,List.length_drop,Array.length_toList]
  omega
 have hj:sIx items.size items.size hi≤items.size:=sIx_le _ _ (Nat.le_refl _) hi
 obtain ⟨os,hos,hcs,hds⟩:=id hs
 have hTs:s.TypeIs (.ref sl) "slice":=⟨os,hos,hcs⟩
 unfold getItem
 try with_reducible refine wpAny_holding ?_
 first | refine wpAny_bind (wpAny_pure ?_) | skip
 refine wpAny_bind (wpAny_sequenceKey ht.typeIs (by decide) ?_)
 refine wpAny_bind (wpAny_callSpecial?_slot (name:=Str.ofString "__getitem__") ht.typeIs PyProof.Rows.slot_tuple_getitem
  (wpAny_call_entry PyProof.Rows.slot_tuple_getitem ht.typeIs entry_tuple_getitem ?_ (args_tuple_getitem _ _)))
 show wpAny _ _ (Builtin.Tuple.tupleItemsOf (.ref t) >>= _) _ _ s
 refine wpAny_bind (tupleItemsOf_ ht ?_)
 refine wpAny_bind (wpAny_typeOf hTs ?_)
 rw [if_pos (by decide)]
 refine wpAny_bind (Zde hs pl pu ?_)
 have hno:¬ ((((sIx items.size 0 lo:Nat):Int) == 0 && (1:Int) == 1 && (sIx items.size items.size hi - sIx items.size 0 lo) == items.size)=true):=by
  intro q
  rw [Bool.and_eq_true,Bool.and_eq_true] at q
  have q1:((sIx items.size 0 lo:Nat):Int)=0:=eq_of_beq q.1.1
  have q2:sIx items.size items.size hi - sIx items.size 0 lo=items.size:=eq_of_beq q.2
  exact hw ⟨by omega,by omega⟩
 show wpAny _ _ (if (((sIx items.size 0 lo:Nat):Int) == 0 && (1:Int) == 1 && (sIx items.size items.size hi - sIx items.size 0 lo) == items.size)=true then _ else _) _ _ s
 rw [if_neg hno,pick_gen]
 first
  | exact wpAny_bind (m:=Builtin.Tuple.tupleExact _) (wpAny_newObj_type (wpAny_pure ⟨_,rfl,wpAny_pure h⟩) htake)
  | exact wpAny_bind (m:=Builtin.Tuple.tupleExact _) (wpAny_newObj_type (wpAny_bind (wpAny_pure (wpAny_pure ⟨_,rfl,wpAny_pure h⟩))) htake)
  | exact wpAny_bind (wpAny_bind (m:=Builtin.Tuple.tupleExact _) (wpAny_newObj_type (wpAny_pure (wpAny_pure ⟨_,rfl,wpAny_pure h⟩)) htake))
  | exact wpAny_bind (wpAny_bind (m:=Builtin.Tuple.tupleExact _) (wpAny_newObj_type (wpAny_pure ⟨_,rfl,wpAny_pure h⟩) htake))
end
end HT
namespace L2
open PySem PySem.Spec PyProof.Rows
abbrev TO:=St→Hp→(Option Int→Hp→Prop)→Prop
def PO (X:Cx) (e:Option Expr) (t:TO):Prop :=
 ∀ (pins:List (Addr × Obj)) (s:Shared) (σ:St) (H:Hp) (Q:Option Int→Hp→Prop),Inv X pins σ H s→t σ H Q →
  wpAny (model X.prog X.w) X.A (evalPart e X.env) (fun u s'=>∃ o H',Inv X pins σ H' s'∧IsPart u o∧Q o H') X.xe s
def tNoPart:TO:=fun _ H Q=>Q none H
def tPart (t:TE):TO:=fun σ H Q=>t σ H fun x H1=>∃ i,x=.int i∧Q (some i) H1
theorem intsAre_of {ns:List Int}:∀ {us:List Value},Vals (ns.map V.int) us→IntsAre us ns:=by
 induction ns with
 | nil=>intro us r; rw [List.map_nil] at r; cases r; exact .nil
 | cons n ns ih =>
  intro us r
  rw [List.map_cons] at r
  cases r with
  | cons r1 r2 =>
   obtain ⟨t,e⟩:=r1
   subst e
   exact .cons n t (ih r2)
section
variable {X:Cx} {e:Expr} {te:TE} {lo hi:Option Expr} {tl th:TO} {pos p2:Pos}
theorem Zkb:PO X none tNoPart:=by
 intro pins s σ H Q I h
 rw [evalPart_none]
 exact wpAny_pure ⟨none,H,I,.none,h⟩
theorem Zdq (h:PE X e te):PO X (some e) (tPart te):=by
 intro pins s σ H Q I hw
 rw [evalPart_some]
 refine thn (h pins s σ H _ I hw) fun u s1 ⟨x,H1,I1,r1,q1⟩=>?_
 obtain ⟨i,rfl,q⟩:=q1
 obtain ⟨t,rfl⟩:=r1
 exact ⟨some i,H1,I1,.int i t,q⟩
def SlR (X:Cx) (r:V→Option Int→Option Int→Hp→VK→Prop):Prop :=
 ∀ (pins:List (Addr × Obj)) (s:Shared) (σ:St) (H:Hp) (x:V) (v vl vu:Value) (lo hi:Option Int) (sl:Addr) (Q:VK),Inv X pins σ H s→RelV x v→s.heap.IsSliceOf sl vl vu .none→IsPart vl lo→IsPart vu hi→r x lo hi H Q →
  ∃ T id,typeLookup (.type T) "__getitem__"=pure (some (.builtin id))∧s.TypeIs v T∧wpAny (model X.prog X.w) X.A (getItem v (.ref sl)) (EP X pins σ Q) X.xe s
def tSl (r:V→Option Int→Option Int→Hp→VK→Prop) (te:TE) (tl th:TO):TE:=fun σ H Q=>te σ H fun x H1=>tl σ H1 fun l H2=>th σ H2 fun u H3=>r x l u H3 Q
theorem Zdx {r:V→Option Int→Option Int→Hp→VK→Prop} (hr:SlR X r) (he:PE X e te) (hl:PO X lo tl) (hu:PO X hi th):PE X (.Subscript e (.Slice lo hi none p2) pos) (tSl r te tl th):=by
 intro pins s σ H Q I h
 refine Subscript_ (thn (he pins s σ H _ I h) fun v s1 ⟨x,H1,I1,r1,q1⟩=>?_)
 refine wpAny_Slice (thn (hl pins s1 σ H1 _ I1 q1) fun vl s2 ⟨l,H2,I2,pl,q2⟩=>thn (hu pins s2 σ H2 _ I2 q2) fun vu s3 ⟨u,H3,I3,pu,q3⟩=>?_)
 rw [evalPart_none]
 refine wpAny_pure ?_
 have I4:Inv X pins σ H3 { s3 with heap:=s3.heap.push { cls:=.type "slice",data:=.fields #[vl,vu,.none] } }:=I3.kept (t':=s3.toks) fun b ob q=>Heap.get?_push_of_some _ q
 obtain ⟨T,id,hT,ht,hg⟩:=hr pins { s3 with heap:=s3.heap.push { cls:=.type "slice",data:=.fields #[vl,vu,.none] } } σ H3 x v vl vu l u s3.heap.objs.size Q I4 r1 (Heap.IsSliceOf.new ..) pl pu q3
 show wpAny (model X.prog X.w) X.A (subscriptTail e (.Slice lo hi none p2) v (.ref s3.heap.objs.size)) (EP X pins σ Q) X.xe { s3 with heap:=s3.heap.push { cls:=.type "slice",data:=.fields #[vl,vu,.none] } }
 exact tail_any (ops:=[.ref s3.heap.objs.size,v]) ht hT hg (by with_unfolding_all rfl)
def cutV (xs:List V) (lo hi:Option Int):List V:=(xs.drop (HT.sIx xs.length 0 lo)).take (HT.sIx xs.length xs.length hi - HT.sIx xs.length 0 lo)
theorem Zf0 (xs:List V) (lo hi:Option Int):(cutV xs lo hi).length≤xs.length:=by
 unfold cutV
 rw [List.length_take,List.length_drop]
 omega
def rSlT (K:PySem.W.Frag):V→Option Int→Option Int→Hp→VK→Prop:=fun x lo hi H Q=>∃ a xs,x=.ref a∧SqT K H a xs ∧
 ¬ (HT.sIx xs.length 0 lo=0∧HT.sIx xs.length xs.length hi=xs.length)∧∀ p,H p=none→Q (.ref p) (upd H p (.tup (cutV xs lo hi)))
theorem sl_tup:SlR X (rSlT X.K):=by
 intro pins s σ H x v vl vu lo hi sl Q I rx hs pl pu h
 obtain ⟨a,xs,rfl,hx,hw,q⟩:=h
 cases rx
 obtain ⟨its,r,ht,hz⟩:=I.tuple hx
 have hlen:its.toArray.size=xs.length:=by rw [List.size_toArray]; exact r.length.symm
 refine ⟨"tuple",_,PyProof.Rows.slot_tuple_getitem.lookup,ht.typeIs,?_⟩
 refine HT.getItem_tuple_cut ht hs pl pu (by rw [hlen]; exact hw) ?_ (by rw [hlen]; exact hz)
 rw [hlen]
 refine ⟨.ref s.heap.objs.size,_,I.laid (t':=s.toks) (o:=.tup (cutV xs lo hi)) (fun b ob q=>Heap.get?_push_of_some _ q) (Nat.le_refl _) ?_,rfl,q _ (I.hok.fresh (Nat.le_refl _))⟩
 exact ⟨Nat.le_trans (Zf0 xs lo hi) hz,_,(r.drop (HT.sIx xs.length 0 lo)).take (HT.sIx xs.length xs.length hi - HT.sIx xs.length 0 lo),IsTup.new _ _⟩
def rCatT (K:PySem.W.Frag):R2:=fun x y H Q=>∃ a b xs ys,x=.ref a∧y=.ref b∧SqT K H a xs∧SqT K H b ys∧xs≠[]∧xs.length+ys.length≤sizeLine ∧
 (ys=[]→Q (.ref a) H)∧(ys≠[]→∀ p,H p=none→Q (.ref p) (upd H p (.tup (xs++ys))))
theorem Vals.nil_iff {xs:List V} {us:List Value} (r:Vals xs us):us=[]↔xs=[]:=by
 cases r with
 | nil=>simp
 | cons _ _=>simp
theorem op_catT:OpR X (binaryOp .Add) (rCatT X.K):=by
 intro pins s σ H x y v u Q I rx ry h
 obtain ⟨a,b,xs,ys,rfl,rfl,ha,hb,hx,hz,q1,q2⟩:=h
 cases rx
 cases ry
 obtain ⟨its,r1,p1,_⟩:=I.tuple ha
 obtain ⟨its2,r2,p2,_⟩:=I.tuple hb
 refine HT.cat_tup p1 p2 (fun z=>hx (r1.nil_iff.mp z)) (fun z=>⟨.ref a,H,I,rfl,q1 (r2.nil_iff.mp z)⟩) (fun z=>?_) (by rw [← r1.length,← r2.length]; exact hz)
 refine ⟨.ref s.heap.objs.size,_,I.laid (t':=s.toks) (o:=.tup (xs++ys)) (fun b ob q=>Heap.get?_push_of_some _ q) (Nat.le_refl _) ?_,rfl,q2 (fun w=>z (r2.nil_iff.mpr w)) _ (I.hok.fresh (Nat.le_refl _))⟩
 exact ⟨by rw [List.length_append]; exact hz,_,r1.append r2,IsTup.new _ _⟩
end
end L2
namespace L2
open PySem PySem.Spec PyProof.Rows
def ixN (n:Nat) (i:Int):Option Nat:=if 0≤i then (if i < n then some i.toNat else none) else if -(n:Int)≤i then some (i+n).toNat else none
def atI {α:Type} (xs:List α) (i:Int):Option α:=(ixN xs.length i).bind fun j=>xs[j]?
theorem ixN_seq {n:Nat} {i:Int} {j:Nat} (h:ixN n i=some j):seqIndex? i n=some j∧j < n∧-(n:Int)≤i∧i < n:=by
 unfold ixN at h
 by_cases h0:0≤i
 ·rw [if_pos h0] at h
  by_cases h1:i < n
  ·rw [if_pos h1] at h
   have e:i.toNat=j:=Option.some.inj h
   exact ⟨by rw [seqIndex_of h0 h1,e],by omega,by omega,h1⟩
  ·rw [if_neg h1] at h; cases h
 ·rw [if_neg h0] at h
  by_cases h1:-(n:Int)≤i
  ·rw [if_pos h1] at h
   have e:(i+n).toNat=j:=Option.some.inj h
   exact ⟨by rw [seqIndex_neg (by omega) h1,e],by omega,h1,by omega⟩
  ·rw [if_neg h1] at h; cases h
theorem atI_get {α:Type} {xs:List α} {i:Int} {v:α} (h:atI xs i=some v):∃ j,seqIndex? i xs.length=some j∧xs[j]?=some v∧j < xs.length∧-(xs.length:Int)≤i∧i < xs.length:=by
 unfold atI at h
 cases e:ixN xs.length i with
 | none=>rw [e] at h; cases h
 | some j =>
  rw [e] at h
  obtain ⟨h1,h2,h3,h4⟩:=ixN_seq e
  exact ⟨j,h1,h,h2,h3,h4⟩
theorem Zib {α:Type} {xs:List α} {j:Nat} {v:α} (h:xs[j]?=some v):atI xs (j:Int)=some v:=by
 have hj:j < xs.length:=(List.getElem?_eq_some_iff.mp h).1
 have e:ixN xs.length (j:Int)=some j:=by
  unfold ixN
  rw [if_pos (by omega),if_pos (by omega)]; simp
 unfold atI; rw [e]; exact h
theorem atI_last {α:Type} (xs:List α) (v:α):atI (xs++[v]) (-1)=some v:=by
 have hl:(xs++[v]).length=xs.length+1:=by simp
 have e:ixN (xs++[v]).length (-1)=some xs.length:=by
  unfold ixN
  rw [hl,if_neg (by decide),if_pos (by omega)]
  congr 1
  omega
 unfold atI
 rw [e]
 show (xs++[v])[xs.length]?=some v
 simp
def PlainIx (b:Expr):Prop:=∀ o i,subscripted b false o i=operate [o,i] (getItem o i)
def IxR (X:Cx) (r:R2):Prop :=
 ∀ (value slice:Expr) (pins:List (Addr × Obj)) (s:Shared) (σ:St) (H:Hp) (x y:V) (v u:Value) (Q:VK),Inv X pins σ H s→RelV x v→RelV y u→r x y H Q →
  subscripted slice false v u=operate [v,u] (getItem v u)→wpAny (model X.prog X.w) X.A (subscriptTail value slice v u) (EP X pins σ Q) X.xe s
def MtR (X:Cx) (id:String) (r:V→List V→Hp→VK→Prop):Prop :=
 ∀ (pins:List (Addr × Obj)) (s:Shared) (σ:St) (H:Hp) (x:V) (xs:List V) (v:Value) (us:List Value) (Q:VK),Inv X pins σ H s→RelV x v→Vals xs us→r x xs H Q →
  wpAny (model X.prog X.w) X.A (call (.builtin id) (v :: us)) (EP X pins σ Q) X.xe s
section
variable {X:Cx} {a b:Expr} {ta tb:TE} {pos:Pos}
theorem Zav {r:R2} (hr:IxR X r) (ha:PE X a ta) (hb:PE X b tb) (hs:PlainIx b):PE X (.Subscript a b pos) (tOp r ta tb):=by
 intro pins s σ H Q I h
 exact Subscript_ (binT ha hb I h fun v u s2 x y H2 I2 rx ry q=>hr a b pins s2 σ H2 x y v u Q I2 rx ry q (hs _ _))
def rIxL (K:PySem.W.Frag):R2:=fun x y H Q=>∃ p xs i v,x=.ref p∧y=.int i∧SqL K H p xs∧atI xs i=some v∧Q v H
def rIxT (K:PySem.W.Frag):R2:=fun x y H Q=>∃ p xs i v,x=.ref p∧y=.int i∧SqT K H p xs∧atI xs i=some v∧Q v H
theorem Zcg:IxR X (rIxL X.K):=by
 intro value slice pins s σ H x y v u Q I rx ry h hs
 obtain ⟨p,xs,i,z,rfl,rfl,hq,he,q⟩:=h
 cases rx
 obtain ⟨t,rfl⟩:=ry
 obtain ⟨its,r,pl,hz⟩:=I.list hq
 obtain ⟨j,h1,h2,h3,h4,h5⟩:=atI_get he
 obtain ⟨w,ew,rw'⟩:=r.get h2
 have hl:=r.length
 have hn:=line63
 have fin:EP X pins σ Q w s:=⟨z,H,I,rw',q⟩
 by_cases h0:0≤i
 ·have hj:i.toNat=j:=by
   rw [seqIndex_of h0 h5] at h1
   exact Option.some.inj h1
  exact item_listR pl.isList h0 (by omega) (by rw [hj]; simpa using ew) fin hs
 ·have hj:(i+(its.toArray.size:Int)).toNat=j:=by
   rw [seqIndex_neg (by omega) h4] at h1
   rw [List.size_toArray,← hl]
   exact Option.some.inj h1
  exact subscriptTail_builtinR (x:=w) pl.isList.typeIs slot_list_getitem.lookup
   (wpAny_getItem_list_neg (Q:=fun r s'=>r=w∧EP X pins σ Q r s') pl.isList (by omega) (by rw [List.size_toArray] <;> omega) (by omega) (by rw [hj]; simpa using ew) ⟨rfl,fin⟩) hs
theorem Zar:IxR X (rIxT X.K):=by
 intro value slice pins s σ H x y v u Q I rx ry h hs
 obtain ⟨p,xs,i,z,rfl,rfl,hq,he,q⟩:=h
 cases rx
 obtain ⟨t,rfl⟩:=ry
 obtain ⟨its,r,pl,hz⟩:=I.tuple hq
 obtain ⟨j,h1,h2,h3,h4,h5⟩:=atI_get he
 obtain ⟨w,ew,rw'⟩:=r.get h2
 have hl:=r.length
 have hn:=line63
 have fin:EP X pins σ Q w s:=⟨z,H,I,rw',q⟩
 exact subscriptTail_builtinR (x:=w) pl.typeIs slot_tuple_getitem.lookup
  (getItem_tuple (j:=j) (Q:=fun r s'=>r=w∧EP X pins σ Q r s') pl (by omega) (by omega) (by rw [List.size_toArray,← hl]; exact h1) (by simpa using ew) ⟨rfl,fin⟩) hs
theorem Zim (lo hi:Option Int) (n:Nat):(sliceBounds lo hi none n).1=((HT.sIx n 0 lo:Nat):Int)∧(sliceBounds lo hi none n).2.1=((HT.sIx n n hi:Nat):Int)∧(sliceBounds lo hi none n).2.2=1:=by
 refine ⟨?_,?_,rfl⟩
 ·cases lo with
  | none=>simp [sliceBounds,HT.sIx]
  | some i =>
   simp only [sliceBounds,HT.sIx,Option.getD_none,show (1:Int) > 0 by decide,if_true]
   by_cases h:i < 0
   ·simp only [h,if_true] <;> omega
   ·simp only [h,if_false] <;> omega
 ·cases hi with
  | none=>simp [sliceBounds,HT.sIx]
  | some i =>
   simp only [sliceBounds,HT.sIx,Option.getD_none,show (1:Int) > 0 by decide,if_true]
   by_cases h:i < 0
   ·simp only [h,if_true] <;> omega
   ·simp only [h,if_false] <;> omega
theorem Zhd (its:List Value) (lo hi:Option Int):slicePick its.toArray lo hi none=((its.drop (HT.sIx its.length 0 lo)).take (HT.sIx its.length its.length hi - HT.sIx its.length 0 lo)).toArray:=by
 obtain ⟨h1,h2,h3⟩:=Zim lo hi its.toArray.size
 unfold slicePick
 rw [h1,h2,h3]
 simp only [sliceRange_one,pick_run,List.size_toArray] <;> rfl
def rSlL (K:PySem.W.Frag):V→Option Int→Option Int→Hp→VK→Prop:=fun x lo hi H Q=>∃ a xs,x=.ref a∧SqL K H a xs∧∀ p,H p=none→Q (.ref p) (upd H p (.lst (cutV xs lo hi)))
theorem sl_list:SlR X (rSlL X.K):=by
 intro pins s σ H x v vl vu lo hi sl Q I rx hs pl pu h
 obtain ⟨a,xs,rfl,hx,q⟩:=h
 cases rx
 obtain ⟨its,r,ht,hz⟩:=I.list hx
 have hlen:=r.length
 refine ⟨"list",_,slot_list_getitem.lookup,ht.isList.typeIs,?_⟩
 refine wpAny_getItem_list_slice ht.isList hs pl pu .none (by simp) ?_ (by rw [List.size_toArray] <;> omega)
 rw [Zhd,← hlen]
 refine ⟨.ref s.heap.objs.size,_,I.laid (t':=s.toks) (o:=.lst (cutV xs lo hi)) (fun b ob q=>Heap.get?_push_of_some _ q) (Nat.le_refl _) ?_,rfl,q _ (I.hok.fresh (Nat.le_refl _))⟩
 exact ⟨Nat.le_trans (Zf0 xs lo hi) hz,_,0,(r.drop (HT.sIx xs.length 0 lo)).take (HT.sIx xs.length xs.length hi - HT.sIx xs.length 0 lo),Heap.get?_push_size _ rfl⟩
def flatV:V→Bool
 | .non=>true
 | .bl _=>true
 | .int _=>true
 | .str _=>true
 | _=>false
def eqV:V→V→Bool
 | .non,.non=>true
 | .bl a,.bl b=>a == b
 | .bl a,.int b=>(if a then 1 else 0) == b
 | .int a,.bl b=>a == (if b then 1 else 0)
 | .int a,.int b=>a == b
 | .str a,.str b=>a == b
 | _,_=>false
theorem eqAt_V {A:Around} {s:Shared} {y x:V} {u v:Value} (ry:RelV y u) (rx:RelV x v) (fy:flatV y=true) (fx:flatV x=true):SeqAt.EqAt A s u v (eqV y x):=by
 cases y with
 | non =>
  cases ry
  cases x with
  | non=>cases rx; exact SeqAt.EqAt.same _
  | bl b=>cases rx; exact SeqAt.EqAt.none_bool b
  | int b=>obtain ⟨t,rfl⟩:=rx; exact SeqAt.EqAt.none_int b t
  | str b=>obtain ⟨t,rfl⟩:=rx; exact SeqAt.EqAt.none_str b t
  | _=>exact absurd (show false=true from fx) Bool.false_ne_true
 | bl a =>
  cases ry
  cases x with
  | non=>cases rx; exact SeqAt.EqAt.bool_none a
  | bl b=>cases rx; exact SeqAt.EqAt.bool_bool a b
  | int b=>obtain ⟨t,rfl⟩:=rx; exact SeqAt.EqAt.bool_int a b t
  | str b=>obtain ⟨t,rfl⟩:=rx; exact SeqAt.EqAt.bool_str a b t
  | _=>exact absurd (show false=true from fx) Bool.false_ne_true
 | int a =>
  obtain ⟨t',rfl⟩:=ry
  cases x with
  | non=>cases rx; exact SeqAt.EqAt.int_none a t'
  | bl b=>cases rx; exact SeqAt.EqAt.int_bool a t' b
  | int b=>obtain ⟨t,rfl⟩:=rx; exact SeqAt.EqAt.int_int a t' b t
  | str b=>obtain ⟨t,rfl⟩:=rx; exact SeqAt.EqAt.int_str a t' b t
  | _=>exact absurd (show false=true from fx) Bool.false_ne_true
 | str a =>
  obtain ⟨t',rfl⟩:=ry
  cases x with
  | non=>cases rx; exact SeqAt.EqAt.str_none a t'
  | bl b=>cases rx; exact SeqAt.EqAt.str_bool a t' b
  | int b=>obtain ⟨t,rfl⟩:=rx; exact SeqAt.EqAt.str_int a t' b t
  | str b=>obtain ⟨t,rfl⟩:=rx; exact SeqAt.EqAt.str_str a t' b t
  | _=>exact absurd (show false=true from fx) Bool.false_ne_true
 | _=>exact absurd (show false=true from fy) Bool.false_ne_true
def eqU (x:V) (u:Value):Bool:=match u with
 | .none=>eqV .non x
 | .bool b=>eqV (.bl b) x
 | .int i _=>eqV (.int i) x
 | .str z _=>eqV (.str z) x
 | _=>false
theorem eqU_of {x y:V} {u:Value} (r:RelV y u) (f:flatV y=true):eqU x u=eqV y x:=by
 cases y with
 | non=>cases r; rfl
 | bl b=>cases r; rfl
 | int i=>obtain ⟨t,rfl⟩:=r; rfl
 | str z=>obtain ⟨t,rfl⟩:=r; rfl
 | _=>exact absurd (show false=true from f) Bool.false_ne_true
theorem Zf2 {x:V}:∀ {xs:List V} {us:List Value},Vals xs us→xs.all flatV=true→us.any (eqU x)=xs.any fun y=>eqV y x
 | _,_,.nil,_=>rfl
 | y :: xs,u :: us,.cons r t,f=>by
  rw [List.all_cons,Bool.and_eq_true] at f
  rw [List.any_cons,List.any_cons,eqU_of r f.1,Zf2 t f.2]
theorem Zdz {A:Around} {s:Shared} {x:V} {v:Value} (rx:RelV x v) (fx:flatV x=true):∀ {xs:List V} {us:List Value},Vals xs us→xs.all flatV=true→∀ u∈us,SeqAt.EqAt A s u v (eqU x u)
 | _,_,.nil,_=>fun u hu=>by cases hu
 | y :: xs,u :: us,.cons r t,f=>fun u' hu=>by
  rw [List.all_cons,Bool.and_eq_true] at f
  rcases List.mem_cons.mp hu with rfl | hu
  ·rw [eqU_of r f.1]; exact eqAt_V r rx f.1 fx
  ·exact Zdz rx fx t f.2 u' hu
def inV (x:V) (xs:List V):Bool:=xs.any fun y=>eqV y x
def rIn (K:PySem.W.Frag) (neg:Bool):R2:=fun x y H Q=>∃ p xs,y=.ref p∧(SqL K H p xs∨SqT K H p xs)∧flatV x=true∧xs.all flatV=true∧Q (.bl (if neg then !inV x xs else inV x xs)) H
theorem Ziw:OpR X (compareOp .In) (rIn X.K false):=by
 intro pins s σ H x y v u Q I rx ry h
 obtain ⟨p,xs,rfl,hq,fx,fs,q⟩:=h
 cases ry
 rcases hq with hq | hq
 ·obtain ⟨its,r,pl,hz⟩:=I.list hq
  refine SeqAt.in_listAt (eqU x) pl.isList (fun w hw=>Zdz rx fx r fs w (by simpa using hw)) ⟨.bl _,H,I,rfl,?_⟩
  rw [show its.toArray.any (eqU x)=its.any (eqU x) by simp,Zf2 r fs]
  exact q
 ·obtain ⟨its,r,pl,hz⟩:=I.tuple hq
  refine SeqAt.in_tupleAt (eqU x) pl (fun w hw=>Zdz rx fx r fs w (by simpa using hw)) ⟨.bl _,H,I,rfl,?_⟩
  rw [show its.toArray.any (eqU x)=its.any (eqU x) by simp,Zf2 r fs]
  exact q
theorem Zis:OpR X (compareOp .NotIn) (rIn X.K true):=by
 intro pins s σ H x y v u Q I rx ry h
 obtain ⟨p,xs,rfl,hq,fx,fs,q⟩:=h
 cases ry
 rcases hq with hq | hq
 ·obtain ⟨its,r,pl,hz⟩:=I.list hq
  refine SeqAt.notIn_listAt (eqU x) pl.isList (fun w hw=>Zdz rx fx r fs w (by simpa using hw)) ⟨.bl _,H,I,rfl,?_⟩
  rw [show its.toArray.any (eqU x)=its.any (eqU x) by simp,Zf2 r fs]
  exact q
 ·obtain ⟨its,r,pl,hz⟩:=I.tuple hq
  refine SeqAt.notIn_tupleAt (eqU x) pl (fun w hw=>Zdz rx fx r fs w (by simpa using hw)) ⟨.bl _,H,I,rfl,?_⟩
  rw [show its.toArray.any (eqU x)=its.any (eqU x) by simp,Zf2 r fs]
  exact q
theorem Zc0:CallR X (.builtin "len") (fun xs H Q=>∃ p ys,xs=[.ref p]∧(SqL X.K H p ys∨SqT X.K H p ys)∧Q (.int ys.length) H):=by
 intro pins s σ H xs us Q I r h
 obtain ⟨p,ys,rfl,hq,q⟩:=h
 obtain ⟨u,rfl,rx⟩:=vals1 r
 cases rx
 have hn:=line63
 rcases hq with hq | hq
 ·obtain ⟨its,r',pl,hz⟩:=I.list hq
  have hlen:=r'.length
  exact Calls.call_len_list pl.isList (by simp only [List.size_toArray] <;> omega) ⟨.int ys.length,H,I.tok _,⟨s.toks+1,by rw [List.size_toArray,hlen]⟩,q⟩
 ·obtain ⟨its,r',pl,hz⟩:=I.tuple hq
  have hlen:=r'.length
  exact len_tuple pl (by simp only [List.size_toArray] <;> omega) ⟨.int ys.length,H,I.tok _,⟨s.toks+1,by rw [List.size_toArray,hlen]⟩,q⟩
def tyV (K:PySem.W.Frag) (T:String) (x:V) (H:Hp):Prop:=match x with
 | .str _=>T="str"
 | .int _=>T="int"
 | .ref p=>(T="list"∧∃ xs,SqL K H p xs)∨(T="tuple"∧∃ o,K.lookup p=some o∧o.cls=.type "tuple"∧o.dict=none) ∨
   (T="dict"∧((∃ kvs,H p=some (.dK kvs))∨∃ kvs,H p=some (.dT kvs)))∨(T="set"∧∃ S n,H p=some (.set S n))
 | _=>False
theorem tyV_is {pins:List (Addr × Obj)} {σ:St} {H:Hp} {s:Shared} {T:String} {x:V} {v:Value} (I:Inv X pins σ H s) (r:RelV x v) (ty:tyV X.K T x H) :
  s.TypeIs v T∧∀ a,v=.ref a→∃ ob,s.heap.get? a=some ob∧ob.dict=none:=by
 cases x with
 | str z =>
  obtain ⟨t,rfl⟩:=r
  cases (show T="str" from ty)
  exact ⟨typeIs_str s z t,fun _ e=>nomatch e⟩
 | int i =>
  obtain ⟨t,rfl⟩:=r
  cases (show T="int" from ty)
  exact ⟨typeIs_int s i t,fun _ e=>nomatch e⟩
 | ref p =>
  cases r
  rcases ty with ⟨rfl,xs,hq⟩ | ⟨rfl,o,hk,hc,hd⟩ | ⟨rfl,hk⟩ | ⟨rfl,S,n,hk⟩
  ·obtain ⟨its,_,pl,_⟩:=I.list hq
   refine ⟨pl.isList.typeIs,fun a e=>?_⟩
   cases e
   obtain ⟨o,n,e,c,hd,_⟩:=pl
   exact ⟨o,e,hd⟩
  ·refine ⟨⟨o,I.kIn p o hk,hc⟩,fun a e=>?_⟩
   cases e
   exact ⟨o,I.kIn _ o hk,hd⟩
  ·have z:∃ o,s.heap.get? p=some o∧o.ExactDict:=by
    rcases hk with ⟨kvs,hk⟩ | ⟨kvs,hk⟩
    ·obtain ⟨_,_,_,_,o,_,_,e,ex,_⟩:=I.hok p _ hk
     exact ⟨o,e,ex⟩
    ·obtain ⟨_,_,_,_,o,_,_,e,ex,_⟩:=I.hok p _ hk
     exact ⟨o,e,ex⟩
   obtain ⟨o,e,ex⟩:=z
   refine ⟨⟨o,e,ex.1⟩,fun a e2=>?_⟩
   cases e2
   exact ⟨o,e,ex.2.1⟩
  ·obtain ⟨o,_,_,_,e,ex,_⟩:=I.hok p _ hk
   refine ⟨⟨o,e,ex.1⟩,fun a e2=>?_⟩
   cases e2
   exact ⟨o,e,ex.2.1⟩
 | _=>exact False.elim ty
def tBM0 (K:PySem.W.Frag) (T:String) (r:V→List V→Hp→VK→Prop) (to:TE):TE:=fun σ H Q=>to σ H fun x H1=>tyV K T x H1∧r x [] H1 Q
def tBM (K:PySem.W.Frag) (T:String) (r:V→List V→Hp→VK→Prop) (to:TE) (t:TA):TE:=fun σ H Q=>to σ H fun x H1=>tyV K T x H1∧t σ H1 fun xs H2=>r x xs H2 Q
variable {o e:Expr} {es:List Expr} {to:TE} {t:TA} {name:Str} {apos cpos:Pos} {T id:String} {r:V→List V→Hp→VK→Prop}
theorem Zir (pa:PlainAttrs T) (slot:Slot T name id) (hty:typeOf (.builtin id)=pure (.type "method_descriptor")) (hm:MtR X id r) (ho:PE X o to)
  (hbase:attributeBase o name X.env (eval o X.env)=eval o X.env:=by rfl) (hline:(apos.endLine == cpos.line)=true:=by rfl):PE X (.Call (.Attribute o name apos) [] [] cpos) (tBM0 X.K T r to):=by
 intro pins s σ H Q I h
 refine wpAny_Call_method0_late hbase hline (thn (ho pins s σ H _ I h) fun v s1 ⟨x,H1,I1,r1,ty,q1⟩=>?_)
 obtain ⟨h1,h2⟩:=tyV_is I1 r1 ty
 exact ⟨T,id,pa,slot,hty,h1,h2,Calls.callWith_builtin rfl (PySem.evalArgs_none (hm pins s1 σ H1 x [] v [] Q I1 r1 .nil q1))⟩
theorem pe_bm (pa:PlainAttrs T) (slot:Slot T name id) (hty:typeOf (.builtin id)=pure (.type "method_descriptor")) (hm:MtR X id r) (ho:PE X o to) (ha:PA X (e :: es) t)
  (hbase:attributeBase o name X.env (eval o X.env)=eval o X.env:=by rfl)
  (hfew:((backTo cpos (starEach (e :: es) X.env)).all (fun x=>!x.1) && (backToKw cpos (keywordEach [] X.env)).all (fun x=>x.1.isSome)
   && decide ((e :: es).length+([]:List Keyword).length+(if ([]:List Keyword).isEmpty then 0 else 1) < 30))=true:=by rfl)
  (hline:(apos.endLine == cpos.line)=true:=by rfl) (hs:starEach (e :: es) X.env=(false,eval e X.env) :: starEach es X.env:=by rfl) (hplain:(backTo cpos (starEach es X.env)).any (·.1)=false:=by rfl) :
  PE X (.Call (.Attribute o name apos) (e :: es) [] cpos) (tBM X.K T r to t):=by
 intro pins s σ H Q I h
 refine wpAny_Call_method_late hbase hfew hline rfl (thn (ho pins s σ H _ I h) fun v s1 ⟨x,H1,I1,r1,ty,q1⟩=>?_)
 obtain ⟨h1,h2⟩:=tyV_is I1 r1 ty
 refine ⟨T,id,pa,slot,hty,h1,h2,?_⟩
 have hA:=ha cpos pins s1 σ H1 _ I1 q1
 rw [hs] at hA ⊢
 refine Calls.callWith_builtin (by show (false || (backTo cpos (starEach es X.env)).any (·.1))=false; rw [hplain] <;> rfl) (Calls.evalArgs_plain ?_)
 exact thn hA fun us s2 ⟨vs,H2,I2,r2,q2⟩=>hm pins s2 σ H2 x vs v us Q I2 r1 r2 q2
/- xs.append(e),list.index on a module's tuple .. are MtR facts of 06m -/
end
end L2
namespace L2
open PySem PySem.Spec PyProof.Rows
def MtM (X:Cx) (id:String) (r:V→List V→Hp→VK→Prop):Prop :=
 ∀ (pins:List (Addr × Obj)) (s:Shared) (σ:St) (H:Hp) (x:V) (xs:List V) (v:Value) (us:List Value) (Q:VK),Inv X pins σ H s→RelV x v→Vals xs us→r x xs H Q →
  wpAny (model X.prog X.w) X.A (call (.builtin id) (v :: us)) (EP X pins σ Q) X.xe s
theorem Vals.one:∀ {x:V} {us:List Value},Vals [x] us→∃ u,us=[u]∧RelV x u
 | _,_,.cons r .nil=>⟨_,rfl,r⟩
theorem Vals.zero:∀ {us:List Value},Vals [] us→us=[]
 | _,.nil=>rfl
theorem Vals.dropLast {xs:List V} {us:List Value} (h:Vals xs us):Vals xs.dropLast us.dropLast:=by
 induction h with
 | nil=>exact .nil
 | cons r t ih =>
  cases t with
  | nil=>exact .nil
  | cons q t'=>exact .cons r ih
theorem Vals.reverse {xs:List V} {us:List Value} (h:Vals xs us):Vals xs.reverse us.reverse:=by
 induction h with
 | nil=>exact .nil
 | cons r t ih=>rw [List.reverse_cons,List.reverse_cons]; exact Vals.append ih (.cons r .nil)
theorem erase_last {α:Type} (l:List α):l.eraseIdx (l.length - 1)=l.dropLast:=by
 induction l with
 | nil=>rfl
 | cons a r ih =>
  cases r with
  | nil=>rfl
  | cons b r =>
   have e:(a :: b :: r).length - 1=((b :: r).length - 1)+1:=by
    have h1:(a :: b :: r).length=r.length+2:=rfl
    have h2:(b :: r).length=r.length+1:=rfl
    omega
   rw [e,List.eraseIdx_cons_succ,ih]
   all_goals rfl
section
variable {X:Cx} {pins:List (Addr × Obj)} {σ:St} {H:Hp} {s:Shared} {l b:Addr} {xs ys zs:List V}
theorem Inv.lset {its its':List Value} {n:Nat} {f:Array Value→Array Value} {t':Nat} (I:Inv X pins σ H s) (hH:H l=some (.lst xs))
  (e:s.heap.get? l=some { cls:=.type "list",data:=.seq its.toArray n }) (hf:f its.toArray=its'.toArray) (hv:Vals ys its') (hz:ys.length≤sizeLine) :
  Inv X pins σ (upd H l (.lst ys)) { s with heap:=s.heap.update l (Obj.mapSeq f),toks:=t' }:=by
 have q:=PySem.IsL.update e f
 rw [hf] at q
 refine I.write (x:=l) (e:=l) (by rw [hH]; exact trivial) (.inl rfl) (fun b' u hb hu=>(Heap.get?_update_other s.heap (Obj.mapSeq f) (Ne.symm hb)).trans hu) ⟨_,q⟩ ?_
 exact ⟨hz,its',_,hv,q⟩
theorem Inv.lnew {its:List Value} {t':Nat} (I:Inv X pins σ H s) (hv:Vals ys its) (hz:ys.length≤sizeLine) :
  Inv X pins σ (upd H s.heap.objs.size (.lst ys)) { s with heap:=s.heap.push { cls:=.type "list",data:=.seq its.toArray },toks:=t' } :=
 I.laid (fun _ _ q=>Heap.get?_push_of_some _ q) (Nat.le_refl _) ⟨hz,its,0,hv,Heap.get?_push_size _ rfl⟩
theorem Inv.fresh (I:Inv X pins σ H s):H s.heap.objs.size=none:=I.hok.fresh (Nat.le_refl _)
theorem Inv.lstM (I:Inv X pins σ H s) (hH:H l=some (.lst xs)):xs.length≤sizeLine∧∃ (its:List Value) (n:Nat),Vals xs its∧xs.length=its.length∧s.heap.get? l=some { cls:=.type "list",data:=.seq its.toArray n }:=by
 obtain ⟨z,its,n,r,e⟩:=I.hok l _ hH
 exact ⟨z,its,n,r,r.length,e⟩
theorem notLongL {n:Nat} (h:n≤sizeLine):Builtin.List.listTooLong n=false:=by
 unfold Builtin.List.listTooLong
 exact decide_eq_false (by omega)
end
section
variable {X:Cx}
def rAppend:V→List V→Hp→VK→Prop:=fun x vs H Q=>∃ l xs y,x=.ref l∧vs=[y]∧H l=some (.lst xs)∧xs.length < sizeLine∧Q .non (upd H l (.lst (xs++[y])))
theorem Zcw:MtM X "list.append" rAppend:=by
 intro pins s σ H x vs v us Q I rx rv h
 obtain ⟨l,xs,y,rfl,rfl,hH,hz,q⟩:=h
 cases rx
 obtain ⟨u,rfl,ru⟩:=rv.one
 obtain ⟨z,its,n,r,hl,e⟩:=I.lstM hH
 refine call_meets F.slot_list_append ⟨_,e,rfl⟩ F.entry_list_append (F.args_list_append_2 _ _) (PySem.list_append l its.toArray n u (by rw [List.size_toArray]; omega)) ⟨e,?_⟩
 refine ⟨.non,_,I.lset (its':=its++[u]) hH e (by simp) (r.append (.cons ru .nil)) ?_,rfl,q⟩
 rw [List.length_append,List.length_singleton]
 omega
def rExtend:V→List V→Hp→VK→Prop:=fun x vs H Q=>∃ l b xs zs,x=.ref l∧vs=[.ref b]∧H l=some (.lst xs)∧H b=some (.lst zs)∧xs.length+zs.length≤sizeLine∧Q .non (upd H l (.lst (xs++zs)))
theorem mt_extend:MtM X "list.extend" rExtend:=by
 intro pins s σ H x vs v us Q I rx rv h
 obtain ⟨l,b,xs,zs,rfl,rfl,hH,hB,hz,q⟩:=h
 cases rx
 obtain ⟨u,rfl,ru⟩:=rv.one
 cases ru
 obtain ⟨z,its,n,r,hl,e⟩:=I.lstM hH
 obtain ⟨z2,its2,n2,r2,hl2,e2⟩:=I.lstM hB
 have hsz:its.toArray.size+its2.toArray.size≤sizeLine:=by rw [List.size_toArray,List.size_toArray]; omega
 have hlong:¬ (!its.toArray.isEmpty && Builtin.List.listTooLong (its.toArray.size+its2.toArray.size))=true:=by
  rw [notLongL hsz,Bool.and_false]
  exact Bool.false_ne_true
 refine call_meets F.slot_list_extend ⟨_,e,rfl⟩ F.entry_list_extend (F.args_list_extend_2 _ _)
  (AutoSeq1.list_extend_list_list_0 l its.toArray n b its2.toArray n2 hlong (by rw [List.size_toArray]; omega) (by omega)) ⟨e,e2,?_⟩
 refine ⟨.non,_,I.lset (its':=its++its2) hH e (by simp) (r.append r2) ?_,rfl,q⟩
 rw [List.length_append]
 omega
def rPop:V→List V→Hp→VK→Prop:=fun x vs H Q=>∃ l xs y,x=.ref l∧vs=[]∧H l=some (.lst xs)∧xs[xs.length - 1]?=some y∧Q y (upd H l (.lst xs.dropLast))
theorem Zi7:MtM X "list.pop" rPop:=by
 intro pins s σ H x vs v us Q I rx rv h
 obtain ⟨l,xs,y,rfl,rfl,hH,hy,q⟩:=h
 cases rx
 have hus:=rv.zero
 subst hus
 obtain ⟨z,its,n,r,hl,e⟩:=I.lstM hH
 obtain ⟨u,hu,ru⟩:=r.get hy
 have hy':its.toArray[its.toArray.size - 1]?=some u:=by
  show its.toArray[its.length - 1]?=some u
  rw [← Array.getElem?_toList,← hl]
  exact hu
 refine call_meets F.slot_list_pop ⟨_,e,rfl⟩ F.entry_list_pop (F.args_list_pop_1 _) (MeetsSeq.list_pop_last l its.toArray n u hy' (by rw [List.size_toArray]; omega)) ⟨e,?_⟩
 refine ⟨y,_,I.lset (its':=its.dropLast) hH e ?_ r.dropLast ?_,ru,q⟩
 ·show its.toArray.eraseIdxIfInBounds (its.toArray.size - 1)=its.dropLast.toArray
  rw [List.size_toArray,List.eraseIdxIfInBounds_toArray,erase_last]
 ·rw [List.length_dropLast]
  omega
def rCat:R2:=fun x y H Q=>∃ l b xs zs,x=.ref l∧y=.ref b∧H l=some (.lst xs)∧H b=some (.lst zs)∧xs.length+zs.length≤sizeLine∧∀ p,H p=none→Q (.ref p) (upd H p (.lst (xs++zs)))
theorem op_cat:OpR X (binaryOp .Add) rCat:=by
 intro pins s σ H x y v u Q I rx ry h
 obtain ⟨l,b,xs,zs,rfl,rfl,hH,hB,hz,q⟩:=h
 cases rx
 cases ry
 obtain ⟨z,its,n,r,hl,e⟩:=I.lstM hH
 obtain ⟨z2,its2,n2,r2,hl2,e2⟩:=I.lstM hB
 refine PySem.P.add_list e e2 ?_ (by rw [List.size_toArray,List.size_toArray]; omega)
 have ea:its.toArray++its2.toArray=(its++its2).toArray:=by simp
 rw [ea]
 exact ⟨.ref _,_,I.lnew (t':=s.toks) (r.append r2) (by rw [List.length_append]; omega),rfl,q _ I.fresh⟩
end
section
variable {prog:Program} {w:World} {A:Around} {E:Value→Shared→Prop} {s:Shared}
end
section
variable {X:Cx}
end
end L2
namespace Att
open PySem PySem.W PySem.Calls PyProof.Rows
theorem Zfs {P:Params} {h:Heap}:∀ (ns:List Int) (vs:List Value),WellAll P h vs (ns.map WData.int)→IntsAre vs ns:=by
 intro ns
 induction ns with
 | nil =>
  intro vs w
  rw [List.map_nil] at w
  cases w
  exact .nil
 | cons n ns ih =>
  intro vs w
  rw [List.map_cons] at w
  cases w with
  | cons a b =>
   cases a
   exact .cons _ _ (ih _ b)
theorem script_of {l:OpenLaw} {n:Nat} (hn:l.most=some n) {P:Params} {h:Heap} {args:List WData} {vals:List Value}
  (hpre:l.row.toRowW.claim.pre args=true) (hwl:WellAll P h vals args) :
  ∃ a vs ns,vals=[Value.ref a]∧args=[WData.list (ns.map WData.int)]∧h.get? a=some { cls:=.type "list",data:=.seq vs.toArray }∧IntsAre vs ns∧ns.length≤n:=by
 have hsh:WShape.hasAll [] args [.list .int]=true:=(pre_splitW hpre).1
 have hc:l.pre.holds [] { args:=args }=true:=(pre_splitW hpre).2
 obtain ⟨d,r,rfl,h1,h2⟩:=hasAllW_cons hsh
 obtain rfl:=hasAllW_nil h2
 obtain ⟨xs,rfl,h3⟩:=hasW_list h1
 obtain ⟨ns,rfl⟩:=items_int h3
 have hlen:ns.length≤n:=by
  unfold OpenLaw.pre at hc
  have h4:(WTm.not (.lt (.lit (.int (n:Int))) (.len (.arg 0)))).holds [] { args:=[.list (ns.map .int)] }=true:=by
   have h4:=(holds_andW hc).1
   rw [hn] at h4
   exact h4
  have h5:=condW_of h4 (w_not (w_lt w_lit (w_len_list (w_arg rfl))))
  rw [List.length_map] at h5
  refine Nat.le_of_not_lt fun q=>?_
  have q':(n:Int) < ((ns.length:Nat):Int):=by omega
  first
   | (rw [decide_eq_true q'] at h5; exact absurd h5 (by decide))
   | (simp at h5; omega)
 cases hwl with
 | cons w1 w2 =>
  cases w2
  cases w1 with
  | list ho hall=>exact ⟨_,_,ns,rfl,rfl,ho,Zfs ns _ hall,hlen⟩
theorem post_true (l:OpenLaw) (args:List WData):l.row.toRowW.claim.post args (.bool true) args=true :=
 postW_of (r:=l.row.toRowW) (X:=(true == true))
  (show WShape.has [] (.bool true) .bool=true by first | rfl | decide | simp [WShape.has,WShape.arms,WShape.armsAll])
  (show (WTm.eq .res (.lit (.bool true))).value [] { args:=args,res:=some (.bool true),after:=args }=some (.bool (true == true)) from w_eq_bool (w_res rfl) w_lit) rfl
theorem attach_call {l:OpenLaw} {n:Nat} {q:Program} {loose:List Str} {XP:(Str→Option Value)→Heap→Prop} {YP:World→Heap→Prop} {d:DefRec}
  (hn:l.most=some n) (hdf:d.params.defaults=[])
  (call:∀ (w:World) (s₀ s₁:Shared) (mg mb:Str→Option Value) (fa:Addr) (o:Obj) (pm cd doc:Value) (a:Addr) (vs:List Value) (ns:List Int),
   Ground q loose [] XP w s₀ mg mb s₁.heap→YP w s₁.heap →
   s₁.heap.get? fa=some o→o.data=.func (docDef d.name d.params d.body d.scope pm cd doc)→s₁.heap.CodeRec cd d.name→mg d.name=some (.ref fa) →
   s₁.heap.get? a=some { cls:=.type "list",data:=.seq vs.toArray }→IntsAre vs ns→ns.length≤n→s₁.gens=#[] →
   codeAny (model l.prog w) callerA (.call (.ref fa) ⟨[.ref a],[]⟩) (fun r s'=>r=.ok (.ret (.bool true))∧OldK s₁.heap s'.heap∧s'.os=s₁.os∧AllBare s'.gens) s₁) :
  WalkO q loose XP YP l.row.toRowW d [] (fun f vs=>PySem.call f vs):=by
 intro w s₀ s₁ mg mb G Y fa o pm cd doc dV kV ho hd hcd hD hmg hg args vals as hpre hlay hrd hwl hlo
 obtain rfl:dV=.none:=Dflts.none hD hdf
 obtain rfl:kV=.none:=Dflts.noKw hD
 obtain ⟨a,vs,ns,rfl,rfl,hobj,hints,hlen⟩:=script_of hn hpre hwl
 refine enter_call (codeAny_mono (call w s₀ s₁ mg mb fa o pm cd doc a vs ns G Y ho (fd_plain hd) hcd hmg hobj hints hlen hg) fun r s' hq=>?_)
 obtain ⟨rfl,h2,h3,h4⟩:=hq
 exact ⟨.inl ⟨.bool true,.bool true,[],rfl,fun _=>rfl,.bool true,post_true l _,fun _=>⟨List.Pairwise.nil,fun _ hm=>(nomatch hm)⟩⟩,h2,h3,h4⟩
section
variable {prog:Program} {w:World} {A:Around} {E:Value→Shared→Prop} {s:Shared} {K:Frag}
end
end Att
namespace L2
open PySem PySem.Spec PyProof.Rows
theorem Zij:∀ {vs:List Value} {ns:List Int},IntsAre vs ns→Vals (ns.map V.int) vs
 | _,_,.nil=>.nil
 | _,_,.cons n t h=>.cons ⟨t,rfl⟩ (Zij h)
def Only (H:Hp):Prop:=∀ b,H b=none∨∃ o xs,H b=some (.frz o (.lst xs))
theorem law_call {P:Program} {w:World} {K:PySem.W.Frag} {mg mb:Str→Option Value} {CX:CXT} {k:Nat} {fa a:Addr} {fd:FuncData} {x:Str} {sp:Sp} {s₁:Shared} {vs:List Value} {ns:List Int}
  (KX:K.In s₁.heap) (hns:s₁.heap.Ns mainGlobals mg) (hb:s₁.heap.Ns builtinsNs mb) (hbb:∀ x:Str,x≠"__name__"→mb x=bootBuiltins x) (hlim:s₁.heap.NoLimit) (hg:s₁.gens=#[])
  (ha:s₁.heap.get? a=some { cls:=.type "list",data:=.seq vs.toArray }) (hi:IntsAre vs ns) (hl:ns.length≤sizeLine) (hr:Room k callerA)
  (F:∀ base:Heap,K.In base→base.Ns mainGlobals mg→FnOk P w K mg base CX k fa fd [x] sp) (hbind:∀ (s:Shared) (u:Value),BindsTo s fd ⟨[u],[]⟩ [(x,u)])
  (hsp:∀ H:Hp,Only H→SqL K H a (ns.map V.int)→sp [.ref a] H (fun v _=>v=.bl true) fun _ _ _=>False)
  (hCX:∀ H e s',CX [] H s₁ (fun _ _ _=>False) e s'→False) :
  codeAny (model P w) callerA (.call (.ref fa) ⟨[.ref a],[]⟩) (fun r s'=>r=.ok (.ret (.bool true))∧OldK s₁.heap s'.heap∧s'.os=s₁.os∧AllBare s'.gens) s₁:=by
 have rv:=Zij hi
 have lenV:=hi.length
 have core:∀ H:Hp,Only H→SqL K H a (ns.map V.int)→HOk P w H s₁.heap→(∀ b,H b≠none→b=a)→(H a≠none→K.lookup a=none) →
   codeAny (model P w) callerA (.call (.ref fa) ⟨[.ref a],[]⟩) (fun r s'=>r=.ok (.ret (.bool true))∧OldK s₁.heap s'.heap∧s'.os=s₁.os∧AllBare s'.gens) s₁:=by
  intro H hO hS hok hA hK
  have base_of:∀ {b:Addr} {o:Obj},s₁.heap.get? b=some o→H b=none→(hidT s₁.heap H).get? b=some o:=fun e n=>hidT_get e n
  have noA:∀ {b:Addr} {o:Obj} {es:Array DictEntry} {ep:Nat},s₁.heap.get? b=some o→o.data=.dict es ep→H b=none:=fun {b o es ep} e d=>by
   cases q:H b with
   | none=>rfl
   | some u =>
    have e':b=a:=hA b (by rw [q]; simp)
    subst e'
    rw [ha] at e; cases e
    have d':Data.seq vs.toArray _=Data.dict es ep:=d
    cases d'
  have nsK:∀ {b:Addr} {m:Str→Option Value},s₁.heap.Ns b m→(hidT s₁.heap H).Ns b m:=fun {b m} ⟨o,es,ep,e,d,r⟩=>⟨o,es,ep,base_of e (noA e d),d,r⟩
  have hKb:K.In (hidT s₁.heap H):=fun b o e=>base_of (KX b o e) (by
   cases q:H b with
   | none=>rfl
   | some u =>
    have e':b=a:=hA b (by rw [q]; simp)
    subst e'
    rw [hK (by rw [q]; simp)] at e; cases e)
  have hM:Mod K mg (hidT s₁.heap H):=⟨hKb,nsK hns,⟨mb,nsK hb,hbb⟩,let ⟨mc,h1,h2⟩:=hlim; ⟨mc,nsK h1,h2⟩⟩
  have e0:Env0 P w K mg (hidT s₁.heap H) callerA [] s₁ H:=⟨rfl,hM,fun b o e=>of_hidT e,Nat.le_of_eq (hidT_size _ _),trivial,fun b hb=>absurd (show b∈([]:List Addr) from hb) (by simp),hok,.of_eq hg⟩
  refine codeAny_mono ((F _ hKb (nsK hns)).run callerA [] s₁ H ⟨[.ref a],[]⟩ [.ref a] [.ref a] _ _ hr e0 (hbind s₁ (.ref a)) (.cons rfl .nil) (hsp H hO hS)) fun r s' h=>?_
  cases r with
  | error e=>exact (hCX H e s' h).elim
  | ok fl =>
   cases fl with
   | next=>exact False.elim h
   | brk=>exact False.elim h
   | cont=>exact False.elim h
   | ret u =>
    obtain ⟨v,H',os,bare,un,hok',r',q⟩:=h
    have q':v=.bl true:=q
    subst q'
    obtain rfl:u=Value.bool true:=r'
    refine ⟨rfl,OldK.of_keep fun b o e=>?_,os,bare⟩
    cases q:H b with
    | none=>exact un.keep b o e q (by intro z; exact absurd (show b∈([]:List Addr) from z) (by simp)) (by simp)
    | some u =>
     rcases hO b with z | ⟨ob,xs,z⟩
     ·rw [q] at z; cases z
     ·have z2:=un.frzs b ob _ z
      obtain ⟨e1,_⟩:=hok b _ z
      obtain ⟨e2,_⟩:=hok' b _ z2
      rw [e] at e1; cases e1
      exact e2
 cases hk:K.lookup a with
 | some o =>
  have e:=KX a o hk
  rw [ha] at e
  cases e
  refine core (fun _=>none) (fun _=>.inl rfl) (.inr ⟨_,vs.toArray,_,hk,rfl,rfl,rfl,by rw [List.size_toArray,lenV]; exact hl,by simpa using rv⟩) (fun b u z=>by have z':(none:Option HO)=some u:=z; cases z') (fun b z=>absurd rfl z) fun z=>absurd rfl z
 | none =>
  refine core (fun b=>if b=a then some (.frz { cls:=.type "list",data:=.seq vs.toArray } (.lst (ns.map V.int))) else none) (fun b=>?_) (.inl (.inr ⟨{ cls:=.type "list",data:=.seq vs.toArray },if_pos rfl⟩)) (fun b u z=>?_) (fun b z=>?_) fun _=>hk
  ·by_cases hb:b=a
   ·exact .inr ⟨_,_,if_pos hb⟩
   ·exact .inl (if_neg hb)
  ·by_cases hb:b=a
   ·have z':=(if_pos hb).symm.trans z
    cases z'
    subst hb
    exact ⟨ha,by rw [List.length_map]; exact hl,vs,_,rv,ha⟩
   ·have z':=(if_neg hb).symm.trans z
    cases z'
  ·by_cases hb:b=a
   ·exact hb
   ·exact absurd (if_neg hb) z
end L2
namespace L2
open PySem PySem.Spec PyProof.Rows
abbrev KOf {K:PySem.W.Frag} {h:Heap} (_:K.In h):PySem.W.Frag:=K
theorem walk_of {l:PySem.W.OpenLaw} {n k:Nat} {q:Program} {loose:List Str} {XP:(Str→Option Value)→Heap→Prop} {YP:World→Heap→Prop} {d:DefRec} {K:Params→PySem.W.Frag} {CX:World→CXT} {sp:World→Sp} {x:Str}
  (hn:l.most=some n) (hn2:n≤sizeLine) (hdf:d.params.defaults=[]) (hr:Room k callerA)
  (hY:∀ (w:World) (h:Heap),YP w h→(K w.params).In h)
  (F:∀ (w:World) (mg:Str→Option Value) (fa:Addr) (h:Heap),(K w.params).In h→h.Ns mainGlobals mg→mg d.name=some (.ref fa) →
   ∃ fd:FuncData,(∀ (s:Shared) (u:Value),BindsTo s fd ⟨[u],[]⟩ [(x,u)]) ∧
    ∀ base:Heap,(K w.params).In base→base.Ns mainGlobals mg→FnOk l.prog w (K w.params) mg base (CX w) k fa fd [x] (sp w))
  (hsp:∀ (w:World) (H:Hp) (a:Addr) (ns:List Int),ns.length≤n→Only H→SqL (K w.params) H a (ns.map V.int)→sp w [.ref a] H (fun v _=>v=.bl true) fun _ _ _=>False)
  (hCX:∀ (w:World) (H:Hp) (s:Shared) (e:Value) (s':Shared),CX w [] H s (fun _ _ _=>False) e s'→False) :
  PySem.W.WalkO q loose XP YP l.row.toRowW d [] (fun f vs=>PySem.call f vs):=by
 refine Att.attach_call hn hdf fun w s₀ s₁ mg mb fa o pm cd doc a vs ns G Y ho hd hcd hmg hobj hints hlen hg=>?_
 have KX:=hY w _ Y
 obtain ⟨fd,hb,hF⟩:=F w mg fa _ KX G.T.g hmg
 exact law_call KX G.T.g G.T.b G.T.builtins G.T.nolimit hg hobj hints (Nat.le_trans hlen hn2) hr hF hb (fun H hO hS=>hsp w H a ns hlen hO hS) fun H e s'=>hCX w H s₁ e s'
end L2
/- THE LAST THEOREM (shape; LID,My.* are yours):
  My.Adr: a structure of the addresses that your layer names (classes,functions); My.Txt K t: a structure (Prop) of the equations over K;
  My.txt_mk:{K} {implicit addresses ..} (e1:nsIn K mainGlobals "law"=some (some (.ref f))) (e2:K.lookup f=some ⟨oc,od,.func (fnOf "law" "law" params body scope dV kV doc pm an cdv ct),sl⟩) (e3:codeIn K cdv "law"=true) ..:∃ t,My.Txt K t
set_option maxRecDepth 100000 in
set_option maxHeartbeats 0 in
theorem PySem.Challenge.cw_LID_holds:PySem.Challenge.rw_LID.Holds:=by
 w_on; o_law; k_head; (case hw=>w_witness2)
 k_fill
 refine L2.walk_of (l:=PySem.Challenge.rw_LID) (n:=63) (k:=40) (x:="script") (CX:=fun w=>..) (sp:=fun _=>My.sp_law) rfl (by decide) rfl ⟨rfl,by decide,by decide⟩ (fun w h Y=>PySem.W.kIn_of Y) ?F ?S ?C
 case F =>
  intro w mg fa h KX G hmg
  have T:∃ t,My.Txt (L2.KOf KX) t:=by
   dsimp only [L2.KOf]                          -- K must stand as «<heap const> w.params» for k_is
   refine' My.txt_mk ?e1 ?e2 ?e3 ..
   (case e1=>PySem.W.k_is)                    -- in the order: a name -> its address -> its object -> its parts
   (case e2=>PySem.W.k_is)
   ..
  obtain ⟨t,T⟩:=T
  have e0:=hmg.symm.trans (PySem.W.mg_of KX G T.law)
  cases e0                                       -- fa is the law's own address
  exact ⟨_,fun s u=>.of_eq rfl,fun base kb nb=>My.law_fn T kb nb⟩     -- if «.of_eq rfl» comes too early: refine' ⟨_,?b,fun base kb nb=>My.law_fn T kb nb⟩; exact fun s u=>.of_eq rfl
 case S=>exact fun w H a ns hl hO hS=>..
 case C=>exact ..
(the tactic k_is has no namespace: write k_is) -/
namespace L2
open PySem PySem.Spec PyProof.Rows
def Zbx (s:Stmt) (j:Nat):Stmt:=match s with
 | .ClassDef _ _ _ body _ _ _ _ _ _ _=>body.getD j (.Pass ⟨0,0,0,0⟩)
 | _=>.Pass ⟨0,0,0,0⟩
def Zao (s:Stmt):Arguments:=match s with
 | .FunctionDef _ a _ _ _ _ _ _ _ _=>a
 | _=>{ posonlyargs:=[],args:=[],vararg:=none,kwonlyargs:=[],kw_defaults:=[],kwarg:=none,defaults:=[] }
def Zaj (s:Stmt):List Stmt:=match s with
 | .FunctionDef _ _ b _ _ _ _ _ _ _=>b
 | _=>[]
def Zad (s:Stmt):Scope:=match s with
 | .FunctionDef _ _ _ _ _ _ sc _ _ _=>sc
 | _=>{ kind:=.function,names:=[],isGenerator:=false,isCoroutine:=false }
abbrev CX0:CXT:=fun _ _ _ _ _ _=>False
abbrev E0:XK:=fun _ _ _=>False
theorem pass0 {X:Cx}:Passes CX0 X E0:=fun _ _ _ _ _ _ _ h=>h.elim
structure Fun (K:PySem.W.Frag) (x qual:Str) (st:Stmt) (f:Addr) (fd:FuncData):Prop where
 ex:∃ (oc:Value) (od:Option Addr) (kV doc pm:Value) (an:Option Addr) (cdv ct:Value) (osl:Array (Option Value)),
  fd=PySem.W.fnOf x qual (Zao st) (Zaj st) (Zad st) .none kV doc pm an cdv ct∧K.lookup f=some ⟨oc,od,.func fd,osl⟩∧PySem.W.codeIn K cdv qual=true
 kp:PySem.W.keepIn K (.ref f)=true
section
variable {P:Program} {w:World} {K:PySem.W.Frag} {mg:Str→Option Value} {base:Heap}
theorem Fun.ok {x qual:Str} {st:Stmt} {f:Addr} {fd:FuncData} {N ps:List Str} {k:Nat} {sp:Sp} (F:Fun K x qual st f fd) (S:Zap N ps (Zad st)) (len:∀ vs H Q E,sp vs H Q E→vs.length=ps.length)
  (hbody:∀ (cdv:Value) (A:Around) (outer:List Env) (s:Shared) (H:Hp) (vs:List V) (Q:VK) (E:XK),Room k (A.deeper (envOfC qual (Zad st) s.heap.objs.size f cdv))→sp vs H Q E →
   ∃ t,PSs (cxOf CX0 P w K mg base N qual (Zad st) f cdv A outer s H E).nox (Zaj st) t∧t { nx:=fun _ H'=>Q .non H',rt:=Q } (start N vs) H):FnOk P w K mg base CX0 (k+1) f fd ps sp:=by
 obtain ⟨oc,od,kV,doc,pm,an,cdv,ct,osl,rfl,lk,hcd⟩:=F.ex
 refine fn_of lk hcd S len fun A outer s H vs Q E hr hsp=>?_
 obtain ⟨t,h,q⟩:=hbody cdv A outer s H vs Q E hr hsp
 exact ⟨t,h.nox,q⟩
theorem Fun.binds {x qual:Str} {st:Stmt} {f:Addr} {fd:FuncData} {ps:List Str} (F:Fun K x qual st f fd)
  (h:∀ (kV doc pm:Value) (an:Option Addr) (cdv ct:Value) (us:List Value),us.length=ps.length→bindArgs (PySem.W.fnOf x qual (Zao st) (Zaj st) (Zad st) .none kV doc pm an cdv ct) ⟨us,[]⟩=pure (ps.zip us)):Binds K fd ps []:=by
 obtain ⟨oc,od,kV,doc,pm,an,cdv,ct,osl,rfl,lk,hcd⟩:=F.ex
 exact .all (h kV doc pm an cdv ct)
theorem Za4 {x qual:Str} {st:Stmt} {f:Addr} {oc:Value} {od an:Option Addr} {osl:Array (Option Value)} {kV doc pm cdv ct:Value} (l:K.lookup f=some ⟨oc,od,.func (PySem.W.fnOf x qual (Zao st) (Zaj st) (Zad st) .none kV doc pm an cdv ct),osl⟩)
  (c:PySem.W.codeIn K cdv qual=true) (k:PySem.W.keepIn K (.ref f)=true):Fun K x qual st f (PySem.W.fnOf x qual (Zao st) (Zaj st) (Zad st) .none kV doc pm an cdv ct):=⟨⟨oc,od,kV,doc,pm,an,cdv,ct,osl,rfl,l,c⟩,k⟩
end
theorem hu_of {A:Around} {k:Nat} (hr:Room k A):A.units+1 < cLine:=Nat.lt_of_le_of_lt (Nat.add_le_add_left (by decide:1≤64) _) hr.units
theorem Za8 {n:Nat} (h:n≤1000):n < sizeLine:=Nat.lt_of_le_of_lt h (by decide)
section
variable {X:Cx}
theorem pv (i:Nat) {x:Str} {pos:Pos} (hN:X.N[i]?=some x:=by rfl) (hv:Vis X.env.scope x:=by first | exact Or.inl rfl | exact Or.inr (Or.inl rfl) | exact Or.inr (Or.inr rfl)) (hd:(x == ("__debug__":Str))=false:=by decide)
  (hcd:(x == ("__classdict__":Str))=false:=by decide):PE X (.Name x pos) (tVar i):=pe_var hN hv hd hcd
end
theorem iteF {A B:Prop} (h:B):if false=true then A else B:=by
 rw [if_neg Bool.false_ne_true]
 exact h
theorem iteT {A B:Prop} (h:A):if true=true then A else B:=by
 rw [if_pos rfl]
 exact h
def Same (H H':Hp):Prop:=∀ b o,H b=some o→H' b=some o
theorem Same.refl (H:Hp):Same H H:=fun _ _ h=>h
theorem Same.trans {H H1 H2:Hp} (a:Same H H1) (b:Same H1 H2):Same H H2:=fun c o h=>b c o (a c o h)
theorem Same.seq {K:PySem.W.Frag} {H H':Hp} {a:Addr} {xs:List V} (e:Same H H') (h:SqL K H a xs):SqL K H' a xs:=by
 rcases h with (h | ⟨o,h⟩) | h
 ·exact .inl (.inl (e _ _ h))
 ·exact .inl (.inr ⟨o,e _ _ h⟩)
 ·exact .inr h
end L2
set_option maxHeartbeats 4000000
namespace L2
open PySem PySem.W PyProof.Rows
def lookO {α β:Type} (oS:Program→List Str→List Str→(Shared→Bool)→Bool→Shared→α) (ms:List Str) (p q:Program) (lo:List Str) (Xt:Shared→Bool) (Yf:Shared→β) (h0:Heap) (s:Shared):Bool × α × β :=
 ((((staticsOk ms h0 s.heap && namesBound p s.heap) && gensDone s) && laidKept h0 s.heap),oS q lo ms Xt true s,Yf s)
noncomputable abbrev atBoot (P:Params) (os:OsState):Shared:=Shared.mk (boot_heap P) (Array.mk []) boot_drawn boot_toks os
theorem left_once {p q:Program} {lo:List Str} {Xt:Shared→Bool} {β:Type} {Yf:Shared→β} {Ya:World→β} {N m:Nat} {an:Option Value}
  (bo:∀ w:World,Option.map (fun s=>(s.heap,s.gens,s.drawn,s.toks)) (fencedOpening treeTable p w N)=some (boot_heap w.params,Array.mk [],boot_drawn,boot_toks))
  (sz:∀ w:World,((boot_heap w.params).isNs mainGlobals,(boot_heap w.params).objs.size,(boot_heap w.params).nsMap mainGlobals "__annotations__")=(true,m,an))
  (rn:∀ (w:World) (os:OsState),Option.map (lookO openSeen (importedModules p.main.body) p q lo Xt Yf (boot_heap w.params)) (topRun treeTable p w m an N (atBoot w.params os) (topStub p))=some (true,openGood q lo,Ya w)) :
  LeftO p q lo Xt Yf Ya N:=by
 intro w
 obtain ⟨s0,e0,e1⟩:=Option.map_eq_some_iff.mp (bo w)
 obtain ⟨hp,gs,dr,tk,os⟩:=s0
 simp only [Prod.mk.injEq] at e1
 obtain ⟨rfl,rfl,rfl,rfl⟩:=e1
 have z:=sz w
 simp only [Prod.mk.injEq] at z
 obtain ⟨z1,z2,z3⟩:=z
 obtain ⟨s1,r1,r2⟩:=Option.map_eq_some_iff.mp (rn w os)
 unfold lookO at r2
 simp only [Prod.mk.injEq] at r2
 obtain ⟨l1,l2,l3⟩:=r2
 have tf:topFrom treeTable p w N (atBoot w.params os)=some s1:=by
  unfold topFrom
  dsimp only
  rw [z1,z2,z3]
  show Option.bind (topRun treeTable p w m an N (atBoot w.params os) (topStub p)) _=_
  rw [r1]
  show (match (((staticsOk (importedModules p.main.body) (boot_heap w.params) s1.heap && namesBound p s1.heap) && gensDone s1) && laidKept (boot_heap w.params) s1.heap) with | true=>some s1 | false=>none)=_
  rw [l1]
 unfold openEnds
 rw [e0]
 show Option.map _ (topFrom treeTable p w N (atBoot w.params os))=_
 rw [tf]
 exact congrArg some (Prod.ext l2 l3)
def treeAt:List Obj→Nat→BT→BT
 | [],_,t=>t
 | o :: r,i,t=>treeAt r (i+1) (t.ins i o)
def Zdp (ok:Thread→Bool) (stp:SharedT→Thread→Option (SharedT × Thread)):Nat→SharedT→Thread→Option SharedT
 | 0,_,_=>none
 | n+1,s,t=>match through t with
  | true=>some s
  | false=>match ok t with
   | false=>none
   | true=>match stp s t with
    | some (s1,t1)=>Zdp ok stp n s1 t1
    | none=>none
theorem Zgg {tb:String→Option Builtin} {p:Program} {w:World} {m:Nat} {an:Option Value}:∀ {n:Nat} {s s1:SharedT} {t:Thread},Zdp (stepOk m an) (stepT (denote tb) p w) n s t=some s1→topRun tb p w m an n s.abs t=some s1.abs
 | 0,_,_,_,h=>by cases h
 | n+1,s,s1,t,h=>by
  rw [Zdp] at h
  rw [topRun]
  cases ht:through t with
  | true=>rw [ht] at h; cases h; rfl
  | false =>
   rw [ht] at h
   cases hk:stepOk m an t with
   | false=>rw [hk] at h; cases h
   | true =>
    rw [hk] at h
    cases hs:stepT (denote tb) p w s t with
    | none=>rw [hs] at h; cases h
    | some r =>
     obtain ⟨s2,t2⟩:=r
     rw [hs] at h
     rw [stepT_spec hs]
     exact Zgg h
noncomputable def bootT (P:Params):BT:=treeAt (boot_heap P).objs.toList 0 .nil
noncomputable def Zf1 (P:Params) (os:OsState):SharedT:=SharedT.mk (bootT P) 11 (boot_heap P).life (Array.mk []) boot_drawn boot_toks os
theorem bootT_is (P:Params) (os:OsState):(Zf1 P os).abs=atBoot P os:=by kernel_rfl
theorem ran_of {p q:Program} {lo ms:List Str} {Xt:Shared→Bool} {α β:Type} {Yf:Shared→β} {N m:Nat} {an:Option Value} {w:World} {os:OsState} {r:Bool × α × β} {oS:Program→List Str→List Str→(Shared→Bool)→Bool→Shared→α}
  (h:Option.map (fun s=>lookO oS ms p q lo Xt Yf (boot_heap w.params) (SharedT.abs s)) (Zdp (stepOk m an) (stepT (denote treeTable) p w) N (Zf1 w.params os) (topStub p))=some r) :
  Option.map (lookO oS ms p q lo Xt Yf (boot_heap w.params)) (topRun treeTable p w m an N (atBoot w.params os) (topStub p))=some r:=by
 obtain ⟨s,e,z⟩:=Option.map_eq_some_iff.mp h
 have e:=Zgg e
 rw [bootT_is] at e
 rw [e]
 exact congrArg some z
end L2
namespace L2
open PySem PySem.W PyProof.Rows
theorem look3 {σ α β:Type} {r:Option σ} {f:σ→Bool} {g:σ→α} {k:σ→β} {a:α} {b:β} (h1:r.map f=some true) (h2:r.map g=some a) (h3:r.map k=some b):r.map (fun s=>(f s,g s,k s))=some (true,a,b):=by
 cases r with
 | none=>cases h1
 | some s =>
  have e1:=Option.some.inj h1
  have e2:=Option.some.inj h2
  have e3:=Option.some.inj h3
  exact congrArg some (Prod.ext e1 (Prod.ext e2 e3))
def lookA (ms:List Str) (p:Program) (h0:Heap) (s:Shared):Bool:=(((staticsOk ms h0 s.heap && namesBound p s.heap) && gensDone s) && laidKept h0 s.heap)
def RunA (N m:Nat) (an:Option Value) {p p':Program} {sT:(Code→Sem Fin)→Program→World→SharedT→Thread→Option (SharedT × Thread)} {dn:(String→Option Builtin)→Code→Sem Fin} {tT:String→Option Builtin} {iM:List Stmt→List Str} {oS:∀ (q:Program) (lo ms:List Str) (Xt:Shared→Bool) (g0:Bool) (s:Shared),_} (h1:@stepT=sT) (h0:@denote=dn) (h2:treeTable=tT) (h3:@importedModules=iM) (h4:@openSeen=oS) (h5:p=p'):Prop:=∀ (w:World) (os:OsState),Option.map (fun s=>lookA (iM p'.main.body) p' (boot_heap w.params) (SharedT.abs s)) (Zdp (stepOk m an) (sT (dn tT) p' w) N (Zf1 w.params os) (topStub p'))=some true
def RunB (N m:Nat) (an:Option Value) (q:Program→Program) (lo:List Str) (Xt:Program→Shared→Bool) {p p':Program} {sT:(Code→Sem Fin)→Program→World→SharedT→Thread→Option (SharedT × Thread)} {dn:(String→Option Builtin)→Code→Sem Fin} {tT:String→Option Builtin} {iM:List Stmt→List Str} {oS:∀ (q:Program) (lo ms:List Str) (Xt:Shared→Bool) (g0:Bool) (s:Shared),_} (h1:@stepT=sT) (h0:@denote=dn) (h2:treeTable=tT) (h3:@importedModules=iM) (h4:@openSeen=oS) (h5:p=p'):Prop:=∀ (w:World) (os:OsState),Option.map (fun s=>oS (q p') lo (iM p'.main.body) (Xt p') true (SharedT.abs s)) (Zdp (stepOk m an) (sT (dn tT) p' w) N (Zf1 w.params os) (topStub p'))=some (openGood (q p') lo)
def RunC (N m:Nat) (an:Option Value) {β:Type} (Yf:Shared→β) (Ya:World→β) {p p':Program} {sT:(Code→Sem Fin)→Program→World→SharedT→Thread→Option (SharedT × Thread)} {dn:(String→Option Builtin)→Code→Sem Fin} {tT:String→Option Builtin} {iM:List Stmt→List Str} {oS:∀ (q:Program) (lo ms:List Str) (Xt:Shared→Bool) (g0:Bool) (s:Shared),_} (h1:@stepT=sT) (h0:@denote=dn) (h2:treeTable=tT) (h3:@importedModules=iM) (h4:@openSeen=oS) (h5:p=p'):Prop:=∀ (w:World) (os:OsState),Option.map (fun s=>Yf (SharedT.abs s)) (Zdp (stepOk m an) (sT (dn tT) p' w) N (Zf1 w.params os) (topStub p'))=some (Ya w)
theorem run_by3 {q:Program→Program} {lo:List Str} {Xt:Program→Shared→Bool} {β:Type} {Yf:Shared→β} {Ya:World→β} {N m:Nat} {an:Option Value} {p p':Program} {sT:(Code→Sem Fin)→Program→World→SharedT→Thread→Option (SharedT × Thread)} {dn:(String→Option Builtin)→Code→Sem Fin} {tT:String→Option Builtin} {iM:List Stmt→List Str} {oS:∀ (q:Program) (lo ms:List Str) (Xt:Shared→Bool) (g0:Bool) (s:Shared),_} {h1:@stepT=sT} {h0:@denote=dn} {h2:treeTable=tT} {h3:@importedModules=iM} {h4:@openSeen=oS} {h5:p=p'}
  (rA:RunA N m an h1 h0 h2 h3 h4 h5) (rB:RunB N m an q lo Xt h1 h0 h2 h3 h4 h5) (rC:RunC N m an Yf Ya h1 h0 h2 h3 h4 h5) :
  ∀ (w:World) (os:OsState),Option.map (lookO openSeen (importedModules p.main.body) p (q p) lo (Xt p) Yf (boot_heap w.params)) (topRun treeTable p w m an N (atBoot w.params os) (topStub p))=some (true,openGood (q p) lo,Ya w):=by
 subst h1 h0 h2 h3 h4 h5
 exact fun w os=>ran_of (look3 (rA w os) (rB w os) (rC w os))
end L2
namespace KH
open PySem PySem.W PyProof.Rows L2
def top (i:Nat):Stmt:=PySem.Challenge.pw_glazebench_k32_moves.main.body.getD i (.Pass ⟨0,0,0,0⟩)
def kE (P:Params) (x:Str) (t:Tok) (v:Value):DictEntry:=⟨PyData.keyHash P x,.str x t,v⟩
abbrev fo (a b:Str) (e:Stmt) (d m:Value) (c:Addr):Obj:=⟨(.type "function"),none,(.func (fnOf a b (Zao e) (Zaj e) (Zad e) d .none .none m none (.ref c) .none)),#[]⟩
abbrev co (a b:Str) (t u v:Tok) (l n:Int) (r:Addr) (i:Int) (p q x y:Addr) (j k:Int) (z:Tok):Obj:=⟨(.type "code"),none,(.fields #[(.str a t),(.str b u),(.str "/claim/cut.py" v),(.int l 0),(.int n 0),(.int (0) 0),(.int (0) 0),(.int (3) 0),(.ref r),(.bool true),(.int i 0),(.ref p),.none,(.ref q),(.ref x),(.ref y),(.int j 0),(.int k 0),(.str "/claim/cut.py" z)]),#[]⟩
def k2 (P:Params):Obj:=⟨.none,none,(.dict #[] 0),#[]⟩
def k3 (P:Params):Obj:=⟨(.type "dict"),none,(.dict #[kE P "__name__" 165 (.str "law_glazebench_k32_moves" 603),kE P "__doc__" 166 .none,kE P "__package__" 167 .none,kE P "__loader__" 168 (.builtin "__main__.__loader__#opaque"),kE P "__spec__" 169 .none,kE P "__annotations__" 170 (.ref 6),kE P "__builtins__" 171 (.ref 4),kE P "__file__" 173 (.str "/claim/cut.py" 172),kE P "__cached__" 174 .none,kE P "_wall" 193 (.ref 21),kE P "GlassError" 213 (.ref 31),kE P "NoCut" 238 (.ref 51),kE P "NoTree" 263 (.ref 70),kE P "NoMove" 288 (.ref 89),kE P "Unlike" 304 (.ref 101),kE P "is_whole" 313 (.ref 110),kE P "WHOLE" 317 (.str "whole" 316),kE P "UPRIGHT" 319 (.str "upright" 318),kE P "LEVEL" 321 (.str "level" 320),kE P "Tree" 379 (.ref 155),kE P "Whole" 404 (.ref 177),kE P "Upright" 433 (.ref 196),kE P "Level" 462 (.ref 215),kE P "kind_of" 469 (.ref 224),kE P "entry_of" 477 (.ref 231),kE P "entries_of" 487 (.ref 238),kE P "cut_from" 497 (.ref 245),kE P "tree_from" 509 (.ref 252),kE P "turned_word" 516 (.ref 259),kE P "LEAN" 520 (.str "lean" 519),kE P "BACK" 522 (.str "back" 521),kE P "CROSS" 524 (.str "cross" 523),kE P "leaned" 533 (.ref 266),kE P "leaned_back" 542 (.ref 273),kE P "crossed" 555 (.ref 280),kE P "changed" 563 (.ref 287),kE P "is_step" 570 (.ref 294),kE P "way_along" 580 (.ref 301),kE P "with_part" 589 (.ref 308),kE P "moved" 602 (.ref 315),kE P "_law_cell" 612 (.ref 322),kE P "_law_draw" 622 (.ref 329),kE P "_law_state" 630 (.ref 336),kE P "_law_pick" 639 (.ref 343),kE P "_law_tree" 652 (.ref 350),kE P "_law_made" 659 (.ref 357),kE P "_law_whole" 666 (.ref 364),kE P "_law_told" 676 (.ref 371),kE P "_law_pieces" 690 (.ref 378),kE P "_law_through" 696 (.ref 383),kE P "_law_parted" 702 (.ref 388),kE P "_law_recut" 719 (.ref 395),kE P "_law_moved" 733 (.ref 402),kE P "_law_steps" 744 (.ref 409),kE P "_law_asked" 755 (.ref 416),kE P "law" 774 (.ref 423)] 56),#[]⟩
def k20 (P:Params):Obj:=co "_wall" "_wall" 187 188 189 1 1 15 181 16 17 18 19 191 1 192
def k21 (P:Params):Obj:=fo "_wall" "_wall" (top 0) .none (.str "__main__" 164) 20
def k30 (P:Params):Obj:=⟨(.type "dict"),none,(.dict #[kE P "__module__" 203 (.str "glazebench.errors" 194),kE P "__firstlineno__" 207 (.int (5) 206),kE P "__static_attributes__" 208 (.ref 29),kE P "__weakref__" 210 (.ref 32),kE P "__doc__" 211 .none] 3),#[]⟩
def k31 (P:Params):Obj:=⟨(.type "type"),none,(.cls { name:="GlassError",bases:=[(.type "ValueError")],mro:=[(.ref 31),(.type "ValueError"),(.type "Exception"),(.type "BaseException"),(.type "object")],ns:=30,qualname:="GlassError",hasDict:=true,slotNames:=[],subclasses:=[(.ref 51),(.ref 70),(.ref 89),(.ref 101)],abstract:=false,collection:=none,hasDel:=false }),#[some (.ref 22),none,some (.str "GlassError" 196),some (.str "GlassError" 204),some (.builtin "ValueError.__new__"),some (.bool true)]⟩
def k32 (P:Params):Obj:=⟨(.type "getset_descriptor"),none,(.fields #[(.str "__weakref__" 209),(.ref 31),(.builtin "ExceptionGroup.__weakref__"),.none]),#[]⟩
def k47 (P:Params):Obj:=co "__init__" "NoCut.__init__" 226 227 228 9 2 42 181 43 44 45 46 231 9 232
def k48 (P:Params):Obj:=fo "__init__" "NoCut.__init__" (Zbx (top 3) 0) .none (.str "glazebench.errors" 194) 47
def k50 (P:Params):Obj:=⟨(.type "dict"),none,(.dict #[kE P "__module__" 221 (.str "glazebench.errors" 194),kE P "__firstlineno__" 225 (.int (7) 224),kE P "__init__" 233 (.ref 48),kE P "__static_attributes__" 235 (.ref 49),kE P "__doc__" 236 .none] 2),#[]⟩
def k51 (P:Params):Obj:=⟨(.type "type"),none,(.cls { name:="NoCut",bases:=[(.ref 31)],mro:=[(.ref 51),(.ref 31),(.type "ValueError"),(.type "Exception"),(.type "BaseException"),(.type "object")],ns:=50,qualname:="NoCut",hasDict:=true,slotNames:=[],subclasses:=[],abstract:=false,collection:=none,hasDel:=false }),#[some (.ref 35),none,some (.str "NoCut" 214),some (.str "NoCut" 222),some (.builtin "ValueError.__new__"),some (.bool true)]⟩
def k66 (P:Params):Obj:=co "__init__" "NoTree.__init__" 251 252 253 13 2 61 181 62 63 64 65 256 13 257
def k67 (P:Params):Obj:=fo "__init__" "NoTree.__init__" (Zbx (top 4) 0) .none (.str "glazebench.errors" 194) 66
def k69 (P:Params):Obj:=⟨(.type "dict"),none,(.dict #[kE P "__module__" 246 (.str "glazebench.errors" 194),kE P "__firstlineno__" 250 (.int (11) 249),kE P "__init__" 258 (.ref 67),kE P "__static_attributes__" 260 (.ref 68),kE P "__doc__" 261 .none] 2),#[]⟩
def k70 (P:Params):Obj:=⟨(.type "type"),none,(.cls { name:="NoTree",bases:=[(.ref 31)],mro:=[(.ref 70),(.ref 31),(.type "ValueError"),(.type "Exception"),(.type "BaseException"),(.type "object")],ns:=69,qualname:="NoTree",hasDict:=true,slotNames:=[],subclasses:=[],abstract:=false,collection:=none,hasDel:=false }),#[some (.ref 54),none,some (.str "NoTree" 239),some (.str "NoTree" 247),some (.builtin "ValueError.__new__"),some (.bool true)]⟩
def k85 (P:Params):Obj:=co "__init__" "NoMove.__init__" 276 277 278 17 2 80 181 81 82 83 84 281 17 282
def k86 (P:Params):Obj:=fo "__init__" "NoMove.__init__" (Zbx (top 5) 0) .none (.str "glazebench.errors" 194) 85
def k88 (P:Params):Obj:=⟨(.type "dict"),none,(.dict #[kE P "__module__" 271 (.str "glazebench.errors" 194),kE P "__firstlineno__" 275 (.int (15) 274),kE P "__init__" 283 (.ref 86),kE P "__static_attributes__" 285 (.ref 87),kE P "__doc__" 286 .none] 2),#[]⟩
def k89 (P:Params):Obj:=⟨(.type "type"),none,(.cls { name:="NoMove",bases:=[(.ref 31)],mro:=[(.ref 89),(.ref 31),(.type "ValueError"),(.type "Exception"),(.type "BaseException"),(.type "object")],ns:=88,qualname:="NoMove",hasDict:=true,slotNames:=[],subclasses:=[],abstract:=false,collection:=none,hasDel:=false }),#[some (.ref 73),none,some (.str "NoMove" 264),some (.str "NoMove" 272),some (.builtin "ValueError.__new__"),some (.bool true)]⟩
def k100 (P:Params):Obj:=⟨(.type "dict"),none,(.dict #[kE P "__module__" 296 (.str "glazebench.errors" 194),kE P "__firstlineno__" 300 (.int (19) 299),kE P "__static_attributes__" 301 (.ref 99),kE P "__doc__" 302 .none] 2),#[]⟩
def k101 (P:Params):Obj:=⟨(.type "type"),none,(.cls { name:="Unlike",bases:=[(.ref 31)],mro:=[(.ref 101),(.ref 31),(.type "ValueError"),(.type "Exception"),(.type "BaseException"),(.type "object")],ns:=100,qualname:="Unlike",hasDict:=true,slotNames:=[],subclasses:=[],abstract:=false,collection:=none,hasDel:=false }),#[some (.ref 92),none,some (.str "Unlike" 289),some (.str "Unlike" 297),some (.builtin "ValueError.__new__"),some (.bool true)]⟩
def k109 (P:Params):Obj:=co "is_whole" "is_whole" 307 308 309 22 1 104 181 105 106 107 108 311 22 312
def k110 (P:Params):Obj:=fo "is_whole" "is_whole" (top 8) .none (.str "glazebench.panels" 305) 109
def k123 (P:Params):Obj:=co "leaves" "Tree.leaves" 334 335 336 30 1 118 181 119 120 121 122 338 30 339
def k124 (P:Params):Obj:=fo "leaves" "Tree.leaves" (Zbx (top 13) 0) .none (.str "glazebench.cuts" 314) 123
def k130 (P:Params):Obj:=co "depth" "Tree.depth" 341 342 343 33 1 125 181 126 127 128 129 345 33 346
def k131 (P:Params):Obj:=fo "depth" "Tree.depth" (Zbx (top 13) 1) .none (.str "glazebench.cuts" 314) 130
def k137 (P:Params):Obj:=co "turned" "Tree.turned" 348 349 350 36 1 132 181 133 134 135 136 352 36 353
def k138 (P:Params):Obj:=fo "turned" "Tree.turned" (Zbx (top 13) 2) .none (.str "glazebench.cuts" 314) 137
def k144 (P:Params):Obj:=co "fits" "Tree.fits" 355 356 357 39 3 139 181 140 141 142 143 361 39 362
def k145 (P:Params):Obj:=fo "fits" "Tree.fits" (Zbx (top 13) 3) .none (.str "glazebench.cuts" 314) 144
def k151 (P:Params):Obj:=co "same" "Tree.same" 364 365 366 42 2 146 181 147 148 149 150 369 42 370
def k152 (P:Params):Obj:=fo "same" "Tree.same" (Zbx (top 13) 4) .none (.str "glazebench.cuts" 314) 151
def k154 (P:Params):Obj:=⟨(.type "dict"),none,(.dict #[kE P "__module__" 329 (.str "glazebench.cuts" 314),kE P "__firstlineno__" 333 (.int (28) 332),kE P "leaves" 340 (.ref 124),kE P "depth" 347 (.ref 131),kE P "turned" 354 (.ref 138),kE P "fits" 363 (.ref 145),kE P "same" 371 (.ref 152),kE P "__static_attributes__" 372 (.ref 153),kE P "__dict__" 374 (.ref 156),kE P "__weakref__" 376 (.ref 157),kE P "__doc__" 377 .none] 4),#[]⟩
def k155 (P:Params):Obj:=⟨(.type "type"),none,(.cls { name:="Tree",bases:=[(.type "object")],mro:=[(.ref 155),(.type "object")],ns:=154,qualname:="Tree",hasDict:=true,slotNames:=[],subclasses:=[(.ref 177),(.ref 196),(.ref 215)],abstract:=false,collection:=none,hasDel:=false }),#[none,none,some (.str "Tree" 322),some (.str "Tree" 330),some (.builtin "object.__new__"),some (.bool true)]⟩
def k156 (P:Params):Obj:=⟨(.type "getset_descriptor"),none,(.fields #[(.str "__dict__" 373),(.ref 155),(.builtin "function.__dict__"),(.builtin "function.__dict__#set")]),#[]⟩
def k157 (P:Params):Obj:=⟨(.type "getset_descriptor"),none,(.fields #[(.str "__weakref__" 375),(.ref 155),(.builtin "ExceptionGroup.__weakref__"),.none]),#[]⟩
def k167 (P:Params):Obj:=⟨(.type "tuple"),none,(.seq #[.none] 0),#[]⟩
def k173 (P:Params):Obj:=co "__init__" "Whole.__init__" 392 393 394 46 2 168 181 169 170 171 172 397 46 398
def k174 (P:Params):Obj:=fo "__init__" "Whole.__init__" (Zbx (top 14) 0) (.ref 167) (.str "glazebench.cuts" 314) 173
def k176 (P:Params):Obj:=⟨(.type "dict"),none,(.dict #[kE P "__module__" 387 (.str "glazebench.cuts" 314),kE P "__firstlineno__" 391 (.int (44) 390),kE P "__init__" 399 (.ref 174),kE P "__static_attributes__" 401 (.ref 175),kE P "__doc__" 402 .none] 2),#[]⟩
def k177 (P:Params):Obj:=⟨(.type "type"),none,(.cls { name:="Whole",bases:=[(.ref 155)],mro:=[(.ref 177),(.ref 155),(.type "object")],ns:=176,qualname:="Whole",hasDict:=true,slotNames:=[],subclasses:=[],abstract:=false,collection:=none,hasDel:=false }),#[some (.ref 160),none,some (.str "Whole" 380),some (.str "Whole" 388),some (.builtin "object.__new__"),some (.bool true)]⟩
def k192 (P:Params):Obj:=co "__init__" "Upright.__init__" 417 418 419 50 4 187 181 188 189 190 191 424 50 425
def k193 (P:Params):Obj:=fo "__init__" "Upright.__init__" (Zbx (top 15) 0) .none (.str "glazebench.cuts" 314) 192
def k195 (P:Params):Obj:=⟨(.type "dict"),none,(.dict #[kE P "__module__" 412 (.str "glazebench.cuts" 314),kE P "__firstlineno__" 416 (.int (48) 415),kE P "__init__" 426 (.ref 193),kE P "__static_attributes__" 430 (.ref 194),kE P "__doc__" 431 .none] 2),#[]⟩
def k196 (P:Params):Obj:=⟨(.type "type"),none,(.cls { name:="Upright",bases:=[(.ref 155)],mro:=[(.ref 196),(.ref 155),(.type "object")],ns:=195,qualname:="Upright",hasDict:=true,slotNames:=[],subclasses:=[],abstract:=false,collection:=none,hasDel:=false }),#[some (.ref 180),none,some (.str "Upright" 405),some (.str "Upright" 413),some (.builtin "object.__new__"),some (.bool true)]⟩
def k211 (P:Params):Obj:=co "__init__" "Level.__init__" 446 447 448 56 4 206 181 207 208 209 210 453 56 454
def k212 (P:Params):Obj:=fo "__init__" "Level.__init__" (Zbx (top 16) 0) .none (.str "glazebench.cuts" 314) 211
def k214 (P:Params):Obj:=⟨(.type "dict"),none,(.dict #[kE P "__module__" 441 (.str "glazebench.cuts" 314),kE P "__firstlineno__" 445 (.int (54) 444),kE P "__init__" 455 (.ref 212),kE P "__static_attributes__" 459 (.ref 213),kE P "__doc__" 460 .none] 2),#[]⟩
def k215 (P:Params):Obj:=⟨(.type "type"),none,(.cls { name:="Level",bases:=[(.ref 155)],mro:=[(.ref 215),(.ref 155),(.type "object")],ns:=214,qualname:="Level",hasDict:=true,slotNames:=[],subclasses:=[],abstract:=false,collection:=none,hasDel:=false }),#[some (.ref 199),none,some (.str "Level" 434),some (.str "Level" 442),some (.builtin "object.__new__"),some (.bool true)]⟩
def k223 (P:Params):Obj:=co "kind_of" "kind_of" 463 464 465 60 1 218 181 219 220 221 222 467 60 468
def k224 (P:Params):Obj:=fo "kind_of" "kind_of" (top 17) .none (.str "glazebench.cuts" 314) 223
def k230 (P:Params):Obj:=co "entry_of" "entry_of" 470 471 472 64 1 225 181 226 227 228 229 475 64 476
def k231 (P:Params):Obj:=fo "entry_of" "entry_of" (top 18) .none (.str "glazebench.cuts" 314) 230
def k237 (P:Params):Obj:=co "entries_of" "entries_of" 478 479 480 67 1 232 181 233 234 235 236 485 67 486
def k238 (P:Params):Obj:=fo "entries_of" "entries_of" (top 19) .none (.str "glazebench.cuts" 314) 237
def k244 (P:Params):Obj:=co "cut_from" "cut_from" 488 489 490 76 4 239 181 240 241 242 243 495 76 496
def k245 (P:Params):Obj:=fo "cut_from" "cut_from" (top 20) .none (.str "glazebench.cuts" 314) 244
def k251 (P:Params):Obj:=co "tree_from" "tree_from" 498 499 500 80 1 246 181 247 248 249 250 507 80 508
def k252 (P:Params):Obj:=fo "tree_from" "tree_from" (top 21) .none (.str "glazebench.cuts" 314) 251
def k258 (P:Params):Obj:=co "turned_word" "turned_word" 510 511 512 90 1 253 181 254 255 256 257 514 90 515
def k259 (P:Params):Obj:=fo "turned_word" "turned_word" (top 22) .none (.str "glazebench.cuts" 314) 258
def k265 (P:Params):Obj:=co "leaned" "leaned" 525 526 527 98 1 260 181 261 262 263 264 531 98 532
def k266 (P:Params):Obj:=fo "leaned" "leaned" (top 27) .none (.str "glazebench.moves" 517) 265
def k272 (P:Params):Obj:=co "leaned_back" "leaned_back" 534 535 536 104 1 267 181 268 269 270 271 540 104 541
def k273 (P:Params):Obj:=fo "leaned_back" "leaned_back" (top 28) .none (.str "glazebench.moves" 517) 272
def k279 (P:Params):Obj:=co "crossed" "crossed" 543 544 545 110 1 274 181 275 276 277 278 553 110 554
def k280 (P:Params):Obj:=fo "crossed" "crossed" (top 29) .none (.str "glazebench.moves" 517) 279
def k286 (P:Params):Obj:=co "changed" "changed" 556 557 558 120 2 281 181 282 283 284 285 561 120 562
def k287 (P:Params):Obj:=fo "changed" "changed" (top 30) .none (.str "glazebench.moves" 517) 286
def k293 (P:Params):Obj:=co "is_step" "is_step" 564 565 566 130 1 288 181 289 290 291 292 568 130 569
def k294 (P:Params):Obj:=fo "is_step" "is_step" (top 31) .none (.str "glazebench.moves" 517) 293
def k300 (P:Params):Obj:=co "way_along" "way_along" 571 572 573 132 2 295 181 296 297 298 299 578 132 579
def k301 (P:Params):Obj:=fo "way_along" "way_along" (top 32) .none (.str "glazebench.moves" 517) 300
def k307 (P:Params):Obj:=co "with_part" "with_part" 581 582 583 143 3 302 181 303 304 305 306 587 143 588
def k308 (P:Params):Obj:=fo "with_part" "with_part" (top 33) .none (.str "glazebench.moves" 517) 307
def k314 (P:Params):Obj:=co "moved" "moved" 590 591 592 147 2 309 181 310 311 312 313 600 147 601
def k315 (P:Params):Obj:=fo "moved" "moved" (top 34) .none (.str "glazebench.moves" 517) 314
def k321 (P:Params):Obj:=co "_law_cell" "_law_cell" 605 606 607 157 2 316 181 317 318 319 320 610 157 611
def k322 (P:Params):Obj:=fo "_law_cell" "_law_cell" (top 36) .none (.str "law_glazebench_k32_moves" 603) 321
def k328 (P:Params):Obj:=co "_law_draw" "_law_draw" 613 614 615 161 3 323 181 324 325 326 327 620 161 621
def k329 (P:Params):Obj:=fo "_law_draw" "_law_draw" (top 37) .none (.str "law_glazebench_k32_moves" 603) 328
def k335 (P:Params):Obj:=co "_law_state" "_law_state" 623 624 625 164 1 330 181 331 332 333 334 628 164 629
def k336 (P:Params):Obj:=fo "_law_state" "_law_state" (top 38) .none (.str "law_glazebench_k32_moves" 603) 335
def k342 (P:Params):Obj:=co "_law_pick" "_law_pick" 631 632 633 169 2 337 181 338 339 340 341 637 169 638
def k343 (P:Params):Obj:=fo "_law_pick" "_law_pick" (top 39) .none (.str "law_glazebench_k32_moves" 603) 342
def k349 (P:Params):Obj:=co "_law_tree" "_law_tree" 640 641 642 176 3 344 181 345 346 347 348 650 176 651
def k350 (P:Params):Obj:=fo "_law_tree" "_law_tree" (top 40) .none (.str "law_glazebench_k32_moves" 603) 349
def k356 (P:Params):Obj:=co "_law_made" "_law_made" 653 654 655 190 1 351 181 352 353 354 355 657 190 658
def k357 (P:Params):Obj:=fo "_law_made" "_law_made" (top 41) .none (.str "law_glazebench_k32_moves" 603) 356
def k363 (P:Params):Obj:=co "_law_whole" "_law_whole" 660 661 662 196 1 358 181 359 360 361 362 664 196 665
def k364 (P:Params):Obj:=fo "_law_whole" "_law_whole" (top 42) .none (.str "law_glazebench_k32_moves" 603) 363
def k370 (P:Params):Obj:=co "_law_told" "_law_told" 667 668 669 198 1 365 181 366 367 368 369 674 198 675
def k371 (P:Params):Obj:=fo "_law_told" "_law_told" (top 43) .none (.str "law_glazebench_k32_moves" 603) 370
def k377 (P:Params):Obj:=co "_law_pieces" "_law_pieces" 677 678 679 213 2 372 181 373 374 375 376 688 213 689
def k378 (P:Params):Obj:=fo "_law_pieces" "_law_pieces" (top 44) .none (.str "law_glazebench_k32_moves" 603) 377
def k382 (P:Params):Obj:=⟨(.type "code"),none,(.fields #[(.str "_law_through" 691),(.str "_law_through" 692),(.str "/claim/cut.py" 693),(.int (223) 0),(.int (2) 0),(.int (0) 0),(.int (0) 0),(.int (3) 0),(.ref 379),(.bool true),(.int (181) 0),(.ref 380),.none,.none,.none,(.ref 381),(.int (694) 0),(.int (223) 0),(.str "/claim/cut.py" 695)]),#[]⟩
def k383 (P:Params):Obj:=fo "_law_through" "_law_through" (top 45) .none (.str "law_glazebench_k32_moves" 603) 382
def k387 (P:Params):Obj:=⟨(.type "code"),none,(.fields #[(.str "_law_parted" 697),(.str "_law_parted" 698),(.str "/claim/cut.py" 699),(.int (230) 0),(.int (4) 0),(.int (0) 0),(.int (0) 0),(.int (3) 0),(.ref 384),(.bool true),(.int (181) 0),(.ref 385),.none,.none,.none,(.ref 386),(.int (700) 0),(.int (230) 0),(.str "/claim/cut.py" 701)]),#[]⟩
def k388 (P:Params):Obj:=fo "_law_parted" "_law_parted" (top 46) .none (.str "law_glazebench_k32_moves" 603) 387
def k394 (P:Params):Obj:=co "_law_recut" "_law_recut" 703 704 705 238 3 389 181 390 391 392 393 717 238 718
def k395 (P:Params):Obj:=fo "_law_recut" "_law_recut" (top 47) .none (.str "law_glazebench_k32_moves" 603) 394
def k401 (P:Params):Obj:=co "_law_moved" "_law_moved" 720 721 722 246 3 396 181 397 398 399 400 731 246 732
def k402 (P:Params):Obj:=fo "_law_moved" "_law_moved" (top 48) .none (.str "law_glazebench_k32_moves" 603) 401
def k408 (P:Params):Obj:=co "_law_steps" "_law_steps" 734 735 736 266 2 403 181 404 405 406 407 742 266 743
def k409 (P:Params):Obj:=fo "_law_steps" "_law_steps" (top 49) .none (.str "law_glazebench_k32_moves" 603) 408
def k415 (P:Params):Obj:=co "_law_asked" "_law_asked" 745 746 747 277 2 410 181 411 412 413 414 753 277 754
def k416 (P:Params):Obj:=fo "_law_asked" "_law_asked" (top 50) .none (.str "law_glazebench_k32_moves" 603) 415
def k422 (P:Params):Obj:=co "law" "law" 756 757 758 287 1 417 181 418 419 420 421 772 287 773
def k423 (P:Params):Obj:=fo "law" "law" (top 51) .none (.str "law_glazebench_k32_moves" 603) 422
def KK:Params→Frag:=fun P=>(nat_lit 2,k2 P) :: (nat_lit 3,k3 P) :: (nat_lit 20,k20 P) :: (nat_lit 21,k21 P) :: (nat_lit 30,k30 P) :: (nat_lit 31,k31 P) :: (nat_lit 32,k32 P) :: (nat_lit 47,k47 P) :: (nat_lit 48,k48 P) :: (nat_lit 50,k50 P) :: (nat_lit 51,k51 P) :: (nat_lit 66,k66 P) :: (nat_lit 67,k67 P) :: (nat_lit 69,k69 P) :: (nat_lit 70,k70 P) :: (nat_lit 85,k85 P) :: (nat_lit 86,k86 P) :: (nat_lit 88,k88 P) :: (nat_lit 89,k89 P) :: (nat_lit 100,k100 P) :: (nat_lit 101,k101 P) :: (nat_lit 109,k109 P) :: (nat_lit 110,k110 P) :: (nat_lit 123,k123 P) :: (nat_lit 124,k124 P) :: (nat_lit 130,k130 P) :: (nat_lit 131,k131 P) :: (nat_lit 137,k137 P) :: (nat_lit 138,k138 P) :: (nat_lit 144,k144 P) :: (nat_lit 145,k145 P) :: (nat_lit 151,k151 P) :: (nat_lit 152,k152 P) :: (nat_lit 154,k154 P) :: (nat_lit 155,k155 P) :: (nat_lit 156,k156 P) :: (nat_lit 157,k157 P) :: (nat_lit 167,k167 P) :: (nat_lit 173,k173 P) :: (nat_lit 174,k174 P) :: (nat_lit 176,k176 P) :: (nat_lit 177,k177 P) :: (nat_lit 192,k192 P) :: (nat_lit 193,k193 P) :: (nat_lit 195,k195 P) :: (nat_lit 196,k196 P) :: (nat_lit 211,k211 P) :: (nat_lit 212,k212 P) :: (nat_lit 214,k214 P) :: (nat_lit 215,k215 P) :: (nat_lit 223,k223 P) :: (nat_lit 224,k224 P) :: (nat_lit 230,k230 P) :: (nat_lit 231,k231 P) :: (nat_lit 237,k237 P) :: (nat_lit 238,k238 P) :: (nat_lit 244,k244 P) :: (nat_lit 245,k245 P) :: (nat_lit 251,k251 P) :: (nat_lit 252,k252 P) :: (nat_lit 258,k258 P) :: (nat_lit 259,k259 P) :: (nat_lit 265,k265 P) :: (nat_lit 266,k266 P) :: (nat_lit 272,k272 P) :: (nat_lit 273,k273 P) :: (nat_lit 279,k279 P) :: (nat_lit 280,k280 P) :: (nat_lit 286,k286 P) :: (nat_lit 287,k287 P) :: (nat_lit 293,k293 P) :: (nat_lit 294,k294 P) :: (nat_lit 300,k300 P) :: (nat_lit 301,k301 P) :: (nat_lit 307,k307 P) :: (nat_lit 308,k308 P) :: (nat_lit 314,k314 P) :: (nat_lit 315,k315 P) :: (nat_lit 321,k321 P) :: (nat_lit 322,k322 P) :: (nat_lit 328,k328 P) :: (nat_lit 329,k329 P) :: (nat_lit 335,k335 P) :: (nat_lit 336,k336 P) :: (nat_lit 342,k342 P) :: (nat_lit 343,k343 P) :: (nat_lit 349,k349 P) :: (nat_lit 350,k350 P) :: (nat_lit 356,k356 P) :: (nat_lit 357,k357 P) :: (nat_lit 363,k363 P) :: (nat_lit 364,k364 P) :: (nat_lit 370,k370 P) :: (nat_lit 371,k371 P) :: (nat_lit 377,k377 P) :: (nat_lit 378,k378 P) :: (nat_lit 382,k382 P) :: (nat_lit 383,k383 P) :: (nat_lit 387,k387 P) :: (nat_lit 388,k388 P) :: (nat_lit 394,k394 P) :: (nat_lit 395,k395 P) :: (nat_lit 401,k401 P) :: (nat_lit 402,k402 P) :: (nat_lit 408,k408 P) :: (nat_lit 409,k409 P) :: (nat_lit 415,k415 P) :: (nat_lit 416,k416 P) :: (nat_lit 422,k422 P) :: (nat_lit 423,k423 P) :: []
def kas:List Addr:=nat_lit 2 :: nat_lit 3 :: nat_lit 20 :: nat_lit 21 :: nat_lit 30 :: nat_lit 31 :: nat_lit 32 :: nat_lit 47 :: nat_lit 48 :: nat_lit 50 :: nat_lit 51 :: nat_lit 66 :: nat_lit 67 :: nat_lit 69 :: nat_lit 70 :: nat_lit 85 :: nat_lit 86 :: nat_lit 88 :: nat_lit 89 :: nat_lit 100 :: nat_lit 101 :: nat_lit 109 :: nat_lit 110 :: nat_lit 123 :: nat_lit 124 :: nat_lit 130 :: nat_lit 131 :: nat_lit 137 :: nat_lit 138 :: nat_lit 144 :: nat_lit 145 :: nat_lit 151 :: nat_lit 152 :: nat_lit 154 :: nat_lit 155 :: nat_lit 156 :: nat_lit 157 :: nat_lit 167 :: nat_lit 173 :: nat_lit 174 :: nat_lit 176 :: nat_lit 177 :: nat_lit 192 :: nat_lit 193 :: nat_lit 195 :: nat_lit 196 :: nat_lit 211 :: nat_lit 212 :: nat_lit 214 :: nat_lit 215 :: nat_lit 223 :: nat_lit 224 :: nat_lit 230 :: nat_lit 231 :: nat_lit 237 :: nat_lit 238 :: nat_lit 244 :: nat_lit 245 :: nat_lit 251 :: nat_lit 252 :: nat_lit 258 :: nat_lit 259 :: nat_lit 265 :: nat_lit 266 :: nat_lit 272 :: nat_lit 273 :: nat_lit 279 :: nat_lit 280 :: nat_lit 286 :: nat_lit 287 :: nat_lit 293 :: nat_lit 294 :: nat_lit 300 :: nat_lit 301 :: nat_lit 307 :: nat_lit 308 :: nat_lit 314 :: nat_lit 315 :: nat_lit 321 :: nat_lit 322 :: nat_lit 328 :: nat_lit 329 :: nat_lit 335 :: nat_lit 336 :: nat_lit 342 :: nat_lit 343 :: nat_lit 349 :: nat_lit 350 :: nat_lit 356 :: nat_lit 357 :: nat_lit 363 :: nat_lit 364 :: nat_lit 370 :: nat_lit 371 :: nat_lit 377 :: nat_lit 378 :: nat_lit 382 :: nat_lit 383 :: nat_lit 387 :: nat_lit 388 :: nat_lit 394 :: nat_lit 395 :: nat_lit 401 :: nat_lit 402 :: nat_lit 408 :: nat_lit 409 :: nat_lit 415 :: nat_lit 416 :: nat_lit 422 :: nat_lit 423 :: []
def keeps:List Nat:=0 :: 2 :: 3 :: 4 :: 5 :: 6 :: 8 :: 10 :: 11 :: 12 :: 13 :: 14 :: 15 :: 16 :: 17 :: 18 :: 19 :: 20 :: 21 :: 22 :: 24 :: 25 :: 26 :: 27 :: 28 :: 29 :: 30 :: 31 :: 32 :: 33 :: 34 :: 36 :: 37 :: 38 :: 39 :: 40 :: 41 :: 42 :: 43 :: 44 :: 45 :: 46 :: 47 :: 48 :: 49 :: 50 :: 51 :: []
def lo:List Str:=["Whole"]
theorem prep (h:PySem.Challenge.rw_glazebench_k32_moves.row.wellSaid=true→PySem.Challenge.rw_glazebench_k32_moves.row.Holds):PySem.Challenge.rw_glazebench_k32_moves.Holds:=by
 w_on
 o_law
 exact h (by assumption)
def qv (p:Program):Program:=view p keeps
def Xp (p:Program) (s:Shared):Bool:=xlAt (qv p) [] s && recOk (RowW.records (OpenRow.toRowW PySem.Challenge.rw_glazebench_k32_moves.row)) s
theorem kas_is (P:Params):kas=(KK P).map (fun x=>x.1):=by kernel_rfl
theorem op_is:opening PySem.Challenge.pw_glazebench_k32_moves=plainProg PySem.Challenge.pw_glazebench_k32_moves.main.scope.names:=by kernel_rfl
theorem fence_is (s:Shared):fenceModules? PySem.Challenge.pw_glazebench_k32_moves s=some s:=by kernel_rfl
theorem boot_is (w:World):((boot_heap w.params).isNs mainGlobals,(boot_heap w.params).objs.size,(boot_heap w.params).nsMap mainGlobals "__annotations__")=(true,11,(some (.ref 6))):=by kernel_rfl
theorem ranA:RunA 6806 11 (some (.ref 6)) PySem.W.Fast.te10156331382660048174 PySem.W.Fast.te11892475500146522536 PySem.W.Fast.te14364793385576792824 PySem.W.Fast.te5923862056798008813 PySem.W.Fast.te4187177175401517315 PySem.W.Fast.te12207168461419452764:=fun w os=>by kernel_rfl
theorem ranB:RunB 6806 11 (some (.ref 6)) qv lo Xp PySem.W.Fast.te10156331382660048174 PySem.W.Fast.te11892475500146522536 PySem.W.Fast.te14364793385576792824 PySem.W.Fast.te5923862056798008813 PySem.W.Fast.te4187177175401517315 PySem.W.Fast.te12207168461419452764:=fun w os=>by kernel_rfl
theorem ranC:RunC 6806 11 (some (.ref 6)) (kHook KK kas kas_is).obs (kHook KK kas kas_is).val PySem.W.Fast.te10156331382660048174 PySem.W.Fast.te11892475500146522536 PySem.W.Fast.te14364793385576792824 PySem.W.Fast.te5923862056798008813 PySem.W.Fast.te4187177175401517315 PySem.W.Fast.te12207168461419452764:=fun w os=>by kernel_rfl
theorem ran:∀ (w:World) (os:OsState),Option.map (lookO openSeen (importedModules PySem.Challenge.pw_glazebench_k32_moves.main.body) PySem.Challenge.pw_glazebench_k32_moves (qv PySem.Challenge.pw_glazebench_k32_moves) lo (Xp PySem.Challenge.pw_glazebench_k32_moves) (kHook KK kas kas_is).obs (boot_heap w.params)) (topRun treeTable PySem.Challenge.pw_glazebench_k32_moves w 11 (some (.ref 6)) 6806 (atBoot w.params os) (topStub PySem.Challenge.pw_glazebench_k32_moves))=some (true,openGood (qv PySem.Challenge.pw_glazebench_k32_moves) lo,(kHook KK kas kas_is).val w):=run_by3 ranA ranB ranC
theorem left:LeftO PySem.Challenge.pw_glazebench_k32_moves (qv PySem.Challenge.pw_glazebench_k32_moves) lo (Xp PySem.Challenge.pw_glazebench_k32_moves) (kHook KK kas kas_is).obs (kHook KK kas kas_is).val 6806:=left_once (boot_open op_is (by decide) fence_is) boot_is ran
end KH
namespace L2
open PySem PySem.Spec PyProof.Rows
section
variable {M:Model} {A:Around} {E:Value→Shared→Prop} {s:Shared}
def gallopG:Bool→Keyed→Array Keyed→Nat→Nat→Nat→StateT SortSt Sem (Option Nat):=sortPriv% PySem.Builtin.gallop
def AskG (M:Model) (A:Around) (E:Value→Shared→Prop) (s:Shared) (left:Bool) (key:Keyed) (arr:Array Keyed) (base n:Nat) (kd:SortKind) (B:Nat→Bool):Prop :=
 ∀ i,i < n→∀ (st:SortSt) (Q:Option Bool→SortSt→Prop),kindOf st=kd→Q (some (B i)) st→wpS M A E s (elem' arr (base+i) >>= fun x=>if left=true then lt' x key else lt' key x >>= fun r=>pure (r.map (!·))) Q st
theorem halve {n:Nat} {B:Nat→Bool} {f:Nat→Option (Option Nat) × Nat × Nat→StateT SortSt Sem (ForInStep (Option (Option Nat) × Nat × Nat))} {g:Option (Option Nat) × Nat × Nat→StateT SortSt Sem (Option Nat)} {lo hi:Nat} {st:SortSt} {Q:Option Nat→SortSt→Prop} (mono:∀ i j,i≤j→j < n→B j=true→B i=true)
  (hf:∀ x lo hi (Q':ForInStep (Option (Option Nat) × Nat × Nat)→SortSt→Prop),hi≤n→(lo≥hi→Q' (.done (none,lo,hi)) st)→(lo < hi→B (lo+(hi - lo) / 2)=true→Q' (.yield (none,lo+(hi - lo) / 2+1,hi)) st)→(lo < hi→B (lo+(hi - lo) / 2)=false→Q' (.yield (none,lo,lo+(hi - lo) / 2)) st)→wpS M A E s (f x (none,lo,hi)) Q' st)
  (hg:∀ lo hi,g (none,lo,hi)=pure (some hi)) (h1:lo≤hi) (h2:hi≤n) (h3:∀ i,i < lo→B i=true) (h4:∀ i,hi≤i→i < n→B i=false)
  (h:∀ k,k≤n→(∀ i,i < k→B i=true)→(∀ i,k≤i→i < n→B i=false)→Q (some k) st):wpS M A E s (forIn [0:n] (none,lo,hi) f >>= g) Q st:=by
 have anti:∀ i j,i≤j→j < n→B i=false→B j=false:=fun i j hij hj hi=>by
  cases e:B j with
  | false=>rfl
  | true=>rw [mono i j hij hj e] at hi; cases hi
 refine wpS_bind (wpS_mono (wpS_forRange (I:=fun x (c:Option (Option Nat) × Nat × Nat) st'=>st'=st∧c.1=none∧c.2.1≤c.2.2∧c.2.2≤n∧(c.2.2 - c.2.1)+x≤n∧(∀ i,i < c.2.1→B i=true)∧(∀ i,c.2.2≤i→i < n→B i=false))
  (Q:=fun (c:Option (Option Nat) × Nat × Nat) st'=>st'=st∧c.1=none∧c.2.2≤n∧(∀ i,i < c.2.2→B i=true)∧(∀ i,c.2.2≤i→i < n→B i=false)) ?step ?fin (And.intro rfl ⟨rfl,h1,h2,by show hi - lo+0≤n; omega,h3,h4⟩)) ?post)
 case fin =>
  rintro ⟨r,lo,hi⟩ st' ⟨e,e1,c1,c2,c3,c4,c5⟩
  have:lo=hi:=by
   have c3:hi - lo+max 0 n≤n:=c3
   have c1:lo≤hi:=c1
   omega
  subst this
  exact And.intro e ⟨e1,c2,c4,c5⟩
 case step =>
  rintro x ⟨r,lo,hi⟩ st' _ hx ⟨e,e1,c1,c2,c3,c4,c5⟩
  have e1:r=none:=e1
  subst e1
  subst e
  have c1:lo≤hi:=c1
  have c2:hi≤n:=c2
  have c3:hi - lo+x≤n:=c3
  have c4:∀ i,i < lo→B i=true:=c4
  have c5:∀ i,hi≤i→i < n→B i=false:=c5
  refine hf x lo hi _ c2 (fun hl=>?_) (fun hl hb=>?_) (fun hl hb=>?_)
  ·have:lo=hi:=by omega
   subst this
   exact And.intro rfl ⟨rfl,c2,c4,c5⟩
  ·refine And.intro rfl ⟨rfl,by show lo+(hi - lo) / 2+1≤hi; omega,c2,by show hi - (lo+(hi - lo) / 2+1)+(x+1)≤n; omega,fun i hi'=>?_,c5⟩
   exact mono i _ (by have:i < lo+(hi - lo) / 2+1:=hi'; omega) (by omega) hb
  ·refine And.intro rfl ⟨rfl,by show lo≤lo+(hi - lo) / 2; omega,by show lo+(hi - lo) / 2≤n; omega,by show lo+(hi - lo) / 2 - lo+(x+1)≤n; omega,c4,fun i h1 h2=>?_⟩
   exact anti _ i h1 h2 hb
 case post =>
  rintro ⟨r,lo,hi⟩ st' ⟨e,e1,c1,c2,c3⟩
  have e1:r=none:=e1
  subst e1
  subst e
  rw [hg]
  exact wpS_pure (h hi c1 c2 c3)
theorem stride {n mx:Nat} {C:Nat→Bool} {f:Nat→Option (Option Nat) × Nat × Nat→StateT SortSt Sem (ForInStep (Option (Option Nat) × Nat × Nat))} {g:Option (Option Nat) × Nat × Nat→StateT SortSt Sem (Option Nat)} {st:SortSt} {Q:Option Nat→SortSt→Prop} (hmx:mx≤n) (h1:1≤mx) (c0:C 0=true)
  (hf:∀ x la of (Q':ForInStep (Option (Option Nat) × Nat × Nat)→SortSt→Prop),(of≥mx→Q' (.done (none,la,of)) st)→(of < mx→C of=false→Q' (.done (none,la,of)) st)→(of < mx→C of=true→Q' (.yield (none,of,2 * of+1)) st)→wpS M A E s (f x (none,la,of)) Q' st)
  (hg:∀ la of,la < of→la < mx→C la=true→(of≥mx∨(of < mx∧C of=false))→wpS M A E s (g (none,la,of)) Q st):wpS M A E s (forIn [0:n] (none,0,1) f >>= g) Q st:=by
 refine wpS_bind (wpS_mono (wpS_forRange (I:=fun x (c:Option (Option Nat) × Nat × Nat) st'=>st'=st∧c.1=none∧c.2.1 < c.2.2∧c.2.1 < mx∧x+1≤c.2.2∧C c.2.1=true)
  (Q:=fun (c:Option (Option Nat) × Nat × Nat) st'=>st'=st∧c.1=none∧c.2.1 < c.2.2∧c.2.1 < mx∧C c.2.1=true∧(c.2.2≥mx∨(c.2.2 < mx∧C c.2.2=false))) ?step ?fin (And.intro rfl ⟨rfl,by show 0 < 1; omega,by show 0 < mx; omega,by show 0+1≤1; omega,c0⟩)) ?post)
 case fin =>
  rintro ⟨r,la,of⟩ st' ⟨e,e1,c1,c2,c3,c4⟩
  have c3:max 0 n+1≤of:=c3
  exact And.intro e ⟨e1,c1,c2,c4,.inl (by show of≥mx; omega)⟩
 case step =>
  rintro x ⟨r,la,of⟩ st' _ hx ⟨e,e1,c1,c2,c3,c4⟩
  have e1:r=none:=e1
  subst e1
  subst e
  have c1:la < of:=c1
  have c2:la < mx:=c2
  have c3:x+1≤of:=c3
  refine hf x la of _ (fun hl=>?_) (fun hl hb=>?_) (fun hl hb=>?_)
  ·exact And.intro rfl ⟨rfl,c1,c2,c4,.inl hl⟩
  ·exact And.intro rfl ⟨rfl,c1,c2,c4,.inr ⟨hl,hb⟩⟩
  ·exact And.intro rfl ⟨rfl,by show of < 2 * of+1; omega,hl,by show x+1+1≤2 * of+1; omega,hb⟩
 case post =>
  rintro ⟨r,la,of⟩ st' ⟨e,e1,c1,c2,c3,c4⟩
  have e1:r=none:=e1
  subst e1
  subst e
  exact hg la of c1 c2 c3 c4
theorem Za3 {left:Bool} {key:Keyed} {arr:Array Keyed} {base n hint:Nat} {kd:SortKind} {B:Nat→Bool} {st:SortSt} {Q:Option Nat→SortSt→Prop} (hk:kindOf st=kd) (ask:AskG M A E s left key arr base n kd B) (mono:∀ i j,i≤j→j < n→B j=true→B i=true) (hh:hint < n)
  (h:∀ k,k≤n→(∀ i,i < k→B i=true)→(∀ i,k≤i→i < n→B i=false)→Q (some k) st):wpS M A E s (gallopG left key arr base n hint) Q st:=by
 have anti:∀ i j,i≤j→j < n→B i=false→B j=false:=fun i j hij hj hi=>by
  cases e:B j with
  | false=>rfl
  | true=>rw [mono i j hij hj e] at hi; cases hi
 refine wpS_bind (ask hint hh st _ hk ?_)
 dsimp only
 cases hr:B hint with
 | true =>
  rw [if_pos rfl]
  refine stride (mx:=n - hint) (C:=fun o=>B (hint+o)) (by omega) (by omega) hr (fun x la of Q' k1 k2 k3=>?_) (fun la of d1 d2 d3 d4=>?_)
  ·dsimp only
   by_cases hl:of≥n - hint
   ·rw [if_pos hl]; exact wpS_pure (k1 hl)
   ·rw [if_neg hl]
    refine wpS_bind (ask (hint+of) (by omega) st _ hk ?_)
    dsimp only
    cases hb:B (hint+of) with
    | true=>exact wpS_pure (k3 (by omega) hb)
    | false=>exact wpS_pure (k2 (by omega) hb)
  ·dsimp only
   refine halve mono (fun x lo hi Q' hn k1 k2 k3=>?_) (fun lo hi=>rfl) (by omega) (by omega) (fun i hi=>mono i (hint+la) (by omega) (by omega) d3) (fun i hi hi2=>?_) h
   ·dsimp only
    by_cases hl:lo≥hi
    ·rw [if_pos hl]; exact wpS_pure (k1 hl)
    ·rw [if_neg hl]
     refine wpS_bind (ask (lo+(hi - lo) / 2) (by omega) st _ hk ?_)
     dsimp only
     cases hb:B (lo+(hi - lo) / 2) with
     | true=>exact wpS_pure (k2 (by omega) hb)
     | false=>exact wpS_pure (k3 (by omega) hb)
   ·rcases d4 with d4 | ⟨d4,d5⟩
    ·omega
    ·exact anti (hint+of) i (by omega) hi2 d5
 | false =>
  rw [if_neg Bool.false_ne_true]
  refine stride (mx:=hint+1) (C:=fun o=>!B (hint - o)) (by omega) (by omega) (by show (!B hint)=true; rw [hr]; rfl) (fun x la of Q' k1 k2 k3=>?_) (fun la of d1 d2 d3 d4=>?_)
  ·dsimp only
   by_cases hl:of≥hint+1
   ·rw [if_pos hl]; exact wpS_pure (k1 hl)
   ·rw [if_neg hl]
    refine wpS_bind (ask (hint - of) (by omega) st _ hk ?_)
    dsimp only
    cases hb:B (hint - of) with
    | true=>exact wpS_pure (k2 (by omega) (by rw [hb]; rfl))
    | false=>exact wpS_pure (k3 (by omega) (by rw [hb]; rfl))
  ·dsimp only
   have d3:B (hint - la)=false:=by simpa using d3
   refine halve mono (fun x lo hi Q' hn k1 k2 k3=>?_) (fun lo hi=>rfl) (by omega) (by omega) (fun i hi=>?_) (fun i hi hi2=>anti (hint - la) i (by omega) hi2 d3) h
   ·dsimp only
    by_cases hl:lo≥hi
    ·rw [if_pos hl]; exact wpS_pure (k1 hl)
    ·rw [if_neg hl]
     refine wpS_bind (ask (lo+(hi - lo) / 2) (by omega) st _ hk ?_)
     dsimp only
     cases hb:B (lo+(hi - lo) / 2) with
     | true=>exact wpS_pure (k2 (by omega) hb)
     | false=>exact wpS_pure (k3 (by omega) hb)
   ·rcases d4 with d4 | ⟨d4,d5⟩
    ·omega
    ·have d5:B (hint - of)=true:=by simpa using d5
     exact mono i (hint - of) (by omega) (by omega) d5
def LtG (M:Model) (A:Around) (E:Value→Shared→Prop) (s:Shared) (kd:SortKind) (κ:Keyed→Int) (S:Keyed→Prop):Prop :=
 ∀ x y,S x→S y→∀ (st:SortSt) (Q:Option Bool→SortSt→Prop),kindOf st=kd→Q (some (decide (κ x < κ y))) st→wpS M A E s (lt' x y) Q st
theorem Zah {arr:Array Keyed} {i:Nat} {x:Keyed} {st:SortSt} {Q:Keyed→SortSt→Prop} (hx:arr[i]?=some x) (h:Q x st):wpS M A E s (elem' arr i) Q st:=by
 rw [elem'_eq,hx]
 exact wpS_pure h
theorem Zd7 {kd:SortKind} {κ:Keyed→Int} {S:Keyed→Prop} (L:LtG M A E s kd κ S) {key:Keyed} {arr:Array Keyed} {base n:Nat} (hk:S key) (ha:∀ i,i < n→∃ x,arr[base+i]?=some x∧S x) :
  AskG M A E s true key arr base n kd (fun i=>decide (κ (arr.getD (base+i) default) < κ key)):=fun i hi st Q hs hq=>by
 obtain ⟨x,hx,sx⟩:=ha i hi
 refine wpS_bind (Zah hx ?_)
 rw [if_pos rfl]
 refine L x key sx hk st Q hs ?_
 have e:arr.getD (base+i) default=x:=by rw [Array.getD_eq_getD_getElem?,hx]; rfl
 dsimp only at hq
 rw [e] at hq
 exact hq
theorem Zjq {kd:SortKind} {κ:Keyed→Int} {S:Keyed→Prop} (L:LtG M A E s kd κ S) {key:Keyed} {arr:Array Keyed} {base n:Nat} (hk:S key) (ha:∀ i,i < n→∃ x,arr[base+i]?=some x∧S x) :
  AskG M A E s false key arr base n kd (fun i=>!decide (κ key < κ (arr.getD (base+i) default))):=fun i hi st Q hs hq=>by
 obtain ⟨x,hx,sx⟩:=ha i hi
 refine wpS_bind (Zah hx ?_)
 rw [if_neg Bool.false_ne_true]
 refine wpS_bind (L key x hk sx st _ hs ?_)
 have e:arr.getD (base+i) default=x:=by rw [Array.getD_eq_getD_getElem?,hx]; rfl
 dsimp only at hq
 rw [e] at hq
 exact wpS_pure hq
end
end L2
namespace L2
open PySem PySem.Spec PyProof.Rows
section
variable {α:Type} {κ:α→Int}
def Rise (κ:α→Int) (xs:List α):Prop:=xs.Pairwise fun x y=>κ x≤κ y
structure MI (κ:α→Int) (a b out:List α) (ia ib:Nat):Prop where
 pm:(out++(a.drop ia++b.drop ib)).Perm (a++b)
 so:Rise κ out
 le:∀ x∈out,∀ y∈a.drop ia++b.drop ib,κ x≤κ y
 la:ia≤a.length
 lb:ib≤b.length
theorem Rise.drop {xs:List α} (h:Rise κ xs) (n:Nat):Rise κ (xs.drop n):=List.Pairwise.sublist (List.drop_sublist n xs) h
theorem Rise.app {xs ys:List α} (h1:Rise κ xs) (h2:Rise κ ys) (h:∀ x∈xs,∀ y∈ys,κ x≤κ y):Rise κ (xs++ys):=List.pairwise_append.mpr ⟨h1,h2,h⟩
theorem Zch (xs:List α) (i k:Nat):xs.drop i=(xs.drop i).take k++xs.drop (i+k):=by
 rw [← List.drop_drop]; exact (List.take_append_drop k _).symm
theorem MI.start (a b:List α):MI κ a b [] 0 0:=⟨by simp,List.Pairwise.nil,fun x h=>absurd h List.not_mem_nil,Nat.zero_le _,Nat.zero_le _⟩
theorem MI.takeA {a b out:List α} {ia ib k:Nat} (m:MI κ a b out ia ib) (sa:Rise κ a) (hk:ia+k≤a.length) (h:∀ x∈(a.drop ia).take k,∀ y∈b.drop ib,κ x≤κ y):MI κ a b (out++(a.drop ia).take k) (ia+k) ib:=by
 have e:=Zch a ia k
 have sd:=sa.drop ia
 rw [e] at sd
 obtain ⟨s1,s2,s3⟩:=List.pairwise_append.mp sd
 refine ⟨?_,m.so.app s1 fun x hx y hy=>m.le x hx y (List.mem_append_left _ (by rw [e]; exact List.mem_append_left _ hy)),fun x hx y hy=>?_,hk,m.lb⟩
 ·refine List.Perm.trans ?_ m.pm
  rw [List.append_assoc,← List.append_assoc ((a.drop ia).take k),← e]
 ·rcases List.mem_append.mp hx with hx | hx
  ·rcases List.mem_append.mp hy with hy | hy
   ·exact m.le x hx y (List.mem_append_left _ (by rw [e]; exact List.mem_append_right _ hy))
   ·exact m.le x hx y (List.mem_append_right _ hy)
  ·rcases List.mem_append.mp hy with hy | hy
   ·exact s3 x hx y hy
   ·exact h x hx y hy
theorem MI.takeB {a b out:List α} {ia ib k:Nat} (m:MI κ a b out ia ib) (sb:Rise κ b) (hk:ib+k≤b.length) (h:∀ x∈(b.drop ib).take k,∀ y∈a.drop ia,κ x≤κ y):MI κ a b (out++(b.drop ib).take k) ia (ib+k):=by
 have e:=Zch b ib k
 have sd:=sb.drop ib
 rw [e] at sd
 obtain ⟨s1,s2,s3⟩:=List.pairwise_append.mp sd
 refine ⟨?_,m.so.app s1 fun x hx y hy=>m.le x hx y (List.mem_append_right _ (by rw [e]; exact List.mem_append_left _ hy)),fun x hx y hy=>?_,m.la,hk⟩
 ·refine List.Perm.trans ?_ m.pm
  rw [List.append_assoc]
  refine List.Perm.append_left out ?_
  have e2:a.drop ia++b.drop ib=a.drop ia++((b.drop ib).take k++b.drop (ib+k)):=by rw [← e]
  rw [e2,← List.append_assoc,← List.append_assoc]
  exact List.Perm.append_right _ List.perm_append_comm
 ·rcases List.mem_append.mp hx with hx | hx
  ·rcases List.mem_append.mp hy with hy | hy
   ·exact m.le x hx y (List.mem_append_left _ hy)
   ·exact m.le x hx y (List.mem_append_right _ (by rw [e]; exact List.mem_append_right _ hy))
  ·rcases List.mem_append.mp hy with hy | hy
   ·exact h x hx y hy
   ·exact s3 x hx y hy
theorem MI.done {a b out:List α} {ia ib:Nat} (m:MI κ a b out ia ib) (sa:Rise κ a) (sb:Rise κ b) (h:ib=b.length∨ia=a.length):Rise κ (out++a.drop ia++b.drop ib)∧(out++a.drop ia++b.drop ib).Perm (a++b):=by
 refine ⟨?_,by rw [List.append_assoc]; exact m.pm⟩
 rw [List.append_assoc]
 refine m.so.app ?_ m.le
 refine (sa.drop ia).app (sb.drop ib) fun x hx y hy=>?_
 rcases h with h | h
 ·rw [h,List.drop_length] at hy; exact absurd hy List.not_mem_nil
 ·rw [h,List.drop_length] at hx; exact absurd hx List.not_mem_nil
theorem MI.lastA {a b out:List α} {ia ib:Nat} (m:MI κ a b out ia ib) (sa:Rise κ a) (sb:Rise κ b) (h:∀ x∈b,∀ y∈a.drop ia,κ x≤κ y):Rise κ (out++b.drop ib++a.drop ia)∧(out++b.drop ib++a.drop ia).Perm (a++b):=by
 refine ⟨?_,?_⟩
 ·rw [List.append_assoc]
  refine m.so.app ((sb.drop ib).app (sa.drop ia) fun x hx y hy=>h x (List.mem_of_mem_drop hx) y hy) fun x hx y hy=>m.le x hx y ?_
  rcases List.mem_append.mp hy with hy | hy
  ·exact List.mem_append_right _ hy
  ·exact List.mem_append_left _ hy
 ·refine List.Perm.trans ?_ m.pm
  rw [List.append_assoc]
  exact List.Perm.append_left out List.perm_append_comm
end
end L2
namespace L2
open PySem PySem.Spec PyProof.Rows
section
variable {M:Model} {A:Around} {E:Value→Shared→Prop} {s:Shared}
def mergeLoG:Array Keyed→Array Keyed→StateT SortSt Sem (Array Keyed):=sortPriv% PySem.Builtin.mergeLo
theorem Zh1 {α:Type} (a:Array α) (i:Nat):(a.extract i a.size).toList=a.toList.drop i:=by
 rw [Array.toList_extract,List.extract_eq_drop_take]
 exact List.take_of_length_le (by rw [List.length_drop,Array.length_toList]; lia)
theorem ext_k {α:Type} (a:Array α) (i k:Nat):(a.extract i (i+k)).toList=(a.toList.drop i).take k:=by
 rw [Array.toList_extract,List.extract_eq_drop_take]
 congr 1; lia
theorem getG {α:Type} {a:Array α} {i:Nat} (h:i < a.size):∃ x,a[i]?=some x∧x∈a.toList∧a.toList.drop i=x :: a.toList.drop (i+1):=by
 refine ⟨a[i],by simp [h],by simp,?_⟩
 have h':i < a.toList.length:=by rw [Array.length_toList]; exact h
 rw [List.drop_eq_getElem_cons h']; simp
theorem Zcj {α:Type} {κ:α→Int} {xs:List α} (h:Rise κ xs) {i:Nat} {x:α} (e:xs.drop i=x :: xs.drop (i+1)):∀ y∈xs.drop i,κ x≤κ y:=fun y hy=>by
 have hd:=h.drop i
 rw [e] at hd hy
 rcases List.mem_cons.mp hy with rfl | hy
 ·exact Int.le_refl _
 ·exact (List.pairwise_cons.mp hd).1 y hy
theorem Zbu {α:Type} [Inhabited α] {κ:α→Int} {a:Array α} (h:Rise κ a.toList) {i j:Nat} (hij:i≤j) (hj:j < a.size):κ (a.getD i default)≤κ (a.getD j default):=by
 have hi:i < a.size:=by lia
 have ei:a.getD i default=a.toList[i]'(by simpa using hi):=by simp [Array.getD,hi]
 have ej:a.getD j default=a.toList[j]'(by simpa using hj):=by simp [Array.getD,hj]
 rw [ei,ej]
 rcases Nat.lt_or_ge i j with h' | h'
 ·exact List.pairwise_iff_getElem.mp h i j _ _ h'
 ·have:i=j:=by lia
  subst this; exact Int.le_refl _
structure Like (st st':SortSt):Prop where
 kd:kindOf st'=kindOf st
 ar:arrOf st'=arrOf st
 pe:pendingOf st'=pendingOf st
 fa:failedOf st'=failedOf st
structure GoL (κ:Keyed→Int) (a b out:Array Keyed) (ia ib:Nat):Prop where
 mi:MI κ a.toList b.toList out.toList ia ib
 la:ia+1 < a.size
 lb:ib < b.size
def Zbk (κ:Keyed→Int) (a b r:Array Keyed):Prop:=Rise κ r.toList∧r.toList.Perm (a.toList++b.toList)
theorem Za7 {κ:Keyed→Int} {a b out:Array Keyed} {ia ib:Nat} (m:MI κ a.toList b.toList out.toList ia ib) (sa:Rise κ a.toList) (sb:Rise κ b.toList) (h:ib=b.size∨ia=a.size):Zbk κ a b (out++a.extract ia a.size++b.extract ib b.size):=by
 have:=m.done sa sb (by rw [Array.length_toList,Array.length_toList]; exact h)
 unfold Zbk
 rw [Array.toList_append,Array.toList_append,Zh1,Zh1]
 exact this
theorem Za6 {κ:Keyed→Int} {a b out:Array Keyed} {ia ib:Nat} (m:MI κ a.toList b.toList out.toList ia ib) (sa:Rise κ a.toList) (sb:Rise κ b.toList) (h:∀ x∈b.toList,∀ y∈a.toList.drop ia,κ x≤κ y):Zbk κ a b (out++b.extract ib b.size++a.extract ia a.size):=by
 have:=m.lastA sa sb h
 unfold Zbk
 rw [Array.toList_append,Array.toList_append,Zh1,Zh1]
 exact this
theorem GoL.stepB {κ:Keyed→Int} {a b out:Array Keyed} {ia ib:Nat} {x y:Keyed} (g:GoL κ a b out ia ib) (sa:Rise κ a.toList) (sb:Rise κ b.toList) (db:b.toList.drop ib=x :: b.toList.drop (ib+1)) (da:a.toList.drop ia=y :: a.toList.drop (ia+1)) (h:κ x≤κ y):MI κ a.toList b.toList (out.push x).toList ia (ib+1):=by
 have:=g.mi.takeB sb (k:=1) (by rw [Array.length_toList]; have:=g.lb; lia) (fun z hz w hw=>?_)
 ·rw [db] at this
  rw [Array.toList_push]
  simpa using this
 ·rw [db] at hz
  have:z=x:=by simpa using hz
  rw [this]
  exact Int.le_trans h (Zcj sa da w hw)
theorem GoL.stepA {κ:Keyed→Int} {a b out:Array Keyed} {ia ib:Nat} {x y:Keyed} (g:GoL κ a b out ia ib) (sa:Rise κ a.toList) (sb:Rise κ b.toList) (db:b.toList.drop ib=x :: b.toList.drop (ib+1)) (da:a.toList.drop ia=y :: a.toList.drop (ia+1)) (h:κ y≤κ x):MI κ a.toList b.toList (out.push y).toList (ia+1) ib:=by
 have:=g.mi.takeA sa (k:=1) (by rw [Array.length_toList]; have:=g.la; lia) (fun z hz w hw=>?_)
 ·rw [da] at this
  rw [Array.toList_push]
  simpa using this
 ·rw [da] at hz
  have:z=y:=by simpa using hz
  rw [this]
  exact Int.le_trans h (Zcj sb db w hw)
theorem MI.pushB {κ:Keyed→Int} {a b out:Array Keyed} {ia ib:Nat} {x:Keyed} (m:MI κ a.toList b.toList out.toList ia ib) (sb:Rise κ b.toList) (lb:ib < b.size) (db:b.toList.drop ib=x :: b.toList.drop (ib+1)) (h:∀ w∈a.toList.drop ia,κ x≤κ w):MI κ a.toList b.toList (out.push x).toList ia (ib+1):=by
 have:=m.takeB sb (k:=1) (by rw [Array.length_toList]; lia) (fun z hz w hw=>?_)
 ·rw [db] at this
  rw [Array.toList_push]
  simpa using this
 ·rw [db] at hz
  have:z=x:=by simpa using hz
  rw [this]; exact h w hw
theorem MI.pushA {κ:Keyed→Int} {a b out:Array Keyed} {ia ib:Nat} {x:Keyed} (m:MI κ a.toList b.toList out.toList ia ib) (sa:Rise κ a.toList) (la:ia < a.size) (da:a.toList.drop ia=x :: a.toList.drop (ia+1)) (h:∀ w∈b.toList.drop ib,κ x≤κ w):MI κ a.toList b.toList (out.push x).toList (ia+1) ib:=by
 have:=m.takeA sa (k:=1) (by rw [Array.length_toList]; lia) (fun z hz w hw=>?_)
 ·rw [da] at this
  rw [Array.toList_push]
  simpa using this
 ·rw [da] at hz
  have:z=x:=by simpa using hz
  rw [this]; exact h w hw
theorem MI.extA {κ:Keyed→Int} {a b out:Array Keyed} {ia ib k:Nat} (m:MI κ a.toList b.toList out.toList ia ib) (sa:Rise κ a.toList) (hk:ia+k≤a.size) (h:∀ x∈(a.toList.drop ia).take k,∀ y∈b.toList.drop ib,κ x≤κ y):MI κ a.toList b.toList (out++a.extract ia (ia+k)).toList (ia+k) ib:=by
 rw [Array.toList_append,ext_k]
 exact m.takeA sa (by rw [Array.length_toList]; exact hk) h
theorem MI.extB {κ:Keyed→Int} {a b out:Array Keyed} {ia ib k:Nat} (m:MI κ a.toList b.toList out.toList ia ib) (sb:Rise κ b.toList) (hk:ib+k≤b.size) (h:∀ x∈(b.toList.drop ib).take k,∀ y∈a.toList.drop ia,κ x≤κ y):MI κ a.toList b.toList (out++b.extract ib (ib+k)).toList ia (ib+k):=by
 rw [Array.toList_append,ext_k]
 exact m.takeB sb (by rw [Array.length_toList]; exact hk) h
theorem Zc8 {a:Array Keyed} {i:Nat} {x:Keyed} (h:x∈a.toList.drop i):∃ j,i+j < a.size∧x=a.getD (i+j) default:=by
 obtain ⟨j,hj,e⟩:=List.getElem_of_mem h
 rw [List.length_drop,Array.length_toList] at hj
 refine ⟨j,by lia,?_⟩
 rw [List.getElem_drop] at e
 rw [← e]
 have:i+j < a.size:=by lia
 simp [Array.getD,this]
theorem Zbc {a:Array Keyed} {i k:Nat} {x:Keyed} (h:x∈(a.toList.drop i).take k):∃ j,j < k∧i+j < a.size∧x=a.getD (i+j) default:=by
 obtain ⟨j,hj,e⟩:=List.getElem_of_mem h
 rw [List.length_take,List.length_drop,Array.length_toList] at hj
 refine ⟨j,by lia,by lia,?_⟩
 rw [List.getElem_take,List.getElem_drop] at e
 rw [← e]
 have:i+j < a.size:=by lia
 simp [Array.getD,this]
theorem Zhw {a:Array Keyed} {i:Nat} {x:Keyed} (h:a[i]?=some x):a.getD i default=x:=by rw [Array.getD_eq_getD_getElem?,h]; rfl
theorem Zjz {kd:SortKind} {κ:Keyed→Int} {S:Keyed→Prop} {a b:Array Keyed} {st:SortSt} {Q:Array Keyed→SortSt→Prop} (L:LtG M A E s kd κ S) (hk:kindOf st=kd) (ha:0 < a.size) (hb:0 < b.size) (hSa:∀ x∈a.toList,S x) (hSb:∀ x∈b.toList,S x)
  (sa:Rise κ a.toList) (sb:Rise κ b.toList) (hf:∀ x∈b.toList.take 1,∀ y∈a.toList,κ x≤κ y) (hl:∀ x∈b.toList,∀ y∈a.toList.drop (a.size - 1),κ x≤κ y)
  (h:∀ r st',Zbk κ a b r→Like st st'→Q r st'):wpS M A E s (mergeLoG a b) Q st:=by
 refine wpS_bind (wpS_lift (wpAny_rule ⟨rfl,?_⟩))
 obtain ⟨b0,eb0,mb0,db0⟩:=getG hb
 have lk0:Like st st:=⟨rfl,rfl,rfl,rfl⟩
 have m0:MI κ a.toList b.toList (#[b0]:Array Keyed).toList 0 1:=by
  have:=(MI.start (κ:=κ) a.toList b.toList).takeB sb (k:=1) (by rw [Array.length_toList]; lia) (fun x hx y hy=>hf x (by simpa using hx) y (by simpa using hy))
  rw [db0] at this
  simpa using this
 refine wpS_bind (Zah eb0 ?_)
 dsimp only
 by_cases h1:1=b.size
 ·rw [if_pos (beq_iff_eq.mpr h1)]
  exact wpS_pure (h _ _ (Za7 m0 sa sb (.inl h1)) lk0)
 rw [if_neg (fun z=>h1 (beq_iff_eq.mp z))]
 by_cases h2:0+1=a.size
 ·rw [if_pos (beq_iff_eq.mpr h2)]
  exact wpS_pure (h _ _ (Za6 m0 sa sb (by rw [show (0:Nat)=a.size - 1 by lia]; exact hl)) lk0)
 rw [if_neg (fun z=>h2 (beq_iff_eq.mp z))]
 refine wpS_bind (wpS_get ?_)
 refine wpS_bind (wpS_mono (wpS_forRange (I:=fun x (c:Option (Array Keyed) × Array Keyed × Nat × Nat × Nat) st'=>c.1=none∧GoL κ a b c.2.1 c.2.2.1 c.2.2.2.1∧x+1≤c.2.2.1+c.2.2.2.1∧Like st st')
  (Q:=fun (c:Option (Array Keyed) × Array Keyed × Nat × Nat × Nat) st'=>Like st st'∧∃ r,c.1=some r∧Zbk κ a b r) ?ostep ?ofin (And.intro rfl ⟨⟨m0,by show 0+1 < a.size; lia,by show 1 < b.size; lia⟩,by show 0+1≤0+1; lia,lk0⟩)) ?opost)
 case ofin =>
  rintro ⟨r,out,ia,ib,mg⟩ st1 ⟨e1,go,hge,lk⟩
  have hge:max 0 (a.size+b.size)+1≤ia+ib:=hge
  have l1:ia+1 < a.size:=go.la
  have l2:ib < b.size:=go.lb
  lia
 case opost =>
  rintro ⟨r,out,ia,ib,mg⟩ st1 ⟨lk,r',e1,mr⟩
  have e1:r=some r':=e1
  subst e1
  exact wpS_pure (h _ _ mr lk)
 case ostep =>
  rintro x ⟨r,out,ia,ib,mg⟩ st1 _ hx ⟨e1,go,hge,lk⟩
  have e1:r=none:=e1
  subst e1
  have hge:x+1≤ia+ib:=hge
  dsimp only
  refine wpS_bind (wpS_mono (wpS_forRange (I:=fun y (c:Option (Array Keyed) × Array Keyed × Nat × Nat × Nat × Nat) st'=>c.1=none∧GoL κ a b c.2.1 c.2.2.1 c.2.2.2.1∧c.2.2.1+c.2.2.2.1=ia+ib+y∧Like st st')
   (Q:=fun (c:Option (Array Keyed) × Array Keyed × Nat × Nat × Nat × Nat) st'=>Like st st'∧((∃ r,c.1=some r∧Zbk κ a b r)∨(c.1=none∧GoL κ a b c.2.1 c.2.2.1 c.2.2.2.1∧ia+ib+1≤c.2.2.1+c.2.2.2.1))) ?istep ?ifin (And.intro rfl ⟨go,rfl,lk⟩)) ?ipost)
  case ifin =>
   rintro ⟨r,out,ia',ib',ac,bc⟩ st2 ⟨e1,go',hs,lk'⟩
   have hs:ia'+ib'=ia+ib+max 0 (a.size+b.size):=hs
   exact And.intro lk' (.inr ⟨e1,go',by show ia+ib+1≤ia'+ib'; lia⟩)
  case istep =>
   rintro y ⟨r,out',ia',ib',ac,bc⟩ st2 _ hy ⟨e1,go',hs,lk'⟩
   have e1:r=none:=e1
   subst e1
   have go':GoL κ a b out' ia' ib':=go'
   have hs:ia'+ib'=ia+ib+y:=hs
   have l1:=go'.la
   have l2:=go'.lb
   dsimp only
   obtain ⟨xb,exb,mb,db⟩:=getG l2
   obtain ⟨xa,exa,ma,da⟩:=getG (show ia' < a.size by lia)
   refine wpS_bind (Zah exb (wpS_bind (Zah exa (wpS_bind (L xb xa (hSb _ mb) (hSa _ ma) st2 _ (lk'.kd.trans hk) ?_)))))
   dsimp only
   by_cases hlt:κ xb < κ xa
   ·rw [decide_eq_true hlt,if_pos rfl]
    refine wpS_bind (Zah exb ?_)
    have mi':=go'.stepB sa sb db da (Int.le_of_lt hlt)
    by_cases q1:ib'+1=b.size
    ·rw [if_pos (beq_iff_eq.mpr q1)]
     exact wpS_pure (And.intro lk' (.inl ⟨_,rfl,Za7 mi' sa sb (.inl q1)⟩))
    ·rw [if_neg (fun z=>q1 (beq_iff_eq.mp z))]
     have gn:GoL κ a b (out'.push xb) ia' (ib'+1):=⟨mi',l1,by lia⟩
     split
     ·exact wpS_pure (And.intro lk' (.inr ⟨rfl,gn,by show ia+ib+1≤ia'+(ib'+1); lia⟩))
     ·exact wpS_pure (And.intro rfl ⟨gn,by show ia'+(ib'+1)=ia+ib+(y+1); lia,lk'⟩)
   ·rw [decide_eq_false hlt,if_neg Bool.false_ne_true]
    refine wpS_bind (Zah exa ?_)
    have mi':=go'.stepA sa sb db da (by lia)
    by_cases q1:ia'+1+1=a.size
    ·rw [if_pos (beq_iff_eq.mpr q1)]
     exact wpS_pure (And.intro lk' (.inl ⟨_,rfl,Za6 mi' sa sb (by rw [show ia'+1=a.size - 1 by lia]; exact hl)⟩))
    ·rw [if_neg (fun z=>q1 (beq_iff_eq.mp z))]
     have gn:GoL κ a b (out'.push xa) (ia'+1) ib':=⟨mi',by lia,l2⟩
     split
     ·exact wpS_pure (And.intro lk' (.inr ⟨rfl,gn,by show ia+ib+1≤ia'+1+ib'; lia⟩))
     ·exact wpS_pure (And.intro rfl ⟨gn,by show ia'+1+ib'=ia+ib+(y+1); lia,lk'⟩)
  case ipost =>
   rintro ⟨r,out',ia',ib',ac,bc⟩ st2 ⟨lk',hh⟩
   rcases hh with ⟨r',e1,mr⟩ | ⟨e1,go',hs⟩
   ·have e1:r=some r':=e1
    subst e1
    exact wpS_pure (And.intro lk' ⟨_,rfl,mr⟩)
   ·have e1:r=none:=e1
    subst e1
    have go':GoL κ a b out' ia' ib':=go'
    have hs:ia+ib+1≤ia'+ib':=hs
    dsimp only
    refine wpS_bind (wpS_lift (wpAny_rule ⟨rfl,?_⟩))
    refine wpS_bind (wpS_mono (wpS_forRange (I:=fun y (c:Option (Array Keyed) × Array Keyed × Nat × Nat × Nat × Nat × Nat) st'=>c.1=none∧GoL κ a b c.2.1 c.2.2.1 c.2.2.2.1∧ia+ib+1≤c.2.2.1+c.2.2.2.1∧Like st st')
     (Q:=fun (c:Option (Array Keyed) × Array Keyed × Nat × Nat × Nat × Nat × Nat) st'=>Like st st'∧((∃ r,c.1=some r∧Zbk κ a b r)∨(c.1=none∧GoL κ a b c.2.1 c.2.2.1 c.2.2.2.1∧ia+ib+1≤c.2.2.1+c.2.2.2.1))) ?gstep ?gfin (And.intro rfl ⟨go',hs,lk'⟩)) ?gpost)
    case gfin =>
     rintro ⟨r,out,ia2,ib2,mg2,ac,bc⟩ st3 ⟨e1,go2,hs2,lk2⟩
     exact And.intro lk2 (.inr ⟨e1,go2,hs2⟩)
    case gpost =>
     rintro ⟨r,out,ia2,ib2,mg2,ac,bc⟩ st3 ⟨lk2,hh2⟩
     rcases hh2 with ⟨r',e1,mr⟩ | ⟨e1,go2,hs2⟩
     ·have e1:r=some r':=e1
      subst e1
      exact wpS_pure (And.intro lk2 ⟨_,rfl,mr⟩)
     ·have e1:r=none:=e1
      subst e1
      have hs2:ia+ib+1≤ia2+ib2:=hs2
      refine wpS_bind (wpS_modify ?_)
      exact wpS_pure (And.intro rfl ⟨go2,by show x+1+1≤ia2+ib2; lia,⟨lk2.kd,lk2.ar,lk2.pe,lk2.fa⟩⟩)
    case gstep =>
     rintro y ⟨r,out2,ia2,ib2,mg2,ac,bc⟩ st3 _ hy ⟨e1,go2,hs2,lk2⟩
     have e1:r=none:=e1
     subst e1
     have go2:GoL κ a b out2 ia2 ib2:=go2
     have hs2:ia+ib+1≤ia2+ib2:=hs2
     dsimp only
     have l1:=go2.la
     have l2:=go2.lb
     have inA:∀ i,i < a.size→∃ x,a[i]?=some x∧S x:=fun i hi=>by
      obtain ⟨x,e,m,_⟩:=getG hi
      exact ⟨x,e,hSa x m⟩
     have inB:∀ i,i < b.size→∃ x,b[i]?=some x∧S x:=fun i hi=>by
      obtain ⟨x,e,m,_⟩:=getG hi
      exact ⟨x,e,hSb x m⟩
     by_cases hm:mg2 > 1
     ·rw [if_pos hm]
      refine wpS_bind (wpS_modify ?_)
      have lkN:Like st (SortSt.mk' (kindOf st3) (arrOf st3) (pendingOf st3) (mg2 - 1) (failedOf st3)):=⟨lk2.kd,lk2.ar,lk2.pe,lk2.fa⟩
      obtain ⟨xb,exb,mb,db⟩:=getG l2
      refine wpS_bind (Zah exb (wpS_bind (Za3 (B:=fun i=>!decide (κ xb < κ (a.getD (ia2+i) default))) (lkN.kd.trans hk) (Zjq L (hSb _ mb) (fun i hi=>inA _ (by lia))) (fun i j hij hj hB=>?_) (by lia) fun k hk' f1 f2=>?_)))
      ·have h3:=Zbu sa (i:=ia2+i) (j:=ia2+j) (by lia) (by lia)
       simp only [Bool.not_eq_true',decide_eq_false_iff_not] at hB ⊢
       lia
      have u1:∀ z∈(a.toList.drop ia2).take k,∀ w∈b.toList.drop ib2,κ z≤κ w:=fun z hz w hw=>by
       obtain ⟨j,j1,j2,rfl⟩:=Zbc hz
       have h3:=f1 j j1
       simp only [Bool.not_eq_true',decide_eq_false_iff_not] at h3
       have h4:=Zcj sb db w hw
       lia
      have u2:∀ w∈a.toList.drop (ia2+k),κ xb≤κ w:=fun w hw=>by
       obtain ⟨j,j1,rfl⟩:=Zc8 hw
       have h3:=f2 (k+j) (by lia) (by lia)
       simp only [Bool.not_eq_false',decide_eq_true_eq] at h3
       rw [← Nat.add_assoc] at h3
       lia
      dsimp only
      by_cases p0:k > 0
      ·rw [if_pos p0]
       have m2:=go2.mi.extA sa (k:=k) (by lia) u1
       by_cases q1:ia2+k+1=a.size
       ·rw [if_pos (beq_iff_eq.mpr q1)]
        exact wpS_pure (And.intro lkN (.inl ⟨_,rfl,Za6 m2 sa sb (by rw [show ia2+k=a.size - 1 by lia]; exact hl)⟩))
       ·rw [if_neg (fun z=>q1 (beq_iff_eq.mp z))]
        by_cases q2:ia2+k=a.size
        ·rw [if_pos (beq_iff_eq.mpr q2)]
         exact wpS_pure (And.intro lkN (.inl ⟨_,rfl,Za7 m2 sa sb (.inr q2)⟩))
        ·rw [if_neg (fun z=>q2 (beq_iff_eq.mp z))]
         have kB:=u2
         refine wpS_bind (Zah exb ?_)
         have m3:=m2.pushB sb l2 db kB
         by_cases q3:ib2+1=b.size
         ·rw [if_pos (beq_iff_eq.mpr q3)]
          exact wpS_pure (And.intro lkN (.inl ⟨_,rfl,Za7 m3 sa sb (.inl q3)⟩))
         ·rw [if_neg (fun z=>q3 (beq_iff_eq.mp z))]
          obtain ⟨xa,exa,ma,da⟩:=getG (show ia2+k < a.size by lia)
          refine wpS_bind (Zah exa (wpS_bind (Za3 (B:=fun i=>decide (κ (b.getD (ib2+1+i) default) < κ xa)) (lkN.kd.trans hk) (Zd7 L (hSa _ ma) (fun i hi=>inB _ (by lia))) (fun i j hij hj hB=>decide_eq_true (Int.lt_of_le_of_lt (Zbu sb (by lia) (by lia)) (of_decide_eq_true hB))) (by lia) fun k1 hk1 g1 g2=>?_)))
          have t1:∀ z∈(b.toList.drop (ib2+1)).take k1,∀ w∈a.toList.drop (ia2+k),κ z≤κ w:=fun z hz w hw=>by
           obtain ⟨j,j1,j2,rfl⟩:=Zbc hz
           exact Int.le_trans (Int.le_of_lt (of_decide_eq_true (g1 j j1))) (Zcj sa da w hw)
          have t2:∀ w∈b.toList.drop (ib2+1+k1),κ xa≤κ w:=fun w hw=>by
           obtain ⟨j,j1,rfl⟩:=Zc8 hw
           have:=of_decide_eq_false (g2 (k1+j) (by lia) (by lia))
           rw [← Nat.add_assoc] at this
           lia
          dsimp only
          by_cases p1:k1 > 0
          ·rw [if_pos p1]
           have m4:=m3.extB sb (k:=k1) (by lia) t1
           by_cases q4:ib2+1+k1=b.size
           ·rw [if_pos (beq_iff_eq.mpr q4)]
            exact wpS_pure (And.intro lkN (.inl ⟨_,rfl,Za7 m4 sa sb (.inl q4)⟩))
           ·rw [if_neg (fun z=>q4 (beq_iff_eq.mp z))]
            have kA:=t2
            refine wpS_bind (Zah exa ?_)
            have m5:=m4.pushA sa (by lia) da kA
            by_cases q5:ia2+k+1+1=a.size
            ·rw [if_pos (beq_iff_eq.mpr q5)]
             exact wpS_pure (And.intro lkN (.inl ⟨_,rfl,Za6 m5 sa sb (by rw [show ia2+k+1=a.size - 1 by lia]; exact hl)⟩))
            ·rw [if_neg (fun z=>q5 (beq_iff_eq.mp z))]
             have gn:GoL κ a b _ (ia2+k+1) (ib2+1+k1):=⟨m5,by lia,by lia⟩
             split
             ·exact wpS_pure (And.intro lkN (.inr ⟨rfl,gn,by show ia+ib+1≤ia2+k+1+(ib2+1+k1); lia⟩))
             ·exact wpS_pure (And.intro rfl ⟨gn,by show ia+ib+1≤ia2+k+1+(ib2+1+k1); lia,lkN⟩)
          ·rw [if_neg p1]
           have k10:k1=0:=by lia
           subst k10
           have kA:∀ w∈b.toList.drop (ib2+1),κ xa≤κ w:=t2
           refine wpS_bind (Zah exa ?_)
           have m5:=m3.pushA sa (by lia) da kA
           by_cases q5:ia2+k+1+1=a.size
           ·rw [if_pos (beq_iff_eq.mpr q5)]
            exact wpS_pure (And.intro lkN (.inl ⟨_,rfl,Za6 m5 sa sb (by rw [show ia2+k+1=a.size - 1 by lia]; exact hl)⟩))
           ·rw [if_neg (fun z=>q5 (beq_iff_eq.mp z))]
            have gn:GoL κ a b _ (ia2+k+1) (ib2+1):=⟨m5,by lia,by lia⟩
            split
            ·exact wpS_pure (And.intro lkN (.inr ⟨rfl,gn,by show ia+ib+1≤ia2+k+1+(ib2+1); lia⟩))
            ·exact wpS_pure (And.intro rfl ⟨gn,by show ia+ib+1≤ia2+k+1+(ib2+1); lia,lkN⟩)
      ·rw [if_neg p0]
       have k00:k=0:=by lia
       subst k00
       have kB:∀ w∈a.toList.drop ia2,κ xb≤κ w:=u2
       have mi2:=go2.mi
       refine wpS_bind (Zah exb ?_)
       have m3:=mi2.pushB sb l2 db kB
       by_cases q3:ib2+1=b.size
       ·rw [if_pos (beq_iff_eq.mpr q3)]
        exact wpS_pure (And.intro lkN (.inl ⟨_,rfl,Za7 m3 sa sb (.inl q3)⟩))
       ·rw [if_neg (fun z=>q3 (beq_iff_eq.mp z))]
        obtain ⟨xa,exa,ma,da⟩:=getG (show ia2 < a.size by lia)
        refine wpS_bind (Zah exa (wpS_bind (Za3 (B:=fun i=>decide (κ (b.getD (ib2+1+i) default) < κ xa)) (lkN.kd.trans hk) (Zd7 L (hSa _ ma) (fun i hi=>inB _ (by lia))) (fun i j hij hj hB=>decide_eq_true (Int.lt_of_le_of_lt (Zbu sb (by lia) (by lia)) (of_decide_eq_true hB))) (by lia) fun k1 hk1 g1 g2=>?_)))
        have t1:∀ z∈(b.toList.drop (ib2+1)).take k1,∀ w∈a.toList.drop (ia2),κ z≤κ w:=fun z hz w hw=>by
         obtain ⟨j,j1,j2,rfl⟩:=Zbc hz
         exact Int.le_trans (Int.le_of_lt (of_decide_eq_true (g1 j j1))) (Zcj sa da w hw)
        have t2:∀ w∈b.toList.drop (ib2+1+k1),κ xa≤κ w:=fun w hw=>by
         obtain ⟨j,j1,rfl⟩:=Zc8 hw
         have:=of_decide_eq_false (g2 (k1+j) (by lia) (by lia))
         rw [← Nat.add_assoc] at this
         lia
        dsimp only
        by_cases p1:k1 > 0
        ·rw [if_pos p1]
         have m4:=m3.extB sb (k:=k1) (by lia) t1
         by_cases q4:ib2+1+k1=b.size
         ·rw [if_pos (beq_iff_eq.mpr q4)]
          exact wpS_pure (And.intro lkN (.inl ⟨_,rfl,Za7 m4 sa sb (.inl q4)⟩))
         ·rw [if_neg (fun z=>q4 (beq_iff_eq.mp z))]
          have kA:=t2
          refine wpS_bind (Zah exa ?_)
          have m5:=m4.pushA sa (by lia) da kA
          by_cases q5:ia2+1+1=a.size
          ·rw [if_pos (beq_iff_eq.mpr q5)]
           exact wpS_pure (And.intro lkN (.inl ⟨_,rfl,Za6 m5 sa sb (by rw [show ia2+1=a.size - 1 by lia]; exact hl)⟩))
          ·rw [if_neg (fun z=>q5 (beq_iff_eq.mp z))]
           have gn:GoL κ a b _ (ia2+1) (ib2+1+k1):=⟨m5,by lia,by lia⟩
           split
           ·exact wpS_pure (And.intro lkN (.inr ⟨rfl,gn,by show ia+ib+1≤ia2+1+(ib2+1+k1); lia⟩))
           ·exact wpS_pure (And.intro rfl ⟨gn,by show ia+ib+1≤ia2+1+(ib2+1+k1); lia,lkN⟩)
        ·rw [if_neg p1]
         have k10:k1=0:=by lia
         subst k10
         have kA:∀ w∈b.toList.drop (ib2+1),κ xa≤κ w:=t2
         refine wpS_bind (Zah exa ?_)
         have m5:=m3.pushA sa (by lia) da kA
         by_cases q5:ia2+1+1=a.size
         ·rw [if_pos (beq_iff_eq.mpr q5)]
          exact wpS_pure (And.intro lkN (.inl ⟨_,rfl,Za6 m5 sa sb (by rw [show ia2+1=a.size - 1 by lia]; exact hl)⟩))
         ·rw [if_neg (fun z=>q5 (beq_iff_eq.mp z))]
          have gn:GoL κ a b _ (ia2+1) (ib2+1):=⟨m5,by lia,by lia⟩
          split
          ·exact wpS_pure (And.intro lkN (.inr ⟨rfl,gn,by show ia+ib+1≤ia2+1+(ib2+1); lia⟩))
          ·exact wpS_pure (And.intro rfl ⟨gn,by show ia+ib+1≤ia2+1+(ib2+1); lia,lkN⟩)
     ·rw [if_neg hm]
      refine wpS_bind (wpS_modify ?_)
      have lkN:Like st (SortSt.mk' (kindOf st3) (arrOf st3) (pendingOf st3) mg2 (failedOf st3)):=⟨lk2.kd,lk2.ar,lk2.pe,lk2.fa⟩
      obtain ⟨xb,exb,mb,db⟩:=getG l2
      refine wpS_bind (Zah exb (wpS_bind (Za3 (B:=fun i=>!decide (κ xb < κ (a.getD (ia2+i) default))) (lkN.kd.trans hk) (Zjq L (hSb _ mb) (fun i hi=>inA _ (by lia))) (fun i j hij hj hB=>?_) (by lia) fun k hk' f1 f2=>?_)))
      ·have h3:=Zbu sa (i:=ia2+i) (j:=ia2+j) (by lia) (by lia)
       simp only [Bool.not_eq_true',decide_eq_false_iff_not] at hB ⊢
       lia
      have u1:∀ z∈(a.toList.drop ia2).take k,∀ w∈b.toList.drop ib2,κ z≤κ w:=fun z hz w hw=>by
       obtain ⟨j,j1,j2,rfl⟩:=Zbc hz
       have h3:=f1 j j1
       simp only [Bool.not_eq_true',decide_eq_false_iff_not] at h3
       have h4:=Zcj sb db w hw
       lia
      have u2:∀ w∈a.toList.drop (ia2+k),κ xb≤κ w:=fun w hw=>by
       obtain ⟨j,j1,rfl⟩:=Zc8 hw
       have h3:=f2 (k+j) (by lia) (by lia)
       simp only [Bool.not_eq_false',decide_eq_true_eq] at h3
       rw [← Nat.add_assoc] at h3
       lia
      dsimp only
      by_cases p0:k > 0
      ·rw [if_pos p0]
       have m2:=go2.mi.extA sa (k:=k) (by lia) u1
       by_cases q1:ia2+k+1=a.size
       ·rw [if_pos (beq_iff_eq.mpr q1)]
        exact wpS_pure (And.intro lkN (.inl ⟨_,rfl,Za6 m2 sa sb (by rw [show ia2+k=a.size - 1 by lia]; exact hl)⟩))
       ·rw [if_neg (fun z=>q1 (beq_iff_eq.mp z))]
        by_cases q2:ia2+k=a.size
        ·rw [if_pos (beq_iff_eq.mpr q2)]
         exact wpS_pure (And.intro lkN (.inl ⟨_,rfl,Za7 m2 sa sb (.inr q2)⟩))
        ·rw [if_neg (fun z=>q2 (beq_iff_eq.mp z))]
         have kB:=u2
         refine wpS_bind (Zah exb ?_)
         have m3:=m2.pushB sb l2 db kB
         by_cases q3:ib2+1=b.size
         ·rw [if_pos (beq_iff_eq.mpr q3)]
          exact wpS_pure (And.intro lkN (.inl ⟨_,rfl,Za7 m3 sa sb (.inl q3)⟩))
         ·rw [if_neg (fun z=>q3 (beq_iff_eq.mp z))]
          obtain ⟨xa,exa,ma,da⟩:=getG (show ia2+k < a.size by lia)
          refine wpS_bind (Zah exa (wpS_bind (Za3 (B:=fun i=>decide (κ (b.getD (ib2+1+i) default) < κ xa)) (lkN.kd.trans hk) (Zd7 L (hSa _ ma) (fun i hi=>inB _ (by lia))) (fun i j hij hj hB=>decide_eq_true (Int.lt_of_le_of_lt (Zbu sb (by lia) (by lia)) (of_decide_eq_true hB))) (by lia) fun k1 hk1 g1 g2=>?_)))
          have t1:∀ z∈(b.toList.drop (ib2+1)).take k1,∀ w∈a.toList.drop (ia2+k),κ z≤κ w:=fun z hz w hw=>by
           obtain ⟨j,j1,j2,rfl⟩:=Zbc hz
           exact Int.le_trans (Int.le_of_lt (of_decide_eq_true (g1 j j1))) (Zcj sa da w hw)
          have t2:∀ w∈b.toList.drop (ib2+1+k1),κ xa≤κ w:=fun w hw=>by
           obtain ⟨j,j1,rfl⟩:=Zc8 hw
           have:=of_decide_eq_false (g2 (k1+j) (by lia) (by lia))
           rw [← Nat.add_assoc] at this
           lia
          dsimp only
          by_cases p1:k1 > 0
          ·rw [if_pos p1]
           have m4:=m3.extB sb (k:=k1) (by lia) t1
           by_cases q4:ib2+1+k1=b.size
           ·rw [if_pos (beq_iff_eq.mpr q4)]
            exact wpS_pure (And.intro lkN (.inl ⟨_,rfl,Za7 m4 sa sb (.inl q4)⟩))
           ·rw [if_neg (fun z=>q4 (beq_iff_eq.mp z))]
            have kA:=t2
            refine wpS_bind (Zah exa ?_)
            have m5:=m4.pushA sa (by lia) da kA
            by_cases q5:ia2+k+1+1=a.size
            ·rw [if_pos (beq_iff_eq.mpr q5)]
             exact wpS_pure (And.intro lkN (.inl ⟨_,rfl,Za6 m5 sa sb (by rw [show ia2+k+1=a.size - 1 by lia]; exact hl)⟩))
            ·rw [if_neg (fun z=>q5 (beq_iff_eq.mp z))]
             have gn:GoL κ a b _ (ia2+k+1) (ib2+1+k1):=⟨m5,by lia,by lia⟩
             split
             ·exact wpS_pure (And.intro lkN (.inr ⟨rfl,gn,by show ia+ib+1≤ia2+k+1+(ib2+1+k1); lia⟩))
             ·exact wpS_pure (And.intro rfl ⟨gn,by show ia+ib+1≤ia2+k+1+(ib2+1+k1); lia,lkN⟩)
          ·rw [if_neg p1]
           have k10:k1=0:=by lia
           subst k10
           have kA:∀ w∈b.toList.drop (ib2+1),κ xa≤κ w:=t2
           refine wpS_bind (Zah exa ?_)
           have m5:=m3.pushA sa (by lia) da kA
           by_cases q5:ia2+k+1+1=a.size
           ·rw [if_pos (beq_iff_eq.mpr q5)]
            exact wpS_pure (And.intro lkN (.inl ⟨_,rfl,Za6 m5 sa sb (by rw [show ia2+k+1=a.size - 1 by lia]; exact hl)⟩))
           ·rw [if_neg (fun z=>q5 (beq_iff_eq.mp z))]
            have gn:GoL κ a b _ (ia2+k+1) (ib2+1):=⟨m5,by lia,by lia⟩
            split
            ·exact wpS_pure (And.intro lkN (.inr ⟨rfl,gn,by show ia+ib+1≤ia2+k+1+(ib2+1); lia⟩))
            ·exact wpS_pure (And.intro rfl ⟨gn,by show ia+ib+1≤ia2+k+1+(ib2+1); lia,lkN⟩)
      ·rw [if_neg p0]
       have k00:k=0:=by lia
       subst k00
       have kB:∀ w∈a.toList.drop ia2,κ xb≤κ w:=u2
       have mi2:=go2.mi
       refine wpS_bind (Zah exb ?_)
       have m3:=mi2.pushB sb l2 db kB
       by_cases q3:ib2+1=b.size
       ·rw [if_pos (beq_iff_eq.mpr q3)]
        exact wpS_pure (And.intro lkN (.inl ⟨_,rfl,Za7 m3 sa sb (.inl q3)⟩))
       ·rw [if_neg (fun z=>q3 (beq_iff_eq.mp z))]
        obtain ⟨xa,exa,ma,da⟩:=getG (show ia2 < a.size by lia)
        refine wpS_bind (Zah exa (wpS_bind (Za3 (B:=fun i=>decide (κ (b.getD (ib2+1+i) default) < κ xa)) (lkN.kd.trans hk) (Zd7 L (hSa _ ma) (fun i hi=>inB _ (by lia))) (fun i j hij hj hB=>decide_eq_true (Int.lt_of_le_of_lt (Zbu sb (by lia) (by lia)) (of_decide_eq_true hB))) (by lia) fun k1 hk1 g1 g2=>?_)))
        have t1:∀ z∈(b.toList.drop (ib2+1)).take k1,∀ w∈a.toList.drop (ia2),κ z≤κ w:=fun z hz w hw=>by
         obtain ⟨j,j1,j2,rfl⟩:=Zbc hz
         exact Int.le_trans (Int.le_of_lt (of_decide_eq_true (g1 j j1))) (Zcj sa da w hw)
        have t2:∀ w∈b.toList.drop (ib2+1+k1),κ xa≤κ w:=fun w hw=>by
         obtain ⟨j,j1,rfl⟩:=Zc8 hw
         have:=of_decide_eq_false (g2 (k1+j) (by lia) (by lia))
         rw [← Nat.add_assoc] at this
         lia
        dsimp only
        by_cases p1:k1 > 0
        ·rw [if_pos p1]
         have m4:=m3.extB sb (k:=k1) (by lia) t1
         by_cases q4:ib2+1+k1=b.size
         ·rw [if_pos (beq_iff_eq.mpr q4)]
          exact wpS_pure (And.intro lkN (.inl ⟨_,rfl,Za7 m4 sa sb (.inl q4)⟩))
         ·rw [if_neg (fun z=>q4 (beq_iff_eq.mp z))]
          have kA:=t2
          refine wpS_bind (Zah exa ?_)
          have m5:=m4.pushA sa (by lia) da kA
          by_cases q5:ia2+1+1=a.size
          ·rw [if_pos (beq_iff_eq.mpr q5)]
           exact wpS_pure (And.intro lkN (.inl ⟨_,rfl,Za6 m5 sa sb (by rw [show ia2+1=a.size - 1 by lia]; exact hl)⟩))
          ·rw [if_neg (fun z=>q5 (beq_iff_eq.mp z))]
           have gn:GoL κ a b _ (ia2+1) (ib2+1+k1):=⟨m5,by lia,by lia⟩
           split
           ·exact wpS_pure (And.intro lkN (.inr ⟨rfl,gn,by show ia+ib+1≤ia2+1+(ib2+1+k1); lia⟩))
           ·exact wpS_pure (And.intro rfl ⟨gn,by show ia+ib+1≤ia2+1+(ib2+1+k1); lia,lkN⟩)
        ·rw [if_neg p1]
         have k10:k1=0:=by lia
         subst k10
         have kA:∀ w∈b.toList.drop (ib2+1),κ xa≤κ w:=t2
         refine wpS_bind (Zah exa ?_)
         have m5:=m3.pushA sa (by lia) da kA
         by_cases q5:ia2+1+1=a.size
         ·rw [if_pos (beq_iff_eq.mpr q5)]
          exact wpS_pure (And.intro lkN (.inl ⟨_,rfl,Za6 m5 sa sb (by rw [show ia2+1=a.size - 1 by lia]; exact hl)⟩))
         ·rw [if_neg (fun z=>q5 (beq_iff_eq.mp z))]
          have gn:GoL κ a b _ (ia2+1) (ib2+1):=⟨m5,by lia,by lia⟩
          split
          ·exact wpS_pure (And.intro lkN (.inr ⟨rfl,gn,by show ia+ib+1≤ia2+1+(ib2+1); lia⟩))
          ·exact wpS_pure (And.intro rfl ⟨gn,by show ia+ib+1≤ia2+1+(ib2+1); lia,lkN⟩)
end
end L2
namespace L2
open PySem PySem.Spec PyProof.Rows
section
variable {α:Type} {κ:α→Int}
structure MH (κ:α→Int) (a b out:List α) (na nb:Nat):Prop where
 pm:(a.take na++b.take nb++out).Perm (a++b)
 so:Rise κ out
 le:∀ x∈a.take na++b.take nb,∀ y∈out,κ x≤κ y
 la:na≤a.length
 lb:nb≤b.length
theorem Rise.take {xs:List α} (h:Rise κ xs) (n:Nat):Rise κ (xs.take n):=List.Pairwise.sublist (List.take_sublist n xs) h
theorem Zd9 (xs:List α) {m n:Nat} (h:m≤n):xs.take n=xs.take m++(xs.take n).drop m:=by
 have:=(List.take_append_drop m (xs.take n)).symm
 rw [List.take_take,Nat.min_eq_left h] at this
 exact this
theorem MH.start (a b:List α):MH κ a b [] a.length b.length:=⟨by simp,List.Pairwise.nil,fun x _ y h=>absurd h List.not_mem_nil,Nat.le_refl _,Nat.le_refl _⟩
theorem MH.takeA {a b out:List α} {na nb m:Nat} (q:MH κ a b out na nb) (sa:Rise κ a) (hm:m≤na) (h:∀ x∈b.take nb,∀ y∈(a.take na).drop m,κ x≤κ y):MH κ a b ((a.take na).drop m++out) m nb:=by
 have e:=Zd9 a hm
 have sd:=sa.take na
 rw [e] at sd
 obtain ⟨s1,s2,s3⟩:=List.pairwise_append.mp sd
 have inn:∀ y∈(a.take na).drop m,y∈a.take na:=fun y hy=>List.mem_of_mem_drop hy
 have in1:∀ y∈a.take m,y∈a.take na:=fun y hy=>by rw [e]; exact List.mem_append_left _ hy
 refine ⟨?_,Rise.app s2 q.so fun x hx y hy=>q.le x (List.mem_append_left _ (inn x hx)) y hy,fun x hx y hy=>?_,by have:=q.la; lia,q.lb⟩
 ·refine List.Perm.trans ?_ q.pm
  rw [← List.append_assoc]
  refine List.Perm.append_right out ?_
  have e2:a.take na++b.take nb=a.take m++(a.take na).drop m++b.take nb:=by rw [← e]
  rw [e2,List.append_assoc,List.append_assoc]
  exact List.Perm.append_left _ List.perm_append_comm
 ·rcases List.mem_append.mp hy with hy | hy
  ·rcases List.mem_append.mp hx with hx | hx
   ·exact s3 x hx y hy
   ·exact h x hx y hy
  ·rcases List.mem_append.mp hx with hx | hx
   ·exact q.le x (List.mem_append_left _ (in1 x hx)) y hy
   ·exact q.le x (List.mem_append_right _ hx) y hy
theorem MH.takeB {a b out:List α} {na nb m:Nat} (q:MH κ a b out na nb) (sb:Rise κ b) (hm:m≤nb) (h:∀ x∈a.take na,∀ y∈(b.take nb).drop m,κ x≤κ y):MH κ a b ((b.take nb).drop m++out) na m:=by
 have e:=Zd9 b hm
 have sd:=sb.take nb
 rw [e] at sd
 obtain ⟨s1,s2,s3⟩:=List.pairwise_append.mp sd
 have inn:∀ y∈(b.take nb).drop m,y∈b.take nb:=fun y hy=>List.mem_of_mem_drop hy
 have in1:∀ y∈b.take m,y∈b.take nb:=fun y hy=>by rw [e]; exact List.mem_append_left _ hy
 refine ⟨?_,Rise.app s2 q.so fun x hx y hy=>q.le x (List.mem_append_right _ (inn x hx)) y hy,fun x hx y hy=>?_,q.la,by have:=q.lb; lia⟩
 ·refine List.Perm.trans ?_ q.pm
  rw [← List.append_assoc]
  refine List.Perm.append_right out ?_
  rw [List.append_assoc,← e]
 ·rcases List.mem_append.mp hy with hy | hy
  ·rcases List.mem_append.mp hx with hx | hx
   ·exact h x hx y hy
   ·exact s3 x hx y hy
  ·rcases List.mem_append.mp hx with hx | hx
   ·exact q.le x (List.mem_append_left _ hx) y hy
   ·exact q.le x (List.mem_append_right _ (in1 x hx)) y hy
theorem MH.done {a b out:List α} {na nb:Nat} (q:MH κ a b out na nb) (sa:Rise κ a) (sb:Rise κ b) (h:na=0∨nb=0):Rise κ (a.take na++b.take nb++out)∧(a.take na++b.take nb++out).Perm (a++b):=by
 refine ⟨?_,q.pm⟩
 refine Rise.app ((sa.take na).app (sb.take nb) fun x hx y hy=>?_) q.so q.le
 rcases h with h | h
 ·rw [h,List.take_zero] at hx; exact absurd hx List.not_mem_nil
 ·rw [h,List.take_zero] at hy; exact absurd hy List.not_mem_nil
theorem MH.firstB {a b out:List α} {na nb:Nat} (q:MH κ a b out na nb) (sa:Rise κ a) (sb:Rise κ b) (h:∀ x∈b.take nb,∀ y∈a,κ x≤κ y):Rise κ (b.take nb++a.take na++out)∧(b.take nb++a.take na++out).Perm (a++b):=by
 refine ⟨?_,?_⟩
 ·refine Rise.app ((sb.take nb).app (sa.take na) fun x hx y hy=>h x hx y (List.mem_of_mem_take hy)) q.so fun x hx y hy=>q.le x ?_ y hy
  rcases List.mem_append.mp hx with hx | hx
  ·exact List.mem_append_right _ hx
  ·exact List.mem_append_left _ hx
 ·exact (List.Perm.append_right out List.perm_append_comm).trans q.pm
end
section
variable {M:Model} {A:Around} {E:Value→Shared→Prop} {s:Shared}
def mergeHiG:Array Keyed→Array Keyed→StateT SortSt Sem (Array Keyed):=sortPriv% PySem.Builtin.mergeHi
theorem Zfw {α:Type} (a:Array α) (m n:Nat):(a.extract m n).toList=(a.toList.take n).drop m:=by
 rw [Array.toList_extract,List.extract_eq_drop_take,List.drop_take]
theorem getH {κ:Keyed→Int} {a:Array Keyed} (sa:Rise κ a.toList) {n:Nat} (h0:0 < n) (h:n≤a.size):∃ x,a[n - 1]?=some x∧x∈a.toList∧(a.toList.take n).drop (n - 1)=[x]∧∀ y∈a.toList.take n,κ y≤κ x:=by
 obtain ⟨x,e,m,d⟩:=getG (show n - 1 < a.size by lia)
 have e2:(a.toList.take n).drop (n - 1)=[x]:=by
  rw [List.drop_take,d,show n - (n - 1)=1 by lia]; rfl
 refine ⟨x,e,m,e2,fun y hy=>?_⟩
 have e3:=Zd9 a.toList (show n - 1≤n by lia)
 have sd:=sa.take n
 rw [e3] at sd hy
 rw [e2] at sd hy
 rcases List.mem_append.mp hy with hy | hy
 ·exact (List.pairwise_append.mp sd).2.2 y hy x (by simp)
 ·rw [List.mem_singleton.mp hy]; exact Int.le_refl _
theorem MH.pushA {κ:Keyed→Int} {a b out:Array Keyed} {na nb:Nat} {x:Keyed} (m:MH κ a.toList b.toList out.toList.reverse na nb) (sa:Rise κ a.toList) (da:(a.toList.take na).drop (na - 1)=[x]) (h:∀ w∈b.toList.take nb,κ w≤κ x):MH κ a.toList b.toList (out.push x).toList.reverse (na - 1) nb:=by
 have:=m.takeA sa (m:=na - 1) (by lia) (fun z hz w hw=>?_)
 ·rw [da] at this
  rw [Array.toList_push,List.reverse_append]
  exact this
 ·rw [da] at hw
  rw [List.mem_singleton.mp hw]; exact h z hz
theorem MH.pushB {κ:Keyed→Int} {a b out:Array Keyed} {na nb:Nat} {x:Keyed} (m:MH κ a.toList b.toList out.toList.reverse na nb) (sb:Rise κ b.toList) (db:(b.toList.take nb).drop (nb - 1)=[x]) (h:∀ w∈a.toList.take na,κ w≤κ x):MH κ a.toList b.toList (out.push x).toList.reverse na (nb - 1):=by
 have:=m.takeB sb (m:=nb - 1) (by lia) (fun z hz w hw=>?_)
 ·rw [db] at this
  rw [Array.toList_push,List.reverse_append]
  exact this
 ·rw [db] at hw
  rw [List.mem_singleton.mp hw]; exact h z hz
theorem MH.extA {κ:Keyed→Int} {a b out:Array Keyed} {na nb m:Nat} (q:MH κ a.toList b.toList out.toList.reverse na nb) (sa:Rise κ a.toList) (hm:m≤na) (h:∀ x∈b.toList.take nb,∀ y∈(a.toList.take na).drop m,κ x≤κ y):MH κ a.toList b.toList (out++(a.extract m na).reverse).toList.reverse m nb:=by
 have:=q.takeA sa hm h
 rw [Array.toList_append,List.reverse_append,Array.toList_reverse,List.reverse_reverse,Zfw]
 exact this
theorem MH.extB {κ:Keyed→Int} {a b out:Array Keyed} {na nb m:Nat} (q:MH κ a.toList b.toList out.toList.reverse na nb) (sb:Rise κ b.toList) (hm:m≤nb) (h:∀ x∈a.toList.take na,∀ y∈(b.toList.take nb).drop m,κ x≤κ y):MH κ a.toList b.toList (out++(b.extract m nb).reverse).toList.reverse na m:=by
 have:=q.takeB sb hm h
 rw [Array.toList_append,List.reverse_append,Array.toList_reverse,List.reverse_reverse,Zfw]
 exact this
theorem Zc7 {a:Array Keyed} {n:Nat} {x:Keyed} (h:x∈a.toList.take n):∃ j,j < n∧j < a.size∧x=a.getD (0+j) default:=by
 have h':x∈(a.toList.drop 0).take n:=by simpa using h
 obtain ⟨j,h1,h2,h3⟩:=Zbc h'
 exact ⟨j,h1,by lia,h3⟩
theorem Zej {a:Array Keyed} {m n:Nat} {x:Keyed} (hmn:m≤n) (h:x∈(a.toList.take n).drop m):∃ j,m≤j∧j < n∧j < a.size∧x=a.getD (0+j) default:=by
 rw [List.drop_take] at h
 obtain ⟨j,h1,h2,h3⟩:=Zbc h
 exact ⟨m+j,by lia,by lia,h2,by rw [Nat.zero_add]; exact h3⟩
structure GoH (κ:Keyed→Int) (a b out:Array Keyed) (na nb:Nat):Prop where
 mi:MH κ a.toList b.toList out.toList.reverse na nb
 la:0 < na
 lb:1 < nb
theorem Zat {κ:Keyed→Int} {a b out:Array Keyed} {na nb:Nat} (m:MH κ a.toList b.toList out.toList.reverse na nb) (sa:Rise κ a.toList) (sb:Rise κ b.toList) (h:na=0∨nb=0):Zbk κ a b (a.extract 0 na++b.extract 0 nb++out.reverse):=by
 have:=m.done sa sb h
 unfold Zbk
 rw [Array.toList_append,Array.toList_append,Zfw,Zfw,Array.toList_reverse,List.drop_zero,List.drop_zero]
 exact this
theorem Za2 {κ:Keyed→Int} {a b out:Array Keyed} {na nb:Nat} (m:MH κ a.toList b.toList out.toList.reverse na nb) (sa:Rise κ a.toList) (sb:Rise κ b.toList) (h1:nb=1) (h:∀ x∈b.toList.take 1,∀ y∈a.toList,κ x≤κ y):Zbk κ a b (b.extract 0 nb++a.extract 0 na++out.reverse):=by
 have:=m.firstB sa sb (by rw [h1]; exact h)
 unfold Zbk
 rw [Array.toList_append,Array.toList_append,Zfw,Zfw,Array.toList_reverse,List.drop_zero,List.drop_zero]
 exact this
theorem Zj0 {kd:SortKind} {κ:Keyed→Int} {S:Keyed→Prop} {a b:Array Keyed} {st:SortSt} {Q:Array Keyed→SortSt→Prop} (L:LtG M A E s kd κ S) (hk:kindOf st=kd) (ha:0 < a.size) (hb:0 < b.size) (hSa:∀ x∈a.toList,S x) (hSb:∀ x∈b.toList,S x)
  (sa:Rise κ a.toList) (sb:Rise κ b.toList) (hf:∀ x∈b.toList.take 1,∀ y∈a.toList,κ x≤κ y) (hl:∀ x∈b.toList,∀ y∈a.toList.drop (a.size - 1),κ x≤κ y)
  (h:∀ r st',Zbk κ a b r→Like st st'→Q r st'):wpS M A E s (mergeHiG a b) Q st:=by
 refine wpS_bind (wpS_lift (wpAny_rule ⟨rfl,?_⟩))
 obtain ⟨a0,ea0,ma0,da0,ra0⟩:=getH sa ha (Nat.le_refl _)
 have lk0:Like st st:=⟨rfl,rfl,rfl,rfl⟩
 have m0:MH κ a.toList b.toList (#[a0]:Array Keyed).toList.reverse (a.size - 1) b.size:=by
  have:=(MH.start (κ:=κ) a.toList b.toList).takeA sa (m:=a.size - 1) (by rw [Array.length_toList]; lia) (fun x hx y hy=>hl x (List.mem_of_mem_take hx) y (by rw [List.take_length] at hy; exact hy))
  rw [Array.length_toList,Array.length_toList,da0] at this
  exact this
 refine wpS_bind (Zah ea0 ?_)
 dsimp only
 by_cases h1:a.size - 1=0
 ·rw [if_pos (beq_iff_eq.mpr h1)]
  exact wpS_pure (h _ _ (Zat m0 sa sb (.inl h1)) lk0)
 rw [if_neg (fun z=>h1 (beq_iff_eq.mp z))]
 by_cases h2:b.size=1
 ·rw [if_pos (beq_iff_eq.mpr h2)]
  exact wpS_pure (h _ _ (Za2 m0 sa sb h2 hf) lk0)
 rw [if_neg (fun z=>h2 (beq_iff_eq.mp z))]
 refine wpS_bind (wpS_get ?_)
 refine wpS_bind (wpS_mono (wpS_forRange (I:=fun x (c:Option (Array Keyed) × Nat × Nat × Array Keyed × Nat) st'=>c.1=none∧GoH κ a b c.2.2.2.1 c.2.1 c.2.2.1∧c.2.1+c.2.2.1+x+1≤a.size+b.size∧Like st st')
  (Q:=fun (c:Option (Array Keyed) × Nat × Nat × Array Keyed × Nat) st'=>Like st st'∧∃ r,c.1=some r∧Zbk κ a b r) ?ostep ?ofin (And.intro rfl ⟨⟨m0,by show 0 < a.size - 1; lia,by show 1 < b.size; lia⟩,by show a.size - 1+b.size+0+1≤a.size+b.size; lia,lk0⟩)) ?opost)
 case ofin =>
  rintro ⟨r,na,nb,out,mg⟩ st1 ⟨e1,go,hge,lk⟩
  have hge:na+nb+max 0 (a.size+b.size)+1≤a.size+b.size:=hge
  lia
 case opost =>
  rintro ⟨r,na,nb,out,mg⟩ st1 ⟨lk,r',e1,mr⟩
  have e1:r=some r':=e1
  subst e1
  exact wpS_pure (h _ _ mr lk)
 case ostep =>
  rintro x ⟨r,na,nb,out,mg⟩ st1 _ hx ⟨e1,go,hge,lk⟩
  have e1:r=none:=e1
  subst e1
  have hge:na+nb+x+1≤a.size+b.size:=hge
  dsimp only
  refine wpS_bind (wpS_mono (wpS_forRange (I:=fun y (c:Option (Array Keyed) × Nat × Nat × Array Keyed × Nat × Nat) st'=>c.1=none∧GoH κ a b c.2.2.2.1 c.2.1 c.2.2.1∧c.2.1+c.2.2.1+y=na+nb∧Like st st')
   (Q:=fun (c:Option (Array Keyed) × Nat × Nat × Array Keyed × Nat × Nat) st'=>Like st st'∧((∃ r,c.1=some r∧Zbk κ a b r)∨(c.1=none∧GoH κ a b c.2.2.2.1 c.2.1 c.2.2.1∧c.2.1+c.2.2.1+1≤na+nb))) ?istep ?ifin (And.intro rfl ⟨go,rfl,lk⟩)) ?ipost)
  case ifin =>
   rintro ⟨r,na',nb',out,ac,bc⟩ st2 ⟨e1,go',hs,lk'⟩
   have hs:na'+nb'+max 0 (a.size+b.size)=na+nb:=hs
   exact And.intro lk' (.inr ⟨e1,go',by show na'+nb'+1≤na+nb; lia⟩)
  case istep =>
   rintro y ⟨r,na',nb',out',ac,bc⟩ st2 _ hy ⟨e1,go',hs,lk'⟩
   have e1:r=none:=e1
   subst e1
   have go':GoH κ a b out' na' nb':=go'
   have hs:na'+nb'+y=na+nb:=hs
   have l1:=go'.la
   have l2:=go'.lb
   have l3:na'≤a.size:=by have:=go'.mi.la; rwa [Array.length_toList] at this
   have l4:nb'≤b.size:=by have:=go'.mi.lb; rwa [Array.length_toList] at this
   dsimp only
   obtain ⟨xb,exb,mb,db,rb⟩:=getH sb (show 0 < nb' by lia) l4
   obtain ⟨xa,exa,ma,da,ra⟩:=getH sa l1 l3
   refine wpS_bind (Zah exb (wpS_bind (Zah exa (wpS_bind (L xb xa (hSb _ mb) (hSa _ ma) st2 _ (lk'.kd.trans hk) ?_)))))
   dsimp only
   by_cases hlt:κ xb < κ xa
   ·rw [decide_eq_true hlt,if_pos rfl]
    refine wpS_bind (Zah exa ?_)
    have mi':=go'.mi.pushA sa da (fun w hw=>by have:=rb w hw; lia)
    by_cases q1:na' - 1=0
    ·rw [if_pos (beq_iff_eq.mpr q1)]
     exact wpS_pure (And.intro lk' (.inl ⟨_,rfl,Zat mi' sa sb (.inl q1)⟩))
    ·rw [if_neg (fun z=>q1 (beq_iff_eq.mp z))]
     have gn:GoH κ a b (out'.push xa) (na' - 1) nb':=⟨mi',by lia,l2⟩
     split
     ·exact wpS_pure (And.intro lk' (.inr ⟨rfl,gn,by show na' - 1+nb'+1≤na+nb; lia⟩))
     ·exact wpS_pure (And.intro rfl ⟨gn,by show na' - 1+nb'+(y+1)=na+nb; lia,lk'⟩)
   ·rw [decide_eq_false hlt,if_neg Bool.false_ne_true]
    refine wpS_bind (Zah exb ?_)
    have mi':=go'.mi.pushB sb db (fun w hw=>by have:=ra w hw; lia)
    by_cases q1:nb' - 1=1
    ·rw [if_pos (beq_iff_eq.mpr q1)]
     exact wpS_pure (And.intro lk' (.inl ⟨_,rfl,Za2 mi' sa sb q1 hf⟩))
    ·rw [if_neg (fun z=>q1 (beq_iff_eq.mp z))]
     have gn:GoH κ a b (out'.push xb) na' (nb' - 1):=⟨mi',l1,by lia⟩
     split
     ·exact wpS_pure (And.intro lk' (.inr ⟨rfl,gn,by show na'+(nb' - 1)+1≤na+nb; lia⟩))
     ·exact wpS_pure (And.intro rfl ⟨gn,by show na'+(nb' - 1)+(y+1)=na+nb; lia,lk'⟩)
  case ipost =>
   rintro ⟨r,na',nb',out',ac,bc⟩ st2 ⟨lk',hh⟩
   rcases hh with ⟨r',e1,mr⟩ | ⟨e1,go',hs⟩
   ·have e1:r=some r':=e1
    subst e1
    exact wpS_pure (And.intro lk' ⟨_,rfl,mr⟩)
   ·have e1:r=none:=e1
    subst e1
    have go':GoH κ a b out' na' nb':=go'
    have hs:na'+nb'+1≤na+nb:=hs
    dsimp only
    refine wpS_bind (wpS_lift (wpAny_rule ⟨rfl,?_⟩))
    refine wpS_bind (wpS_mono (wpS_forRange (I:=fun y (c:Option (Array Keyed) × Nat × Nat × Array Keyed × Nat × Nat × Nat) st'=>c.1=none∧GoH κ a b c.2.2.2.1 c.2.1 c.2.2.1∧c.2.1+c.2.2.1+1≤na+nb∧Like st st')
     (Q:=fun (c:Option (Array Keyed) × Nat × Nat × Array Keyed × Nat × Nat × Nat) st'=>Like st st'∧((∃ r,c.1=some r∧Zbk κ a b r)∨(c.1=none∧GoH κ a b c.2.2.2.1 c.2.1 c.2.2.1∧c.2.1+c.2.2.1+1≤na+nb))) ?gstep ?gfin (And.intro rfl ⟨go',hs,lk'⟩)) ?gpost)
    case gfin =>
     rintro ⟨r,na2,nb2,out,mg2,ac,bc⟩ st3 ⟨e1,go2,hs2,lk2⟩
     exact And.intro lk2 (.inr ⟨e1,go2,hs2⟩)
    case gpost =>
     rintro ⟨r,na2,nb2,out,mg2,ac,bc⟩ st3 ⟨lk2,hh2⟩
     rcases hh2 with ⟨r',e1,mr⟩ | ⟨e1,go2,hs2⟩
     ·have e1:r=some r':=e1
      subst e1
      exact wpS_pure (And.intro lk2 ⟨_,rfl,mr⟩)
     ·have e1:r=none:=e1
      subst e1
      have hs2:na2+nb2+1≤na+nb:=hs2
      refine wpS_bind (wpS_modify ?_)
      exact wpS_pure (And.intro rfl ⟨go2,by show na2+nb2+(x+1)+1≤a.size+b.size; lia,⟨lk2.kd,lk2.ar,lk2.pe,lk2.fa⟩⟩)
    case gstep =>
     rintro y ⟨r,na2,nb2,out2,mg2,ac,bc⟩ st3 _ hy ⟨e1,go2,hs2,lk2⟩
     have e1:r=none:=e1
     subst e1
     have go2:GoH κ a b out2 na2 nb2:=go2
     have hs2:na2+nb2+1≤na+nb:=hs2
     dsimp only
     have l1:=go2.la
     have l2:=go2.lb
     have l3:na2≤a.size:=by have:=go2.mi.la; rwa [Array.length_toList] at this
     have l4:nb2≤b.size:=by have:=go2.mi.lb; rwa [Array.length_toList] at this
     have inA:∀ i,i < a.size→∃ x,a[i]?=some x∧S x:=fun i hi=>by
      obtain ⟨x,e,m,_⟩:=getG hi
      exact ⟨x,e,hSa x m⟩
     have inB:∀ i,i < b.size→∃ x,b[i]?=some x∧S x:=fun i hi=>by
      obtain ⟨x,e,m,_⟩:=getG hi
      exact ⟨x,e,hSb x m⟩
     by_cases hm:mg2 > 1
     ·rw [if_pos hm]
      refine wpS_bind (wpS_modify ?_)
      have lkN:Like st (SortSt.mk' (kindOf st3) (arrOf st3) (pendingOf st3) (mg2 - 1) (failedOf st3)):=⟨lk2.kd,lk2.ar,lk2.pe,lk2.fa⟩
      obtain ⟨xb,exb,mb,db,rb⟩:=getH sb (show 0 < nb2 by lia) l4
      refine wpS_bind (Zah exb (wpS_bind (Za3 (B:=fun i=>!decide (κ xb < κ (a.getD (0+i) default))) (lkN.kd.trans hk) (Zjq L (hSb _ mb) (fun i hi=>inA _ (by lia))) (fun i j hij hj hB=>?_) (by lia) fun k hk' f1 f2=>?_)))
      ·have h3:=Zbu sa (i:=0+i) (j:=0+j) (by lia) (by lia)
       simp only [Bool.not_eq_true',decide_eq_false_iff_not] at hB ⊢
       lia
      have u1:∀ z∈b.toList.take nb2,∀ w∈(a.toList.take na2).drop k,κ z≤κ w:=fun z hz w hw=>by
       obtain ⟨j,j1,j2,j3,rfl⟩:=Zej hk' hw
       have h3:=f2 j j1 j2
       simp only [Bool.not_eq_false',decide_eq_true_eq] at h3
       have h4:=rb z hz
       lia
      have u2:∀ w∈a.toList.take k,κ w≤κ xb:=fun w hw=>by
       obtain ⟨j,j1,j2,rfl⟩:=Zc7 hw
       have h3:=f1 j j1
       simp only [Bool.not_eq_true',decide_eq_false_iff_not] at h3
       lia
      dsimp only
      by_cases p0:na2 - k > 0
      ·rw [if_pos p0]
       have m2:=go2.mi.extA sa (m:=k) hk' u1
       by_cases q1:k=0
       ·rw [if_pos (beq_iff_eq.mpr q1)]
        exact wpS_pure (And.intro lkN (.inl ⟨_,rfl,Zat m2 sa sb (.inl q1)⟩))
       ·rw [if_neg (fun z=>q1 (beq_iff_eq.mp z))]
        have kB:=u2
        refine wpS_bind (Zah exb ?_)
        have m3:=m2.pushB sb db kB
        by_cases q3:nb2 - 1=1
        ·rw [if_pos (beq_iff_eq.mpr q3)]
         exact wpS_pure (And.intro lkN (.inl ⟨_,rfl,Za2 m3 sa sb q3 hf⟩))
        ·rw [if_neg (fun z=>q3 (beq_iff_eq.mp z))]
         obtain ⟨xa,exa,ma,da,ra⟩:=getH sa (show 0 < k by lia) (by lia)
         refine wpS_bind (Zah exa (wpS_bind (Za3 (B:=fun i=>decide (κ (b.getD (0+i) default) < κ xa)) (lkN.kd.trans hk) (Zd7 L (hSa _ ma) (fun i hi=>inB _ (by lia))) (fun i j hij hj hB=>decide_eq_true (Int.lt_of_le_of_lt (Zbu sb (by lia) (by lia)) (of_decide_eq_true hB))) (by lia) fun k1 hk1 g1 g2=>?_)))
         have t1:∀ z∈a.toList.take (k),∀ w∈(b.toList.take (nb2 - 1)).drop k1,κ z≤κ w:=fun z hz w hw=>by
          obtain ⟨j,j1,j2,j3,rfl⟩:=Zej hk1 hw
          have h3:=of_decide_eq_false (g2 j j1 j2)
          have h4:=ra z hz
          lia
         have t2:∀ w∈b.toList.take k1,κ w≤κ xa:=fun w hw=>by
          obtain ⟨j,j1,j2,rfl⟩:=Zc7 hw
          exact Int.le_of_lt (of_decide_eq_true (g1 j j1))
         dsimp only
         by_cases p1:nb2 - 1 - k1 > 0
         ·rw [if_pos p1]
          have m4:=m3.extB sb (m:=k1) hk1 t1
          by_cases q4:k1=1
          ·rw [if_pos (beq_iff_eq.mpr q4)]
           exact wpS_pure (And.intro lkN (.inl ⟨_,rfl,Za2 m4 sa sb q4 hf⟩))
          ·rw [if_neg (fun z=>q4 (beq_iff_eq.mp z))]
           by_cases q6:k1=0
           ·rw [if_pos (beq_iff_eq.mpr q6)]
            exact wpS_pure (And.intro lkN (.inl ⟨_,rfl,Zat m4 sa sb (.inr q6)⟩))
           ·rw [if_neg (fun z=>q6 (beq_iff_eq.mp z))]
            have kA:=t2
            refine wpS_bind (Zah exa ?_)
            have m5:=m4.pushA sa da kA
            by_cases q5:k - 1=0
            ·rw [if_pos (beq_iff_eq.mpr q5)]
             exact wpS_pure (And.intro lkN (.inl ⟨_,rfl,Zat m5 sa sb (.inl q5)⟩))
            ·rw [if_neg (fun z=>q5 (beq_iff_eq.mp z))]
             have gn:GoH κ a b _ (k - 1) (k1):=⟨m5,by lia,by lia⟩
             split
             ·exact wpS_pure (And.intro lkN (.inr ⟨rfl,gn,by show k - 1+(k1)+1≤na+nb; lia⟩))
             ·exact wpS_pure (And.intro rfl ⟨gn,by show k - 1+(k1)+1≤na+nb; lia,lkN⟩)
         ·rw [if_neg p1]
          have k10:k1=nb2 - 1:=by lia
          subst k10
          have kA:=t2
          refine wpS_bind (Zah exa ?_)
          have m5:=m3.pushA sa da kA
          by_cases q5:k - 1=0
          ·rw [if_pos (beq_iff_eq.mpr q5)]
           exact wpS_pure (And.intro lkN (.inl ⟨_,rfl,Zat m5 sa sb (.inl q5)⟩))
          ·rw [if_neg (fun z=>q5 (beq_iff_eq.mp z))]
           have gn:GoH κ a b _ (k - 1) (nb2 - 1):=⟨m5,by lia,by lia⟩
           split
           ·exact wpS_pure (And.intro lkN (.inr ⟨rfl,gn,by show k - 1+(nb2 - 1)+1≤na+nb; lia⟩))
           ·exact wpS_pure (And.intro rfl ⟨gn,by show k - 1+(nb2 - 1)+1≤na+nb; lia,lkN⟩)
      ·rw [if_neg p0]
       have k00:k=na2:=by lia
       subst k00
       have kB:=u2
       have mi2:=go2.mi
       refine wpS_bind (Zah exb ?_)
       have m3:=mi2.pushB sb db kB
       by_cases q3:nb2 - 1=1
       ·rw [if_pos (beq_iff_eq.mpr q3)]
        exact wpS_pure (And.intro lkN (.inl ⟨_,rfl,Za2 m3 sa sb q3 hf⟩))
       ·rw [if_neg (fun z=>q3 (beq_iff_eq.mp z))]
        obtain ⟨xa,exa,ma,da,ra⟩:=getH sa (show 0 < k by lia) (by lia)
        refine wpS_bind (Zah exa (wpS_bind (Za3 (B:=fun i=>decide (κ (b.getD (0+i) default) < κ xa)) (lkN.kd.trans hk) (Zd7 L (hSa _ ma) (fun i hi=>inB _ (by lia))) (fun i j hij hj hB=>decide_eq_true (Int.lt_of_le_of_lt (Zbu sb (by lia) (by lia)) (of_decide_eq_true hB))) (by lia) fun k1 hk1 g1 g2=>?_)))
        have t1:∀ z∈a.toList.take (k),∀ w∈(b.toList.take (nb2 - 1)).drop k1,κ z≤κ w:=fun z hz w hw=>by
         obtain ⟨j,j1,j2,j3,rfl⟩:=Zej hk1 hw
         have h3:=of_decide_eq_false (g2 j j1 j2)
         have h4:=ra z hz
         lia
        have t2:∀ w∈b.toList.take k1,κ w≤κ xa:=fun w hw=>by
         obtain ⟨j,j1,j2,rfl⟩:=Zc7 hw
         exact Int.le_of_lt (of_decide_eq_true (g1 j j1))
        dsimp only
        by_cases p1:nb2 - 1 - k1 > 0
        ·rw [if_pos p1]
         have m4:=m3.extB sb (m:=k1) hk1 t1
         by_cases q4:k1=1
         ·rw [if_pos (beq_iff_eq.mpr q4)]
          exact wpS_pure (And.intro lkN (.inl ⟨_,rfl,Za2 m4 sa sb q4 hf⟩))
         ·rw [if_neg (fun z=>q4 (beq_iff_eq.mp z))]
          by_cases q6:k1=0
          ·rw [if_pos (beq_iff_eq.mpr q6)]
           exact wpS_pure (And.intro lkN (.inl ⟨_,rfl,Zat m4 sa sb (.inr q6)⟩))
          ·rw [if_neg (fun z=>q6 (beq_iff_eq.mp z))]
           have kA:=t2
           refine wpS_bind (Zah exa ?_)
           have m5:=m4.pushA sa da kA
           by_cases q5:k - 1=0
           ·rw [if_pos (beq_iff_eq.mpr q5)]
            exact wpS_pure (And.intro lkN (.inl ⟨_,rfl,Zat m5 sa sb (.inl q5)⟩))
           ·rw [if_neg (fun z=>q5 (beq_iff_eq.mp z))]
            have gn:GoH κ a b _ (k - 1) (k1):=⟨m5,by lia,by lia⟩
            split
            ·exact wpS_pure (And.intro lkN (.inr ⟨rfl,gn,by show k - 1+(k1)+1≤na+nb; lia⟩))
            ·exact wpS_pure (And.intro rfl ⟨gn,by show k - 1+(k1)+1≤na+nb; lia,lkN⟩)
        ·rw [if_neg p1]
         have k10:k1=nb2 - 1:=by lia
         subst k10
         have kA:=t2
         refine wpS_bind (Zah exa ?_)
         have m5:=m3.pushA sa da kA
         by_cases q5:k - 1=0
         ·rw [if_pos (beq_iff_eq.mpr q5)]
          exact wpS_pure (And.intro lkN (.inl ⟨_,rfl,Zat m5 sa sb (.inl q5)⟩))
         ·rw [if_neg (fun z=>q5 (beq_iff_eq.mp z))]
          have gn:GoH κ a b _ (k - 1) (nb2 - 1):=⟨m5,by lia,by lia⟩
          split
          ·exact wpS_pure (And.intro lkN (.inr ⟨rfl,gn,by show k - 1+(nb2 - 1)+1≤na+nb; lia⟩))
          ·exact wpS_pure (And.intro rfl ⟨gn,by show k - 1+(nb2 - 1)+1≤na+nb; lia,lkN⟩)
     ·rw [if_neg hm]
      refine wpS_bind (wpS_modify ?_)
      have lkN:Like st (SortSt.mk' (kindOf st3) (arrOf st3) (pendingOf st3) mg2 (failedOf st3)):=⟨lk2.kd,lk2.ar,lk2.pe,lk2.fa⟩
      obtain ⟨xb,exb,mb,db,rb⟩:=getH sb (show 0 < nb2 by lia) l4
      refine wpS_bind (Zah exb (wpS_bind (Za3 (B:=fun i=>!decide (κ xb < κ (a.getD (0+i) default))) (lkN.kd.trans hk) (Zjq L (hSb _ mb) (fun i hi=>inA _ (by lia))) (fun i j hij hj hB=>?_) (by lia) fun k hk' f1 f2=>?_)))
      ·have h3:=Zbu sa (i:=0+i) (j:=0+j) (by lia) (by lia)
       simp only [Bool.not_eq_true',decide_eq_false_iff_not] at hB ⊢
       lia
      have u1:∀ z∈b.toList.take nb2,∀ w∈(a.toList.take na2).drop k,κ z≤κ w:=fun z hz w hw=>by
       obtain ⟨j,j1,j2,j3,rfl⟩:=Zej hk' hw
       have h3:=f2 j j1 j2
       simp only [Bool.not_eq_false',decide_eq_true_eq] at h3
       have h4:=rb z hz
       lia
      have u2:∀ w∈a.toList.take k,κ w≤κ xb:=fun w hw=>by
       obtain ⟨j,j1,j2,rfl⟩:=Zc7 hw
       have h3:=f1 j j1
       simp only [Bool.not_eq_true',decide_eq_false_iff_not] at h3
       lia
      dsimp only
      by_cases p0:na2 - k > 0
      ·rw [if_pos p0]
       have m2:=go2.mi.extA sa (m:=k) hk' u1
       by_cases q1:k=0
       ·rw [if_pos (beq_iff_eq.mpr q1)]
        exact wpS_pure (And.intro lkN (.inl ⟨_,rfl,Zat m2 sa sb (.inl q1)⟩))
       ·rw [if_neg (fun z=>q1 (beq_iff_eq.mp z))]
        have kB:=u2
        refine wpS_bind (Zah exb ?_)
        have m3:=m2.pushB sb db kB
        by_cases q3:nb2 - 1=1
        ·rw [if_pos (beq_iff_eq.mpr q3)]
         exact wpS_pure (And.intro lkN (.inl ⟨_,rfl,Za2 m3 sa sb q3 hf⟩))
        ·rw [if_neg (fun z=>q3 (beq_iff_eq.mp z))]
         obtain ⟨xa,exa,ma,da,ra⟩:=getH sa (show 0 < k by lia) (by lia)
         refine wpS_bind (Zah exa (wpS_bind (Za3 (B:=fun i=>decide (κ (b.getD (0+i) default) < κ xa)) (lkN.kd.trans hk) (Zd7 L (hSa _ ma) (fun i hi=>inB _ (by lia))) (fun i j hij hj hB=>decide_eq_true (Int.lt_of_le_of_lt (Zbu sb (by lia) (by lia)) (of_decide_eq_true hB))) (by lia) fun k1 hk1 g1 g2=>?_)))
         have t1:∀ z∈a.toList.take (k),∀ w∈(b.toList.take (nb2 - 1)).drop k1,κ z≤κ w:=fun z hz w hw=>by
          obtain ⟨j,j1,j2,j3,rfl⟩:=Zej hk1 hw
          have h3:=of_decide_eq_false (g2 j j1 j2)
          have h4:=ra z hz
          lia
         have t2:∀ w∈b.toList.take k1,κ w≤κ xa:=fun w hw=>by
          obtain ⟨j,j1,j2,rfl⟩:=Zc7 hw
          exact Int.le_of_lt (of_decide_eq_true (g1 j j1))
         dsimp only
         by_cases p1:nb2 - 1 - k1 > 0
         ·rw [if_pos p1]
          have m4:=m3.extB sb (m:=k1) hk1 t1
          by_cases q4:k1=1
          ·rw [if_pos (beq_iff_eq.mpr q4)]
           exact wpS_pure (And.intro lkN (.inl ⟨_,rfl,Za2 m4 sa sb q4 hf⟩))
          ·rw [if_neg (fun z=>q4 (beq_iff_eq.mp z))]
           by_cases q6:k1=0
           ·rw [if_pos (beq_iff_eq.mpr q6)]
            exact wpS_pure (And.intro lkN (.inl ⟨_,rfl,Zat m4 sa sb (.inr q6)⟩))
           ·rw [if_neg (fun z=>q6 (beq_iff_eq.mp z))]
            have kA:=t2
            refine wpS_bind (Zah exa ?_)
            have m5:=m4.pushA sa da kA
            by_cases q5:k - 1=0
            ·rw [if_pos (beq_iff_eq.mpr q5)]
             exact wpS_pure (And.intro lkN (.inl ⟨_,rfl,Zat m5 sa sb (.inl q5)⟩))
            ·rw [if_neg (fun z=>q5 (beq_iff_eq.mp z))]
             have gn:GoH κ a b _ (k - 1) (k1):=⟨m5,by lia,by lia⟩
             split
             ·exact wpS_pure (And.intro lkN (.inr ⟨rfl,gn,by show k - 1+(k1)+1≤na+nb; lia⟩))
             ·exact wpS_pure (And.intro rfl ⟨gn,by show k - 1+(k1)+1≤na+nb; lia,lkN⟩)
         ·rw [if_neg p1]
          have k10:k1=nb2 - 1:=by lia
          subst k10
          have kA:=t2
          refine wpS_bind (Zah exa ?_)
          have m5:=m3.pushA sa da kA
          by_cases q5:k - 1=0
          ·rw [if_pos (beq_iff_eq.mpr q5)]
           exact wpS_pure (And.intro lkN (.inl ⟨_,rfl,Zat m5 sa sb (.inl q5)⟩))
          ·rw [if_neg (fun z=>q5 (beq_iff_eq.mp z))]
           have gn:GoH κ a b _ (k - 1) (nb2 - 1):=⟨m5,by lia,by lia⟩
           split
           ·exact wpS_pure (And.intro lkN (.inr ⟨rfl,gn,by show k - 1+(nb2 - 1)+1≤na+nb; lia⟩))
           ·exact wpS_pure (And.intro rfl ⟨gn,by show k - 1+(nb2 - 1)+1≤na+nb; lia,lkN⟩)
      ·rw [if_neg p0]
       have k00:k=na2:=by lia
       subst k00
       have kB:=u2
       have mi2:=go2.mi
       refine wpS_bind (Zah exb ?_)
       have m3:=mi2.pushB sb db kB
       by_cases q3:nb2 - 1=1
       ·rw [if_pos (beq_iff_eq.mpr q3)]
        exact wpS_pure (And.intro lkN (.inl ⟨_,rfl,Za2 m3 sa sb q3 hf⟩))
       ·rw [if_neg (fun z=>q3 (beq_iff_eq.mp z))]
        obtain ⟨xa,exa,ma,da,ra⟩:=getH sa (show 0 < k by lia) (by lia)
        refine wpS_bind (Zah exa (wpS_bind (Za3 (B:=fun i=>decide (κ (b.getD (0+i) default) < κ xa)) (lkN.kd.trans hk) (Zd7 L (hSa _ ma) (fun i hi=>inB _ (by lia))) (fun i j hij hj hB=>decide_eq_true (Int.lt_of_le_of_lt (Zbu sb (by lia) (by lia)) (of_decide_eq_true hB))) (by lia) fun k1 hk1 g1 g2=>?_)))
        have t1:∀ z∈a.toList.take (k),∀ w∈(b.toList.take (nb2 - 1)).drop k1,κ z≤κ w:=fun z hz w hw=>by
         obtain ⟨j,j1,j2,j3,rfl⟩:=Zej hk1 hw
         have h3:=of_decide_eq_false (g2 j j1 j2)
         have h4:=ra z hz
         lia
        have t2:∀ w∈b.toList.take k1,κ w≤κ xa:=fun w hw=>by
         obtain ⟨j,j1,j2,rfl⟩:=Zc7 hw
         exact Int.le_of_lt (of_decide_eq_true (g1 j j1))
        dsimp only
        by_cases p1:nb2 - 1 - k1 > 0
        ·rw [if_pos p1]
         have m4:=m3.extB sb (m:=k1) hk1 t1
         by_cases q4:k1=1
         ·rw [if_pos (beq_iff_eq.mpr q4)]
          exact wpS_pure (And.intro lkN (.inl ⟨_,rfl,Za2 m4 sa sb q4 hf⟩))
         ·rw [if_neg (fun z=>q4 (beq_iff_eq.mp z))]
          by_cases q6:k1=0
          ·rw [if_pos (beq_iff_eq.mpr q6)]
           exact wpS_pure (And.intro lkN (.inl ⟨_,rfl,Zat m4 sa sb (.inr q6)⟩))
          ·rw [if_neg (fun z=>q6 (beq_iff_eq.mp z))]
           have kA:=t2
           refine wpS_bind (Zah exa ?_)
           have m5:=m4.pushA sa da kA
           by_cases q5:k - 1=0
           ·rw [if_pos (beq_iff_eq.mpr q5)]
            exact wpS_pure (And.intro lkN (.inl ⟨_,rfl,Zat m5 sa sb (.inl q5)⟩))
           ·rw [if_neg (fun z=>q5 (beq_iff_eq.mp z))]
            have gn:GoH κ a b _ (k - 1) (k1):=⟨m5,by lia,by lia⟩
            split
            ·exact wpS_pure (And.intro lkN (.inr ⟨rfl,gn,by show k - 1+(k1)+1≤na+nb; lia⟩))
            ·exact wpS_pure (And.intro rfl ⟨gn,by show k - 1+(k1)+1≤na+nb; lia,lkN⟩)
        ·rw [if_neg p1]
         have k10:k1=nb2 - 1:=by lia
         subst k10
         have kA:=t2
         refine wpS_bind (Zah exa ?_)
         have m5:=m3.pushA sa da kA
         by_cases q5:k - 1=0
         ·rw [if_pos (beq_iff_eq.mpr q5)]
          exact wpS_pure (And.intro lkN (.inl ⟨_,rfl,Zat m5 sa sb (.inl q5)⟩))
         ·rw [if_neg (fun z=>q5 (beq_iff_eq.mp z))]
          have gn:GoH κ a b _ (k - 1) (nb2 - 1):=⟨m5,by lia,by lia⟩
          split
          ·exact wpS_pure (And.intro lkN (.inr ⟨rfl,gn,by show k - 1+(nb2 - 1)+1≤na+nb; lia⟩))
          ·exact wpS_pure (And.intro rfl ⟨gn,by show k - 1+(nb2 - 1)+1≤na+nb; lia,lkN⟩)
end
end L2
namespace L2
open PySem PySem.Spec PyProof.Rows
section
variable {M:Model} {A:Around} {E:Value→Shared→Prop} {s:Shared}
def mergeAtG:Nat→StateT SortSt Sem Bool:=sortPriv% PySem.Builtin.mergeAt
theorem written {α:Type}:∀ (ms:List α) (n base:Nat) (xs:Array α),base+n+ms.length≤xs.size →
  ((ms.zipIdx n).foldl (fun a p=>a.setIfInBounds (base+p.2) p.1) xs).toList=xs.toList.take (base+n)++ms++xs.toList.drop (base+n+ms.length)
 | [],n,base,xs,h=>by simp
 | m :: ms,n,base,xs,h=>by
  rw [List.zipIdx_cons,List.foldl_cons]
  have hl:base+n+(ms.length+1)≤xs.size:=h
  rw [written ms (n+1) base (xs.setIfInBounds (base+n) m) (by rw [Array.size_setIfInBounds]; lia)]
  rw [Array.toList_setIfInBounds]
  have h1:base+n < xs.toList.length:=by rw [Array.length_toList]; lia
  rw [show base+(n+1)=base+n+1 by lia]
  rw [List.take_set,List.drop_set,if_pos (by lia)]
  have e1:(xs.toList.take (base+n+1)).set (base+n) m=xs.toList.take (base+n)++[m]:=by
   rw [List.take_succ_eq_append_getElem h1,List.set_append_right _ _ (by rw [List.length_take]; lia)]
   rw [List.length_take,Nat.min_eq_left (by lia),Nat.sub_self]
   rfl
  rw [e1,show base+n+1+ms.length=base+n+(m :: ms).length by simp; lia]
  simp
theorem wpS_set {σ:Type} {st st':σ} {Q:PUnit→σ→Prop} (h:Q ⟨⟩ st'):wpS M A E s (set st':StateT σ Sem PUnit) Q st:=by
 unfold wpS; rw [StateT.run_set]; exact wpAny_pure ⟨rfl,h⟩
theorem Zhf {κ:Keyed→Int} {a:Array Keyed} {lo n:Nat} (h:Rise κ ((a.toList.drop lo).take n)) (hn:lo+n≤a.size) {i j:Nat} (hij:i≤j) (hj:j < n):κ (a.getD (lo+i) default)≤κ (a.getD (lo+j) default):=by
 have ei:a.getD (lo+i) default=a.toList[lo+i]'(by simp; lia):=by
  have:lo+i < a.size:=by lia
  simp [Array.getD,this]
 have ej:a.getD (lo+j) default=a.toList[lo+j]'(by simp; lia):=by
  have:lo+j < a.size:=by lia
  simp [Array.getD,this]
 rw [ei,ej]
 rcases Nat.lt_or_ge i j with h' | h'
 ·have:=List.pairwise_iff_getElem.mp h i j (by simp; lia) (by simp; lia) h'
  rwa [List.getElem_take,List.getElem_take,List.getElem_drop,List.getElem_drop] at this
 ·have:i=j:=by lia
  subst this; exact Int.le_refl _
theorem three {α:Type} {κ:α→Int} {A1 A2 B1 B2 ms:List α} (sA:Rise κ (A1++A2)) (sB:Rise κ (B1++B2)) (hm:Rise κ ms) (pm:ms.Perm (A2++B1)) (h1:∀ x∈A1,∀ y∈B1++B2,κ x≤κ y) (h2:∀ x∈A1++A2,∀ y∈B2,κ x≤κ y):Rise κ (A1++ms++B2):=by
 obtain ⟨a1,a2,a3⟩:=List.pairwise_append.mp sA
 obtain ⟨b1,b2,b3⟩:=List.pairwise_append.mp sB
 refine Rise.app (Rise.app a1 hm fun x hx y hy=>?_) b2 fun x hx y hy=>?_
 ·rcases List.mem_append.mp (pm.mem_iff.mp hy) with hy | hy
  ·exact a3 x hx y hy
  ·exact h1 x hx y (List.mem_append_left _ hy)
 ·rcases List.mem_append.mp hx with hx | hx
  ·exact h2 x (List.mem_append_left _ hx) y hy
  ·rcases List.mem_append.mp (pm.mem_iff.mp hx) with hx | hx
   ·exact h2 x (List.mem_append_right _ hx) y hy
   ·exact b3 x hx y hy
theorem Zj1 {kd:SortKind} {κ:Keyed→Int} {S:Keyed→Prop} {st:SortSt} {i sa na pw nb pw':Nat} {Q:Bool→SortSt→Prop} (L:LtG M A E s kd κ S) (hk:kindOf st=kd) (hfa:failedOf st=none) (p1:(pendingOf st)[i]?=some (sa,na,pw)) (p2:(pendingOf st)[i+1]?=some (sa+na,nb,pw'))
  (hS:∀ x∈(arrOf st).toList,S x) (ha:0 < na) (hb:0 < nb) (hn:sa+na+nb≤(arrOf st).size) (r1:Rise κ (((arrOf st).toList.drop sa).take na)) (r2:Rise κ (((arrOf st).toList.drop (sa+na)).take nb))
  (h:∀ (arr':Array Keyed) (g:Nat) (seg:List Keyed),arr'.toList=(arrOf st).toList.take sa++seg++(arrOf st).toList.drop (sa+na+nb)→Rise κ seg→seg.Perm (((arrOf st).toList.drop sa).take na++((arrOf st).toList.drop (sa+na)).take nb) →
   Q true (SortSt.mk' kd arr' (((pendingOf st).setIfInBounds i (sa,na+nb,pw)).eraseIdxIfInBounds (i+1)) g none)):wpS M A E s (mergeAtG i) Q st:=by
 refine wpS_bind (wpS_get ?_)
 have inn:∀ i,i < (arrOf st).size→∃ x,(arrOf st)[i]?=some x∧S x:=fun i hi=>by
  obtain ⟨x,e,m,_⟩:=getG hi
  exact ⟨x,e,hS x m⟩
 have split:(arrOf st).toList=(arrOf st).toList.take sa++(((arrOf st).toList.drop sa).take na++((arrOf st).toList.drop (sa+na)).take nb)++(arrOf st).toList.drop (sa+na+nb):=by
  rw [List.append_assoc,List.append_assoc,← Zch _ (sa+na) nb,← Zch _ sa na,List.take_append_drop]
 rw [p1,p2]
 dsimp only
 refine wpS_bind (wpS_set ?_)
 subst hk
 obtain ⟨x0,ex0,mx0,dx0⟩:=getG (show sa+na < (arrOf st).size by lia)
 have x0B:∀ y∈((arrOf st).toList.drop (sa+na)).take nb,κ x0≤κ y:=fun y hy=>by
  obtain ⟨j,j1,j2,rfl⟩:=Zbc hy
  have:=Zhf r2 hn (i:=0) (j:=j) (by lia) j1
  rwa [Nat.add_zero,Zhw ex0] at this
 have same:∀ g:Nat,∀ f:Option Value,f=none→∀ (arr':Array Keyed) (seg:List Keyed),arr'.toList=(arrOf st).toList.take sa++seg++(arrOf st).toList.drop (sa+na+nb)→Rise κ seg→seg.Perm (((arrOf st).toList.drop sa).take na++((arrOf st).toList.drop (sa+na)).take nb)→Q true (SortSt.mk' (kindOf st) arr' (((pendingOf st).setIfInBounds i (sa,na+nb,pw)).eraseIdxIfInBounds (i+1)) g f):=fun g f hf arr' seg e1 e2 e3=>by
  rw [hf]; exact h arr' g seg e1 e2 e3
 refine wpS_bind (Zah ex0 (wpS_bind (Za3 (B:=fun i=>!decide (κ x0 < κ ((arrOf st).getD (sa+i) default))) rfl (Zjq L (hS _ mx0) (fun i hi=>inn _ (by lia))) (fun i j hij hj hB=>?_) (by lia) fun k hk' f1 f2=>?_)))
 ·have h3:=Zhf r1 (by lia) hij hj
  simp only [Bool.not_eq_true',decide_eq_false_iff_not] at hB ⊢
  lia
 have u1:∀ z∈((arrOf st).toList.drop sa).take k,κ z≤κ x0:=fun z hz=>by
  obtain ⟨j,j1,j2,rfl⟩:=Zbc hz
  have h3:=f1 j j1
  simp only [Bool.not_eq_true',decide_eq_false_iff_not] at h3
  lia
 dsimp only
 by_cases q1:na - k=0
 ·rw [if_pos (beq_iff_eq.mpr q1)]
  have:k=na:=by lia
  subst this
  exact wpS_pure (same _ _ hfa _ _ split (Rise.app r1 r2 fun x hx y hy=>Int.le_trans (u1 x hx) (x0B y hy)) (List.Perm.refl _))
 rw [if_neg (fun z=>q1 (beq_iff_eq.mp z))]
 have eA:((arrOf st).toList.drop sa).take na=((arrOf st).toList.drop sa).take k++((arrOf st).toList.drop (sa+k)).take (na - k):=by
  conv=>lhs; rw [show na=k+(na - k) by lia]
  rw [List.take_add,List.drop_drop]
 obtain ⟨x1,ex1,mx1,dx1⟩:=getG (show sa+k+(na - k) - 1 < (arrOf st).size by lia)
 have x1A:∀ y∈((arrOf st).toList.drop sa).take na,κ y≤κ x1:=fun y hy=>by
  obtain ⟨j,j1,j2,rfl⟩:=Zbc hy
  have:=Zhf r1 (by lia) (i:=j) (j:=na - 1) (by lia) (by lia)
  rwa [show sa+(na - 1)=sa+k+(na - k) - 1 by lia,Zhw ex1] at this
 refine wpS_bind (Zah ex1 (wpS_bind (Za3 (B:=fun i=>decide (κ ((arrOf st).getD (sa+na+i) default) < κ x1)) rfl (Zd7 L (hS _ mx1) (fun i hi=>inn _ (by lia))) (fun i j hij hj hB=>decide_eq_true (Int.lt_of_le_of_lt (Zhf r2 hn hij hj) (of_decide_eq_true hB))) (by lia) fun k1 hk1 g1 g2=>?_)))
 have eB:((arrOf st).toList.drop (sa+na)).take nb=((arrOf st).toList.drop (sa+na)).take k1++((arrOf st).toList.drop (sa+na+k1)).take (nb - k1):=by
  conv=>lhs; rw [show nb=k1+(nb - k1) by lia]
  rw [List.take_add,List.drop_drop]
 have v1:∀ z∈((arrOf st).toList.drop (sa+na)).take k1,κ z≤κ x1:=fun z hz=>by
  obtain ⟨j,j1,j2,rfl⟩:=Zbc hz
  exact Int.le_of_lt (of_decide_eq_true (g1 j j1))
 have v2:∀ z∈((arrOf st).toList.drop (sa+na+k1)).take (nb - k1),κ x1≤κ z:=fun z hz=>by
  obtain ⟨j,j1,j2,rfl⟩:=Zbc hz
  have:=of_decide_eq_false (g2 (k1+j) (by lia) (by lia))
  rw [← Nat.add_assoc] at this
  lia
 dsimp only
 by_cases q2:k1=0
 ·rw [if_pos (beq_iff_eq.mpr q2)]
  subst q2
  exact wpS_pure (same _ _ hfa _ _ split (Rise.app r1 r2 fun x hx y hy=>Int.le_trans (x1A x hx) (v2 y (by simpa using hy))) (List.Perm.refl _))
 rw [if_neg (fun z=>q2 (beq_iff_eq.mp z))]
 have ex:((arrOf st).extract (sa+k) (sa+na)).toList=((arrOf st).toList.drop (sa+k)).take (na - k):=by
  rw [Zfw,List.drop_take,show sa+na - (sa+k)=na - k by lia]
 have ey:((arrOf st).extract (sa+na) (sa+na+k1)).toList=((arrOf st).toList.drop (sa+na)).take k1:=ext_k _ _ _
 have subx:∀ x∈((arrOf st).extract (sa+k) (sa+na)).toList,x∈(arrOf st).toList:=fun x hx=>by rw [ex] at hx; exact List.mem_of_mem_drop (List.mem_of_mem_take hx)
 have suby:∀ x∈((arrOf st).extract (sa+na) (sa+na+k1)).toList,x∈(arrOf st).toList:=fun x hx=>by rw [ey] at hx; exact List.mem_of_mem_drop (List.mem_of_mem_take hx)
 have rA:=r1
 rw [eA] at rA
 have rB:=r2
 rw [eB] at rB
 have rx:Rise κ ((arrOf st).extract (sa+k) (sa+na)).toList:=by rw [ex]; exact (List.pairwise_append.mp rA).2.1
 have ry:Rise κ ((arrOf st).extract (sa+na) (sa+na+k1)).toList:=by rw [ey]; exact (List.pairwise_append.mp rB).1
 have hfx:∀ x∈((arrOf st).extract (sa+na) (sa+na+k1)).toList.take 1,∀ y∈((arrOf st).extract (sa+k) (sa+na)).toList,κ x≤κ y:=fun x hx y hy=>by
  rw [ey,List.take_take,Nat.min_eq_left (by lia),dx0] at hx
  have:x=x0:=by simpa using hx
  rw [this]
  rw [ex] at hy
  obtain ⟨j,j1,j2,rfl⟩:=Zbc hy
  have h3:=f2 (k+j) (by lia) (by lia)
  simp only [Bool.not_eq_false',decide_eq_true_eq] at h3
  rw [← Nat.add_assoc] at h3
  lia
 have hlx:∀ x∈((arrOf st).extract (sa+na) (sa+na+k1)).toList,∀ y∈((arrOf st).extract (sa+k) (sa+na)).toList.drop (((arrOf st).extract (sa+k) (sa+na)).size - 1),κ x≤κ y:=fun x hx y hy=>by
  rw [ey] at hx
  have sz:((arrOf st).extract (sa+k) (sa+na)).size=na - k:=by rw [Array.size_extract]; lia
  rw [sz,ex,List.drop_take,List.drop_drop,show sa+k+(na - k - 1)=sa+k+(na - k) - 1 by lia,dx1,show na - k - (na - k - 1)=1 by lia] at hy
  have:y=x1:=by simpa using hy
  rw [this]
  exact v1 x hx
 have fin:∀ (r:Array Keyed) (st2:SortSt),Zbk κ ((arrOf st).extract (sa+k) (sa+na)) ((arrOf st).extract (sa+na) (sa+na+k1)) r→Like (SortSt.mk' (kindOf st) (arrOf st) (((pendingOf st).setIfInBounds i (sa,na+nb,pw)).eraseIdxIfInBounds (i+1)) (gallopOf st) (failedOf st)) st2 →
   ∀ arr':Array Keyed,arr'=(r.toList.zipIdx 0).foldl (fun a p=>a.setIfInBounds (sa+k+p.2) p.1) (arrOf st2)→Q true (SortSt.mk' (kindOf st2) arr' (pendingOf st2) (gallopOf st2) (failedOf st2)):=fun r st2 mr lk arr' earr=>by
  have rl:r.toList.length=na - k+k1:=by
   rw [mr.2.length_eq,List.length_append,ex,ey,List.length_take,List.length_take,List.length_drop,List.length_drop,Array.length_toList]; lia
  rw [lk.kd,lk.pe]
  have la:arrOf st2=arrOf st:=lk.ar
  have w:=written r.toList 0 (sa+k) (arrOf st) (by lia)
  refine same _ _ (lk.fa.trans hfa) arr' (((arrOf st).toList.drop sa).take k++r.toList++((arrOf st).toList.drop (sa+na+k1)).take (nb - k1)) ?_ ?_ ?_
  ·rw [earr,la,w,rl,Nat.add_zero,show sa+k+(na - k+k1)=sa+na+k1 by lia]
   have e1:(arrOf st).toList.take (sa+k)=(arrOf st).toList.take sa++((arrOf st).toList.drop sa).take k:=List.take_add
   have e2:=Zch (arrOf st).toList (sa+na+k1) (nb - k1)
   rw [show sa+na+k1+(nb - k1)=sa+na+nb by lia] at e2
   rw [e1]
   conv=>lhs; rw [e2]
   simp only [List.append_assoc]
  ·refine three rA rB mr.1 (by rw [← ex,← ey]; exact mr.2) (fun x hx y hy=>Int.le_trans (u1 x hx) (x0B y (by rw [eB]; exact hy))) fun x hx y hy=>Int.le_trans (x1A x (by rw [eA]; exact hx)) (v2 y hy)
  ·have pm:=mr.2
   rw [ex,ey] at pm
   rw [eA,eB]
   refine (List.Perm.append_right _ (List.Perm.append_left _ pm)).trans ?_
   simp only [List.append_assoc]
   exact List.Perm.refl _
 have sx:0 < ((arrOf st).extract (sa+k) (sa+na)).size:=by rw [Array.size_extract]; lia
 have sy:0 < ((arrOf st).extract (sa+na) (sa+na+k1)).size:=by rw [Array.size_extract]; lia
 by_cases q3:na - k≤k1
 ·rw [if_pos q3]
  refine wpS_bind (Zjz L rfl sx sy (fun x hx=>hS x (subx x hx)) (fun x hx=>hS x (suby x hx)) rx ry hfx hlx fun r st2 mr lk=>?_)
  refine wpS_bind (wpS_modify (wpS_bind (wpS_get ?_)))
  have fl:failedOf st2=none:=lk.fa.trans hfa
  have:=fin r st2 mr lk _ rfl
  refine wpS_pure ?_
  have e:(failedOf st2).isNone=true:=by rw [fl]; rfl
  show Q (failedOf st2).isNone _
  rw [e]
  exact this
 ·rw [if_neg q3]
  refine wpS_bind (Zj0 L rfl sx sy (fun x hx=>hS x (subx x hx)) (fun x hx=>hS x (suby x hx)) rx ry hfx hlx fun r st2 mr lk=>?_)
  refine wpS_bind (wpS_modify (wpS_bind (wpS_get ?_)))
  have fl:failedOf st2=none:=lk.fa.trans hfa
  have:=fin r st2 mr lk _ rfl
  refine wpS_pure ?_
  have e:(failedOf st2).isNone=true:=by rw [fl]; rfl
  show Q (failedOf st2).isNone _
  rw [e]
  exact this
end
end L2
namespace L2
open PySem PySem.Spec PyProof.Rows
section
variable {M:Model} {A:Around} {E:Value→Shared→Prop} {s:Shared}
def Zk4:Nat→Nat→Nat→StateT SortSt Sem Bool:=sortPriv% PySem.Builtin.binarySort
theorem wpS_ltAtG {kd:SortKind} {κ:Keyed→Int} {S:Keyed→Prop} (L:LtG M A E s kd κ S) {st:SortSt} {i j:Nat} {x y:Keyed} {Q:Option Bool→SortSt→Prop} (hk:kindOf st=kd) (hx:(arrOf st)[i]?=some x) (hy:(arrOf st)[j]?=some y) (sx:S x) (sy:S y) (h:Q (some (decide (κ x < κ y))) st):wpS M A E s (ltAt' i j) Q st:=by
 rw [ltAt'_eq]
 refine wpS_bind (wpS_get ?_)
 exact wpS_bind (Zah hx (wpS_bind (Zah hy (L x y sx sy st Q hk h))))
end
end L2
namespace L2
open PySem PySem.Spec PyProof.Rows
end L2
namespace L2
open PySem PySem.Spec PyProof.Rows
section
variable {M:Model} {A:Around} {E:Value→Shared→Prop} {s:Shared} {κ:Keyed→Int} {S:Keyed→Prop} {kd:SortKind}
def KG (κ:Keyed→Int) (xs:Array Keyed) (i:Nat):Int:=κ (xs.getD i default)
theorem Zf5 {xs ys:Array Keyed} {i j:Nat} (h:xs[i]?=ys[j]?):KG κ xs i=KG κ ys j:=by
 unfold KG; rw [Array.getD_eq_getD_getElem?,Array.getD_eq_getD_getElem?,h]
structure Amid (st0:SortSt) (lo n:Nat) (st:SortSt):Prop where
 kd:kindOf st=kindOf st0
 fa:failedOf st=failedOf st0
 pe:pendingOf st=pendingOf st0
 pm:(arrOf st).Perm (arrOf st0)
 out:∀ i,i < lo∨lo+n≤i→(arrOf st)[i]?=(arrOf st0)[i]?
theorem Amid.refl (st:SortSt) (lo n:Nat):Amid st lo n st:=⟨rfl,rfl,rfl,Array.Perm.refl _,fun _ _=>rfl⟩
theorem Amid.sz {st0 st:SortSt} {lo n:Nat} (h:Amid st0 lo n st):(arrOf st).size=(arrOf st0).size:=h.pm.size_eq
theorem Amid.mem {st0 st:SortSt} {lo n:Nat} (h:Amid st0 lo n st) {x:Keyed} (m:x∈(arrOf st).toList):x∈(arrOf st0).toList:=(Array.perm_iff_toList_perm.mp h.pm).mem_iff.mp m
theorem Amid.set {st0 st:SortSt} {lo n:Nat} (h:Amid st0 lo n st) {xs:Array Keyed} (hp:xs.Perm (arrOf st)) (ho:∀ i,i < lo∨lo+n≤i→xs[i]?=(arrOf st)[i]?):Amid st0 lo n (setArr st xs) :=
 ⟨h.kd,h.fa,h.pe,hp.trans h.pm,fun i hi=>(ho i hi).trans (h.out i hi)⟩
def UpG (κ:Keyed→Int) (xs:Array Keyed) (lo k:Nat):Prop:=∀ i j,i≤j→j < k→KG κ xs (lo+i)≤KG κ xs (lo+j)
def DownG (κ:Keyed→Int) (xs:Array Keyed) (lo k:Nat):Prop:=∀ i j,i≤j→j < k→KG κ xs (lo+j)≤KG κ xs (lo+i)
theorem Ze3 (L:LtG M A E s kd κ S) {st0 st:SortSt} {lo n i j:Nat} {Q:Option Bool→SortSt→Prop} (hk:kindOf st0=kd) (hS:∀ x∈(arrOf st0).toList,S x) (B:Amid st0 lo n st) (hi:i < (arrOf st0).size) (hj:j < (arrOf st0).size)
  (h:Q (some (decide (KG κ (arrOf st) i < KG κ (arrOf st) j))) st):wpS M A E s (ltAt' i j) Q st:=by
 obtain ⟨x,ex,mx,_⟩:=getG (show i < (arrOf st).size by rw [B.sz]; exact hi)
 obtain ⟨y,ey,my,_⟩:=getG (show j < (arrOf st).size by rw [B.sz]; exact hj)
 refine wpS_ltAtG L (B.kd.trans hk) ex ey (hS x (B.mem mx)) (hS y (B.mem my)) ?_
 unfold KG at h
 rwa [Zhw ex,Zhw ey] at h
theorem Zjv {xs:Array Keyed} {src d:Nat} (hs:src < xs.size) (hd:d≤src) (k:Nat) :
  KG κ (bubble xs src d) k=if k=src - d then KG κ xs src else if src - d < k∧k≤src then KG κ xs (k - 1) else KG κ xs k:=by
 have e:=getElem?_bubble hs d hd k
 split
 ·next h1=>rw [if_pos h1] at e; exact Zf5 e
 ·next h1 =>
  rw [if_neg h1] at e
  split
  ·next h2=>rw [if_pos h2] at e; exact Zf5 e
  ·next h2=>rw [if_neg h2] at e; exact Zf5 e
theorem Zf6 {xs:Array Keyed} {i j:Nat} (hj:j≤xs.size) (k:Nat):KG κ (mirror xs i j ((j - i) / 2)) k=if i≤k∧k < j then KG κ xs (i+j - 1 - k) else KG κ xs k:=by
 have e:=getElem?_mirror_all (i:=i) hj k
 split
 ·next h1=>rw [if_pos h1] at e; exact Zf5 e
 ·next h1=>rw [if_neg h1] at e; exact Zf5 e
theorem Ze1 {xs:Array Keyed} {i j:Nat} (hj:j≤xs.size) (heq:∀ k,i≤k→k < j→KG κ xs k=KG κ xs (j - 1)) (k:Nat):KG κ (mirror xs i j ((j - i) / 2)) k=KG κ xs k:=by
 rw [Zf6 hj]
 split
 ·rw [heq _ (by lia) (by lia),heq k (by lia) (by lia)]
 ·rfl
theorem Amid.mir {st0 st:SortSt} {lo n:Nat} (h:Amid st0 lo n st) {i j:Nat} (hi:lo≤i) (hj:j≤lo+n) (hn:lo+n≤(arrOf st0).size):Amid st0 lo n (setArr st (mirror (arrOf st) i j ((j - i) / 2))) :=
 h.set (mirror_perm _ _ _ _) fun k hk=>by rw [getElem?_mirror_all (by rw [h.sz]; lia),if_neg (by lia)]
theorem Amid.bub {st0 st:SortSt} {lo n:Nat} (h:Amid st0 lo n st) {k l:Nat} (hk:k < n) (hl:l≤k) (hn:lo+n≤(arrOf st0).size):Amid st0 lo n (setArr st (bubble (arrOf st) (lo+k) (k - l))) :=
 h.set (bubble_perm _ _ _) fun i hi=>by
  rw [getElem?_bubble (by rw [h.sz]; lia) _ (by lia)]
  rw [if_neg (by lia),if_neg (by lia)]
theorem Zd8 {st:SortSt} {i j:Nat} {Q:Unit→SortSt→Prop} (h:Q () (setArr st (mirror (arrOf st) i j ((j - i) / 2)))):wpS M A E s (reverseSlice' i j) Q st:=by
 rw [reverseSlice'_eq]; exact wpS_modify h
theorem wpS_down {st:SortSt} {i j:Nat} {Q:Unit→SortSt→Prop} (h:Q () (setArr st (bubble (arrOf st) i (i - j)))):wpS M A E s (moveDown' i j) Q st:=by
 rw [moveDown'_eq]; exact wpS_modify h
theorem Ze4 (L:LtG M A E s kd κ S) {st0 st:SortSt} {lo n ok:Nat} {Q:Bool→SortSt→Prop} (hk:kindOf st0=kd) (hS:∀ x∈(arrOf st0).toList,S x) (hn:lo+n≤(arrOf st0).size) (hok:ok≤n) (B:Amid st0 lo n st) (up:UpG κ (arrOf st) lo ok)
  (h:∀ u,Amid st0 lo n u→UpG κ (arrOf u) lo n→Q true u):wpS M A E s (Zk4 lo n ok) Q st:=by
 refine wpS_bind (wpS_mono (wpS_forRange (I:=fun k (c:Option Bool × Unit) u=>c=(none,())∧Amid st0 lo n u∧UpG κ (arrOf u) lo (min k n))
  (Q:=fun (c:Option Bool × Unit) u=>c=(none,())∧Amid st0 lo n u∧UpG κ (arrOf u) lo n) ?step ?fin ?init) ?post)
 case post =>
  rintro c u ⟨rfl,B1,up1⟩
  exact wpS_pure (h u B1 up1)
 case init =>
  refine ⟨rfl,B,fun i j hij hj=>?_⟩
  rcases Nat.eq_zero_or_pos ok with h1 | h1
  ·have:i=j:=by lia
   subst this; exact Int.le_refl _
  ·exact up i j hij (by lia)
 case fin =>
  rintro c u ⟨hc,B1,up1⟩
  refine ⟨hc,B1,?_⟩
  rwa [show min (max (max ok 1) n) n=n by lia] at up1
 case step =>
  rintro k c u hak hkn ⟨rfl,B1,up1⟩
  rw [show min k n=k by lia] at up1
  refine wpS_bind (wpS_mono (wpS_forRange (I:=fun x (c:Option Bool × Nat × Nat) v=>v=u∧∃ l r,c=(none,l,r)∧l≤r∧r≤k∧r - l≤k - x ∧
    (∀ i,i < l→KG κ (arrOf u) (lo+i)≤KG κ (arrOf u) (lo+k))∧(∀ i,r≤i→i < k→KG κ (arrOf u) (lo+k) < KG κ (arrOf u) (lo+i)))
   (Q:=fun (c:Option Bool × Nat × Nat) v=>v=u∧∃ l r,c=(none,l,r)∧l≤k ∧
    (∀ i,i < l→KG κ (arrOf u) (lo+i)≤KG κ (arrOf u) (lo+k))∧(∀ i,l≤i→i < k→KG κ (arrOf u) (lo+k) < KG κ (arrOf u) (lo+i))) ?istep ?ifin ?iinit) ?ipost)
  case iinit=>exact ⟨rfl,0,k,rfl,Nat.zero_le _,Nat.le_refl _,Nat.le_refl _,fun i hi=>absurd hi (Nat.not_lt_zero i),fun i g1 g2=>by lia⟩
  case ifin =>
   rintro c v ⟨rfl,l,r,rfl,hlr,hrk,hm,g1,g2⟩
   have:l=r:=by lia
   subst this
   exact ⟨rfl,l,l,rfl,hrk,g1,g2⟩
  case istep =>
   rintro x c v _ hxk ⟨rfl,l,r,rfl,hlr,hrk,hm,g1,g2⟩
   dsimp only
   rcases Nat.lt_or_ge l r with hge | hge
   ·rw [if_neg (by lia)]
    refine wpS_bind (Ze3 L hk hS B1 (by lia) (by lia) ?_)
    by_cases hless:KG κ (arrOf v) (lo+k) < KG κ (arrOf v) (lo+(l+r) / 2)
    ·simp only [hless,decide_true,if_true]
     refine wpS_pure ⟨rfl,l,(l+r) / 2,rfl,by lia,by lia,by lia,g1,fun i i1 i2=>?_⟩
     exact Int.lt_of_lt_of_le hless (up1 _ _ i1 i2)
    ·simp only [hless,decide_false,Bool.false_eq_true,if_false]
     refine wpS_pure ⟨rfl,(l+r) / 2+1,r,rfl,by lia,by lia,by lia,fun i i1=>?_,g2⟩
     exact Int.le_trans (up1 i ((l+r) / 2) (by lia) (by lia)) (Int.not_lt.mp hless)
   ·rw [if_pos hge]
    have:l=r:=by lia
    subst this
    exact wpS_pure ⟨rfl,l,l,rfl,hrk,g1,g2⟩
  case ipost =>
   rintro c v ⟨rfl,l,r,rfl,hlk,g1,g2⟩
   have hks:lo+k < (arrOf v).size:=by rw [B1.sz]; lia
   refine wpS_bind (wpS_down (wpS_pure ⟨rfl,?_,?_⟩))
   ·rw [show lo+k - (lo+l)=k - l by lia]
    exact B1.bub hkn hlk hn
   rw [show min (k+1) n=k+1 by lia]
   intro i j hij hj
   show KG κ (bubble (arrOf v) (lo+k) (lo+k - (lo+l))) (lo+i)≤KG κ (bubble (arrOf v) (lo+k) (lo+k - (lo+l))) (lo+j)
   rw [show lo+k - (lo+l)=k - l by lia]
   rw [Zjv hks (by lia),Zjv hks (by lia),show lo+k - (k - l)=lo+l by lia]
   have at1:∀ i,i≠0→lo+i - 1=lo+(i - 1):=fun i hi=>by lia
   repeat' split
   all_goals first
    | (exfalso; lia)
    | exact Int.le_refl _
    | (rw [at1 _ (by lia)]; exact Int.le_of_lt (g2 _ (by lia) (by lia)))
    | (rw [at1 i (by lia),at1 j (by lia)]; exact up1 _ _ (by lia) (by lia))
    | (rw [at1 j (by lia)]; exact up1 _ _ (by lia) (by lia))
    | exact g1 _ (by lia)
    | exact up1 _ _ (by lia) (by lia)
end
end L2
namespace L2
open PySem PySem.Spec PyProof.Rows
section
variable {M:Model} {A:Around} {E:Value→Shared→Prop} {s:Shared} {κ:Keyed→Int} {S:Keyed→Prop} {kd:SortKind}
def countRunG:Nat→Nat→StateT SortSt Sem (Option Nat):=sortPriv% PySem.Builtin.countRun
def AscF (M:Model) (A:Around) (E:Value→Shared→Prop) (s:Shared) (lo:Nat) (f:Nat→Option (Option Nat) × Nat→StateT SortSt Sem (ForInStep (Option (Option Nat) × Nat))):Prop :=
 ∀ x n u (R:ForInStep (Option (Option Nat) × Nat)→SortSt→Prop),wpS M A E s (ltAt' (lo+n) (lo+n - 1)) (fun r v=>∃ b,r=some b∧(b=true→R (.done (none,n)) v)∧(b=false→R (.yield (none,n+1)) v)) u→wpS M A E s (f x (none,n)) R u
theorem UpG.more {xs:Array Keyed} {lo x:Nat} (up:UpG κ xs lo x) (hx:1≤x) (g:¬ KG κ xs (lo+x) < KG κ xs (lo+x - 1)):UpG κ xs lo (x+1):=fun i j hij hj=>by
 rcases Nat.lt_or_ge j x with hjx | hjx
 ·exact up i j hij hjx
 ·have e:j=x:=by lia
  subst e
  rcases Nat.lt_or_ge i j with hi | hi
  ·have:=up i (j - 1) (by lia) (by lia)
   rw [show lo+(j - 1)=lo+j - 1 by lia] at this
   lia
  ·rw [show i=j by lia]; exact Int.le_refl _
theorem DownG.more {xs:Array Keyed} {lo x:Nat} (up:DownG κ xs lo x) (hx:1≤x) (g:KG κ xs (lo+x)≤KG κ xs (lo+x - 1)):DownG κ xs lo (x+1):=fun i j hij hj=>by
 rcases Nat.lt_or_ge j x with hjx | hjx
 ·exact up i j hij hjx
 ·have e:j=x:=by lia
  subst e
  rcases Nat.lt_or_ge i j with hi | hi
  ·have:=up i (j - 1) (by lia) (by lia)
   rw [show lo+(j - 1)=lo+j - 1 by lia] at this
   lia
  ·rw [show i=j by lia]; exact Int.le_refl _
theorem ascG (L:LtG M A E s kd κ S) {st0 st:SortSt} {lo a nrem:Nat} {f:Nat→Option (Option Nat) × Nat→StateT SortSt Sem (ForInStep (Option (Option Nat) × Nat))} {Q:Option (Option Nat) × Nat→SortSt→Prop} (hk:kindOf st0=kd) (hS:∀ x∈(arrOf st0).toList,S x) (hn:lo+nrem≤(arrOf st0).size) (B:Amid st0 lo nrem st)
  (hf:AscF M A E s lo f) (ha:1≤a) (han:a≤nrem) (up:UpG κ (arrOf st) lo a)
  (h:∀ n,a≤n→n≤nrem→UpG κ (arrOf st) lo n→(n=nrem∨KG κ (arrOf st) (lo+n) < KG κ (arrOf st) (lo+n - 1))→Q (none,n) st):wpS M A E s (forIn [a:nrem] (none,a) f) Q st:=by
 refine wpS_forRange (I:=fun x c u=>u=st∧c=(none,x)∧UpG κ (arrOf st) lo x) ?_ ?_ ⟨rfl,rfl,up⟩
 ·rintro x c u hax hxn ⟨rfl,rfl,up1⟩
  refine hf _ _ _ _ (Ze3 L hk hS B (by lia) (by lia) ⟨_,rfl,fun e=>?_,fun e=>?_⟩)
  ·exact h x hax (by lia) up1 (.inr (of_decide_eq_true e))
  ·exact ⟨rfl,rfl,up1.more (by lia) (of_decide_eq_false e)⟩
 ·rintro c u ⟨rfl,rfl,up1⟩
  rw [show max a nrem=nrem by lia] at up1 ⊢
  exact h nrem han (Nat.le_refl _) up1 (.inl rfl)
theorem tailG (L:LtG M A E s kd κ S) {st0 st:SortSt} {lo m nrem:Nat} {f:Nat→Option (Option Nat) × Nat→StateT SortSt Sem (ForInStep (Option (Option Nat) × Nat))} {g:Option (Option Nat) × Nat→StateT SortSt Sem (Option Nat)} {Q:Option Nat→SortSt→Prop} (hk:kindOf st0=kd) (hS:∀ x∈(arrOf st0).toList,S x) (hn:lo+nrem≤(arrOf st0).size) (B:Amid st0 lo nrem st)
  (hf:AscF M A E s lo f) (hg:∀ n,g (none,n)=pure (some n)) (ha:1≤m) (han:m≤nrem) (dn:DownG κ (arrOf st) lo m)
  (h:∀ n u,Amid st0 lo nrem u→1≤n→n≤nrem→UpG κ (arrOf u) lo n→Q (some n) u):wpS M A E s (reverseSlice' lo (lo+m) >>= fun _=>(forIn [m:nrem] (none,m) f >>= g)) Q st:=by
 refine wpS_bind (Zd8 ?_)
 have B1:=B.mir (i:=lo) (j:=lo+m) (Nat.le_refl _) (by lia) hn
 have sz:lo+m≤(arrOf st).size:=by rw [B.sz]; lia
 refine wpS_bind (ascG L hk hS hn B1 hf ha han (fun i j hij hj=>?_) fun n h1 h2 h3 _=>?_)
 ·show KG κ (mirror (arrOf st) lo (lo+m) _) (lo+i)≤KG κ (mirror (arrOf st) lo (lo+m) _) (lo+j)
  rw [Zf6 sz,Zf6 sz,if_pos (by lia),if_pos (by lia)]
  rw [show lo+(lo+m) - 1 - (lo+i)=lo+(m - 1 - i) by lia,show lo+(lo+m) - 1 - (lo+j)=lo+(m - 1 - j) by lia]
  exact dn _ _ (by lia) (by lia)
 ·rw [hg]
  exact wpS_pure (h n _ B1 (by lia) h2 h3)
def DscF (M:Model) (A:Around) (E:Value→Shared→Prop) (s:Shared) (lo:Nat) (f:Nat→Option (Option Nat) × Nat × Nat→StateT SortSt Sem (ForInStep (Option (Option Nat) × Nat × Nat))):Prop :=
 ∀ x n q u (R:ForInStep (Option (Option Nat) × Nat × Nat)→SortSt→Prop),wpS M A E s (ltAt' (lo+n) (lo+n - 1)) (fun r v=>∃ b,r=some b∧(b=true→q > 0→R (.yield (none,n+1,0)) (setArr v (mirror (arrOf v) (lo+n - (q+1)) (lo+n) ((lo+n - (lo+n - (q+1))) / 2))))∧(b=true→q=0→R (.yield (none,n+1,0)) v) ∧
  (b=false→wpS M A E s (ltAt' (lo+n - 1) (lo+n)) (fun r w=>∃ b,r=some b∧(b=true→R (.done (none,n,q)) w)∧(b=false→R (.yield (none,n+1,q+1)) w)) v)) u→wpS M A E s (f x (none,n,q)) R u
theorem descG (L:LtG M A E s kd κ S) {st0 st:SortSt} {lo n nrem:Nat} {f:Nat→Option (Option Nat) × Nat × Nat→StateT SortSt Sem (ForInStep (Option (Option Nat) × Nat × Nat))} {Q:Option (Option Nat) × Nat × Nat→SortSt→Prop} (hk:kindOf st0=kd) (hS:∀ x∈(arrOf st0).toList,S x) (hn:lo+nrem≤(arrOf st0).size) (B:Amid st0 lo nrem st)
  (hf:DscF M A E s lo f) (ha:1≤n) (han:n≤nrem) (dn:DownG κ (arrOf st) lo n)
  (h:∀ m q u,Amid st0 lo nrem u→n≤m→m≤nrem→DownG κ (arrOf u) lo m→q+1≤m→(∀ i,lo+m - (q+1)≤i→i < lo+m→KG κ (arrOf u) i=KG κ (arrOf u) (lo+m - 1))→Q (none,m,q) u):wpS M A E s (forIn [n:nrem] (none,n,0) f) Q st:=by
 refine wpS_forRange (I:=fun x c u=>∃ q,c=(none,x,q)∧Amid st0 lo nrem u∧DownG κ (arrOf u) lo x∧q+1≤x∧(∀ i,lo+x - (q+1)≤i→i < lo+x→KG κ (arrOf u) i=KG κ (arrOf u) (lo+x - 1))) ?_ ?_ ⟨0,rfl,B,dn,ha,fun i h1 h2=>by rw [show i=lo+n - 1 by lia]⟩
 ·rintro x c u hax hxn ⟨q,rfl,B1,dn1,hq,he⟩
  have sz:lo+x≤(arrOf u).size:=by rw [B1.sz]; lia
  refine hf _ _ _ _ _ (Ze3 L hk hS B1 (by lia) (by lia) ⟨_,rfl,fun e q0=>?_,fun e q0=>?_,fun e=>?_⟩)
  ·have e:=of_decide_eq_true e
   have lv:=Ze1 sz he
   refine ⟨0,rfl,B1.mir (by lia) (by lia) hn,?_,by lia,fun i h1 h2=>by rw [show i=lo+(x+1) - 1 by lia]⟩
   have d2:DownG κ (mirror (arrOf u) (lo+x - (q+1)) (lo+x) ((lo+x - (lo+x - (q+1))) / 2)) lo x:=fun i j hij hj=>by
    rw [lv,lv]; exact dn1 i j hij hj
   exact d2.more (by lia) (by rw [lv,lv]; exact Int.le_of_lt e)
  ·have e:=of_decide_eq_true e
   exact ⟨0,rfl,B1,dn1.more (by lia) (Int.le_of_lt e),by lia,fun i h1 h2=>by rw [show i=lo+(x+1) - 1 by lia]⟩
  ·have e:=of_decide_eq_false e
   refine Ze3 L hk hS B1 (by lia) (by lia) ⟨_,rfl,fun e2=>?_,fun e2=>?_⟩
   ·exact h x q u B1 hax (by lia) dn1 hq he
   ·have e2:=of_decide_eq_false e2
    refine ⟨q+1,rfl,B1,dn1.more (by lia) (by lia),by lia,fun i h1 h2=>?_⟩
    rcases Nat.lt_or_ge i (lo+x) with hi | hi
    ·rw [he i (by lia) hi,show lo+(x+1) - 1=lo+x by lia]; lia
    ·rw [show i=lo+(x+1) - 1 by lia]
 ·rintro c u ⟨q,rfl,B1,dn1,hq,he⟩
  rw [show max n nrem=nrem by lia] at dn1 hq he ⊢
  exact h nrem q u B1 han (Nat.le_refl _) dn1 hq he
theorem Zg5 (L:LtG M A E s kd κ S) {st:SortSt} {lo nrem:Nat} {Q:Option Nat→SortSt→Prop} (hk:kindOf st=kd) (hS:∀ x∈(arrOf st).toList,S x) (hn:lo+nrem≤(arrOf st).size) (h1:1≤nrem)
  (h:∀ m u,Amid st lo nrem u→1≤m→m≤nrem→UpG κ (arrOf u) lo m→Q (some m) u):wpS M A E s (countRunG lo nrem) Q st:=by
 have B:=Amid.refl st lo nrem
 have sure:∀ (f:Nat→Option (Option Nat) × Nat→StateT SortSt Sem (ForInStep (Option (Option Nat) × Nat))),(∀ x n u (R:ForInStep (Option (Option Nat) × Nat)→SortSt→Prop),wpS M A E s (ltAt' (lo+n) (lo+n - 1)) (fun r v=>∃ b,r=some b∧(b=true→R (.done (none,n)) v)∧(b=false→R (.yield (none,n+1)) v)) u→wpS M A E s (f x (none,n)) R u)→AscF M A E s lo f:=fun f h=>h
 refine wpS_bind (ascG L hk hS hn B (fun x n u R g=>wpS_bind (wpS_mono g ?_)) (Nat.le_refl 1) h1 (fun i j hij hj=>by rw [show i=j by lia]; exact Int.le_refl _) fun n hn1 hn2 up hor=>?_)
 ·rintro r v ⟨b,rfl,g1,g2⟩
  cases b with
  | true=>exact wpS_pure (g1 rfl)
  | false=>exact wpS_pure (g2 rfl)
 dsimp only
 by_cases hnn:n=nrem
 ·rw [if_pos (beq_iff_eq.mpr hnn)]
  exact wpS_pure (h n st B hn1 hn2 up)
 rw [if_neg (fun z=>hnn (beq_iff_eq.mp z))]
 have hlt:=hor.resolve_left hnn
 have sz:lo+n≤(arrOf st).size:=by lia
 rcases Nat.lt_or_ge 1 n with hgt | hgt
 ·rw [if_pos hgt]
  refine wpS_bind (Ze3 L hk hS B (by lia) (by lia) ?_)
  by_cases rose:KG κ (arrOf st) lo < KG κ (arrOf st) (lo+n - 1)
  ·rw [decide_eq_true rose]
   exact wpS_pure (h n st B hn1 hn2 up)
  rw [decide_eq_false rose]
  have all:∀ k,lo≤k→k < lo+n→KG κ (arrOf st) k=KG κ (arrOf st) (lo+n - 1):=fun k k1 k2=>by
   have a1:=up 0 (k - lo) (by lia) (by lia)
   have a2:=up (k - lo) (n - 1) (by lia) (by lia)
   rw [Nat.add_zero] at a1
   rw [show lo+(k - lo)=k by lia] at a1 a2
   rw [show lo+(n - 1)=lo+n - 1 by lia] at a2
   lia
  refine wpS_bind (Zd8 ?_)
  have lv:=Ze1 sz all
  have B1:=B.mir (i:=lo) (j:=lo+n) (Nat.le_refl _) (by lia) hn
  have dn:DownG κ (mirror (arrOf st) lo (lo+n) ((lo+n - lo) / 2)) lo (n+1):=by
   refine DownG.more (fun i j hij hj=>?_) hn1 (by rw [lv,lv]; exact Int.le_of_lt hlt)
   rw [lv,lv,all _ (by lia) (by lia),all (lo+i) (by lia) (by lia)]
   exact Int.le_refl _
  replace dn:DownG κ (arrOf (setArr st (mirror (arrOf st) lo (lo+n) ((lo+n - lo) / 2)))) lo (n+1):=dn
  generalize setArr st (mirror (arrOf st) lo (lo+n) ((lo+n - lo) / 2))=w at B1 dn ⊢
  clear rose all lv
  refine wpS_bind (wpS_lift (wpAny_rule ⟨rfl,?_⟩))
  refine wpS_bind (descG L hk hS hn B1 (fun x n q u R g=>wpS_bind (wpS_mono g ?_)) (by lia) (by lia) dn fun m q u B2 m1 m2 dn2 q1 he=>?_)
  ·rintro r v ⟨b,rfl,g1,g2,g3⟩
   cases b with
   | true =>
    rcases Nat.eq_zero_or_pos q with q0 | q0
    ·subst q0; exact wpS_pure (g2 rfl rfl)
    ·dsimp only
     rw [if_pos rfl,if_pos q0]
     exact wpS_bind (Zd8 (wpS_pure (g1 rfl q0)))
   | false =>
    refine wpS_bind (wpS_mono (g3 rfl) ?_)
    rintro r v ⟨b,rfl,g1,g2⟩
    cases b with
    | true=>exact wpS_pure (g1 rfl)
    | false=>exact wpS_pure (g2 rfl)
  dsimp only
  have sz2:lo+m≤(arrOf u).size:=by rw [B2.sz]; lia
  rcases Nat.eq_zero_or_pos q with q0 | q0
  ·rw [if_neg (by lia)]
   refine tailG L hk hS hn B2 (fun x n u R g=>wpS_bind (wpS_mono g ?_)) (fun n=>rfl) (by lia) m2 dn2 h
   rintro r v ⟨b,rfl,g1,g2⟩
   cases b with
   | true=>exact wpS_pure (g1 rfl)
   | false=>exact wpS_pure (g2 rfl)
  ·rw [if_pos q0]
   refine wpS_bind (Zd8 ?_)
   have lv:=Ze1 sz2 he
   refine tailG L hk hS hn (B2.mir (by lia) (by lia) hn) (fun x n u R g=>wpS_bind (wpS_mono g ?_)) (fun n=>rfl) (by lia) m2 (fun i j hij hj=>?_) h
   ·rintro r v ⟨b,rfl,g1,g2⟩
    cases b with
    | true=>exact wpS_pure (g1 rfl)
    | false=>exact wpS_pure (g2 rfl)
   ·show KG κ (mirror _ _ _ _) _≤KG κ (mirror _ _ _ _) _
    rw [lv,lv]; exact dn2 i j hij hj
 ·rw [if_neg (by lia)]
  have e1:n=1:=by lia
  have dn:DownG κ (arrOf st) lo (n+1):=DownG.more (fun i j hij hj=>by rw [show i=j by lia]; exact Int.le_refl _) hn1 (Int.le_of_lt hlt)
  refine wpS_bind (wpS_lift (wpAny_rule ⟨rfl,?_⟩))
  refine wpS_bind (descG L hk hS hn B (fun x n q u R g=>wpS_bind (wpS_mono g ?_)) (by lia) (by lia) dn fun m q u B2 m1 m2 dn2 q1 he=>?_)
  ·rintro r v ⟨b,rfl,g1,g2,g3⟩
   cases b with
   | true =>
    rcases Nat.eq_zero_or_pos q with q0 | q0
    ·subst q0; exact wpS_pure (g2 rfl rfl)
    ·dsimp only
     rw [if_pos rfl,if_pos q0]
     exact wpS_bind (Zd8 (wpS_pure (g1 rfl q0)))
   | false =>
    refine wpS_bind (wpS_mono (g3 rfl) ?_)
    rintro r v ⟨b,rfl,g1,g2⟩
    cases b with
    | true=>exact wpS_pure (g1 rfl)
    | false=>exact wpS_pure (g2 rfl)
  dsimp only
  have sz2:lo+m≤(arrOf u).size:=by rw [B2.sz]; lia
  rcases Nat.eq_zero_or_pos q with q0 | q0
  ·rw [if_neg (by lia)]
   refine tailG L hk hS hn B2 (fun x n u R g=>wpS_bind (wpS_mono g ?_)) (fun n=>rfl) (by lia) m2 dn2 h
   rintro r v ⟨b,rfl,g1,g2⟩
   cases b with
   | true=>exact wpS_pure (g1 rfl)
   | false=>exact wpS_pure (g2 rfl)
  ·rw [if_pos q0]
   refine wpS_bind (Zd8 ?_)
   have lv:=Ze1 sz2 he
   refine tailG L hk hS hn (B2.mir (by lia) (by lia) hn) (fun x n u R g=>wpS_bind (wpS_mono g ?_)) (fun n=>rfl) (by lia) m2 (fun i j hij hj=>?_) h
   ·rintro r v ⟨b,rfl,g1,g2⟩
    cases b with
    | true=>exact wpS_pure (g1 rfl)
    | false=>exact wpS_pure (g2 rfl)
   ·show KG κ (mirror _ _ _ _) _≤KG κ (mirror _ _ _ _) _
    rw [lv,lv]; exact dn2 i j hij hj
end
end L2
namespace L2
open PySem PySem.Spec PyProof.Rows
section
variable {M:Model} {A:Around} {E:Value→Shared→Prop} {s:Shared} {κ:Keyed→Int} {S:Keyed→Prop} {kd:SortKind}
def Tiles (κ:Keyed→Int) (xs:List Keyed):Nat→List (Nat × Nat × Nat)→Nat→Prop
 | a,[],b=>a=b
 | a,p :: ps,b=>p.1=a∧0 < p.2.1∧Rise κ ((xs.drop a).take p.2.1)∧Tiles κ xs (a+p.2.1) ps b
theorem Tiles.len {xs:List Keyed}:∀ {ps:List (Nat × Nat × Nat)} {a b:Nat},Tiles κ xs a ps b→a+ps.length≤b
 | [],a,b,h=>Nat.le_of_eq h
 | p :: ps,a,b,h=>by
  have:=Tiles.len h.2.2.2
  have:=h.2.1
  rw [List.length_cons]; lia
theorem Tiles.app {xs:List Keyed}:∀ {ps qs:List (Nat × Nat × Nat)} {a b:Nat},Tiles κ xs a (ps++qs) b↔∃ c,Tiles κ xs a ps c∧Tiles κ xs c qs b
 | [],qs,a,b=>⟨fun h=>⟨a,rfl,h⟩,fun ⟨c,h1,h2⟩=>by cases h1; exact h2⟩
 | p :: ps,qs,a,b=>by
  constructor
  ·rintro ⟨h1,h2,h3,h4⟩
   obtain ⟨c,g1,g2⟩:=Tiles.app.mp h4
   exact ⟨c,⟨h1,h2,h3,g1⟩,g2⟩
  ·rintro ⟨c,⟨h1,h2,h3,g1⟩,g2⟩
   exact ⟨h1,h2,h3,Tiles.app.mpr ⟨c,g1,g2⟩⟩
theorem Zhe {α:Type} {xs ys:List α} {a n:Nat} (h:∀ i,a≤i→i < a+n→ys[i]?=xs[i]?):(ys.drop a).take n=(xs.drop a).take n:=by
 apply List.ext_getElem?
 intro i
 rw [List.getElem?_take,List.getElem?_take]
 split
 ·rw [List.getElem?_drop,List.getElem?_drop]; exact h _ (by lia) (by lia)
 ·rfl
theorem Tiles.same {xs ys:List Keyed}:∀ {ps:List (Nat × Nat × Nat)} {a b:Nat},Tiles κ xs a ps b→(∀ i,a≤i→i < b→ys[i]?=xs[i]?)→Tiles κ ys a ps b
 | [],a,b,h,_=>h
 | p :: ps,a,b,h,g=>by
  have l:=Tiles.len h.2.2.2
  refine ⟨h.1,h.2.1,?_,Tiles.same h.2.2.2 fun i i1 i2=>g i (by lia) i2⟩
  rw [Zhe fun i i1 i2=>g i i1 (by lia)]
  exact h.2.2.1
theorem Tiles.words {xs:List Keyed}:∀ {ps qs:List (Nat × Nat × Nat)} {a b:Nat},Tiles κ xs a ps b→qs.map (fun p=>(p.1,p.2.1))=ps.map (fun p=>(p.1,p.2.1))→Tiles κ xs a qs b
 | [],[],a,b,h,_=>h
 | [],_ :: _,a,b,h,e=>by simp at e
 | _ :: _,[],a,b,h,e=>by simp at e
 | p :: ps,q :: qs,a,b,h,e=>by
  obtain ⟨e1,e2⟩:=List.cons.inj e
  obtain ⟨e3,e4⟩:=Prod.mk.inj e1
  have t:=Tiles.words h.2.2.2 e2
  rw [← e4] at t
  exact ⟨e3.trans h.1,by rw [e4]; exact h.2.1,by rw [e4]; exact h.2.2.1,t⟩
theorem two_in {α:Type} {p:Array α} {i:Nat} (h:i+1 < p.size):∃ P a b R,p.toList=P++a :: b :: R∧P.length=i∧p[i]?=some a∧p[i+1]?=some b:=by
 obtain ⟨a,e1,_,d1⟩:=getG (show i < p.size by lia)
 obtain ⟨b,e2,_,d2⟩:=getG h
 refine ⟨p.toList.take i,a,b,p.toList.drop (i+1+1),?_,by rw [List.length_take,Array.length_toList]; lia,e1,e2⟩
 rw [← d2,← d1,List.take_append_drop]
theorem two_out {α:Type} {p:Array α} {P R:List α} {a b v:α} (h:p.toList=P++a :: b :: R):((p.setIfInBounds P.length v).eraseIdxIfInBounds (P.length+1)).toList=P++v :: R:=by
 have hs:p.size=P.length+(R.length+2):=by rw [← Array.length_toList,h]; simp
 have h1:P.length+1 < (p.setIfInBounds P.length v).size:=by rw [Array.size_setIfInBounds]; lia
 rw [Array.eraseIdxIfInBounds,dif_pos h1,Array.toList_eraseIdx,Array.toList_setIfInBounds,h]
 rw [List.set_append_right _ _ (Nat.le_refl _),Nat.sub_self,List.set_cons_zero,List.eraseIdx_append_of_length_le (by lia),Nat.add_sub_cancel_left]
 rfl
structure RunI (κ:Keyed→Int) (kd:SortKind) (a0:Array Keyed) (b:Nat) (st:SortSt):Prop where
 kd:kindOf st=kd
 fa:failedOf st=none
 pm:(arrOf st).Perm a0
 tl:Tiles κ (arrOf st).toList 0 (pendingOf st).toList b
theorem mergeI (L:LtG M A E s kd κ S) {a0:Array Keyed} {b i:Nat} {st:SortSt} {Q:Bool→SortSt→Prop} (hS:∀ x∈a0.toList,S x) (hb:b≤a0.size) (I:RunI κ kd a0 b st) (hi:i+1 < (pendingOf st).size)
  (h:∀ u,RunI κ kd a0 b u→(pendingOf u).size+1=(pendingOf st).size→(∀ i,b≤i→(arrOf u).toList[i]?=(arrOf st).toList[i]?)→Q true u):wpS M A E s (mergeAtG i) Q st:=by
 obtain ⟨P,p,q,R,e,rfl,e1,e2⟩:=two_in hi
 have tl:=I.tl
 rw [e] at tl
 obtain ⟨c,t1,t2⟩:=Tiles.app.mp tl
 obtain ⟨sa,na,pw⟩:=p
 obtain ⟨sb,nb,pw'⟩:=q
 obtain ⟨x1,x2,x3,y1,y2,y3,t3⟩:=t2
 simp only at x1 x2 x3 y1 y2 y3 t3
 subst x1
 subst y1
 have l3:=Tiles.len t3
 have szz:(arrOf st).size=a0.size:=I.pm.size_eq
 refine Zj1 L I.kd I.fa e1 e2 (fun x hx=>hS x ((Array.perm_iff_toList_perm.mp I.pm).mem_iff.mp hx)) x2 y2 (by lia) x3 y3 fun arr' g seg ea r pm=>?_
 have two:=two_out (v:=(sa,na+nb,pw)) e
 have sl:seg.length=na+nb:=by
  rw [pm.length_eq,List.length_append,List.length_take,List.length_take,List.length_drop,List.length_drop,Array.length_toList]; lia
 have le:((arrOf st).toList.take sa).length=sa:=by rw [List.length_take,Array.length_toList]; lia
 have all:(arrOf st).toList=(arrOf st).toList.take sa++(((arrOf st).toList.drop sa).take na++((arrOf st).toList.drop (sa+na)).take nb)++(arrOf st).toList.drop (sa+na+nb):=by
  rw [List.append_assoc,List.append_assoc,← Zch _ (sa+na) nb,← Zch _ sa na,List.take_append_drop]
 refine h _ ⟨rfl,rfl,?_,?_⟩ ?_ (fun i hi=>?_)
 ·refine Array.Perm.trans ?_ I.pm
  rw [Array.perm_iff_toList_perm]
  show arr'.toList.Perm _
  rw [ea]
  conv=>rhs; rw [all]
  exact List.Perm.append_right _ (List.Perm.append_left _ pm)
 ·show Tiles κ arr'.toList 0 (((pendingOf st).setIfInBounds P.length (sa,na+nb,pw)).eraseIdxIfInBounds (P.length+1)).toList b
  rw [two]
  refine Tiles.app.mpr ⟨sa,t1.same fun i _ i2=>?_,rfl,by show 0 < na+nb; lia,?_,?_⟩
  ·rw [ea,List.append_assoc,List.getElem?_append_left (by lia),List.getElem?_take,if_pos i2]
  ·show Rise κ ((arr'.toList.drop sa).take (na+nb))
   rw [ea,List.append_assoc,List.drop_append_of_le_length (by lia),List.drop_of_length_le (by lia),List.nil_append,List.take_append_of_le_length (by lia),List.take_of_length_le (by lia)]
   exact r
  ·show Tiles κ arr'.toList (sa+(na+nb)) R b
   rw [← Nat.add_assoc]
   refine t3.same fun i i1 i2=>?_
   rw [ea,List.getElem?_append_right (by rw [List.length_append]; lia),List.getElem?_drop,List.length_append,le,sl]
   congr 1; lia
 ·show (((pendingOf st).setIfInBounds P.length (sa,na+nb,pw)).eraseIdxIfInBounds (P.length+1)).size+1=(pendingOf st).size
  rw [← Array.length_toList,two,← Array.length_toList,e]
  simp
  lia
 ·show arr'.toList[i]?=_
  rw [ea,List.getElem?_append_right (by rw [List.length_append]; lia),List.getElem?_drop,List.length_append,le,sl]
  congr 1; lia
theorem rise_up {xs:Array Keyed} {lo n:Nat} (h:UpG κ xs lo n) (hn:lo+n≤xs.size):Rise κ ((xs.toList.drop lo).take n):=by
 refine List.pairwise_iff_getElem.mpr fun i j hi hj hij=>?_
 rw [List.length_take,List.length_drop,Array.length_toList] at hi hj
 rw [List.getElem_take,List.getElem_take,List.getElem_drop,List.getElem_drop]
 have:=h i j (by lia) (by lia)
 unfold KG at this
 rw [Array.getD_eq_getD_getElem?,Array.getD_eq_getD_getElem?,getElem?_pos xs (lo+i) (by lia),getElem?_pos xs (lo+j) (by lia)] at this
 simpa using this
theorem RunI.amid {a0:Array Keyed} {lo n:Nat} {st u:SortSt} (I:RunI κ kd a0 lo st) (B:Amid st lo n u):RunI κ kd a0 lo u :=
 ⟨B.kd.trans I.kd,B.fa.trans I.fa,B.pm.trans I.pm,by
  rw [B.pe]
  exact I.tl.same fun i _ i2=>by rw [Array.getElem?_toList,Array.getElem?_toList]; exact B.out i (.inl i2)⟩
def sortRunsG:StateT SortSt Sem Unit:=sortPriv% PySem.Builtin.sortRuns
def Zei:Nat→Nat→Nat→Nat:=sortPriv% PySem.Builtin.minRun
theorem Zfn:∀ f n r,1≤n→1≤Zei f n r
 | 0,n,r,h=>by show 1≤n+r; lia
 | f+1,n,r,h=>by
  show 1≤if n < 64 then n+r else Zei f (n / 2) (max r (n % 2))
  split
  ·lia
  ·exact Zfn f _ _ (by lia)
theorem RunI.add {a0:Array Keyed} {lo n pw:Nat} {st:SortSt} {p:Array (Nat × Nat × Nat)} {g:Nat} (I:RunI κ kd a0 lo st) (hp:p.toList.map (fun p=>(p.1,p.2.1))=(pendingOf st).toList.map (fun p=>(p.1,p.2.1))) (hn:0 < n) (r:Rise κ (((arrOf st).toList.drop lo).take n)):RunI κ kd a0 (lo+n) (SortSt.mk' (kindOf st) (arrOf st) (p.push (lo,n,pw)) g (failedOf st)) :=
 ⟨I.kd,I.fa,I.pm,by
  show Tiles κ (arrOf st).toList 0 (p.push (lo,n,pw)).toList (lo+n)
  rw [Array.toList_push]
  exact Tiles.app.mpr ⟨lo,I.tl.words hp,rfl,hn,r,rfl⟩⟩
theorem Zih {p:Array (Nat × Nat × Nat)} {i pw:Nat}:(p.modify i fun x=>(x.1,x.2.1,pw)).toList.map (fun p=>(p.1,p.2.1))=p.toList.map (fun p=>(p.1,p.2.1)):=by
 apply List.ext_getElem?
 intro j
 simp only [List.getElem?_map,Array.getElem?_toList,Array.getElem?_modify]
 split
 ·next h=>subst h; cases p[i]? <;> rfl
 ·rfl
theorem Zg4 (L:LtG M A E s kd κ S) {st:SortSt} {Q:Unit→SortSt→Prop} (hk:kindOf st=kd) (hfa:failedOf st=none) (hpe:pendingOf st=#[]) (hS:∀ x∈(arrOf st).toList,S x)
  (h:∀ u,(arrOf u).Perm (arrOf st)→failedOf u=none→Rise κ (arrOf u).toList→Q () u):wpS M A E s sortRunsG Q st:=by
 have I0:RunI κ kd (arrOf st) 0 st:=⟨hk,hfa,Array.Perm.refl _,by rw [hpe]; rfl⟩
 refine wpS_bind (wpS_get ?_)
 dsimp only
 generalize hsz:(arrOf st).size=N
 refine wpS_bind (wpS_mono (wpS_forRange
  (I:=fun x (c:Option Unit × Nat) u=>c.1=none∧x≤c.2∧c.2≤N∧RunI κ kd (arrOf st) c.2 u)
  (Q:=fun (c:Option Unit × Nat) u=>c=(none,N)∧RunI κ kd (arrOf st) N u) ?step ?fin ⟨rfl,Nat.le_refl _,Nat.zero_le _,I0⟩) ?post)
 case fin =>
  rintro ⟨r,lo⟩ u ⟨e,h1,h2,I⟩
  have h1:max 0 N≤lo:=h1
  have h2:lo≤N:=h2
  have:lo=N:=by lia
  subst this
  have e:r=none:=e
  subst e
  exact ⟨rfl,I⟩
 case step =>
  rintro x ⟨r,lo⟩ u _ hx ⟨e,h1,h2,I⟩
  have h1:x≤lo:=h1
  have h2:lo≤N:=h2
  have e:r=none:=e
  subst e
  dsimp only at I ⊢
  have us:(arrOf u).size=N:=I.pm.size_eq.trans hsz
  have uS:∀ x∈(arrOf u).toList,S x:=fun x hx=>hS x ((Array.perm_iff_toList_perm.mp I.pm).mem_iff.mp hx)
  rcases Nat.lt_or_ge lo N with hlo | hlo
  ·rw [if_neg (by lia)]
   refine wpS_bind (Zg5 L I.kd uS (by lia) (by lia) fun m u1 B1 m1 m2 up1=>?_)
   dsimp only
   have mr:1≤Zei N N 0:=Zfn _ _ _ (by lia)
   have back:∀ (n:Nat) (v:SortSt),RunI κ kd (arrOf st) lo v→0 < n→lo+n≤N→Rise κ (((arrOf v).toList.drop lo).take n) →
     RunI κ kd (arrOf st) lo v∧0 < n∧lo+n≤N∧Rise κ (((arrOf v).toList.drop lo).take n):=fun n v a b c d=>⟨a,b,c,d⟩
   have I1:=I.amid B1
   rcases Nat.lt_or_ge m (Zei N N 0) with hm | hm
   ·rw [if_pos (show m < (sortPriv% PySem.Builtin.minRun) N N 0 from hm)]
    refine wpS_bind (wpS_lift (wpAny_rule ⟨rfl,?_⟩))
    have hf1:min (N - lo) (Zei N N 0)≤N - lo:=Nat.min_le_left _ _
    have hf2:m≤min (N - lo) (Zei N N 0):=Nat.le_min.mpr ⟨m2,Nat.le_of_lt hm⟩
    replace hf1:min (N - lo) ((sortPriv% PySem.Builtin.minRun) N N 0)≤N - lo:=hf1
    replace hf2:m≤min (N - lo) ((sortPriv% PySem.Builtin.minRun) N N 0):=hf2
    generalize min (N - lo) ((sortPriv% PySem.Builtin.minRun) N N 0)=n at hf1 hf2 ⊢
    have u1S:∀ x∈(arrOf u1).toList,S x:=fun x hx=>uS x (B1.mem hx)
    refine wpS_bind (Ze4 L I1.kd u1S (by rw [B1.sz]; lia) hf2 (Amid.refl u1 lo n) up1 fun v B2 up2=>?_)
    have ff:∀ {α:Type} (a b:α),(if (!true)=true then a else b)=b:=fun a b=>rfl
    rw [ff]
    have Iv:=I1.amid B2
    have rv:=rise_up up2 (by rw [B2.sz,B1.sz]; lia)
    refine wpS_bind (wpS_get ?_)
    cases hb:(pendingOf v).back? with
    | none =>
     dsimp only
     exact wpS_bind (wpS_modify (wpS_pure ⟨rfl,by show x+1≤lo+n; lia,by show lo+n≤N; lia,Iv.add rfl (by lia) rv⟩))
    | some p =>
     obtain ⟨s1,n1,q⟩:=p
     dsimp only
     refine wpS_bind (wpS_mono (wpS_forRange (I:=fun _ (c:Option Unit × Unit) w=>c=(none,())∧RunI κ kd (arrOf st) lo w∧Rise κ (((arrOf w).toList.drop lo).take n)) (Q:=fun (c:Option Unit × Unit) w=>c=(none,())∧RunI κ kd (arrOf st) lo w∧Rise κ (((arrOf w).toList.drop lo).take n)) ?_ (fun _ _ z=>z) ⟨rfl,Iv,rv⟩) ?_)
     ·rintro y c w _ _ ⟨rfl,Iw,rw'⟩
      refine wpS_bind (wpS_get ?_)
      split
      ·next fst fst1 older hq =>
       split
       ·exact wpS_pure ⟨rfl,Iw,rw'⟩
       ·refine wpS_bind (mergeI L hS (by lia) Iw ?_ fun v2 I2 _ ou=>?_)
        ·split at hq
         ·next h2 =>
          have h2:1 < (pendingOf w).size:=h2
          show (pendingOf w).size - 2+1 < (pendingOf w).size
          lia
         ·nomatch hq
        ·refine wpS_pure ⟨rfl,I2,?_⟩
         rw [Zhe fun i i1 _=>ou i i1]
         exact rw'
      ·exact wpS_pure ⟨rfl,Iw,rw'⟩
     ·rintro c w ⟨rfl,Iw,rw'⟩
      dsimp only
      exact wpS_bind (wpS_modify (wpS_bind (wpS_modify (wpS_pure ⟨rfl,by show x+1≤lo+n; lia,by show lo+n≤N; lia,Iw.add Zih (by lia) rw'⟩))))
   ·rw [if_neg (show ¬ m < (sortPriv% PySem.Builtin.minRun) N N 0 from Nat.not_lt.mpr hm)]
    have Iv:=I1
    have rv:=rise_up up1 (by rw [B1.sz]; lia)
    refine wpS_bind (wpS_get ?_)
    cases hb:(pendingOf u1).back? with
    | none =>
     dsimp only
     exact wpS_bind (wpS_modify (wpS_pure ⟨rfl,by show x+1≤lo+m; lia,by show lo+m≤N; lia,Iv.add rfl (by lia) rv⟩))
    | some p =>
     obtain ⟨s1,n1,q⟩:=p
     dsimp only
     refine wpS_bind (wpS_mono (wpS_forRange (I:=fun _ (c:Option Unit × Unit) w=>c=(none,())∧RunI κ kd (arrOf st) lo w∧Rise κ (((arrOf w).toList.drop lo).take m)) (Q:=fun (c:Option Unit × Unit) w=>c=(none,())∧RunI κ kd (arrOf st) lo w∧Rise κ (((arrOf w).toList.drop lo).take m)) ?_ (fun _ _ z=>z) ⟨rfl,Iv,rv⟩) ?_)
     ·rintro y c w _ _ ⟨rfl,Iw,rw'⟩
      refine wpS_bind (wpS_get ?_)
      split
      ·next fst fst1 older hq =>
       split
       ·exact wpS_pure ⟨rfl,Iw,rw'⟩
       ·refine wpS_bind (mergeI L hS (by lia) Iw ?_ fun v2 I2 _ ou=>?_)
        ·split at hq
         ·next h2 =>
          have h2:1 < (pendingOf w).size:=h2
          show (pendingOf w).size - 2+1 < (pendingOf w).size
          lia
         ·nomatch hq
        ·refine wpS_pure ⟨rfl,I2,?_⟩
         rw [Zhe fun i i1 _=>ou i i1]
         exact rw'
      ·exact wpS_pure ⟨rfl,Iw,rw'⟩
     ·rintro c w ⟨rfl,Iw,rw'⟩
      dsimp only
      exact wpS_bind (wpS_modify (wpS_bind (wpS_modify (wpS_pure ⟨rfl,by show x+1≤lo+m; lia,by show lo+m≤N; lia,Iw.add Zih (by lia) rw'⟩))))
  ·rw [if_pos hlo]
   have:lo=N:=by lia
   subst this
   exact wpS_pure ⟨rfl,I⟩
 case post =>
  rintro c u ⟨rfl,I⟩
  dsimp only
  refine wpS_bind (wpS_mono (wpS_forRange (I:=fun x (c:Option Unit × Unit) v=>c=(none,())∧RunI κ kd (arrOf st) N v∧((pendingOf v).size+x≤N∨(pendingOf v).size≤1)) (Q:=fun (c:Option Unit × Unit) v=>c=(none,())∧RunI κ kd (arrOf st) N v∧(pendingOf v).size≤1) ?_ ?_ ⟨rfl,I,?_⟩) ?_)
  ·rintro x c v _ hx ⟨rfl,Iv,hv⟩
   refine wpS_bind (wpS_get ?_)
   rcases Nat.lt_or_ge 1 (pendingOf v).size with h1 | h1
   ·rw [if_neg (show ¬ (pendingOf v).size≤1 by lia)]
    have ix:∀ (b:Prop) [Decidable b],(if b then (pendingOf v).size - 2 - 1 else (pendingOf v).size - 2)+1 < (pendingOf v).size:=fun b _=>by
     split <;> lia
    refine wpS_bind (mergeI L hS (by lia) Iv (ix _) fun v2 I2 s2 _=>?_)
    exact wpS_pure ⟨rfl,I2,by rcases hv with hv | hv <;> lia⟩
   ·rw [if_pos h1]
    exact wpS_pure ⟨rfl,Iv,h1⟩
  ·rintro c v ⟨rfl,Iv,hv⟩
   exact ⟨rfl,Iv,by rcases hv with hv | hv <;> lia⟩
  ·have:=Tiles.len I.tl
   rw [Array.length_toList] at this
   exact .inl (by lia)
  ·rintro c v ⟨rfl,Iv,hv⟩
   dsimp only
   refine wpS_pure (h v Iv.pm Iv.fa ?_)
   have tl:=Iv.tl
   have le:(pendingOf v).toList.length≤1:=by rw [Array.length_toList]; exact hv
   have vs:(arrOf v).toList.length=N:=by rw [Array.length_toList]; exact Iv.pm.size_eq.trans hsz
   generalize (pendingOf v).toList=ps at tl le
   match ps,tl,le with
   | [],tl,_ =>
    have e:0=N:=tl
    rw [List.length_eq_zero_iff.mp (vs.trans e.symm)]
    exact List.Pairwise.nil
   | [p],tl,_ =>
    obtain ⟨_,_,r,e⟩:=tl
    have e:0+p.2.1=N:=e
    rwa [List.drop_zero,List.take_of_length_le (by lia)] at r
end
end L2
namespace L2
open PySem PySem.Spec PyProof.Rows
def isCF:Option NameKind→Bool
 | some .cell=>true
 | some .free=>true
 | _=>false
theorem isCF_of {o:Option NameKind} (h:isCF o=true):o=some .cell∨o=some .free:=by
 match o,h with
 | some .cell,_=>exact .inl rfl
 | some .free,_=>exact .inr rfl
theorem Zen (env:Env):∀ (l:List (Str × NameKind)) (acc:List (Str × Addr)),(∀ y∈l,y.2=.free→∃ c,env.cells.lookup y.1=some c) →
  (∀ x c,acc.lookup x=some c→env.cells.lookup x=some c) →
  ∃ cl,(forIn l acc (fun (x:Str × NameKind) (r:List (Str × Addr))=>if (x.2 == .free)=true then (cellOf env x.1 >>= fun c=>pure (ForInStep.yield ((x.1,c) :: r))) else pure (ForInStep.yield r)):Sem (List (Str × Addr)))=pure cl ∧
   (∀ x c,cl.lookup x=some c→env.cells.lookup x=some c)∧(∀ x,((∃ c,acc.lookup x=some c)∨(x,NameKind.free)∈l)→∃ c,cl.lookup x=some c)
 | [],acc,_,ha=>⟨acc,by rfl,ha,fun x h=>h.elim id fun z=>nomatch z⟩
 | (n,k) :: l,acc,hl,ha=>by
  have hl':∀ y∈l,y.2=.free→∃ c,env.cells.lookup y.1=some c:=fun y hy=>hl y (List.mem_cons_of_mem _ hy)
  by_cases hk:k=.free
  ·subst hk
   obtain ⟨c,hc⟩:=hl (n,.free) List.mem_cons_self rfl
   have hc':env.cells.lookup n=some c:=hc
   have look:∀ x,((n,c) :: acc).lookup x=if x=n then some c else acc.lookup x:=fun x=>by
    rw [List.lookup_cons]
    by_cases e:x=n
    ·subst e; simp
    ·rw [if_neg e,show (x == n)=false by simpa using e]
   have ha':∀ x d,((n,c) :: acc).lookup x=some d→env.cells.lookup x=some d:=fun x d e=>by
    rw [look] at e
    split at e
    ·rename_i q; subst q; rw [hc']; exact e
    ·exact ha x d e
   obtain ⟨cl,e,h1,h2⟩:=Zen env l ((n,c) :: acc) hl' ha'
   refine ⟨cl,?_,h1,fun x h=>h2 x ?_⟩
   ·rw [← e,List.forIn_cons]
    have ec:cellOf env n=pure c:=by unfold cellOf; rw [hc']
    show ((cellOf env n >>= fun c=>pure (ForInStep.yield ((n,c) :: acc))) >>= _:Sem (List (Str × Addr)))=_
    rw [ec]
    rfl
   ·rcases h with ⟨d,q⟩ | h
    ·left
     rw [look]
     by_cases z:x=n
     ·exact ⟨c,by rw [if_pos z]⟩
     ·exact ⟨d,by rw [if_neg z]; exact q⟩
    ·rcases List.mem_cons.mp h with z | z
     ·left
      rw [look]
      exact ⟨c,by rw [if_pos (congrArg Prod.fst z)]⟩
     ·exact .inr z
  ·obtain ⟨cl,e,h1,h2⟩:=Zen env l acc hl' ha
   refine ⟨cl,?_,h1,fun x h=>h2 x ?_⟩
   ·rw [← e,List.forIn_cons]
    have hb:(k == NameKind.free)=false:=by simpa using hk
    show ((if (k == NameKind.free)=true then _ else pure (ForInStep.yield acc)) >>= _:Sem (List (Str × Addr)))=_
    rw [hb]
    rfl
   ·rcases h with h | h
    ·exact .inl h
    ·rcases List.mem_cons.mp h with z | z
     ·exact absurd (congrArg Prod.snd z).symm hk
     ·exact .inr z
theorem closure_of {scope:Scope} {env:Env} (h:∀ y∈scope.names,y.2=.free→∃ c,env.cells.lookup y.1=some c) :
  ∃ cl,closureFor scope env=pure cl∧(∀ x c,cl.lookup x=some c→env.cells.lookup x=some c)∧(∀ x,(x,NameKind.free)∈scope.names→∃ c,cl.lookup x=some c):=by
 obtain ⟨cl,e,h1,h2⟩:=Zen env scope.names [] h (fun x c e=>by simp at e)
 refine ⟨cl,?_,h1,fun x hx=>h2 x (.inr hx)⟩
 have e2:closureFor scope env=(forIn scope.names [] (fun (x:Str × NameKind) (r:List (Str × Addr))=>if (x.2 == .free)=true then (cellOf env x.1 >>= fun c=>pure (ForInStep.yield ((x.1,c) :: r))) else pure (ForInStep.yield r)) >>= fun r=>pure r:Sem (List (Str × Addr))):=by
  rfl
 rw [e2,e]
 rfl
abbrev compCx (X:Cx) (scope:Scope) (cl:List (Str × Addr)) (N:List Str) (C:Addr) (s:Shared) (H:Hp) (ex:List Addr):Cx :=
 { X with N:=N,s₀:=s,H₀:=H,env:=compEnvC scope cl C X.env,outer:=X.stack,ex:=ex,fn:=fun _=>false,pn:=[],xe:=fun _ _=>False }
def Zh7 (osc:Scope) (oN:List Str) (sc:Scope) (N:List Str) (fr:List (Option Nat)):Bool :=
 decide (sc.kind=.function) && sc.names.all (fun y=>decide (y.2≠.cell)) && sc.names.all (fun y=>decide (y.2≠.free) || isCF (osc.names.lookup y.1)) &&
 sc.names.all (fun y=>decide (y.2≠.local) || decide (sc.names.lookup y.1=some .local)) &&
 (N.zip fr).all (fun y=>match y.2 with
  | none=>true
  | some i=>decide (oN[i]?=some y.1) && isCF (osc.names.lookup y.1) && decide (sc.names.lookup y.1=some .free)) && decide (N.length=fr.length)
structure Zf7 (osc:Scope) (oN:List Str) (sc:Scope) (N:List Str) (fr:List (Option Nat)):Prop where
 kind:sc.kind=.function
 nocell:∀ y∈sc.names,y.2≠.cell
 free:∀ y∈sc.names,y.2=.free→isCF (osc.names.lookup y.1)=true
 loc:∀ y∈sc.names,y.2=.local→sc.names.lookup y.1=some .local
 slots:∀ (j:Nat) (x:Str) (i:Nat),N[j]?=some x→fr[j]?=some (some i)→oN[i]?=some x∧isCF (osc.names.lookup x)=true∧sc.names.lookup x=some .free
 len:N.length=fr.length
theorem Zgy {osc:Scope} {oN:List Str} {sc:Scope} {N:List Str} {fr:List (Option Nat)} (h:Zh7 osc oN sc N fr=true):Zf7 osc oN sc N fr:=by
 unfold Zh7 at h
 simp only [Bool.and_eq_true,List.all_eq_true,decide_eq_true_eq,Bool.or_eq_true] at h
 obtain ⟨⟨⟨⟨⟨h1,h2⟩,h3⟩,h4⟩,h5⟩,h6⟩:=h
 refine ⟨h1,h2,fun y hy e=>(h3 y hy).resolve_left fun z=>z e,fun y hy e=>(h4 y hy).resolve_left fun z=>z e,fun j x i e1 e2=>?_,h6⟩
 have hm:(x,some i)∈N.zip fr:=by
  have:(N.zip fr)[j]?=some (x,some i):=by rw [List.getElem?_zip_eq_some]; exact ⟨e1,e2⟩
  exact List.mem_of_getElem? this
 have:=h5 _ hm
 simp only [Bool.and_eq_true,decide_eq_true_eq] at this
 exact ⟨this.1.1,this.1.2,this.2⟩
def stC (fr:List (Option Nat)) (σ:St):St:=fr.map fun o=>o.bind fun i=>(σ[i]?).join
def tComp (wi:TI) (g:TG) (te:TE) (fr:List (Option Nat)):TE:=fun σ H Q=>wi σ H fun J H1=>∀ acc,H1 acc=none→∃ W:Nat→Nat→St→Hp→Prop,(∃ m,W 0 m (stC fr σ) (upd H1 acc (.lst [])))∧∀ i m σ1 H2,W i m σ1 H2 →
 (J.stop i H2∧Q (.ref acc) H2)∨(J.go i H2∧∀ x H3,J.yld i H2 x H3→g x σ1 H3 fun σ4 H4=>te σ4 H4 fun v H5=>∃ xs,H5 acc=some (.lst xs)∧xs.length < sizeLine∧∃ m',m' < m∧W (i+1) m' σ4 (upd H5 acc (.lst (xs++[v]))))
section
variable {prog:Program} {w:World} {A:Around} {R:Result→Shared→Prop} {s:Shared}
theorem Zjj {elt target iter:Expr} {scope:Scope} {pos:Pos} {it acc:Value} {env:Env} (I:Nat→Shared→Prop)
    (turn:∀ n s,I n s→wpAny (model prog w) A (pyNext it) (fun r s₁=>match r with
      | none=>R (.ok .next) s₁
      | some v=>wpAny (model prog w) A (letOwnedTupleGo target it v) (fun _ s₁=>wpAny (model prog w) A (assign target env v) (fun _ s₂=>wpAny (model prog w) A (eval elt env) (fun x s₃ =>
          wpAny (model prog w) A (call (.builtin "list.append") [acc,x]) (fun _ s₄=>∃ m,m < n∧I m s₄) (notedBy (model prog w) A env fun e s'=>R (.error e) s') s₃)
          (notedBy (model prog w) A env fun e s'=>R (.error e) s') s₂) (notedBy (model prog w) A env fun e s'=>R (.error e) s') s₁) (notedBy (model prog w) A env fun e s'=>R (.error e) s') s₁) (notedBy (model prog w) A env fun e s'=>R (.error e) s') s)
    (n:Nat) (h:I n s) :
    codeAny (model prog w) A (.compLoop (.ListComp elt [⟨target,iter,[],0⟩] scope pos) 0 it acc env) R s:=by
  refine codeAny_loop rfl I (fun n s hI=>?_) n h
  show wpAny _ _ ((compTurn (.ListComp elt [⟨target,iter,[],0⟩] scope pos) 0 it acc env).onRaise (fun x=>do noteFrame x env; theTreesLotGoes x)) _ _ s
  refine wpAny_noted ?_
  rw [compTurn_list1]
  refine wpAny_bind (wpAny_standAt (wpAny_bind (wpAny_mono (turn n s hI) (fun r s₁ h₁=>?_) fun _ _ h'=>h')))
  cases r with
  | none=>exact wpAny_pure h₁
  | some v =>
    refine wpAny_bind (wpAny_mono h₁ (fun _ s₁ h₁=>?_) fun _ _ h'=>h')
    exact wpAny_bind (wpAny_mono h₁ (fun _ s₂ h₂=>wpAny_bind (wpAny_bind (wpAny_mono h₂ (fun x s₃ h₃=>wpAny_bind (wpAny_mono h₃
      (fun _ s₄ h₄=>wpAny_pure (wpAny_pure ⟨rfl,h₄⟩)) fun _ _ h'=>h')) fun _ _ h'=>h'))) fun _ _ h'=>h')
end
theorem Zb5 {α:Type} {M:Model} {A:Around} {t:Sem α} {Q:α→Shared→Prop} {E:Value→Shared→Prop} {s:Shared} (h:wpAny M A t Q (fun _ _=>False) s):wpAny M A t Q E s :=
 wpAny_mono h (fun _ _ q=>q) fun _ _ z=>z.elim
theorem relabel_CF {scope:Scope} {env:Env} (hc:∀ y∈scope.names,y.2≠.cell) {x:Str} (h:(relabel scope env).names.lookup x=some .cell∨(relabel scope env).names.lookup x=some .free):(x,NameKind.free)∈scope.names:=by
 have key:∀ (l:List (Str × NameKind)),(∀ y∈l,y.2≠.cell)→((l.map fun (n,k)=>if (k == NameKind.free && env.scope.kind == .function && env.kindOf n == some .cell) then (n,NameKind.cell) else (n,k)).lookup x=some .cell ∨
   (l.map fun (n,k)=>if (k == NameKind.free && env.scope.kind == .function && env.kindOf n == some .cell) then (n,NameKind.cell) else (n,k)).lookup x=some .free)→(x,NameKind.free)∈l:=by
  intro l
  induction l with
  | nil=>intro _ h; simp at h
  | cons y r ih =>
   obtain ⟨n,k⟩:=y
   intro hc h
   have hr:∀ y∈r,y.2≠.cell:=fun y hy=>hc y (List.mem_cons_of_mem _ hy)
   have hk:k≠.cell:=hc (n,k) List.mem_cons_self
   rw [List.map_cons] at h
   by_cases hxn:x=n
   ·subst hxn
    have hkf:k=.free:=by
     by_cases hb:(k == NameKind.free && env.scope.kind == .function && env.kindOf x == some .cell)=true
     ·simp only [Bool.and_eq_true,beq_iff_eq] at hb
      exact hb.1.1
     ·simp only [hb,if_neg,Bool.false_eq_true,if_false] at h
      simp only [List.lookup_cons,beq_self_eq_true] at h
      rcases h with h | h
      ·exact absurd (Option.some.inj h) hk
      ·exact Option.some.inj h
    rw [hkf]
    exact List.mem_cons_self
   ·have hb:(x == n)=false:=by simpa using hxn
    refine List.mem_cons_of_mem _ (ih hr ?_)
    by_cases hq:(k == NameKind.free && env.scope.kind == .function && env.kindOf n == some .cell)=true
    ·simp only [hq,if_true,List.lookup_cons,hb] at h
     exact h
    ·simp only [hq,Bool.false_eq_true,if_false,List.lookup_cons,hb] at h
     exact h
 exact key scope.names hc h
theorem Zep {env:Env} {x:Str}:∀ {l:List (Str × NameKind)},l.lookup x=some .free →
  ((l.map fun (n,k)=>if (k == NameKind.free && env.scope.kind == .function && env.kindOf n == some .cell) then (n,NameKind.cell) else (n,k)).lookup x=some .cell ∨
   (l.map fun (n,k)=>if (k == NameKind.free && env.scope.kind == .function && env.kindOf n == some .cell) then (n,NameKind.cell) else (n,k)).lookup x=some .free)
 | [],h=>by simp at h
 | (n,k) :: r,h=>by
  rw [List.map_cons]
  by_cases hxn:x=n
  ·subst hxn
   simp only [List.lookup_cons,beq_self_eq_true] at h
   have hk:=Option.some.inj h
   subst hk
   by_cases hq:(NameKind.free == NameKind.free && env.scope.kind == .function && env.kindOf x == some .cell)=true
   ·left
    show List.lookup x ((if (NameKind.free == NameKind.free && env.scope.kind == .function && env.kindOf x == some .cell)=true then (x,NameKind.cell) else (x,NameKind.free)) :: _)=_
    rw [if_pos hq,List.lookup_cons,beq_self_eq_true]
   ·right
    show List.lookup x ((if (NameKind.free == NameKind.free && env.scope.kind == .function && env.kindOf x == some .cell)=true then (x,NameKind.cell) else (x,NameKind.free)) :: _)=_
    rw [if_neg hq,List.lookup_cons,beq_self_eq_true]
  ·have hb:(x == n)=false:=by simpa using hxn
   simp only [List.lookup_cons,hb] at h
   have ih:=Zep (env:=env) h
   by_cases hq:(k == NameKind.free && env.scope.kind == .function && env.kindOf n == some .cell)=true
   ·simp only [hq,if_true,List.lookup_cons,hb]; exact ih
   ·simp only [hq,Bool.false_eq_true,if_false,List.lookup_cons,hb]; exact ih
theorem mem_look {x:Str} {k:NameKind}:∀ {l:List (Str × NameKind)},l.lookup x=some k→(x,k)∈l
 | [],h=>by simp at h
 | (n,j) :: r,h=>by
  by_cases e:x=n
  ·subst e
   simp only [List.lookup_cons,beq_self_eq_true] at h
   rw [← Option.some.inj h]
   exact List.mem_cons_self
  ·have hb:(x == n)=false:=by simpa using e
   simp only [List.lookup_cons,hb] at h
   exact List.mem_cons_of_mem _ (mem_look h)
section
variable {X:Cx} {elt tg iter:Expr} {scope:Scope} {pos:Pos} {wi:TI} {g:TG} {te:TE} {N:List Str} {fr:List (Option Nat)}
theorem Zgx {pins:List (Addr × Obj)} {σ:St} {H:Hp} {s s1:Shared} {cl:List (Str × Addr)} {ex:List Addr} {C:Addr} {m:Str→Option Value} (I:Inv X pins σ H s) (ck:Zf7 X.env.scope X.N scope N fr)
    (c1:∀ x c,cl.lookup x=some c→X.env.cells.lookup x=some c) (c2:∀ x,(x,NameKind.free)∈scope.names→∃ c,cl.lookup x=some c) (hex:∀ b∈ex,FpOk X pins H b∧b < s.heap.objs.size) (hC:s.heap.objs.size≤C)
    (hn:s1.heap.Ns C m) (k:∀ b o,s.heap.get? b=some o→s1.heap.get? b=some o) (ho:s1.os=s.os) (hg:s1.gens=s.gens) :
    Inv (compCx X scope cl N C s H ex) [] (stC fr σ) H s1:=by
  have lt_ne:∀ {b:Addr} {o:Obj},s.heap.get? b=some o→b≠C:=fun e=>Nat.ne_of_lt (Nat.lt_of_lt_of_le (Heap.lt_size e) hC)
  have ok:(compCx X scope cl N C s H ex).Ok :=
    { mod:=I.ok.mod
      kind:=ck.kind
      glob:=I.ok.glob
      blt:=I.ok.blt
      above:=hC
      inj:=fun x y c e1 e2=>I.ok.inj x y c (c1 x c e1) (c1 y c e2)
      has:=fun x h=>c2 x (relabel_CF ck.nocell h)
      cab:=fun x c z=>by cases z
      hd:=I.ok.hd
      frames:=I.ok.frames
      stk:=.inl rfl
      exf:=fun b hb=>⟨Nat.ne_of_lt (Nat.lt_of_lt_of_le (hex b hb).2 hC),fun x c e=>(hex b hb).1.2.2.2.2.1 x c (c1 x c e)⟩
      bs:=I.bs
      bsz:=Nat.le_trans I.ok.bsz I.sz
      noex:=fun b o e hb=>by
        rcases (hex b hb).1.2.2.2.1 with z | z
        · exact I.ok.noex b o e z
        · exact absurd (Nat.lt_of_lt_of_le (Heap.lt_size e) (Nat.le_trans I.ok.bsz z)) (Nat.lt_irrefl _)
      exfs:=fun b hb hz=>by
        rcases List.mem_cons.mp (I.stkSub b hz) with z | z
        · exact (hex b hb).1.2.1 z
        · exact (hex b hb).1.2.2.1 z
      funs:=I.stack
      frf:=I.stkFree }
  refine ⟨ok,ho,by rw [hg]; exact I.bare,Un.kept k,⟨m,hn,fun j x v e1 e2 e3=>?_⟩,fun x c e=>?_,I.hok.fresh hC,fun x c e=>I.freeC x c (c1 x c e),fun p hp=>by simp at hp,I.hok.kept k,?_⟩
  · have e1':N[j]?=some x:=e1
    unfold stC at e2
    rw [List.getElem?_map] at e2
    cases q:fr[j]? with
    | none=>rw [q] at e2; cases e2
    | some o =>
      rw [q] at e2
      cases o with
      | none =>
        have:(none:Option V)=some v:=Option.some.inj e2
        cases this
      | some i =>
        have e2':(σ[i]?).join=some v:=Option.some.inj e2
        obtain ⟨s1',s2',s3'⟩:=ck.slots j x i e1' q
        have hσ:σ[i]?=some (some v):=by
          cases z:σ[i]? with
          | none=>rw [z] at e2'; cases e2'
          | some y=>rw [z] at e2'; exact congrArg some e2'
        have hcf:=isCF_of s2'
        obtain ⟨m0,hn0,hl⟩:=I.loc
        obtain ⟨u,r,lk⟩:=hl i x v s1' hσ (Or.inr hcf)
        refine ⟨u,r,Or.inr ⟨Zep s3',?_⟩⟩
        obtain ⟨c,hc⟩:=c2 x (mem_look s3')
        refine ⟨c,hc,?_⟩
        rcases lk with ⟨z,_⟩ | ⟨_,c',hc',hv⟩
        · rcases hcf with y | y
          · have z':X.env.scope.names.lookup x=some .local:=z
            rw [y] at z'; cases z'
          · have z':X.env.scope.names.lookup x=some .local:=z
            rw [y] at z'; cases z'
        · have:=c1 x c hc
          rw [hc'] at this
          cases this
          exact hv.keeps k
  · obtain ⟨v,z⟩:=I.cell x c (c1 x c e)
    exact ⟨v,z.keeps k⟩
  · unfold stC
    rw [List.length_map]
    exact ck.len.symm
theorem comp_core {pins:List (Addr × Obj)} {σ:St} {H:Hp} {s:Shared} {Q:VK} {cl:List (Str × Addr)} {R:Value→Addr→Result→Shared→Prop} (hc:X.calm=true) (I:Inv X pins σ H s) (hi:PI X tg iter wi)
  (hg:∀ cl C s H ex,PG (compCx X scope cl N C s H ex) tg g) (he:∀ cl C s H ex,PE (compCx X scope cl N C s H ex) elt te) (ck:Zf7 X.env.scope X.N scope N fr)
  (c1:∀ x c,cl.lookup x=some c→X.env.cells.lookup x=some c) (c2:∀ x,(x,NameKind.free)∈scope.names→∃ c,cl.lookup x=some c)
  (h:tComp wi g te fr σ H Q)
  (hR:∀ acc C s' H' m,s'.heap.Ns C m→FpOk X pins H' C→Inv X pins σ H' s'→Q (.ref acc) H'→R (.ref acc) C (.ok .next) s') :
  wpAny (model X.prog X.w) X.A (eval iter X.env) (fun x s₁=>wpAny (model X.prog X.w) X.A (pyIter x) (fun it s₂=>wpAny (model X.prog X.w) X.A (newList []) (fun acc s₃ =>
   wpAny (model X.prog X.w) X.A (newFunctionEnv scope X.env.globals cl [] X.env.qual none .none (some X.env)) (fun cenv s₄ =>
    codeAny (model X.prog X.w) X.A (.compStart (.ListComp elt [⟨tg,iter,[],0⟩] scope pos) 0 it acc { cenv with scope:=relabel scope X.env }) (R acc cenv.locals) s₄) X.xe s₃) X.xe s₂) X.xe s₁) X.xe s:=by
 refine thn (hi pins s σ H _ I h) fun v s1 h1=>thn h1 fun itv s2 h2=>?_
 obtain ⟨it,fp,tn,J,H2,e,I2,T,st2,f2,q2⟩:=h2
 subst e
 refine wpAny_newObj_type (wpAny_newFunctionEnv ck.nocell (by intro y hy; simp at hy) (fun h₁ hns₁ hsb₁=>?_) ck.kind)
 dsimp only at hns₁ hsb₁ ⊢
 have I3:Inv X pins σ (upd H2 s2.heap.objs.size (.lst [])) { s2 with heap:=s2.heap.push { cls:=.type "list",dict:=none,data:=.seq ([]:List Value).toArray } }:=I2.lnew (t':=s2.toks) (its:=[]) .nil (Nat.zero_le _)
 have acc0:H2 s2.heap.objs.size=none:=I2.fresh
 obtain ⟨W,⟨m0,w0⟩,turn⟩:=q2 s2.heap.objs.size acc0
 generalize hH3:s2.heap.push { cls:=.type "list",dict:=none,data:=.seq ([]:List Value).toArray }=h3 at hns₁ hsb₁ I3 ⊢
 have hz3:h3.objs.size=s2.heap.objs.size+1:=by rw [← hH3,Heap.size_push]
 have k23:∀ b o,s2.heap.get? b=some o→h3.get? b=some o:=fun b o e=>by rw [← hH3]; exact Heap.get?_push_of_some _ e
 have k34:∀ b o,h3.get? b=some o→h₁.get? b=some o:=fun b o e=>hsb₁.extBut b o (Nat.ne_of_lt (Heap.lt_size e)) (Heap.get?_push_of_some _ e)
 have fpo:∀ b∈fp,∃ o,s2.heap.get? b=some o∧∀ v,o.data≠.cell v:=T.obj 0 _ st2
 have hex:∀ b∈fp,FpOk X pins (upd H2 s2.heap.objs.size (.lst [])) b∧b < h3.objs.size:=fun b hb=>by
  obtain ⟨o,eo,_⟩:=fpo b hb
  have lt:=Heap.lt_size eo
  obtain ⟨f0,fr'⟩:=f2 b hb
  exact ⟨⟨by rw [Zak (Nat.ne_of_lt lt)]; exact f0,fr'⟩,by rw [hz3]; exact Nat.lt_succ_of_lt lt⟩
 have I4:Inv (compCx X scope cl N h3.objs.size { s2 with heap:=h3 } (upd H2 s2.heap.objs.size (.lst [])) fp) [] (stC fr σ) (upd H2 s2.heap.objs.size (.lst [])) { s2 with heap:=h₁,toks:=s2.toks+([]:List (Str × Value)).length } :=
  Zgx I3 ck c1 c2 hex (Nat.le_refl _) hns₁ k34 rfl rfl
 have stat:∀ {H':Hp},(∀ b∈fp,H' b=none)→∀ b∈fp,FpOk (compCx X scope cl N h3.objs.size { s2 with heap:=h3 } (upd H2 s2.heap.objs.size (.lst [])) fp) [] H' b:=fun hn b hb =>
  ⟨hn b hb,(I4.ok.exf b hb).1,I4.ok.exfs b hb,.inl hb,(I4.ok.exf b hb).2,fun p hp=>by simp at hp⟩
 have stn:∀ i h h',tn i h→(∀ b o,h.get? b=some o→h'.get? b=some o)→tn i h':=fun i h h' st kk=>T.keep i h h' st fun b _ o e=>kk b o e
 have loop:codeAny (model X.prog X.w) X.A (.compLoop (.ListComp elt [⟨tg,iter,[],0⟩] scope pos) 0 (.ref it) (.ref s2.heap.objs.size) (compEnvC scope cl h3.objs.size X.env)) (R (.ref s2.heap.objs.size) h3.objs.size)
   { s2 with heap:=h₁,toks:=s2.toks+([]:List (Str × Value)).length }:=by
  refine Zjj (fun n s'=>∃ i σ' H',Inv (compCx X scope cl N h3.objs.size { s2 with heap:=h3 } (upd H2 s2.heap.objs.size (.lst [])) fp) [] σ' H' s'∧tn i s'.heap∧(∀ b∈fp,H' b=none)∧W i n σ' H') ?_ m0
   ⟨0,_,_,I4,stn _ _ _ st2 fun b o e=>k34 b o (k23 b o e),fun b hb=>(hex b hb).1.1,w0⟩
  rintro n s3 ⟨i,σ3,H3,J3,st3,fr3,w3⟩
  rcases turn i n σ3 H3 w3 with ⟨stop,qn⟩ | ⟨go,step⟩
  ·refine Zb5 (thn (T.done (compCx X scope cl N h3.objs.size { s2 with heap:=h3 } (upd H2 s2.heap.objs.size (.lst [])) fp) rfl rfl rfl hc i [] s3 σ3 H3 (fun _ _=>False) J3 (stat fr3) st3 stop) fun r s4 ⟨hr,J4⟩=>?_)
   subst hr
   obtain ⟨mc,hmc,_⟩:=J4.loc
   have I5:Inv X pins σ H3 s4:=I3.call' (ch:=fp) J4.os J4.base J4.hok J4.bare fun b hb=>⟨(hex b hb).1.2.2.2.1,(hex b hb).1.2.1,(hex b hb).1.2.2.2.2.1,(hex b hb).1.2.2.2.2.2⟩
   exact hR _ _ s4 H3 mc hmc (I3.fpOk (Nat.le_refl _) J4.free) I5 qn
  ·refine Zb5 (thn (T.item (compCx X scope cl N h3.objs.size { s2 with heap:=h3 } (upd H2 s2.heap.objs.size (.lst [])) fp) rfl rfl rfl hc i [] s3 σ3 H3 (fun _ _=>False) J3 (stat fr3) st3 go) fun r s4 ⟨u,hr,h4⟩=>?_)
   subst hr
   refine Zb5 (thn h4 fun _ s5 ⟨x,H5,J5,r5,y5,st5,fr5⟩=>?_)
   have J5':=J5.pinned (stat fr5) (T.obj _ _ st5)
   refine Zb5 (thn (hg _ _ _ _ _ _ s5 σ3 H5 x u _ J5' r5 (step x H5 y5)) fun _ s6 ⟨σ6,H6,J6,q6⟩=>?_)
   refine Zb5 (thn (he _ _ _ _ _ _ s6 σ6 H6 _ J6 q6) fun y s7 ⟨v7,H7,J7,r7,xs,hx,hz,m',hm',w7⟩=>?_)
   refine Zb5 (thn (Zcw _ s7 σ6 H7 (.ref s2.heap.objs.size) [v7] (.ref s2.heap.objs.size) [y] (fun v H8=>H8=upd H7 s2.heap.objs.size (.lst (xs++[v7]))) J7 rfl (.cons r7 .nil) ⟨_,xs,v7,rfl,rfl,hx,hz,rfl⟩) fun _ s8 ⟨_,H8,J8,_,e8⟩=>?_)
   subst e8
   refine ⟨m',hm',i+1,σ6,_,J8.unpinned,T.keep _ _ _ st5 fun b hb o e=>(J8.pin (b,o) (List.mem_append_right _ (List.mem_append_right _ (Zbq hb e)))).1,fun b hb=>?_,w7⟩
   obtain ⟨o,e,d⟩:=T.obj _ _ st5 b hb
   exact (J8.pin (b,o) (List.mem_append_right _ (List.mem_append_right _ (Zbq hb e)))).2.1
 exact codeAny_compStart_list loop (T.self _ 0 _ _ _ (stn _ _ _ st2 fun b o e=>k34 b o (k23 b o e)) loop)
theorem comp_cl (I:X.Ok) (ck:Zf7 X.env.scope X.N scope N fr):∃ cl,closureFor scope X.env=pure cl∧(∀ x c,cl.lookup x=some c→X.env.cells.lookup x=some c)∧(∀ x,(x,NameKind.free)∈scope.names→∃ c,cl.lookup x=some c) :=
 closure_of fun y hy e=>I.has y.1 (isCF_of (ck.free y hy e))
theorem pe_comp (hc:X.calm=true) (hi:PI X tg iter wi) (hg:∀ cl C s H ex,PG (compCx X scope cl N C s H ex) tg g) (he:∀ cl C s H ex,PE (compCx X scope cl N C s H ex) elt te)
  (hk:Zh7 X.env.scope X.N scope N fr=true:=by rfl) (hs:∀ x,foldedSetIterable iter X.env x=pure x:=by intro _; rfl):PE X (.ListComp elt [⟨tg,iter,[],0⟩] scope pos) (tComp wi g te fr):=by
 intro pins s σ H Q I h
 have ck:=Zgy hk
 obtain ⟨cl,e1,c1,c2⟩:=comp_cl I.ok ck
 rw [eval_ListComp]
 refine wpAny_comprehension_free (use:=none) (Q:=EP X pins σ Q) rfl hs e1 ck.kind ck.loc (comp_core (R:=fun acc C=>compPost (model X.prog X.w) X.A X.xe none (EP X pins σ Q) acc C) hc I hi hg he ck c1 c2 h fun acc C s' H' m hn f I' q=>?_)
 obtain ⟨f0,f1,f2,f3,f4,f5⟩:=f
 exact ⟨m,hn,fun h' hs'=>⟨.ref acc,H',I'.turned (t':=s'.toks) (fun b o hb e=>hs'.extBut b o hb e) f0 f1 f3 f4 f5,rfl,q⟩⟩
end
end L2
namespace L2
open PySem PySem.Spec PyProof.Rows
section
variable {X:Cx}
def CDivL (_ j:Int):Prop:=0 < j∧j.natAbs.log2 < 9000
theorem op_fdivL:OpR X (binaryOp .FloorDiv) (rI CDivL fun i j=>.int (i / j)):=opI fun i j _ _ _ _ _ hc q=>by
 have h1:(0:Int) < j:=hc.1
 exact floordiv_int (by omega) (by rw [Int.fdiv_eq_ediv_of_nonneg i (by omega)]; exact q) (.inl (PyProof.noPylong_of_log2 hc.2))
theorem Zkg:OpR X (binaryOp .Mult) (rI IntMulOk fun i j=>.int (i * j)):=opI fun _ _ _ _ _ _ _ hc q=>mul_int q hc
theorem Zgp {n k:Nat} (hk:0 < k) (h:n < 2^k):n.log2 < k:=by
 rcases Nat.eq_zero_or_pos n with h0 | hp
 ·rw [h0]; simpa using hk
 ·exact (Nat.log2_lt (Nat.ne_of_gt hp)).mpr h
theorem Zgs {z:Int} {k:Nat} (hk:0 < k) (h:z.natAbs < 2^k):Builtin.Int.intBits z≤k:=by
 unfold Builtin.Int.intBits
 split
 ·exact Nat.zero_le _
 ·exact Zgp hk h
theorem mulOk_of {a b:Int} (h1:a.natAbs < 2^128) (h2:b.natAbs < 2^128):IntMulOk a b:=by
 have e1:=Zgs (by decide) h1
 have e2:=Zgs (by decide) h2
 unfold IntMulOk Builtin.Int.intTooBig
 intro h
 simp only [Bool.and_eq_true,decide_eq_true_eq] at h
 have h3:=h.2
 have hb:(256:Int)≤(bitsLine:Int):=by decide +kernel
 omega
def tyO:Option HO→Option String
 | some (.lst _)=>some "list"
 | some (.frz _ (.lst _))=>some "list"
 | some (.tup _)=>some "tuple"
 | some (.dK _)=>some "dict"
 | some (.dT _)=>some "dict"
 | _=>none
def tyS (H:Hp):V→Option String
 | .non=>some "NoneType"
 | .bl _=>some "bool"
 | .int _=>some "int"
 | .str _=>some "str"
 | .ref a=>tyO (H a)
 | _=>none
theorem tyS_of {K:PySem.W.Frag} {H:Hp} {x:V} {T:String} (h:tyS H x=some T):TyOf K H x (.type T)∧(T="NoneType"∨T="bool"∨T="int"∨T="str"∨T="list"∨T="tuple"∨T="dict"):=by
 unfold tyS at h
 split at h
 ·cases h; exact ⟨.non,by simp⟩
 ·cases h; exact ⟨.bl _,by simp⟩
 ·cases h; exact ⟨.int _,by simp⟩
 ·cases h; exact ⟨.str _,by simp⟩
 ·unfold tyO at h
  split at h
  ·rename_i e; cases h; exact ⟨.lst e,by simp⟩
  ·rename_i e; cases h; exact ⟨.frz e,by simp⟩
  ·rename_i e; cases h; exact ⟨.tup e,by simp⟩
  ·rename_i e; cases h; exact ⟨.dK e,by simp⟩
  ·rename_i e; cases h; exact ⟨.dT e,by simp⟩
  ·cases h
 ·cases h
def isB (T c:String):Bool:=decide (T=c) || (decide (T="bool") && decide (c="int"))
theorem kit_isB {K:PySem.W.Frag} {T c:String} (h:T="NoneType"∨T="bool"∨T="int"∨T="str"∨T="list"∨T="tuple"∨T="dict") (hc:c="int"∨c="bool"∨c="tuple"∨c="list"∨c="str") :
  PySem.W.kitOne K (.type T) (.type c)=some (isB T c):=by
 rcases h with rfl | rfl | rfl | rfl | rfl | rfl | rfl <;> rcases hc with rfl | rfl | rfl | rfl | rfl <;> rfl
theorem Zda:CallR X (.builtin "isinstance") (fun xs H Q=>∃ x T c,xs=[x,.ty c]∧tyS H x=some T∧(c="int"∨c="bool"∨c="tuple"∨c="list"∨c="str")∧Q (.bl (isB T c)) H):=by
 intro pins s σ H xs us Q I r h
 obtain ⟨x,T,c,rfl,hT,hc,q⟩:=h
 obtain ⟨u,w',rfl,rx,ry⟩:=vals2 r
 cases (show w'=Value.type c from ry)
 obtain ⟨ty,hl⟩:=tyS_of (K:=X.K) hT
 exact Zjb I rx ty (kit_isB hl hc) fun tk=>⟨.bl (isB T c),H,I.tok tk,rfl,q⟩
theorem bools_get {bs:List Bool} {its:List Value} (r:Vals (bs.map V.bl) its) {i:Nat} {v:Value} (h:its.toArray[i]?=some v):v=.bool (bs.getD i false):=by
 have hl:=r.length
 have hi:i < its.length:=by
  have:=(Array.getElem?_eq_some_iff.mp h).1
  simpa using this
 have hb:bs[i]?=some (bs.getD i false):=by
  have:i < bs.length:=by rw [List.length_map] at hl; omega
  rw [List.getD_eq_getElem?_getD,List.getElem?_eq_getElem this]; rfl
 obtain ⟨u,hu,ru⟩:=r.get (i:=i) (x:=.bl (bs.getD i false)) (by rw [List.getElem?_map,hb]; rfl)
 have h':its[i]?=some v:=by simpa using h
 rw [h'] at hu
 cases hu
 exact ru
theorem range_any {α:Type} (bs:List Bool):(List.range bs.length).any (fun i=>bs.getD i false)=bs.any id:=by
 have e:(List.range bs.length).map (fun i=>bs.getD i false)=bs:=by
  apply List.ext_getElem?
  intro i
  rw [List.getElem?_map]
  by_cases h:i < bs.length
  ·rw [List.getElem?_range h,List.getElem?_eq_getElem h,Option.map_some,List.getD_eq_getElem?_getD,List.getElem?_eq_getElem h]; rfl
  ·rw [List.getElem?_eq_none (by simpa using h),List.getElem?_eq_none (by omega)]; rfl
 conv=>rhs; rw [← e]
 rw [List.any_map]; rfl
theorem Zj2 {prog:Program} {w:World} {A:Around} {bs:List Bool} {its:List Value} (r:Vals (bs.map V.bl) its):TruthOf prog w A (fun i v=>its.toArray[i]?=some v) (fun i=>bs.getD i false):=by
 intro i v s Q E hv hq
 have e:=bools_get r hv
 subst e
 exact wpAny_truthy_bool hq
theorem call_any:CallR X (.builtin "any") (fun xs H Q=>∃ (p:Addr) (bs:List Bool),xs=[.ref p]∧SqL X.K H p (bs.map V.bl)∧X.calm=true∧Q (.bl (bs.any id)) H):=by
 intro pins s σ H xs us Q I r h
 obtain ⟨p,bs,rfl,hp,hc,q⟩:=h
 obtain ⟨u,rfl,ru⟩:=vals1 r
 cases ru
 obtain ⟨its,rv,pl,hz⟩:=I.list hp
 have hl:=rv.length
 rw [List.length_map] at hl
 refine call_any_walk (wpAny_pyIter_list pl.isList ?_)
 have hlt:p < s.heap.objs.size:=by obtain ⟨o,ho,_⟩:=pl.isList; exact Heap.lt_size ho
 refine ⟨s.heap.objs.size,_,_,_,_,_,_,rfl,Walks.list (show X.A.in1.handled=none from I.ok.hd hc) s.heap.objs.size p (Nat.ne_of_lt hlt) its.toArray,⟨⟨_,Heap.get?_push_size _ rfl,rfl,rfl⟩,let ⟨o,ho,r⟩:=pl.isList; ⟨o,Heap.get?_push_of_some _ ho,r⟩⟩,Zj2 rv,fun h' tk k=>?_⟩
 refine ⟨.bl (bs.any id),H,I.kept (t':=tk) fun b o e=>k b o (fun z=>?_) (Heap.get?_push_of_some _ e),?_,q⟩
 ·have:b=s.heap.objs.size:=by simpa using z
  exact absurd (this ▸ Heap.lt_size e) (Nat.lt_irrefl _)
 ·show Value.bool _=Value.bool _
  rw [List.size_toArray,← hl,range_any (α:=Nat)]
end
section
variable {X:Cx}
end
end L2
namespace L2
open PySem PySem.Spec PyProof.Rows
structure DefOk (P:Program) (w:World) (K:PySem.W.Frag) (mg:Str→Option Value) (base:Heap) (k:Nat) (x:Str) (ps:List Str) (sp:Sp):Prop where
 ex:∃ (f:Addr) (fd:FuncData),FnOk P w K mg base CX0 k f fd ps sp∧mg x=some (.ref f)∧PySem.W.keepIn K (.ref f)=true∧Binds K fd ps []
section
variable {X:Cx} {k j:Nat} {x:Str} {ps:List Str} {sp:Sp} {p pos:Pos} {e:Expr} {es:List Expr} {t:TA}
theorem Zaq (D:DefOk X.prog X.w X.K X.mg X.base k x ps sp) (hr:Room j X.A) (ha:PA X (e :: es) t) (hj:k≤j:=by decide) (hg:Gl X x:=by rfl) (hdb:(x == ("__debug__":Str))=false:=by decide)
  (he:starEach (e :: es) X.env=(false,eval e X.env) :: starEach es X.env:=by rfl) (hpl:(backTo pos (starEach es X.env)).any (·.1)=false:=by rfl):PE X (.Call (.Name x p) (e :: es) [] pos) (tCall sp [] E0 t):=by
 obtain ⟨f,fd,F,hm,hk,hb⟩:=D.ex
 exact pe_call F (hr.mono hj) hg hm hk hb .nil pass0 ha hdb he hpl
end
theorem lenOk {xs:List V} (n:Nat) (h:xs.length=n:=by rfl) (h2:n≤1000:=by decide):xs.length≤sizeLine:=by rw [h]; exact Nat.le_of_lt (Za8 h2)
theorem iteP {c:Bool} {A B:Prop} (h:c=true) (a:A):if c=true then A else B:=by rw [if_pos h]; exact a
theorem iteN {c:Bool} {A B:Prop} (h:c=false) (b:B):if c=true then A else B:=by rw [if_neg (by rw [h]; exact Bool.false_ne_true)]; exact b
theorem ite3 {c:Bool} {A B:Prop} (h1:c=true→A) (h2:c=false→B):if c=true then A else B:=by
 cases c with
 | true=>exact iteT (h1 rfl)
 | false=>exact iteF (h2 rfl)
def SameX (p:Addr) (H H':Hp):Prop:=∀ b o,b≠p→H b=some o→H' b=some o
theorem SameX.trans {p:Addr} {H H1 H2:Hp} (a:SameX p H H1) (b:SameX p H1 H2):SameX p H H2:=fun c o n h=>b c o n (a c o n h)
theorem SameX.upd {p:Addr} {H:Hp} {o:HO}:SameX p H (upd H p o):=fun b u n h=>by rw [Zak n]; exact h
theorem Same.new {l:Addr} {H:Hp} {o:HO} (h:H l=none):Same H (L2.upd H l o):=fun b u e=>by rw [Zak (Zag e h)]; exact e
theorem SameX.same {p:Addr} {H H0 H':Hp} (a:SameX p H H') (s:Same H0 H) (h:H0 p=none):Same H0 H':=fun b o e=>a b o (Zag e h) (s b o e)
theorem Same.x {p:Addr} {H H':Hp} (a:Same H H'):SameX p H H':=fun b o _ e=>a b o e
def cW (acc:Addr) (n:Nat) (Pv:Nat→List V→St→Hp→Prop) (i m:Nat) (σ:St) (H:Hp):Prop:=i≤n∧m=n - i∧∃ xs,xs.length=i∧H acc=some (.lst xs)∧Pv i xs σ H
def cNx (acc:Addr) (n:Nat) (Pv:Nat→List V→St→Hp→Prop) (i:Nat) (σ:St) (v:V) (H:Hp):Prop:=∃ xs,H acc=some (.lst xs)∧xs.length < sizeLine∧∃ m',m' < n - i∧cW acc n Pv (i+1) m' σ (upd H acc (.lst (xs++[v])))
theorem cNx.mk {acc:Addr} {n:Nat} {Pv:Nat→List V→St→Hp→Prop} {i:Nat} {σ:St} {v:V} {H:Hp} {xs:List V} (hn:n≤sizeLine) (hi:i < n) (hl:xs.length=i) (ha:H acc=some (.lst xs)) (hp:Pv (i+1) (xs++[v]) σ (upd H acc (.lst (xs++[v])))) :
  cNx acc n Pv i σ v H:=⟨xs,ha,by omega,n - (i+1),by omega,hi,rfl,xs++[v],by rw [List.length_append,hl]; rfl,upd_same,hp⟩
theorem comp_list {K:PySem.W.Frag} {a:Addr} {ys:List V} {g:TG} {te:TE} {σ:St} {H1:Hp} {acc:Addr} {Qr:Hp→Prop} (Pv:Nat→List V→St→Hp→Prop) (h0:Pv 0 [] σ (upd H1 acc (.lst [])))
  (hq:∀ i xs σ H,i≤ys.length→H acc=some (.lst xs)→Pv i xs σ H→SqL K H a ys)
  (hs:∀ i x xs σ H,ys[i]?=some x→i < ys.length→xs.length=i→H acc=some (.lst xs)→Pv i xs σ H→g x σ H fun σ2 H2=>te σ2 H2 fun v H3=>cNx acc ys.length Pv i σ2 v H3)
  (hd:∀ xs σ H,xs.length=ys.length→H acc=some (.lst xs)→Pv ys.length xs σ H→Qr H) :
  ∃ W:Nat→Nat→St→Hp→Prop,(∃ m,W 0 m σ (upd H1 acc (.lst [])))∧∀ i m σ1 H2,W i m σ1 H2 →
   ((Itl K a).stop i H2∧Qr H2)∨((Itl K a).go i H2∧∀ x H3,(Itl K a).yld i H2 x H3→g x σ1 H3 fun σ4 H4=>te σ4 H4 fun v H5=>∃ xs,H5 acc=some (.lst xs)∧xs.length < sizeLine∧∃ m',m' < m∧W (i+1) m' σ4 (upd H5 acc (.lst (xs++[v])))):=by
 refine ⟨cW acc ys.length Pv,⟨ys.length,Nat.zero_le _,rfl,[],rfl,upd_same,h0⟩,?_⟩
 rintro i m σ1 H2 ⟨hi,rfl,xs,hl,ha,hp⟩
 have hsq:=hq i xs σ1 H2 hi ha hp
 rcases Nat.lt_or_ge i ys.length with h | h
 ·refine .inr ⟨⟨ys,ys[i],hsq,List.getElem?_eq_getElem h⟩,?_⟩
  rintro x H3 ⟨rfl,hx⟩
  exact hs i x xs σ1 H3 (hx ys hsq) h hl ha hp
 ·have e:i=ys.length:=Nat.le_antisymm hi h
  subst e
  exact .inl ⟨⟨ys,hsq,Nat.le_refl _⟩,hd xs σ1 H2 hl ha hp⟩
end L2
namespace L2
open PySem PySem.Spec PyProof.Rows PySem.W
section
variable {cmp:Nat→Nat→(Bool→Shared→Prop)→Shared→Prop} {key:Nat→Int} {N:Nat} {s:Shared}
variable (hcmp:∀ i j (C:Bool→Shared→Prop),i < N→j < N→C (decide (key i < key j)) s→cmp i j C s)
include hcmp
end
end L2
namespace L2
open PySem PySem.Spec PyProof.Rows PySem.W
section
variable {prog:Program} {w:World} {A:Around} {E:Value→Shared→Prop} {s:Shared}
def Zcx (h:Heap) (a:Addr) (vs:List Value):Heap:=((h.update a (Obj.mapSeq fun _=>#[])).push (seqObj "tuple" vs.toArray 0)).push (seqObj "list" #[] 0)
theorem Zi8 {h:Heap} {a b:Addr} {vs:List Value} {o:Obj} (hb:b≠a) (e:h.get? b=some o):(Zcx h a vs).get? b=some o:=by
 unfold Zcx
 exact Heap.get?_push_of_some _ (Heap.get?_push_of_some _ (by rw [Heap.get?_update_ne _ _ _ _ hb]; exact e))
end
section
variable {X:Cx}
theorem Zff:∀ {ts:List Addr} {its:List Value},Vals (ts.map V.ref) its→its=ts.map Value.ref
 | [],_,.nil=>rfl
 | a :: r,_,.cons h t=>by
  cases (show _=Value.ref a from h)
  rw [List.map_cons,Zff t]
theorem Zgk:∀ (ts:List Addr),Vals (ts.map V.ref) (ts.map Value.ref)
 | []=>.nil
 | a :: r=>.cons rfl (Zgk r)
end
end L2
namespace L2
open PySem PySem.Spec PyProof.Rows
section
variable {κ:Type} [DecidableEq κ]
def valV (kvs:List (κ × V)) (k:κ):Option V:=(kvs.find? fun kv=>decide (kv.1=k)).map (·.2)
def putK (kvs:List (κ × V)) (k:κ) (v:V):List (κ × V) :=
 if (kvs.any fun kv=>decide (kv.1=k))=true then kvs.map (fun kv=>if kv.1=k then (kv.1,v) else kv) else kvs++[(k,v)]
theorem Zdj {p:κ × V} {r:List (κ × V)} {k:κ} (e:p.1=k):valV (p :: r) k=some p.2:=by simp [valV,List.find?_cons,e]
theorem Zdk {p:κ × V} {r:List (κ × V)} {k:κ} (e:¬ p.1=k):valV (p :: r) k=valV r k:=by simp [valV,List.find?_cons,e]
theorem Zld (k:κ):∀ kvs:List (κ × V),(kvs.any fun kv=>decide (kv.1=k))=(valV kvs k).isSome
 | []=>rfl
 | p :: r=>by
  rw [List.any_cons]
  by_cases e:p.1=k
  ·simp only [Zdj e,decide_eq_true e,Bool.true_or,Option.isSome_some]
  ·rw [Zdk e,decide_eq_false e,Bool.false_or]; exact Zld k r
theorem Zdr (kvs:List (κ × V)) (k:κ) (v:V):(putK kvs k v).length≤kvs.length+1:=by
 unfold putK
 split
 ·rw [List.length_map]; omega
 ·rw [List.length_append,List.length_cons,List.length_nil]; omega
theorem RelO.isSome_eq {o:Option V} {u:Option Value} (r:RelO o u):o.isSome=u.isSome:=by
 cases o with
 | none=>cases u with
  | none=>rfl
  | some _=>exact (show False from r).elim
 | some _=>cases u with
  | none=>exact (show False from r).elim
  | some _=>rfl
theorem KV.val {kvs:List (κ × V)} {vs:List (κ × Value)} (r:KV kvs vs) (k:κ):RelO (valV kvs k) (valueAt vs k):=by
 unfold KV at r
 induction r with
 | nil=>exact True.intro
 | @cons p q ps qs h t ih =>
  obtain ⟨h1,h2⟩:=h
  by_cases e:p.1=k
  ·have e':q.1=k:=h1.symm.trans e
   have b:valueAt (q :: qs) k=some q.2:=by simp [valueAt,List.find?_cons,e']
   rw [Zdj e,b]; exact h2
  ·have e':¬ q.1=k:=fun z=>e (h1.trans z)
   have b:valueAt (q :: qs) k=valueAt qs k:=by simp [valueAt,List.find?_cons,e']
   rw [Zdk e,b]; exact ih
theorem KV.any {kvs:List (κ × V)} {vs:List (κ × Value)} (r:KV kvs vs) (k:κ):(kvs.any fun kv=>decide (kv.1=k))=vs.any fun kv=>decide (kv.1=k):=by
 unfold KV at r
 induction r with
 | nil=>rfl
 | cons h t ih=>rw [List.any_cons,List.any_cons,ih,h.1]
theorem KV.repl {kvs:List (κ × V)} {vs:List (κ × Value)} (r:KV kvs vs) (k:κ) {y:V} {u:Value} (ry:RelV y u) :
  KV (kvs.map fun kv=>if kv.1=k then (kv.1,y) else kv) (vs.map fun kv=>if kv.1=k then (kv.1,u) else kv):=by
 unfold KV at r ⊢
 induction r with
 | nil=>exact .nil
 | @cons p q ps qs h t ih =>
  rw [List.map_cons,List.map_cons]
  refine .cons ?_ ih
  obtain ⟨h1,h2⟩:=h
  by_cases e:p.1=k
  ·rw [if_pos e,if_pos (h1.symm.trans e)]; exact ⟨h1,ry⟩
  ·rw [if_neg e,if_neg (fun z=>e (h1.trans z))]; exact ⟨h1,h2⟩
theorem KV.put {kvs:List (κ × V)} {vs:List (κ × Value)} (r:KV kvs vs) (k:κ) {y:V} {u:Value} (ry:RelV y u):KV (putK kvs k y) (stored vs k u):=by
 unfold putK stored
 rw [r.any k]
 by_cases e:(vs.any fun kv=>decide (kv.1=k))=true
 ·rw [if_pos e,if_pos e]; exact r.repl k ry
 ·rw [if_neg e,if_neg e]; exact Paired.snoc r ⟨rfl,ry⟩
theorem KV.length {kvs:List (κ × V)} {vs:List (κ × Value)} (r:KV kvs vs):kvs.length=vs.length:=Paired.length r
end
theorem kV_is {P:Program} {w:World} {k:Key} {u:Value} (r:RelV (kV k) u):(Zbt P w).is k u=true:=by
 cases k with
 | inl i=>obtain ⟨t,e⟩:=(show ∃ t,u=Value.int i t from r); subst e; exact Zkt P w i t
 | inr x=>obtain ⟨t,e⟩:=(show ∃ t,u=Value.str x t from r); subst e; exact Zks P w x t
theorem Zja {P:Program} {w:World}:∀ {ks:List Key} {us:List Value},Vals (ks.map kV) us→ItemsAre (Zbt P w) ks us
 | [],_,r=>by rw [List.map_nil] at r; cases r; exact .nil
 | k :: ks,_,r=>by
  rw [List.map_cons] at r
  cases r with
  | cons h t=>exact .cons (kV_is h) (Zja t)
abbrev KT (H:Hp):List (List Key × V)→List (List Key × Addr × Value)→Prop:=Paired fun p q=>p.1=q.1∧H q.2.1=some (.tup (p.1.map kV))∧RelV p.2 q.2.2
theorem KT.val {H:Hp} {kvs:List (List Key × V)} {xs:List (List Key × Addr × Value)} (r:KT H kvs xs) (k:List Key):RelO (valV kvs k) ((atKey xs k).map (·.2)):=by
 induction r with
 | nil=>exact True.intro
 | @cons p q ps qs h t ih =>
  obtain ⟨h1,_,h2⟩:=h
  by_cases e:p.1=k
  ·have e':q.1=k:=h1.symm.trans e
   have b:atKey (q :: qs) k=some q.2:=by simp [atKey,List.find?_cons,e']
   rw [Zdj e,b]; exact h2
  ·have e':¬ q.1=k:=fun z=>e (h1.trans z)
   have b:atKey (q :: qs) k=atKey qs k:=by simp [atKey,List.find?_cons,e']
   rw [Zdk e,b]; exact ih
theorem KT.repl {H:Hp} {kvs:List (List Key × V)} {xs:List (List Key × Addr × Value)} (r:KT H kvs xs) (k:List Key) {y:V} {u:Value} (ry:RelV y u) :
  KT H (kvs.map fun kv=>if kv.1=k then (kv.1,y) else kv) (xs.map (putAt k u)):=by
 induction r with
 | nil=>exact .nil
 | @cons p q ps qs h t ih =>
  rw [List.map_cons,List.map_cons]
  refine .cons ?_ ih
  obtain ⟨h1,h2,h3⟩:=h
  unfold putAt
  by_cases e:p.1=k
  ·rw [if_pos e,if_pos (h1.symm.trans e)]; exact ⟨h1,h2,ry⟩
  ·rw [if_neg e,if_neg (fun z=>e (h1.trans z))]; exact ⟨h1,h2,h3⟩
theorem KT.put {H:Hp} {kvs:List (List Key × V)} {xs:List (List Key × Addr × Value)} (r:KT H kvs xs) (k:List Key) {b:Addr} {y:V} {u:Value} (hb:H b=some (.tup (k.map kV))) (ry:RelV y u) :
  KT H (putK kvs k y) (storedH xs k b u):=by
 have e:(kvs.any fun kv=>decide (kv.1=k))=(atKey xs k).isSome:=by
  rw [Zld,(r.val k).isSome_eq,Option.isSome_map]
 unfold putK storedH
 rw [e]
 by_cases q:(atKey xs k).isSome=true
 ·rw [if_pos q,if_pos q]; exact r.repl k ry
 ·rw [if_neg q,if_neg q]; exact Paired.snoc r ⟨rfl,hb,ry⟩
theorem KT.keeps {H H':Hp} {kvs:List (List Key × V)} {xs:List (List Key × Addr × Value)} (r:KT H kvs xs) (ht:∀ b ys,H b=some (.tup ys)→H' b=some (.tup ys)):KT H' kvs xs :=
 Paired.mapP r fun _ _ z=>⟨z.1,ht _ _ z.2.1,z.2.2⟩
section
variable {P:Program} {w:World} {H:Hp} {h:Heap} {a:Addr}
theorem rd_of {u:HO} (ok:HOk P w H h) (e:Rd H a u):ObjOk P w H h a u:=e.ok ok
theorem dk_rd {kvs:List (Key × V)} (ok:HOk P w H h) (e:Rd H a (.dK kvs)):kvs.length≤sizeLine∧(a == sysModules)=false∧∃ vs,KV kvs vs∧h.DictOf (Zbt P w) a vs :=
 show ObjOk P w H h a (.dK kvs) from rd_of ok e
theorem dk_of {kvs:List (Key × V)} (ok:HOk P w H h) (e:H a=some (.dK kvs)):kvs.length≤sizeLine∧(a == sysModules)=false∧∃ vs,KV kvs vs∧h.DictOf (Zbt P w) a vs:=dk_rd ok (.inl e)
theorem key_of {ks:List Key} (ok:HOk P w H h) (e:H a=some (.tup (ks.map kV))):(tupleKind (Zbt P w)).is h ks a:=by
 obtain ⟨_,its,r,o,h1,h2,n,h3⟩:=(show ObjOk P w H h a (.tup (ks.map kV)) from ok a _ e)
 exact ⟨o,its.toArray,n,h1,h2,h3,by simpa using Zja r⟩
theorem dt_rd {kvs:List (List Key × V)} (ok:HOk P w H h) (e:Rd H a (.dT kvs)):kvs.length≤sizeLine∧(a == sysModules)=false ∧
  ∃ xs,KT H kvs xs∧h.DictOfH (tupleKind (Zbt P w)) a xs:=by
 obtain ⟨z,y,xs,r,o,es,ep,h1,h2,h3,h4,h5⟩:=(show ObjOk P w H h a (.dT kvs) from rd_of ok e)
 refine ⟨z,y,xs,r,o,es,ep,h1,h2,h3,h4,fun x hx=>?_,h5⟩
 have all:∀ {l:List (List Key × V)} {m:List (List Key × Addr × Value)},KT H l m→∀ x∈m,(tupleKind (Zbt P w)).is h x.1 x.2.1:=by
  intro l m q
  induction q with
  | nil=>intro x hx; exact nomatch hx
  | @cons p q ps qs hq t ih =>
   intro x hx
   rcases List.mem_cons.mp hx with e | hx
   ·subst e
    exact key_of ok (by rw [← hq.1]; exact hq.2.1)
   ·exact ih x hx
 exact all r x hx
theorem dt_of {kvs:List (List Key × V)} (ok:HOk P w H h) (e:H a=some (.dT kvs)):kvs.length≤sizeLine∧(a == sysModules)=false ∧
  ∃ xs,KT H kvs xs∧h.DictOfH (tupleKind (Zbt P w)) a xs:=dt_rd ok (.inl e)
end
def DGet (H:Hp) (a:Addr) (y:V) (r:Option V):Prop :=
 (∃ kvs k,Rd H a (.dK kvs)∧y=kV k∧r=valV kvs k)∨∃ kvs k b,Rd H a (.dT kvs)∧y=.ref b∧H b=some (.tup (k.map kV))∧r=valV kvs k
def DPut (H:Hp) (a:Addr) (y v:V) (H':Hp):Prop :=
 (∃ kvs k,H a=some (.dK kvs)∧y=kV k∧kvs.length < sizeLine∧H'=upd H a (.dK (putK kvs k v))) ∨
 ∃ kvs k b,H a=some (.dT kvs)∧y=.ref b∧H b=some (.tup (k.map kV))∧kvs.length < sizeLine∧H'=upd H a (.dT (putK kvs k v))
theorem DGet.k {H:Hp} {a:Addr} {kvs:List (Key × V)} {k:Key} (e:H a=some (.dK kvs)):DGet H a (kV k) (valV kvs k):=.inl ⟨kvs,k,.inl e,rfl,rfl⟩
theorem DPut.k {H:Hp} {a:Addr} {kvs:List (Key × V)} {k:Key} {v:V} (e:H a=some (.dK kvs)) (hl:kvs.length < sizeLine):DPut H a (kV k) v (upd H a (.dK (putK kvs k v))):=.inl ⟨kvs,k,e,rfl,hl,rfl⟩
section
variable {X:Cx} {pins:List (Addr × Obj)} {σ:St} {H:Hp} {s:Shared} {a:Addr} {y v:V} {u r:Value} {o:Option V} {A:Around} {E:Value→Shared→Prop}
theorem Inv.big (I:Inv X pins σ H s):sysModules < s.heap.objs.size:=by
 have h:mainGlobals < s.heap.objs.size:=(I.mod.glob.keeps I.bk).lt
 exact Nat.lt_trans (by decide) h
theorem d_getItem {Q:Value→Shared→Prop} (hu:A.units+1 < cLine) (I:Inv X pins σ H s) (g:DGet H a y (some v)) (ry:RelV y u) (h:∀ w' s',Inv X pins σ H s'→RelV v w'→Q w' s') :
  wpAny (model X.prog X.w) A (getItem (.ref a) u) Q E s:=by
 rcases g with ⟨kvs,k,e,ey,l⟩ | ⟨kvs,k,b,e,ey,eb,l⟩
 ·subst ey
  obtain ⟨z,hd,vs,rel,dd⟩:=dk_rd I.hok e
  obtain ⟨w',hw,rw'⟩:=RelO.some_of (v:=v) (o:=valueAt vs k) (by rw [l]; exact rel.val k)
  exact wpAny_getItem_of (kV_is ry) dd.mapOf hw (h w' _ (I.tok _) rw')
 ·subst ey
  cases (show u=Value.ref b from ry)
  obtain ⟨z,hd,xs,rel,dd⟩:=dt_rd I.hok e
  obtain ⟨w',hw,rw'⟩:=RelO.some_of (v:=v) (o:=(atKey xs k).map (·.2)) (by rw [l]; exact rel.val k)
  obtain ⟨p,hp,hp2⟩:=Option.map_eq_some_iff.mp hw
  refine wpAny_getItem_heap (tupleKind_room_in1 hu) (key_of I.hok eb) dd hp ?_
  rw [hp2]
  exact h w' _ (I.tok _) rw'
theorem Zk1 {h':Heap} {t':Nat} {ob:HO} (I:Inv X pins σ H s) (mu:Mut (H a)) (hs:Heap.SameBut a s.heap h') (he:∃ q,h'.get? a=some q) (new:ObjOk X.prog X.w (upd H a ob) h' a ob) :
  Inv X pins σ (upd H a ob) { s with heap:=h',toks:=t' } :=
 I.write (x:=a) (e:=a) mu (.inl rfl) (fun b q hb z=>(hs.2 b hb).trans z) he new
theorem dk_new {P:Program} {w:World} {H':Hp} {h':Heap} {kvs:List (Key × V)} {vs:List (Key × Value)} (z:kvs.length≤sizeLine) (hd:(a == sysModules)=false) (rel:KV kvs vs) (dd:h'.DictOf (Zbt P w) a vs) :
  ObjOk P w H' h' a (.dK kvs):=⟨z,hd,vs,rel,dd⟩
theorem d_setItem {H':Hp} {Q:Unit→Shared→Prop} (hu:A.units+1 < cLine) (I:Inv X pins σ H s) (g:DPut H a y v H') (ry:RelV y u) (rv:RelV v r) (h:∀ s',Inv X pins σ H' s'→Q () s') :
  wpAny (model X.prog X.w) A (setItem (.ref a) u r) Q E s:=by
 rcases g with ⟨kvs,k,e,ey,l,eH⟩ | ⟨kvs,k,b,e,ey,eb,l,eH⟩
 ·subst ey eH
  obtain ⟨z,hd,vs,rel,dd⟩:=dk_of I.hok e
  have hz:vs.length≤sizeLine:=by rw [← rel.length]; exact z
  have hl:(putK kvs k v).length≤sizeLine:=by have:=Zdr kvs k v; omega
  refine wpAny_setItem_pairs (hsz:=hz) (kV_is ry) dd fun h' dd' hs=>h _ ?_
  have he:∃ q,h'.get? a=some q:=let ⟨q,_,_,hq,_⟩:=dd'; ⟨q,hq⟩
  exact Zk1 I (by rw [e]; exact True.intro) hs he (dk_new hl hd (rel.put k rv) dd')
 ·subst ey eH
  cases (show u=Value.ref b from ry)
  obtain ⟨z,hd,xs,rel,dd⟩:=dt_of I.hok e
  have hz:xs.length≤sizeLine:=by rw [← Paired.length rel]; exact z
  have hl:(putK kvs k v).length≤sizeLine:=by have:=Zdr kvs k v; omega
  refine wpAny_setItem_heap (hsz:=hz) (tupleKind_room_in1 hu) (key_of I.hok eb) dd fun h' dd' hs=>h _ ?_
  obtain ⟨q,es,ep,hq,h2,h3,h4,_,h5⟩:=dd'
  refine Zk1 I (by rw [e]; exact True.intro) hs ⟨q,hq⟩ ⟨hl,hd,_,(rel.put k eb rv).keeps fun c ys ec=>?_,q,es,ep,hq,h2,h3,h4,h5⟩
  rw [Zak (Zi6 ec e (fun z=>nomatch z))]
  exact ec
end
section
variable {X:Cx} {pins:List (Addr × Obj)} {σ:St} {H:Hp} {s:Shared} {a:Addr} {kvs:List (Key × V)} {k:Key} {u:Value} {A:Around} {E:Value→Shared→Prop}
end
def NoSl (i:Expr):Prop:=∀ ov iv,subscripted i false ov iv=operate [ov,iv] (getItem ov iv)
theorem subD_of {prog:Program} {w:World} {A:Around} {E:Value→Shared→Prop} {s:Shared} {env:Env} {value slice:Expr} {pos:Pos} {T id:String} {Q:Value→Shared→Prop}
  (hl:typeLookup (.type T) "__getitem__"=pure (some (.builtin id))) (hs:NoSl slice)
  (h:wpAny (model prog w) A (eval value env) (fun o s₁=>wpAny (model prog w) A (eval slice env) (fun i s₂=>s₂.TypeIs o T∧wpAny (model prog w) A (getItem o i) Q E s₂) E s₁) E s) :
  wpAny (model prog w) A (eval (.Subscript value slice pos) env) Q E s:=by
 refine Subscript_ (wpAny_mono h (fun o s₁ h₁=>wpAny_mono h₁ (fun i s₂ h₂=>?_) fun _ _ x=>x) fun _ _ x=>x)
 obtain ⟨hT,h₂⟩:=h₂
 unfold subscriptTail
 refine wpAny_bind ?_
 rw [getitemInPython_of_ne hT.not_modules]
 refine wpAny_bind (wpAny_specialOf hT hl ?_)
 have fin:wpAny (model prog w) A (subscripted slice false o i) (fun r s₃=>wpAny (model prog w) A (letTemporaryGo value o r >>= fun _=>pure r) Q E s₃) E s₂:=by
  rw [hs o i]
  exact wpAny_operating (wpAny_mono h₂ (fun r s₃ h₃=>wpAny_bind (wpAny_letTemporaryGo (wpAny_pure h₃))) fun _ _ x=>x)
 first
  | exact wpAny_pure (wpAny_bind fin)
  | exact wpAny_bind (wpAny_pure (wpAny_bind fin))
  | exact wpAny_bind fin
theorem Zky {X:Cx} {pins:List (Addr × Obj)} {σ:St} {H:Hp} {s:Shared} {a:Addr} {y:V} {o:Option V} (I:Inv X pins σ H s) (g:DGet H a y o):s.TypeIs (.ref a) "dict":=by
 rcases g with ⟨kvs,k,e,_,_⟩ | ⟨kvs,k,b,e,_,_,_⟩
 ·obtain ⟨_,_,vs,_,dd⟩:=dk_rd I.hok e
  exact dd.typeIs
 ·obtain ⟨_,_,xs,_,dd⟩:=dt_rd I.hok e
  exact dd.typeIs
def tDGet (td ty:TE):TE:=fun σ H Q=>td σ H fun x H1=>ty σ H1 fun y H2=>∃ a v,x=.ref a∧DGet H2 a y (some v)∧Q v H2
def sDPut (td ty tv:TE):TS:=fun D σ H=>tv σ H fun v H1=>td σ H1 fun x H2=>ty σ H2 fun y H3=>∃ a H4,x=.ref a∧DPut H3 a y v H4∧D.nx σ H4
section
variable {X:Cx} {o i e value:Expr} {pos pos' tpos:Pos} {td ty tv:TE}
theorem Zhj (hu:X.A.units+1 < cLine) (ho:PE X o td) (hi:PE X i ty) (hs:NoSl i):PE X (.Subscript o i pos) (tDGet td ty):=by
 intro pins s σ H Q I h
 refine subD_of PySem.F.slot_dict_getitem.lookup hs (thn (ho pins s σ H _ I h) fun u s1 ⟨x,H1,I1,rx,q1⟩=>thn (hi pins s1 σ H1 _ I1 q1) fun iv s2 ⟨y,H2,I2,ry,a,v,ex,g,q2⟩=>?_)
 subst ex
 obtain rfl:u=Value.ref a:=rx
 exact ⟨Zky I2 g,d_getItem hu I2 g ry fun w' s3 I3 rw'=>⟨v,H2,I3,rw',q2⟩⟩
theorem ps_dput (hu:X.A.units+1 < cLine) (ho:PE X o td) (hi:PE X i ty) (hv:PE X value tv) (hs:swapsWith value (some (.Subscript o i pos')) pos.line X.env=pure false) :
  PS X (.Assign [.Subscript o i pos'] value pos) (sDPut td ty tv):=by
 intro pins s σ H D I h
 refine wpAny_Assign_Subscript (thn (hv pins s σ H _ I h) fun r s1 ⟨v,H1,I1,rv,q1⟩=>thn (ho pins s1 σ H1 _ I1 q1) fun u s2 ⟨x,H2,I2,rx,q2⟩=>thn (hi pins s2 σ H2 _ I2 q2) fun iv s3 ⟨y,H3,I3,ry,a,H4,ex,g,q3⟩=>?_) hs
 subst ex
 obtain rfl:u=Value.ref a:=rx
 exact d_setItem hu I3 g ry rv fun s4 I4=>⟨σ,H4,I4,q3⟩
end
theorem dk_empty {P:Program} {w:World} {H:Hp} (h:Heap) (hb:sysModules < h.objs.size):ObjOk P w H (h.push { cls:=.type "dict",data:=.dict #[] }) h.objs.size (.dK []) :=
 ⟨Nat.zero_le _,beq_eq_false_iff_ne.mpr (Ne.symm (Nat.ne_of_lt hb)),[],.nil,Heap.DictOf.new h⟩
section
variable {X:Cx} {pos:Pos}
end
def tPairs:List (TE × TE)→St→Hp→(List (V × V)→Hp→Prop)→Prop
 | [],_,H,Q=>Q [] H
 | (tk,tv) :: r,σ,H,Q=>tk σ H fun x H1=>tv σ H1 fun y H2=>tPairs r σ H2 fun ps H3=>Q ((x,y) :: ps) H3
abbrev VV:List (V × V)→List (Value × Value)→Prop:=Paired fun p q=>RelV p.1 q.1∧RelV p.2 q.2
def PPs (X:Cx) (pos:Pos) (keys:List (Option Expr)) (values:List Expr) (trs:List (TE × TE)):Prop :=
 ∀ (pins:List (Addr × Obj)) (s:Shared) (σ:St) (H:Hp) (Q:List (V × V)→Hp→Prop),Inv X pins σ H s→tPairs trs σ H Q →
  wpAny (model X.prog X.w) X.A (evalPairs (pairTrees keys values X.env pos)) (fun vs s'=>∃ ps H',Inv X pins σ H' s'∧VV ps vs∧Q ps H') X.xe s
theorem pps_nil {X:Cx} {pos:Pos}:PPs X pos [] [] []:=fun pins s σ H Q I h=>pairTrees_nil_walk ⟨[],H,I,.nil,h⟩
theorem Zhi {X:Cx} {pos:Pos} {k v:Expr} {ks:List (Option Expr)} {vs:List Expr} {tk tv:TE} {trs:List (TE × TE)} (hk:PE X k tk) (hv:PE X v tv) (hr:PPs X pos ks vs trs) :
  PPs X pos (some k :: ks) (v :: vs) ((tk,tv) :: trs):=fun pins s σ H Q I h =>
 pairTrees_cons_walk (thn (hk pins s σ H _ I h) fun u s1 ⟨x,H1,I1,rx,q1⟩=>thn (hv pins s1 σ H1 _ I1 q1) fun w2 s2 ⟨y,H2,I2,ry,q2⟩ =>
  thn (hr pins s2 σ H2 _ I2 q2) fun ws s3 ⟨ps,H3,I3,rel,q3⟩=>⟨(x,y) :: ps,H3,I3,.cons ⟨rx,ry⟩ rel,q3⟩)
def mergeK (kvs more:List (Key × V)):List (Key × V):=more.foldl (fun acc kv=>putK acc kv.1 kv.2) kvs
theorem KV.merge:∀ {more:List (Key × V)} {rs:List (Key × Value)} {kvs:List (Key × V)} {vs:List (Key × Value)},KV more rs→KV kvs vs→KV (mergeK kvs more) (merged vs rs):=by
 intro more rs kvs vs r
 unfold KV at r
 induction r generalizing kvs vs with
 | nil=>intro q; exact q
 | @cons p q ps qs h t ih =>
  intro r0
  have e:KV (putK kvs p.1 p.2) (stored vs q.1 q.2):=by
   have:=r0.put p.1 h.2
   rw [← h.1]; exact this
  exact ih e
theorem Zd1:∀ (more kvs:List (Key × V)),(mergeK kvs more).length≤kvs.length+more.length
 | [],kvs=>by show kvs.length≤kvs.length+0; omega
 | p :: r,kvs=>by
  have h1:=Zd1 r (putK kvs p.1 p.2)
  have h2:=Zdr kvs p.1 p.2
  show (mergeK (putK kvs p.1 p.2) r).length≤_
  rw [List.length_cons]; omega
theorem Zgz {P:Program} {w:World}:∀ {kvs:List (Key × V)} {ws:List (Value × Value)},VV (kvs.map fun kv=>(kV kv.1,kv.2)) ws→∃ rs,Carries (Zbt P w) ws rs∧KV kvs rs
 | [],_,r=>by rw [List.map_nil] at r; cases r; exact ⟨[],True.intro,.nil⟩
 | p :: kvs,_,r=>by
  rw [List.map_cons] at r
  cases r with
  | @cons a b as bs h t =>
   obtain ⟨rs,c,q⟩:=Zgz (P:=P) (w:=w) t
   obtain ⟨b1,b2⟩:=b
   exact ⟨(p.1,b2) :: rs,⟨kV_is h.1,rfl,c⟩,.cons ⟨rfl,h.2⟩ q⟩
def tDisp (trs:List (TE × TE)):TE:=fun σ H Q=>∀ p,H p=none→tPairs trs σ (upd H p (.dK [])) fun ps H2=>H2 p=some (.dK [])∧∃ kvs:List (Key × V),ps=kvs.map (fun kv=>(kV kv.1,kv.2))∧kvs.length≤15∧Q (.ref p) (upd H2 p (.dK (mergeK [] kvs)))
theorem pe_disp {X:Cx} {pos:Pos} {keys:List (Option Expr)} {values:List Expr} {trs:List (TE × TE)} (h:PPs X pos keys values trs) (hall:keys.all (·.isSome)=true) (hl:keys.length=values.length) (h0:keys≠[])
  (h15:keys.length≤15):PE X (.Dict keys values pos) (tDisp trs):=by
 intro pins s σ H Q I q
 have hn:=I.hok.fresh (Nat.le_refl s.heap.objs.size)
 have I1:=I.laid (a:=s.heap.objs.size) (o:=.dK []) (h':=s.heap.push { cls:=.type "dict",data:=.dict #[] }) (t':=s.toks) (fun _ _ q=>Heap.get?_push_of_some _ q) (Nat.le_refl _) (dk_empty s.heap I.big)
 refine wpAny_Dict_walk (knd:=Zbt X.prog X.w) hall hl h0 h15 (thn (h pins _ σ _ _ I1 (q _ hn)) fun ws s2 ⟨ps,H2,I2,rel,e,kvs,ep,lk,q2⟩=>?_)
 subst ep
 obtain ⟨rs,c,rk⟩:=Zgz (P:=X.prog) (w:=X.w) rel
 obtain ⟨z,hd,vs0,r0,dd⟩:=dk_of I2.hok e
 cases r0
 refine ⟨rs,c,dd,fun h' dd' hs=>⟨.ref s.heap.objs.size,_,?_,rfl,q2⟩⟩
 have hz:(mergeK [] kvs).length≤sizeLine:=by
  have h1:=Zd1 kvs []
  rw [List.length_nil] at h1
  rw [sizeLine_eq]; omega
 have he:∃ q,h'.get? s.heap.objs.size=some q:=let ⟨q,_,_,hq,_⟩:=dd'; ⟨q,hq⟩
 exact Zk1 I2 (by rw [e]; exact True.intro) hs he (dk_new hz hd (rk.merge .nil) dd')
section
variable {X:Cx} {pins:List (Addr × Obj)} {σ:St} {H:Hp} {s:Shared} {a:Addr} {y d:V} {u r:Value} {o:Option V} {A:Around} {E:Value→Shared→Prop}
end
section
variable {X:Cx} {o e f:Expr} {apos cpos:Pos} {td ty tx:TE}
end
section
variable {X:Cx} {pins:List (Addr × Obj)} {σ:St} {H:Hp} {s:Shared} {a:Addr} {kvs:List (Key × V)} {A:Around} {E:Value→Shared→Prop}
end
section
variable {X:Cx} {pins:List (Addr × Obj)} {σ:St} {H:Hp} {s:Shared} {a:Addr} {y:V} {u:Value} {A:Around} {E:Value→Shared→Prop}
end
section
variable {κ:Type} [DecidableEq κ]
end
section
variable {X:Cx}
end
end L2
namespace L2
open PySem PySem.Spec PyProof.Rows
section
variable {X:Cx}
end
end L2
namespace L2
open PySem PySem.Spec PyProof.Rows PySem.SeqAt
mutual
inductive D where
 | at (v:V)
 | tup (xs:Ds)
 | lst (xs:Ds)
inductive Ds where
 | nil
 | cons (d:D) (r:Ds)
end
mutual
def DIs (K:PySem.W.Frag) (H:Hp):D→V→Prop
 | .at u,v=>v=u∧flatV u=true
 | .tup ds,v=>∃ a xs,v=.ref a∧SqT K H a xs∧DIss K H ds xs
 | .lst ds,v=>∃ a xs,v=.ref a∧SqL K H a xs∧DIss K H ds xs
def DIss (K:PySem.W.Frag) (H:Hp):Ds→List V→Prop
 | .nil,xs=>xs=[]
 | .cons d r,xs=>∃ x ys,xs=x :: ys∧DIs K H d x∧DIss K H r ys
end
mutual
def dep:D→Nat
 | .at _=>0
 | .tup ds=>deps ds+1
 | .lst ds=>deps ds+1
def deps:Ds→Nat
 | .nil=>0
 | .cons d r=>max (dep d) (deps r)
end
mutual
def deq:D→D→Bool
 | .at u,.at v=>eqV u v
 | .tup xs,.tup ys=>deqs xs ys
 | .lst xs,.lst ys=>deqs xs ys
 | _,_=>false
def deqs:Ds→Ds→Bool
 | .nil,.nil=>true
 | .cons d r,.cons e q=>deq d e && deqs r q
 | _,_=>false
end
def Ds.len:Ds→Nat
 | .nil=>0
 | .cons _ r=>r.len+1
def Ds.get:Ds→Nat→D
 | .nil,_=>.at .non
 | .cons d _,0=>d
 | .cons _ r,i+1=>r.get i
theorem Zcm:∀ (ds es:Ds),((List.range (min ds.len es.len)).all (fun j=>deq (ds.get j) (es.get j)) && ds.len == es.len)=deqs ds es
 | .nil,.nil=>rfl
 | .nil,.cons e q=>by simp [Ds.len,deqs]
 | .cons d r,.nil=>by simp [Ds.len,deqs]
 | .cons d r,.cons e q=>by
  have ih:=Zcm r q
  rw [show deqs (.cons d r) (.cons e q)=(deq d e && deqs r q) from by rw [deqs],← ih]
  show ((List.range (min (r.len+1) (q.len+1))).all _ && (r.len+1 == q.len+1))=_
  rw [show min (r.len+1) (q.len+1)=min r.len q.len+1 by omega,List.range_succ_eq_map,List.all_cons,List.all_map,Bool.and_assoc]
  congr 1
  rw [show (r.len+1 == q.len+1)=(r.len == q.len) by simp]
  rfl
mutual
theorem Zcn:∀ {K:PySem.W.Frag} {H:Hp} (d:D) {v:V},DIs K H d v→deq d d=true
 | _,_,.at u,v,h=>by
  obtain ⟨_,hf⟩:=(show v=u∧flatV u=true by simpa [DIs] using h)
  rw [deq]
  cases u <;> simp_all [flatV,eqV]
 | _,_,.tup ds,v,h=>by
  rw [DIs] at h
  obtain ⟨a,xs,_,_,q⟩:=h
  rw [deq]; exact Zfy ds q
 | _,_,.lst ds,v,h=>by
  rw [DIs] at h
  obtain ⟨a,xs,_,_,q⟩:=h
  rw [deq]; exact Zfy ds q
theorem Zfy:∀ {K:PySem.W.Frag} {H:Hp} (ds:Ds) {xs:List V},DIss K H ds xs→deqs ds ds=true
 | _,_,.nil,_,_=>by rw [deqs]
 | _,_,.cons d r,xs,h=>by
  rw [DIss] at h
  obtain ⟨x,ys,_,h1,h2⟩:=h
  rw [deqs,Zcn d h1,Zfy r h2]; rfl
end
theorem DIss.len {K:PySem.W.Frag} {H:Hp}:∀ {ds:Ds} {xs:List V},DIss K H ds xs→ds.len=xs.length
 | .nil,xs,h=>by rw [DIss] at h; rw [h]; rfl
 | .cons d r,xs,h=>by
  rw [DIss] at h
  obtain ⟨x,ys,rfl,_,h2⟩:=h
  show r.len+1=ys.length+1
  rw [DIss.len h2]
theorem DIss.get {K:PySem.W.Frag} {H:Hp}:∀ {ds:Ds} {xs:List V} {i:Nat} {x:V},DIss K H ds xs→xs[i]?=some x→DIs K H (ds.get i) x
 | .nil,xs,i,x,h,e=>by rw [DIss] at h; rw [h] at e; simp at e
 | .cons d r,xs,i,x,h,e=>by
  rw [DIss] at h
  obtain ⟨y,ys,rfl,h1,h2⟩:=h
  cases i with
  | zero=>simp at e; subst e; exact h1
  | succ i =>
   show DIs K H (r.get i) x
   exact DIss.get h2 (by simpa using e)
theorem Zh5:∀ (ds:Ds) (i:Nat),i < ds.len→dep (ds.get i)≤deps ds
 | .nil,i,h=>absurd h (by simp [Ds.len])
 | .cons d r,0,_=>by show dep d≤_; rw [deps]; omega
 | .cons d r,i+1,h=>by
  have:=Zh5 r i (by simpa [Ds.len] using h)
  show dep (r.get i)≤_
  rw [deps]; omega
section
variable {X:Cx} {pins:List (Addr × Obj)} {σ:St} {H:Hp} {s:Shared}
mutual
theorem DIs.inj (I:Inv X pins σ H s):∀ {d e:D} {v:V},DIs X.K H d v→DIs X.K H e v→d=e
 | .at u,.at w',v,h,h'=>by
  rw [DIs] at h
  rw [DIs] at h'
  rw [← h.1,← h'.1]
 | .at u,.tup ds,v,h,h'=>by
  rw [DIs] at h
  rw [DIs] at h'
  obtain ⟨a,xs,e,_⟩:=h'
  have:=h.2
  rw [← h.1,e] at this
  cases this
 | .at u,.lst ds,v,h,h'=>by
  rw [DIs] at h
  rw [DIs] at h'
  obtain ⟨a,xs,e,_⟩:=h'
  have:=h.2
  rw [← h.1,e] at this
  cases this
 | .tup ds,.at u,v,h',h=>by
  rw [DIs] at h
  rw [DIs] at h'
  obtain ⟨a,xs,e,_⟩:=h'
  have:=h.2
  rw [← h.1,e] at this
  cases this
 | .lst ds,.at u,v,h',h=>by
  rw [DIs] at h
  rw [DIs] at h'
  obtain ⟨a,xs,e,_⟩:=h'
  have:=h.2
  rw [← h.1,e] at this
  cases this
 | .tup ds,.tup es,v,h,h'=>by
  rw [DIs] at h
  rw [DIs] at h'
  obtain ⟨a,xs,rfl,h1,h2⟩:=h
  obtain ⟨b,ys,e,k1,k2⟩:=h'
  cases e
  have e:=I.tuple_inj h1 k1
  subst e
  rw [DIss.inj I h2 k2]
 | .lst ds,.lst es,v,h,h'=>by
  rw [DIs] at h
  rw [DIs] at h'
  obtain ⟨a,xs,rfl,h1,h2⟩:=h
  obtain ⟨b,ys,e,k1,k2⟩:=h'
  cases e
  have e:=I.list_inj h1 k1
  subst e
  rw [DIss.inj I h2 k2]
 | .tup ds,.lst es,v,h,h'=>by
  rw [DIs] at h
  rw [DIs] at h'
  obtain ⟨a,xs,rfl,h1,h2⟩:=h
  obtain ⟨b,ys,e,k1,k2⟩:=h'
  cases e
  obtain ⟨_,_,t1,_⟩:=I.tuple h1
  obtain ⟨_,_,t2,_⟩:=I.list k1
  exact absurd rfl (ne_of_list_tuple t2.isList (show s.heap.IsTuple a _ from t1))
 | .lst ds,.tup es,v,h,h'=>by
  rw [DIs] at h
  rw [DIs] at h'
  obtain ⟨a,xs,rfl,h1,h2⟩:=h
  obtain ⟨b,ys,e,k1,k2⟩:=h'
  cases e
  obtain ⟨_,_,t1,_⟩:=I.tuple k1
  obtain ⟨_,_,t2,_⟩:=I.list h1
  exact absurd rfl (ne_of_list_tuple t2.isList (show s.heap.IsTuple a _ from t1))
theorem DIss.inj (I:Inv X pins σ H s):∀ {ds es:Ds} {xs:List V},DIss X.K H ds xs→DIss X.K H es xs→ds=es
 | .nil,.nil,xs,h,h'=>rfl
 | .nil,.cons d r,xs,h,h'=>by
  rw [DIss] at h
  rw [DIss] at h'
  obtain ⟨x,ys,e,_⟩:=h'
  rw [h] at e; cases e
 | .cons d r,.nil,xs,h',h=>by
  rw [DIss] at h
  rw [DIss] at h'
  obtain ⟨x,ys,e,_⟩:=h'
  rw [h] at e; cases e
 | .cons d r,.cons e q,xs,h,h'=>by
  rw [DIss] at h
  rw [DIss] at h'
  obtain ⟨x,ys,rfl,h1,h2⟩:=h
  obtain ⟨y,zs,e',k1,k2⟩:=h'
  cases e'
  rw [DIs.inj I h1 k1,DIss.inj I h2 k2]
end
theorem Zhy {A:Around} {u:V} {x:Value} {l:Addr} {items:Array Value} (r:RelV u x) (f:flatV u=true) (hl:s.heap.IsTuple l items) (hu:A.units < cLine):EqAt A s x (.ref l) false∧EqAt A s (.ref l) x false:=by
 cases u with
 | non=>cases r; exact ⟨.none_tuple hl hu,.tuple_none hl hu⟩
 | bl b=>cases r; exact ⟨.bool_tuple b hl hu,.tuple_bool b hl hu⟩
 | int b=>obtain ⟨t,rfl⟩:=r; exact ⟨.int_tuple b t hl hu,.tuple_int b t hl hu⟩
 | str b=>obtain ⟨t,rfl⟩:=r; exact ⟨.str_tuple b t hl hu,.tuple_str b t hl hu⟩
 | _=>exact absurd (show false=true from f) Bool.false_ne_true
theorem Zhz {A:Around} {u:V} {x:Value} {l:Addr} {items:Array Value} (r:RelV u x) (f:flatV u=true) (hl:s.heap.IsList l items) (hu:A.units < cLine):EqAt A s x (.ref l) false∧EqAt A s (.ref l) x false:=by
 cases u with
 | non=>cases r; exact ⟨.none_list hl hu,.list_none hl hu⟩
 | bl b=>cases r; exact ⟨.bool_list b hl hu,.list_bool b hl hu⟩
 | int b=>obtain ⟨t,rfl⟩:=r; exact ⟨.int_list b t hl hu,.list_int b t hl hu⟩
 | str b=>obtain ⟨t,rfl⟩:=r; exact ⟨.str_list b t hl hu,.list_str b t hl hu⟩
 | _=>exact absurd (show false=true from f) Bool.false_ne_true
theorem eqAt_D (I:Inv X pins σ H s):∀ (n:Nat) (A:Around) (d e:D) (x y:V) (u v:Value),dep d≤n→DIs X.K H d x→DIs X.K H e y→RelV x u→RelV y v→A.units+n < cLine→EqAt A s u v (deq d e):=by
 intro n
 induction n with
 | zero =>
  intro A d e x y u v hn hd he rx ry hu
  cases d with
  | tup ds=>rw [dep] at hn; omega
  | lst ds=>rw [dep] at hn; omega
  | «at» p =>
   rw [DIs] at hd
   obtain ⟨rfl,hf⟩:=hd
   cases e with
   | «at» q =>
    rw [DIs] at he
    obtain ⟨rfl,hg⟩:=he
    rw [deq]; exact eqAt_V rx ry hf hg
   | tup es =>
    rw [DIs] at he
    obtain ⟨b,ys,rfl,h1,_⟩:=he
    obtain ⟨_,_,t,_⟩:=I.tuple h1
    cases ry
    rw [deq]
    ·exact (Zhy rx hf (show s.heap.IsTuple b _ from t) hu).1
    all_goals (intros; simp_all)
   | lst es =>
    rw [DIs] at he
    obtain ⟨b,ys,rfl,h1,_⟩:=he
    obtain ⟨_,_,t,_⟩:=I.list h1
    cases ry
    rw [deq]
    ·exact (Zhz rx hf t.isList hu).1
    all_goals (intros; simp_all)
 | succ n ih =>
  intro A d e x y u v hn hd he rx ry hu
  have hu1:A.in1.units+n < cLine:=by show A.units+1+n < cLine; omega
  cases d with
  | «at» p =>
   rw [DIs] at hd
   obtain ⟨rfl,hf⟩:=hd
   cases e with
   | «at» q =>
    rw [DIs] at he
    obtain ⟨rfl,hg⟩:=he
    rw [deq]; exact eqAt_V rx ry hf hg
   | tup es =>
    rw [DIs] at he
    obtain ⟨b,ys,rfl,h1,_⟩:=he
    obtain ⟨_,_,t,_⟩:=I.tuple h1
    cases ry
    rw [deq]
    ·exact (Zhy rx hf (show s.heap.IsTuple b _ from t) (by omega)).1
    all_goals (intros; simp_all)
   | lst es =>
    rw [DIs] at he
    obtain ⟨b,ys,rfl,h1,_⟩:=he
    obtain ⟨_,_,t,_⟩:=I.list h1
    cases ry
    rw [deq]
    ·exact (Zhz rx hf t.isList (by omega)).1
    all_goals (intros; simp_all)
  | tup ds =>
   have hd0:=hd
   rw [dep] at hn
   rw [DIs] at hd
   obtain ⟨a,xs,rfl,h1,h2⟩:=hd
   obtain ⟨i1,r1,t1,_⟩:=I.tuple h1
   cases rx
   cases e with
   | «at» q =>
    rw [DIs] at he
    obtain ⟨rfl,hg⟩:=he
    rw [deq]
    ·exact (Zhy ry hg (show s.heap.IsTuple a _ from t1) (by omega)).2
    all_goals (intros; simp_all)
   | lst es =>
    rw [DIs] at he
    obtain ⟨b,ys,rfl,k1,_⟩:=he
    obtain ⟨_,_,t2,_⟩:=I.list k1
    cases ry
    rw [deq]
    ·exact EqAt.tuple_list (show s.heap.IsTuple a _ from t1) t2.isList (by omega)
    all_goals (intros; simp_all)
   | tup es =>
    have he0:=he
    rw [DIs] at he
    obtain ⟨b,ys,rfl,k1,k2⟩:=he
    obtain ⟨i2,r2,t2,_⟩:=I.tuple k1
    cases ry
    by_cases hab:a=b
    ·subst hab
     rw [DIs.inj I he0 hd0,Zcn _ hd0]
     exact EqAt.same _
    ·refine EqAt.of_refs hab ?_
     have:=RcAt.tuples (A:=A) (e:=fun j=>deq (ds.get j) (es.get j)) (show s.heap.IsTuple a i1.toArray from t1) (show s.heap.IsTuple b i2.toArray from t2) (by omega) fun j g1 g2=>?_
     ·have l1:=r1.length
      have l2:=r2.length
      have m1:=h2.len
      have m2:=k2.len
      rw [List.size_toArray,List.size_toArray,← l1,← l2,← m1,← m2,Zcm] at this
      rw [deq]; exact this
     ·have l1:=r1.length
      have l2:=r2.length
      have m1:=h2.len
      have g1':j < xs.length:=by simp at g1; omega
      have g2':j < ys.length:=by simp at g2; omega
      obtain ⟨u1,e1,q1⟩:=r1.get (List.getElem?_eq_getElem g1')
      obtain ⟨u2,e2,q2⟩:=r2.get (List.getElem?_eq_getElem g2')
      have d1:i1.toArray[j]=u1:=by
       have:i1[j]?=some i1.toArray[j]:=by simp
       rw [e1] at this; exact (Option.some.inj this).symm
      have d2:i2.toArray[j]=u2:=by
       have:i2[j]?=some i2.toArray[j]:=by simp
       rw [e2] at this; exact (Option.some.inj this).symm
      rw [d1,d2]
      exact ih _ _ _ _ _ _ _ (Nat.le_trans (Zh5 ds j (by omega)) (by omega)) (h2.get (List.getElem?_eq_getElem g1')) (k2.get (List.getElem?_eq_getElem g2')) q1 q2 hu1
  | lst ds =>
   have hd0:=hd
   rw [dep] at hn
   rw [DIs] at hd
   obtain ⟨a,xs,rfl,h1,h2⟩:=hd
   obtain ⟨i1,r1,t1,_⟩:=I.list h1
   cases rx
   cases e with
   | «at» q =>
    rw [DIs] at he
    obtain ⟨rfl,hg⟩:=he
    rw [deq]
    ·exact (Zhz ry hg t1.isList (by omega)).2
    all_goals (intros; simp_all)
   | tup es =>
    rw [DIs] at he
    obtain ⟨b,ys,rfl,k1,_⟩:=he
    obtain ⟨_,_,t2,_⟩:=I.tuple k1
    cases ry
    rw [deq]
    ·exact EqAt.list_tuple t1.isList (show s.heap.IsTuple b _ from t2) (by omega)
    all_goals (intros; simp_all)
   | lst es =>
    have he0:=he
    rw [DIs] at he
    obtain ⟨b,ys,rfl,k1,k2⟩:=he
    obtain ⟨i2,r2,t2,_⟩:=I.list k1
    cases ry
    by_cases hab:a=b
    ·subst hab
     rw [DIs.inj I he0 hd0,Zcn _ hd0]
     exact EqAt.same _
    ·refine EqAt.of_refs hab ?_
     have l1:=r1.length
     have l2:=r2.length
     have m1:=h2.len
     have m2:=k2.len
     rw [deq]
     rw [← Zcm]
     by_cases hz:ds.len=es.len
     ·have:=RcAt.lists (A:=A) (e:=fun j=>deq (ds.get j) (es.get j)) t1.isList t2.isList (by simp; omega) (by omega) fun j g1 g2=>?_
      ·rw [List.size_toArray,← l1,← m1] at this
       rw [hz,Nat.min_self,beq_self_eq_true,Bool.and_true,← hz]
       exact this
      ·have g1':j < xs.length:=by simp at g1; omega
       have g2':j < ys.length:=by simp at g2; omega
       obtain ⟨u1,e1,q1⟩:=r1.get (List.getElem?_eq_getElem g1')
       obtain ⟨u2,e2,q2⟩:=r2.get (List.getElem?_eq_getElem g2')
       have d1:i1.toArray[j]=u1:=by
        have:i1[j]?=some i1.toArray[j]:=by simp
        rw [e1] at this; exact (Option.some.inj this).symm
       have d2:i2.toArray[j]=u2:=by
        have:i2[j]?=some i2.toArray[j]:=by simp
        rw [e2] at this; exact (Option.some.inj this).symm
       rw [d1,d2]
       exact ih _ _ _ _ _ _ _ (Nat.le_trans (Zh5 ds j (by omega)) (by omega)) (h2.get (List.getElem?_eq_getElem g1')) (k2.get (List.getElem?_eq_getElem g2')) q1 q2 hu1
     ·have e0:(ds.len == es.len)=false:=by simpa using hz
      rw [e0,Bool.and_false]
      exact RcAt.lists_lengths t1.isList t2.isList (by simp; omega) (by omega)
end
section
variable {X:Cx}
theorem Zh2 {pins:List (Addr × Obj)} {σ:St} {H:Hp} {s:Shared} (I:Inv X pins σ H s) {A:Around} {ds es:Ds} {xs ys:List V} {i1 i2:List Value} (h2:DIss X.K H ds xs) (k2:DIss X.K H es ys) (r1:Vals xs i1) (r2:Vals ys i2)
  (hu:A.units+60 < cLine) (hd:deps ds≤50):∀ j (g1:j < i1.toArray.size) (g2:j < i2.toArray.size),EqAt A.in1 s i1.toArray[j] i2.toArray[j] (deq (ds.get j) (es.get j)):=fun j g1 g2=>by
 have l1:=r1.length
 have l2:=r2.length
 have m1:=h2.len
 have g1':j < xs.length:=by simp at g1; omega
 have g2':j < ys.length:=by simp at g2; omega
 obtain ⟨u1,e1,q1⟩:=r1.get (List.getElem?_eq_getElem g1')
 obtain ⟨u2,e2,q2⟩:=r2.get (List.getElem?_eq_getElem g2')
 have d1:i1.toArray[j]=u1:=by
  have:i1[j]?=some i1.toArray[j]:=by simp
  rw [e1] at this; exact (Option.some.inj this).symm
 have d2:i2.toArray[j]=u2:=by
  have:i2[j]?=some i2.toArray[j]:=by simp
  rw [e2] at this; exact (Option.some.inj this).symm
 rw [d1,d2]
 exact eqAt_D I 50 _ _ _ _ _ _ _ (Nat.le_trans (Zh5 ds j (by omega)) hd) (h2.get (List.getElem?_eq_getElem g1')) (k2.get (List.getElem?_eq_getElem g2')) q1 q2 (by show A.units+1+50 < cLine; omega)
def rEqD (K:PySem.W.Frag) (neg:Bool):R2:=fun x y H Q=>∃ d e,DIs K H d x∧DIs K H e y∧(∃ a,x=.ref a)∧(∃ b,y=.ref b)∧dep d≤50∧Q (.bl (if neg then !deq d e else deq d e)) H
theorem op_eqD {k:Nat} (hr:Room k X.A):OpR X (compareOp .Eq) (rEqD X.K false):=by
 intro pins s σ H x y v u Q I rx ry h
 obtain ⟨d,e,hd,he,⟨a,rfl⟩,⟨b,rfl⟩,hn,q⟩:=h
 cases rx
 cases ry
 have hu:=hr.units
 cases d with
 | «at» p=>rw [DIs] at hd; obtain ⟨rfl,hf⟩:=hd; cases hf
 | tup ds =>
  rw [dep] at hn
  rw [DIs] at hd
  obtain ⟨a',xs,e',h1,h2⟩:=hd
  cases e'
  obtain ⟨i1,r1,t1,_⟩:=I.tuple h1
  cases e with
  | «at» p=>rw [DIs] at he; obtain ⟨rfl,hf⟩:=he; cases hf
  | tup es =>
   rw [DIs] at he
   obtain ⟨b',ys,e',k1,k2⟩:=he
   cases e'
   obtain ⟨i2,r2,t2,_⟩:=I.tuple k1
   refine RcAt.tuples (show s.heap.IsTuple a i1.toArray from t1) (show s.heap.IsTuple b i2.toArray from t2) (by omega) (Zh2 I h2 k2 r1 r2 (by omega) (by omega)) _ _ _ _ ⟨.bl _,H,I,?_,q⟩
   show Value.bool _=Value.bool _
   rw [List.size_toArray,List.size_toArray,← r1.length,← r2.length,← h2.len,← k2.len,Zcm]
   simp only [Bool.false_eq_true,if_false]
   rw [deq]
  | lst es =>
   rw [DIs] at he
   obtain ⟨b',ys,e',k1,k2⟩:=he
   cases e'
   obtain ⟨i2,r2,t2,_⟩:=I.list k1
   refine RcAt.tuple_list (show s.heap.IsTuple a _ from t1) t2.isList (by omega) _ _ _ _ ⟨.bl _,H,I,?_,q⟩
   show Value.bool _=Value.bool _
   simp only [Bool.false_eq_true,if_false]
   rw [deq] <;> (intros; simp_all)
 | lst ds =>
  rw [dep] at hn
  rw [DIs] at hd
  obtain ⟨a',xs,e',h1,h2⟩:=hd
  cases e'
  obtain ⟨i1,r1,t1,_⟩:=I.list h1
  cases e with
  | «at» p=>rw [DIs] at he; obtain ⟨rfl,hf⟩:=he; cases hf
  | tup es =>
   rw [DIs] at he
   obtain ⟨b',ys,e',k1,k2⟩:=he
   cases e'
   obtain ⟨i2,r2,t2,_⟩:=I.tuple k1
   refine RcAt.list_tuple t1.isList (show s.heap.IsTuple b _ from t2) (by omega) _ _ _ _ ⟨.bl _,H,I,?_,q⟩
   show Value.bool _=Value.bool _
   simp only [Bool.false_eq_true,if_false]
   rw [deq] <;> (intros; simp_all)
  | lst es =>
   rw [DIs] at he
   obtain ⟨b',ys,e',k1,k2⟩:=he
   cases e'
   obtain ⟨i2,r2,t2,_⟩:=I.list k1
   have l1:=r1.length
   have l2:=r2.length
   have m1:=h2.len
   have m2:=k2.len
   by_cases hz:ds.len=es.len
   ·refine RcAt.lists t1.isList t2.isList (by simp; omega) (by omega) (Zh2 I h2 k2 r1 r2 (by omega) (by omega)) _ _ _ _ ⟨.bl _,H,I,?_,q⟩
    show Value.bool _=Value.bool _
    simp only [Bool.false_eq_true,if_false]
    rw [deq,← Zcm,List.size_toArray,← l1,← m1,hz,Nat.min_self,beq_self_eq_true,Bool.and_true]
   ·refine RcAt.lists_lengths t1.isList t2.isList (by simp; omega) (by omega) _ _ _ _ ⟨.bl _,H,I,?_,q⟩
    show Value.bool _=Value.bool _
    have e0:(ds.len == es.len)=false:=by simpa using hz
    simp only [Bool.false_eq_true,if_false]
    rw [deq,← Zcm,e0,Bool.and_false]
theorem op_neD {k:Nat} (hr:Room k X.A):OpR X (compareOp .NotEq) (rEqD X.K true):=by
 intro pins s σ H x y v u Q I rx ry h
 obtain ⟨d,e,hd,he,⟨a,rfl⟩,⟨b,rfl⟩,hn,q⟩:=h
 cases rx
 cases ry
 have hu:=hr.units
 cases d with
 | «at» p=>rw [DIs] at hd; obtain ⟨rfl,hf⟩:=hd; cases hf
 | tup ds =>
  rw [dep] at hn
  rw [DIs] at hd
  obtain ⟨a',xs,e',h1,h2⟩:=hd
  cases e'
  obtain ⟨i1,r1,t1,_⟩:=I.tuple h1
  cases e with
  | «at» p=>rw [DIs] at he; obtain ⟨rfl,hf⟩:=he; cases hf
  | tup es =>
   rw [DIs] at he
   obtain ⟨b',ys,e',k1,k2⟩:=he
   cases e'
   obtain ⟨i2,r2,t2,_⟩:=I.tuple k1
   refine RcNeAt.tuples (show s.heap.IsTuple a i1.toArray from t1) (show s.heap.IsTuple b i2.toArray from t2) (by omega) (Zh2 I h2 k2 r1 r2 (by omega) (by omega)) _ _ _ _ ⟨.bl _,H,I,?_,q⟩
   show Value.bool _=Value.bool _
   rw [List.size_toArray,List.size_toArray,← r1.length,← r2.length,← h2.len,← k2.len,Zcm]
   simp only [if_true]
   rw [deq]
  | lst es =>
   rw [DIs] at he
   obtain ⟨b',ys,e',k1,k2⟩:=he
   cases e'
   obtain ⟨i2,r2,t2,_⟩:=I.list k1
   refine RcNeAt.tuple_list (show s.heap.IsTuple a _ from t1) t2.isList (by omega) _ _ _ _ ⟨.bl _,H,I,?_,q⟩
   show Value.bool _=Value.bool _
   simp only [if_true]
   rw [deq] <;> first | rfl | (intros; simp_all)
 | lst ds =>
  rw [dep] at hn
  rw [DIs] at hd
  obtain ⟨a',xs,e',h1,h2⟩:=hd
  cases e'
  obtain ⟨i1,r1,t1,_⟩:=I.list h1
  cases e with
  | «at» p=>rw [DIs] at he; obtain ⟨rfl,hf⟩:=he; cases hf
  | tup es =>
   rw [DIs] at he
   obtain ⟨b',ys,e',k1,k2⟩:=he
   cases e'
   obtain ⟨i2,r2,t2,_⟩:=I.tuple k1
   refine RcNeAt.list_tuple t1.isList (show s.heap.IsTuple b _ from t2) (by omega) _ _ _ _ ⟨.bl _,H,I,?_,q⟩
   show Value.bool _=Value.bool _
   simp only [if_true]
   rw [deq] <;> first | rfl | (intros; simp_all)
  | lst es =>
   rw [DIs] at he
   obtain ⟨b',ys,e',k1,k2⟩:=he
   cases e'
   obtain ⟨i2,r2,t2,_⟩:=I.list k1
   have l1:=r1.length
   have l2:=r2.length
   have m1:=h2.len
   have m2:=k2.len
   by_cases hz:ds.len=es.len
   ·refine RcNeAt.lists t1.isList t2.isList (by simp; omega) (by omega) (Zh2 I h2 k2 r1 r2 (by omega) (by omega)) _ _ _ _ ⟨.bl _,H,I,?_,q⟩
    show Value.bool _=Value.bool _
    simp only [if_true]
    rw [deq,← Zcm,List.size_toArray,← l1,← m1,hz,Nat.min_self,beq_self_eq_true,Bool.and_true]
   ·refine RcNeAt.lists_lengths t1.isList t2.isList (by simp; omega) (by omega) _ _ _ _ ⟨.bl _,H,I,?_,q⟩
    show Value.bool _=Value.bool _
    have e0:(ds.len == es.len)=false:=by simpa using hz
    simp only [if_true]
    rw [deq,← Zcm,e0,Bool.and_false]; rfl
end
end L2
namespace L2
open PySem PySem.Spec PyProof.Rows
section
variable {X:Cx} {e st:Expr} {te ts:TE} {pos p2:Pos}
def tRev (K:PySem.W.Frag) (te ts:TE):TE:=fun σ H Q=>te σ H fun x H1=>ts σ H1 fun y H2=>∃ a xs,x=.ref a∧y=.int (-1)∧SqL K H2 a xs∧∀ p,H2 p=none→Q (.ref p) (upd H2 p (.lst xs.reverse))
theorem pe_rev (he:PE X e te) (hs:PE X st ts):PE X (.Subscript e (.Slice none none (some st) p2) pos) (tRev X.K te ts):=by
 intro pins s σ H Q I h
 refine Subscript_ (thn (he pins s σ H _ I h) fun v s1 ⟨x,H1,I1,r1,q1⟩=>?_)
 refine wpAny_Slice ?_
 rw [evalPart_none]
 refine wpAny_pure ?_
 refine wpAny_pure ?_
 rw [evalPart_some]
 refine thn (hs pins s1 σ H1 _ I1 q1) fun u s2 ⟨y,H2,I2,r2,q2⟩=>?_
 obtain ⟨a,xs,rfl,rfl,hx,q⟩:=q2
 obtain ⟨t,rfl⟩:=r2
 cases r1
 have I4:Inv X pins σ H2 { s2 with heap:=s2.heap.push { cls:=.type "slice",data:=.fields #[.none,.none,.int (-1) t] } }:=I2.kept (t':=s2.toks) fun b ob q=>Heap.get?_push_of_some _ q
 obtain ⟨its,r,ht,hz⟩:=I4.list hx
 have hlen:=r.length
 refine tail_any (ops:=[.ref a,.ref s2.heap.objs.size]) (id:="list.__getitem__") ht.isList.typeIs slot_list_getitem.lookup ?_ (by with_unfolding_all rfl)
 refine wpAny_getItem_list_slice ht.isList (Heap.IsSliceOf.new ..) .none .none (.int (-1) t) (by simp) ?_ (by rw [List.size_toArray] <;> omega)
 rw [PySem.W.krv_pick]
 show EP X pins σ Q (.ref _) _
 refine ⟨.ref _,_,I4.laid (t':=s2.toks) (o:=.lst xs.reverse) (fun b ob q=>Heap.get?_push_of_some _ q) (Nat.le_refl _) ?_,rfl,q _ (I4.hok.fresh (Nat.le_refl _))⟩
 exact ⟨by rw [List.length_reverse]; exact hz,_,0,r.reverse,Heap.get?_push_size _ rfl⟩
end
end L2
namespace L2
open PySem PySem.Spec PyProof.Rows
structure MkOk (P:Program) (w:World) (K:PySem.W.Frag) (mg:Str→Option Value) (base:Heap) (k:Nat) (x:Str) (C:Addr) (ps:List Str) (sp:Sp):Prop where
 ex:∃ (f:Addr) (fd:FuncData),Mk K C f∧FnOk P w K mg base CX0 k f fd ps sp∧mg x=some (.ref C)∧Binds K fd ps []
section
variable {X:Cx} {k j:Nat} {x m:Str} {C:Addr} {ps:List Str} {sp:Sp} {p pos apos:Pos} {e o:Expr} {es:List Expr} {t:TA} {ta:TE}
theorem pe_mk (D:MkOk X.prog X.w X.K X.mg X.base k x C ps sp) (hr:Room j X.A) (ha:PA X (e :: es) t) (hj:k+1≤j:=by decide) (hg:Gl X x:=by rfl) (hdb:(x == ("__debug__":Str))=false:=by decide)
  (he:starEach (e :: es) X.env=(false,eval e X.env) :: starEach es X.env:=by rfl) (hpl:(backTo pos (starEach es X.env)).any (·.1)=false:=by rfl):PE X (.Call (.Name x p) (e :: es) [] pos) (tMake C sp [] E0 t):=by
 obtain ⟨f,fd,M,F,hm,hb⟩:=D.ex
 exact pe_make M F (hr.mono hj) hg hm hb .nil pass0 ha hdb he hpl
end
section
variable {X:Cx} {K:PySem.W.Frag} {pos:Pos}
theorem Zkc {es:List Expr} {k:Nat} {t:TGs} {n:Nat} (hc:X.calm=true) (h:PGs X es t) (hK:X.K=K:=by rfl)
  (hn:(assignEach es X.env).length=n:=by rfl) (hst:(assignEach es X.env).findIdx? (·.1)=none:=by rfl):PG X (.Tuple es k pos) (gTup K n t):=by
 subst hK; exact Zdw hc h hn hst
end
end L2
namespace GB
open PySem L2
structure Rc where
 t:Int
 l:Int
 b:Int
 r:Int
 deriving DecidableEq
def Rc.ls (p:Rc):List Int:=[p.t,p.l,p.b,p.r]
def Rc.has (p:Rc) (r c:Int):Prop:=p.t≤r∧r < p.b∧p.l≤c∧c < p.r
def Rc.In (w h:Int) (p:Rc):Prop:=0≤p.t∧p.t < p.b∧p.b≤h∧0≤p.l∧p.l < p.r∧p.r≤w
def Apart (p q:Rc):Prop:=∀ r c,p.has r c→q.has r c→False
structure Tiles (w h:Int) (ps:List Rc):Prop where
 ins:∀ p∈ps,p.In w h
 dis:ps.Pairwise Apart
 cov:∀ r c,0≤r→r < h→0≤c→c < w→∃ p∈ps,p.has r c
def key:List Int→Int
 | [a,b,c,d]=>((a * 13+b) * 13+c) * 13+d
 | _=>0
theorem key_ls (p:Rc):key p.ls=((p.t * 13+p.l) * 13+p.b) * 13+p.r:=rfl
theorem key_lt {p q:Rc} {w h w' h':Int} (hp:p.In w h) (hq:q.In w' h') (b1:w≤12) (b2:h≤12) (b3:w'≤12) (b4:h'≤12):HT.lexLt p.ls q.ls=decide (key p.ls < key q.ls):=by
 obtain ⟨a1,a2,a3,a4,a5,a6⟩:=hp
 obtain ⟨c1,c2,c3,c4,c5,c6⟩:=hq
 rw [key_ls,key_ls]
 show (if p.t=q.t then (if p.l=q.l then (if p.b=q.b then (if p.r=q.r then false else decide (p.r < q.r)) else decide (p.b < q.b)) else decide (p.l < q.l)) else decide (p.t < q.t))=_
 repeat' split
 all_goals (first | (apply Eq.symm; rw [decide_eq_false_iff_not]; omega) | (rw [decide_eq_decide]; omega))
theorem key_inj {p q:Rc} {w h w' h':Int} (hp:p.In w h) (hq:q.In w' h') (b1:w≤12) (b2:h≤12) (b3:w'≤12) (b4:h'≤12) (e:key p.ls=key q.ls):p=q:=by
 obtain ⟨a1,a2,a3,a4,a5,a6⟩:=hp
 obtain ⟨c1,c2,c3,c4,c5,c6⟩:=hq
 rw [key_ls,key_ls] at e
 obtain ⟨pt,pl,pb,pr⟩:=p
 obtain ⟨qt,ql,qb,qr⟩:=q
 simp only at *
 have e1:pt=qt:=by omega
 subst e1
 have e2:pl=ql:=by omega
 subst e2
 have e3:pb=qb:=by omega
 subst e3
 have e4:pr=qr:=by omega
 subst e4
 rfl
def Srt (ps:List Rc):Prop:=(ps.map fun p=>key p.ls).Pairwise (·≤·)
theorem sorted_same {ps qs:List Rc} {w h:Int} (hp:∀ p∈ps,p.In w h) (b1:w≤12) (b2:h≤12) (e:ps.Perm qs) (s1:Srt ps) (s2:Srt qs):ps=qs:=by
 have hq:∀ p∈qs,p.In w h:=fun p x=>hp p (e.mem_iff.mpr x)
 have hm:=PySem.W.ksm_same (List.Perm.map (fun p:Rc=>key p.ls) e) s1 s2
 have len:=e.length_eq
 apply List.ext_getElem len
 intro i h1 h2
 have:=congrArg (fun l=>l[i]?) hm
 simp only [List.getElem?_map,List.getElem?_eq_getElem h1,List.getElem?_eq_getElem h2,Option.map_some,Option.some.injEq] at this
 exact key_inj (hp _ (List.getElem_mem h1)) (hq _ (List.getElem_mem h2)) b1 b2 b1 b2 this
end GB
namespace L2
open PySem PySem.Spec PyProof.Rows
section
variable {prog:Program} {w:World} {A:Around} {E:Value→Shared→Prop} {h:Heap} {g:Array GenState} {d:Drawn} {t:Nat} {os:OsState}
 {nm qn:Str} {C N:Addr} {bs bm bmB:List Value} {hdct:Bool} {sn:List Str} {sub:List Value} {ab:Bool} {col:Option Bool} {dd:Option Addr} {k0 k1 k2 k3 k5:Option Value} {B newId initId:String}
def rawExc (h:Heap) (C:Addr) (rest:List Value):Heap:=(h.push { cls:=.type "tuple",data:=.seq rest.toArray }).push { cls:=.ref C,data:=.fields #[.ref h.objs.size,.none,.none,.none,.bool false,.none] }
theorem Zct {C:Addr} {rest:List Value} {b:Addr} {o:Obj} (e:h.get? b=some o):(rawExc h C rest).get? b=some o:=Heap.get?_push_of_some _ (Heap.get?_push_of_some _ e)
theorem Zip (C:Addr) (rest:List Value):(rawExc h C rest).get? (h.objs.size+1)=some { cls:=.ref C,data:=.fields #[.ref h.objs.size,.none,.none,.none,.bool false,.none] }:=by
 unfold rawExc; heap_get
theorem Zf8 (F:ExcBaseFacts B newId initId bmB) (T:OwnTail h bmB bm) {mN:Str→Option Value} {rest:List Value} {fI:Addr} {oI:Obj} {Q:Fin→Shared→Prop}
  (hC:h.get? C=some (excClassObj nm qn C N bs bm hdct sn sub ab col dd k0 k1 k2 k3 k5 newId)) (hn:h.Ns N mN) (hi:mN "__init__"=some (.ref fI)) (hfI:h.get? fI=some oI) (hfc:oI.cls=.type "function") (hrest:rest.length≤sizeLine)
  (hq:wpAny (model prog w) A (call (.ref fI) (.ref (h.objs.size+1) :: rest)) (fun r s'=>r=.none∧Q (.done (.ret (.ref (h.objs.size+1)))) s') E ⟨rawExc h C rest,g,d,t,os⟩) :
  wpAny (model prog w) A (Builtin.«type.__call__» ⟨.ref C :: rest,[]⟩) Q E ⟨h,g,d,t,os⟩:=by
 repeat (first | with_reducible refine wpAny_loadPart_at hC ?_ | with_reducible refine wpAny_madeBy_exc hC ?_ | wp_step)
 refine codeAny_call_builtin_code (Code.quiet_builtin _ F.quiet) (wpAny_check_new_subT F T hC (codeAny_exc_new_subT F T hC ?_ hrest))
 show wpAny _ _ _ _ _ ⟨rawExc h C rest,g,d,t,os⟩
 have c1:(rawExc h C rest).get? C=_:=Zct hC
 have n1:(rawExc h C rest).Ns N mN:=let ⟨o,es,ep,e,r⟩:=hn; ⟨o,es,ep,Zct e,r⟩
 have e1:=Zip (h:=h) C rest
 have T1:OwnTail (rawExc h C rest) bmB bm:=T.keeps fun _ _ e=>Zct e
 have cc:(Value.ref C :: bm).contains (.ref C)=true:=by simp
 unfold isInstance
 repeat (first | with_reducible refine wpAny_loadPart_at e1 ?_ | (with_reducible refine wpAny_isSubtype_exc c1 ?_; rw [cc]) | wp_step)
 show wpAny _ _ (typeLookup (.ref C) _) _ _ _
 refine wpAny_typeLookup_tail c1 n1 T1 F.mroIs F.init.lookup ?_
 rw [hi]
 refine wpAny_holding (wpAny_bind ?_)
 unfold bindSpecial
 refine wpAny_bind (wpAny_typeOf (T:="function") ⟨_,Zct hfI,hfc⟩ ?_)
 rw [if_pos (by decide)]
 refine wpAny_pure (wpAny_bind (wpAny_mono hq (fun r s' hr=>?_) fun _ _ x=>x))
 obtain ⟨rfl,hQ⟩:=hr
 wp_walk
 exact hQ
theorem call_excT (F:ExcBaseFacts B newId initId bmB) (T:OwnTail h bmB bm) {mN:Str→Option Value} {rest:List Value} {fI:Addr} {oI:Obj} {Q:Value→Shared→Prop}
  (hC:h.get? C=some (excClassObj nm qn C N bs bm hdct sn sub ab col dd k0 k1 k2 k3 k5 newId)) (hn:h.Ns N mN) (hi:mN "__init__"=some (.ref fI)) (hfI:h.get? fI=some oI) (hfc:oI.cls=.type "function") (hrest:rest.length≤sizeLine)
  (hq:wpAny (model prog w) (A.under (.builtin "type.__call__" ⟨.ref C :: rest,[]⟩)) (call (.ref fI) (.ref (h.objs.size+1) :: rest)) (fun r s'=>r=.none∧Q (.ref (h.objs.size+1)) s') E ⟨rawExc h C rest,g,d,t,os⟩) :
  wpAny (model prog w) A (call (.ref C) rest) Q E ⟨h,g,d,t,os⟩:=by
 have l1:=tc_lookup
 have l2:=tc_bind (.ref C)
 have ty:(⟨h,g,d,t,os⟩:Shared).TypeIs (.ref C) "type":=⟨_,hC,rfl⟩
 refine wpAny_call (codeAny_of_tree ?_)
 show wpAny _ _ (callAny (.ref C) _) _ _ _
 repeat (any_goals (first | assumption | with_reducible refine wpAny_loadPart_at hC ?_ | wp_step))
 exact ⟨rfl,codeAny_call_builtin_at (Code.quiet_builtin _ (by decide +kernel)) entry_typeCall (wpAny_check_type_call_sub hC (Zf8 F T hC hn hi hfI hfc hrest hq))⟩
end
end L2
namespace L2
open PySem PySem.Spec PyProof.Rows PySem.W PySem.Builtin PySem.Builtin.ObjectAttr
def vErr:List Value:=[.type "ValueError",.type "Exception",.type "BaseException",.type "object"]
def excMro:List Value→Bool
 | []=>false
 | x :: r=>(match x with | .ref _=>excMro r | _=>false) || (x :: r == vErr)
theorem Zgj (self:Value):∀ {l:List Value},excMro l=true→refuseLoop self "__setattr__" l=pure ()
 | [],e=>by cases e
 | x :: r,e=>by
  unfold excMro at e
  rw [Bool.or_eq_true] at e
  rcases e with e | e
  ·cases x <;> first | (rw [refuseLoop_ref]; exact Zgj self e) | cases e
  ·rw [show x :: r=vErr from beq_iff_eq.mp e]
   exact PySem.F.store_ValueError.passes self
theorem Zkx {T:String} (hT:vErr.contains (.type T)=true):∀ {l:List Value},excMro l=true→l.contains (.type T)=true
 | [],e=>by cases e
 | x :: r,e=>by
  unfold excMro at e
  rw [Bool.or_eq_true] at e
  rcases e with e | e
  ·cases x <;> first | (rw [List.contains_cons,Zkx hT e,Bool.or_true]) | cases e
  ·rw [show x :: r=vErr from beq_iff_eq.mp e]; exact hT
def excIn (K:Frag) (C:Addr):Bool:=(clsIn K C).any fun cd=>excMro cd.mro
section
variable {prog:Program} {w:World} {A:Around} {E:Value→Shared→Prop} {R:Result→Shared→Prop} {s:Shared} {K:Frag} {x C:Addr} {ox:Obj} {od:Option Obj} {name:Str} {tk:Tok} {v:Value}
theorem osa_exc (X:K.In s.heap) (I:InstAt s.heap x ox C od) (hp:excIn K C=true) (ht:findIn K (.ref C) name=some none)
  (h:wpAny (model prog w) A.in1 (storeInOwnDict (.ref x) (.ref C) (.str name tk) name v false)
   (fun fin s'=>match fin with | .done f=>R (.ok f) s' | .again c'=>c'.quiet=true∧codeAny (model prog w) A c' R s') (fun e s'=>R (.error e) s') s) :
  codeAny (model prog w) A (.call (.builtin "object.__setattr__") ⟨[.ref x,.str name tk,v],[]⟩) R s:=by
 have SF:=PySem.F.store_object
 obtain ⟨cd,hc,ho⟩:=any_some hp
 have ne:cd.mro.isEmpty=false:=by cases q:cd.mro with | nil=>rw [q] at ho; cases ho | cons _ _=>rfl
 have tO:Looks (model prog w) s.heap (isInstance (.ref x) (.type "object")) true:=I.type.andThen (looks_mroIn X (by
  unfold mroIn
  rw [hc,Option.bind_some,ne]
  show some (cd.mro.contains (.type "object"))=some true
  rw [Zkx (by decide +kernel) ho]))
 have tM:Looks (model prog w) s.heap (mroOf (.ref C)) cd.mro:=(looks_clsIn X hc).andThen .now
 refine codeAny_call_builtin SF.slot.plain SF.entry (@check_slot (model prog w) _ _ s "object.__setattr__" "object" "__setattr__" (.ref x) [.str name tk,v] [] _ SF.kind SF.split tO (SF.args (.ref x) (.str name tk) v) ?_)
 rw [osa_eq,refuse_eq]
 refine wpAny_bind (wpAny_bind (I.type.here (wpAny_bind (tM.here ?_))))
 rw [Zgj _ ho]
 exact wpAny_pure (wpAny_bind (I.type.here (wpAny_bind ((looks_findIn X ht).here (wpAny_bind (wpAny_pure h))))))
theorem set_exc0 {vs:Array Value} {sl:Array (Option Value)} {Q:Unit→Shared→Prop} (X:K.In s.heap) (hx:s.heap.get? x=some ⟨.ref C,none,.fields vs,sl⟩) (hs:findIn K (.ref C) "__setattr__"=some (some (.builtin "object.__setattr__")))
  (hp:excIn K C=true) (hh:hasDictIn K C=true) (ht:findIn K (.ref C) name=some none)
  (h:∀ h',h'.get? x=some ⟨.ref C,some s.heap.objs.size,.fields vs,sl⟩→h'.Ns1 s.heap.objs.size (fun y=>if y=name then some v else none)→(∀ b o,b≠x→s.heap.get? b=some o→h'.get? b=some o)→Q () { s with heap:=h',toks:=s.toks+2 }) :
  wpAny (model prog w) A (setAttr (.ref x) name v) Q E s:=by
 have I:InstAt s.heap x ⟨.ref C,none,.fields vs,sl⟩ C none:=⟨hx,rfl,rfl,trivial⟩
 obtain ⟨cd,hc,hd'⟩:=any_some hh
 have nx:x≠s.heap.objs.size:=Nat.ne_of_lt (Heap.lt_size hx)
 refine set_plain X I hs (osa_exc (s:={ s with toks:=s.toks+1 }) X I hp ht ?_)
 refine wpAny_bind (wpAny_pure (wpAny_bind (wpAny_bind (wpAny_loadPart hx (wpAny_bind (Looks.here (s:={ s with toks:=s.toks+1 }) (looks_clsIn X hc) ?_))))))
 rw [hd']
 refine wpAny_bind (wpAny_alloc (wpAny_bind (wpAny_update (Heap.get?_push_of_some _ hx) (wpAny_pure ?_))))
 generalize hH:(s.heap.push { cls:=.type "dict",data:=.dict #[] }).update x (fun o=>{ o with dict:=some s.heap.objs.size })=H1
 have hx1:H1.get? x=some ⟨.ref C,some s.heap.objs.size,.fields vs,sl⟩:=by
  rw [← hH]; exact Heap.get?_update_self _ (Heap.get?_push_of_some _ hx) rfl
 have hd1:H1.get? s.heap.objs.size=some { cls:=.type "dict",data:=.dict #[] }:=by
  rw [← hH,Heap.get?_update_ne _ _ _ _ (Ne.symm nx)]; exact Heap.get?_push_size _ rfl
 have hk1:∀ b o,b≠x→s.heap.get? b=some o→H1.get? b=some o:=fun b o hb e=>by
  rw [← hH,Heap.get?_update_ne _ _ _ _ hb]; exact Heap.get?_push_of_some _ e
 have hn1:H1.Ns1 s.heap.objs.size (fun _=>none):=Heap.Ns1.of_empty ⟨_,#[],_,hd1,rfl,fun e he=>absurd he (by simp),fun _=>rfl⟩
 refine wpAny_bind (wpAny_pure (wpAny_bind (wpAny_nsSet1 (s:={ s with heap:=H1,toks:=s.toks+1 }) hn1 fun h' hn2 hs2=>?_)))
 obtain ⟨oD,esD,epD,hoD,hdD,hcD⟩:=hn2.count (Within.cons name v Within.nil)
 refine wpAny_bind (wpAny_lookBehind hoD (by rw [hdD]; exact pastItsLine_dict (Nat.le_trans hcD (by rw [List.length_cons,List.length_nil,sizeLine_eq]; omega))) ?_)
 exact wpAny_pure (h _ ((hs2.2 _ nx).trans hx1) hn2 fun b o hb e=>(hs2.2 _ (Nat.ne_of_lt (Heap.lt_size e))).trans (hk1 b o hb e))
theorem set_exc {vs:Array Value} {sl:Array (Option Value)} {dx:Addr} {mA:Str→Option Value} {ns:List Str} {Q:Unit→Shared→Prop} (X:K.In s.heap) (hx:s.heap.get? x=some ⟨.ref C,some dx,.fields vs,sl⟩) (hn:s.heap.Ns1 dx mA) (hne:dx≠x)
  (hs:findIn K (.ref C) "__setattr__"=some (some (.builtin "object.__setattr__"))) (hp:excIn K C=true) (hh:hasDictIn K C=true) (ht:findIn K (.ref C) name=some none) (hw:PySem.Within mA ns) (hsz:ns.length≤sizeLine)
  (h:∀ h',h'.get? x=some ⟨.ref C,some dx,.fields vs,sl⟩→h'.Ns1 dx (fun y=>if y=name then some v else mA y)→Heap.SameBut dx s.heap h'→Q () { s with heap:=h',toks:=s.toks+2 }) :
  wpAny (model prog w) A (setAttr (.ref x) name v) Q E s:=by
 obtain ⟨od,ho⟩:∃ o,s.heap.get? dx=some o:=let ⟨o,_,_,e,_⟩:=hn; ⟨o,e⟩
 have I:InstAt s.heap x ⟨.ref C,some dx,.fields vs,sl⟩ C (some od):=⟨hx,rfl,rfl,ho⟩
 obtain ⟨cd,hc,hd'⟩:=any_some hh
 refine set_plain X I hs (osa_exc (s:={ s with toks:=s.toks+1 }) X I hp ht ?_)
 refine wpAny_bind (wpAny_pure (wpAny_bind (wpAny_bind (wpAny_loadPart hx (wpAny_bind (Looks.here (s:={ s with toks:=s.toks+1 }) (looks_clsIn X hc) ?_))))))
 rw [hd']
 refine wpAny_pure (a:=some dx) (wpAny_bind (wpAny_pure (wpAny_bind (wpAny_nsSet1 (s:={ s with toks:=s.toks+1 }) hn fun h' hn2 hs2=>?_))))
 obtain ⟨oD,esD,epD,hoD,hdD,hcD⟩:=hn2.count (Within.cons name v hw)
 refine wpAny_bind (wpAny_lookBehind hoD (by rw [hdD]; exact pastItsLine_dict (Nat.le_trans hcD (by rw [List.length_cons]; omega))) ?_)
 exact wpAny_pure (h _ ((hs2.2 _ (Ne.symm hne)).trans hx) hn2 hs2)
end
end L2
namespace L2
open PySem PySem.Spec PyProof.Rows PySem.W PySem.Builtin PySem.Builtin.ObjectAttr
section
variable {prog:Program} {w:World} {A:Around} {E:Value→Shared→Prop} {R:Result→Shared→Prop} {s:Shared} {K:Frag} {x C:Addr} {ox:Obj} {od:Option Obj} {name:Str} {tk:Tok} {v:Value} {expr:Bool}
theorem ga_code (X:K.In s.heap) (I:InstAt s.heap x ox C od) (hp:L2.excIn K C=true)
  (h:wpAny (model prog w) A.in1 (Builtin.«object.__getattribute__» ⟨[.ref x,.str name tk],[]⟩)
   (fun fin s'=>match fin with | .done f=>R (.ok f) s' | .again c'=>c'.quiet=true∧codeAny (model prog w) A c' R s') (fun e s'=>R (.error e) s') s) :
  codeAny (model prog w) A (.call (.builtin "BaseException.__getattribute__") ⟨[.ref x,.str name tk],[]⟩) R s:=by
 obtain ⟨cd,hc,ho⟩:=any_some hp
 have ne:cd.mro.isEmpty=false:=by cases q:cd.mro with | nil=>rw [q] at ho; cases ho | cons _ _=>rfl
 have tB:Looks (model prog w) s.heap (isInstance (.ref x) (.type "BaseException")) true:=I.type.andThen (looks_mroIn X (by
  unfold mroIn
  rw [hc,Option.bind_some,ne]
  show some (cd.mro.contains (.type "BaseException"))=some true
  rw [Zkx (by decide +kernel) ho]))
 exact codeAny_call_builtin PySem.F.attrBase_ValueError.ga.plain PySem.F.entry_bexc_ga (@check_slot (model prog w) _ _ s "BaseException.__getattribute__" "BaseException" "__getattribute__" (.ref x) [.str name tk] [] _ (by decide +kernel) (by decide +kernel) tB (PySem.F.args_bexc_ga (.ref x) (.str name tk)) h)
theorem ga_by (X:K.In s.heap) (I:InstAt s.heap x ox C od) (hp:L2.excIn K C=true) (hga:findIn K (.ref C) "__getattribute__"=some (some (.builtin "BaseException.__getattribute__"))) (hk:findIn K (.ref C) "__getattr__"=some none) {fill:Bool} {Q:Value→Shared→Prop}
  (h:wpAny (model prog w) A.in1 (Builtin.«object.__getattribute__» ⟨[.ref x,.str name tk],[]⟩)
   (fun fin s'=>match fin with | .done (.ret v)=>wpAny (model prog w) A (handedOut v) Q E s' | _=>False) (fun _ _=>False) s) :
  wpAny (model prog w) A (getAttrBy (.ref x) (.str name tk) fill expr) Q E s:=by
 have L0:=I.type (M:=model prog w)
 have L1:=looks_findIn (M:=model prog w) X hga
 have L2:=looks_findIn (M:=model prog w) X hk
 unfold getAttrBy
 refine wpAny_holding (wpAny_bind (L0.here (wpAny_bind (L1.here ?_))))
 show wpAny _ _ (getAttrByItsOwn (.ref x) (.str name tk) (.ref C) (.builtin "BaseException.__getattribute__") fill expr) _ _ _
 unfold getAttrByItsOwn hookBefore callGetattribute boundAndCalled
 refine wpAny_bind (L2.here ?_)
 refine wpAny_bind (wpAny_attempt (wpAny_holding ?_))
 rw [show (expr && onTheHeap (Value.builtin "BaseException.__getattribute__"))=false from by cases expr <;> rfl,if_neg Bool.false_ne_true]
 refine wpAny_bind (wpAny_of_eq (PySem.F.attrBase_ValueError.ga.bind _) ?_)
 refine wpAny_call (ga_code X I hp (wpAny_mono h (fun fin s' z=>?_) fun _ _ z=>z.elim))
 rcases fin with (_ | _ | _ | _) | _ <;> first | exact z.elim | exact z
theorem get_exc {Q:Value→Shared→Prop} (X:K.In s.heap) (I:InstAt s.heap x ox C od) (hp:L2.excIn K C=true) (hga:findIn K (.ref C) "__getattribute__"=some (some (.builtin "BaseException.__getattribute__"))) (hk:findIn K (.ref C) "__getattr__"=some none)
  (hf:findObj K C od name=some (.value v)) (hh:handedIn v=true) (h:Q v { s with toks:=s.toks+1 }):wpAny (model prog w) A (getAttr (.ref x) name expr) Q E s:=by
 unfold getAttr
 refine wpAny_bind (wpAny_mkText (ga_by (s:={ s with toks:=s.toks+1 }) X I hp hga hk ?_))
 have L0:=I.type (M:=model prog w)
 have L1:=looks_find (M:=model prog w) X I hf
 refine wpAny_bind (wpAny_of_eq (show slotArgs "__getattribute__" 1 ⟨[.ref x,.str name s.toks],[]⟩=pure (.ref x,[.str name s.toks]) from rfl) ?_)
 refine wpAny_bind (wpAny_pure (wpAny_bind (Looks.here (s:={ s with toks:=s.toks+1 }) L0 (wpAny_bind (Looks.here (s:={ s with toks:=s.toks+1 }) L1 ?_)))))
 refine wpAny_pure ?_
 show wpAny _ _ (handedOut v) _ _ _
 rw [handedOut_of hh]; exact wpAny_pure h
theorem class_exc {Q:Option Value→Shared→Prop} (X:K.In s.heap) (I:InstAt s.heap x ox C od) (hp:L2.excIn K C=true) (hga:findIn K (.ref C) "__getattribute__"=some (some (.builtin "BaseException.__getattribute__"))) (hk:findIn K (.ref C) "__getattr__"=some none)
  (hf:findObj K C od "__class__"=some (.bind (.builtin "getset_descriptor.__get__") (.builtin "object.__class__"))) (hm:mroIn K C (.type "object")=some true) (h:Q (some (.ref C)) { s with toks:=s.toks+1 }):wpAny (model prog w) A (getAttr? (.ref x) "__class__") Q E s:=by
 unfold getAttr? getAttrBy?
 refine wpAny_bind (wpAny_mkText (wpAny_bind (wpAny_attempt (ga_by (s:={ s with toks:=s.toks+1 }) X I hp hga hk ?_))))
 have L0:=I.type (M:=model prog w)
 have L1:=looks_find (M:=model prog w) X I hf
 refine wpAny_bind (wpAny_of_eq (show slotArgs "__getattribute__" 1 ⟨[.ref x,.str "__class__" s.toks],[]⟩=pure (.ref x,[.str "__class__" s.toks]) from rfl) ?_)
 refine wpAny_bind (wpAny_pure (wpAny_bind (Looks.here (s:={ s with toks:=s.toks+1 }) L0 (wpAny_bind (Looks.here (s:={ s with toks:=s.toks+1 }) L1 ?_)))))
 show wpAny _ _ (holding [.builtin "object.__class__"] (call (.builtin "getset_descriptor.__get__") [.builtin "object.__class__",.ref x,.ref C]) >>= ret) _ _ _
 refine wpAny_bind (wpAny_holding (wpAny_call (class_get (s:={ s with toks:=s.toks+1 }) (ox:=ox) (od:=od) X I hm ?_)))
 exact wpAny_pure (handed_on rfl (wpAny_pure h))
end
end L2
namespace L2
open PySem PySem.Spec PyProof.Rows PySem.W
def ExcN (C x:Addr):HO:=.ext fun h=>∃ vs sl,h.get? x=some ⟨.ref C,none,.fields vs,sl⟩∧vs[1]?=some Value.none
def ExcO (C dx x:Addr):HO:=.ext fun h=>∃ vs sl,h.get? x=some ⟨.ref C,some dx,.fields vs,sl⟩∧vs[1]?=some Value.none
def ExcT (C:Addr) (d:Option Addr) (x T:Addr):HO:=.ext fun h=>∃ vs sl,h.get? x=some ⟨.ref C,d,.fields vs,sl⟩∧vs[1]?=some (.ref T)
def ExcD (dx:Addr) (fs:List (Str × V)):HO:=.ext fun h=>∃ mA,h.Ns1 dx mA∧(∀ f,RelO (fs.lookup f) (mA f))∧PySem.Within mA (fs.map (·.1))
section
variable {P:Program} {w:World} {H:Hp} {h:Heap} {x C dx:Addr} {fs:List (Str × V)}
theorem excN_ok {vs:Array Value} {sl:Array (Option Value)} (e:h.get? x=some ⟨.ref C,none,.fields vs,sl⟩) (f:vs[1]?=some Value.none):ObjOk P w H h x (ExcN C x) :=
 ⟨⟨vs,sl,e,f⟩,⟨_,e⟩,fun _ _ ⟨vs,sl,e,f⟩ k=>⟨vs,sl,k _ e,f⟩⟩
theorem excO_ok {vs:Array Value} {sl:Array (Option Value)} (e:h.get? x=some ⟨.ref C,some dx,.fields vs,sl⟩) (f:vs[1]?=some Value.none):ObjOk P w H h x (ExcO C dx x) :=
 ⟨⟨vs,sl,e,f⟩,⟨_,e⟩,fun _ _ ⟨vs,sl,e,f⟩ k=>⟨vs,sl,k _ e,f⟩⟩
theorem excT_ok {d:Option Addr} {T:Addr} {vs:Array Value} {sl:Array (Option Value)} (e:h.get? x=some ⟨.ref C,d,.fields vs,sl⟩) (f:vs[1]?=some (.ref T)):ObjOk P w H h x (ExcT C d x T) :=
 ⟨⟨vs,sl,e,f⟩,⟨_,e⟩,fun _ _ ⟨vs,sl,e,f⟩ k=>⟨vs,sl,k _ e,f⟩⟩
theorem excD_ok {mA:Str→Option Value} (n:h.Ns1 dx mA) (r:∀ f,RelO (fs.lookup f) (mA f)) (wi:PySem.Within mA (fs.map (·.1))):ObjOk P w H h dx (ExcD dx fs) :=
 ⟨⟨mA,n,r,wi⟩,let ⟨o,_,_,e,_⟩:=n; ⟨o,e⟩,fun _ _ ⟨mA,n,r,wi⟩ k=>⟨mA,n.at k,r,wi⟩⟩
end
structure XCls (K:Frag) (C:Addr):Prop where
 ga:findIn K (.ref C) "__getattribute__"=some (some (.builtin "BaseException.__getattribute__"))
 gh:findIn K (.ref C) "__getattr__"=some none
 hd:hasDictIn K C=true
 sa:findIn K (.ref C) "__setattr__"=some (some (.builtin "object.__setattr__"))
 ex:L2.excIn K C=true
 ca:findIn K (.ref C) "__class__"=some (some (.builtin "object.__class__"))
 gn:specialIn K (.builtin "object.__class__") "__get__"=some (some (.builtin "getset_descriptor.__get__"))
 tk:takesIn K (.builtin "object.__class__")=some true
 mo:mroIn K C (.type "object")=some true
def xclsB (K:Frag) (C:Addr):Bool:=(findIn K (.ref C) "__getattribute__" == some (some (.builtin "BaseException.__getattribute__"))) && (findIn K (.ref C) "__getattr__" == some none) && hasDictIn K C && (findIn K (.ref C) "__setattr__" == some (some (.builtin "object.__setattr__"))) && L2.excIn K C &&
 (findIn K (.ref C) "__class__" == some (some (.builtin "object.__class__"))) && (specialIn K (.builtin "object.__class__") "__get__" == some (some (.builtin "getset_descriptor.__get__"))) &&
 (takesIn K (.builtin "object.__class__") == some true) && (mroIn K C (.type "object") == some true)
theorem XCls.of {K:Frag} {C:Addr} (h:xclsB K C=true):XCls K C:=by
 unfold xclsB at h
 simp only [Bool.and_eq_true,beq_iff_eq] at h
 obtain ⟨⟨⟨⟨⟨⟨⟨⟨a,a'⟩,b⟩,c⟩,d⟩,e⟩,f⟩,g⟩,i⟩:=h
 exact ⟨a,a',b,c,d,e,f,g,i⟩
section
variable {X:Cx} {pins:List (Addr × Obj)} {σ:St} {H:Hp} {s:Shared} {a C dx:Addr} {fs:List (Str × V)} {f:Str} {v:V} {A:Around} {E:Value→Shared→Prop}
theorem Zgv {φ:Heap→Prop} {b c:Addr} (h:H b=some (.ext φ)):H b≠some (.own c):=fun e=>by rw [h] at e; cases e
theorem setexc0_ok {y:V} {u:Value} {Q:Unit→Shared→Prop} (I:Inv X pins σ H s) (e:H a=some (ExcN C a)) (c:XCls X.K C) (n:NoAttr X.K C f) (ry:RelV y u)
  (h:∀ s' d,H d=none→Inv X pins σ (upd (upd H d (ExcD d [(f,y)])) a (ExcO C d a)) s'→Q () s'):wpAny (model X.prog X.w) A (setAttr (.ref a) f u) Q E s:=by
 obtain ⟨⟨vs,sl,hx,hv1⟩,_⟩:=(show ObjOk X.prog X.w H s.heap a (ExcN C a) from I.hok a _ e)
 refine set_exc0 I.kIn hx c.sa c.ex c.hd n fun h' h1 h2 k=>?_
 have hn:H s.heap.objs.size=none:=I.hok.fresh (Nat.le_refl _)
 have nea:s.heap.objs.size≠a:=Ne.symm (Zag e hn)
 refine h _ s.heap.objs.size hn ?_
 have e':∀ b o,H b=some o→b≠s.heap.objs.size:=fun b o q=>Zag q hn
 have lt:∀ b o,s.heap.get? b=some o→b≠s.heap.objs.size:=fun b o q=>Nat.ne_of_lt (Heap.lt_size q)
 have na:∀ b o,H b=some o→(∀ φ,o≠.ext φ)→b≠a:=fun b o q z t=>by subst t; rw [e] at q; cases q; exact z _ rfl
 refine I.un (h':=h') (t':=s.toks+2) ⟨fun b o q m _ _=>k b o (fun z=>by rw [z,e] at m; cases m) q,fun b o q m _ _=>⟨o.slots,k b o (fun z=>by rw [z,e] at m; cases m) q⟩,
  fun b o q m _=>by rw [Zak (fun z=>by rw [z,e] at m; cases m),Zak (lt b o q)]; exact m,fun b o q _=>?_,fun b xs q=>by rw [Zak (na b _ q (fun φ z=>by cases z)),Zak (e' b _ q)]; exact q,
  fun b o u q=>by rw [Zak (na b _ q (fun φ z=>by cases z)),Zak (e' b _ q)]; exact q,fun b ps q=>⟨#[],by rw [Zak (na b _ q (fun φ z=>by cases z)),Zak (e' b _ q),q]; simp⟩⟩ fun b o q=>?_
 ·by_cases hb:b=a
  ·subst hb; exact ⟨_,h1⟩
  ·exact ⟨o,k b o hb q⟩
 ·by_cases hb:b=a
  ·subst hb; rw [upd_same] at q; cases q; exact excO_ok h1 hv1
  ·rw [Zak hb] at q
   by_cases hd:b=s.heap.objs.size
   ·subst hd; rw [upd_same] at q; cases q
    refine excD_ok h2 (fun g=>?_) fun g hg=>?_
    ·show RelO (List.lookup g [(f,y)]) (if g=f then some u else none)
     by_cases q:g=f
     ·have hb:(g == f)=true:=beq_iff_eq.mpr q
      rw [if_pos q]; simp only [List.lookup,hb]; exact ry
     ·have hb:(g == f)=false:=beq_eq_false_iff_ne.mpr q
      rw [if_neg q]; simp only [List.lookup,hb]; exact True.intro
    ·by_cases q:g=f
     ·rw [q]; simp
     ·exact absurd (if_neg q) hg
   ·rw [Zak hd] at q
    refine (I.hok b o q).stay (fun cc w' hc z=>k cc w' ?_ z) (fun cc z=>?_) fun cc xs z=>?_
    ·rcases hc with rfl | hc
     ·exact hb
     ·exact fun t=>Zgv e (t ▸ hc)
    ·rw [Zak (fun t=>Zgv e (t ▸ z)),Zak (e' cc _ z)]; exact z
    ·rw [Zak (na cc _ z (fun φ t=>by cases t)),Zak (e' cc _ z)]; exact z
theorem setexc_ok {y:V} {u:Value} {Q:Unit→Shared→Prop} (I:Inv X pins σ H s) (e:H a=some (ExcO C dx a)) (ed:H dx=some (ExcD dx fs)) (c:XCls X.K C) (n:NoAttr X.K C f) (hl:fs.length < 1000) (ry:RelV y u)
  (h:∀ s',Inv X pins σ (upd H dx (ExcD dx (putF f y fs))) s'→Q () s'):wpAny (model X.prog X.w) A (setAttr (.ref a) f u) Q E s:=by
 obtain ⟨⟨vs,sl,hx,_⟩,_⟩:=(show ObjOk X.prog X.w H s.heap a (ExcO C dx a) from I.hok a _ e)
 obtain ⟨⟨mA,hn,r,wi⟩,_⟩:=(show ObjOk X.prog X.w H s.heap dx (ExcD dx fs) from I.hok dx _ ed)
 have hne:dx≠a:=fun z=>by
  subst z
  obtain ⟨o,es,ep,ho,hd,_⟩:=hn
  rw [hx] at ho
  cases ho
  cases hd
 have hz:(fs.map (·.1)).length≤sizeLine:=by rw [List.length_map,sizeLine_eq]; omega
 refine set_exc I.kIn hx hn hne c.sa c.ex c.hd n wi hz fun h' h1 h2 sb=>h _ ?_
 have hd:∃ o,h'.get? dx=some o:=let ⟨o,_,_,e',_⟩:=h2; ⟨o,e'⟩
 refine I.write (x:=dx) (e:=dx) (t':=s.toks+2) (by rw [ed]; exact True.intro) (.inl rfl) (fun b q hb z=>(sb.2 b hb).trans z) hd (excD_ok h2 (fun g=>?_) fun g hg=>?_)
 ·show RelO ((putF f y fs).lookup g) (if g=f then some u else mA g)
  rw [Zbd]
  by_cases q:g=f
  ·rw [if_pos q,if_pos q]; exact ry
  ·rw [if_neg q,if_neg q]; exact r g
 ·by_cases q:g=f
  ·rw [q]; exact (Zdg f y fs).1
  ·refine (Zdg f y fs).2 g (wi g fun z=>hg ?_)
   show (if g=f then some u else mA g)=none
   rw [if_neg q]; exact z
def XAt (H:Hp) (C dx a:Addr):Prop:=H a=some (ExcO C dx a)∨∃ T,H a=some (ExcT C (some dx) a T)
theorem XAt.obj (I:Inv X pins σ H s) (h:XAt H C dx a):∃ vs sl,s.heap.get? a=some ⟨.ref C,some dx,.fields vs,sl⟩:=by
 rcases h with h | ⟨T,h⟩
 ·obtain ⟨⟨vs,sl,hx,_⟩,_⟩:=(show ObjOk X.prog X.w H s.heap a (ExcO C dx a) from I.hok a _ h)
  exact ⟨vs,sl,hx⟩
 ·obtain ⟨⟨vs,sl,hx,_⟩,_⟩:=(show ObjOk X.prog X.w H s.heap a (ExcT C (some dx) a T) from I.hok a _ h)
  exact ⟨vs,sl,hx⟩
theorem getexc_ok {b:Bool} {Q:Value→Shared→Prop} (I:Inv X pins σ H s) (e:XAt H C dx a) (ed:H dx=some (ExcD dx fs)) (c:XCls X.K C) (n:NoAttr X.K C f) (l:fs.lookup f=some v)
  (h:∀ u s',Inv X pins σ H s'→RelV v u→Q u s'):wpAny (model X.prog X.w) A (getAttr (.ref a) f b) Q E s:=by
 obtain ⟨vs,sl,hx⟩:=e.obj I
 obtain ⟨⟨mA,hn,r,wi⟩,_⟩:=(show ObjOk X.prog X.w H s.heap dx (ExcD dx fs) from I.hok dx _ ed)
 obtain ⟨u,hu,ru⟩:=RelO.some_of (v:=v) (o:=mA f) (by rw [← l]; exact r f)
 obtain ⟨od,ho,hl⟩:=Zi9 hn
 have J:InstAt s.heap a ⟨.ref C,some dx,.fields vs,sl⟩ C (some od):=⟨hx,rfl,rfl,ho⟩
 exact get_exc I.kIn J c.ex c.ga c.gh (findObj_own c.hd n rfl (by rw [hl,hu])) (Zje ru) (h u _ (I.tok _) ru)
end
theorem kitx_exc {K:Frag} {x D:Addr} (c:XCls K D):KitX K (.ref x) (.ref D) (fun h=>∃ (ox:Obj) (od:Option Obj),InstAt h x ox D od) where
 ty:=fun _ _ _ ⟨_,_,I⟩=>I.type
 it:=fun _ _ X _=>by
  obtain ⟨cdD,hcD,_⟩:=any_some c.hd
  unfold clsIn at hcD
  split at hcD
  ·rename_i c' d' cd' sl' ho
   intro A' Q' E' s' k q
   unfold isType loadHead
   exact wpAny_bind (wpAny_loadPart (k _ _ (X _ _ ho)) (wpAny_pure q))
  ·cases hcD
 ne:=fun h tp dd its n sl X htp=>by
  obtain ⟨cdD,hcD,_⟩:=any_some c.hd
  refine Bool.eq_false_iff.mpr fun q=>?_
  have e:D=tp:=Value.ref.inj (beq_iff_eq.mp q)
  subst e
  unfold clsIn at hcD
  split at hcD
  ·rename_i c' d' cd' sl' ho
   have z:=(X _ _ ho).symm.trans htp
   cases z
  ·cases hcD
 ca:=fun {prog w A E Q s} X ⟨ox,od,I⟩ h=>by
  have hf:findObj K D od "__class__"=some (.bind (.builtin "getset_descriptor.__get__") (.builtin "object.__class__")):=by
   obtain ⟨cd,hc,_⟩:=any_some c.hd
   unfold findObj
   rw [hc,Option.bind_some,c.ca,Option.bind_some]
   simp [c.gn,c.tk]
  exact class_exc X I c.ex c.ga c.gh hf c.mo h
def IsExc (H:Hp) (a C:Addr):Prop:=(∃ dx fs,XAt H C dx a∧H dx=some (ExcD dx fs))∨H a=some (ExcN C a)∨∃ T,H a=some (ExcT C none a T)
section
variable {X:Cx}
theorem Zgq {pins:List (Addr × Obj)} {σ:St} {H:Hp} {s:Shared} {a C:Addr} (I:Inv X pins σ H s) (h:IsExc H a C):∃ (ox:Obj) (od:Option Obj),InstAt s.heap a ox C od:=by
 rcases h with ⟨dx,fs,h1,h2⟩ | h | ⟨T,h⟩
 ·obtain ⟨vs,sl,hx⟩:=h1.obj I
  obtain ⟨⟨mA,hn,_⟩,_⟩:=(show ObjOk X.prog X.w H s.heap dx (ExcD dx fs) from I.hok dx _ h2)
  obtain ⟨o,_,_,ho,_⟩:=hn
  exact ⟨_,some o,⟨hx,rfl,rfl,ho⟩⟩
 ·obtain ⟨⟨vs,sl,hx,_⟩,_⟩:=(show ObjOk X.prog X.w H s.heap a (ExcN C a) from I.hok a _ h)
  exact ⟨_,none,⟨hx,rfl,rfl,trivial⟩⟩
 ·obtain ⟨⟨vs,sl,hx,_⟩,_⟩:=(show ObjOk X.prog X.w H s.heap a (ExcT C none a T) from I.hok a _ h)
  exact ⟨_,none,⟨hx,rfl,rfl,trivial⟩⟩
theorem call_isinX:CallR X (.builtin "isinstance") (fun xs H Q=>∃ a C c u b,xs=[.ref a,c]∧IsExc H a C∧XCls X.K C∧RelV c u∧(∀ u',RelV c u'→u'=u)∧kitOne X.K (.ref C) u=some b∧Q (.bl b) H):=by
 intro pins s σ H xs us Q I r h
 obtain ⟨a,C,c,u,b,rfl,he,hc,ru,uq,hk,q⟩:=h
 obtain ⟨v1,v2,rfl,r1,r2⟩:=vals2 r
 cases r1
 have:=uq v2 r2
 subst this
 exact kia_one (kitx_exc hc) I.kIn (Zgq I he) hk (fun z=>nomatch z) fun tk=>⟨.bl b,H,I.tok tk,rfl,q⟩
end
def tXFld (K:Frag) (ta:TE) (f:Str):TE:=fun σ H Q=>ta σ H fun x H1=>∃ a C dx fs v,x=.ref a∧XAt H1 C dx a∧H1 dx=some (ExcD dx fs)∧XCls K C∧NoAttr K C f∧fs.lookup f=some v∧Q v H1
def sXFld (K:Frag) (ta tv:TE) (f:Str):TS:=fun D σ H=>tv σ H fun y H1=>ta σ H1 fun x H2=>∃ a C,x=.ref a∧XCls K C∧NoAttr K C f ∧
 ((H2 a=some (ExcN C a)∧∀ d,H2 d=none→D.nx σ (upd (upd H2 d (ExcD d [(f,y)])) a (ExcO C d a)))∨∃ dx fs,H2 a=some (ExcO C dx a)∧H2 dx=some (ExcD dx fs)∧fs.length < 1000∧D.nx σ (upd H2 dx (ExcD dx (putF f y fs))))
section
variable {X:Cx} {o e value:Expr} {f:Str} {pos pos':Pos} {ta tv:TE}
theorem pe_xfld (he:PE X e ta) (hb:attributeBase e f X.env (eval e X.env)=eval e X.env):PE X (.Attribute e f pos) (tXFld X.K ta f):=by
 intro pins s σ H Q I h
 refine attr_of hb (thn (he pins s σ H _ I h) fun u s1 ⟨x,H1,I1,rx,a,C,dx,fs,v,ex,ea,ed,c,n,l,q⟩=>?_)
 subst ex
 obtain rfl:u=Value.ref a:=rx
 exact getexc_ok I1 ea ed c n l fun u' s2 I2 ru=>⟨v,H1,I2,ru,q⟩
theorem ps_xfld (ha:PE X o ta) (hv:PE X value tv) (hs:swapsWith value (some (.Attribute o f pos')) pos.line X.env=pure false):PS X (.Assign [.Attribute o f pos'] value pos) (sXFld X.K ta tv f):=by
 intro pins s σ H D I h
 refine plainObj_wpAny_Assign_Attribute (thn (hv pins s σ H _ I h) fun u s1 ⟨y,H1,I1,ry,q⟩=>thn (ha pins s1 σ H1 _ I1 q) fun ov s2 ⟨x,H2,I2,rx,a,C,ex,c,n,q2⟩=>?_) hs
 subst ex
 obtain rfl:ov=Value.ref a:=rx
 rcases q2 with ⟨e0,q2⟩ | ⟨dx,fs,e1,e2,l,q2⟩
 ·exact setexc0_ok I2 e0 c n ry fun s3 d hd I3=>⟨σ,_,I3,q2 d hd⟩
 ·exact setexc_ok I2 e1 e2 c n l ry fun s3 I3=>⟨σ,_,I3,q2⟩
end
def excInI (K:Frag) (C:Addr) (fI:Addr):Bool:=match K.lookup C with
 | some ⟨.type "type",_,.cls cd,sl⟩=>(match cd.mro,sl.toList with
  | .ref C' :: bm,[_,_,_,_,some (.builtin n),_]=>C' == C && n == "ValueError.__new__" && !cd.hasDel && tailIn K vErr bm && nsOkIn K cd.ns && nsIn K cd.ns "__init__" == some (some (.ref fI))
  | _,_=>false)
 | _=>false
theorem ns_some_of {K:Frag} {h:Heap} {N:Addr} {mg:Str→Option Value} {n:Str} {v:Value} (X:K.In h) (G:h.Ns N mg) (e:nsIn K N n=some (some v)):mg n=some v:=by
 obtain ⟨o,es,ep,ho,hd,_,hf⟩:=G
 unfold nsIn at e
 split at e
 ·rename_i c d es' n' sl q
  have:=X _ _ q
  rw [ho] at this
  cases this
  cases hd
  split at e
  ·rename_i e' he
   cases e
   rw [← hf]
   unfold nsFind findBy
   rw [← Array.find?_toList,he]
   rfl
  ·split at e <;> cases e
 ·cases e
structure XMk (K:Frag) (C fI:Addr):Prop where
 cl:XCls K C
 ei:excInI K C fI=true
 kp:keepIn K (.ref C)=true
 fn:isFn K (.ref fI)=true
theorem XMk.call {K:Frag} {C fI:Addr} (M:XMk K C fI) {prog:Program} {w:World} {A:Around} {E:Value→Shared→Prop} {s:Shared} {rest:List Value} {Q:Value→Shared→Prop} (X:K.In s.heap) (hrest:rest.length≤sizeLine)
  (hq:wpAny (model prog w) (A.under (.builtin "type.__call__" ⟨.ref C :: rest,[]⟩)) (call (.ref fI) (.ref (s.heap.objs.size+1) :: rest)) (fun r s'=>r=.none∧Q (.ref (s.heap.objs.size+1)) s') E { s with heap:=rawExc s.heap C rest }) :
  wpAny (model prog w) A (call (.ref C) rest) Q E s:=by
 obtain ⟨hh,g,d,t,os⟩:=s
 have q:=M.ei
 have fnt:typeIn K (.ref fI)=some (.type "function"):=beq_iff_eq.mp M.fn
 have hfI:∃ oI:Obj,hh.get? fI=some oI∧oI.cls=.type "function":=by
  cases z:K.lookup fI with
  | none=>simp [typeIn,z] at fnt
  | some o=>exact ⟨o,X _ _ z,by simpa [typeIn,z] using fnt⟩
 obtain ⟨oI,hoI,hcI⟩:=hfI
 unfold excInI at q
 split at q
 ·rename_i dd cd sl ho
  split at q
  ·rename_i C' bm k0 k1 k2 k3 n k5 hm hs
   simp only [Bool.and_eq_true,beq_iff_eq,Bool.not_eq_true'] at q
   obtain ⟨⟨⟨⟨⟨rfl,rfl⟩,hdel⟩,ht⟩,hok⟩,hni⟩:=q
   obtain ⟨nm,bs,mro,ns,qn,hd,sn,sub,ab,col,del⟩:=cd
   dsimp only at hm hdel hok hni
   subst hm hdel
   have hsl:sl=#[k0,k1,k2,k3,some (.builtin "ValueError.__new__"),k5]:=by
    obtain ⟨l⟩:=sl
    simp only at hs
    rw [hs]
   subst hsl
   have G:hh.Ns ns (hh.nsMap ns):=.of_isNs (isNs_of_in X hok)
   exact call_excT PySem.F.excBase_ValueError (tail_of_in X ht) (X _ _ ho) G (ns_some_of X G hni) hoI hcI hrest hq
  ·cases q
 ·cases q
end L2
namespace L2
open PySem PySem.Spec PyProof.Rows PySem.W
theorem ObjOk.there {P:Program} {w:World} {H:Hp} {h:Heap} {a:Addr} {o:HO} (x:ObjOk P w H h a o):∃ u,h.get? a=some u:=by
 cases o with
 | lst xs=>obtain ⟨_,_,_,_,e⟩:=x; exact ⟨_,e⟩
 | tup xs=>obtain ⟨_,_,_,p⟩:=x; obtain ⟨_,e,_⟩:=p; exact ⟨_,e⟩
 | dK kvs=>obtain ⟨_,_,_,_,o,_,_,e,_⟩:=x; exact ⟨_,e⟩
 | dT kvs=>obtain ⟨_,_,_,_,o,_,_,e,_⟩:=x; exact ⟨_,e⟩
 | set S n=>obtain ⟨o,_,_,_,e,_⟩:=x; exact ⟨_,e⟩
 | ins C dx fs=>obtain ⟨_,_,_,e,_⟩:=x; exact ⟨_,e⟩
 | own y=>obtain ⟨_,e⟩:=x; exact ⟨_,e⟩
 | xd fs=>obtain ⟨_,⟨_,_,_,e,_⟩,_⟩:=x; exact ⟨_,e⟩
 | rng lo hi=>obtain ⟨_,_,_,e⟩:=x; exact ⟨_,e⟩
 | frz ob u=>obtain ⟨e,_⟩:=x; exact ⟨_,e⟩
 | tbl ps=>exact ⟨_,(show h.get? a=some _ from x)⟩
 | met f y=>exact ⟨_,(show h.get? a=some _ from x)⟩
 | ext φ=>obtain ⟨_,⟨_,e⟩,_⟩:=x; exact ⟨_,e⟩
def sp_x (C:Addr) (names:List Str):Sp:=fun vs H Q _=>∃ x ws,vs=.ref x :: ws∧ws.length=names.length∧H x=some (ExcN C x) ∧
 ∀ d H',H d=none→H' x=some (ExcO C d x)→H' d=some (ExcD d (names.zip ws))→(∀ a o,a≠x→H a=some o→H' a=some o)→Q .non H'
structure XMkOk (P:Program) (w:World) (K:PySem.W.Frag) (mg:Str→Option Value) (base:Heap) (k:Nat) (x:Str) (C:Addr) (ps names:List Str):Prop where
 few:names.length≤1000
 ex:∃ (f:Addr) (fd:FuncData),XMk K C f∧FnOk P w K mg base CX0 k f fd ps (sp_x C names)∧mg x=some (.ref C)∧Binds K fd ps []
section
variable {X:Cx} {CX:CXT} {k j:Nat} {f C:Addr} {fd:FuncData} {ps names:List Str} {sp:Sp} {E:XK} {x m:Str} {p pos apos:Pos} {e o:Expr} {es:List Expr} {ta:TE} {t:TA}
theorem run_xmk {pins:List (Addr × Obj)} {σ:St} {H:Hp} {s:Shared} {Q:VK} {us:List Value} {vs:List V} (M:XMk X.K C f) (F:FnOk X.prog X.w X.K X.mg X.base CX k f fd ps sp) (hr:Room (k+1) X.A) (hb:Binds X.K fd ps [])
  (hx:Passes CX X E) (I:Inv X pins σ H s) (r:Vals vs us) (hz:vs.length≤1000)
  (h:∀ x,H x=none→sp (.ref x :: vs) (upd H x (ExcN C x)) (fun v H2=>v=.non∧Q (.ref x) H2) E) :
  wpAny (model X.prog X.w) X.A (call (.ref C) us) (EP X pins σ Q) X.xe s:=by
 have hq:=h (s.heap.objs.size+1) (I.hok.fresh (Nat.le_succ _))
 have hus:us.length≤sizeLine:=by rw [← r.length,sizeLine_eq]; omega
 have I2:Inv X pins σ (upd H (s.heap.objs.size+1) (ExcN C (s.heap.objs.size+1))) { s with heap:=rawExc s.heap C us } :=
  I.laid (t':=s.toks) (fun b u z=>Zct z) (Nat.le_succ _) (excN_ok (Zip C us) rfl)
 have r2:Vals (V.ref (s.heap.objs.size+1) :: vs) (Value.ref (s.heap.objs.size+1) :: us):=.cons rfl r
 have hl:(Value.ref (s.heap.objs.size+1) :: us++[]).length=ps.length:=by
  have e:=r2.length
  rw [F.len _ _ _ _ hq] at e
  rw [List.append_nil]
  exact e.symm
 have hb2:=hb { s with heap:=rawExc s.heap C us } (Value.ref (s.heap.objs.size+1) :: us) I2.kIn hl
 rw [List.append_nil] at hb2
 refine M.call I.kIn hus (wpAny_call (codeAny_mono (F.run _ X.stack _ _ ⟨Value.ref (s.heap.objs.size+1) :: us,[]⟩ (Value.ref (s.heap.objs.size+1) :: us) _ _ E (hr.make C us [])
  (I2.env0.make C us []) hb2 r2 hq) fun r s' hq'=>?_))
 cases r with
 | error e=>exact hx pins σ _ _ e s' I2 hq'
 | ok fl =>
  cases fl with
  | ret u =>
   obtain ⟨v,H',I3,rv,ev,q3⟩:=I2.after hq'
   subst ev
   exact ⟨rv,⟨V.ref (s.heap.objs.size+1),H',I3,rfl,q3⟩⟩
  | next=>exact False.elim hq'
  | brk=>exact False.elim hq'
  | cont=>exact False.elim hq'
end
end L2
namespace L2
open PySem PySem.Spec PyProof.Rows PySem.W
structure NoteTo (fr tt:List Addr) (e T:Addr) (fl cls:Value) (d:Option Addr) (h h':Heap):Prop where
 nT:h.get? T=none
 keep:∀ b o,b≠e→b ∉ fr→b ∉ tt→h.get? b=some o→h'.get? b=some o
 slot:∀ b o,b∈fr→h.get? b=some o→∃ sl,h'.get? b=some { o with slots:=sl }
 exc:∃ vs sl,h'.get? e=some ⟨cls,d,.fields vs,sl⟩∧vs[1]?=some (.ref T)
 tb:∃ o ts,h'.get? T=some o∧o.data=.fields ts∧ts[3]?=some fl
 old:∀ t o ts,t∈tt→t≠e→h.get? t=some o→o.data=.fields ts→3 < ts.size→∃ o' ts',h'.get? t=some o'∧o'.data=.fields ts'∧ts'[3]?=some Value.none
section
variable {M:Model} {A:Around} {E:Value→Shared→Prop} {s:Shared} {base:Heap} {env:Env} {outer:List Env} {L e:Addr} {cls:Value} {d:Option Addr} {vs:Array Value} {sl:Array (Option Value)} {Q:Unit→Shared→Prop}
theorem Zgo {head:Value} {hadNext:Bool} (hfr:A.frames=some (env :: outer)) (hl:s.heap.FunFrames base (env :: outer)) (hf:env.frame=some L) (he:s.heap.get? e=some ⟨cls,d,.fields vs,sl⟩) (hsz:1 < vs.size)
    (h:∀ h' T,NoteTo (frs (env :: outer)) [] e T (rawInt L) cls d s.heap h'→Q () { s with heap:=h' }) :
    wpAny M A (do
      let a ← frameOf env
      let pl ← entryPlaceOf L hadNext
      let b ← EntryCells.newEntry head a .none (rawInt L) .none pl
      setField (.ref e) 1 b) Q E s:=by
  have hne:e ∉ frs (env :: outer):=fun hm=>by
    obtain ⟨_,o,ho,hnf⟩:=hl.mem hm
    rw [he] at ho; cases ho; exact hnf vs rfl
  refine wpAny_bind (wpAny_frameOf_fun hfr hl hf fun h₁ hs=>wpAny_bind (wpAny_entryPlaceOf fun pl hpl=>?_))
  unfold EntryCells.newEntry newFields
  refine wpAny_bind (wpAny_newObj_type ?_ (hpl.sizeOk5 _ _ _ _ _))
  have e1:h₁.get? e=some ⟨cls,d,.fields vs,sl⟩:=(hs.2.1 e hne).trans he
  generalize hob:({ cls:=.type "traceback",dict:=none,data:=.fields ([head,.ref L,.none,rawInt L,.none]++(if pl.isEmpty then List.replicate 6 Value.none else pl)).toArray }:Obj)=ob
  have hfb:ob.isFreed=false:=by rw [← hob]; rfl
  have e2:=Heap.get?_push_of_some (h:=h₁) ob e1
  refine wpAny_setField e2 rfl hsz (h _ h₁.objs.size ?_)
  have nTe:h₁.objs.size≠e:=Nat.ne_of_gt (Heap.lt_size e1)
  have kp:∀ b o,b≠e→h₁.get? b=some o→((h₁.push ob).update e (Obj.mapFields (·.setIfInBounds 1 (Value.ref h₁.objs.size)))).get? b=some o:=fun b o nb hb=>by
    rw [Heap.get?_update_other _ _ (Ne.symm nb)]; exact Heap.get?_push_of_some _ hb
  refine ⟨Heap.get?_none_of_le (Nat.le_of_eq hs.1.symm),fun b o nb nf _ hb=>kp b o nb ((hs.2.1 b nf).trans hb),fun b o bf hb=>?_,⟨vs.setIfInBounds 1 (.ref h₁.objs.size),sl,?_,by simp [hsz]⟩,⟨ob,([head,.ref L,.none,rawInt L,.none]++(if pl.isEmpty then List.replicate 6 Value.none else pl)).toArray,?_,by rw [← hob],?_⟩,fun _ _ _ z=>nomatch z⟩
  · obtain ⟨sl',z⟩:=hs.2.2 b o hb
    exact ⟨sl',kp b _ (fun q=>hne (q ▸ bf)) z⟩
  · exact Heap.get?_update_self _ e2 rfl
  · rw [Heap.get?_update_other _ _ (Ne.symm nTe)]; exact Heap.get?_push_size _ hfb
  · simp
theorem note_new (hfr:A.frames=some (env :: outer)) (hl:s.heap.FunFrames base (env :: outer)) (hf:env.frame=some L) (he:s.heap.get? e=some ⟨cls,d,.fields vs,sl⟩) (h1:vs[1]?=some Value.none)
  (h:∀ h' T,NoteTo (frs (env :: outer)) [] e T (rawInt L) cls d s.heap h'→Q () { s with heap:=h' }):wpAny M A (noteFrame (.ref e) env) Q E s:=by
 unfold noteFrame
 simp only [hf]
 refine wpAny_bind (wpAny_field he rfl h1 ?_)
 rw [if_neg (by decide)]
 exact Zgo hfr hl hf he (Array.getElem?_eq_some_iff.mp h1).1 h
theorem note_next {T1:Addr} {oT:Obj} {ts:Array Value} (hfr:A.frames=some (env :: outer)) (hl:s.heap.FunFrames base (env :: outer)) (hf:env.frame=some L) (he:s.heap.get? e=some ⟨cls,d,.fields vs,sl⟩) (h1:vs[1]?=some (.ref T1))
  (hT:s.heap.get? T1=some oT) (hd:oT.data=.fields ts) (h3:ts[3]?=some Value.none) (ne:T1≠e)
  (h:∀ h' T,NoteTo (frs (env :: outer)) [T1] e T (rawInt L) cls d s.heap h'→Q () { s with heap:=h' }):wpAny M A (noteFrame (.ref e) env) Q E s:=by
 unfold noteFrame
 simp only [hf]
 refine wpAny_bind (wpAny_field he rfl h1 ?_)
 rw [if_pos (show (Value.ref T1 != Value.none)=true from by simp)]
 refine wpAny_bind (wpAny_field hT hd h3 ?_)
 rw [if_neg (show ¬ ((Value.none == rawInt L)=true) from by simp [rawInt])]
 have hs3:3 < ts.size:=(Array.getElem?_eq_some_iff.mp h3).1
 refine wpAny_bind (wpAny_setField hT hd hs3 ?_)
 have oth:∀ b,b≠T1→(s.heap.update T1 (Obj.mapFields (·.setIfInBounds 3 Value.none))).get? b=s.heap.get? b:=fun b hb=>Heap.get?_update_other _ _ (Ne.symm hb)
 have nT1:T1 ∉ frs (env :: outer):=fun hm=>by
  obtain ⟨_,o,ho,hnf⟩:=hl.mem hm
  rw [hT] at ho; cases ho; exact hnf ts hd
 have self:(s.heap.update T1 (Obj.mapFields (·.setIfInBounds 3 Value.none))).get? T1=some (Obj.mapFields (·.setIfInBounds 3 Value.none) oT):=Heap.get?_update_self _ hT (Obj.isFreed_of_fields (Obj.data_mapFields hd _))
 refine Zgo (s:={ s with heap:=s.heap.update T1 (Obj.mapFields (·.setIfInBounds 3 Value.none)) }) hfr (hl.of_keeps fun b o hb hnf=>⟨o,(oth b fun q=>?_).trans hb,rfl⟩) hf ((oth e (Ne.symm ne)).trans he) (Array.getElem?_eq_some_iff.mp h1).1 fun h' T n=>h h' T ?_
 ·rw [q,hT] at hb; cases hb; exact hnf ts hd
 ·have nT':s.heap.get? T=none:=by
   by_cases q:T=T1
   ·have:=n.nT; rw [q] at this; rw [self] at this; cases this
   ·rw [← oth T q]; exact n.nT
  refine ⟨nT',fun b o nb nf nt hb=>n.keep b o nb nf (by simp) ((oth b (by simpa using nt)).trans hb),fun b o bf hb=>n.slot b o bf ((oth b fun q=>nT1 (q ▸ bf)).trans hb),n.exc,n.tb,fun t o us ht hte hb hdo hsz=>?_⟩
  obtain rfl:t=T1:=by simpa using ht
  rw [hT] at hb; cases hb
  rw [hd] at hdo; cases hdo
  exact ⟨_,_,n.keep t _ hte nT1 (by simp) self,Obj.data_mapFields hd _,by simp [hs3]⟩
theorem Zgt {T:Addr} {oT:Obj} {ts:Array Value} (he:s.heap.get? e=some ⟨cls,d,.fields vs,sl⟩) (h1:vs[1]?=some (.ref T)) (hT:s.heap.get? T=some oT) (hd:oT.data=.fields ts) (hs3:3 < ts.size)
  (h:∀ h',(∀ b,b≠T→h'.get? b=s.heap.get? b)→(∃ o' ts',h'.get? T=some o'∧o'.data=.fields ts'∧ts'[3]?=some Value.none)→Q () { s with heap:=h' }):wpAny M A (setFlight (.ref e) none) Q E s:=by
 unfold setFlight
 refine wpAny_bind (wpAny_field he rfl h1 ?_)
 rw [if_pos (show (Value.ref T != Value.none)=true from by simp)]
 refine wpAny_setField hT hd hs3 (h _ (fun b hb=>Heap.get?_update_other _ _ (Ne.symm hb)) ⟨_,_,Heap.get?_update_self _ hT (Obj.isFreed_of_fields (Obj.data_mapFields hd _)),Obj.data_mapFields hd _,by simp [hs3]⟩)
end
end L2
namespace L2
open PySem PySem.Spec PyProof.Rows PySem.W
section
variable {prog:Program} {w:World} {A:Around} {E:Value→Shared→Prop} {s:Shared} {K:Frag} {C fI e:Addr} {d:Option Addr} {env:Env}
theorem raise_made {x:Sem Value} {Q:Flow→Shared→Prop} (M:XMk K C fI) (hh:A.handled=none)
  (h:wpAny (model prog w) A x (fun v s₁=>∃ e d vs sl,v=.ref e∧K.In s₁.heap∧s₁.heap.get? e=some ⟨.ref C,d,.fields vs,sl⟩∧vs[1]?=some Value.none∧E (.ref e) s₁) E s) :
  wpAny (model prog w) A (raiseStmt env (some x) none) Q E s:=by
 unfold raiseStmt
 refine wpAny_bind (wpAny_mono h (fun v s₁ h₁=>?_) fun _ _ x=>x)
 obtain ⟨e,d,vs,sl',rfl,X,he,h1,hE⟩:=h₁
 obtain ⟨hp,g,dr,tk,os⟩:=s₁
 have q:=M.ei
 unfold excInI at q
 split at q
 ·rename_i dd cd sl ho
  split at q
  ·rename_i C' bm k0 k1 k2 k3 n k5 hm hs
   simp only [Bool.and_eq_true,beq_iff_eq,Bool.not_eq_true'] at q
   obtain ⟨⟨⟨⟨⟨rfl,rfl⟩,hdel⟩,ht⟩,hok⟩,hni⟩:=q
   obtain ⟨nm,bs,mro,ns,qn,hd,sn,sub,ab,col,del⟩:=cd
   dsimp only at hm hdel hok hni
   subst hm hdel
   have hsl:sl=#[k0,k1,k2,k3,some (.builtin "ValueError.__new__"),k5]:=by
    obtain ⟨l⟩:=sl
    simp only at hs
    rw [hs]
   subst hsl
   have hC:hp.get? C'=some (excClassObj nm qn C' ns bs bm hd sn sub ab col dd k0 k1 k2 k3 k5 "ValueError.__new__"):=X _ _ ho
   have hcB:(Value.ref C' :: bm).contains (.type "BaseException")=true:=by
    rw [List.contains_cons,(tail_of_in X ht).hasType (show vErr.contains (.type "BaseException")=true by decide +kernel)]; exact Bool.or_true _
   repeat (first | with_reducible refine wpAny_field he rfl h1 ?_ | with_reducible refine wpAny_loadPart_at he ?_ | with_reducible refine wpAny_loadPart_at hC ?_ | (with_reducible refine wpAny_isSubtype_exc hC ?_; rw [hcB]) | wp_step)
   exact wpAny_raiseNew_none hh hE
  ·cases q
 ·cases q
end
end L2
namespace L2
open PySem PySem.Spec PyProof.Rows PySem.W
def TbO (T:Addr):HO:=.ext fun h=>∃ o ts,h.get? T=some o∧o.data=.fields ts∧ts[3]?=some Value.none
theorem tbO_ok {P:Program} {w:World} {H:Hp} {h:Heap} {T:Addr} (t:∃ o ts,h.get? T=some o∧o.data=.fields ts∧ts[3]?=some Value.none):ObjOk P w H h T (TbO T) :=
 ⟨t,let ⟨o,_,e,_⟩:=t; ⟨o,e⟩,fun _ _ ⟨o,ts,e,r⟩ k=>⟨o,ts,k _ e,r⟩⟩
def Fresh (H:Hp) (x C:Addr) (d:Option Addr):Prop:=(d=none∧H x=some (ExcN C x))∨∃ dx,d=some dx∧H x=some (ExcO C dx x)
def Flown (H:Hp) (x C:Addr) (d:Option Addr) (T:Addr):Prop:=H x=some (ExcT C d x T)∧H T=some (TbO T)∧T≠x
def thrown (H:Hp) (x C:Addr) (d:Option Addr) (T:Addr):Hp:=upd (upd H T (TbO T)) x (ExcT C d x T)
theorem Zds {H:Hp} {x C T:Addr} {d:Option Addr}:thrown H x C d T x=some (ExcT C d x T):=upd_same
theorem Zev {H:Hp} {x C T:Addr} {d:Option Addr} (n:T≠x):thrown H x C d T T=some (TbO T):=by unfold thrown; rw [Zak n,upd_same]
theorem Zbj {H:Hp} {x C T b:Addr} {d:Option Addr} (n:b≠x) (m:b≠T):thrown H x C d T b=H b:=by unfold thrown; rw [Zak n,Zak m]
section
variable {X:Cx} {pins:List (Addr × Obj)} {σ:St} {H:Hp} {s:Shared} {x C T:Addr} {d:Option Addr} {h1 h2:Heap} {fl:Value} {tt:List Addr}
theorem note_un (I:Inv X pins σ H s) {φ:Heap→Prop} (hx:H x=some (.ext φ)) (htt:∀ t∈tt,H t=some (TbO t)∧t≠x) (n:NoteTo (frs X.stack) tt x T fl (.ref C) d s.heap h1) (k2:∀ b,b≠T→h2.get? b=h1.get? b)
  (t2:∃ o ts,h2.get? T=some o∧o.data=.fields ts∧ts[3]?=some Value.none):H T=none∧T≠x∧Un (frs X.stack) [] H (thrown H x C d T) s.heap h2∧HOk X.prog X.w (thrown H x C d T) h2:=by
 have hT:H T=none:=by
  cases q:H T with
  | none=>rfl
  | some u =>
   obtain ⟨o,ho⟩:=(I.hok T u q).there
   rw [n.nT] at ho; cases ho
 have nTx:T≠x:=fun z=>by rw [z,hx] at hT; cases hT
 have tn:∀ b o,s.heap.get? b=some o→b≠T:=fun b o e z=>by rw [z,n.nT] at e; cases e
 have un:∀ b,H b=none→b≠x:=fun b e z=>by rw [z,hx] at e; cases e
 have ut:∀ b,H b=none→b ∉ tt:=fun b e z=>by rw [(htt b z).1] at e; cases e
 have hb:∀ b u,H b=some u→b≠T:=fun b u e z=>by rw [z,hT] at e; cases e
 have old:∀ t∈tt,∃ o' ts',h2.get? t=some o'∧o'.data=.fields ts'∧ts'[3]?=some Value.none:=fun t ht=>by
  obtain ⟨e,ne⟩:=htt t ht
  obtain ⟨⟨o,ts,e1,e2,e3⟩,_⟩:=(show ObjOk X.prog X.w H s.heap t (TbO t) from I.hok t _ e)
  obtain ⟨o',ts',f1,f2,f3⟩:=n.old t o ts ht ne e1 e2 (Array.getElem?_eq_some_iff.mp e3).1
  exact ⟨o',ts',(k2 t (hb t _ e)).trans f1,f2,f3⟩
 have exc:∃ vs sl,h2.get? x=some ⟨.ref C,d,.fields vs,sl⟩∧vs[1]?=some (.ref T):=by
  obtain ⟨vs,sl,e1,e2⟩:=n.exc
  exact ⟨vs,sl,(k2 x (Ne.symm nTx)).trans e1,e2⟩
 have ne_ext:∀ b u,H b=some u→(∀ ψ,u≠.ext ψ)→b≠x:=fun b u e z q=>by rw [q,hx] at e; cases e; exact z _ rfl
 refine ⟨hT,nTx,⟨fun b o q e nf _=>?_,fun b o q e bf _=>?_,fun b o q e _=>?_,fun b o q _=>?_,fun b xs e=>?_,fun b o u e=>?_,fun b ps e=>⟨#[],?_⟩⟩,fun b u e=>?_⟩
 ·exact (k2 b (tn b o q)).trans (n.keep b o (un b e) nf (ut b e) q)
 ·obtain ⟨sl,z⟩:=n.slot b o bf q
  exact ⟨sl,(k2 b (tn b o q)).trans z⟩
 ·rw [Zbj (un b e) (tn b o q)]; exact e
 ·by_cases z:b=x
  ·obtain ⟨vs,sl,e1,_⟩:=exc; exact ⟨_,z ▸ e1⟩
  ·by_cases zf:b∈frs X.stack
   ·obtain ⟨sl,z⟩:=n.slot b o zf q
    exact ⟨_,(k2 b (tn b o q)).trans z⟩
   ·by_cases zt:b∈tt
    ·obtain ⟨o',_,e1,_⟩:=old b zt; exact ⟨o',e1⟩
    ·exact ⟨o,(k2 b (tn b o q)).trans (n.keep b o z zf zt q)⟩
 ·rw [Zbj (ne_ext b _ e fun ψ z=>by cases z) (hb b _ e)]; exact e
 ·rw [Zbj (ne_ext b _ e fun ψ z=>by cases z) (hb b _ e)]; exact e
 ·rw [Zbj (ne_ext b _ e fun ψ z=>by cases z) (hb b _ e),e]; simp
 ·by_cases z:b=x
  ·subst z; rw [Zds] at e; cases e
   obtain ⟨vs,sl,e1,e2⟩:=exc
   exact excT_ok e1 e2
  ·by_cases zT:b=T
   ·subst zT; rw [Zev nTx] at e; cases e
    exact tbO_ok t2
   ·rw [Zbj z zT] at e
    by_cases zt:b∈tt
    ·rw [(htt b zt).1] at e; cases e
     exact tbO_ok (old b zt)
    ·have own_ne:∀ c,H c=some (.own b)→c≠x∧c≠T:=fun c hc=>⟨ne_ext c _ hc (fun ψ z=>by cases z),hb c _ hc⟩
     refine (I.hok b u e).stay (fun c v hc q=>?_) (fun c q=>?_) fun c xs q=>?_
     ·have hcH:∃ y,H c=some y:=by
       rcases hc with rfl | hc
       ·exact ⟨u,e⟩
       ·exact ⟨_,hc⟩
      obtain ⟨y,hy⟩:=hcH
      refine (k2 c (hb c y hy)).trans (n.keep c v ?_ (fun zf=>by rw [I.stkFree c zf] at hy; cases hy) (fun zt'=>?_) q)
      ·rcases hc with rfl | hc
       ·exact z
       ·exact (own_ne c hc).1
      ·rcases hc with rfl | hc
       ·exact zt zt'
       ·rw [(htt c zt').1] at hc; cases hc
     ·rw [Zbj (own_ne c q).1 (own_ne c q).2]; exact q
     ·rw [Zbj (ne_ext c _ q fun ψ z=>by cases z) (hb c _ q)]; exact q
theorem Zfm {E:Value→Shared→Prop} {Q:Unit→Shared→Prop} (I:Inv X pins σ H s) (hst:X.stack=X.env :: X.outer) (hfr:X.env.frame=some X.env.locals) (hf:Fresh H x C d∨∃ T,Flown H x C d T)
  (h:∀ h' T,H T=none→T≠x→Inv X pins σ (thrown H x C d T) { s with heap:=h' }→Q () { s with heap:=h' }) :
  wpAny (model X.prog X.w) X.A (noteFrame (.ref x) X.env) (fun _ s₂=>wpAny (model X.prog X.w) X.A (setFlight (.ref x) none) Q E s₂) E s:=by
 have fr:X.A.frames=some (X.env :: X.outer):=hst ▸ I.ok.frames
 have ff:s.heap.FunFrames X.base (X.env :: X.outer):=hst ▸ I.stack
 have rest:∀ {φ:Heap→Prop} {tt:List Addr} (hx:H x=some (.ext φ)) (htt:∀ t∈tt,H t=some (TbO t)∧t≠x) (h1:Heap) (T:Addr),NoteTo (frs (X.env :: X.outer)) tt x T (rawInt X.env.locals) (.ref C) d s.heap h1 →
   wpAny (model X.prog X.w) X.A (setFlight (.ref x) none) Q E { s with heap:=h1 }:=fun {φ tt} hx htt h1 T n=>by
  obtain ⟨vs,sl,e1,e2⟩:=n.exc
  obtain ⟨o,ts,f1,f2,f3⟩:=n.tb
  refine Zgt (s:={ s with heap:=h1 }) e1 e2 f1 f2 (Array.getElem?_eq_some_iff.mp f3).1 fun h2 k2 t2=>?_
  obtain ⟨hT,nT,un,ok⟩:=note_un I hx htt (hst ▸ n) k2 t2
  exact h h2 T hT nT (I.call (g':=s.gens) (d':=s.drawn) (t':=s.toks) (ch:=[]) un ok I.bare (fun b z=>absurd z (by simp)))
 rcases hf with (⟨rfl,hx⟩ | ⟨dx,rfl,hx⟩) | ⟨T,hx,hT,ne⟩
 ·obtain ⟨⟨vs,sl,e1,e2⟩,_⟩:=(show ObjOk X.prog X.w H s.heap x (ExcN C x) from I.hok x _ hx)
  exact note_new fr ff hfr e1 e2 fun h1 T n=>rest (tt:=[]) hx (fun t z=>absurd z (by simp)) h1 T n
 ·obtain ⟨⟨vs,sl,e1,e2⟩,_⟩:=(show ObjOk X.prog X.w H s.heap x (ExcO C dx x) from I.hok x _ hx)
  exact note_new fr ff hfr e1 e2 fun h1 T n=>rest (tt:=[]) hx (fun t z=>absurd z (by simp)) h1 T n
 ·obtain ⟨⟨vs,sl,e1,e2⟩,_⟩:=(show ObjOk X.prog X.w H s.heap x (ExcT C d x T) from I.hok x _ hx)
  obtain ⟨⟨o,ts,f1,f2,f3⟩,_⟩:=(show ObjOk X.prog X.w H s.heap T (TbO T) from I.hok T _ hT)
  exact note_next fr ff hfr e1 e2 f1 f2 f3 ne fun h1 T' n=>rest (tt:=[T]) hx (fun t z=>by rw [List.mem_singleton.mp z]; exact ⟨hT,ne⟩) h1 T' n
theorem leave_inv {E:Value→Shared→Prop} {Q:Unit→Shared→Prop} (I:Inv X pins σ H s) (hst:X.stack=X.env :: X.outer) (hfr:X.env.frame=some X.env.locals) (hf:Fresh H x C d∨∃ T,Flown H x C d T)
  (h:∀ h' T,H T=none→T≠x→Inv X pins σ (thrown H x C d T) { s with heap:=h' }→Q () { s with heap:=h' }):wpAny (model X.prog X.w) X.A (leaving X.env (.ref x)) Q E s:=by
 unfold leaving
 exact wpAny_bind (Zfm I hst hfr hf h)
end
end L2
namespace L2
open PySem PySem.Spec PyProof.Rows PySem.W
def CX1 (P:Program) (w:World):CXT:=fun outer H s E e s'=>∃ x T C d H',e=Value.ref x∧s'.os=s.os∧AllBare s'.gens∧Un (frs outer) [] H H' s.heap s'.heap∧HOk P w H' s'.heap∧Flown H' x C d T∧E (.ref x) d H'
def XeOk (X:Cx) (E:XK):Prop:=∀ (pins:List (Addr × Obj)) (σ:St) (H:Hp) (s:Shared) (x C:Addr) (d:Option Addr),Inv X pins σ H s→(Fresh H x C d∨∃ T,Flown H x C d T) →
 (∀ T,H T=none→T≠x→E (.ref x) d (thrown H x C d T))→X.xe (.ref x) s
section
variable {P:Program} {w:World} {K:PySem.W.Frag} {mg:Str→Option Value} {base:Heap} {N:List Str} {qual:Str} {scope:Scope} {f:Addr} {cd:Value} {A:Around} {outer:List Env} {s:Shared} {H:Hp} {E E₁:XK}
theorem Ze2:XeOk (cxOf (CX1 P w) P w K mg base N qual scope f cd A outer s H E) E:=by
 intro pins σ H1 s1 x C d I hf hE
 exact leave_inv I rfl rfl hf fun h' T hT nT I'=>⟨x,T,C,d,_,rfl,I'.os,I'.bare,I'.base,I'.hok,⟨Zds,Zev nT,nT⟩,hE T hT nT⟩
theorem own_cx:PassesOwn (model (cxOf (CX1 P w) P w K mg base N qual scope f cd A outer s H E).prog (cxOf (CX1 P w) P w K mg base N qual scope f cd A outer s H E).w) (cxOf (CX1 P w) P w K mg base N qual scope f cd A outer s H E).A (cxOf (CX1 P w) P w K mg base N qual scope f cd A outer s H E).env (cxOf (CX1 P w) P w K mg base N qual scope f cd A outer s H E).xe:=PassesOwn.leaving
end
section
variable {X:Cx} {E E₁:XK}
theorem pass_x (hX:XeOk X E) (h:∀ x C d T T2 H',E₁ (.ref x) d H'→Flown H' x C d T→H' T2=none→T2≠x→E (.ref x) d (thrown H' x C d T2)):Passes (CX1 X.prog X.w) X E₁:=by
 rintro pins σ H s e s' I ⟨x,T,C,d,H',rfl,os,bare,un,hok,fl,q⟩
 obtain ⟨hh,g,dr,t,os'⟩:=s'
 obtain rfl:os'=s.os:=os
 exact hX pins σ H' _ x C d (I.call (h':=hh) (g':=g) (d':=dr) (t':=t) (ch:=[]) un hok bare (fun b z=>absurd z (by simp))) (.inr ⟨T,fl⟩) fun T2 h2 n2=>h x C d T T2 H' q fl h2 n2
end
theorem Fun.okx {P:Program} {w:World} {K:PySem.W.Frag} {mg:Str→Option Value} {base:Heap} {x qual:Str} {st:Stmt} {f:Addr} {fd:FuncData} {N ps:List Str} {k:Nat} {sp:Sp} (F:Fun K x qual st f fd) (S:Zap N ps (Zad st)) (len:∀ vs H Q E,sp vs H Q E→vs.length=ps.length)
  (hbody:∀ (cdv:Value) (A:Around) (outer:List Env) (s:Shared) (H:Hp) (vs:List V) (Q:VK) (E:XK),Room k (A.deeper (envOfC qual (Zad st) s.heap.objs.size f cdv))→sp vs H Q E →
   ∃ t,PSs (cxOf (CX1 P w) P w K mg base N qual (Zad st) f cdv A outer s H E) (Zaj st) t∧t { nx:=fun _ H'=>Q .non H',rt:=Q } (start N vs) H):FnOk P w K mg base (CX1 P w) (k+1) f fd ps sp:=by
 obtain ⟨oc,od,kV,doc,pm,an,cdv,ct,osl,rfl,lk,hcd⟩:=F.ex
 exact fn_of lk hcd S len fun A outer s H vs Q E hr hsp=>hbody cdv A outer s H vs Q E hr hsp
structure DefOkX (P:Program) (w:World) (K:PySem.W.Frag) (mg:Str→Option Value) (base:Heap) (k:Nat) (x:Str) (ps:List Str) (sp:Sp):Prop where
 ex:∃ (f:Addr) (fd:FuncData),FnOk P w K mg base (CX1 P w) k f fd ps sp∧mg x=some (.ref f)∧PySem.W.keepIn K (.ref f)=true∧Binds K fd ps []
def sRaise (C:Addr) (names:List Str) (E:XK) (t:TA):TS:=fun _ σ H=>t σ H fun vs H1=>vs.length=names.length ∧
 ∀ y dx T H2,H1 y=none→Same H1 H2→H2 y=some (ExcO C dx y)→H2 dx=some (ExcD dx (names.zip vs))→dx≠y→H2 T=none→T≠y→E (.ref y) (some dx) (thrown H2 y C (some dx) T)
section
variable {X:Cx} {k j:Nat} {x:Str} {C:Addr} {ps names:List Str} {sp:Sp} {p pos cpos:Pos} {e:Expr} {es:List Expr} {t:TA} {E E₁:XK}
theorem pe_fnx (D:DefOkX X.prog X.w X.K X.mg X.base k x ps sp) (hr:Room j X.A) (hx:Passes (CX1 X.prog X.w) X E₁) (ha:PA X (e :: es) t) (hj:k≤j:=by decide) (hg:Gl X x:=by rfl) (hdb:(x == ("__debug__":Str))=false:=by decide)
  (he:starEach (e :: es) X.env=(false,eval e X.env) :: starEach es X.env:=by rfl) (hpl:(backTo pos (starEach es X.env)).any (·.1)=false:=by rfl):PE X (.Call (.Name x p) (e :: es) [] pos) (tCall sp [] E₁ t):=by
 obtain ⟨f,fd,F,hm,hk,hb⟩:=D.ex
 exact pe_call F (hr.mono hj) hg hm hk hb .nil hx ha hdb he hpl
theorem Zez (hX:XeOk X E) (D:XMkOk X.prog X.w X.K X.mg X.base k x C ps names) (hr:Room j X.A) (ha:PA X (e :: es) t) (hc:X.calm=true:=by rfl) (hj:k+1≤j:=by decide) (hg:Gl X x:=by rfl) (hdb:(x == ("__debug__":Str))=false:=by decide)
  (he:starEach (e :: es) X.env=(false,eval e X.env) :: starEach es X.env:=by rfl) (hpl:(backTo cpos (starEach es X.env)).any (·.1)=false:=by rfl):PS X (.Raise (some (.Call (.Name x p) (e :: es) [] cpos)) none pos) (sRaise C names E t):=by
 intro pins s σ H Dd I h
 obtain ⟨f,fd,M,F,hm,hb⟩:=D.ex
 have pe:wpAny (model X.prog X.w) X.A (eval (.Call (.Name x p) (e :: es) [] cpos) X.env) (EP X pins σ fun v H2=>∃ y d,v=V.ref y∧Fresh H2 y C d∧∀ T,H2 T=none→T≠y→E (.ref y) d (thrown H2 y C d T)) X.xe s:=by
  refine wpAny_Call_Name_kw (Zek I hg hm ?_ hdb)
  refine PySem.W.callWith_K (h₀:=X.base) I.ok.mod.kin M.kp (thn (ha cpos pins s σ H _ I h) fun us s1 ⟨vs,H1,I1,r,hl,q⟩=>⟨I1.kIn,?_⟩) he hpl
  refine run_xmk M F (hr.mono hj) hb pass0 I1 r (hl ▸ D.few) fun y hy=>⟨y,vs,rfl,hl,upd_same,fun d H' hd h1 h2 hs=>⟨rfl,y,some d,rfl,.inr ⟨d,rfl,h1⟩,fun T hT nT=>?_⟩⟩
  refine q y d T H' hy (fun a o ho=>hs a o (Zag ho hy) ?_) h1 h2 (fun z=>by rw [z,upd_same] at hd; cases hd) hT nT
  rw [Zak (Zag ho hy)]; exact ho
 rw [arm_exec_Raise]
 simp only [evalOpt,Option.map]
 refine wpAny_bind (wpAny_standAt (raise_made M (I.ok.hd hc) ?_))
 refine wpAny_bind (thn pe fun v s1 ⟨u,H2,I2,r,y,d,ey,fr,hE⟩=>wpAny_bind (wpAny_standAt (wpAny_pure ?_)))
 subst ey
 obtain rfl:v=Value.ref y:=r
 have ob:∃ vs sl,s1.heap.get? y=some ⟨.ref C,d,.fields vs,sl⟩∧vs[1]?=some Value.none:=by
  rcases fr with ⟨rfl,hx⟩ | ⟨dx,rfl,hx⟩
  ·exact (show ObjOk X.prog X.w H2 s1.heap y (ExcN C y) from I2.hok y _ hx).1
  ·exact (show ObjOk X.prog X.w H2 s1.heap y (ExcO C dx y) from I2.hok y _ hx).1
 obtain ⟨vs,sl,e1,e2⟩:=ob
 exact ⟨y,d,vs,sl,rfl,I2.kIn,e1,e2,hX pins σ H2 s1 y C d I2 (.inl fr) hE⟩
end
def Zfx:Nat→Heap
 | 0=>{}
 | n+1=>(Zfx n).push { cls:=.type "dict",data:=.dict #[] }
theorem Zes:∀ n,(Zfx n).objs.size=n
 | 0=>rfl
 | n+1=>by rw [Zfx,Heap.size_push,Zes n]
theorem excT_inj {C C' x T T':Addr} {d d':Option Addr} (h:ExcT C d x T=ExcT C' d' x T'):C=C'∧d=d'∧T=T':=by
 have h:(HO.ext fun h=>∃ vs sl,h.get? x=some ⟨.ref C,d,.fields vs,sl⟩∧vs[1]?=some (.ref T))=HO.ext fun h=>∃ vs sl,h.get? x=some ⟨.ref C',d',.fields vs,sl⟩∧vs[1]?=some (.ref T'):=h
 injection h with h
 have e:=congrFun h ((Zfx x).push ⟨.ref C,d,.fields #[.none,.ref T],#[]⟩)
 have g:((Zfx x).push ⟨.ref C,d,.fields #[.none,.ref T],#[]⟩).get? x=some ⟨.ref C,d,.fields #[.none,.ref T],#[]⟩:=Heap.get?_push_at (Zes x).symm rfl
 have q:=e.mp ⟨_,_,g,rfl⟩
 obtain ⟨vs,sl,e1,e2⟩:=q
 rw [g] at e1
 cases e1
 cases e2
 exact ⟨rfl,rfl,rfl⟩
def XR (H:Hp) (x C:Addr) (d:Option Addr) (fs:List (Str × V)):Prop:=(∃ dx,d=some dx∧dx≠x∧H dx=some (ExcD dx fs))∧∃ T,H x=some (ExcT C d x T)
theorem xr_new {H1 H2:Hp} {y C dx T:Addr} {fs:List (Str × V)} (hy:H1 y=none) (s:Same H1 H2) (e:H2 y=some (ExcO C dx y)) (ed:H2 dx=some (ExcD dx fs)) (hT:H2 T=none) (nd:dx≠y) :
  XR (thrown H2 y C (some dx) T) y C (some dx) fs∧Same H1 (thrown H2 y C (some dx) T) :=
 ⟨⟨⟨dx,rfl,nd,by rw [Zbj nd (Zag ed hT)]; exact ed⟩,T,Zds⟩,fun a o ho=>by rw [Zbj (Zag ho hy) (Zag (s a o ho) hT)]; exact s a o ho⟩
theorem xr_on {H H1:Hp} {x C C':Addr} {d:Option Addr} {T T2:Addr} {fs:List (Str × V)} (hx:H1 x=none) (s:Same H1 H) (r:XR H x C d fs) (fl:Flown H x C' d T) (hT:H T2=none) :
  C=C'∧XR (thrown H x C' d T2) x C d fs∧Same H1 (thrown H x C' d T2):=by
 obtain ⟨⟨dx,rfl,nd,ed⟩,T',e⟩:=r
 have q:C=C':=by
  have:=fl.1
  rw [e] at this
  exact (excT_inj (Option.some.inj this)).1
 subst q
 exact ⟨rfl,⟨⟨dx,rfl,nd,by rw [Zbj nd (Zag ed hT)]; exact ed⟩,T2,Zds⟩,fun a o ho=>by rw [Zbj (Zag ho hx) (Zag (s a o ho) hT)]; exact s a o ho⟩
def Rf (H:Hp) (E:XK) (C:Addr) (P:List (Str × V)→Hp→Prop):Prop:=∀ x d fs H',H x=none→Same H H'→XR H' x C (some d) fs→P fs H'→E (.ref x) (some d) H'
theorem Rf.raise {H H1 H2:Hp} {E:XK} {C y dx T:Addr} {P:List (Str × V)→Hp→Prop} {fs:List (Str × V)} (r:Rf H E C P) (s1:Same H H1) (hy:H1 y=none) (s:Same H1 H2) (e:H2 y=some (ExcO C dx y)) (ed:H2 dx=some (ExcD dx fs)) (nd:dx≠y)
  (hT:H2 T=none) (p:P fs (thrown H2 y C (some dx) T)):E (.ref y) (some dx) (thrown H2 y C (some dx) T):=by
 obtain ⟨a,b⟩:=xr_new hy s e ed hT nd
 have hy0:H y=none:=by
  cases q:H y with
  | none=>rfl
  | some o=>rw [s1 y o q] at hy; cases hy
 exact r y dx fs _ hy0 (s1.trans b) a p
def XE (H:Hp) (R:Addr→List (Str × V)→Hp→Prop):XK:=fun v d H'=>∃ x C dx fs,v=.ref x∧d=some dx∧H x=none∧Same H H'∧XR H' x C (some dx) fs∧R C fs H'
theorem XE.rf {H:Hp} {R:Addr→List (Str × V)→Hp→Prop} {C:Addr} {P:List (Str × V)→Hp→Prop} (h:∀ fs H',P fs H'→R C fs H'):Rf H (XE H R) C P:=fun x d fs H' hx s r p=>⟨x,C,d,fs,rfl,rfl,hx,s,r,h fs H' p⟩
theorem XE.on {H H0:Hp} {R:Addr→List (Str × V)→Hp→Prop} {E:XK} (s0:Same H0 H) (st:∀ C fs H' x C' d T2,R C fs H'→(∃ φ,H' x=some (.ext φ))→H' T2=none→R C fs (thrown H' x C' d T2)) (hE:∀ C,Rf H0 E C (R C)) :
  ∀ x C d T T2 H',XE H R (.ref x) d H'→Flown H' x C d T→H' T2=none→T2≠x→E (.ref x) d (thrown H' x C d T2):=by
 rintro x C d T T2 H' ⟨x',C',dx,fs,ev,rfl,hx,s,r,p⟩ fl hT2 nT2
 obtain rfl:x=x':=Value.ref.inj ev
 have hx0:H0 x=none:=by
  cases q:H0 x with
  | none=>rfl
  | some o=>rw [s0 x o q] at hx; cases hx
 obtain ⟨rfl,r2,s2⟩:=xr_on hx s r fl hT2
 exact hE C' x dx fs _ hx0 (s0.trans s2) r2 (st C' fs H' x C' (some dx) T2 p ⟨_,fl.1⟩ hT2)
def Stb (P:List (Str × V)→Hp→Prop):Prop:=∀ fs H' x C' d T2,P fs H'→(∃ φ,H' x=some (.ext φ))→H' T2=none→P fs (thrown H' x C' d T2)
theorem stb_eq {l:List (Str × V)}:Stb fun fs _=>fs=l:=fun _ _ _ _ _ _ p _ _=>p
def RU (H:Hp) (E:XK):Addr→List (Str × V)→Hp→Prop:=fun C fs H'=>∃ P,Rf H E C P∧P fs H'∧Stb P
theorem pass_u {H:Hp} {E:XK}:∀ x C d T T2 H',XE H (RU H E) (.ref x) d H'→Flown H' x C d T→H' T2=none→T2≠x→E (.ref x) d (thrown H' x C d T2) :=
 XE.on (Same.refl H) (fun C fs H' x C' d T2 ⟨P,r,p,st⟩ hx hT=>⟨P,r,st fs H' x C' d T2 p hx hT,st⟩) fun C x d fs H' hx s r ⟨P,rf,p,_⟩=>rf x d fs H' hx s r p
theorem rf_u {H H2:Hp} {E:XK} {C:Addr} {P:List (Str × V)→Hp→Prop} (s:Same H H2) (r:Rf H E C P) (st:Stb P):Rf H2 (XE H (RU H E)) C P:=fun x d fs H' hx s2 xr p=>by
 have hx0:H x=none:=by
  cases q:H x with
  | none=>rfl
  | some o=>rw [s x o q] at hx; cases hx
 exact ⟨x,C,d,fs,rfl,rfl,hx0,s.trans s2,xr,P,r,p,st⟩
end L2
namespace L2
open PySem PySem.Spec PyProof.Rows PySem.W
section
variable {X:Cx} {pins:List (Addr × Obj)} {σ:St} {H:Hp} {s:Shared}
theorem Zhv {M:Model} {A:Around} {E:Value→Shared→Prop} {i:Nat} {n:Str} {pos:Pos} {Q:Unit→Shared→Prop} (I:Inv X pins σ H s) (hN:X.N.Nodup) (hi:X.N[i]?=some n) (hk:X.env.scope.names.lookup n=some .local)
    (h:∀ s',Inv X pins (σ.set i none) H s'→Q () s'):wpAny M A (do bindName X.env n .none; unbindBehindTheSuite X.env n pos) Q E s:=by
  obtain ⟨m,hn,hl⟩:=id I.loc
  have hcls:(X.env.scope.kind == .class || (X.env.scope.kind == .module && X.env.locals != X.env.globals))=false:=by rw [I.ok.kind]; rfl
  have hiσ:i < σ.length:=by rw [I.len]; exact (List.getElem?_eq_some_iff.mp hi).1
  refine wpAny_nameGoes_keeps hk hn hcls fun h' v hn' hs=>h _ ?_
  have nl:∀ b o,X.s₀.heap.get? b=some o→b≠X.env.locals:=fun b o e=>Nat.ne_of_lt (Nat.lt_of_lt_of_le (Heap.lt_size e) I.ok.above)
  refine ⟨I.ok,I.os,I.bare,⟨fun b o e z hb hx=>(hs.2 b (nl b o e)).trans (I.base.keep b o e z hb hx),fun b o e z hb hx=>?_,I.base.free,fun b o e hx=>?_,I.base.tups,I.base.frzs,I.base.tbls⟩,⟨_,hn',fun j y v' e1 e2 e3=>?_⟩,fun y c e=>?_,I.free,I.freeC,fun p hp=>?_,fun b ob e=>?_,by simpa using I.len⟩
  · obtain ⟨sl,e1⟩:=I.base.slot b o e z hb hx
    exact ⟨sl,(hs.2 b (nl b o e)).trans e1⟩
  · obtain ⟨o',e1⟩:=I.base.there b o e hx
    exact ⟨o',(hs.2 b (nl b o e)).trans e1⟩
  · by_cases hj:j=i
    · subst hj
      rw [List.getElem?_set_self hiσ] at e2
      cases e2
    · rw [List.getElem?_set_ne (Ne.symm hj)] at e2
      obtain ⟨u',r',q⟩:=hl j y v' e1 e2 e3
      refine ⟨u',r',?_⟩
      rcases q with ⟨k,e⟩ | ⟨k,c,e,z⟩
      · have ny:y≠n:=fun e=>hj (Zhp hN e1 (e ▸ hi))
        exact .inl ⟨k,by simp [ny,e]⟩
      · exact .inr ⟨k,c,e,z.sameBut hs (I.cne y c e)⟩
  · obtain ⟨w',z⟩:=I.cell y c e
    exact ⟨w',z.sameBut hs (I.cne y c e)⟩
  · obtain ⟨e,z,ne,nf,d⟩:=I.pin p hp
    exact ⟨(hs.2 p.1 ne).trans e,z,ne,nf,d⟩
  · refine (I.hok b ob e).stay (fun c w' hc q=>(hs.2 c ?_).trans q) (fun _ q=>q) fun _ _ q=>q
    rintro rfl
    rcases hc with hc | hc
    · rw [← hc,I.free] at e; cases e
    · rw [I.free] at hc; cases hc
abbrev Cx.suite (X:Cx) (x:Addr):Cx:={ X with A:=X.A.mark (some (.ref x)),calm:=false,xe:=fun _ _=>False }
theorem Inv.suite (I:Inv X pins σ H s) (x:Addr):Inv (X.suite x) pins σ H s :=
 ⟨⟨I.ok.mod,I.ok.kind,I.ok.glob,I.ok.blt,I.ok.above,I.ok.inj,I.ok.has,I.ok.cab,(fun z=>nomatch z),I.ok.frames,I.ok.stk,I.ok.exf,I.ok.bs,I.ok.bsz,I.ok.noex,I.ok.exfs,I.ok.funs,I.ok.frf⟩,I.os,I.bare,I.base,I.loc,I.cell,I.free,I.freeC,I.pin,I.hok,I.len⟩
theorem Inv.unsuite {ok:X.Ok} {x:Addr} (I:Inv (X.suite x) pins σ H s):Inv X pins σ H s :=
 ⟨ok,I.os,I.bare,I.base,I.loc,I.cell,I.free,I.freeC,I.pin,I.hok,I.len⟩
end
end L2
namespace L2
open PySem PySem.Spec PyProof.Rows PySem.W
def PX (X:Cx) (e:Expr) (t:TE) (E:XK):Prop:=∀ (pins:List (Addr × Obj)) (s:Shared) (σ:St) (H:Hp) (Q:VK) (Ex:Value→Shared→Prop),Inv X pins σ H s→t σ H Q →
 (∀ x T C d H' s',Inv X pins σ H' s'→Flown H' x C d T→E (.ref x) d H'→Ex (.ref x) s')→wpAny (model X.prog X.w) X.A (eval e X.env) (EP X pins σ Q) Ex s
section
variable {X:Cx} {k j:Nat} {x:Str} {C:Addr} {ps:List Str} {sp:Sp} {p pos:Pos} {e:Expr} {es:List Expr} {t:TA} {E:XK}
theorem px_fn (D:DefOkX X.prog X.w X.K X.mg X.base k x ps sp) (hr:Room j X.A) (ha:PA X.nox (e :: es) t) (hj:k≤j:=by decide) (hg:Gl X x:=by rfl) (hdb:(x == ("__debug__":Str))=false:=by decide)
  (he:starEach (e :: es) X.env=(false,eval e X.env) :: starEach es X.env:=by rfl) (hpl:(backTo pos (starEach es X.env)).any (·.1)=false:=by rfl):PX X (.Call (.Name x p) (e :: es) [] pos) (tCall sp [] E t) E:=by
 obtain ⟨f,fd,F,hm,hk,hb⟩:=D.ex
 intro pins s σ H Q Ex I h hx
 refine wpAny_Call_Name_kw (Zek I hg hm ?_ hdb)
 refine PySem.W.callWith_K (h₀:=X.base) I.ok.mod.kin hk (wpAny_mono (ha pos pins s σ H _ (I.wish _) h) (fun us s1 ⟨vs,H1,I1',r,q⟩=>⟨I1'.unwish.kIn,?_⟩) fun _ _ z=>False.elim z) he hpl
 have I1:Inv X pins σ H1 s1:=I1'.unwish
 have q:sp (vs++[]) H1 Q E:=q
 rw [List.append_nil] at q
 have hl:us.length=ps.length:=by rw [← r.length]; exact F.len _ _ _ _ q
 have hb2:=hb s1 us I1.kIn (by rw [List.append_nil]; exact hl)
 rw [List.append_nil] at hb2
 refine wpAny_call (codeAny_mono (F.run X.A X.stack s1 H1 ⟨us,[]⟩ us vs Q E (hr.mono hj) I1.env0 hb2 r q) fun r s' hq=>?_)
 cases r with
 | error e =>
  obtain ⟨x,T,C,d,H',rfl,os,bare,un,hok,fl,q'⟩:=hq
  exact hx x T C d H' s' (I1.call' (ch:=[]) os un hok bare (fun b z=>absurd z (by simp))) fl q'
 | ok fl =>
  cases fl with
  | ret u=>exact I1.after hq
  | next=>exact False.elim hq
  | brk=>exact False.elim hq
  | cont=>exact False.elim hq
end
theorem match_sub {M:Model} {A:Around} {E:Value→Shared→Prop} {s:Shared} {K:Frag} {G C e:Addr} {d:Option Addr} {dt:Data} {sl':Array (Option Value)} {Q:Bool→Shared→Prop} (X:K.In s.heap) (hG:PySem.W.excIn K G vErr "ValueError.__new__"=true)
  (he:s.heap.get? e=some ⟨.ref C,d,dt,sl'⟩) (hs:mroIn K C (.ref G)=some true) (h:Q true s):wpAny M A (excMatches (.ref e) (.ref G)) Q E s:=by
 have LS:=looks_mroIn (M:=M) X hs
 obtain ⟨hp,g,dr,tk,os⟩:=s
 have q:=hG
 unfold PySem.W.excIn at q
 split at q
 ·rename_i dd cd sl ho
  split at q
  ·rename_i C' bm k0 k1 k2 k3 n k5 hm hs
   simp only [Bool.and_eq_true,beq_iff_eq,Bool.not_eq_true'] at q
   obtain ⟨⟨⟨⟨⟨rfl,rfl⟩,hdel⟩,ht⟩,hok⟩,hni⟩:=q
   obtain ⟨nm,bs,mro,ns,qn,hd,sn,sub,ab,col,del⟩:=cd
   dsimp only at hm hdel hok hni
   subst hm hdel
   have hsl:sl=#[k0,k1,k2,k3,some (.builtin "ValueError.__new__"),k5]:=by
    obtain ⟨l⟩:=sl
    simp only at hs
    rw [hs]
   subst hsl
   have hC:hp.get? C'=some (excClassObj nm qn C' ns bs bm hd sn sub ab col dd k0 k1 k2 k3 k5 "ValueError.__new__"):=X _ _ ho
   have hcB:(Value.ref C' :: bm).contains (.type "BaseException")=true:=by
    rw [List.contains_cons,(tail_of_in X ht).hasType (show vErr.contains (.type "BaseException")=true by decide +kernel)]; exact Bool.or_true _
   have f:=tc_notTuple
   unfold excMatches
   repeat (first | with_reducible refine wpAny_loadPart_at he ?_ | with_reducible refine wpAny_loadPart_at hC ?_ | (with_reducible refine wpAny_isSubtype_exc hC ?_; rw [hcB]) | (with_reducible refine LS.at ?_) | wp_step)
   exact h
  ·cases q
 ·cases q
def goneD (im:Nat) (D:Ends):Ends:={ nx:=fun σ H=>D.nx (σ.set im none) H,rt:=D.rt,bk:=fun σ H=>D.bk (σ.set im none) H,ct:=fun σ H=>D.ct (σ.set im none) H }
def sTry (K:Frag) (i im:Nat) (G:Addr) (te:XK→TE) (ts:TS):TS:=fun D σ H=>∃ E₁:XK,te E₁ σ H (fun v H1=>D.nx (σ.set i (some v)) H1) ∧
 ∀ x C d T T2 H',E₁ (.ref x) d H'→Flown H' x C d T→H' T2=none→T2≠x→mroIn K C (.ref G)=some true∧ts (goneD im D) (σ.set im (some (.ref x))) (thrown H' x C d T2)
section
variable {X:Cx} {i im:Nat} {n m g:Str} {G:Addr} {value:Expr} {b₀:Stmt} {suite:List Stmt} {np apos gp hpos pos:Pos} {te:XK→TE} {ts:TS}
theorem ps_tryset (hN:X.N.Nodup) (hi:X.N[i]?=some n) (hx:Loc X.env.scope n) (him:X.N[im]?=some m) (hm:X.env.scope.names.lookup m=some .local) (he:∀ E,PX X value (te E) E) (hgl:Gl X g) (hg:X.mg g=some (.ref G))
    (hG:PySem.W.excIn X.K G vErr "ValueError.__new__"=true) (hst:X.stack=X.env :: X.outer) (hfr:X.env.frame=some X.env.locals) (hs:∀ x,PSs (X.suite x) (b₀ :: suite) ts)
    (hsw:swapsWith value (some (.Name n np)) apos.line X.env=pure false:=by rfl) (hf:X.fn n=true∨X.env.scope.names.lookup n=some .local:=by first | exact .inl rfl | exact .inr rfl | assumption) (hdb:(g == ("__debug__":Str))=false:=by decide) :
    PS X (.Try [.Assign [.Name n np] value apos] [.ExceptHandler (some (.Name g gp)) (some m) (b₀ :: suite) hpos] [] [] pos) (sTry X.K i im G te ts):=by
  intro pins s σ H D I ⟨E₁,h,hh⟩
  rw [arm_exec_Try]
  refine wpAny_bind (wpAny_standAt (wpAny_tryStmt_except ?_))
  refine wpAny_execs_cons (wpAny_Assign_Name (thn (he E₁ pins s σ H _ _ I h fun x T C d H' s' I' fl q=>?_) fun v s1 ⟨y,H1,I1,r1,q1⟩=>?_) hsw)
  · refine Zfm I' hst hfr (.inr ⟨T,fl⟩) fun h' T2 hT2 nT2 I2=>?_
    obtain ⟨hsub,hts⟩:=hh x C d T T2 H' q fl hT2 nT2
    have fl2:Flown (thrown H' x C d T2) x C d T2:=⟨Zds,Zev nT2,nT2⟩
    obtain ⟨⟨vs,sl,e1,e2⟩,_⟩:=(show ObjOk X.prog X.w (thrown H' x C d T2) h' x (ExcT C d x T2) from I2.hok x _ fl2.1)
    obtain ⟨⟨o,tv,f1,f2,f3⟩,_⟩:=(show ObjOk X.prog X.w (thrown H' x C d T2) h' T2 (TbO T2) from I2.hok T2 _ fl2.2.1)
    refine wpAny_handleBy_cons (codeAny_handlers_test (Zek (X:=X.suite x) (I2.suite x) hgl hg (match_sub I2.kIn hG e1 hsub ?_) hdb)) (by intro z; cases z)
    show codeAny _ _ _ _ _
    refine codeAny_handlers_suite_as (Zgt e1 e2 f1 f2 (Array.getElem?_eq_some_iff.mp f3).1 fun h3 k3 t3=>?_)
    have same:upd (thrown H' x C d T2) T2 (TbO T2)=thrown H' x C d T2:=funext fun b=>by
      by_cases z:b=T2
      · rw [z,upd_same,Zev nT2]
      · rw [Zak z]
    have I3:Inv X pins σ (thrown H' x C d T2) { s' with heap:=h3 }:=by
      have:=I2.write (x:=T2) (e:=T2) (h':=h3) (o:=TbO T2) (t':=s'.toks) (by rw [fl2.2.1]; exact True.intro) (.inl rfl) (fun b u nb z=>(k3 b nb).trans z) (let ⟨o,_,e,_⟩:=t3; ⟨o,e⟩) (tbO_ok t3)
      rw [same] at this
      exact this
    refine Zew (X:=X.suite x) (I3.suite x) hN him (.inl hm) (v:=.ref x) rfl (fun s4 I4=>?_) (.inr hm)
    refine wpAny_mono (hs x pins s4 _ _ (goneD im D) I4 hts) (fun fl s5 q5=>?_) fun _ _ z=>False.elim z
    show wpAny (model X.prog X.w) X.A (do bindName X.env m .none; unbindBehindTheSuite X.env m hpos) (fun _ s₃=>SP X pins D fl s₃) X.xe s5
    cases fl with
    | next=>obtain ⟨σ',H5,I5,q⟩:=q5; exact Zhv (I5.unsuite (ok:=I.ok)) hN him hm fun s6 I6=>⟨_,H5,I6,q⟩
    | brk=>obtain ⟨σ',H5,I5,q⟩:=q5; exact Zhv (I5.unsuite (ok:=I.ok)) hN him hm fun s6 I6=>⟨_,H5,I6,q⟩
    | cont=>obtain ⟨σ',H5,I5,q⟩:=q5; exact Zhv (I5.unsuite (ok:=I.ok)) hN him hm fun s6 I6=>⟨_,H5,I6,q⟩
    | ret u=>obtain ⟨v,σ',H5,I5,r,q⟩:=q5; exact Zhv (I5.unsuite (ok:=I.ok)) hN him hm fun s6 I6=>⟨v,_,H5,I6,r,q⟩
  · exact Zew I1 hN hi hx r1 (fun s2 I2=>wpAny_execs_nil (wpAny_execs_nil ⟨_,H1,I2,q1⟩)) hf
end
end L2
namespace L2
open PySem PySem.Spec PyProof.Rows
def tCompF (wi:TI) (g:TG) (tc:TT) (te:TE) (fr:List (Option Nat)):TE:=fun σ H Q=>wi σ H fun J H1=>∀ acc,H1 acc=none→∃ W:Nat→Nat→St→Hp→Prop,(∃ m,W 0 m (stC fr σ) (upd H1 acc (.lst [])))∧∀ i m σ1 H2,W i m σ1 H2 →
 (J.stop i H2∧Q (.ref acc) H2)∨(J.go i H2∧∀ x H3,J.yld i H2 x H3→g x σ1 H3 fun σ4 H4=>tc σ4 H4 fun b Hb=>match b with
  | true=>te σ4 Hb fun v H5=>∃ xs,H5 acc=some (.lst xs)∧xs.length < sizeLine∧∃ m',m' < m∧W (i+1) m' σ4 (upd H5 acc (.lst (xs++[v])))
  | false=>∃ m',m' < m∧W (i+1) m' σ4 Hb)
section
variable {prog:Program} {w:World} {A:Around} {R:Result→Shared→Prop} {s:Shared}
theorem Zh6 {elt target iter cnd:Expr} {scope:Scope} {pos:Pos} {it acc:Value} {env:Env} (I:Nat→Shared→Prop)
    (turn:∀ n s,I n s→wpAny (model prog w) A (pyNext it) (fun r s₁=>match r with
      | none=>R (.ok .next) s₁
      | some v=>wpAny (model prog w) A (letOwnedTupleGo target it v) (fun _ s₁=>wpAny (model prog w) A (assign target env v) (fun _ s₂ =>
          wpAny (model prog w) A (forIn [cnd] true fun c r=>if r=true then do let ok ← isTrue c env (eval c env); pure (ForInStep.yield ok) else pure (ForInStep.yield r)) (fun ok s₃ =>
            if ok=true then wpAny (model prog w) A (eval elt env) (fun x s₄=>wpAny (model prog w) A (call (.builtin "list.append") [acc,x]) (fun _ s₅=>∃ m,m < n∧I m s₅) (notedBy (model prog w) A env fun e s'=>R (.error e) s') s₄)
              (notedBy (model prog w) A env fun e s'=>R (.error e) s') s₃
            else ∃ m,m < n∧I m s₃) (notedBy (model prog w) A env fun e s'=>R (.error e) s') s₂)
          (notedBy (model prog w) A env fun e s'=>R (.error e) s') s₁) (notedBy (model prog w) A env fun e s'=>R (.error e) s') s₁) (notedBy (model prog w) A env fun e s'=>R (.error e) s') s)
    (n:Nat) (h:I n s) :
    codeAny (model prog w) A (.compLoop (.ListComp elt [⟨target,iter,[cnd],0⟩] scope pos) 0 it acc env) R s:=by
  refine codeAny_loop rfl I (fun n s hI=>?_) n h
  show wpAny _ _ ((compTurn (.ListComp elt [⟨target,iter,[cnd],0⟩] scope pos) 0 it acc env).onRaise (fun x=>do noteFrame x env; theTreesLotGoes x)) _ _ s
  refine wpAny_noted ?_
  rw [compTurn_list]
  refine wpAny_bind (wpAny_standAt (wpAny_bind (wpAny_mono (turn n s hI) (fun r s₁ h₁=>?_) fun _ _ h'=>h')))
  cases r with
  | none=>exact wpAny_pure h₁
  | some v =>
    refine wpAny_bind (wpAny_mono h₁ (fun _ s₁ h₁=>?_) fun _ _ h'=>h')
    refine wpAny_bind (wpAny_mono h₁ (fun _ s₂ h₂=>wpAny_bind (wpAny_mono h₂ (fun ok s₃ h₃=>?_) fun _ _ h'=>h')) fun _ _ h'=>h')
    cases ok with
    | false=>exact wpAny_pure ⟨rfl,h₃⟩
    | true=>exact wpAny_bind (wpAny_bind (wpAny_mono h₃ (fun x s₄ h₄=>wpAny_bind (wpAny_mono h₄ (fun _ s₅ h₅=>wpAny_pure (wpAny_pure ⟨rfl,h₅⟩)) fun _ _ h'=>h')) fun _ _ h'=>h'))
end
section
variable {X:Cx} {elt tg iter:Expr} {scope:Scope} {pos:Pos} {wi:TI} {g:TG} {te:TE} {N:List Str} {fr:List (Option Nat)}
variable {cnd:Expr} {tc:TT}
theorem comp_coreF {pins:List (Addr × Obj)} {σ:St} {H:Hp} {s:Shared} {Q:VK} {cl:List (Str × Addr)} {R:Value→Addr→Result→Shared→Prop} (hc:X.calm=true) (I:Inv X pins σ H s) (hi:PI X tg iter wi)
  (hg:∀ cl C s H ex,PG (compCx X scope cl N C s H ex) tg g) (hcn:∀ cl C s H ex,PT (compCx X scope cl N C s H ex) cnd tc) (he:∀ cl C s H ex,PE (compCx X scope cl N C s H ex) elt te) (ck:Zf7 X.env.scope X.N scope N fr)
  (c1:∀ x c,cl.lookup x=some c→X.env.cells.lookup x=some c) (c2:∀ x,(x,NameKind.free)∈scope.names→∃ c,cl.lookup x=some c)
  (h:tCompF wi g tc te fr σ H Q)
  (hR:∀ acc C s' H' m,s'.heap.Ns C m→FpOk X pins H' C→Inv X pins σ H' s'→Q (.ref acc) H'→R (.ref acc) C (.ok .next) s') :
  wpAny (model X.prog X.w) X.A (eval iter X.env) (fun x s₁=>wpAny (model X.prog X.w) X.A (pyIter x) (fun it s₂=>wpAny (model X.prog X.w) X.A (newList []) (fun acc s₃ =>
   wpAny (model X.prog X.w) X.A (newFunctionEnv scope X.env.globals cl [] X.env.qual none .none (some X.env)) (fun cenv s₄ =>
    codeAny (model X.prog X.w) X.A (.compStart (.ListComp elt [⟨tg,iter,[cnd],0⟩] scope pos) 0 it acc { cenv with scope:=relabel scope X.env }) (R acc cenv.locals) s₄) X.xe s₃) X.xe s₂) X.xe s₁) X.xe s:=by
 refine thn (hi pins s σ H _ I h) fun v s1 h1=>thn h1 fun itv s2 h2=>?_
 obtain ⟨it,fp,tn,J,H2,e,I2,T,st2,f2,q2⟩:=h2
 subst e
 refine wpAny_newObj_type (wpAny_newFunctionEnv ck.nocell (by intro y hy; simp at hy) (fun h₁ hns₁ hsb₁=>?_) ck.kind)
 dsimp only at hns₁ hsb₁ ⊢
 have I3:Inv X pins σ (upd H2 s2.heap.objs.size (.lst [])) { s2 with heap:=s2.heap.push { cls:=.type "list",dict:=none,data:=.seq ([]:List Value).toArray } }:=I2.lnew (t':=s2.toks) (its:=[]) .nil (Nat.zero_le _)
 have acc0:H2 s2.heap.objs.size=none:=I2.fresh
 obtain ⟨W,⟨m0,w0⟩,turn⟩:=q2 s2.heap.objs.size acc0
 generalize hH3:s2.heap.push { cls:=.type "list",dict:=none,data:=.seq ([]:List Value).toArray }=h3 at hns₁ hsb₁ I3 ⊢
 have hz3:h3.objs.size=s2.heap.objs.size+1:=by rw [← hH3,Heap.size_push]
 have k23:∀ b o,s2.heap.get? b=some o→h3.get? b=some o:=fun b o e=>by rw [← hH3]; exact Heap.get?_push_of_some _ e
 have k34:∀ b o,h3.get? b=some o→h₁.get? b=some o:=fun b o e=>hsb₁.extBut b o (Nat.ne_of_lt (Heap.lt_size e)) (Heap.get?_push_of_some _ e)
 have fpo:∀ b∈fp,∃ o,s2.heap.get? b=some o∧∀ v,o.data≠.cell v:=T.obj 0 _ st2
 have hex:∀ b∈fp,FpOk X pins (upd H2 s2.heap.objs.size (.lst [])) b∧b < h3.objs.size:=fun b hb=>by
  obtain ⟨o,eo,_⟩:=fpo b hb
  have lt:=Heap.lt_size eo
  obtain ⟨f0,fr'⟩:=f2 b hb
  exact ⟨⟨by rw [Zak (Nat.ne_of_lt lt)]; exact f0,fr'⟩,by rw [hz3]; exact Nat.lt_succ_of_lt lt⟩
 have I4:Inv (compCx X scope cl N h3.objs.size { s2 with heap:=h3 } (upd H2 s2.heap.objs.size (.lst [])) fp) [] (stC fr σ) (upd H2 s2.heap.objs.size (.lst [])) { s2 with heap:=h₁,toks:=s2.toks+([]:List (Str × Value)).length } :=
  Zgx I3 ck c1 c2 hex (Nat.le_refl _) hns₁ k34 rfl rfl
 have stat:∀ {H':Hp},(∀ b∈fp,H' b=none)→∀ b∈fp,FpOk (compCx X scope cl N h3.objs.size { s2 with heap:=h3 } (upd H2 s2.heap.objs.size (.lst [])) fp) [] H' b:=fun hn b hb =>
  ⟨hn b hb,(I4.ok.exf b hb).1,I4.ok.exfs b hb,.inl hb,(I4.ok.exf b hb).2,fun p hp=>by simp at hp⟩
 have stn:∀ i h h',tn i h→(∀ b o,h.get? b=some o→h'.get? b=some o)→tn i h':=fun i h h' st kk=>T.keep i h h' st fun b _ o e=>kk b o e
 have loop:codeAny (model X.prog X.w) X.A (.compLoop (.ListComp elt [⟨tg,iter,[cnd],0⟩] scope pos) 0 (.ref it) (.ref s2.heap.objs.size) (compEnvC scope cl h3.objs.size X.env)) (R (.ref s2.heap.objs.size) h3.objs.size)
   { s2 with heap:=h₁,toks:=s2.toks+([]:List (Str × Value)).length }:=by
  refine Zh6 (fun n s'=>∃ i σ' H',Inv (compCx X scope cl N h3.objs.size { s2 with heap:=h3 } (upd H2 s2.heap.objs.size (.lst [])) fp) [] σ' H' s'∧tn i s'.heap∧(∀ b∈fp,H' b=none)∧W i n σ' H') ?_ m0
   ⟨0,_,_,I4,stn _ _ _ st2 fun b o e=>k34 b o (k23 b o e),fun b hb=>(hex b hb).1.1,w0⟩
  rintro n s3 ⟨i,σ3,H3,J3,st3,fr3,w3⟩
  rcases turn i n σ3 H3 w3 with ⟨stop,qn⟩ | ⟨go,step⟩
  ·refine Zb5 (thn (T.done (compCx X scope cl N h3.objs.size { s2 with heap:=h3 } (upd H2 s2.heap.objs.size (.lst [])) fp) rfl rfl rfl hc i [] s3 σ3 H3 (fun _ _=>False) J3 (stat fr3) st3 stop) fun r s4 ⟨hr,J4⟩=>?_)
   subst hr
   obtain ⟨mc,hmc,_⟩:=J4.loc
   have I5:Inv X pins σ H3 s4:=I3.call' (ch:=fp) J4.os J4.base J4.hok J4.bare fun b hb=>⟨(hex b hb).1.2.2.2.1,(hex b hb).1.2.1,(hex b hb).1.2.2.2.2.1,(hex b hb).1.2.2.2.2.2⟩
   exact hR _ _ s4 H3 mc hmc (I3.fpOk (Nat.le_refl _) J4.free) I5 qn
  ·refine Zb5 (thn (T.item (compCx X scope cl N h3.objs.size { s2 with heap:=h3 } (upd H2 s2.heap.objs.size (.lst [])) fp) rfl rfl rfl hc i [] s3 σ3 H3 (fun _ _=>False) J3 (stat fr3) st3 go) fun r s4 ⟨u,hr,h4⟩=>?_)
   subst hr
   refine Zb5 (thn h4 fun _ s5 ⟨x,H5,J5,r5,y5,st5,fr5⟩=>?_)
   have J5':=J5.pinned (stat fr5) (T.obj _ _ st5)
   refine Zb5 (thn (hg _ _ _ _ _ _ s5 σ3 H5 x u _ J5' r5 (step x H5 y5)) fun _ s6 ⟨σ6,H6,J6,q6⟩=>?_)
   refine wpAny_tests_one (Zb5 (thn (hcn _ _ _ _ _ _ s6 σ6 H6 _ J6 q6) fun b sb ⟨Hb,Jb,qb⟩=>?_))
   cases b with
   | false =>
    obtain ⟨m',hm',w7⟩:=qb
    refine ite_ff ⟨m',hm',i+1,σ6,_,Jb.unpinned,T.keep _ _ _ st5 fun b hb o e=>(Jb.pin (b,o) (List.mem_append_right _ (List.mem_append_right _ (Zbq hb e)))).1,fun b hb=>?_,w7⟩
    obtain ⟨o,e,d⟩:=T.obj _ _ st5 b hb
    exact (Jb.pin (b,o) (List.mem_append_right _ (List.mem_append_right _ (Zbq hb e)))).2.1
   | true =>
    refine ite_tt ?_
    refine Zb5 (thn (he _ _ _ _ _ _ sb σ6 Hb _ Jb qb) fun y s7 ⟨v7,H7,J7,r7,xs,hx,hz,m',hm',w7⟩=>?_)
    refine Zb5 (thn (Zcw _ s7 σ6 H7 (.ref s2.heap.objs.size) [v7] (.ref s2.heap.objs.size) [y] (fun v H8=>H8=upd H7 s2.heap.objs.size (.lst (xs++[v7]))) J7 rfl (.cons r7 .nil) ⟨_,xs,v7,rfl,rfl,hx,hz,rfl⟩) fun _ s8 ⟨_,H8,J8,_,e8⟩=>?_)
    subst e8
    refine ⟨m',hm',i+1,σ6,_,J8.unpinned,T.keep _ _ _ st5 fun b hb o e=>(J8.pin (b,o) (List.mem_append_right _ (List.mem_append_right _ (Zbq hb e)))).1,fun b hb=>?_,w7⟩
    obtain ⟨o,e,d⟩:=T.obj _ _ st5 b hb
    exact (J8.pin (b,o) (List.mem_append_right _ (List.mem_append_right _ (Zbq hb e)))).2.1
 exact codeAny_compStart_list loop (T.self _ 0 _ _ _ (stn _ _ _ st2 fun b o e=>k34 b o (k23 b o e)) loop)
theorem Zfg {y:Str} {py spos:Pos} {gy:TG} (hc:X.calm=true) (hy:PG X (.Name y py) gy) (hi:PI X tg iter wi) (hg:∀ cl C s H ex,PG (compCx X scope cl N C s H ex) tg g) (hcn:∀ cl C s H ex,PT (compCx X scope cl N C s H ex) cnd tc) (he:∀ cl C s H ex,PE (compCx X scope cl N C s H ex) elt te)
    (hk:Zh7 X.env.scope X.N scope N fr=true:=by rfl) (hsw:swapsWith (.ListComp elt [⟨tg,iter,[cnd],0⟩] scope pos) (some (.Name y py)) spos.line X.env=pure true:=by rfl) (hs:∀ x,foldedSetIterable iter X.env x=pure x:=by intro _; rfl) :
    PS X (.Assign [.Name y py] (.ListComp elt [⟨tg,iter,[cnd],0⟩] scope pos) spos) (tAsg (tCompF wi g tc te fr) gy):=by
  intro pins s σ H D I h
  have ck:=Zgy hk
  obtain ⟨cl,e1,c1,c2⟩:=comp_cl I.ok ck
  rw [exec_Assign_Name_used _ _ _ _ hsw]
  refine wpAny_bind (wpAny_standAt (wpAny_bind ?_))
  show wpAny _ X.A (do let _ ← comprehension (.ListComp elt [⟨tg,iter,[cnd],0⟩] scope pos) scope X.env _ (newList []) false (eval iter X.env) (some (assign (.Name y py) X.env))) _ _ s
  refine wpAny_bind (wpAny_mono (wpAny_comprehension_free (use:=some (assign (.Name y py) X.env)) (Q:=fun _ s'=>SP X pins D .next s') rfl hs e1 ck.kind ck.loc
    (comp_coreF (R:=fun acc C=>compPost (model X.prog X.w) X.A X.xe (some (assign (.Name y py) X.env)) (fun _ s'=>SP X pins D .next s') acc C) hc I hi hg hcn he ck c1 c2 h fun acc C s' H' m hn f I' q=>?_)) (fun _ s' hq=>wpAny_pure (wpAny_pure hq)) fun _ _ e=>e)
  show wpAny _ X.A (assign (.Name y py) X.env (.ref acc)) _ _ _
  obtain ⟨oC,es,ep,hoC,hdC,hrC⟩:=id hn
  have IP:=I'.pinned (fp:=[C]) (fun b hb=>by rw [List.mem_singleton.mp hb]; exact f) (fun b hb=>by rw [List.mem_singleton.mp hb]; exact ⟨oC,hoC,fun v z=>by rw [hdC] at z; cases z⟩)
  refine thn (hy _ s' σ H' (.ref acc) (.ref acc) _ IP rfl q) fun _ s'' ⟨σ6,H6,I6,q6⟩=>?_
  have pC:=I6.pin (C,oC) (List.mem_append_right _ (List.mem_append_right _ (Zbq (List.mem_singleton.mpr rfl) hoC)))
  obtain ⟨f0,f1,f2,f3,f4,f5⟩:=f
  exact ⟨m,⟨oC,es,ep,pC.1,hdC,hrC⟩,fun h' hs'=>⟨σ6,H6,I6.unpinned.turned (t':=s''.toks) (fun b o hb e=>hs'.extBut b o hb e) pC.2.1 f1 f3 f4 f5,q6⟩⟩
end
end L2
namespace L2
open PySem PySem.Spec PyProof.Rows
section
variable {X:Cx} {a b c d:Expr} {ta tb tc td:TE} {pos:Pos}
theorem Zht {K:PySem.W.Frag} (hK:X.K=K:=by rfl):IxR X (rIxT K):=by subst hK; exact Zar
end
def fW (acc:Addr) (n:Nat) (Pv:Nat→List V→St→Hp→Prop) (i m:Nat) (σ:St) (H:Hp):Prop:=i≤n∧m=n - i∧∃ xs,xs.length≤i∧H acc=some (.lst xs)∧Pv i xs σ H
def fNx (acc:Addr) (n:Nat) (Pv:Nat→List V→St→Hp→Prop) (i:Nat) (σ:St) (v:V) (H:Hp):Prop:=∃ xs,H acc=some (.lst xs)∧xs.length < sizeLine∧∃ m',m' < n - i∧fW acc n Pv (i+1) m' σ (upd H acc (.lst (xs++[v])))
def fSk (acc:Addr) (n:Nat) (Pv:Nat→List V→St→Hp→Prop) (i:Nat) (σ:St) (H:Hp):Prop:=∃ m',m' < n - i∧fW acc n Pv (i+1) m' σ H
theorem fNx.mk {acc:Addr} {n:Nat} {Pv:Nat→List V→St→Hp→Prop} {i:Nat} {σ:St} {v:V} {H:Hp} {xs:List V} (hn:n≤sizeLine) (hi:i < n) (hl:xs.length≤i) (ha:H acc=some (.lst xs)) (hp:Pv (i+1) (xs++[v]) σ (upd H acc (.lst (xs++[v])))) :
  fNx acc n Pv i σ v H:=⟨xs,ha,by omega,n - (i+1),by omega,hi,rfl,xs++[v],by rw [List.length_append,List.length_singleton]; omega,upd_same,hp⟩
theorem fSk.mk {acc:Addr} {n:Nat} {Pv:Nat→List V→St→Hp→Prop} {i:Nat} {σ:St} {H:Hp} {xs:List V} (hi:i < n) (hl:xs.length≤i) (ha:H acc=some (.lst xs)) (hp:Pv (i+1) xs σ H):fSk acc n Pv i σ H:=⟨n - (i+1),by omega,hi,rfl,xs,by omega,ha,hp⟩
theorem Zgw {K:PySem.W.Frag} {a:Addr} {ys:List V} {g:TG} {tc:TT} {te:TE} {σ:St} {H1:Hp} {acc:Addr} {Qr:Hp→Prop} (Pv:Nat→List V→St→Hp→Prop) (h0:Pv 0 [] σ (upd H1 acc (.lst [])))
  (hq:∀ i xs σ H,i≤ys.length→H acc=some (.lst xs)→Pv i xs σ H→SqL K H a ys)
  (hs:∀ i x xs σ H,ys[i]?=some x→i < ys.length→xs.length≤i→H acc=some (.lst xs)→Pv i xs σ H→g x σ H fun σ2 H2=>tc σ2 H2 fun b Hb=>match b with
   | true=>te σ2 Hb fun v H3=>fNx acc ys.length Pv i σ2 v H3
   | false=>fSk acc ys.length Pv i σ2 Hb)
  (hd:∀ xs σ H,xs.length≤ys.length→H acc=some (.lst xs)→Pv ys.length xs σ H→Qr H) :
  ∃ W:Nat→Nat→St→Hp→Prop,(∃ m,W 0 m σ (upd H1 acc (.lst [])))∧∀ i m σ1 H2,W i m σ1 H2 →
   ((Itl K a).stop i H2∧Qr H2)∨((Itl K a).go i H2∧∀ x H3,(Itl K a).yld i H2 x H3→g x σ1 H3 fun σ4 H4=>tc σ4 H4 fun b Hb=>match b with
    | true=>te σ4 Hb fun v H5=>∃ xs,H5 acc=some (.lst xs)∧xs.length < sizeLine∧∃ m',m' < m∧W (i+1) m' σ4 (upd H5 acc (.lst (xs++[v])))
    | false=>∃ m',m' < m∧W (i+1) m' σ4 Hb):=by
 refine ⟨fW acc ys.length Pv,⟨ys.length,Nat.zero_le _,rfl,[],Nat.le_refl _,upd_same,h0⟩,?_⟩
 rintro i m σ1 H2 ⟨hi,rfl,xs,hl,ha,hp⟩
 have hsq:=hq i xs σ1 H2 hi ha hp
 rcases Nat.lt_or_ge i ys.length with h | h
 ·refine .inr ⟨⟨ys,ys[i],hsq,List.getElem?_eq_getElem h⟩,?_⟩
  rintro x H3 ⟨rfl,hx⟩
  exact hs i x xs σ1 H3 (hx ys hsq) h hl ha hp
 ·have e:i=ys.length:=Nat.le_antisymm hi h
  subst e
  exact .inl ⟨⟨ys,hsq,Nat.le_refl _⟩,hd xs σ1 H2 hl ha hp⟩
end L2
namespace L2
open PySem PySem.Spec PyProof.Rows PySem.W
section
variable {X:Cx}
end
end L2
namespace L2
open PySem PySem.Spec PyProof.Rows
section
variable {X:Cx}
end
section
variable {X:Cx}
end
section
variable {prog:Program} {w:World} {A:Around} {E:Value→Shared→Prop} {s:Shared}
end
section
variable {X:Cx}
end
section
variable {prog:Program} {w:World} {A:Around} {E:Value→Shared→Prop} {s:Shared} {R:Result→Shared→Prop} {I:Addr} {fp wr:List Addr} {n:Nat} {P:Nat→Value→Prop} {St:Nat→Heap→Prop}
end
section
variable {X:Cx}
end
section
variable {X:Cx} {a:Expr} {ta:TE}
end
end L2
namespace L2
open PySem PySem.Spec PyProof.Rows
section
variable {X:Cx}
end
end L2
namespace L2
open PySem PySem.Spec PyProof.Rows
section
variable {X:Cx} {k j:Nat} {x y:Str} {ps:List Str} {sp:Sp} {p pos:Pos} {e:Expr} {es:List Expr} {tv:TE} {t:TA}
end
section
variable {prog:Program} {w:World} {A:Around} {E:Value→Shared→Prop} {s:Shared} {it d v:Addr} {i n ep:Nat} {od:Obj} {es:Array DictEntry} {k0 v0:Value}
end
section
variable {X:Cx}
end
end L2
namespace L2
open PySem PySem.Spec PyProof.Rows
section
variable {prog:Program} {w:World} {A:Around} {E:Value→Shared→Prop} {s:Shared} {d:Addr} {od:Obj} {es:Array DictEntry} {ep:Nat}
end
section
variable {X:Cx}
end
section
variable {X:Cx}
end
end L2
namespace L2
open PySem PySem.Spec PyProof.Rows
section
variable {prog:Program} {w:World} {A:Around} {E:Value→Shared→Prop} {s:Shared} {it d:Addr} {i ep:Nat} {od:Obj} {es:Array DictEntry}
end
section
variable {X:Cx}
end
end L2
namespace L2
open PySem PySem.Spec PyProof.Rows
section
variable {X:Cx}
end
end L2
namespace L2
open PySem PySem.Spec PyProof.Rows
section
variable {X:Cx}
end
section
variable {X:Cx}
end
end L2
namespace L2
open PySem PySem.Spec PyProof.Rows
section
open HT
variable {prog:Program} {w:World} {A:Around} {E:Value→Shared→Prop} {s:Shared}
end
section
variable {X:Cx} {e st:Expr} {te ts:TE} {pos p2:Pos}
end
end L2
namespace L2
open PySem PySem.Spec PyProof.Rows
section
variable {prog:Program} {w:World} {A:Around} {E:Value→Shared→Prop} {s:Shared} {R:Result→Shared→Prop} {I:Addr} {fp wr:List Addr} {n:Nat} {P:Nat→Value→Prop} {St:Nat→Heap→Prop}
end
section
variable {X:Cx}
end
end L2
namespace L2
open PySem PySem.Spec PyProof.Rows
end L2
namespace L2
open PySem PySem.Spec PyProof.Rows
section
variable {X:Cx}
end
end L2
namespace L2
open PySem PySem.Spec PyProof.Rows
section
open PySem.SeqAt
open PySem.AutoSeq1 (wpAny_loadPart')
open PySem.MeetsSeq PySem.MeetsSeq2 PySem.MeetsSeq3
variable {prog:Program} {w:World} {A:Around} {E:Value→Shared→Prop} {s:Shared}
end
section
variable {X:Cx}
end
end L2
namespace L2
open PySem PySem.Spec PyProof.Rows
structure ICls (K:PySem.W.Frag) (C:Addr):Prop where
 cl:Cls K C
 ha:PySem.W.findIn K (.ref C) "__class__"=some (some (.builtin "object.__class__"))
 hn:PySem.W.specialIn K (.builtin "object.__class__") "__get__"=some (some (.builtin "getset_descriptor.__get__"))
 htk:PySem.W.takesIn K (.builtin "object.__class__")=some true
 hm:PySem.W.mroIn K C (.type "object")=some true
section
variable {X:Cx}
theorem Zbr:CallR X (.builtin "isinstance") (fun xs H Q=>∃ a C dx fs c u b,xs=[.ref a,c]∧H a=some (.ins C dx fs)∧ICls X.K C∧RelV c u∧(∀ u',RelV c u'→u'=u)∧PySem.W.kitOne X.K (.ref C) u=some b∧Q (.bl b) H):=by
 intro pins s σ H xs us Q I r h
 obtain ⟨a,C,dx,fs,c,u,b,rfl,he,hc,ru,uq,hk,q⟩:=h
 obtain ⟨v1,v2,rfl,r1,r2⟩:=vals2 r
 have:=uq v2 r2
 subst this
 exact Zjb I r1 (.ins he hc.cl hc.ha hc.hn hc.htk hc.hm) hk fun tk=>⟨.bl b,H,I.tok tk,rfl,q⟩
end
def Itv (K:PySem.W.Frag) (a:Addr) (n:Nat):It :=
 ⟨fun i H=>∃ xs,SqL K H a xs∧xs.length=n∧i < n,fun i H x H'=>H'=H∧∀ xs,SqL K H a xs→xs[n - 1 - i]?=some x,fun i H=>n≤i⟩
theorem turn_rev {P:Program} {w:World} {K:PySem.W.Frag} {tg:Expr} (a it:Addr) (n:Nat):Turn P w K tg (Itv K a n) [it] it (fun i h=>i≤n∧h.IsRevIter it a ((n:Int) - 1 - i)) where
 mem:=by simp
 obj:=fun i h st b hb=>by
  have e:b=it:=by simpa using hb
  subst e
  obtain ⟨_,o,e,c,d⟩:=st
  exact ⟨o,e,fun v z=>by rw [d] at z; cases z⟩
 keep:=fun i h h' st k=>⟨st.1,st.2.at fun o e=>k it (by simp) o e⟩
 item:=by
  intro X hP hw hK hc i pins s σ H E I hf st hg
  subst hP hw hK
  obtain ⟨xs,hq,hn,hi⟩:=hg
  obtain ⟨hin,st⟩:=st
  obtain ⟨its,rv,p,hz⟩:=I.list hq
  have hx:xs[n - 1 - i]?=some (xs[n - 1 - i]'(by omega)):=List.getElem?_eq_getElem (by omega)
  obtain ⟨u,hu,ru⟩:=rv.get hx
  obtain ⟨f0,f1,f2,f3,f4,f5⟩:=hf it (by simp)
  have st':s.heap.IsRevIter it a (((n - 1 - i:Nat):Int)):=by
   rw [show (((n - 1 - i:Nat):Int))=(n:Int) - 1 - i by omega]; exact st
  refine wpAny_pyNext_rev_item st' p.isList (x:=u) (by simpa using hu) fun h' st' sb=>?_
  have I1:Inv X pins σ H { s with heap:=h' }:=I.turned (t':=s.toks) (fun b o hb e=>(sb.2 b hb).trans e) f0 f1 f3 f4 f5
  obtain ⟨o,e,c,d⟩:=id st'
  refine ⟨u,rfl,go_of (s:={ s with heap:=h' }) e c d (by decide) ⟨_,H,I1,ru,⟨rfl,fun ys hy=>by rw [I.list_inj hy hq]; exact hx⟩,⟨by omega,?_⟩,fun b hb=>(hf b hb).1⟩⟩
  rw [show (n:Int) - 1 - ((i+1:Nat):Int)=((n - 1 - i:Nat):Int) - 1 by omega]; exact st'
 done:=by
  intro X hP hw hK hc i pins s σ H E I hf st hg
  subst hP hw hK
  obtain ⟨hin,st⟩:=st
  obtain ⟨f0,f1,f2,f3,f4,f5⟩:=hf it (by simp)
  have e:i=n:=Nat.le_antisymm hin hg
  subst e
  rw [show (i:Int) - 1 - (i:Int)=-1 by omega] at st
  exact wpAny_pyNext_rev_end (I.ok.hd hc) st fun h' eb=>⟨rfl,I.turned (t':=s.toks) (fun b o hb e=>eb b o hb e) f0 f1 f3 f4 f5⟩
 self:=fun _ _ _ _ _ st h=>wpAny_pyIter_revIter st.2 h
def iRev (K:PySem.W.Frag) (ta:TA):TI:=fun σ H R=>ta σ H fun vs H1=>∃ a xs,vs=[.ref a]∧SqL K H1 a xs∧R (Itv K a xs.length) H1
theorem Zh9:bootBuiltins "reversed"=some (.type "reversed"):=rfl
section
variable {X:Cx} {tg:Expr}
theorem pi_revd {a:Expr} {ta:TA} {p pos:Pos} (hg:Gl X "reversed") (hm:X.mg "reversed"=none) (ha:PA X [a] ta) (hs:starEach [a] X.env=[(false,eval a X.env)]:=by rfl) :
  PI X tg (.Call (.Name "reversed" p) [a] [] pos) (iRev X.K ta):=by
 intro pins s σ H R I h
 refine Call_ (Zfq I hg hm Zh9 (PyProof.Rows.callWith_type1 (thn (ha pos pins s σ H _ I h) fun us s1 ⟨vs,H1,I1,r1,q1⟩=>?_) hs rfl))
 obtain ⟨b,xs,e,hq,q⟩:=q1
 subst e
 cases r1 with
 | cons r rr =>
  cases rr
  cases r
  obtain ⟨its,rv,pl,hz⟩:=I1.list hq
  have hl:=rv.length
  refine call_reversed_list pl.isList ?_
  have I2:Inv X pins σ H1 { s1 with heap:=s1.heap.push (revObj b ((its.toArray.size:Int) - 1)) }:=I1.kept (t':=s1.toks) fun c o e=>Heap.get?_push_of_some _ e
  refine wpAny_pyIter_revIter (s:={ s1 with heap:=s1.heap.push (revObj b ((its.toArray.size:Int) - 1)) }) ⟨_,Heap.get?_push_size _ rfl,rfl,rfl⟩ ?_
  refine ⟨s1.heap.objs.size,[s1.heap.objs.size],_,_,H1,rfl,I2,turn_rev b _ xs.length,⟨Nat.zero_le _,⟨_,Heap.get?_push_size _ rfl,rfl,?_⟩⟩,fun c hc=>?_,q⟩
  ·show Data.fields _=Data.fields _
   rw [show ((its.toArray.size:Int) - 1)=(xs.length:Int) - 1 - ((0:Nat):Int) by rw [List.size_toArray,← hl]; omega]
  ·have e:c=s1.heap.objs.size:=by simpa using hc
   subst e
   exact I1.fpOk (Nat.le_refl _) (I1.hok.fresh (Nat.le_refl _))
end
theorem for_rev {K:PySem.W.Frag} {a:Addr} {xs:List V} {g:TG} {tb:TS} {D:Ends} {σ:St} {H:Hp} (Pv:Nat→St→Hp→Prop) (h0:Pv 0 σ H) (hl:∀ i σ H,i≤xs.length→Pv i σ H→SqL K H a xs)
  (hs:∀ i x σ H,xs[xs.length - 1 - i]?=some x→i < xs.length→Pv i σ H→g x σ H fun σ2 H2=>tb { D with nx:=Pv (i+1),ct:=Pv (i+1),bk:=D.nx } σ2 H2) (hd:∀ σ H,Pv xs.length σ H→D.nx σ H) :
  ∃ W:Nat→Nat→St→Hp→Prop,(∃ m,W 0 m σ H)∧∀ i m σ H,W i m σ H →
   ((Itv K a xs.length).stop i H∧D.nx σ H)∨((Itv K a xs.length).go i H∧∃ N:St→Hp→Prop,(∀ σ' H',N σ' H'→∃ m',m' < m∧W (i+1) m' σ' H')∧∀ x H',(Itv K a xs.length).yld i H x H'→g x σ H' fun σ2 H2=>tb { D with nx:=N,ct:=N,bk:=D.nx } σ2 H2):=by
 refine ⟨fun i m σ H=>m=xs.length - i∧i≤xs.length∧Pv i σ H,⟨xs.length,by simp,Nat.zero_le _,h0⟩,?_⟩
 rintro i m σ H ⟨rfl,hi,p⟩
 have q:=hl i σ H hi p
 by_cases hlt:i < xs.length
 ·refine .inr ⟨⟨xs,q,rfl,hlt⟩,Pv (i+1),fun σ' H' p'=>⟨xs.length - (i+1),by omega,rfl,hlt,p'⟩,fun x H' y=>?_⟩
  obtain ⟨e,y⟩:=y
  subst e
  exact hs i x σ _ (y xs q) hlt p
 ·have e:i=xs.length:=by omega
  subst e
  exact .inl ⟨Nat.le_refl _,hd σ H p⟩
end L2
namespace L2
open PySem PySem.Spec PyProof.Rows PySem.W
section
variable {X:Cx} {k j:Nat} {m:Str} {ps:List Str} {sp:Sp} {pos apos:Pos} {e o:Expr} {es:List Expr} {t:TA} {ta:TE} {S:Addr→Prop}
end
section
variable {X:Cx} {g:Str} {G:Addr} {value:Expr} {b₀:Stmt} {suite:List Stmt} {apos gp hpos pos:Pos} {te:XK→TE} {ts:TS}
end
end L2
namespace L2
open PySem PySem.Spec PyProof.Rows PySem.W
structure FunD (K:PySem.W.Frag) (x qual:Str) (st:Stmt) (f:Addr) (fd:FuncData):Prop where
 ex:∃ (oc:Value) (od:Option Addr) (T:Addr) (kV doc pm:Value) (an:Option Addr) (cdv ct:Value) (osl:Array (Option Value)) (o:Obj) (n:Nat),
  fd=PySem.W.fnOf x qual (Zao st) (Zaj st) (Zad st) (.ref T) kV doc pm an cdv ct∧K.lookup f=some ⟨oc,od,.func fd,osl⟩∧PySem.W.codeIn K cdv qual=true∧K.lookup T=some o∧o.data=.seq #[.none] n
 kp:PySem.W.keepIn K (.ref f)=true
section
variable {P:Program} {w:World} {K:PySem.W.Frag} {mg:Str→Option Value} {base:Heap}
theorem FunD.ok {x qual:Str} {st:Stmt} {f:Addr} {fd:FuncData} {N ps:List Str} {k:Nat} {sp:Sp} (F:FunD K x qual st f fd) (S:Zap N ps (Zad st)) (len:∀ vs H Q E,sp vs H Q E→vs.length=ps.length)
  (hbody:∀ (cdv:Value) (A:Around) (outer:List Env) (s:Shared) (H:Hp) (vs:List V) (Q:VK) (E:XK),Room k (A.deeper (envOfC qual (Zad st) s.heap.objs.size f cdv))→sp vs H Q E →
   ∃ t,PSs (cxOf CX0 P w K mg base N qual (Zad st) f cdv A outer s H E).nox (Zaj st) t∧t { nx:=fun _ H'=>Q .non H',rt:=Q } (start N vs) H):FnOk P w K mg base CX0 (k+1) f fd ps sp:=by
 obtain ⟨oc,od,T,kV,doc,pm,an,cdv,ct,osl,o,n,rfl,lk,hcd,lT,dT⟩:=F.ex
 refine fn_of lk hcd S len fun A outer s H vs Q E hr hsp=>?_
 obtain ⟨t,h,q⟩:=hbody cdv A outer s H vs Q E hr hsp
 exact ⟨t,h.nox,q⟩
theorem FunD.binds {x qual:Str} {st:Stmt} {f:Addr} {fd:FuncData} {ps:List Str} {ds:List Value} (F:FunD K x qual st f fd)
  (h:∀ (T:Addr) (kV doc pm:Value) (an:Option Addr) (cdv ct:Value) (us:List Value),(us++ds).length=ps.length→∃ k:Option (Array Value)→Sem (List (Str × Value)),
   bindArgs (PySem.W.fnOf x qual (Zao st) (Zaj st) (Zad st) (.ref T) kV doc pm an cdv ct) ⟨us,[]⟩=seqItems? (.ref T) >>= k∧k (some #[.none])=pure (ps.zip (us++ds))):Binds K fd ps ds:=by
 obtain ⟨oc,od,T,kV,doc,pm,an,cdv,ct,osl,o,n,rfl,lk,hcd,lT,dT⟩:=F.ex
 intro s us X hl
 obtain ⟨k,h1,h2⟩:=h T kV doc pm an cdv ct us hl
 exact .of_defaults rfl (X _ _ lT) dT h1 h2
end
end L2
namespace L2
open PySem PySem.Spec PyProof.Rows PySem.W
end L2
namespace L2
open PySem PySem.Spec PyProof.Rows
section
variable {X:Cx} {elt tg iter:Expr} {scope:Scope} {pos:Pos} {wi:TI} {g:TG} {te:TE} {N:List Str} {fr:List (Option Nat)}
end
end L2
namespace L2
open PySem PySem.Spec PyProof.Rows PySem.W
section
variable {M:Model} {A:Around} {E:Value→Shared→Prop} {s:Shared} {e:Addr} {cls:Value} {d:Option Addr} {vs:Array Value} {sl:Array (Option Value)}
end
section
variable {M:Model} {A:Around} {E:Value→Shared→Prop} {s:Shared} {base:Heap} {env:Env} {outer:List Env} {L e:Addr} {cls:Value} {d:Option Addr} {vs:Array Value} {sl:Array (Option Value)} {Q:Unit→Shared→Prop}
end
end L2
namespace L2
open PySem PySem.Spec PyProof.Rows PySem.W
section
variable {X:Cx} {pins:List (Addr × Obj)} {σ:St} {H:Hp} {s:Shared} {x C T:Addr} {d:Option Addr} {h1 h2:Heap} {fl:Value} {tt:List Addr} {nw:HO}
end
end L2
namespace L2
open PySem PySem.Spec PyProof.Rows PySem.W
section
variable {X:Cx} {elt tg iter:Expr} {scope:Scope} {pos:Pos} {wi:TI} {g:TG} {te:TE} {N:List Str} {fr:List (Option Nat)}
end
section
variable {P:Program} {w:World} {K:PySem.W.Frag} {mg:Str→Option Value} {base:Heap} {N:List Str} {qual:Str} {scope:Scope} {f:Addr} {cd:Value} {A:Around} {outer:List Env} {s:Shared} {H:Hp} {E:XK} {Hs:Hp}
end
end L2
namespace L2
open PySem PySem.Spec PyProof.Rows PySem.W
section
variable {X:Cx} {i im:Nat} {n m g:Str} {G:Addr} {value c:Expr} {b₀ st su:Stmt} {suite:List Stmt} {np apos gp hpos pos:Pos} {te:XK→TE} {ts:TS} {t u:XK→TS} {tc:TT}
end
end L2
namespace L2
open PySem PySem.Spec PyProof.Rows PySem.W
section
variable {X:Cx}
end
end L2
namespace L2
open PySem PySem.Spec PyProof.Rows PySem.W
section
variable {X:Cx}
end
end L2
namespace L2
open PySem PySem.Spec PyProof.Rows PySem.W
mutual
def DAt (H:Hp):D→V→Prop
 | .at u,v=>v=u∧flatV u=true
 | .tup ds,v=>∃ a xs,v=.ref a∧H a=some (.tup xs)∧DAts H ds xs
 | .lst ds,v=>∃ a xs,v=.ref a∧H a=some (.lst xs)∧DAts H ds xs
def DAts (H:Hp):Ds→List V→Prop
 | .nil,xs=>xs=[]
 | .cons d r,xs=>∃ x ys,xs=x :: ys∧DAt H d x∧DAts H r ys
end
mutual
theorem dat_same {H H':Hp} (s:Same H H'):∀ (d:D) {v:V},DAt H d v→DAt H' d v
 | .at u,v,h=>by rw [DAt] at h ⊢; exact h
 | .tup ds,v,h=>by
  rw [DAt] at h ⊢
  obtain ⟨a,xs,e,q,r⟩:=h
  exact ⟨a,xs,e,s _ _ q,Zfz s ds r⟩
 | .lst ds,v,h=>by
  rw [DAt] at h ⊢
  obtain ⟨a,xs,e,q,r⟩:=h
  exact ⟨a,xs,e,s _ _ q,Zfz s ds r⟩
theorem Zfz {H H':Hp} (s:Same H H'):∀ (ds:Ds) {xs:List V},DAts H ds xs→DAts H' ds xs
 | .nil,xs,h=>by rw [DAts] at h ⊢; exact h
 | .cons d r,xs,h=>by
  rw [DAts] at h ⊢
  obtain ⟨x,ys,e,p,q⟩:=h
  exact ⟨x,ys,e,dat_same s d p,Zfz s r q⟩
end
mutual
theorem dat_is {K:PySem.W.Frag} {H:Hp}:∀ (d:D) {v:V},DAt H d v→DIs K H d v
 | .at u,v,h=>by rw [DAt] at h; rw [DIs]; exact h
 | .tup ds,v,h=>by
  rw [DAt] at h
  rw [DIs]
  obtain ⟨a,xs,e,q,r⟩:=h
  exact ⟨a,xs,e,SqT.of q,Zk0 ds r⟩
 | .lst ds,v,h=>by
  rw [DAt] at h
  rw [DIs]
  obtain ⟨a,xs,e,q,r⟩:=h
  exact ⟨a,xs,e,SqL.of q,Zk0 ds r⟩
theorem Zk0 {K:PySem.W.Frag} {H:Hp}:∀ (ds:Ds) {xs:List V},DAts H ds xs→DIss K H ds xs
 | .nil,xs,h=>by rw [DAts] at h; rw [DIss]; exact h
 | .cons d r,xs,h=>by
  rw [DAts] at h
  rw [DIss]
  obtain ⟨x,ys,e,p,q⟩:=h
  exact ⟨x,ys,e,dat_is d p,Zk0 r q⟩
end
section
variable {X:Cx}
end
end L2
namespace L2
open PySem PySem.Spec PyProof.Rows PySem.W
def ObjO (f:Addr) (o:Obj):HO:=.ext fun h=>h.get? f=some o
section
variable {X:Cx} {pins:List (Addr × Obj)} {σ:St} {H:Hp} {s:Shared} {h1:Heap}
end
section
variable {X:Cx}
end
end L2
namespace L2
open PySem PySem.Spec PyProof.Rows PySem.W
section
variable {X:Cx} {pins:List (Addr × Obj)} {σ:St} {H:Hp} {s:Shared}
end
section
variable {X:Cx} {pins:List (Addr × Obj)} {σ:St} {H:Hp} {s:Shared} {A:Around} {D kS:Addr} {vs ks:List Value} {e e1:Nat}
end
section
variable {X:Cx} {pins:List (Addr × Obj)} {σ:St} {H:Hp} {s:Shared} {A:Around} {D kS f:Addr} {vs:List Value} {e1:Nat} {kts:List (Addr × List Int)} {m:Nat} {key:List Int→Int} {P:PySem.Fin→Shared→Prop} {E:Value→Shared→Prop}
end
section
variable {X:Cx}
end
end L2
namespace L2
open PySem PySem.Spec PyProof.Rows PySem.W
theorem ltG_of {M:Model} {A:Around} {E:Value→Shared→Prop} {s:Shared} {kd:SortKind} {κ:Value→Int} {S:Keyed→Prop} (h:∀ x y,S x→S y→∀ C:Bool→Shared→Prop,C (decide (κ x.1 < κ y.1)) s→wpAny M A (keyLt' kd x.1 y.1) C (fun _ _=>False) s):LtG M A E s kd (fun p=>κ p.1) S:=fun x y hx hy st Q hk hq=>by
 rw [lt'_eq]
 refine wpS_bind (wpS_get ?_)
 rw [hk]
 refine wpS_bind (wpS_lift (wpAny_attempt (wpAny_mono (h x y hx hy (fun b s'=>b=decide (κ x.1 < κ y.1)∧s'=s) ⟨rfl,rfl⟩) (fun b s' hb=>?_) fun _ _ z=>z.elim)))
 obtain ⟨rfl,rfl⟩:=hb
 exact ⟨rfl,wpS_pure hq⟩
theorem perm_pre {α β:Type} {f:α→β} {l m:List β} (h:l.Perm m):∀ ts:List α,m=ts.map f→∃ ts':List α,ts'.Perm ts∧l=ts'.map f:=by
 induction h with
 | nil =>
  intro ts e
  rw [List.map_eq_nil_iff.mp e.symm]
  exact ⟨[],.nil,rfl⟩
 | cons x p ih =>
  intro ts e
  obtain ⟨t,r,rfl,e1,e2⟩:=List.map_eq_cons_iff.mp e.symm
  obtain ⟨r',p',e'⟩:=ih r e2.symm
  exact ⟨t :: r',p'.cons t,by rw [e',List.map_cons,e1]⟩
 | swap x y l =>
  intro ts e
  obtain ⟨t,r,rfl,e1,e2⟩:=List.map_eq_cons_iff.mp e.symm
  obtain ⟨u,q,rfl,e3,e4⟩:=List.map_eq_cons_iff.mp e2
  exact ⟨u :: t :: q,List.Perm.swap _ _ _,by rw [List.map_cons,List.map_cons,e1,e3,e4]⟩
 | trans p q ih1 ih2 =>
  intro ts e
  obtain ⟨t2,p2,e2⟩:=ih2 ts e
  obtain ⟨t1,p1,e1⟩:=ih1 t2 e2
  exact ⟨t1,p1.trans p2,e1⟩
section
variable {X:Cx} {pins:List (Addr × Obj)} {σ:St} {H:Hp} {s:Shared} {A:Around} {D kS f:Addr} {vs:List Value} {e1:Nat} {kvs:List V} {kd:SortKind} {κ:Value→Int} {P:PySem.Fin→Shared→Prop} {E:Value→Shared→Prop}
end
end L2
namespace L2
open PySem PySem.Spec PyProof.Rows PySem.W
def keyAt (H:Hp) (key:List Int→Int):Value→Int
 | .ref a=>match H a with
  | some (.tup l)=>key (l.map fun v=>match v with | .int i=>i | _=>0)
  | _=>0
 | _=>0
theorem keyAt_tup {H:Hp} {key:List Int→Int} {a:Addr} {ns:List Int} (h:H a=some (.tup (ns.map V.int))):keyAt H key (.ref a)=key ns:=by
 show (match H a with | some (.tup l)=>key (l.map fun v=>match v with | .int i=>i | _=>0) | _=>0)=key ns
 rw [h]
 show key ((ns.map V.int).map _)=key ns
 rw [List.map_map]
 congr 1
 exact List.map_id _
section
variable {X:Cx} {k j:Nat} {y:Str} {ps:List Str} {sp:Sp} {e:Expr} {p q kp pos:Pos} {ta:TA}
end
end L2
namespace L2
open PySem PySem.Spec PyProof.Rows PySem.W
end L2
namespace L2
open PySem PySem.Spec PyProof.Rows PySem.W
end L2
namespace L2
open PySem PySem.Spec PyProof.Rows PySem.W
section
variable {P:Program} {w:World} {K:PySem.W.Frag} {mg:Str→Option Value} {base:Heap} {x qual:Str} {st:Stmt} {f c:Addr} {fd:FuncData} {N ps:List Str} {k:Nat} {sp:Sp}
end
end L2
namespace L2
open PySem PySem.Spec PyProof.Rows PySem.W
section
variable {prog:Program} {w:World} {A:Around} {E:Value→Shared→Prop} {s:Shared}
theorem zip_self {vs:List Value} {p:Keyed} (h:p∈vs.zip vs):p.1=p.2∧p.2∈vs:=by
 induction vs with
 | nil=>simp at h
 | cons v r ih =>
  rw [List.zip_cons_cons] at h
  rcases List.mem_cons.mp h with rfl | h
  ·exact ⟨rfl,List.mem_cons_self⟩
  ·exact ⟨(ih h).1,List.mem_cons_of_mem _ (ih h).2⟩
theorem Zfo {a:Addr} {vs:List Value} {n:Nat} {P:PySem.Fin→Shared→Prop} {kd:SortKind} {κ:Value→Int} (ho:s.heap.get? a=some (seqObj "list" vs.toArray n)) (hz:vs.length≤sizeLine)
  (hK:∀ (Q:SortKind→Shared→Prop) (E:Value→Shared→Prop),2≤vs.length→Q kd { s with heap:=Zcx s.heap a vs }→wpAny (model prog w) A (keyKind' vs.toArray) Q E { s with heap:=Zcx s.heap a vs })
  (hL:∀ x∈vs,∀ y∈vs,∀ (C:Bool→Shared→Prop),C (decide (κ x < κ y)) { s with heap:=Zcx s.heap a vs }→wpAny (model prog w) A (keyLt' kd x y) C (fun _ _=>False) { s with heap:=Zcx s.heap a vs })
  (h:∀ zs:List Value,zs.Perm vs→(zs.map κ).Pairwise (·≤·)→P (.done (.ret .none)) { s with heap:=sortedHeap s.heap a vs zs.toArray }) :
  wpAny (model prog w) A (Builtin.«list.sort» ⟨[.ref a],[]⟩) P E s:=by
 rw [list_sort_plain]
 have ha:a < s.heap.objs.size:=Heap.lt_size ho
 refine wpAny_bind (listItems_at ho rfl ?_)
 refine wpAny_bind (listUpdate_at ho rfl ?_ (by rw [List.size_toArray]; exact hz) (Nat.zero_le _))
 obtain ⟨e1,ho1⟩:∃ e1,(s.heap.update a (Obj.mapSeq fun _=>#[])).get? a=some (seqObj "list" #[] e1):=⟨_,get?_update_seq ho (fun _=>#[])⟩
 refine wpAny_bind (seqEpoch_at ho1 rfl ?_)
 refine wpAny_bind (wpAny_newTuple ?_ hz)
 refine wpAny_bind (wpAny_newList ?_ (Nat.zero_le _))
 refine wpAny_holding ?_
 have ho6:(Zcx s.heap a vs).get? a=some (seqObj "list" #[] e1):=by
  unfold Zcx
  rw [Heap.get?_push_ne _ _ _ (by rw [size_push',Heap.size_update]; exact Nat.ne_of_lt (Nat.lt_succ_of_lt ha)),Heap.get?_push_ne _ _ _ (by rw [Heap.size_update]; exact Nat.ne_of_lt ha)]
  exact ho1
 show wpAny (model prog w) A _ P E { s with heap:=Zcx s.heap a vs }
 dsimp only
 have hsz:vs.toArray.size=vs.length:=by simp
 have zl:((vs.toArray.zip vs.toArray).toList:List Keyed)=vs.zip vs:=by simp
 by_cases h2:vs.toArray.size < 2
 ·rw [if_pos h2,if_pos h2]
  refine wpAny_bind (wpAny_pure ?_)
  rw [StateT.run_pure]
  refine wpAny_bind (wpAny_pure ?_)
  dsimp only
  refine wpAny_bind (seqEpoch_at ho6 rfl ?_)
  refine wpAny_bind (listUpdate_at ho6 rfl ?_ (Nat.zero_le _) (by rw [Array.size_map]; show (pairsOf vs).size≤_; rw [pairsOf_size]; omega))
  simp only [bne_self_eq_false,Bool.false_eq_true,if_false]
  have hh:=h vs (List.Perm.refl _) (by
   rw [hsz] at h2
   clear hL hK h ho ho1 ho6 hz zl hsz
   match vs,h2 with
   | [],_=>exact List.Pairwise.nil
   | [x],_=>exact List.pairwise_singleton _ _)
  have e2:(arrOf (SortSt.mk' general' (vs.toArray.zip vs.toArray) #[] 7 none)).map (·.2)=vs.toArray:=by
   show (vs.toArray.zip vs.toArray).map (·.2)=vs.toArray
   apply Array.ext'
   simp [List.map_snd_zip]
  refine wpAny_pure ?_
  rw [e2]
  exact hh
 ·rw [if_neg h2,if_neg h2]
  have h2':2≤vs.length:=by omega
  refine wpAny_bind (hK _ _ h2' ?_)
  refine wpAny_bind (wpAny_mono (Zg4 (A:=A) (E:=E) (s:={ s with heap:=Zcx s.heap a vs }) (M:=model prog w) (kd:=kd) (κ:=fun p=>κ p.1) (S:=fun p=>p∈vs.zip vs) (st:=SortSt.mk' kd (vs.toArray.zip vs.toArray) #[] 7 none)
   (Q:=fun _ st'=>(arrOf st').toList.Perm (vs.zip vs)∧failedOf st'=none∧Rise (fun p:Keyed=>κ p.1) (arrOf st').toList) (ltG_of fun x y hx hy C hc=>hL _ (List.of_mem_zip hx).1 _ (List.of_mem_zip hy).1 C hc) rfl rfl rfl
   (fun x hx=>by rw [← zl]; exact hx) fun u p f r=>⟨by rw [← zl]; exact Array.perm_iff_toList_perm.mp p,f,r⟩) ?_ fun _ _ e=>e)
  rintro ⟨⟨⟩,st'⟩ s' ⟨rfl,hp,hf,hr⟩
  dsimp only
  have hout:(arrOf st').map (·.2)=List.toArray ((arrOf st').toList.map (·.2)):=by
   apply Array.ext'
   rw [Array.toList_map]
  have pz:((arrOf st').toList.map (·.2)).Perm vs:=by
   have:=hp.map (·.2)
   rwa [show (vs.zip vs).map (·.2)=vs from by simp [List.map_snd_zip]] at this
  have sz:(((arrOf st').toList.map (·.2)).map κ).Pairwise (·≤·):=by
   rw [List.map_map]
   have e:(arrOf st').toList.map (κ∘fun x=>x.2)=(arrOf st').toList.map fun p=>κ p.1:=List.map_congr_left fun p hp'=>by
    show κ p.2=κ p.1
    rw [(zip_self (hp.mem_iff.mp hp')).1]
   rw [e]
   exact List.pairwise_map.mpr hr
  rw [hout]
  refine wpAny_bind (seqEpoch_at ho6 rfl ?_)
  refine wpAny_bind (listUpdate_at ho6 rfl ?_ (Nat.zero_le _) (by show (List.toArray _).size≤_; rw [List.size_toArray,pz.length_eq]; omega))
  rw [hf]
  simp only [bne_self_eq_false,Bool.false_eq_true,if_false]
  exact wpAny_pure (h _ pz sz)
theorem sortedN {l:Addr} {vs:List Value} {kd:SortKind} {κ:Value→Int} {Q:Value→Shared→Prop} (hl:s.heap.IsList l vs.toArray) (hz:vs.length≤sizeLine)
  (hK:∀ (h':Heap),(∀ b o,s.heap.get? b=some o→h'.get? b=some o)→∀ (Q:SortKind→Shared→Prop) (E:Value→Shared→Prop),2≤vs.length→Q kd { s with heap:=h' }→wpAny (model prog w) A.in1.in1 (keyKind' vs.toArray) Q E { s with heap:=h' })
  (hL:∀ (h':Heap),(∀ b o,s.heap.get? b=some o→h'.get? b=some o)→∀ x∈vs,∀ y∈vs,∀ (C:Bool→Shared→Prop),C (decide (κ x < κ y)) { s with heap:=h' }→wpAny (model prog w) A.in1.in1 (keyLt' kd x y) C (fun _ _=>False) { s with heap:=h' })
  (h:∀ zs:List Value,zs.Perm vs→(zs.map κ).Pairwise (·≤·)→Q (.ref (s.heap.objs.size+1)) { s with heap:=sortedAll s.heap vs zs.toArray }) :
  wpAny (model prog w) A (call (.builtin "sorted") [.ref l]) Q E s:=by
 refine Calls.call_function_entry kind_sorted plain_sorted entry_sorted (args_sorted1 _) ?_
 unfold Builtin.«sorted»
 refine wpAny_bind (m:=checkCount "sorted" 1 1 _) (wpAny_pure ?_)
 refine wpAny_bind (collect_list hl ?_ hz)
 refine wpAny_bind (wpAny_newList ?_ hz)
 have hsz:((s.heap.push (seqObj "list" #[] 0)).update s.heap.objs.size (Obj.mapSeq (·++vs.toArray))).objs.size=s.heap.objs.size+1:=by
  rw [Heap.size_update,size_push']
 have hoL:(((s.heap.push (seqObj "list" #[] 0)).update s.heap.objs.size (Obj.mapSeq (·++vs.toArray))).push (seqObj "list" vs.toArray 0)).get? (s.heap.objs.size+1)=some (seqObj "list" vs.toArray 0):=by
  rw [← hsz]; exact Heap.get?_push_size _ rfl
 have keep:∀ b o,s.heap.get? b=some o→(((s.heap.push (seqObj "list" #[] 0)).update s.heap.objs.size (Obj.mapSeq (·++vs.toArray))).push (seqObj "list" vs.toArray 0)).get? b=some o:=fun b o q=>by
  have hlt:b < s.heap.objs.size:=Heap.lt_size q
  rw [Heap.get?_push_ne _ _ _ (by rw [hsz]; exact Nat.ne_of_lt (Nat.lt_succ_of_lt hlt)),Heap.get?_update_ne _ _ _ _ (Nat.ne_of_lt hlt),Heap.get?_push_ne _ _ _ (Nat.ne_of_lt hlt)]
  exact q
 show wpAny _ _ _ _ _ { s with heap:=((s.heap.push (seqObj "list" #[] 0)).update s.heap.objs.size (Obj.mapSeq (·++vs.toArray))).push (seqObj "list" vs.toArray 0) }
 rw [hsz]
 have mid:∀ b o,s.heap.get? b=some o→(Zcx (((s.heap.push (seqObj "list" #[] 0)).update s.heap.objs.size (Obj.mapSeq (·++vs.toArray))).push (seqObj "list" vs.toArray 0)) (s.heap.objs.size+1) vs).get? b=some o:=fun b o q =>
  Zi8 (Nat.ne_of_lt (Nat.lt_succ_of_lt (Heap.lt_size q))) (keep b o q)
 refine wpAny_bind (wpAny_holding (wpAny_call_entry slot_list_sort ⟨_,hoL,rfl⟩ entry_list_sort (Zfo (kd:=kd) (κ:=κ) (s:={ s with heap:=((s.heap.push (seqObj "list" #[] 0)).update s.heap.objs.size (Obj.mapSeq (·++vs.toArray))).push (seqObj "list" vs.toArray 0) }) hoL hz (fun Q E h2 hq=>hK _ mid Q E h2 hq) (fun x hx y hy C hc=>hL _ mid x hx y hy C hc) fun zs a1 a2=>⟨_,rfl,?_⟩) (args_list_sort _)))
 exact wpAny_pure ⟨_,rfl,h zs a1 a2⟩
end
section
variable {X:Cx}
def KeyAtA (X:Cx) (A:Around) (σ:St) (H:Hp) (kvs:List V) (kd:SortKind) (κ:Value→Int):Prop:=∀ (ks:List Value) (pins:List (Addr × Obj)) (s:Shared),Vals kvs ks→Inv X pins σ H s →
 (∀ (C:SortKind→Shared→Prop) (E:Value→Shared→Prop),2≤ks.length→C kd s→wpAny (model X.prog X.w) A (keyKind' ks.toArray) C E s) ∧
 ∀ x∈ks,∀ y∈ks,∀ C:Bool→Shared→Prop,C (decide (κ x < κ y)) s→wpAny (model X.prog X.w) A (keyLt' kd x y) C (fun _ _=>False) s
theorem sorted_run {pins:List (Addr × Obj)} {σ:St} {H:Hp} {s:Shared} {p:Addr} {β:Type} {ts:List (Addr × β)} {K:Addr × β→Int} {kd:SortKind} {κ:Value→Int} {Q:VK} (I:Inv X pins σ H s) (hp:SqL X.K H p (ts.map fun t=>V.ref t.1)) (G:KeyAtA X X.A.in1.in1 σ H (ts.map fun t=>V.ref t.1) kd κ) (hκ:∀ t∈ts,κ (.ref t.1)=K t)
  (q:∀ l (ts':List (Addr × β)),H l=none→ts'.Perm ts→(ts'.map K).Pairwise (·≤·)→Q (.ref l) (upd H l (.lst (ts'.map fun t=>V.ref t.1)))):wpAny (model X.prog X.w) X.A (call (.builtin "sorted") [.ref p]) (EP X pins σ Q) X.xe s:=by
 obtain ⟨its,rv,pl,hz⟩:=I.list hp
 have hits:its=ts.map fun t=>Value.ref t.1:=by
  have:=Zff (ts:=ts.map (·.1)) (its:=its) (by rw [List.map_map]; exact rv)
  rw [this,List.map_map]; rfl
 rw [List.length_map] at hz
 have hlen:its.length=ts.length:=by rw [hits,List.length_map]
 refine sortedN (kd:=kd) (κ:=κ) pl.isList (by rw [hlen]; exact hz) (fun h' k Q' E' h2 hq=>?_) (fun h' k x hx y hy C hc=>?_) fun zs pz sz=>?_
 ·exact (G its pins { s with heap:=h' } rv (I.kept (t':=s.toks) k)).1 Q' E' h2 hq
 ·exact (G its pins { s with heap:=h' } rv (I.kept (t':=s.toks) k)).2 x hx y hy C hc
 ·obtain ⟨ts',pt,ez⟩:=perm_pre (f:=fun t:Addr × β=>Value.ref t.1) (l:=zs) (m:=its) pz ts hits
  subst ez
  obtain ⟨e,he⟩:=sortedAll_at s.heap its (List.toArray (ts'.map fun t=>Value.ref t.1))
  have hn:H (s.heap.objs.size+1)=none:=I.hok.fresh (Nat.le_succ _)
  refine ⟨.ref (s.heap.objs.size+1),_,I.laid (o:=.lst (ts'.map fun t=>V.ref t.1)) (t':=s.toks) (fun b o z=>sortedAll_old z) (Nat.le_succ _) ⟨?_,_,e,?_,he⟩,rfl,q _ _ hn pt ?_⟩
  ·rw [List.length_map,pt.length_eq]; exact hz
  ·have:=Zgk (ts'.map (·.1))
   rw [List.map_map,List.map_map] at this
   exact this
  ·rw [List.map_map] at sz
   rw [show ts'.map K=ts'.map (κ∘fun t=>Value.ref t.1) from List.map_congr_left fun t ht=>(hκ t (pt.mem_iff.mp ht)).symm]
   exact sz
end
end L2
namespace L2
open PySem PySem.Spec PyProof.Rows PySem.W
abbrev PR:=Addr × Addr × List Int × V
def keyAtP (H:Hp) (key:List Int→Int):Value→Int
 | .ref a=>match H a with
  | some (.tup (.ref p :: _))=>keyAt H key (.ref p)
  | _=>0
 | _=>0
theorem Zfr {H:Hp} {key:List Int→Int} {a p:Addr} {ns:List Int} {v:V} (h:H a=some (.tup [.ref p,v])) (h2:H p=some (.tup (ns.map V.int))):keyAtP H key (.ref a)=key ns:=by
 show (match H a with | some (.tup (.ref p :: _))=>keyAt H key (.ref p) | _=>0)=key ns
 rw [h]
 exact keyAt_tup h2
def intsD':List Int→Ds
 | []=>.nil
 | i :: r=>.cons (.at (.int i)) (intsD' r)
theorem Zd2 {K:PySem.W.Frag} {H:Hp}:∀ (ns:List Int),DIss K H (intsD' ns) (ns.map V.int)
 | []=>by
  show DIss K H .nil []
  rw [DIss]
 | i :: r=>by
  show DIss K H (.cons (.at (.int i)) (intsD' r)) (.int i :: r.map V.int)
  rw [DIss]
  exact ⟨_,_,rfl,by rw [DIs]; exact ⟨rfl,rfl⟩,Zd2 r⟩
theorem Zel:∀ (ns:List Int),deps (intsD' ns)=0
 | []=>by rw [intsD',deps]
 | i :: r=>by rw [intsD',deps,dep,Zel r]; rfl
theorem Zjd:∀ (ns ms:List Int),deqs (intsD' ns) (intsD' ms)=decide (ns=ms)
 | [],[]=>by rw [intsD',deqs,decide_eq_true rfl]
 | [],j :: q=>by rw [intsD',intsD',deqs,decide_eq_false (by intro z; cases z)] <;> (intros; contradiction)
 | i :: r,[]=>by rw [intsD',intsD',deqs,decide_eq_false (by intro z; cases z)] <;> (intros; contradiction)
 | i :: r,j :: q=>by
  rw [intsD',intsD',deqs,Zjd r q,deq]
  by_cases h:i=j
  ·subst h
   by_cases h2:r=q
   ·subst h2; simp [eqV]
   ·rw [decide_eq_false h2,decide_eq_false (fun z=>h2 (List.cons.inj z).2),Bool.and_false]
  ·rw [decide_eq_false (fun z=>h (List.cons.inj z).1)]
   have:eqV (.int i) (.int j)=false:=by simp [eqV,h]
   rw [this]; rfl
theorem Zer {h:Heap}:∀ {ts:List PR},(∀ t∈ts,∃ m,IsTup h t.1 #[.ref t.2.1,m])→KatTups h (ts.map fun t=>Value.ref t.1) (ts.map fun t=>Value.ref t.2.1)
 | [],_=>KatTups.nil
 | t :: r,hh=>by
  obtain ⟨m,o,ho,hc,n,hd⟩:=hh t List.mem_cons_self
  exact KatTups.cons ho hc hd rfl (Zer fun u hu=>hh u (List.mem_cons_of_mem _ hu))
theorem Zku {X:Cx} {A:Around} {σ:St} {H:Hp} {ts:List PR} {m:Nat} {key:List Int→Int} (hu:A.units+8 < cLine) (ht:∀ t∈ts,H t.1=some (.tup [.ref t.2.1,t.2.2.2])∧H t.2.1=some (.tup (t.2.2.1.map V.int))∧t.2.2.1.length=m+1∧flatV t.2.2.2=true)
  (hkey:∀ t∈ts,∀ u∈ts,HT.lexLt t.2.2.1 u.2.2.1=decide (key t.2.2.1 < key u.2.2.1)) (huq:∀ t∈ts,∀ u∈ts,t.2.2.1=u.2.2.1→t=u):KeyAtA X A σ H (ts.map fun t=>V.ref t.1) (tuples' false) (keyAtP H key):=fun ks pins s rk I=>by
 have hks:ks=ts.map fun t=>Value.ref t.1:=by
  have:=Zff (ts:=ts.map (·.1)) (its:=ks) (by rw [List.map_map]; exact rk)
  rw [this,List.map_map]; rfl
 subst hks
 have tup:∀ t∈ts,(∃ mv,RelV t.2.2.2 mv∧IsTup s.heap t.1 #[.ref t.2.1,mv])∧∃ items,IsTup s.heap t.2.1 items∧IntsAre items.toList t.2.2.1:=fun t htm=>by
  obtain ⟨h1,h2,_,_⟩:=ht t htm
  obtain ⟨_,zs,rz,tz⟩:=(show ObjOk X.prog X.w H s.heap t.1 (.tup [.ref t.2.1,t.2.2.2]) from I.hok _ _ h1)
  obtain ⟨_,zs2,rz2,tz2⟩:=(show ObjOk X.prog X.w H s.heap t.2.1 (.tup (t.2.2.1.map V.int)) from I.hok _ _ h2)
  obtain ⟨u1,u2,rfl,r1,r2⟩:=vals2 rz
  cases r1
  exact ⟨⟨u2,r2,tz⟩,_,tz2,by simpa using intsAre_of rz2⟩
 refine ⟨fun C E h2 hc=>?_,fun x hx y hy C hc=>?_⟩
 ·rw [List.length_map] at h2
  refine kat_kind (T:=Value.type "tuple") (Zer fun t htm=>let ⟨⟨mv,_,z⟩,_⟩:=tup t htm; ⟨mv,z⟩) (by rw [List.length_map]; omega) (fun v hv=>?_) (by decide) hc
  obtain ⟨t,htm,rfl⟩:=List.mem_map.mp hv
  obtain ⟨_,items,⟨o,ho,hcl,_⟩,_⟩:=tup t htm
  rw [← hcl]
  exact (Looks.ld ho).andThen .now
 ·obtain ⟨t,mt,rfl⟩:=List.mem_map.mp hx
  obtain ⟨u,mu,rfl⟩:=List.mem_map.mp hy
  obtain ⟨⟨m1,q1,o1,g1,c1,n1,d1⟩,i1,tp1,z1⟩:=tup t mt
  obtain ⟨⟨m2,q2,o2,g2,c2,n2,d2⟩,i2,tp2,z2⟩:=tup u mu
  obtain ⟨a1,a2,a3,a4⟩:=ht t mt
  obtain ⟨b1,b2,b3,b4⟩:=ht u mu
  rw [Zfr a1 a2,Zfr b1 b2,← hkey t mt u mu] at hc
  refine kat_lt g1 d1 g2 d2 ?_
  have D1:∀ ns,H t.2.1=some (.tup (ns.map V.int))→DIs X.K H (.tup (intsD' ns)) (.ref t.2.1):=fun ns h=>by
   rw [DIs]; exact ⟨_,_,rfl,SqT.of h,Zd2 ns⟩
  have D2:DIs X.K H (.tup (intsD' u.2.2.1)) (.ref u.2.1):=by
   rw [DIs]; exact ⟨_,_,rfl,SqT.of b2,Zd2 _⟩
  have dp:dep (.tup (intsD' t.2.2.1))≤1:=by rw [dep,Zel]; omega
  have eqp:SeqAt.EqAt A s (.ref t.2.1) (.ref u.2.1) (decide (t.2.2.1=u.2.2.1)):=by
   have:=eqAt_D I 1 A (.tup (intsD' t.2.2.1)) (.tup (intsD' u.2.2.1)) (.ref t.2.1) (.ref u.2.1) (.ref t.2.1) (.ref u.2.1) dp (D1 _ a2) D2 rfl rfl (by omega)
   rwa [deq,Zjd] at this
  show KatLex X.prog X.w A false (decide ((#[Value.ref t.2.1,m1]:Array Value).size < (#[Value.ref u.2.1,m2]:Array Value).size)) C [(Value.ref t.2.1,Value.ref u.2.1),(m1,m2)] 0 s
  refine kat_cons (eqp _ _ _ _ (kat_go (fun e=>kat_yes ?_) fun e=>kat_no ?_))
  ·obtain rfl:=huq t mt u mu (of_decide_eq_true e)
   have eqm:SeqAt.EqAt A s m1 m2 true:=by
    have dm:DIs X.K H (.at t.2.2.2) t.2.2.2:=by rw [DIs]; exact ⟨rfl,a4⟩
    have:=eqAt_D I 0 A (.at t.2.2.2) (.at t.2.2.2) t.2.2.2 t.2.2.2 m1 m2 (by rw [dep]; omega) dm dm q1 q2 (by omega)
    rwa [Zcn _ dm] at this
   refine kat_cons (eqm _ _ _ _ (kat_yes (kat_nil ?_)))
   have:HT.lexLt t.2.2.1 t.2.2.1=false:=by rw [hkey t mt t mt]; exact decide_eq_false (by omega)
   rw [this] at hc
   exact hc
  ·rw [show (false && (0 == 0))=false from rfl]
   exact kat_one _ _ (HT.lt_tupInts tp1 tp2 z1 z2 (by omega) hc)
section
variable {X:Cx}
theorem Zet {k:Nat} (hr:Room k X.A):CallR X (.builtin "sorted") (fun xs H Q=>∃ (p:Addr) (ts:List PR) (m:Nat) (key:List Int→Int),xs=[.ref p]∧SqL X.K H p (ts.map fun t=>V.ref t.1) ∧
  (∀ t∈ts,H t.1=some (.tup [.ref t.2.1,t.2.2.2])∧H t.2.1=some (.tup (t.2.2.1.map V.int))∧t.2.2.1.length=m+1∧flatV t.2.2.2=true)∧(∀ t∈ts,∀ u∈ts,HT.lexLt t.2.2.1 u.2.2.1=decide (key t.2.2.1 < key u.2.2.1))∧(∀ t∈ts,∀ u∈ts,t.2.2.1=u.2.2.1→t=u) ∧
  ∀ l (ts':List PR),H l=none→ts'.Perm ts→(ts'.map fun t=>key t.2.2.1).Pairwise (·≤·)→Q (.ref l) (upd H l (.lst (ts'.map fun t=>V.ref t.1)))):=by
 intro pins s σ H xs us Q I r h
 obtain ⟨p,ts,m,key,rfl,hp,ht,hkey,huq,q⟩:=h
 obtain ⟨u,rfl,ru⟩:=vals1 r
 cases ru
 exact sorted_run I hp (Zku (by have:=hr.units; show X.A.units+1+1+8 < _; omega) ht hkey huq) (fun t hm=>Zfr (ht t hm).1 (ht t hm).2.1) q
end
end L2
namespace L2
open PySem PySem.Spec PyProof.Rows
section
variable {X:Cx}
end
section
variable {X:Cx}
end
end L2
namespace L2
open PySem PySem.Spec PyProof.Rows
section
variable {X:Cx}
end
end L2
namespace L2
end L2
namespace HT
open PySem PySem.Spec PyProof.Rows
section
variable {prog:Program} {w:World} {A:Around} {s:Shared} {E:Value→Shared→Prop}
theorem cat_tup0 {t b:Addr} {vs ws:List Value} {Q:Value→Shared→Prop} (ht:IsTup s.heap t vs.toArray) (hb:IsTup s.heap b ws.toArray) (hv:vs=[])
  (h:Q (.ref b) s):wpAny (model prog w) A (binaryOp .Add (.ref t) (.ref b)) Q E s:=by
 obtain ⟨⟨cls,dd,data,sl⟩,ho,hc,n,hd⟩:=id ht
 obtain ⟨⟨cls2,dd2,data2,sl2⟩,ho2,hc2,n2,hd2⟩:=id hb
 simp only at hc hd hc2 hd2
 subst hc hd hc2 hd2
 exact concat_meets ⟨_,ho,rfl⟩ ⟨_,ho2,rfl⟩ noFill_tuple_add seq_tuple_add PySem.F.slot_tuple_add PySem.F.entry_tuple_add (PySem.F.args_tuple_add_2 _ _)
   (tuple_addW0 t b vs.toArray ws.toArray n n2 dd dd2 sl sl2 (by simp [hv])) ⟨ho,ho2,h⟩
theorem getItem_tuple_all {t sl:Addr} {items:Array Value} {vl vu:Value} {lo hi:Option Int} {Q:Value→Shared→Prop} (ht:IsTup s.heap t items) (hs:s.heap.IsSliceOf sl vl vu .none) (pl:IsPart vl lo) (pu:IsPart vu hi)
  (h1:sIx items.size 0 lo=0) (h2:sIx items.size items.size hi=items.size)
  (h:Q (.ref t) s):wpAny (model prog w) A (getItem (.ref t) (.ref sl)) Q E s:=by
 obtain ⟨os,hos,hcs,hds⟩:=id hs
 have hTs:s.TypeIs (.ref sl) "slice":=⟨os,hos,hcs⟩
 unfold getItem
 try with_reducible refine wpAny_holding ?_
 first | refine wpAny_bind (wpAny_pure ?_) | skip
 refine wpAny_bind (wpAny_sequenceKey ht.typeIs (by decide) ?_)
 refine wpAny_bind (wpAny_callSpecial?_slot (name:=Str.ofString "__getitem__") ht.typeIs PyProof.Rows.slot_tuple_getitem
  (wpAny_call_entry PyProof.Rows.slot_tuple_getitem ht.typeIs entry_tuple_getitem ?_ (args_tuple_getitem _ _)))
 show wpAny _ _ (Builtin.Tuple.tupleItemsOf (.ref t) >>= _) _ _ s
 refine wpAny_bind (tupleItemsOf_ ht ?_)
 refine wpAny_bind (wpAny_typeOf hTs ?_)
 rw [if_pos (by decide)]
 refine wpAny_bind (Zde hs pl pu ?_)
 have hyes:(((sIx items.size 0 lo:Nat):Int) == 0 && (1:Int) == 1 && (sIx items.size items.size hi - sIx items.size 0 lo) == items.size)=true:=by
  rw [h1,h2]
  simp
 show wpAny _ _ (if (((sIx items.size 0 lo:Nat):Int) == 0 && (1:Int) == 1 && (sIx items.size items.size hi - sIx items.size 0 lo) == items.size)=true then _ else _) _ _ s
 rw [if_pos hyes]
 refine wpAny_bind (m:=Builtin.Tuple.tupleIsExact _) (wpAny_bind (wpAny_typeOf ht.typeIs (wpAny_pure ?_)))
 rw [if_pos (by decide)]
 first
  | exact wpAny_bind (wpAny_rule (wpAny_bind (wpAny_pure (wpAny_pure ⟨_,rfl,wpAny_pure h⟩))))
  | exact wpAny_bind (wpAny_rule (wpAny_pure ⟨_,rfl,wpAny_pure h⟩))
  | exact wpAny_bind (wpAny_rule (wpAny_bind (wpAny_pure ⟨_,rfl,wpAny_pure h⟩)))
end
end HT
namespace L2
open PySem PySem.Spec PyProof.Rows
section
variable {X:Cx}
def rCatA (K:PySem.W.Frag):R2:=fun x y H Q=>∃ a b xs ys,x=.ref a∧y=.ref b∧SqT K H a xs∧H b=some (.tup ys)∧ys≠[]∧xs.length+ys.length≤sizeLine ∧
 ∀ p H',Same H H'→H' p=some (.tup (xs++ys))→Q (.ref p) H'
theorem op_catA:OpR X (binaryOp .Add) (rCatA X.K):=by
 intro pins s σ H x y v u Q I rx ry h
 obtain ⟨a,b,xs,ys,rfl,rfl,ha,hb,hy,hz,q⟩:=h
 by_cases hx:xs=[]
 ·cases rx
  cases ry
  obtain ⟨its,r1,p1,_⟩:=I.tuple ha
  obtain ⟨its2,r2,p2,_⟩:=I.tuple (SqT.of hb)
  exact HT.cat_tup0 p1 p2 (r1.nil_iff.mpr hx) ⟨.ref b,H,I,rfl,q b H (Same.refl H) (by rw [hx]; exact hb)⟩
 ·exact op_catT pins s σ H (.ref a) (.ref b) v u Q I rx ry ⟨a,b,xs,ys,rfl,rfl,ha,SqT.of hb,hx,hz,fun z=>absurd z hy,fun _ p hp=>q p _ (Same.new hp) upd_same⟩
def rSlA:V→Option Int→Option Int→Hp→VK→Prop:=fun x lo hi H Q=>∃ a xs,x=.ref a∧H a=some (.tup xs) ∧
 ∀ p H',Same H H'→H' p=some (.tup (cutV xs lo hi))→Q (.ref p) H'
theorem Zj8:SlR X rSlA:=by
 intro pins s σ H x v vl vu lo hi sl Q I rx hs pl pu h
 obtain ⟨a,xs,rfl,hx,q⟩:=h
 by_cases hw:HT.sIx xs.length 0 lo=0∧HT.sIx xs.length xs.length hi=xs.length
 ·cases rx
  obtain ⟨its,r,ht,hz⟩:=I.tuple (SqT.of hx)
  have hlen:its.toArray.size=xs.length:=by rw [List.size_toArray]; exact r.length.symm
  refine ⟨"tuple",_,PyProof.Rows.slot_tuple_getitem.lookup,ht.typeIs,?_⟩
  refine HT.getItem_tuple_all ht hs pl pu (by rw [hlen]; exact hw.1) (by rw [hlen]; exact hw.2) ⟨.ref a,H,I,rfl,q a H (Same.refl H) ?_⟩
  unfold cutV
  rw [hw.1,hw.2,List.drop_zero,Nat.sub_zero,List.take_length]
  exact hx
 ·exact sl_tup pins s σ H (.ref a) v vl vu lo hi sl Q I rx hs pl pu ⟨a,xs,rfl,SqT.of hx,hw,fun p hp=>q p _ (Same.new hp) upd_same⟩
end
section
variable {P:Program} {w:World} {K:PySem.W.Frag} {mg:Str→Option Value} {base:Heap} {x qual:Str} {st:Stmt} {f c:Addr} {fd:FuncData} {N ps:List Str} {k:Nat} {sp:Sp}
end
end L2
namespace L2
open PySem PySem.Spec PyProof.Rows PySem.W
section
variable {prog:Program} {w:World} {A:Around} {E:Value→Shared→Prop} {s:Shared}
theorem Zdy {it t:Addr} {i:Nat} {items:Array Value} {x:Value} {Q:Value→Shared→Prop} (hit:s.heap.IsTupleIter it t i) (ht:s.heap.IsTuple t items) (hx:items[i]?=some x)
  (hQ:∀ h',h'.IsTupleIter it t (i+1)→Heap.SameBut it s.heap h'→Q x { s with heap:=h' }):wpAny (model prog w) A (Builtin.SmallTypes.nextOf (.ref it)) Q E s:=by
 obtain ⟨o,ho,hc,hd⟩:=id hit
 obtain ⟨ol,hol,_,nl,hdl⟩:=ht
 unfold Builtin.SmallTypes.nextOf
 refine wpAny_bind (wpAny_callSpecial?_slot (name:=Str.ofString "__next__") hit.typeIs PySem.F.slot_tuple_iterator_next
  (wpAny_call_entry PySem.F.slot_tuple_iterator_next hit.typeIs PySem.F.entry_tuple_iterator_next ?_ (PySem.F.args_tuple_iterator_next_1 _)))
 show wpAny _ _ (field (.ref it) 0 >>= _) _ _ s
 refine wpAny_bind (wpAny_field ho hd (x:=.ref t) rfl ?_)
 show wpAny _ _ (if (Value.ref t == Value.none)=true then _ else _) _ _ s
 rw [if_neg (show ¬ ((Value.ref t == Value.none)=true) from Bool.false_ne_true)]
 show wpAny _ _ (field (.ref it) 1 >>= _) _ _ s
 refine wpAny_bind (wpAny_field ho hd (x:=.int i 0) rfl ?_)
 show wpAny _ _ (seqItems? (.ref t) >>= _) _ _ s
 refine wpAny_bind (wpAny_seqItems hol hdl ?_)
 simp only [Int.toNat_natCast,hx]
 refine wpAny_bind (wpAny_setField ho hd (by simp) (wpAny_pure ⟨x,rfl,wpAny_pure (hQ _ ?_ (Heap.SameBut.update ..))⟩))
 exact ⟨_,Heap.get?_update_self _ ho (Obj.isFreed_of_fields (Obj.data_mapFields hd _)),(Obj.cls_mapFields ..).trans hc,by
  rw [Obj.data_mapFields hd]; simp [rawInt]⟩
theorem Zeq {it t:Addr} {i:Nat} {items:Array Value} {Q:Value→Shared→Prop} (hh:A.handled=none) (hit:s.heap.IsTupleIter it t i) (ht:s.heap.IsTuple t items) (hx:items[i]?=none)
  (hE:∀ h' e,Heap.ExtBut it s.heap h'→(∃ o,h'.get? e=some o∧o.cls=.type "StopIteration")→E (.ref e) { s with heap:=h' }):wpAny (model prog w) A (Builtin.SmallTypes.nextOf (.ref it)) Q E s:=by
 obtain ⟨o,ho,hc,hd⟩:=id hit
 obtain ⟨ol,hol,_,nl,hdl⟩:=ht
 unfold Builtin.SmallTypes.nextOf
 refine wpAny_bind (wpAny_callSpecial?_slot (name:=Str.ofString "__next__") hit.typeIs PySem.F.slot_tuple_iterator_next
  (wpAny_call_entry PySem.F.slot_tuple_iterator_next hit.typeIs PySem.F.entry_tuple_iterator_next ?_ (PySem.F.args_tuple_iterator_next_1 _)))
 show wpAny _ _ (field (.ref it) 0 >>= _) _ _ s
 refine wpAny_bind (wpAny_field ho hd (x:=.ref t) rfl ?_)
 show wpAny _ _ (if (Value.ref t == Value.none)=true then _ else _) _ _ s
 rw [if_neg (show ¬ ((Value.ref t == Value.none)=true) from Bool.false_ne_true)]
 show wpAny _ _ (field (.ref it) 1 >>= _) _ _ s
 refine wpAny_bind (wpAny_field ho hd (x:=.int i 0) rfl ?_)
 show wpAny _ _ (seqItems? (.ref t) >>= _) _ _ s
 refine wpAny_bind (wpAny_seqItems hol hdl ?_)
 simp only [Int.toNat_natCast,hx]
 refine wpAny_bind (wpAny_rule (wpAny_bind (wpAny_setField ho hd (by simp) ?_)))
 show wpAny _ _ (newExc (.type "StopIteration") [] >>= _) _ _ _
 refine wpAny_bind ?_
 simp only [newExc,newTuple]
 refine wpAny_bind (wpAny_newObj_type ?_ (by size_fits))
 refine wpAny_bind (m:=firstArgMember _ _) (wpAny_of_eq (a:=Value.none) (by first | rfl | (simp only [firstArgMember]; rfl)) ?_)
 refine wpAny_newObj_type ?_ (by size_fits)
 simp only [raiseNew]
 refine wpAny_bind (wpAny_handled ?_)
 first | rw [show A.in1.handled=none from hh] | rw [hh]
 refine wpAny_bind (wpAny_pure (wpAny_throw ?_))
 exact hE _ _ (((Heap.SameBut.update ..).extBut.push _).push _) ⟨_,Heap.get?_push_size _ rfl,rfl⟩
abbrev ZipO (h:Heap) (z TI TO:Addr) (f0:Value) (f:Bool):Prop:=h.get? z=some { cls:=.type "zip",dict:=none,data:=.fields #[f0,.bool f,.bool false,.ref TI,.ref TO],slots:=#[] }
structure ZipS (h:Heap) (z TI TO i1 i2 l t:Addr) (xs ys:Array Value) (i:Nat):Prop where
 ti:IsPair h TI (.ref i1) (.ref i2)
 to:∃ a b,IsPair h TO a b
 it1:h.IsListIter i1 l i
 it2:h.IsTupleIter i2 t i
 ls:h.IsList l xs
 tu:h.IsTuple t ys
theorem zip_first {z TI TO i1 i2 l t:Addr} {i:Nat} {xs ys:Array Value} {x y:Value} {Q:Value→Shared→Prop} (D:ZipApart z TI TO i1 i2 l t) (hz:ZipO s.heap z TI TO .none false) (S:ZipS s.heap z TI TO i1 i2 l t xs ys i) (hx:xs[i]?=some x) (hy:ys[i]?=some y)
  (hQ:∀ h',ZipO h' z TI TO (rawInt s.heap.objs.size) false→ZipS h' z TI TO i1 i2 l t xs ys (i+1)→IsPair h' s.heap.objs.size x y→h'.objs.size=s.heap.objs.size+1 →
   (∀ c o,c≠z→c≠TO→c≠i1→c≠i2→s.heap.get? c=some o→h'.get? c=some o)→Q (.ref s.heap.objs.size) { s with heap:=h' }) :
  wpAny (model prog w) A (Builtin.«zip.__next__» ⟨[.ref z],[]⟩) (fun fin s'=>∃ v,fin=.done (.ret v)∧Q v s') E s:=by
 obtain ⟨hTI,⟨a,b,hTO⟩,h1,h2,hl1,hl2⟩:=S
 show wpAny _ _ (field (.ref z) 2 >>= _) _ _ _
 refine wpAny_bind (wpAny_field hz rfl (x:=.bool false) rfl ?_)
 show wpAny _ _ (field (.ref z) 3 >>= _) _ _ _
 refine wpAny_bind (wpAny_field hz rfl (x:=.ref TI) rfl ?_)
 refine wpAny_bind (wpAny_seqItems hTI rfl ?_)
 show wpAny _ _ (Builtin.SmallTypes.ownedTupleIsFree (.ref z) >>= _) _ _ _
 refine wpAny_bind ?_
 unfold Builtin.SmallTypes.ownedTupleIsFree
 refine wpAny_bind (wpAny_field hz rfl (x:=.none) rfl (wpAny_pure ?_))
 simp only [if_true]
 refine wpAny_bind (wpAny_rule ?_)
 refine wpAny_bind (wpAny_field hz rfl (x:=.ref TO) rfl ?_)
 refine wpAny_bind (wpAny_setField_rec hz (by simp) fun h₁ hz₁ hs₁=>?_)
 replace hz₁:ZipO h₁ z TI TO .ellipsis false:=hz₁
 refine wpAny_bind ?_
 simp only [List.zipIdx_cons,List.zipIdx_nil,List.forIn_cons,List.forIn_nil]
 refine wpAny_bind (wpAny_bind (wpAny_onRaise ?_))
 show wpAny _ _ (Builtin.SmallTypes.nextOf (.ref i1) >>= _) _ _ _
 refine wpAny_bind (wpAny_nextOf_list_item (h1.extBut hs₁.extBut D.i1z) (hl1.extBut hs₁.extBut D.l1z) hx fun h₂ h1₂ hs₂=>wpAny_pure ?_)
 have hTO₂:IsPair h₂ TO a b:=hs₂.extBut _ _ D.TOi1 (hs₁.extBut _ _ D.TOz hTO)
 refine wpAny_bind (wpAny_seqItems hTO₂ rfl ?_)
 refine wpAny_bind (wpAny_updateSeq_pair hTO₂ fun h₃ hTO₃ hs₃=>?_)
 replace hTO₃:IsPair h₃ TO x b:=hTO₃
 refine wpAny_bind (wpAny_letGo (wpAny_pure ?_))
 refine wpAny_bind (wpAny_bind (wpAny_onRaise ?_))
 show wpAny _ _ (Builtin.SmallTypes.nextOf (.ref i2) >>= _) _ _ _
 refine wpAny_bind (Zdy (((h2.extBut hs₁.extBut D.i2z).extBut hs₂.extBut D.i12.symm).extBut hs₃.extBut D.TOi2.symm)
  (((hl2.extBut hs₁.extBut D.l2z).extBut hs₂.extBut D.l2i1).extBut hs₃.extBut D.l2TO) hy fun h₄ h2₄ hs₄=>wpAny_pure ?_)
 have hTO₄:IsPair h₄ TO x b:=hs₄.extBut _ _ D.TOi2 hTO₃
 refine wpAny_bind (wpAny_seqItems hTO₄ rfl ?_)
 refine wpAny_bind (wpAny_updateSeq_pair hTO₄ fun h₅ hTO₅ hs₅=>?_)
 replace hTO₅:IsPair h₅ TO x y:=hTO₅
 refine wpAny_bind (wpAny_letGo (wpAny_pure (wpAny_pure ?_)))
 refine wpAny_bind (wpAny_seqItems hTO₅ rfl ?_)
 refine wpAny_bind (wpAny_newTuple ?_)
 have hsz:h₅.objs.size=s.heap.objs.size:=by rw [hs₅.1,hs₄.1,hs₃.1,hs₂.1,hs₁.1]
 have hz₅:ZipO h₅ z TI TO .ellipsis false:=hs₅.extBut _ _ D.TOz.symm (hs₄.extBut _ _ D.i2z.symm (hs₃.extBut _ _ D.TOz.symm (hs₂.extBut _ _ D.i1z.symm hz₁)))
 have hk₅:∀ c o,c≠z→c≠TO→c≠i1→c≠i2→s.heap.get? c=some o→h₅.get? c=some o:=fun c o c1 c2 c3 c4 e =>
  hs₅.extBut _ _ c2 (hs₄.extBut _ _ c4 (hs₃.extBut _ _ c2 (hs₂.extBut _ _ c3 (hs₁.extBut _ _ c1 e))))
 have h1₅:h₅.IsListIter i1 l (i+1):=((h1₂.extBut hs₃.extBut D.TOi1.symm).extBut hs₄.extBut D.i12).extBut hs₅.extBut D.TOi1.symm
 have h2₅:h₅.IsTupleIter i2 t (i+1):=h2₄.extBut hs₅.extBut D.TOi2.symm
 have hzlt:z < h₅.objs.size:=Heap.lt_size hz₅
 show wpAny _ _ (Builtin.SmallTypes.ownedTupleHandOut (.ref z) (.ref h₅.objs.size) >>= _) _ _ _
 refine wpAny_bind ?_
 unfold Builtin.SmallTypes.ownedTupleHandOut
 have hz₆:ZipO (h₅.push { cls:=.type "tuple",data:=.seq #[x,y] }) z TI TO .ellipsis false:=Heap.get?_push_of_some _ hz₅
 refine wpAny_bind (wpAny_setField_rec hz₆ (by simp) fun h₇ hz₇ hs₇=>?_)
 replace hz₇:ZipO h₇ z TI TO (rawInt h₅.objs.size) false:=hz₇
 refine wpAny_setField_rec hz₇ (by simp) fun h₈ hz₈ hs₈=>?_
 replace hz₈:ZipO h₈ z TI TO (rawInt h₅.objs.size) false:=hz₈
 have up:∀ c o,c≠z→h₅.get? c=some o→h₈.get? c=some o:=fun c o c1 e=>hs₈.extBut _ _ c1 (hs₇.extBut _ _ c1 (Heap.get?_push_of_some _ e))
 have hT₈:IsPair h₈ h₅.objs.size x y:=hs₈.extBut _ _ (Nat.ne_of_gt hzlt) (hs₇.extBut _ _ (Nat.ne_of_gt hzlt) (Heap.get?_push_size _ rfl))
 have hz8:h₈.objs.size=h₅.objs.size+1:=by rw [hs₈.1,hs₇.1,Heap.size_push]
 rw [hsz] at hz₈ hT₈ hz8
 refine wpAny_pure ⟨_,rfl,?_⟩
 show Q (.ref h₅.objs.size) _
 rw [hsz]
 have upk:∀ c o,c≠z→c≠TO→c≠i1→c≠i2→s.heap.get? c=some o→h₈.get? c=some o:=fun c o c1 c2 c3 c4 e=>up c o c1 (hk₅ c o c1 c2 c3 c4 e)
 exact hQ h₈ hz₈ ⟨upk _ _ D.TIz D.TITO D.TIi1 D.TIi2 hTI,⟨_,_,up _ _ D.TOz hTO₅⟩,h1₅.at fun o e=>up _ o D.i1z e,let ⟨o,e,r⟩:=h2₅; ⟨o,up _ o D.i2z e,r⟩,hl1.at fun o e=>upk _ o D.l1z D.l1TO D.l1i1 D.l1i2 e,let ⟨o,e,r⟩:=hl2; ⟨o,upk _ o D.l2z D.l2TO D.l2i1 D.l2i2 e,r⟩⟩ hT₈ hz8 upk
theorem owned_no {z TI TO a:Addr} {f:Bool} {oa:Obj} {Q:Bool→Shared→Prop} (hz:ZipO s.heap z TI TO (rawInt a) f) (ha:s.heap.get? a=some oa) (hQ:∀ h',ZipO h' z TI TO (rawInt a) true→Heap.SameBut z s.heap h'→Q false { s with heap:=h' }):wpAny (model prog w) A (Builtin.SmallTypes.ownedTupleIsFree (.ref z)) Q E s:=by
 unfold Builtin.SmallTypes.ownedTupleIsFree
 refine wpAny_bind (wpAny_field hz rfl (x:=rawInt a) rfl ?_)
 show wpAny _ _ (loadIfAlive ((a:Int).toNat) >>= _) _ _ _
 rw [Int.toNat_natCast]
 refine wpAny_bind (kdx_alive ha ?_)
 simp only [Option.isNone_some,Bool.false_eq_true,if_false]
 refine wpAny_bind (wpAny_field hz rfl (x:=.bool f) rfl ?_)
 cases f with
 | true =>
  rw [if_neg (show ¬ ((Value.bool true != Value.bool true)=true) from Bool.false_ne_true)]
  exact wpAny_pure (hQ s.heap hz (Heap.SameBut.refl _ _))
 | false =>
  rw [if_pos (show (Value.bool false != Value.bool true)=true from rfl)]
  exact wpAny_bind (wpAny_setField_rec hz (by simp) fun h₃ hz₃ hs₃=>wpAny_pure (hQ h₃ hz₃ hs₃))
theorem zip_out {z TI TO i1 i2 l t a:Addr} {f:Bool} {oa:Obj} {i:Nat} {xs ys:Array Value} {x y:Value} {Q:Value→Shared→Prop} (D:ZipApart z TI TO i1 i2 l t) (hz:ZipO s.heap z TI TO (rawInt a) f) (ha:s.heap.get? a=some oa) (S:ZipS s.heap z TI TO i1 i2 l t xs ys i) (hx:xs[i]?=some x) (hy:ys[i]?=some y)
  (hQ:∀ h',ZipO h' z TI TO (rawInt a) true→ZipS h' z TI TO i1 i2 l t xs ys (i+1)→IsPair h' s.heap.objs.size x y→h'.objs.size=s.heap.objs.size+1 →
   (∀ c o,c≠z→c≠TO→c≠i1→c≠i2→s.heap.get? c=some o→h'.get? c=some o)→Q (.ref s.heap.objs.size) { s with heap:=h' }) :
  wpAny (model prog w) A (Builtin.«zip.__next__» ⟨[.ref z],[]⟩) (fun fin s'=>∃ v,fin=.done (.ret v)∧Q v s') E s:=by
 obtain ⟨hTI,⟨a0,b0,hTO⟩,h1,h2,hl1,hl2⟩:=S
 show wpAny _ _ (field (.ref z) 2 >>= _) _ _ _
 refine wpAny_bind (wpAny_field hz rfl (x:=.bool false) rfl ?_)
 show wpAny _ _ (field (.ref z) 3 >>= _) _ _ _
 refine wpAny_bind (wpAny_field hz rfl (x:=.ref TI) rfl ?_)
 refine wpAny_bind (wpAny_seqItems hTI rfl ?_)
 show wpAny _ _ (Builtin.SmallTypes.ownedTupleIsFree (.ref z) >>= _) _ _ _
 refine wpAny_bind (owned_no hz ha fun h₁ hz₁ hs₁=>?_)
 simp only [Bool.false_eq_true,if_false]
 refine wpAny_bind ?_
 rw [← Array.forIn_toList]
 simp only [List.forIn_cons,List.forIn_nil]
 refine wpAny_bind (wpAny_bind (wpAny_holding ?_))
 show wpAny _ _ (Builtin.SmallTypes.nextOf (.ref i1) >>= _) _ _ _
 refine wpAny_bind (wpAny_nextOf_list_item (h1.extBut hs₁.extBut D.i1z) (hl1.extBut hs₁.extBut D.l1z) hx fun h₂ h1₂ hs₂=>wpAny_pure ?_)
 refine wpAny_pure ?_
 refine wpAny_bind (wpAny_bind (wpAny_holding ?_))
 show wpAny _ _ (Builtin.SmallTypes.nextOf (.ref i2) >>= _) _ _ _
 refine wpAny_bind (Zdy ((h2.extBut hs₁.extBut D.i2z).extBut hs₂.extBut D.i12.symm) ((hl2.extBut hs₁.extBut D.l2z).extBut hs₂.extBut D.l2i1) hy fun h₃ h2₃ hs₃=>wpAny_pure ?_)
 refine wpAny_pure (wpAny_pure ?_)
 refine wpAny_bind ?_
 show wpAny _ _ (newTuple [x,y]) _ _ _
 refine wpAny_newTuple (wpAny_pure ⟨_,rfl,?_⟩)
 have hsz:h₃.objs.size=s.heap.objs.size:=by rw [hs₃.1,hs₂.1,hs₁.1]
 have hz₃:ZipO h₃ z TI TO (rawInt a) true:=hs₃.extBut _ _ D.i2z.symm (hs₂.extBut _ _ D.i1z.symm hz₁)
 have hk₃:∀ c o,c≠z→c≠i1→c≠i2→s.heap.get? c=some o→h₃.get? c=some o:=fun c o c1 c3 c4 e=>hs₃.extBut _ _ c4 (hs₂.extBut _ _ c3 (hs₁.extBut _ _ c1 e))
 have h1₃:h₃.IsListIter i1 l (i+1):=h1₂.extBut hs₃.extBut D.i12
 have hT:IsPair (h₃.push { cls:=.type "tuple",data:=.seq #[x,y] }) h₃.objs.size x y:=Heap.get?_push_size _ rfl
 show Q (.ref h₃.objs.size) { s with heap:=h₃.push { cls:=.type "tuple",data:=.seq #[x,y] } }
 have hz8:(h₃.push { cls:=.type "tuple",data:=.seq #[x,y] }).objs.size=s.heap.objs.size+1:=by rw [Heap.size_push,hsz]
 have up:∀ c o,h₃.get? c=some o→(h₃.push { cls:=.type "tuple",data:=.seq #[x,y] }).get? c=some o:=fun c o e=>Heap.get?_push_of_some _ e
 rw [hsz] at hT ⊢
 generalize h₃.push { cls:=.type "tuple",data:=.seq #[x,y] }=h₈ at hT hz8 up ⊢
 have upk:∀ c o,c≠z→c≠TO→c≠i1→c≠i2→s.heap.get? c=some o→h₈.get? c=some o:=fun c o c1 _ c3 c4 e=>up c o (hk₃ c o c1 c3 c4 e)
 exact hQ h₈ (up _ _ hz₃) ⟨upk _ _ D.TIz D.TITO D.TIi1 D.TIi2 hTI,⟨_,_,up _ _ (hk₃ _ _ D.TOz D.TOi1 D.TOi2 hTO)⟩,h1₃.at fun o e=>up _ o e,let ⟨o,e,r⟩:=h2₃; ⟨o,up _ o e,r⟩,hl1.at fun o e=>upk _ o D.l1z D.l1TO D.l1i1 D.l1i2 e,let ⟨o,e,r⟩:=hl2; ⟨o,upk _ o D.l2z D.l2TO D.l2i1 D.l2i2 e,r⟩⟩ hT hz8 upk
theorem zip_end {z TI TO i1 i2 l t:Addr} {f0:Value} {f:Bool} {i:Nat} {xs ys:Array Value} {x:Value} {Q:Fin→Shared→Prop} (hh:A.handled=none) (D:ZipApart z TI TO i1 i2 l t) (hz:ZipO s.heap z TI TO f0 f) (h0:(f0=.none∧f=false)∨∃ (a:Addr) (oa:Obj),f0=rawInt a∧s.heap.get? a=some oa) (S:ZipS s.heap z TI TO i1 i2 l t xs ys i) (hx:xs[i]?=some x) (hy:ys[i]?=none)
  (hE:∀ h' e,(∀ c o,c≠z→c≠TO→c≠i1→c≠i2→s.heap.get? c=some o→h'.get? c=some o)→(∃ o,h'.get? e=some o∧o.cls=.type "StopIteration")→E (.ref e) { s with heap:=h' }) :
  wpAny (model prog w) A (Builtin.«zip.__next__» ⟨[.ref z],[]⟩) Q E s:=by
 obtain ⟨hTI,⟨a0,b0,hTO⟩,h1,h2,hl1,hl2⟩:=S
 show wpAny _ _ (field (.ref z) 2 >>= _) _ _ _
 refine wpAny_bind (wpAny_field hz rfl (x:=.bool false) rfl ?_)
 show wpAny _ _ (field (.ref z) 3 >>= _) _ _ _
 refine wpAny_bind (wpAny_field hz rfl (x:=.ref TI) rfl ?_)
 refine wpAny_bind (wpAny_seqItems hTI rfl ?_)
 show wpAny _ _ (Builtin.SmallTypes.ownedTupleIsFree (.ref z) >>= _) _ _ _
 rcases h0 with ⟨rfl,rfl⟩ | ⟨a,oa,rfl,ha⟩
 ·refine wpAny_bind ?_
  unfold Builtin.SmallTypes.ownedTupleIsFree
  refine wpAny_bind (wpAny_field hz rfl (x:=.none) rfl (wpAny_pure ?_))
  simp only [if_true]
  refine wpAny_bind (wpAny_rule ?_)
  refine wpAny_bind (wpAny_field hz rfl (x:=.ref TO) rfl ?_)
  refine wpAny_bind (wpAny_setField_rec hz (by simp) fun h₁ hz₁ hs₁=>?_)
  replace hz₁:ZipO h₁ z TI TO .ellipsis false:=hz₁
  refine wpAny_bind ?_
  simp only [List.zipIdx_cons,List.zipIdx_nil,List.forIn_cons,List.forIn_nil]
  refine wpAny_bind (wpAny_bind (wpAny_onRaise ?_))
  show wpAny _ _ (Builtin.SmallTypes.nextOf (.ref i1) >>= _) _ _ _
  refine wpAny_bind (wpAny_nextOf_list_item (h1.extBut hs₁.extBut D.i1z) (hl1.extBut hs₁.extBut D.l1z) hx fun h₂ h1₂ hs₂=>wpAny_pure ?_)
  have hTO₂:IsPair h₂ TO a0 b0:=hs₂.extBut _ _ D.TOi1 (hs₁.extBut _ _ D.TOz hTO)
  refine wpAny_bind (wpAny_seqItems hTO₂ rfl ?_)
  refine wpAny_bind (wpAny_updateSeq_pair hTO₂ fun h₃ hTO₃ hs₃=>?_)
  refine wpAny_bind (wpAny_letGo (wpAny_pure ?_))
  refine wpAny_bind (wpAny_bind (wpAny_onRaise ?_))
  show wpAny _ _ (Builtin.SmallTypes.nextOf (.ref i2) >>= _) _ _ _
  refine wpAny_bind (Zeq hh (((h2.extBut hs₁.extBut D.i2z).extBut hs₂.extBut D.i12.symm).extBut hs₃.extBut D.TOi2.symm)
   (((hl2.extBut hs₁.extBut D.l2z).extBut hs₂.extBut D.l2i1).extBut hs₃.extBut D.l2TO) hy fun h₄ e hs₄ he=>?_)
  obtain ⟨oe,hoe,hce⟩:=he
  have hz₄:ZipO h₄ z TI TO .ellipsis false:=hs₄ _ _ D.i2z.symm (hs₃.extBut _ _ D.TOz.symm (hs₂.extBut _ _ D.i1z.symm hz₁))
  have hez:e≠z:=fun x=>by subst x; rw [hz₄] at hoe; cases hoe; simp at hce
  refine wpAny_setField_rec hz₄ (by simp) fun h₅ _ hs₅=>hE h₅ e (fun c o c1 c2 c3 c4 x=>hs₅.extBut _ _ c1 (hs₄ _ _ c4 (hs₃.extBut _ _ c2 (hs₂.extBut _ _ c3 (hs₁.extBut _ _ c1 x))))) ⟨oe,hs₅.extBut _ _ hez hoe,hce⟩
 ·refine wpAny_bind (owned_no hz ha fun h₁ hz₁ hs₁=>?_)
  simp only [Bool.false_eq_true,if_false]
  refine wpAny_bind ?_
  rw [← Array.forIn_toList]
  simp only [List.forIn_cons,List.forIn_nil]
  refine wpAny_bind (wpAny_bind (wpAny_holding ?_))
  show wpAny _ _ (Builtin.SmallTypes.nextOf (.ref i1) >>= _) _ _ _
  refine wpAny_bind (wpAny_nextOf_list_item (h1.extBut hs₁.extBut D.i1z) (hl1.extBut hs₁.extBut D.l1z) hx fun h₂ h1₂ hs₂=>wpAny_pure ?_)
  refine wpAny_pure ?_
  refine wpAny_bind (wpAny_bind (wpAny_holding ?_))
  show wpAny _ _ (Builtin.SmallTypes.nextOf (.ref i2) >>= _) _ _ _
  exact wpAny_bind (Zeq hh ((h2.extBut hs₁.extBut D.i2z).extBut hs₂.extBut D.i12.symm) ((hl2.extBut hs₁.extBut D.l2z).extBut hs₂.extBut D.l2i1) hy fun h₄ e hs₄ he=>hE h₄ e (fun c o c1 c2 c3 c4 x=>hs₄ _ _ c4 (hs₂.extBut _ _ c3 (hs₁.extBut _ _ c1 x))) he)
abbrev zpH1 (h:Heap) (l:Addr):Heap:=h.push { cls:=.type "list_iterator",data:=.fields #[.ref l,.int 0 0] }
abbrev zpH2 (h:Heap) (l t:Addr):Heap:=(zpH1 h l).push { cls:=.type "tuple_iterator",data:=.fields #[.ref t,.int 0 0] }
abbrev zpH3 (h:Heap) (l t:Addr):Heap:=(zpH2 h l t).push { cls:=.type "tuple",data:=.seq #[.ref h.objs.size,.ref (zpH1 h l).objs.size] }
abbrev zpH4 (h:Heap) (l t:Addr):Heap:=(zpH3 h l t).push { cls:=.type "tuple",data:=.seq #[.none,.none] }
abbrev zpH5 (h:Heap) (l t:Addr):Heap:=(zpH4 h l t).push { cls:=.type "zip",data:=.fields #[.none,.bool false,.bool false,.ref (zpH2 h l t).objs.size,.ref (zpH3 h l t).objs.size] }
theorem zpH {h:Heap} {l t:Addr} {xs ys:Array Value} (hl:h.IsList l xs) (ht:h.IsTuple t ys):(zpH4 h l t).objs.size=h.objs.size+4∧ZipO (zpH5 h l t) (h.objs.size+4) (h.objs.size+2) (h.objs.size+3) .none false∧ZipS (zpH5 h l t) (h.objs.size+4) (h.objs.size+2) (h.objs.size+3) h.objs.size (h.objs.size+1) l t xs ys 0∧(zpH5 h l t).objs.size=h.objs.size+5∧∀ c o,h.get? c=some o→(zpH5 h l t).get? c=some o:=by
 have z1:(zpH1 h l).objs.size=h.objs.size+1:=Heap.size_push ..
 have z2:(zpH2 h l t).objs.size=h.objs.size+2:=by rw [Heap.size_push,z1]
 have z3:(zpH3 h l t).objs.size=h.objs.size+3:=by rw [Heap.size_push,z2]
 have z4:(zpH4 h l t).objs.size=h.objs.size+4:=by rw [Heap.size_push,z3]
 have z5:(zpH5 h l t).objs.size=h.objs.size+5:=by rw [Heap.size_push,z4]
 have g5:(zpH5 h l t).get? (zpH4 h l t).objs.size=some _:=Heap.get?_push_size _ rfl
 have g4:(zpH5 h l t).get? (zpH3 h l t).objs.size=some _:=Heap.get?_push_of_some _ (Heap.get?_push_size _ rfl)
 have g3:(zpH5 h l t).get? (zpH2 h l t).objs.size=some _:=Heap.get?_push_of_some _ (Heap.get?_push_of_some _ (Heap.get?_push_size _ rfl))
 have g2:(zpH5 h l t).get? (zpH1 h l).objs.size=some _:=Heap.get?_push_of_some _ (Heap.get?_push_of_some _ (Heap.get?_push_of_some _ (Heap.get?_push_size _ rfl)))
 have g1:(zpH5 h l t).get? h.objs.size=some _:=Heap.get?_push_of_some _ (Heap.get?_push_of_some _ (Heap.get?_push_of_some _ (Heap.get?_push_of_some _ (Heap.get?_push_size _ rfl))))
 have k:∀ c o,h.get? c=some o→(zpH5 h l t).get? c=some o:=fun c o x=>Heap.get?_push_of_some _ (Heap.get?_push_of_some _ (Heap.get?_push_of_some _ (Heap.get?_push_of_some _ (Heap.get?_push_of_some _ x))))
 rw [z2,z3,z4] at g5
 rw [z1,z2] at g3
 rw [z3] at g4
 rw [z1] at g2
 exact ⟨z4,g5,⟨g3,⟨_,_,g4⟩,⟨_,g1,rfl,rfl⟩,⟨_,g2,rfl,rfl⟩,hl.at fun o e=>k _ o e,let ⟨o,e,r⟩:=ht; ⟨o,k _ o e,r⟩⟩,z5,k⟩
theorem zip_newT (l t:Addr) (xs ys:Array Value) :
  Meets (Builtin.«zip.__new__» ⟨[.type "zip",.ref l,.ref t],[]⟩) (fun _ R s=>s.heap.IsList l xs∧s.heap.IsTuple t ys ∧
   ∀ h',ZipO h' (s.heap.objs.size+4) (s.heap.objs.size+2) (s.heap.objs.size+3) .none false→ZipS h' (s.heap.objs.size+4) (s.heap.objs.size+2) (s.heap.objs.size+3) s.heap.objs.size (s.heap.objs.size+1) l t xs ys 0→h'.objs.size=s.heap.objs.size+5 →
    (∀ c o,s.heap.get? c=some o→h'.get? c=some o)→R (.ok (.ret (.ref (s.heap.objs.size+4)))) { s with heap:=h' }) :=
 .of_wp fun prog w A R s h=>by
  obtain ⟨hp,g,d,tk,os⟩:=s; obtain ⟨hl1,hl2,h⟩:=h
  have hsub:=sub_zip
  have hL1:Heap.IsList (Shared.heap ⟨hp,g,d,tk,os⟩) l xs:=hl1
  have hL2:Heap.IsTuple (Shared.heap ⟨hp.push { cls:=.type "list_iterator",data:=.fields #[.ref l,.int 0 0] },g,d,tk,os⟩) t ys:=Heap.IsTuple.push hl2 _
  wp_walk using wpAny_pyIter_list hL1,wpAny_pyIter_tuple hL2
  refine ⟨_,rfl,?_⟩
  show R (.ok (.ret (.ref (zpH4 hp l t).objs.size))) ⟨zpH5 hp l t,g,d,tk,os⟩
  obtain ⟨z4,a1,a2,a3,a4⟩:=zpH hl1 hl2
  rw [show (zpH4 hp l t).objs.size=hp.objs.size+4 from z4]
  exact h _ a1 a2 a3 a4
theorem zip_made {l t:Addr} {xs ys:Array Value} {Q:Value→Shared→Prop} (hl:s.heap.IsList l xs) (ht:s.heap.IsTuple t ys)
  (h:∀ h',ZipO h' (s.heap.objs.size+4) (s.heap.objs.size+2) (s.heap.objs.size+3) .none false→ZipS h' (s.heap.objs.size+4) (s.heap.objs.size+2) (s.heap.objs.size+3) s.heap.objs.size (s.heap.objs.size+1) l t xs ys 0→h'.objs.size=s.heap.objs.size+5 →
   (∀ c o,s.heap.get? c=some o→h'.get? c=some o)→Q (.ref (s.heap.objs.size+4)) { s with heap:=h' }):wpAny (model prog w) A (call (.type "zip") [.ref l,.ref t]) Q E s:=by
 refine callType_new PySem.F.called_zip (by decide) (PySem.F.typeCall_zip_2 _ _) (PySem.F.newCall_zip_2 _ _) (fun obj=>PySem.F.args_object_init_3 obj _ _) PySem.F.entry_zip_new (zip_newT l t xs ys) ⟨hl,ht,fun h' a1 a2 a3 a4=>?_⟩
 exact ⟨⟨_,a1,rfl⟩,h h' a1 a2 a3 a4⟩
end
theorem zip_no_len:typeLookup (.type "zip") "__len__"=pure none:=by rw [typeLookup_type,builtinLookup_eq_fast]; kernel_rfl
theorem Zjw:typeLookup (.type "zip") "__length_hint__"=pure none:=by rw [typeLookup_type,builtinLookup_eq_fast]; kernel_rfl
structure PrsG (xs ys:Array Value) (lo:Addr) (h:Heap) (as:List Addr):Prop where
 rise:as.Pairwise (· < ·)
 above:∀ a∈as,lo≤a
 pairs:∀ (j:Nat) (a:Addr),as[j]?=some a→∃ x y,xs[j]?=some x∧ys[j]?=some y∧IsPair h a x y
theorem PrsG.keep {xs ys:Array Value} {lo:Addr} {h h':Heap} {as:List Addr} (g:PrsG xs ys lo h as) (k:∀ b o,lo≤b→h.get? b=some o→h'.get? b=some o):PrsG xs ys lo h' as:=⟨g.rise,g.above,fun j a hj=>let ⟨x,y,e1,e2,e3⟩:=g.pairs j a hj; ⟨x,y,e1,e2,k _ _ (g.above a (List.mem_of_getElem? hj)) e3⟩⟩
theorem PrsG.lt {xs ys:Array Value} {lo:Addr} {h:Heap} {as:List Addr} (g:PrsG xs ys lo h as) {a:Addr} (ha:a∈as):a < h.objs.size:=by
 obtain ⟨j,hj⟩:=List.mem_iff_getElem?.mp ha
 obtain ⟨_,_,_,_,e⟩:=g.pairs j a hj
 exact Heap.lt_size e
section
variable {prog:Program} {w:World} {A:Around} {s:Shared} {R:Result→Shared→Prop} {z TI TO i1 i2 l t S lo:Addr} {xs ys:Array Value}
def ZSt (h:Heap) (z TI TO lo:Addr) (i:Nat):Prop:=(i=0∧ZipO h z TI TO .none false)∨∃ (a:Addr) (f:Bool) (oa:Obj),ZipO h z TI TO (rawInt a) f∧h.get? a=some oa∧lo≤a
theorem pn_item {E:Value→Shared→Prop} {i:Nat} {x y:Value} {Q:Option Value→Shared→Prop} (D:ZipApart z TI TO i1 i2 l t) (hzl:z < lo∧TO < lo∧i1 < lo∧i2 < lo) (hst:ZSt s.heap z TI TO lo i) (Z:ZipS s.heap z TI TO i1 i2 l t xs ys i) (hx:xs[i]?=some x) (hy:ys[i]?=some y) (hlo:lo≤s.heap.objs.size)
  (hQ:∀ h',ZSt h' z TI TO lo (i+1)→ZipS h' z TI TO i1 i2 l t xs ys (i+1)→IsPair h' s.heap.objs.size x y→h'.objs.size=s.heap.objs.size+1→(∀ c o,c≠z→c≠TO→c≠i1→c≠i2→s.heap.get? c=some o→h'.get? c=some o)→Q (some (.ref s.heap.objs.size)) { s with heap:=h' }) :
  wpAny (model prog w) A (pyNext (.ref z)) Q E s:=by
 have hT:s.TypeIs (.ref z) "zip":=by
  rcases hst with ⟨_,q⟩ | ⟨_,_,_,q,_⟩
  ·exact ⟨_,q,rfl⟩
  ·exact ⟨_,q,rfl⟩
 unfold pyNext
 refine wpAny_bind (wpAny_attempt (wpAny_callSpecial?_slot (name:=Str.ofString "__next__") hT PySem.F.slot_zip_next (wpAny_call_entry PySem.F.slot_zip_next hT PySem.F.entry_zip_next ?_ (PySem.F.args_zip_next_1 _))))
 rcases hst with ⟨rfl,q⟩ | ⟨a,f,oa,q,ha,hal⟩
 ·exact zip_first D q Z hx hy fun h' a1 a2 a3 a4 a5=>wpAny_pure (hQ h' (.inr ⟨_,_,_,a1,a3,hlo⟩) a2 a3 a4 a5)
 ·exact zip_out D q ha Z hx hy fun h' a1 a2 a3 a4 a5=>wpAny_pure (hQ h' (.inr ⟨a,true,oa,a1,a5 a oa (Nat.ne_of_gt (Nat.lt_of_lt_of_le hzl.1 hal)) (Nat.ne_of_gt (Nat.lt_of_lt_of_le hzl.2.1 hal)) (Nat.ne_of_gt (Nat.lt_of_lt_of_le hzl.2.2.1 hal)) (Nat.ne_of_gt (Nat.lt_of_lt_of_le hzl.2.2.2 hal)) ha,hal⟩) a2 a3 a4 a5)
theorem pn_end {E:Value→Shared→Prop} {i:Nat} {x:Value} {Q:Option Value→Shared→Prop} (hh:A.handled=none) (D:ZipApart z TI TO i1 i2 l t) (hst:ZSt s.heap z TI TO lo i) (Z:ZipS s.heap z TI TO i1 i2 l t xs ys i) (hx:xs[i]?=some x) (hy:ys[i]?=none)
  (hQ:∀ h',(∀ c o,c≠z→c≠TO→c≠i1→c≠i2→s.heap.get? c=some o→h'.get? c=some o)→Q none { s with heap:=h' }):wpAny (model prog w) A (pyNext (.ref z)) Q E s:=by
 have hT:s.TypeIs (.ref z) "zip":=by
  rcases hst with ⟨_,q⟩ | ⟨_,_,_,q,_⟩
  ·exact ⟨_,q,rfl⟩
  ·exact ⟨_,q,rfl⟩
 unfold pyNext
 refine wpAny_bind (wpAny_attempt (wpAny_callSpecial?_slot (name:=Str.ofString "__next__") hT PySem.F.slot_zip_next (wpAny_call_entry PySem.F.slot_zip_next hT PySem.F.entry_zip_next ?_ (PySem.F.args_zip_next_1 _))))
 rcases hst with ⟨rfl,q⟩ | ⟨a,f,oa,q,ha,hal⟩
 ·refine zip_end hh D q (.inl ⟨rfl,rfl⟩) Z hx hy fun h' e a1 ⟨o,a2,a3⟩=>?_
  refine wpAny_bind (wpAny_isInstance (T:="StopIteration") (b:=true) ⟨o,a2,a3⟩ isSubtype_stop ?_)
  exact wpAny_pure (hQ _ a1)
 ·refine zip_end hh D q (.inr ⟨a,oa,rfl,ha⟩) Z hx hy fun h' e a1 ⟨o,a2,a3⟩=>?_
  refine wpAny_bind (wpAny_isInstance (T:="StopIteration") (b:=true) ⟨o,a2,a3⟩ isSubtype_stop ?_)
  exact wpAny_pure (hQ _ a1)
theorem zip_loop (hh:A.handled=none) (D:ZipApart z TI TO i1 i2 l t) (hSl:S < lo) (hzl:z < lo∧TI < lo∧TO < lo∧i1 < lo∧i2 < lo∧l < lo∧t < lo) (hS0:S≠z∧S≠TI∧S≠TO∧S≠i1∧S≠i2∧S≠l∧S≠t) (hxy:ys.size < xs.size) (hn:ys.size≤sizeLine) (res:Value) {h₁:Heap}
  (hR:∀ h' tk acc c as,(∀ b o,b≠S→b≠z→b≠TO→b≠i1→b≠i2→h₁.get? b=some o→h'.get? b=some o)→h'.get? S=some { cls:=.type "list",dict:=none,data:=.seq acc c,slots:=#[] }→as.length=ys.size→PrsG xs ys lo h' as →
   acc.toList=as.map Value.ref→R (.ok (.ret res)) { s with heap:=h',toks:=tk }) :
  ∀ (k i:Nat) (h:Heap) (tk c:Nat) (acc:Array Value) (as:List Addr),ys.size - i=k→i≤ys.size→ZSt h z TI TO lo i→ZipS h z TI TO i1 i2 l t xs ys i→(∀ b o,b≠S→b≠z→b≠TO→b≠i1→b≠i2→h₁.get? b=some o→h.get? b=some o) →
   h.get? S=some { cls:=.type "list",dict:=none,data:=.seq acc c,slots:=#[] }→acc.toList=as.map Value.ref→as.length=i→PrsG xs ys lo h as→lo≤h.objs.size →
   codeAny (model prog w) A (.builtin "list.extend.loop" ⟨[.ref S,.ref z,res],[]⟩) R { s with heap:=h,toks:=tk }:=by
 obtain ⟨b1,b2,b3,b4,b5,b6,b7⟩:=hzl
 obtain ⟨c1,c2,c3,c4,c5,c6,c7⟩:=hS0
 have off:∀ {b:Addr},lo≤b→b≠z∧b≠TO∧b≠i1∧b≠i2∧b≠S:=fun hb=>⟨Nat.ne_of_gt (Nat.lt_of_lt_of_le b1 hb),Nat.ne_of_gt (Nat.lt_of_lt_of_le b3 hb),Nat.ne_of_gt (Nat.lt_of_lt_of_le b4 hb),Nat.ne_of_gt (Nat.lt_of_lt_of_le b5 hb),Nat.ne_of_gt (Nat.lt_of_lt_of_le hSl hb)⟩
 intro k
 induction k with
 | zero =>
  intro i h tk c acc as hk hi hst hZ hkeep hS hacc hal hG hlo
  refine codeAny_builtin PySem.F.entry_extend_loop ?_
  rw [Around.under_plainId PySem.F.plain_extend_loop _]
  show wpAny _ A.in1 (pyNext (.ref z) >>= _) _ _ _
  refine wpAny_bind (pn_end (s:={ s with heap:=h,toks:=tk }) (A:=A.in1) hh D hst hZ (Array.getElem?_eq_getElem (show i < xs.size by omega)) (Array.getElem?_eq_none (show ys.size≤i by omega)) fun h' hk'=>?_)
  exact wpAny_pure (hR h' tk acc c as (fun b o n1 n2 n3 n4 n5 q=>hk' b o n2 n3 n4 n5 (hkeep b o n1 n2 n3 n4 n5 q)) (hk' S _ c1 c3 c4 c5 hS) (by omega) (hG.keep fun b o hb q=>hk' b o (off hb).1 (off hb).2.1 (off hb).2.2.1 (off hb).2.2.2.1 q) hacc)
 | succ k ih =>
  intro i h tk c acc as hk hi hst hZ hkeep hS hacc hal hG hlo
  have hlt:i < ys.size:=by omega
  have hsz:acc.size=i:=by rw [← Array.length_toList,hacc,List.length_map,hal]
  have hx:xs[i]?=some xs[i]:=Array.getElem?_eq_getElem (by omega)
  have hy:ys[i]?=some ys[i]:=Array.getElem?_eq_getElem hlt
  refine codeAny_builtin PySem.F.entry_extend_loop ?_
  rw [Around.under_plainId PySem.F.plain_extend_loop _]
  show wpAny _ A.in1 (pyNext (.ref z) >>= _) _ _ _
  refine wpAny_bind (pn_item (s:={ s with heap:=h,toks:=tk }) (A:=A.in1) D ⟨b1,b3,b4,b5⟩ hst hZ hx hy hlo fun h' hst' hZ' ht hz hkp=>?_)
  dsimp only at ht hz hkp ⊢
  have hS':=hkp S _ c1 c3 c4 c5 hS
  have up:∀ b o,b≠S→h'.get? b=some o→(h'.update S (Obj.mapSeq (·.push (Value.ref h.objs.size)))).get? b=some o:=fun b o hb e=>(Heap.get?_update_other _ _ (Ne.symm hb)).trans e
  have hS2:(h'.update S (Obj.mapSeq (·.push (Value.ref h.objs.size)))).objs.size=h'.objs.size:=(Heap.SameBut.update (h:=h') (a:=S) (f:=Obj.mapSeq (·.push (Value.ref h.objs.size)))).1
  show wpAny _ A.in1 (updateSeq S (·.push (Value.ref h.objs.size)) >>= _) _ _ _
  refine wpAny_bind ?_
  refine wpAny_updateSeq hS' rfl (wpAny_pure ⟨plainId_quiet PySem.F.plain_extend_loop _,ih (i+1) _ tk _ (acc.push (Value.ref h.objs.size)) (as++[h.objs.size]) (by omega) hlt ?_ ?_
   (fun b o n1 n2 n3 n4 n5 e=>up b o n1 (hkp b o n2 n3 n4 n5 (hkeep b o n1 n2 n3 n4 n5 e))) (Heap.get?_update_self _ hS' rfl) (by rw [Array.toList_push,hacc,List.map_append]; rfl) (by rw [List.length_append,hal]; rfl) ⟨?_,?_,?_⟩ ?_⟩) (by rw [hsz]; omega) (by show (acc.push (Value.ref h.objs.size)).size≤sizeLine+1; rw [Array.size_push,hsz]; omega)
  ·rcases hst' with ⟨e,_⟩ | ⟨a,f,oa,q,ha,hal'⟩
   ·omega
   ·exact .inr ⟨a,f,oa,up _ _ (Ne.symm c1) q,up _ _ (off hal').2.2.2.2 ha,hal'⟩
  ·obtain ⟨q1,⟨a',b',q2⟩,q3,q4,q5,q6⟩:=hZ'
   exact ⟨up _ _ (Ne.symm c2) q1,⟨a',b',up _ _ (Ne.symm c3) q2⟩,q3.at fun o e=>up _ o (Ne.symm c4) e,let ⟨o,e,r⟩:=q4; ⟨o,up _ o (Ne.symm c5) e,r⟩,q5.at fun o e=>up _ o (Ne.symm c6) e,let ⟨o,e,r⟩:=q6; ⟨o,up _ o (Ne.symm c7) e,r⟩⟩
  ·refine List.pairwise_append.mpr ⟨hG.rise,List.pairwise_singleton _ _,fun a ha b hb=>?_⟩
   rw [List.mem_singleton.mp hb]
   exact hG.lt ha
  ·intro a ha
   rcases List.mem_append.mp ha with ha | ha
   ·exact hG.above a ha
   ·rw [List.mem_singleton.mp ha]; exact hlo
  ·intro j b hj
   rcases Nat.lt_trichotomy j as.length with h1 | h1 | h1
   ·rw [List.getElem?_append_left h1] at hj
    obtain ⟨x',y',e1,e2,e3⟩:=hG.pairs j b hj
    have hb:=off (hG.above b (List.mem_of_getElem? hj))
    exact ⟨x',y',e1,e2,up b _ hb.2.2.2.2 (hkp b _ hb.1 hb.2.1 hb.2.2.1 hb.2.2.2.1 e3)⟩
   ·subst h1
    have hb:h.objs.size=b:=by simpa using hj
    subst hb
    exact ⟨_,_,by rw [hal]; exact hx,by rw [hal]; exact hy,up _ _ (off hlo).2.2.2.2 ht⟩
   ·have hnone:(as++[h.objs.size])[j]?=none:=List.getElem?_eq_none (by rw [List.length_append,List.length_singleton]; omega)
    rw [hnone] at hj; cases hj
  ·rw [hS2,hz]; exact Nat.le_succ_of_le hlo
end
section
variable {prog:Program} {w:World} {A:Around} {E:Value→Shared→Prop} {s:Shared} {z TI TO i1 i2 l t:Addr} {xs ys:Array Value}
theorem zip_list {Q:Value→Shared→Prop} (hh:A.handled=none) (D:ZipApart z TI TO i1 i2 l t) (hz:ZipO s.heap z TI TO .none false) (Z:ZipS s.heap z TI TO i1 i2 l t xs ys 0) (hzl:z < s.heap.objs.size∧TI < s.heap.objs.size∧TO < s.heap.objs.size∧i1 < s.heap.objs.size∧i2 < s.heap.objs.size∧l < s.heap.objs.size∧t < s.heap.objs.size) (hxy:ys.size < xs.size) (hn:ys.size≤sizeLine)
    (hQ:∀ h' tk acc c as,(∀ b o,b≠z→b≠TO→b≠i1→b≠i2→s.heap.get? b=some o→h'.get? b=some o)→h'.get? s.heap.objs.size=some { cls:=.type "list",dict:=none,data:=.seq acc c,slots:=#[] }→as.length=ys.size→PrsG xs ys (s.heap.objs.size+1) h' as →
      acc.toList=as.map Value.ref→Q (.ref s.heap.objs.size) { s with heap:=h',toks:=tk }):wpAny (model prog w) A (call (.type "list") [.ref z]) Q E s:=by
  obtain ⟨d1,d2,d3,d4,d5,d6,d7⟩:=hzl
  refine callType_codes (Q₁:=fun obj s₁=>obj=.ref s.heap.objs.size∧s₁={ s with heap:=s.heap.push { cls:=.type "list",data:=.seq #[] } }) PySem.F.called_list (PySem.F.typeCall_list_1 _) PySem.F.entry_list_init
    (code_list_new _ ⟨rfl,rfl⟩) fun obj s₁ h₁=>?_
  obtain ⟨rfl,rfl⟩:=h₁
  have hS:(s.heap.push { cls:=.type "list",data:=.seq #[] }).get? s.heap.objs.size=some { cls:=.type "list",data:=.seq #[] }:=Heap.get?_push_size _ rfl
  have k0:∀ b o,s.heap.get? b=some o→(s.heap.push { cls:=.type "list",data:=.seq #[] }).get? b=some o:=fun b o e=>Heap.get?_push_of_some _ e
  have z0:(s.heap.push { cls:=.type "list",data:=.seq #[] }).objs.size=s.heap.objs.size+1:=Heap.size_push ..
  refine ⟨⟨_,hS,rfl⟩,PySem.F.args_list_init_2 _ _,?_⟩
  generalize s.heap.push { cls:=.type "list",data:=.seq #[] }=hp at hS k0 z0 ⊢
  have hT:Shared.TypeIs { s with heap:=hp } (.ref z) "zip":=⟨_,k0 _ _ hz,rfl⟩
  show wpAny _ _ (do let old ← Builtin.List.listItems (.ref s.heap.objs.size); Builtin.List.listUpdate (.ref s.heap.objs.size) (fun _=>#[]); letGo old.toList.reverse; Builtin.List.listExtendWith (.ref s.heap.objs.size) (.ref z) .none) _ _ _
  refine wpAny_bind ?_
  unfold Builtin.List.listItems
  refine wpAny_bind (wpAny_seqItems hS rfl (wpAny_pure ?_))
  show wpAny _ _ (updateSeq s.heap.objs.size (fun _=>#[]) >>= fun _=>letGo (#[]:Array Value).toList.reverse >>= fun _=>Builtin.List.listExtendWith (.ref s.heap.objs.size) (.ref z) .none) _ _ _
  refine wpAny_bind (wpAny_updateSeq hS rfl ?_)
  have hS₂:=Heap.get?_update_self (Obj.mapSeq (fun _=>(#[]:Array Value))) hS rfl
  have k2:∀ b o,b≠s.heap.objs.size→hp.get? b=some o→(hp.update s.heap.objs.size (Obj.mapSeq (fun _=>(#[]:Array Value)))).get? b=some o:=fun b o hb e=>(Heap.get?_update_other _ _ (Ne.symm hb)).trans e
  have z2:(hp.update s.heap.objs.size (Obj.mapSeq (fun _=>(#[]:Array Value)))).objs.size=hp.objs.size:=(Heap.SameBut.update (h:=hp) (a:=s.heap.objs.size) (f:=Obj.mapSeq (fun _=>(#[]:Array Value)))).1
  dsimp only at hS₂ k2 z2 ⊢
  generalize hp.update s.heap.objs.size (Obj.mapSeq (fun _=>(#[]:Array Value)))=hq at hS₂ k2 z2 ⊢
  refine wpAny_bind (wpAny_letGo ?_)
  unfold Builtin.List.listExtendWith
  have ne:∀ {b:Addr},b < s.heap.objs.size→b≠s.heap.objs.size:=fun h=>Nat.ne_of_lt h
  have kk:∀ b o,s.heap.get? b=some o→hq.get? b=some o:=fun b o e=>k2 b o (ne (Heap.lt_size e)) (k0 b o e)
  have hT2:Shared.TypeIs { s with heap:=hq } (.ref z) "zip":=⟨_,kk _ _ hz,rfl⟩
  refine wpAny_bind (wpAny_typeOf (T:="zip") hT2 ?_)
  have h1:Builtin.List.listSameRef (.ref s.heap.objs.size) (.ref z)=false:=by simp [Builtin.List.listSameRef,Ne.symm (ne d1)]
  have h2:(Value.type "zip" == Value.type "list")=false:=by decide
  have h3:(Value.type "zip" == Value.type "tuple")=false:=by decide
  simp only [h1,h2,h3,Bool.or_false,Bool.false_eq_true,if_false]
  refine wpAny_bind (wpAny_pyIter_zip (TI:=TI) (TO:=TO) (f0:=.none) (kk _ _ hz) ?_)
  refine wpAny_bind (wpAny_holding ?_)
  unfold Builtin.List.listLengthHint
  refine wpAny_bind (wpAny_specialOf hT2 zip_no_len ?_)
  show wpAny _ _ (specialOf (Value.ref z) (Str.ofString "__length_hint__") >>= _) _ _ _
  refine wpAny_bind (wpAny_specialOf hT2 Zjw ?_)
  refine wpAny_pure ?_
  show wpAny _ _ (rule "list.extend.makes-room" >>= fun _=>Builtin.List.listTouch (.ref s.heap.objs.size) >>= fun _ =>
    again (.builtin "list.extend.loop" ⟨[.ref s.heap.objs.size,.ref z,.none],[]⟩)) _ _ _
  refine wpAny_bind (wpAny_rule ?_)
  refine wpAny_bind ?_
  show wpAny _ _ (updateSeq s.heap.objs.size (·.push .none) >>= fun _=>updateSeq s.heap.objs.size (·.pop)) _ _ _
  refine wpAny_bind (wpAny_updateSeq hS₂ rfl ?_)
  have hS₃:=Heap.get?_update_self (Obj.mapSeq (·.push Value.none)) hS₂ rfl
  refine wpAny_updateSeq (hz:=by seq_fits) hS₃ rfl ?_
  have hS₄:=Heap.get?_update_self (Obj.mapSeq (·.pop)) hS₃ rfl
  have k4:∀ b o,b≠s.heap.objs.size→hq.get? b=some o→((hq.update s.heap.objs.size (Obj.mapSeq (·.push Value.none))).update s.heap.objs.size (Obj.mapSeq (·.pop))).get? b=some o :=
    fun b o hb e=>(Heap.get?_update_other _ _ (Ne.symm hb)).trans ((Heap.get?_update_other _ _ (Ne.symm hb)).trans e)
  have z4:((hq.update s.heap.objs.size (Obj.mapSeq (·.push Value.none))).update s.heap.objs.size (Obj.mapSeq (·.pop))).objs.size=hq.objs.size:=by
    rw [(Heap.SameBut.update _ s.heap.objs.size (Obj.mapSeq (·.pop))).1,(Heap.SameBut.update _ s.heap.objs.size (Obj.mapSeq (·.push Value.none))).1]
  dsimp only at hS₄ k4 z4 ⊢
  generalize (hq.update s.heap.objs.size (Obj.mapSeq (·.push Value.none))).update s.heap.objs.size (Obj.mapSeq (·.pop))=hr at hS₄ k4 z4 ⊢
  have kr:∀ b o,s.heap.get? b=some o→hr.get? b=some o:=fun b o e=>k4 b o (ne (Heap.lt_size e)) (kk b o e)
  have lt1:∀ {b:Addr},b < s.heap.objs.size→b < s.heap.objs.size+1:=fun h=>Nat.lt_succ_of_lt h
  refine wpAny_pure ⟨plainId_quiet PySem.F.plain_extend_loop _,zip_loop (A:=A.in1) (s:=s) (h₁:=s.heap) (lo:=s.heap.objs.size+1) hh D (Nat.lt_succ_self _) ⟨lt1 d1,lt1 d2,lt1 d3,lt1 d4,lt1 d5,lt1 d6,lt1 d7⟩ ⟨Ne.symm (ne d1),Ne.symm (ne d2),Ne.symm (ne d3),Ne.symm (ne d4),Ne.symm (ne d5),Ne.symm (ne d6),Ne.symm (ne d7)⟩ hxy hn .none
    (fun h' tk acc c as a1 a2 a3 a4 a5=>⟨rfl,hQ h' tk acc c as (fun b o n2 n3 n4 n5 e=>a1 b o (ne (Heap.lt_size e)) n2 n3 n4 n5 e) a2 a3 a4 a5⟩) ys.size 0 hr s.toks _ #[] [] (Nat.sub_zero _) (Nat.zero_le _) (.inl ⟨rfl,kr _ _ hz⟩) ?_ (fun b o _ _ _ _ _ e=>kr b o e) hS₄ rfl rfl ⟨List.Pairwise.nil,(fun _ ha=>nomatch ha),(fun j a hj=>by simp at hj)⟩ (by rw [z4,z2,z0]; exact Nat.le_refl _)⟩
  obtain ⟨q1,⟨a',b',q2⟩,q3,q4,q5,q6⟩:=Z
  exact ⟨kr _ _ q1,⟨a',b',kr _ _ q2⟩,q3.at fun o e=>kr _ o e,let ⟨o,e,r⟩:=q4; ⟨o,kr _ o e,r⟩,q5.at fun o e=>kr _ o e,let ⟨o,e,r⟩:=q6; ⟨o,kr _ o e,r⟩⟩
end
end L2
namespace L2
open PySem PySem.Spec PyProof.Rows PySem.W
theorem Inv.many {X:Cx} {pins:List (Addr × Obj)} {σ:List (Option V)} {H H':Hp} {s:Shared} {h':Heap} {t':Nat} (I:Inv X pins σ H s) (k:∀ b u,s.heap.get? b=some u→h'.get? b=some u) (e:∀ b o,H b=some o→H' b=some o) (f:∀ b,b < s.heap.objs.size→H b=none→H' b=none)
  (new:∀ b o,H b=none→H' b=some o→ObjOk X.prog X.w H' h' b o):Inv X pins σ H' { s with heap:=h',toks:=t' }:=by
 refine I.un ⟨fun b u q _ _ _=>k b u q,fun b u q _ _ _=>⟨u.slots,k b u q⟩,fun b u q n _=>f b (Heap.lt_size q) n,fun b u q _=>⟨u,k b u q⟩,fun b xs q=>e b _ q,fun b u xs q=>e b _ q,fun b ps q=>⟨#[],by rw [e b _ q]; simp⟩⟩ fun b o q=>?_
 cases z:H b with
 | none=>exact new b o z q
 | some v =>
  rw [e b v z] at q
  obtain rfl:=Option.some.inj q
  exact (I.hok b _ z).stay (fun c v _ q=>k c v q) (fun c q=>e c _ q) fun c xs q=>e c _ q
def tZip (K:Frag) (t:TA):TE:=fun σ H Q=>t σ H fun vs H1=>∃ (l u:Addr) (xs ys:List V),vs=[.ref l,.ref u]∧SqL K H1 l xs∧SqT K H1 u ys∧ys.length < xs.length ∧
 ∀ r (as:List Addr) H',Same H1 H'→H1 r=none→H' r=some (.lst (as.map V.ref))→as.length=ys.length→(∀ (j:Nat) (a:Addr),as[j]?=some a→∃ x y,xs[j]?=some x∧ys[j]?=some y∧H' a=some (.tup [x,y]))→Q (.ref r) H'
theorem Vals.back {xs:List V} {us:List Value} {i:Nat} {u:Value} (r:Vals xs us) (h:us[i]?=some u):∃ x,xs[i]?=some x∧RelV x u:=by
 have hl:=r.length
 have hi:i < xs.length:=by rw [hl]; exact (List.getElem?_eq_some_iff.mp h).1
 obtain ⟨u',e,q⟩:=r.get (List.getElem?_eq_getElem hi)
 rw [h] at e
 cases e
 exact ⟨_,List.getElem?_eq_getElem hi,q⟩
theorem Zii:∀ (as:List Addr),Vals (as.map V.ref) (as.map Value.ref)
 | []=>.nil
 | a :: r=>.cons rfl (Zii r)
theorem pe_zipl {X:Cx} {p p2 pos pos2:Pos} {a b:Expr} {t:TA} (hg:Gl X "list") (hm:X.mg "list"=none) (hg2:Gl X "zip") (hm2:X.mg "zip"=none) (ha:PA X [a,b] t) (hc:X.calm=true:=by rfl)
  (he:starEach [a,b] X.env=(false,eval a X.env) :: starEach [b] X.env:=by rfl) (hpl:(backTo pos2 (starEach [b] X.env)).any (·.1)=false:=by rfl)
  (he2:starEach [Expr.Call (.Name "zip" p2) [a,b] [] pos2] X.env=(false,eval (Expr.Call (.Name "zip" p2) [a,b] [] pos2) X.env) :: starEach [] X.env:=by rfl) :
  PE X (.Call (.Name "list" p) [.Call (.Name "zip" p2) [a,b] [] pos2] [] pos) (tZip X.K t):=by
 intro pins s σ H Q I h
 refine wpAny_Call_Name_kw (Zfq I hg hm (show bootBuiltins "list"=some (.type "list") by rfl) ?_ (by decide) (by decide))
 refine PyProof.Rows.callWith_type1 ?_ he2 rfl
 rw [he2]
 show wpAny _ _ (spliced ((false,eval (Expr.Call (.Name "zip" p2) [a,b] [] pos2) X.env) :: backTo pos (starEach [] X.env))) _ _ s
 refine Calls.spliced_cons ?_
 refine wpAny_Call_Name_kw (Zfq I hg2 hm2 (show bootBuiltins "zip"=some (.type "zip") by rfl) ?_ (by decide) (by decide))
 refine PyProof.Rows.callWith_type1 (thn (ha pos2 pins s σ H _ I h) fun us s1 ⟨vs,H1,I1,r1,l,u,xs,ys,ev,hl,hu,lt,q⟩=>?_) he hpl
 subst ev
 obtain ⟨w1,w2,rfl,q1,q2⟩:=vals2 r1
 cases q1
 cases q2
 obtain ⟨is,ri,pl,zl⟩:=I1.list hl
 obtain ⟨js,rj,pt,zt⟩:=I1.tuple hu
 have IL:=pl.isList
 have IT:s1.heap.IsTuple u js.toArray:=pt
 have ll:l < s1.heap.objs.size:=by obtain ⟨o,e,_⟩:=IL; exact Heap.lt_size e
 have lu:u < s1.heap.objs.size:=by obtain ⟨o,e,_⟩:=IT; exact Heap.lt_size e
 refine zip_made IL IT fun h2 z2 S2 n2 k2=>?_
 show wpAny _ _ (spliced (backTo pos (starEach [] X.env))) _ _ _
 refine Calls.spliced_nil ?_
 have D:ZipApart (s1.heap.objs.size+4) (s1.heap.objs.size+2) (s1.heap.objs.size+3) s1.heap.objs.size (s1.heap.objs.size+1) l u:=by
  have ll:@LT.lt Nat _ l s1.heap.objs.size:=ll
  have lu:@LT.lt Nat _ u s1.heap.objs.size:=lu
  constructor <;> first | exact Nat.ne_of_lt (by omega) | exact Nat.ne_of_gt (by omega)
 have below:∀ {b:Addr},b < s1.heap.objs.size→b < h2.objs.size:=fun hb=>by rw [n2]; exact Nat.lt_of_lt_of_le hb (Nat.le_add_right _ _)
 have jl:js.toArray.size=ys.length:=by rw [List.size_toArray]; exact rj.length.symm
 have il:is.toArray.size=xs.length:=by rw [List.size_toArray]; exact ri.length.symm
 refine zip_list (s:={ s1 with heap:=h2 }) (I.ok.hd hc) D z2 S2 ⟨by show _ < h2.objs.size; rw [n2]; exact Nat.lt_succ_self _,by show _ < h2.objs.size; rw [n2]; exact Nat.add_lt_add_left (by decide) _,by show _ < h2.objs.size; rw [n2]; exact Nat.add_lt_add_left (by decide) _,by show _ < h2.objs.size; rw [n2]; exact Nat.lt_add_of_pos_right (by decide),by show _ < h2.objs.size; rw [n2]; exact Nat.add_lt_add_left (by decide) _,below ll,below lu⟩ (by rw [jl,il]; exact lt) (by rw [jl]; exact zt) fun h3 tk acc c as k3 e3 la g3 ac=>?_
 dsimp only at k3 e3 g3 ⊢
 have lowS:s1.heap.objs.size≤h2.objs.size:=by rw [n2]; exact Nat.le_add_right _ _
 have low:∀ a∈as,s1.heap.objs.size≤a∧a≠h2.objs.size:=fun a ha=>⟨Nat.le_trans lowS (Nat.le_of_lt (g3.above a ha)),Nat.ne_of_gt (g3.above a ha)⟩
 have frS:H1 h2.objs.size=none:=I1.hok.fresh lowS
 have frA:∀ a∈as,H1 a=none:=fun a ha=>I1.hok.fresh (low a ha).1
 have keep:∀ b o,s1.heap.get? b=some o→h3.get? b=some o:=fun b o e=>by
  have hb:=Heap.lt_size e
  exact k3 b o (Nat.ne_of_lt (Nat.lt_of_lt_of_le hb (Nat.le_add_right _ _))) (Nat.ne_of_lt (Nat.lt_of_lt_of_le hb (Nat.le_add_right _ _))) (Nat.ne_of_lt hb) (Nat.ne_of_lt (Nat.lt_of_lt_of_le hb (Nat.le_add_right _ _))) (k2 b o e)
 have nodup:∀ {j j':Nat} {a:Addr},as[j]?=some a→as[j']?=some a→j=j':=fun {j j' a} e e'=>by
  obtain ⟨l1,q1⟩:=List.getElem?_eq_some_iff.mp e
  obtain ⟨l2,q2⟩:=List.getElem?_eq_some_iff.mp e'
  have p:=List.pairwise_iff_getElem.mp g3.rise
  rcases Nat.lt_trichotomy j j' with h | h | h
  ·have:=p j j' l1 l2 h; rw [q1,q2] at this; exact absurd this (Nat.lt_irrefl _)
  ·exact h
  ·have:=p j' j l2 l1 h; rw [q1,q2] at this; exact absurd this (Nat.lt_irrefl _)
 have prs:∀ (j:Nat) (a:Addr),as[j]?=some a→∃ x y ux uy,xs[j]?=some x∧ys[j]?=some y∧RelV x ux∧RelV y uy∧IsPair h3 a ux uy:=fun j a hj=>by
  obtain ⟨ux,uy,e1,e2,e3⟩:=g3.pairs j a hj
  rw [List.getElem?_toArray] at e1 e2
  obtain ⟨x,x1,x2⟩:=ri.back e1
  obtain ⟨y,y1,y2⟩:=rj.back e2
  exact ⟨x,y,ux,uy,x1,y1,x2,y2,e3⟩
 obtain ⟨H',hH⟩:∃ H':Hp,H'=fun b=>if b=h2.objs.size then some (.lst (as.map V.ref)) else if b∈as then some (.tup [(xs[as.idxOf b]?).getD .non,(ys[as.idxOf b]?).getD .non]) else H1 b:=⟨_,rfl⟩
 have hS:H' h2.objs.size=some (.lst (as.map V.ref)):=by rw [hH]; exact if_pos rfl
 have hA:∀ (j:Nat) (a:Addr) (x y:V),as[j]?=some a→xs[j]?=some x→ys[j]?=some y→H' a=some (.tup [x,y]):=fun j a x y hj hx hy=>by
  have hm:=List.mem_of_getElem? hj
  rw [hH]
  show (if a=h2.objs.size then _ else if a∈as then _ else _)=_
  rw [if_neg (low a hm).2,if_pos hm]
  have ix:as[as.idxOf a]?=some a:=by
   have hl':=List.idxOf_lt_length_of_mem hm
   rw [List.getElem?_eq_getElem hl',List.getElem_idxOf]
  rw [nodup ix hj,hx,hy]; rfl
 have hO:∀ b,b≠h2.objs.size→b ∉ as→H' b=H1 b:=fun b n m=>by
  rw [hH]
  show (if b=h2.objs.size then _ else if b∈as then _ else _)=_
  rw [if_neg n,if_neg m]
 have sm:Same H1 H':=fun b o e=>by rw [hO b (fun z=>by rw [z,frS] at e; cases e) (fun m=>by rw [frA b m] at e; cases e)]; exact e
 have I3:Inv X pins σ H' { s1 with heap:=h3,toks:=tk }:=by
  refine I1.many keep sm (fun b hb n=>by rw [hO b (Nat.ne_of_lt (Nat.lt_of_lt_of_le hb lowS)) (fun m=>absurd (low b m).1 (Nat.not_le_of_lt hb))]; exact n) fun b o n e=>?_
  by_cases c1:b=h2.objs.size
  ·subst c1
   rw [hS] at e
   obtain rfl:=Option.some.inj e
   refine ⟨by rw [List.length_map,la,jl]; exact zt,acc.toList,c,?_,by rw [Array.toArray_toList]; exact e3⟩
   rw [ac]
   exact Zii as
  ·by_cases c2:b∈as
   ·obtain ⟨j,hj⟩:=List.mem_iff_getElem?.mp c2
    obtain ⟨x,y,ux,uy,x1,y1,x2,y2,e4⟩:=prs j b hj
    rw [hA j b x y hj x1 y1] at e
    obtain rfl:=Option.some.inj e
    exact ⟨(show 2≤sizeLine by decide),[ux,uy],.cons x2 (.cons y2 .nil),_,e4,rfl,_,rfl⟩
   ·rw [hO b c1 c2,n] at e; cases e
 exact ⟨.ref h2.objs.size,H',I3,rfl,q _ as H' sm frS hS (by rw [la,jl]) fun j a hj=>by
  obtain ⟨x,y,ux,uy,x1,y1,x2,y2,e4⟩:=prs j a hj
  exact ⟨x,y,x1,y1,hA j a x y hj x1 y1⟩⟩
end L2
namespace K32
open PySem L2
def top (i:Nat):Stmt:=PySem.Challenge.pw_glazebench_k32_moves.main.body.getD i (.Pass ⟨0,0,0,0⟩)
abbrev Zbp:Stmt:=Zbx (top 5) 0
abbrev Zco:Stmt:=top 8
abbrev Zb2:Stmt:=Zbx (top 14) 0
abbrev Zbi:Stmt:=Zbx (top 15) 0
abbrev Zb3:Stmt:=Zbx (top 16) 0
abbrev Zc3:Stmt:=top 17
abbrev Zcp:Stmt:=top 18
abbrev Zby:Stmt:=top 19
abbrev Zcq:Stmt:=top 20
abbrev Zb9:Stmt:=top 21
abbrev Zbl:Stmt:=top 22
abbrev Zdm:Stmt:=top 27
abbrev Zbm:Stmt:=top 28
abbrev Zc5:Stmt:=top 29
abbrev Zc6:Stmt:=top 30
abbrev Zc4:Stmt:=top 31
abbrev Zb8:Stmt:=top 32
abbrev Zb7:Stmt:=top 33
abbrev Zee:Stmt:=top 34
abbrev Zce:Stmt:=top 36
abbrev Zcd:Stmt:=top 37
abbrev Zbf:Stmt:=top 38
abbrev Zcb:Stmt:=top 39
abbrev Za5:Stmt:=top 40
abbrev Zcc:Stmt:=top 41
abbrev Zbz:Stmt:=top 42
abbrev Zca:Stmt:=top 43
abbrev Zbn:Stmt:=top 44
abbrev Zbh:Stmt:=top 45
abbrev Zbo:Stmt:=top 46
abbrev Zb0:Stmt:=top 47
abbrev Za0:Stmt:=top 48
abbrev Zbe:Stmt:=top 49
abbrev Zb1:Stmt:=top 50
abbrev Zef:Stmt:=top 51
def refs {α:Type} (ts:List (Addr × α)):List V:=ts.map fun t=>V.ref t.1
theorem Zey {α:Type} (ts:List (Addr × α)):(refs ts).length=ts.length:=List.length_map ..
theorem Zhu {xs:List Int} {i:Nat} {x:V} (h:(xs.map V.int)[i]?=some x):∃ z,xs[i]?=some z∧x=.int z:=by
 rw [List.getElem?_map] at h
 cases e:xs[i]? with
 | none=>rw [e] at h; cases h
 | some z=>rw [e] at h; exact ⟨z,rfl,(Option.some.inj h).symm⟩
theorem wasNone {H H':Hp} (s:Same H H') {a:Addr} (h:H' a=none):H a=none:=by
 cases q:H a with
 | none=>rfl
 | some o=>rw [s a o q] at h; cases h
def wd (u:Bool):Str:=if u=true then "upright" else "level"
theorem wd_eq (u:Bool):decide (V.str (wd u)=V.str "upright")=u:=by cases u <;> decide
theorem Zcr (u v:Bool):decide (V.str (wd u)=V.str (wd v))=(u == v):=by cases u <;> cases v <;> decide +kernel
theorem Zcl (u:Bool):decide (V.str (wd u)=V.str "whole")=false:=by cases u <;> decide +kernel
inductive Tr where
 | whole (m:Option Int)
 | cut (u:Bool) (k:Int) (x y:Tr)
def Tr.dp:Tr→Nat
 | .whole _=>0
 | .cut _ _ x y=>max x.dp y.dp+1
def Tr.sz:Tr→Nat
 | .whole _=>1
 | .cut _ _ x y=>x.sz+y.sz
def markV:Option Int→V
 | none=>.non
 | some i=>.int i
def Told (H:Hp):Tr→V→Prop
 | .whole m,v=>∃ a,v=.ref a∧H a=some (.tup [.str "whole",markV m])
 | .cut u k x y,v=>∃ a vx vy,v=.ref a∧H a=some (.tup [.str (wd u),.int k,vx,vy])∧Told H x vx∧Told H y vy
theorem Told.same {H H':Hp} (s:Same H H'):∀ {t:Tr} {v:V},Told H t v→Told H' t v
 | .whole m,v,h=>by
  rw [Told] at h ⊢
  obtain ⟨a,e,h⟩:=h
  exact ⟨a,e,s _ _ h⟩
 | .cut u k x y,v,h=>by
  rw [Told] at h ⊢
  obtain ⟨a,vx,vy,e,h,h1,h2⟩:=h
  exact ⟨a,vx,vy,e,s _ _ h,Told.same s h1,Told.same s h2⟩
theorem Told.samex {l:Addr} {xs:List V} {H H':Hp} (s:SameX l H H') (hl:H l=some (.lst xs)):∀ {t:Tr} {v:V},Told H t v→Told H' t v
 | .whole m,v,h=>by
  rw [Told] at h ⊢
  obtain ⟨a,e,h⟩:=h
  exact ⟨a,e,s _ _ (Zi6 h hl (by intro z; cases z)) h⟩
 | .cut u k x y,v,h=>by
  rw [Told] at h ⊢
  obtain ⟨a,vx,vy,e,h,h1,h2⟩:=h
  exact ⟨a,vx,vy,e,s _ _ (Zi6 h hl (by intro z; cases z)) h,Told.samex s hl h1,Told.samex s hl h2⟩
def Fit:Tr→Int→Int→Prop
 | .whole _,_,_=>True
 | .cut u k x y,w,h=>if u=true then (1≤k∧k < w∧Fit x k h∧Fit y (w - k) h) else (1≤k∧k < h∧Fit x w k∧Fit y w (h - k))
theorem Zd3:∀ {t:Tr} {w h:Int},1≤w→1≤h→Fit t w h→(t.dp:Int)+2≤w+h
 | .whole _,w,h,hw,hh,_=>by show ((0:Nat):Int)+2≤_; lia
 | .cut u k x y,w,h,hw,hh,f=>by
  rw [Fit] at f
  show ((max x.dp y.dp+1:Nat):Int)+2≤_
  cases u with
  | true =>
   obtain ⟨a,b,c,d⟩:=f
   have:=Zd3 a hh c
   have:=Zd3 (by lia) hh d
   lia
  | false =>
   obtain ⟨a,b,c,d⟩:=f
   have:=Zd3 hw a c
   have:=Zd3 hw (by lia) d
   lia
theorem Zfu:∀ {t:Tr} {w h:Int},1≤w→1≤h→Fit t w h→(t.sz:Int)≤w * h
 | .whole _,w,h,hw,hh,_=>by
  show ((1:Nat):Int)≤_
  have:=Int.mul_le_mul hw hh (by lia) (by lia)
  lia
 | .cut u k x y,w,h,hw,hh,f=>by
  rw [Fit] at f
  show ((x.sz+y.sz:Nat):Int)≤_
  cases u with
  | true =>
   obtain ⟨a,b,c,d⟩:=f
   have h1:=Zfu a hh c
   have h2:=Zfu (by lia) hh d
   rw [Int.sub_mul] at h2
   lia
  | false =>
   obtain ⟨a,b,c,d⟩:=f
   have h1:=Zfu hw a c
   have h2:=Zfu hw (by lia) d
   rw [Int.mul_sub] at h2
   lia
def intsD:List Int→Ds
 | []=>.nil
 | i :: r=>.cons (.at (.int i)) (intsD r)
theorem intsD_is {K:PySem.W.Frag} {H:Hp}:∀ (ns:List Int),DIss K H (intsD ns) (ns.map V.int)
 | []=>by
  show DIss K H .nil []
  rw [DIss]
 | i :: r=>by
  show DIss K H (.cons (.at (.int i)) (intsD r)) (.int i :: r.map V.int)
  rw [DIss]
  exact ⟨_,_,rfl,by rw [DIs]; exact ⟨rfl,rfl⟩,intsD_is r⟩
theorem Zjc:∀ (ns:List Int),deps (intsD ns)=0
 | []=>by rw [intsD,deps]
 | i :: r=>by rw [intsD,deps,dep,Zjc r]; rfl
theorem intsD_nil:∀ (ns:List Int),deqs (intsD ns) .nil=decide (ns=[])
 | []=>by rw [intsD,deqs]; rfl
 | i :: r=>by rw [intsD,deqs] <;> simp
theorem intsL {K:PySem.W.Frag} {H:Hp} {a:Addr} {ns:List Int} (h:SqL K H a (ns.map V.int)):DIs K H (.lst (intsD ns)) (.ref a):=by
 rw [DIs]
 exact ⟨a,_,rfl,h,intsD_is _⟩
theorem nilL {K:PySem.W.Frag} {H:Hp} {a:Addr} (h:H a=some (.lst [])):DIs K H (.lst .nil) (.ref a):=by
 rw [DIs]
 exact ⟨a,[],rfl,SqL.of h,by rw [DIss]⟩
theorem intsL_dep (ns:List Int):dep (.lst (intsD ns))≤50:=by rw [dep,Zjc]; lia
theorem at2_0 {x0 x1:V}:atI [x0,x1] 0=some x0:=rfl
theorem at2_1 {x0 x1:V}:atI [x0,x1] 1=some x1:=rfl
theorem divL {j:Int} (z:Int) (h:0 < j) (h2:j < 18446744073709551616):CDivL z j:=⟨h,Nat.lt_trans (Zgp (k:=64) (by decide) (by lia)) (by decide)⟩
theorem mul64 {a b:Int} (h1:-18446744073709551616 < a) (h2:a < 18446744073709551616) (h3:-18446744073709551616 < b) (h4:b < 18446744073709551616):IntMulOk a b:=by
 have c:(2:Nat)^128=340282366920938463463374607431768211456:=by decide +kernel
 refine mulOk_of ?_ ?_ <;> rw [c] <;> lia
theorem atI_in {L:List V} {i:Int} (h0:0≤i) (h1:i < L.length):∃ v,atI L i=some v∧v∈L:=by
 have h:i.toNat < L.length:=by lia
 have e:=Zib (List.getElem?_eq_getElem h)
 rw [Int.toNat_of_nonneg h0] at e
 exact ⟨_,e,List.getElem_mem h⟩
theorem at_ints {ns:List Int} {k:Int} (h0:0≤k) (h1:k < (ns.length:Int)):∃ z,atI (ns.map V.int) k=some (.int z):=by
 have hk:k.toNat < ns.length:=by lia
 have hz:(ns.map V.int)[k.toNat]?=some (.int ns[k.toNat]):=by rw [List.getElem?_map,List.getElem?_eq_getElem hk]; rfl
 have e:=Zib hz
 rw [Int.toNat_of_nonneg h0] at e
 exact ⟨_,e⟩
theorem ty_tup {H:Hp} {a:Addr} {xs:List V} (h:H a=some (.tup xs)):tyS H (.ref a)=some "tuple":=by
 show tyO (H a)=some "tuple"
 rw [h]; rfl
theorem at0 {x0 x1 x2 x3:V}:atI [x0,x1,x2,x3] 0=some x0:=rfl
theorem at1 {x0 x1 x2 x3:V}:atI [x0,x1,x2,x3] 1=some x1:=rfl
theorem at2 {x0 x1 x2 x3:V}:atI [x0,x1,x2,x3] 2=some x2:=rfl
theorem at3 {x0 x1 x2 x3:V}:atI [x0,x1,x2,x3] 3=some x3:=rfl
def Zg8:Sp:=fun vs H Q _=>∃ i:Int,vs=[.int i]∧Q (.bl true) H
def Zj6 (K:PySem.W.Frag):Sp:=fun vs H Q _=>∃ (a:Addr) (ns:List Int) (k:Int),vs=[.ref a,.int k]∧SqL K H a (ns.map V.int)∧0≤k∧∀ z,Q (.int z) H
def Zfe:Sp:=fun vs H Q _=>∃ (c n m:Int),vs=[.int c,.int n,.int m]∧0≤n∧n≤1000∧0 < m∧∀ r,0≤r→r < m→Q (.int r) H
def St8 (H:Hp) (a:Addr) (t:Int):Prop:=∃ c r:Int,0≤r∧H a=some (.dK [(Sum.inr "cell",.int c),(Sum.inr "rest",.int r),(Sum.inr "times",.int t)])
theorem St8.same {H H':Hp} {a:Addr} {t:Int} (h:St8 H a t) (s:Same H H'):St8 H' a t:=let ⟨c,r,r0,e⟩:=h; ⟨c,r,r0,s _ _ e⟩
theorem Told.samed {l:Addr} {tm:Int} {H H':Hp} (s:SameX l H H') (hl:St8 H l tm):∀ {t:Tr} {v:V},Told H t v→Told H' t v
 | .whole m,v,h=>by
  rw [Told] at h ⊢
  obtain ⟨a,e,h⟩:=h
  obtain ⟨_,_,_,q⟩:=hl
  exact ⟨a,e,s _ _ (Zi6 h q (by intro z; cases z)) h⟩
 | .cut u k x y,v,h=>by
  rw [Told] at h ⊢
  obtain ⟨a,vx,vy,e,h,h1,h2⟩:=h
  obtain ⟨_,_,_,q⟩:=id hl
  exact ⟨a,vx,vy,e,s _ _ (Zi6 h q (by intro z; cases z)) h,Told.samed s hl h1,Told.samed s hl h2⟩
def Zex:Sp:=fun vs H Q _=>∃ c:Int,vs=[.int c]∧∀ a H',Same H H'→H a=none→St8 H' a 0→Q (.ref a) H'
def Zha:Sp:=fun vs H Q _=>∃ (a:Addr) (t m:Int),vs=[.ref a,.int m]∧St8 H a t∧0≤t∧t < 1000∧0 < m∧m≤1000∧∀ z H',0≤z→z < m→SameX a H H'→St8 H' a (t+1)→Q (.int z) H'
def Ze8 (n:Nat):Sp:=fun vs H Q _=>∃ (l:Addr) (ms:List Int) (w h:Int),vs=[.ref l,.int w,.int h]∧H l=some (.lst (ms.map V.int))∧1≤w∧1≤h∧w+h < n∧w≤12∧h≤12 ∧
 ∀ v t H' ms',SameX l H H'→H' l=some (.lst ((ms':List Int).map V.int))→Told H' t v→Fit t w h→Q v H'
structure Txt (mg:Str→Option Value) (tk:Tok × Tok × Tok × Tok × Tok × Tok):Prop where
 z_isinstance:mg "isinstance"=none
 z_int:mg "int"=none
 z_bool:mg "bool"=none
 z_tuple:mg "tuple"=none
 z_list:mg "list"=none
 z_len:mg "len"=none
 z_range:mg "range"=none
 z_abs:mg "abs"=none
 z_any:mg "any"=none
 z_sorted:mg "sorted"=none
 z_str:mg "str"=none
 z_zip:mg "zip"=none
 z_reversed:mg "reversed"=none
 g_WHOLE:mg "WHOLE"=some (.str "whole" tk.1)
 g_UPRIGHT:mg "UPRIGHT"=some (.str "upright" tk.2.1)
 g_LEVEL:mg "LEVEL"=some (.str "level" tk.2.2.1)
 g_LEAN:mg "LEAN"=some (.str "lean" tk.2.2.2.1)
 g_BACK:mg "BACK"=some (.str "back" tk.2.2.2.2.1)
 g_CROSS:mg "CROSS"=some (.str "cross" tk.2.2.2.2.2)
section
variable {P:Program} {w:World} {K:PySem.W.Frag} {mg:Str→Option Value} {base:Heap} {tk:Tok × Tok × Tok × Tok × Tok × Tok} {cT cW cU cL:Addr}
theorem S_is_whole:Zap ["thing"] ["thing"] (Zad Zco):=⟨rfl,rfl,rfl,by decide +kernel,rfl,by decide +kernel,by decide +kernel⟩
theorem Zkn {f:Addr} {fd:FuncData} (F:Fun K "is_whole" "is_whole" Zco f fd) (T:Txt mg tk):FnOk P w K mg base CX0 1 f fd ["thing"] Zg8:=by
 have S:=S_is_whole
 refine F.ok S (fun vs H Q E h=>?_) (fun cdv A outer s H vs Q E hr h=>?_)
 ·obtain ⟨i,rfl,_⟩:=h; rfl
 ·obtain ⟨i,rfl,q⟩:=h
  refine ⟨_,(Zaf (Zal (pe_and (Zay Zda rfl T.z_isinstance rfl (Zaa (pv 0) (Zaa (Zeh (v:=.ty "int") rfl T.z_int rfl rfl) Zac))) (pe_one (pe_not (Zay Zda rfl T.z_isinstance rfl (Zaa (pv 0) (Zaa (Zeh (v:=.ty "bool") rfl T.z_bool rfl rfl) Zac)))))))),?_⟩
  refine ⟨_,rfl,.int i,"int","int",rfl,rfl,.inl rfl,_,rfl,ite3 (fun h=>?_) (fun h=>absurd h (by decide))⟩
  refine ⟨_,rfl,.int i,"int","bool",rfl,rfl,.inr (.inl rfl),_,rfl,?_⟩
  have e:(!isB "int" "bool")=true:=by decide
  rw [e]
  exact q
theorem S_law_cell:Zap ["_law_script","_law_k"] ["_law_script","_law_k"] (Zad Zce):=⟨rfl,rfl,rfl,by decide +kernel,rfl,by decide +kernel,by decide +kernel⟩
theorem Zkm {f:Addr} {fd:FuncData} (F:Fun K "_law_cell" "_law_cell" Zce f fd) (T:Txt mg tk):FnOk P w K mg base CX0 1 f fd ["_law_script","_law_k"] (Zj6 K):=by
 have S:=S_law_cell
 refine F.ok S (fun vs H Q E h=>?_) (fun cdv A outer s H vs Q E hr h=>?_)
 ·obtain ⟨a,ns,k,rfl,_⟩:=h; rfl
 ·obtain ⟨a,ns,k,rfl,hS,k0,q⟩:=h
  refine ⟨_,(Zab (Za9 (Zai Ziu (pv 1) (Zay Zc0 rfl T.z_len rfl (Zaa (pv 0) Zac)) (nomark _)) (Zaf (Zal (Zav Zcg (pv 0) (pv 1) (fun _ _=>rfl)))) Zan)
   (Zaf (Zal Zae))),?_⟩
  refine ⟨_,rfl,_,rfl,a,_,rfl,.inl hS,_,_,rfl,rfl,_,rfl,ite3 (fun c=>?_) (fun c=>q 0)⟩
  have c:=of_decide_eq_true c
  rw [List.length_map] at c
  obtain ⟨z,hz⟩:=at_ints k0 c
  exact ⟨_,rfl,_,rfl,a,_,_,_,rfl,rfl,hS,hz,q _⟩
theorem S_law_draw:Zap ["_law_cell_here","_law_nth","_law_many","_law_number"] ["_law_cell_here","_law_nth","_law_many"] (Zad Zcd):=⟨rfl,rfl,rfl,by decide +kernel,rfl,by decide +kernel,by decide +kernel⟩
theorem Zkl {f:Addr} {fd:FuncData} (F:Fun K "_law_draw" "_law_draw" Zcd f fd):FnOk P w K mg base CX0 1 f fd ["_law_cell_here","_law_nth","_law_many"] Zfe:=by
 have S:=S_law_draw
 refine F.ok S (fun vs H Q E h=>?_) (fun cdv A outer s H vs Q E hr h=>?_)
 ·obtain ⟨c,n,m,rfl,_⟩:=h; rfl
 ·obtain ⟨c,n,m,rfl,n0,n1,m0,q⟩:=h
  refine ⟨_,(Zab (Zam (i:=3) S.nd rfl (Or.inl rfl) (Zbb Zfk (Zbb Zkg (Zbb Zb4 (Zbb Zb4 (Zbb Zfk (pv 0) Zae) Zae) (Zbb Zkg (pv 1) (pv 1))) Zae) Zae))
   (Zaf (Zal (Zbb Zfk (Zbb Zb4 (Zbb op_fdivL (pv 3) Zae) (Zbb Zkg (Zbb Zfk (pv 3) Zae) (pv 1))) (pv 2))))),?_⟩
  have a:=Int.emod_nonneg c (b:=899809363) (by decide)
  have b:=Int.emod_lt_of_pos c (b:=899809363) (by decide)
  have nn:0≤n * n∧n * n≤1000000:=⟨Int.mul_nonneg n0 n0,Int.le_trans (Int.mul_le_mul n1 n1 n0 (by decide)) (by decide)⟩
  refine ⟨_,rfl,_,_,rfl,rfl,(show (0:Int) < 899809363 from by decide),_,_,rfl,rfl,_,rfl,_,rfl,_,_,rfl,rfl,mul64 (by lia) (by lia) (by lia) (by lia),_,_,rfl,rfl,_,_,rfl,rfl,mul64 (by lia) (by lia) (by decide) (by decide),_,_,rfl,rfl,(show (0:Int) < 899809363 from by decide),?_⟩
  have g0:=Int.emod_nonneg ((c % 899809363+3+n * n) * 60919 % 899809363) (b:=1013) (by decide)
  have g1:=Int.emod_lt_of_pos ((c % 899809363+3+n * n) * 60919 % 899809363) (b:=1013) (by decide)
  exact ⟨_,rfl,_,_,rfl,rfl,divL _ (by decide) (by decide),_,rfl,_,_,rfl,rfl,(show (0:Int) < 1013 from by decide),_,rfl,_,_,rfl,rfl,mul64 (by lia) (by lia) (by lia) (by lia),_,_,rfl,rfl,_,rfl,_,_,rfl,rfl,m0,q _ (Int.emod_nonneg _ (by lia)) (Int.emod_lt_of_pos _ m0)⟩
abbrev stK (c r t:Int):List (Key × V):=[(Sum.inr "cell",.int c),(Sum.inr "rest",.int r),(Sum.inr "times",.int t)]
theorem st_cell {c r t:Int}:valV (stK c r t) (Sum.inr "cell")=some (.int c):=by rw [Zdj rfl]
theorem ne_ck:¬ (Sum.inr (Str.ofString "cell"):Key)=Sum.inr (Str.ofString "rest"):=by decide
theorem ne_ct:¬ (Sum.inr (Str.ofString "cell"):Key)=Sum.inr (Str.ofString "times"):=by decide
theorem ne_rt:¬ (Sum.inr (Str.ofString "rest"):Key)=Sum.inr (Str.ofString "times"):=by decide
theorem st_rest {c r t:Int}:valV (stK c r t) (Sum.inr "rest")=some (.int r):=by rw [Zdk ne_ck,Zdj rfl]
theorem st_times {c r t:Int}:valV (stK c r t) (Sum.inr "times")=some (.int t):=by rw [Zdk ne_ct,Zdk ne_rt,Zdj rfl]
theorem put_times {c r t z:Int}:putK (stK c r t) (Sum.inr "times") (.int z)=stK c r z:=rfl
theorem put_rest {c r t z:Int}:putK (stK c r t) (Sum.inr "rest") (.int z)=stK c z t:=rfl
theorem get_cell {H:Hp} {a:Addr} {c r t:Int} (e:H a=some (.dK (stK c r t))):DGet H a (.str "cell") (some (.int c)):=by have:=DGet.k (k:=Sum.inr "cell") e; rw [st_cell] at this; exact this
theorem get_rest {H:Hp} {a:Addr} {c r t:Int} (e:H a=some (.dK (stK c r t))):DGet H a (.str "rest") (some (.int r)):=by have:=DGet.k (k:=Sum.inr "rest") e; rw [st_rest] at this; exact this
theorem Zjf {H:Hp} {a:Addr} {c r t:Int} (e:H a=some (.dK (stK c r t))):DGet H a (.str "times") (some (.int t)):=by have:=DGet.k (k:=Sum.inr "times") e; rw [st_times] at this; exact this
theorem dput_times {H:Hp} {a:Addr} {c r t z:Int} (e:H a=some (.dK (stK c r t))):DPut H a (.str "times") (.int z) (upd H a (.dK (stK c r z))):=by have:=DPut.k (k:=Sum.inr "times") (v:=.int z) e (Za8 (by show 3≤1000; decide)); rw [put_times] at this; exact this
theorem dput_rest {H:Hp} {a:Addr} {c r t z:Int} (e:H a=some (.dK (stK c r t))):DPut H a (.str "rest") (.int z) (upd H a (.dK (stK c z t))):=by have:=DPut.k (k:=Sum.inr "rest") (v:=.int z) e (Za8 (by show 3≤1000; decide)); rw [put_rest] at this; exact this
theorem Zla:Zap ["_law_cell_here","_law_rest"] ["_law_cell_here"] (Zad Zbf):=⟨rfl,rfl,rfl,by decide +kernel,rfl,by decide +kernel,by decide +kernel⟩
theorem Zi2 {f:Addr} {fd:FuncData} (F:Fun K "_law_state" "_law_state" Zbf f fd) (T:Txt mg tk):FnOk P w K mg base CX0 1 f fd ["_law_cell_here"] Zex:=by
 have S:=Zla
 refine F.ok S (fun vs H Q E h=>?_) (fun cdv A outer s H vs Q E hr h=>?_)
 ·obtain ⟨c,rfl,_⟩:=h; rfl
 ·obtain ⟨c,rfl,q⟩:=h
  obtain ⟨tt,htt,fin⟩:∃ rd,PSs (cxOf CX0 P w K mg base ["_law_cell_here","_law_rest"] "_law_state" (Zad Zbf) f cdv A outer s H E).nox ((Zaj Zbf).drop 2) rd ∧
    ∀ (r:Int),0≤r→rd { nx:=fun _ H'=>Q .non H',rt:=Q } [some (.int c),some (.int r)] H:=by
   refine ⟨_,(Zaf (Zal (pe_disp (Zhi Zax (pv 0) (Zhi Zax (pv 1) (Zhi Zax Zae pps_nil))) rfl rfl (by decide) (by decide)))),?_⟩
   intro r r0
   refine fun p np=>⟨_,rfl,_,rfl,⟨upd_same,stK c r 0,rfl,by show 3≤15; decide,q p _ ?_ np ⟨c,r,r0,upd_same⟩⟩⟩
   intro x o e
   rw [Zak (Zag e np),Zak (Zag e np)]
   exact e
  refine ⟨_,(Zab (Zam (i:=1) S.nd rfl (Or.inl rfl) Zae)
   (Zab (Za9 (PW.pt (Zhg (Zai Ziu (pv 0) Zae (nomark _)) (Zgl (Zai op_ge (pv 0) (Zbb op_pow Zae Zae) (nomark _))))) (Zaf (Zam (i:=1) S.nd rfl (Or.inl rfl) (Zay call_abs rfl T.z_abs rfl (Zaa (pv 0) Zac)))) Zan)
   htt)),?_⟩
  refine ⟨_,rfl,_,_,rfl,rfl,_,rfl,ite3 (fun h=>?_) (fun h=>?_)⟩
  ·refine iteT ⟨_,rfl,_,rfl,?_⟩
   exact fin _ (by split <;> lia)
  ·refine ⟨_,rfl,_,_,rfl,rfl,⟨by decide,by decide,by decide⟩,_,_,rfl,rfl,_,rfl,ite3 (fun h2=>?_) (fun h2=>fin 0 (Int.le_refl _))⟩
   refine ⟨_,rfl,_,rfl,?_⟩
   exact fin _ (by split <;> lia)
theorem S_law_pick:Zap ["_law_state_here","_law_many","_law_rest"] ["_law_state_here","_law_many"] (Zad Zcb):=⟨rfl,rfl,rfl,by decide +kernel,rfl,by decide +kernel,by decide +kernel⟩
theorem Zkj {f:Addr} {fd:FuncData} (F:Fun K "_law_pick" "_law_pick" Zcb f fd) (D__law_draw:DefOk P w K mg base 1 "_law_draw" ["_law_cell_here","_law_nth","_law_many"] Zfe):FnOk P w K mg base CX0 2 f fd ["_law_state_here","_law_many"] Zha:=by
 have S:=S_law_pick
 refine F.ok S (fun vs H Q E h=>?_) (fun cdv A outer s H vs Q E hr h=>?_)
 ·obtain ⟨a,t,m,rfl,_⟩:=h; rfl
 ·obtain ⟨a,t,m,rfl,⟨c,r,r0,e⟩,t0,t1,m0,m1,q⟩:=h
  have hu:=hu_of hr
  refine ⟨_,(Zab (Zam (i:=2) S.nd rfl (Or.inl rfl) (Zhj hu (pv 0) Zax (fun _ _=>rfl)))
   (Zab (ps_dput hu (pv 0) Zax (Zbb Zb4 (Zhj hu (pv 0) Zax (fun _ _=>rfl)) Zae) rfl)
   (Zab (Za9 (Zai Zcf (pv 2) Zae (nomark _)) (Zaf (Zal (Zaq D__law_draw hr (Zaa (Zhj hu (pv 0) Zax (fun _ _=>rfl)) (Zaa (Zhj hu (pv 0) Zax (fun _ _=>rfl)) (Zaa (pv 1) Zac)))))) Zan)
   (Zab (ps_dput hu (pv 0) Zax (Zbb op_fdivL (pv 2) (pv 1)) rfl)
   (Zaf (Zal (Zbb Zfk (pv 2) (pv 1)))))))),?_⟩
  refine ⟨_,rfl,a,_,rfl,get_rest e,?_⟩
  refine ⟨_,rfl,a,_,rfl,Zjf e,_,_,rfl,rfl,_,rfl,a,_,rfl,dput_times e,?_⟩
  have e1:(upd H a (.dK (stK c r (t+1)))) a=some (.dK (stK c r (t+1))):=upd_same
  have s1:SameX a H (upd H a (.dK (stK c r (t+1)))):=SameX.upd
  generalize upd H a (.dK (stK c r (t+1)))=H1 at e1 s1 ⊢
  refine ⟨_,rfl,rfl,_,rfl,ite3 (fun z=>?_) (fun z=>?_)⟩
  ·exact ⟨_,rfl,a,_,rfl,get_cell e1,_,rfl,a,_,rfl,Zjf e1,_,rfl,c,t+1,m,rfl,by lia,by lia,m0,fun z z0 z1=>q z _ z0 z1 s1 ⟨c,r,r0,e1⟩⟩
  ·exact ⟨_,rfl,_,rfl,_,_,rfl,rfl,divL _ m0 (by lia),_,rfl,a,_,rfl,dput_rest e1,_,rfl,_,rfl,_,_,rfl,rfl,m0,q _ _ (Int.emod_nonneg _ (by lia)) (Int.emod_lt_of_pos _ m0) (s1.trans SameX.upd) ⟨c,r / m,Int.ediv_nonneg r0 (by lia),upd_same⟩⟩
theorem Zem {f:Addr} {fd:FuncData} {x qual:Str} {st:Stmt} {N ps:List Str} {k:Nat} {sp:Sp} (F:Fun K x qual st f fd) (S:Zap N ps (Zad st)) (h:∀ vs H Q E,¬ sp vs H Q E):FnOk P w K mg base CX0 (k+1) f fd ps sp :=
 F.ok S (fun vs H Q E z=>absurd z (h vs H Q E)) (fun cdv A outer s H vs Q E hr z=>absurd z (h vs H Q E))
theorem iteP {c:Bool} {A B:Prop} (h:c=true) (a:A):if c=true then A else B:=by rw [if_pos h]; exact a
abbrev N_tree:List Str:=["_law_cells","_law_width","_law_height","_law_state_here","_law_way","_law_at","_law_first"]
theorem Zg0:Zap N_tree ["_law_cells","_law_width","_law_height"] (Zad Za5):=⟨rfl,rfl,rfl,by decide +kernel,rfl,by decide +kernel,by decide +kernel⟩
theorem tree0 {vs:List V} {H:Hp} {Q:VK} {E:XK}:¬ Ze8 0 vs H Q E:=by
 rintro ⟨l,ms,w,h,_,_,h1,h2,h3,_⟩
 lia
theorem mark_of {v:V} {a b:Int} (h:v∈([.non,.int a,.int b]:List V)):∃ m,v=markV m:=by
 simp only [List.mem_cons,List.not_mem_nil,or_false] at h
 rcases h with rfl | rfl | rfl
 ·exact ⟨none,rfl⟩
 ·exact ⟨some a,rfl⟩
 ·exact ⟨some b,rfl⟩
theorem Zkh {f:Addr} {fd:FuncData} {n:Nat} (F:Fun K "_law_tree" "_law_tree" Za5 f fd) (D__law_state:DefOk P w K mg base 1 "_law_state" ["_law_cell_here"] Zex) (D__law_pick:DefOk P w K mg base 2 "_law_pick" ["_law_state_here","_law_many"] Zha)
  (D__law_tree:DefOk P w K mg base (n+3) "_law_tree" ["_law_cells","_law_width","_law_height"] (Ze8 n)):FnOk P w K mg base CX0 (n+4) f fd ["_law_cells","_law_width","_law_height"] (Ze8 (n+1)):=by
 have S:=Zg0
 refine F.ok S (fun vs H Q E h=>?_) (fun cdv A outer s H vs Q E hr h=>?_)
 ·obtain ⟨l,ms,ww,hh,rfl,_⟩:=h; rfl
 ·obtain ⟨l,ms,ww,hh,rfl,hl,w1,h1,wh,w12,h12,q⟩:=h
  obtain ⟨t5,h5,k5⟩:∃ rd,PSs (cxOf CX0 P w K mg base N_tree "_law_tree" (Zad Za5) f cdv A outer s H E).nox ((Zaj Za5).drop 5) rd∧∀ (st:Addr) (x4 x5 x6:Option V) (ms2:List Int) (H4:Hp),St8 H4 st 1→SameX l H H4→H4 l=some (.lst (ms2.map V.int))→H st=none→rd { nx:=fun _ H'=>Q .non H',rt:=Q } [some (.ref l),some (.int ww),some (.int hh),some (.ref st),x4,x5,x6] H4:=by
   refine ⟨_,(Zaf (Zal (Zaw (Zaa Zax (Zaa (Zav Zcg (Zcv (Zaa Zbs (Zaa (Zaq D__law_pick hr (Zaa (pv 3) (Zaa Zae Zac)) (by lia)) (Zaa (Zaq D__law_pick hr (Zaa (pv 3) (Zaa Zae Zac)) (by lia)) Zac)))) (Zaq D__law_pick hr (Zaa (pv 3) (Zaa Zae Zac)) (by lia)) (fun _ _=>rfl)) Zac))))),?_⟩
   intro st x4 x5 x6 ms2 H4 s4 T4 C4 ns
   have sl:st≠l:=fun z=>by rw [z,hl] at ns; cases ns
   refine ⟨_,rfl,st,1,1000,rfl,s4,by decide,by decide,by decide,by decide,fun z1 H5 _ _ y5 s5=>?_⟩
   refine ⟨_,rfl,st,1+1,3,rfl,s5,by decide,by decide,by decide,by decide,fun z2 H6 _ _ y6 s6=>?_⟩
   refine ⟨lenOk 3,fun L nL=>?_⟩
   have y7:Same H6 (upd H6 L (.lst [.non,.int z1,.int z2])):=Same.new nL
   have eL:(upd H6 L (.lst [.non,.int z1,.int z2])) L=some (.lst [.non,.int z1,.int z2]):=upd_same
   generalize upd H6 L (.lst [.non,.int z1,.int z2])=H7 at y7 eL ⊢
   refine ⟨_,rfl,st,1+1+1,3,rfl,s6.same y7,by decide,by decide,by decide,by decide,fun z3 H8 b0 b1 y8 s8=>?_⟩
   have Lst:L≠st:=fun z=>by obtain ⟨_,_,_,e⟩:=s6; rw [z,e] at nL; cases nL
   obtain ⟨v,hv,hm⟩:=atI_in (L:=[.non,.int z1,.int z2]) (i:=z3) b0 b1
   refine ⟨L,_,_,v,rfl,rfl,SqL.of (y8 _ _ Lst eL),hv,?_⟩
   obtain ⟨m,rfl⟩:=mark_of hm
   have y48:SameX st H4 H8:=(y5.trans y6).trans (y7.x.trans y8)
   refine ⟨lenOk 2,fun t ht=>q (.ref t) (.whole m) _ ms2 (fun x o nx ex=>?_) ?_ (by rw [Told]; exact ⟨t,rfl,upd_same⟩) (by rw [Fit]; trivial)⟩
   ·exact (Same.new ht) _ _ (y48 x o (Zag ex ns) (T4 x o nx ex))
   ·exact (Same.new ht) _ _ (y48 _ _ (Ne.symm sl) C4)
  obtain ⟨t4,h4,k4⟩:∃ rd,PSs (cxOf CX0 P w K mg base N_tree "_law_tree" (Zad Za5) f cdv A outer s H E).nox ((Zaj Za5).drop 4) rd∧∀ (st:Addr) (way:Int) (x5 x6:Option V) (ms2:List Int) (H4:Hp),St8 H4 st 1→SameX l H H4→H4 l=some (.lst (ms2.map V.int))→H st=none→rd { nx:=fun _ H'=>Q .non H',rt:=Q } [some (.ref l),some (.int ww),some (.int hh),some (.ref st),some (.int way),x5,x6] H4:=by
   refine ⟨_,(Zab (Za9 (PW.pt (Zdn (pt_chain Ziu Ziu Zae (pv 4) Zae) (Zdc (Zai op_gt (pv 2) Zae (nomark _))))) (Zab (Zam (i:=5) S.nd rfl (Or.inl rfl) (Zbb Zb4 Zae (Zaq D__law_pick hr (Zaa (pv 3) (Zaa (Zbb Zfj (pv 2) Zae) Zac)) (by lia))))
   (Zab (Zam (i:=6) S.nd rfl (Or.inl rfl) (Zaq D__law_tree hr (Zaa (pv 0) (Zaa (pv 1) (Zaa (pv 5) Zac))) (by lia)))
   (Zaf (Zal (Zaw (Zaa Zax (Zaa (pv 5) (Zaa (pv 6) (Zaa (Zaq D__law_tree hr (Zaa (pv 0) (Zaa (pv 1) (Zaa (Zbb Zfj (pv 2) (pv 5)) Zac))) (by lia)) Zac))))))))) Zan)
   h5),?_⟩
   intro st way x5 x6 ms2 H4 s4 T4 C4 ns
   have sl:st≠l:=fun z=>by rw [z,hl] at ns; cases ns
   have back:=k5 st (some (.int way)) x5 x6 ms2 H4 s4 T4 C4 ns
   refine ⟨_,rfl,_,_,rfl,rfl,_,rfl,ite3 (fun c0=>⟨_,_,rfl,rfl,_,rfl,ite3 (fun c1=>⟨_,rfl,_,_,rfl,rfl,_,rfl,ite3 (fun c2=>?_) (fun c2=>back)⟩) (fun c1=>iteF back)⟩) (fun c0=>⟨_,rfl,iteF back⟩)⟩
   have c2:=of_decide_eq_true c2
   refine ⟨_,rfl,_,rfl,_,_,rfl,rfl,st,1,hh - 1,rfl,s4,by decide,by decide,by lia,by lia,fun x H5 a0 a1 y5 s5=>⟨_,_,rfl,rfl,?_⟩⟩
   have C5:=y5 _ _ (Ne.symm sl) C4
   refine ⟨_,rfl,_,rfl,_,rfl,l,ms2,ww,1+x,rfl,C5,by lia,by lia,by lia,by lia,by lia,fun v1 y1 H6 ms3 s6 e6 told1 fit1=>?_⟩
   refine ⟨_,rfl,_,rfl,_,rfl,_,rfl,_,rfl,_,rfl,_,_,rfl,rfl,l,ms3,ww,hh - (1+x),rfl,e6,by lia,by lia,by lia,by lia,by lia,fun v2 y2 H7 ms4 s7 e7 told2 fit2=>⟨lenOk 4,fun t' ht'=>?_⟩⟩
   have s8:Same H7 (upd H7 t' (.tup [.str (wd false),.int (1+x),v1,v2])):=Same.new ht'
   refine q (.ref t') (.cut false (1+x) y1 y2) _ ms4 (fun c o nx ex=>?_) (s8 _ _ e7) ?_ ?_
   ·exact s8 _ _ (s7 _ _ nx (s6 _ _ nx (y5 _ _ (Zag ex ns) (T4 c o nx ex))))
   ·rw [Told]; exact ⟨t',v1,v2,rfl,upd_same,(told1.samex s7 e6).same s8,told2.same s8⟩
   ·rw [Fit]; exact ⟨by lia,by lia,fit1,fit2⟩
  obtain ⟨t3,h3,k3⟩:∃ rd,PSs (cxOf CX0 P w K mg base N_tree "_law_tree" (Zad Za5) f cdv A outer s H E).nox ((Zaj Za5).drop 3) rd∧∀ (st:Addr) (way:Int) (x5 x6:Option V) (ms2:List Int) (H4:Hp),St8 H4 st 1→SameX l H H4→H4 l=some (.lst (ms2.map V.int))→H st=none→rd { nx:=fun _ H'=>Q .non H',rt:=Q } [some (.ref l),some (.int ww),some (.int hh),some (.ref st),some (.int way),x5,x6] H4:=by
   refine ⟨_,(Zab (Za9 (PW.pt (Zdn (Zai Ziu (pv 4) Zae (nomark _)) (Zdc (Zai op_gt (pv 1) Zae (nomark _))))) (Zab (Zam (i:=5) S.nd rfl (Or.inl rfl) (Zbb Zb4 Zae (Zaq D__law_pick hr (Zaa (pv 3) (Zaa (Zbb Zfj (pv 1) Zae) Zac)) (by lia))))
   (Zab (Zam (i:=6) S.nd rfl (Or.inl rfl) (Zaq D__law_tree hr (Zaa (pv 0) (Zaa (pv 5) (Zaa (pv 2) Zac))) (by lia)))
   (Zaf (Zal (Zaw (Zaa Zax (Zaa (pv 5) (Zaa (pv 6) (Zaa (Zaq D__law_tree hr (Zaa (pv 0) (Zaa (Zbb Zfj (pv 1) (pv 5)) (Zaa (pv 2) Zac))) (by lia)) Zac))))))))) Zan)
   h4),?_⟩
   intro st way x5 x6 ms2 H4 s4 T4 C4 ns
   have sl:st≠l:=fun z=>by rw [z,hl] at ns; cases ns
   have back:=k4 st way x5 x6 ms2 H4 s4 T4 C4 ns
   refine ⟨_,rfl,_,_,rfl,rfl,_,rfl,ite3 (fun c1=>?_) (fun c1=>iteF back)⟩
   refine ⟨_,rfl,_,_,rfl,rfl,_,rfl,ite3 (fun c2=>?_) (fun c2=>back)⟩
   have c2:=of_decide_eq_true c2
   refine ⟨_,rfl,_,rfl,_,_,rfl,rfl,st,1,ww - 1,rfl,s4,by decide,by decide,by lia,by lia,fun x H5 a0 a1 y5 s5=>⟨_,_,rfl,rfl,?_⟩⟩
   have C5:=y5 _ _ (Ne.symm sl) C4
   refine ⟨_,rfl,_,rfl,_,rfl,l,ms2,1+x,hh,rfl,C5,by lia,by lia,by lia,by lia,by lia,fun v1 y1 H6 ms3 s6 e6 told1 fit1=>?_⟩
   refine ⟨_,rfl,_,rfl,_,rfl,_,rfl,_,rfl,_,_,rfl,rfl,_,rfl,l,ms3,ww - (1+x),hh,rfl,e6,by lia,by lia,by lia,by lia,by lia,fun v2 y2 H7 ms4 s7 e7 told2 fit2=>⟨lenOk 4,fun t' ht'=>?_⟩⟩
   have s8:Same H7 (upd H7 t' (.tup [.str (wd true),.int (1+x),v1,v2])):=Same.new ht'
   refine q (.ref t') (.cut true (1+x) y1 y2) _ ms4 (fun c o nx ex=>?_) (s8 _ _ e7) ?_ ?_
   ·exact s8 _ _ (s7 _ _ nx (s6 _ _ nx (y5 _ _ (Zag ex ns) (T4 c o nx ex))))
   ·rw [Told]; exact ⟨t',v1,v2,rfl,upd_same,(told1.samex s7 e6).same s8,told2.same s8⟩
   ·rw [Fit]; exact ⟨by lia,by lia,fit1,fit2⟩
  refine ⟨_,(Zab (Za9 (Zai (op_eqD hr) (pv 0) (Zcv Zac) (nomark _)) (Zaf (Zal (Zaw (Zaa Zax (Zaa Zbs Zac))))) Zan)
   (Zab (Zam (i:=3) S.nd rfl (Or.inl rfl) (Zaq D__law_state hr (Zaa (Zir PySem.F.plainAttrs_list PySem.F.slot_list_pop PySem.F.type_list_pop Zi7 (pv 0)) Zac) (by lia)))
   (Zab (Zam (i:=4) S.nd rfl (Or.inl rfl) (Zaq D__law_pick hr (Zaa (pv 3) (Zaa Zae Zac)) (by lia)))
   h3))),?_⟩
  refine ⟨_,rfl,lenOk 0,fun e2 he2=>?_⟩
  have s2:Same H (upd H e2 (.lst [])):=Same.new he2
  refine ⟨_,_,intsL (SqL.of (s2 _ _ hl)),nilL upd_same,⟨_,rfl⟩,⟨_,rfl⟩,intsL_dep _,_,rfl,ite3 (fun c=>?_) (fun c=>?_)⟩
  ·exact ⟨lenOk 2,fun t ht=>q (.ref t) (.whole none) _ ms (s2.trans (Same.new ht)).x ((s2.trans (Same.new ht)) _ _ hl) (by rw [Told]; exact ⟨t,rfl,upd_same⟩) (by rw [Fit]; trivial)⟩
  have hne:ms≠[]:=fun z=>by rw [if_neg Bool.false_ne_true,deq,intsD_nil,decide_eq_true z] at c; cases c
  obtain ⟨ms2,z,rfl⟩:∃ ms2 z,ms=ms2++[z]:=⟨ms.dropLast,ms.getLast hne,(List.dropLast_concat_getLast hne).symm⟩
  have hlast:((ms2++[z]).map V.int)[((ms2++[z]).map V.int).length - 1]?=some (.int z):=by
   rw [List.length_map,List.length_append,List.length_singleton,Nat.add_sub_cancel,List.getElem?_map,List.getElem?_append_right (Nat.le_refl _),Nat.sub_self]; rfl
  have hdl:((ms2++[z]).map V.int).dropLast=ms2.map V.int:=by rw [List.map_append,List.map_singleton,List.dropLast_concat]
  have hl1:=s2 _ _ hl
  have S1:SameX l H (upd H e2 (.lst [])):=s2.x
  generalize upd H e2 (.lst [])=H1 at hl1 S1 ⊢
  refine ⟨_,rfl,.inl ⟨rfl,_,SqL.of hl1⟩,l,_,_,rfl,rfl,hl1,hlast,z,rfl,fun st H3 s3 n3 st3=>?_⟩
  rw [hdl] at s3 n3
  have nl:st≠l:=fun y=>by rw [y,upd_same] at n3; cases n3
  have n1:H1 st=none:=by rw [Zak nl] at n3; exact n3
  have n0:H st=none:=by
   cases qq:H st with
   | none=>rfl
   | some o=>rw [S1 st o nl qq] at n1; cases n1
  refine ⟨_,rfl,st,0,7,rfl,st3,by decide,by decide,by decide,by decide,fun way H4 _ _ y4 s4=>?_⟩
  refine k3 st way none none ms2 H4 s4 (fun x o nx ex=>?_) ?_ n0
  ·exact y4 _ _ (Zag ex n0) (s3 _ _ (by rw [Zak nx]; exact S1 x o nx ex))
  ·exact y4 _ _ (Ne.symm nl) (s3 _ _ upd_same)
def cutC (cU cL:Addr) (u:Bool):Addr:=if u then cU else cL
abbrev wF (m:V):List (Str × V):=putF "mark" m []
abbrev cF (k:Int) (vx vy:V):List (Str × V):=putF "other" vy (putF "first" vx (putF "at" (.int k) []))
def Obj (cW cU cL:Addr) (H:Hp):Tr→V→Prop
 | .whole m,v=>∃ a dx,v=.ref a∧H a=some (.ins cW dx (wF (markV m)))
 | .cut u k x y,v=>∃ a dx vx vy,v=.ref a∧H a=some (.ins (cutC cU cL u) dx (cF k vx vy))∧Obj cW cU cL H x vx∧Obj cW cU cL H y vy
theorem Obj.same {H H':Hp} (s:Same H H'):∀ {t:Tr} {v:V},Obj cW cU cL H t v→Obj cW cU cL H' t v
 | .whole m,v,h=>by
  rw [Obj] at h ⊢
  obtain ⟨a,dx,e,h⟩:=h
  exact ⟨a,dx,e,s _ _ h⟩
 | .cut u k x y,v,h=>by
  rw [Obj] at h ⊢
  obtain ⟨a,dx,vx,vy,e,h,h1,h2⟩:=h
  exact ⟨a,dx,vx,vy,e,s _ _ h,Obj.same s h1,Obj.same s h2⟩
structure RT (mg:Str→Option Value) (K:PySem.W.Frag) (cT cW cU cL:Addr):Prop where
 g_Tree:mg "Tree"=some (.ref cT)
 g_Whole:mg "Whole"=some (.ref cW)
 g_Upright:mg "Upright"=some (.ref cU)
 g_Level:mg "Level"=some (.ref cL)
 iW:ICls K cW
 iC:∀ u,ICls K (cutC cU cL u)
 n_mark:NoAttr K cW "mark"
 n_at:∀ u,NoAttr K (cutC cU cL u) "at"
 n_first:∀ u,NoAttr K (cutC cU cL u) "first"
 n_other:∀ u,NoAttr K (cutC cU cL u) "other"
 kWW:PySem.W.kitOne K (.ref cW) (.ref cW)=some true
 kWC:∀ u,PySem.W.kitOne K (.ref cW) (.ref (cutC cU cL u))=some false
 kCW:∀ u,PySem.W.kitOne K (.ref (cutC cU cL u)) (.ref cW)=some false
 kCC:∀ u v,PySem.W.kitOne K (.ref (cutC cU cL u)) (.ref (cutC cU cL v))=some (u == v)
 kWT:PySem.W.kitOne K (.ref cW) (.ref cT)=some true
 kCT:∀ u,PySem.W.kitOne K (.ref (cutC cU cL u)) (.ref cT)=some true
def sp_iW (C:Addr):Sp:=fun vs H Q _=>∃ (a dx:Addr) (m:V),vs=[.ref a,m]∧H a=some (.ins C dx [])∧Q .non (upd H a (.ins C dx (wF m)))
def Zil (C:Addr):Sp:=fun vs H Q _=>∃ (a dx:Addr) (k:Int) (vx vy:V),vs=[.ref a,.int k,vx,vy]∧H a=some (.ins C dx [])∧∀ H',SameX a H H'→H' a=some (.ins C dx (cF k vx vy))→Q .non H'
theorem Zjt:Zap ["self","mark"] ["self","mark"] (Zad Zb2):=⟨rfl,rfl,rfl,by decide +kernel,rfl,by decide +kernel,by decide +kernel⟩
theorem Zhn {f:Addr} {fd:FuncData} (F:FunD K "__init__" "Whole.__init__" Zb2 f fd) (R:RT mg K cT cW cU cL):FnOk P w K mg base CX0 1 f fd ["self","mark"] (sp_iW cW):=by
 have S:=Zjt
 refine F.ok S (fun vs H Q E h=>?_) (fun cdv A outer s H vs Q E hr h=>?_)
 ·obtain ⟨a,dx,m,rfl,_⟩:=h; rfl
 ·obtain ⟨a,dx,m,rfl,ha,q⟩:=h
  refine ⟨_,(Zaf (Zfh (pv 0) (pv 1) rfl)),?_⟩
  exact ⟨_,rfl,_,rfl,a,cW,dx,_,rfl,ha,R.iW.cl,R.n_mark,(by show 0 < 1000; decide),q⟩
theorem Zgf:Zap ["self","at","first","other"] ["self","at","first","other"] (Zad Zbi):=⟨rfl,rfl,rfl,by decide +kernel,rfl,by decide +kernel,by decide +kernel⟩
theorem Zfl {f:Addr} {fd:FuncData} (F:Fun K "__init__" "Upright.__init__" Zbi f fd) (R:RT mg K cT cW cU cL):FnOk P w K mg base CX0 1 f fd ["self","at","first","other"] (Zil cU):=by
 have S:=Zgf
 refine F.ok S (fun vs H Q E h=>?_) (fun cdv A outer s H vs Q E hr h=>?_)
 ·obtain ⟨a,dx,k,vx,vy,rfl,_⟩:=h; rfl
 ·obtain ⟨a,dx,k,vx,vy,rfl,ha,q⟩:=h
  refine ⟨_,(Zab (Zfh (pv 0) (pv 1) rfl)
   (Zab (Zfh (pv 0) (pv 2) rfl)
   (Zaf (Zfh (pv 0) (pv 3) rfl)))),?_⟩
  refine ⟨_,rfl,_,rfl,a,cU,dx,_,rfl,ha,(R.iC true).cl,R.n_at true,(by show 0 < 1000; decide),?_⟩
  refine ⟨_,rfl,_,rfl,a,cU,dx,_,rfl,upd_same,(R.iC true).cl,R.n_first true,(by show 1 < 1000; decide),?_⟩
  refine ⟨_,rfl,_,rfl,a,cU,dx,_,rfl,upd_same,(R.iC true).cl,R.n_other true,(by show 2 < 1000; decide),?_⟩
  exact q _ ((SameX.upd.trans SameX.upd).trans SameX.upd) upd_same
theorem Zju:Zap ["self","at","first","other"] ["self","at","first","other"] (Zad Zb3):=⟨rfl,rfl,rfl,by decide +kernel,rfl,by decide +kernel,by decide +kernel⟩
theorem Zho {f:Addr} {fd:FuncData} (F:Fun K "__init__" "Level.__init__" Zb3 f fd) (R:RT mg K cT cW cU cL):FnOk P w K mg base CX0 1 f fd ["self","at","first","other"] (Zil cL):=by
 have S:=Zju
 refine F.ok S (fun vs H Q E h=>?_) (fun cdv A outer s H vs Q E hr h=>?_)
 ·obtain ⟨a,dx,k,vx,vy,rfl,_⟩:=h; rfl
 ·obtain ⟨a,dx,k,vx,vy,rfl,ha,q⟩:=h
  refine ⟨_,(Zab (Zfh (pv 0) (pv 1) rfl)
   (Zab (Zfh (pv 0) (pv 2) rfl)
   (Zaf (Zfh (pv 0) (pv 3) rfl)))),?_⟩
  refine ⟨_,rfl,_,rfl,a,cL,dx,_,rfl,ha,(R.iC false).cl,R.n_at false,(by show 0 < 1000; decide),?_⟩
  refine ⟨_,rfl,_,rfl,a,cL,dx,_,rfl,upd_same,(R.iC false).cl,R.n_first false,(by show 1 < 1000; decide),?_⟩
  refine ⟨_,rfl,_,rfl,a,cL,dx,_,rfl,upd_same,(R.iC false).cl,R.n_other false,(by show 2 < 1000; decide),?_⟩
  exact q _ ((SameX.upd.trans SameX.upd).trans SameX.upd) upd_same
theorem Zc9 {H:Hp} {x dx:Addr} {o1 o2:HO} (hx:H x=none) (hd:H dx=none):Same H (upd (upd H dx o1) x o2):=fun b o e=>by
 rw [Zak (Zag e hx),Zak (Zag e hd)]; exact e
def Zfa (cW cU cL:Addr) (n:Nat):Sp:=fun vs H Q _=>∃ (v:V) (t:Tr),vs=[v]∧Told H t v∧t.dp < n∧∀ v' H',Same H H'→Obj cW cU cL H' t v'→Q v' H'
theorem made0 {vs:List V} {H:Hp} {Q:VK} {E:XK}:¬ Zfa cW cU cL 0 vs H Q E:=by
 rintro ⟨v,t,_,_,h,_⟩
 lia
theorem Zg2:Zap ["_law_told_here"] ["_law_told_here"] (Zad Zcc):=⟨rfl,rfl,rfl,by decide +kernel,rfl,by decide +kernel,by decide +kernel⟩
theorem Zkk {f:Addr} {fd:FuncData} {n:Nat} (F:Fun K "_law_made" "_law_made" Zcc f fd) (K_Whole:MkOk P w K mg base 1 "Whole" cW ["self","mark"] (sp_iW cW)) (K_Upright:MkOk P w K mg base 1 "Upright" cU ["self","at","first","other"] (Zil cU))
  (K_Level:MkOk P w K mg base 1 "Level" cL ["self","at","first","other"] (Zil cL)) (D__law_made:DefOk P w K mg base (n+3) "_law_made" ["_law_told_here"] (Zfa cW cU cL n)):FnOk P w K mg base CX0 (n+4) f fd ["_law_told_here"] (Zfa cW cU cL (n+1)):=by
 have S:=Zg2
 refine F.ok S (fun vs H Q E h=>?_) (fun cdv A outer s H vs Q E hr h=>?_)
 ·obtain ⟨v,t,rfl,_⟩:=h; rfl
 ·obtain ⟨v,t,rfl,ht,hd,q⟩:=h
  refine ⟨_,(Zab (Za9 (Zai Zcf (Zav Zar (pv 0) Zae (fun _ _=>rfl)) Zax (nomark _)) (Zaf (Zal (pe_mk K_Whole hr (Zaa (Zav Zar (pv 0) Zae (fun _ _=>rfl)) Zac) (by lia)))) Zan)
   (Zab (Za9 (Zai Zcf (Zav Zar (pv 0) Zae (fun _ _=>rfl)) Zax (nomark _)) (Zaf (Zal (pe_mk K_Upright hr (Zaa (Zav Zar (pv 0) Zae (fun _ _=>rfl)) (Zaa (Zaq D__law_made hr (Zaa (Zav Zar (pv 0) Zae (fun _ _=>rfl)) Zac) (by lia)) (Zaa (Zaq D__law_made hr (Zaa (Zav Zar (pv 0) Zae (fun _ _=>rfl)) Zac) (by lia)) Zac))) (by lia)))) Zan)
   (Zaf (Zal (pe_mk K_Level hr (Zaa (Zav Zar (pv 0) Zae (fun _ _=>rfl)) (Zaa (Zaq D__law_made hr (Zaa (Zav Zar (pv 0) Zae (fun _ _=>rfl)) Zac) (by lia)) (Zaa (Zaq D__law_made hr (Zaa (Zav Zar (pv 0) Zae (fun _ _=>rfl)) Zac) (by lia)) Zac))) (by lia)))))),?_⟩
  cases t with
  | whole m =>
   rw [Told] at ht
   obtain ⟨a,rfl,ha⟩:=ht
   refine ⟨_,rfl,a,_,_,_,rfl,rfl,SqT.of ha,at2_0,rfl,_,rfl,iteP (decide_eq_true rfl) ?_⟩
   refine ⟨_,rfl,a,_,_,_,rfl,rfl,SqT.of ha,at2_1,fun x dx nx ndx nex=>⟨x,dx,_,rfl,upd_same,rfl,?_⟩⟩
   refine q _ _ (fun b o e=>?_) (by rw [Obj]; exact ⟨x,dx,rfl,upd_same⟩)
   rw [Zak (Zag e nx)]; exact Zc9 nx ndx b o e
  | cut u k y1 y2 =>
   rw [Told] at ht
   obtain ⟨a,v1,v2,rfl,ha,t1,t2⟩:=ht
   have hd:max y1.dp y2.dp+1 < n+1:=hd
   refine ⟨_,rfl,a,_,_,_,rfl,rfl,SqT.of ha,at0,rfl,_,rfl,iteN (Zcl u) ?_⟩
   cases u with
   | true =>
    refine ⟨_,rfl,a,_,_,_,rfl,rfl,SqT.of ha,at0,rfl,_,rfl,iteP (Zcr true true) ?_⟩
    refine ⟨_,rfl,a,_,_,_,rfl,rfl,SqT.of ha,at1,_,rfl,a,_,_,_,rfl,rfl,SqT.of ha,at2,v1,y1,rfl,t1,by lia,fun w1 H1 s1 o1=>?_⟩
    refine ⟨_,rfl,a,_,_,_,rfl,rfl,SqT.of (s1 _ _ ha),at3,v2,y2,rfl,t2.same s1,by lia,fun w2 H2 s2 o2=>?_⟩
    refine fun x dx nx ndx nex=>⟨x,dx,k,w1,w2,rfl,upd_same,fun H3 s3 e3=>⟨rfl,?_⟩⟩
    have s4:Same H2 H3:=fun b o e=>s3 b o (Zag e nx) (Zc9 nx ndx b o e)
    exact q _ _ ((s1.trans s2).trans s4) (by rw [Obj]; exact ⟨x,dx,w1,w2,rfl,e3,(o1.same s2).same s4,o2.same s4⟩)
   | false =>
    refine ⟨_,rfl,a,_,_,_,rfl,rfl,SqT.of ha,at0,rfl,_,rfl,iteN (Zcr false true) ?_⟩
    refine ⟨_,rfl,a,_,_,_,rfl,rfl,SqT.of ha,at1,_,rfl,a,_,_,_,rfl,rfl,SqT.of ha,at2,v1,y1,rfl,t1,by lia,fun w1 H1 s1 o1=>?_⟩
    refine ⟨_,rfl,a,_,_,_,rfl,rfl,SqT.of (s1 _ _ ha),at3,v2,y2,rfl,t2.same s1,by lia,fun w2 H2 s2 o2=>?_⟩
    refine fun x dx nx ndx nex=>⟨x,dx,k,w1,w2,rfl,upd_same,fun H3 s3 e3=>⟨rfl,?_⟩⟩
    have s4:Same H2 H3:=fun b o e=>s3 b o (Zag e nx) (Zc9 nx ndx b o e)
    exact q _ _ ((s1.trans s2).trans s4) (by rw [Obj]; exact ⟨x,dx,w1,w2,rfl,e3,(o1.same s2).same s4,o2.same s4⟩)
theorem fW (m:V):(wF m).lookup ("mark":Str)=some m:=by rw [Zbd,if_pos rfl]
theorem Zdf (k:Int) (vx vy:V):(cF k vx vy).lookup ("at":Str)=some (.int k):=by rw [Zbd,if_neg (by decide +kernel),Zbd,if_neg (by decide +kernel),Zbd,if_pos rfl]
theorem Zbw (k:Int) (vx vy:V):(cF k vx vy).lookup ("first":Str)=some vx:=by rw [Zbd,if_neg (by decide +kernel),Zbd,if_pos rfl]
theorem Zbv (k:Int) (vx vy:V):(cF k vx vy).lookup ("other":Str)=some vy:=by rw [Zbd,if_pos rfl]
theorem refU {C:Addr}:∀ u',RelV (.ref C) u'→u'=.ref C:=fun _ z=>z
inductive En where
 | w (m:Option Int)
 | c (u:Bool) (k:Int)
def ents:Tr→List En
 | .whole m=>[.w m]
 | .cut u k x y=>.c u k :: (ents x++ents y)
def Tr.nd:Tr→Nat
 | .whole _=>1
 | .cut _ _ x y=>x.nd+y.nd+1
theorem Zd4:∀ t:Tr,(ents t).length=t.nd
 | .whole _=>rfl
 | .cut _ _ x y=>by rw [ents,List.length_cons,List.length_append,Zd4 x,Zd4 y]; rfl
theorem nd_pos:∀ t:Tr,0 < t.nd
 | .whole _=>Nat.one_pos
 | .cut _ _ x y=>Nat.succ_pos _
def enV:En→List V
 | .w m=>[.str "whole",markV m]
 | .c u k=>[.str (wd u),.int k]
def hdE:Tr→En
 | .whole m=>.w m
 | .cut u k _ _=>.c u k
def Kp (H H':Hp):Prop:=∀ b o,H b=some o→(∀ xs,o≠.lst xs)→H' b=some o
theorem kp_of {H H':Hp} (s:Same H H'):Kp H H':=fun b o e _=>s b o e
theorem Kp.trans {H H1 H2:Hp} (a:Kp H H1) (b:Kp H1 H2):Kp H H2:=fun c o e n=>b c o (a c o e n) n
theorem Kp.put {H:Hp} {l:Addr} {xs ys:List V} (h:H l=some (.lst xs)):Kp H (upd H l (.lst ys)):=fun b o e n=>by
 rw [Zak (Zi6 e h (n xs))]; exact e
theorem Obj.kp {H H':Hp} (s:Kp H H'):∀ {t:Tr} {v:V},Obj cW cU cL H t v→Obj cW cU cL H' t v
 | .whole m,v,h=>by
  rw [Obj] at h ⊢
  obtain ⟨a,dx,e,h⟩:=h
  exact ⟨a,dx,e,s _ _ h (by intro xs z; cases z)⟩
 | .cut u k x y,v,h=>by
  rw [Obj] at h ⊢
  obtain ⟨a,dx,vx,vy,e,h,h1,h2⟩:=h
  exact ⟨a,dx,vx,vy,e,s _ _ h (by intro xs z; cases z),Obj.kp s h1,Obj.kp s h2⟩
def EnsAt (H:Hp):List V→List En→Prop
 | [],[]=>True
 | v :: r,e :: q=>(∃ a,v=.ref a∧H a=some (.tup (enV e)))∧EnsAt H r q
 | _,_=>False
theorem EnsAt.kp {H H':Hp} (s:Kp H H'):∀ {vs:List V} {es:List En},EnsAt H vs es→EnsAt H' vs es
 | [],[],_=>trivial
 | v :: r,e :: q,h=>⟨let ⟨a,b,c⟩:=h.1; ⟨a,b,s _ _ c (by intro xs z; cases z)⟩,EnsAt.kp s h.2⟩
 | [],_ :: _,h=>h
 | _ :: _,[],h=>h
theorem EnsAt.snoc {H:Hp} {a:Addr} {e:En} (ha:H a=some (.tup (enV e))):∀ {vs:List V} {es:List En},EnsAt H vs es→EnsAt H (vs++[.ref a]) (es++[e])
 | [],[],_=>⟨⟨a,rfl,ha⟩,trivial⟩
 | v :: r,e' :: q,h=>⟨h.1,EnsAt.snoc ha h.2⟩
 | [],_ :: _,h=>h.elim
 | _ :: _,[],h=>h.elim
theorem EnsAt.len {H:Hp}:∀ {vs:List V} {es:List En},EnsAt H vs es→vs.length=es.length
 | [],[],_=>rfl
 | v :: r,e' :: q,h=>by rw [List.length_cons,List.length_cons,EnsAt.len h.2]
 | [],_ :: _,h=>h.elim
 | _ :: _,[],h=>h.elim
theorem EnsAt.get {H:Hp}:∀ {vs:List V} {es:List En} {i:Nat} {v:V},EnsAt H vs es→vs[i]?=some v→∃ e a,es[i]?=some e∧v=.ref a∧H a=some (.tup (enV e))
 | v :: r,e :: q,0,_,h,hv=>by
  cases hv
  obtain ⟨a,b,c⟩:=h.1
  exact ⟨e,a,rfl,b,c⟩
 | v :: r,e :: q,i+1,_,h,hv=>EnsAt.get (i:=i) h.2 hv
 | [],[],_,_,_,hv=>by cases hv
 | [],_ :: _,_,_,h,_=>h.elim
 | _ :: _,[],_,_,h,_=>h.elim
def Zhb (cW cU cL:Addr):Sp:=fun vs H Q _=>∃ (v:V) (t:Tr),vs=[v]∧Obj cW cU cL H t v∧∀ a,H a=none→Q (.ref a) (upd H a (.tup (enV (hdE t))))
def Zcs (cW cU cL:Addr):Sp:=fun vs H Q _=>∃ (v:V) (t:Tr),vs=[v]∧Obj cW cU cL H t v∧Q ((enV (hdE t)).headD .non) H
theorem S_kind_of:Zap ["tree"] ["tree"] (Zad Zc3):=⟨rfl,rfl,rfl,by decide +kernel,rfl,by decide +kernel,by decide +kernel⟩
theorem ok_kind_of {f:Addr} {fd:FuncData} (F:Fun K "kind_of" "kind_of" Zc3 f fd) (T:Txt mg tk) (R:RT mg K cT cW cU cL):FnOk P w K mg base CX0 1 f fd ["tree"] (Zcs cW cU cL):=by
 have S:=S_kind_of
 refine F.ok S (fun vs H Q E h=>?_) (fun cdv A outer s H vs Q E hr h=>?_)
 ·obtain ⟨v,t,rfl,_⟩:=h; rfl
 ·obtain ⟨v,t,rfl,ho,q⟩:=h
  refine ⟨_,(Zab (Za9 (Zck (Zay Zbr rfl T.z_isinstance rfl (Zaa (pv 0) (Zaa (Za1 (v:=.ref (cW)) rfl R.g_Whole rfl) Zac)))) (Zaf (Zal (Za1 (v:=.str "whole") rfl T.g_WHOLE ⟨_,rfl⟩))) Zan)
   (Zaf (Zal (Ze0 (Zck (Zay Zbr rfl T.z_isinstance rfl (Zaa (pv 0) (Zaa (Za1 (v:=.ref (cU)) rfl R.g_Upright rfl) Zac)))) (Za1 (v:=.str "upright") rfl T.g_UPRIGHT ⟨_,rfl⟩) (Za1 (v:=.str "level") rfl T.g_LEVEL ⟨_,rfl⟩))))),?_⟩
  cases t with
  | whole m =>
   rw [Obj] at ho
   obtain ⟨x,dx,rfl,hx⟩:=ho
   exact ⟨_,rfl,x,cW,dx,_,_,.ref cW,true,rfl,hx,R.iW,rfl,refU,R.kWW,_,rfl,iteP rfl q⟩
  | cut u k y1 y2 =>
   rw [Obj] at ho
   obtain ⟨x,dx,w1,w2,rfl,hx,o1,o2⟩:=ho
   refine ⟨_,rfl,x,_,dx,_,_,.ref cW,false,rfl,hx,R.iC u,rfl,refU,R.kCW u,_,rfl,iteN rfl ?_⟩
   refine ⟨_,rfl,x,_,dx,_,_,.ref cU,_,rfl,hx,R.iC u,rfl,refU,R.kCC u true,_,rfl,?_⟩
   cases u with
   | true=>exact iteP rfl q
   | false=>exact iteN rfl q
theorem S_entry_of:Zap ["tree","kind"] ["tree"] (Zad Zcp):=⟨rfl,rfl,rfl,by decide +kernel,rfl,by decide +kernel,by decide +kernel⟩
theorem Zko {f:Addr} {fd:FuncData} (F:Fun K "entry_of" "entry_of" Zcp f fd) (T:Txt mg tk) (R:RT mg K cT cW cU cL) (D_kind_of:DefOk P w K mg base 1 "kind_of" ["tree"] (Zcs cW cU cL)):FnOk P w K mg base CX0 2 f fd ["tree"] (Zhb cW cU cL):=by
 have S:=S_entry_of
 refine F.ok S (fun vs H Q E h=>?_) (fun cdv A outer s H vs Q E hr h=>?_)
 ·obtain ⟨v,t,rfl,_⟩:=h; rfl
 ·obtain ⟨v,t,rfl,ho,q⟩:=h
  refine ⟨_,(Zab (Zam (i:=1) S.nd rfl (Or.inl rfl) (Zaq D_kind_of hr (Zaa (pv 0) Zac)))
   (Zaf (Zal (Zaw (Zaa (pv 1) (Zaa (Ze0 (Zai Zcf (pv 1) (Za1 (v:=.str "whole") rfl T.g_WHOLE ⟨_,rfl⟩) (nomark _)) (Zaz (pv 0) rfl) (Zaz (pv 0) rfl)) Zac)))))),?_⟩
  refine ⟨_,rfl,_,t,rfl,ho,?_⟩
  cases t with
  | whole m =>
   rw [Obj] at ho
   obtain ⟨x,dx,rfl,hx⟩:=ho
   exact ⟨_,rfl,_,rfl,rfl,_,rfl,iteP (decide_eq_true rfl) ⟨_,rfl,x,cW,dx,_,_,rfl,hx,R.iW.cl,R.n_mark,fW _,lenOk 2,fun a ha=>q a ha⟩⟩
  | cut u k y1 y2 =>
   rw [Obj] at ho
   obtain ⟨x,dx,w1,w2,rfl,hx,o1,o2⟩:=ho
   exact ⟨_,rfl,_,rfl,rfl,_,rfl,iteN (Zcl u) ⟨_,rfl,x,_,dx,_,_,rfl,hx,(R.iC u).cl,R.n_at u,Zdf _ _ _,lenOk 2,fun a ha=>q a ha⟩⟩
def flat (ws:List (V × Tr)):List En:=ws.reverse.flatMap fun p=>ents p.2
theorem Zcy (ws:List (V × Tr)) (p:V × Tr):flat (ws++[p])=ents p.2++flat ws:=by
 unfold flat
 rw [List.reverse_append,List.reverse_singleton,List.singleton_append,List.flatMap_cons]
def cnt (ws:List (V × Tr)):Nat:=(ws.map fun p=>p.2.nd).sum
theorem Zd6 (ws:List (V × Tr)) (p:V × Tr):cnt (ws++[p])=cnt ws+p.2.nd:=by
 unfold cnt
 rw [List.map_append,List.sum_append,List.map_singleton,List.sum_singleton]
theorem Zk2:∀ ws:List (V × Tr),ws.length≤cnt ws
 | []=>Nat.le_refl 0
 | p :: r=>by
  have:=Zk2 r
  have:=nd_pos p.2
  show r.length+1≤p.2.nd+cnt r
  lia
theorem Zjh (p:V × Tr) (r:List (V × Tr)):flat (p :: r)=flat r++ents p.2:=by
 unfold flat
 rw [List.reverse_cons,List.flatMap_append,List.flatMap_cons,List.flatMap_nil,List.append_nil]
theorem Zh0:∀ ws:List (V × Tr),(flat ws).length=cnt ws
 | []=>rfl
 | p :: r=>by
  rw [Zjh,List.length_append,Zd4,Zh0 r]
  show _=p.2.nd+cnt r
  lia
theorem Zed {α:Type} (ws:List α):ws=[]∨∃ ws0 p,ws=ws0++[p]:=by
 by_cases h:ws=[]
 ·exact .inl h
 ·exact .inr ⟨ws.dropLast,ws.getLast h,(List.dropLast_concat_getLast h).symm⟩
theorem Zhs {ws0:List (V × Tr)} {p:V × Tr}:((ws0++[p]).map (·.1))[((ws0++[p]).map (·.1)).length - 1]?=some p.1:=by
 rw [List.length_map,List.length_append,List.length_singleton,Nat.add_sub_cancel,List.getElem?_map,List.getElem?_append_right (Nat.le_refl _),Nat.sub_self]; rfl
theorem Zh4 {ws0:List (V × Tr)} {p:V × Tr}:((ws0++[p]).map (·.1)).dropLast=ws0.map (·.1):=by rw [List.map_append,List.map_singleton,List.dropLast_concat]
def Zeb (cW cU cL:Addr):Sp:=fun vs H Q _=>∃ (v:V) (t:Tr),vs=[v]∧Obj cW cU cL H t v∧t.nd≤400∧∀ l xs H',Same H H'→H l=none→H' l=some (.lst xs)→EnsAt H' xs (ents t)→Q (.ref l) H'
abbrev EInv (cW cU cL:Addr) (H:Hp) (v:V) (t:Tr) (le lw:Addr) (m:Nat) (σ:St) (H':Hp):Prop:=∃ (xs:List V) (es:List En) (ws:List (V × Tr)) (x3:Option V),σ=[some v,some (.ref le),some (.ref lw),x3]∧Same H H'∧H' le=some (.lst xs)∧EnsAt H' xs es∧H' lw=some (.lst (ws.map (·.1)))∧(∀ p∈ws,Obj cW cU cL H' p.2 p.1)∧es++flat ws=ents t∧m=cnt ws
theorem Zjs:Zap ["tree","entries","waiting","part"] ["tree"] (Zad Zby):=⟨rfl,rfl,rfl,by decide +kernel,rfl,by decide +kernel,by decide +kernel⟩
theorem Zhm {f:Addr} {fd:FuncData} (F:Fun K "entries_of" "entries_of" Zby f fd) (T:Txt mg tk) (R:RT mg K cT cW cU cL) (D_entry_of:DefOk P w K mg base 2 "entry_of" ["tree"] (Zhb cW cU cL)):FnOk P w K mg base CX0 3 f fd ["tree"] (Zeb cW cU cL):=by
 have S:=Zjs
 refine F.ok S (fun vs H Q E h=>?_) (fun cdv A outer s H vs Q E hr h=>?_)
 ·obtain ⟨v,t,rfl,_⟩:=h; rfl
 ·obtain ⟨v,t,rfl,ho,hn,q⟩:=h
  refine ⟨_,(Zab (Zam (i:=1) S.nd rfl (Or.inl rfl) (Zcv Zac))
   (Zab (Zam (i:=2) S.nd rfl (Or.inl rfl) (Zcv (Zaa (pv 0) Zac)))
   (Zab (ps_while PassesOwn.never (pt_truth (pv 2) (fun _=>rfl)) (Zab (Zam (i:=3) S.nd rfl (Or.inl rfl) (Zir PySem.F.plainAttrs_list PySem.F.slot_list_pop PySem.F.type_list_pop Zi7 (pv 2)))
   (Zab (Zeg (pe_bm PySem.F.plainAttrs_list PySem.F.slot_list_append PySem.F.type_list_append Zcw (pv 1) (Zaa (Zaq D_entry_of hr (Zaa (pv 3) Zac)) Zac)))
   (Zaf (Za9 (Zdo (Zck (Zay Zbr rfl T.z_isinstance rfl (Zaa (pv 3) (Zaa (Za1 (v:=.ref (cW)) rfl R.g_Whole rfl) Zac))))) (Zaf (Zeg (pe_bm PySem.F.plainAttrs_list PySem.F.slot_list_extend PySem.F.type_list_extend mt_extend (pv 2) (Zaa (Zcv (Zaa (Zaz (pv 3) rfl) (Zaa (Zaz (pv 3) rfl) Zac))) Zac)))) Zan)))))
   (Zaf (Zal (pv 1)))))),?_⟩
  refine ⟨lenOk 0,fun le hle=>⟨_,rfl,lenOk 1,fun lw hlw=>?_⟩⟩
  have nel:le≠lw:=Zag upd_same hlw
  have s0:Same H (upd (upd H le (.lst [])) lw (.lst [v])):=(Same.new hle).trans (Same.new hlw)
  have hlw0:H lw=none:=by
   cases e:H lw with
   | none=>rfl
   | some o=>rw [Same.new hle _ _ e] at hlw; cases hlw
  refine ⟨EInv cW cU cL H v t le lw,
   ⟨_,[],[],[(v,t)],none,rfl,s0,by rw [Zak nel]; exact upd_same,trivial,upd_same,fun p hp=>?_,?_,rfl⟩,?_⟩
  ·rw [List.mem_singleton.mp hp]; exact ho.same s0
  ·show ents t++[]=ents t
   exact List.append_nil _
  rintro m σ H' ⟨xs,es,ws,x3,rfl,s1,hl,hen,hw,hob,heq,rfl⟩
  have tot:es.length+cnt ws=t.nd:=by rw [← Zd4,← heq,List.length_append,Zh0]
  rcases Zed ws with rfl | ⟨ws0,p,rfl⟩
  ·refine ⟨_,rfl,_,.inl ⟨_,SqL.of hw,rfl⟩,iteN rfl ⟨_,rfl,q le xs H' s1 hle hl ?_⟩⟩
   rw [← heq]
   show EnsAt H' xs (es++[])
   rw [List.append_nil]; exact hen
  ·refine ⟨_,rfl,_,.inl ⟨_,SqL.of hw,rfl⟩,iteP (by simp) ⟨fun σ' H''=>∃ m',m' < cnt (ws0++[p])∧EInv cW cU cL H v t le lw m' σ' H'',fun σ' H'' z=>z,?_⟩⟩
   refine ⟨_,rfl,.inl ⟨rfl,_,SqL.of hw⟩,lw,_,p.1,rfl,rfl,hw,Zhs,?_⟩
   rw [Zh4]
   have k2:Kp H' (upd H' lw (.lst (ws0.map (·.1)))):=Kp.put hw
   have s2:Same H (upd H' lw (.lst (ws0.map (·.1)))):=fun b o e=>by rw [Zak (Zag e hlw0)]; exact s1 b o e
   have l2:(upd H' lw (.lst (ws0.map (·.1)))) le=some (.lst xs):=by rw [Zak nel]; exact hl
   have w2:(upd H' lw (.lst (ws0.map (·.1)))) lw=some (.lst (ws0.map (·.1))):=upd_same
   generalize upd H' lw (.lst (ws0.map (·.1)))=H2 at k2 s2 l2 w2 ⊢
   have op:=(hob p (by simp)).kp k2
   have ob0:∀ r∈ws0,Obj cW cU cL H2 r.2 r.1:=fun r hr=>(hob r (List.mem_append_left _ hr)).kp k2
   have hen2:=hen.kp k2
   rw [Zcy] at heq
   rw [Zd6] at tot
   have hxl:=hen.len
   have np:=nd_pos p.2
   refine ⟨_,rfl,.inl ⟨rfl,_,SqL.of l2⟩,_,rfl,p.1,p.2,rfl,op,fun a ha=>?_⟩
   have s3:Same H2 (upd H2 a (.tup (enV (hdE p.2)))):=Same.new ha
   have a3:(upd H2 a (.tup (enV (hdE p.2)))) a=some (.tup (enV (hdE p.2))):=upd_same
   generalize upd H2 a (.tup (enV (hdE p.2)))=H3 at s3 a3 ⊢
   have l3:=s3 _ _ l2
   refine ⟨le,xs,.ref a,rfl,rfl,l3,Za8 (by lia),?_⟩
   have k4:Kp H3 (upd H3 le (.lst (xs++[.ref a]))):=Kp.put l3
   have s4:Same H (upd H3 le (.lst (xs++[.ref a]))):=fun b o e=>by rw [Zak (Zag e hle)]; exact s3 b o (s2 b o e)
   have l4:(upd H3 le (.lst (xs++[.ref a]))) le=some (.lst (xs++[.ref a])):=upd_same
   have w4:(upd H3 le (.lst (xs++[.ref a]))) lw=some (.lst (ws0.map (·.1))):=by rw [Zak (Ne.symm nel)]; exact s3 _ _ w2
   have en4:EnsAt (upd H3 le (.lst (xs++[.ref a]))) (xs++[.ref a]) (es++[hdE p.2]):=((hen2.kp (kp_of s3)).kp k4).snoc (k4 _ _ a3 (by intro xs z; cases z))
   have kk:=(kp_of s3).trans k4
   generalize upd H3 le (.lst (xs++[.ref a]))=H4 at k4 s4 l4 w4 en4 kk ⊢
   have op4:=op.kp kk
   have ob4:∀ r∈ws0,Obj cW cU cL H4 r.2 r.1:=fun r hr=>(ob0 r hr).kp kk
   obtain ⟨pv,pt⟩:=p
   cases pt with
   | whole m =>
    rw [Obj] at op4
    obtain ⟨x,dx,rfl,hx⟩:=op4
    refine ⟨_,rfl,x,cW,dx,_,_,.ref cW,true,rfl,hx,R.iW,rfl,refU,R.kWW,_,rfl,iteN rfl ?_⟩
    refine ⟨cnt ws0,by rw [Zd6]; exact Nat.lt_succ_self _,_,_,ws0,_,rfl,s4,l4,en4,w4,ob4,?_,rfl⟩
    rw [← heq,List.append_assoc]; rfl
   | cut u k y1 y2 =>
    rw [Obj] at op4
    obtain ⟨x,dx,v1,v2,rfl,hx,o1,o2⟩:=op4
    refine ⟨_,rfl,x,_,dx,_,_,.ref cW,false,rfl,hx,R.iC u,rfl,refU,R.kCW u,_,rfl,iteP rfl ?_⟩
    refine ⟨_,rfl,.inl ⟨rfl,_,SqL.of w4⟩,_,rfl,x,_,dx,_,_,rfl,hx,(R.iC u).cl,R.n_other u,Zbv _ _ _,_,rfl,x,_,dx,_,_,rfl,hx,(R.iC u).cl,R.n_first u,Zbw _ _ _,lenOk 2,fun l5 hl5=>?_⟩
    have s5:Same H4 (upd H4 l5 (.lst [v2,v1])):=Same.new hl5
    have e5:(upd H4 l5 (.lst [v2,v1])) l5=some (.lst [v2,v1]):=upd_same
    generalize upd H4 l5 (.lst [v2,v1])=H5 at s5 e5 ⊢
    have cl:=Zk2 ws0
    have ndp:(Tr.cut u k y1 y2).nd=y1.nd+y2.nd+1:=rfl
    refine ⟨lw,l5,_,_,rfl,rfl,s5 _ _ w4,e5,Nat.le_of_lt (Za8 (by show (ws0.map (·.1)).length+2≤1000; rw [List.length_map]; lia)),?_⟩
    have k6:Kp H5 (upd H5 lw (.lst (ws0.map (·.1)++[v2,v1]))):=Kp.put (s5 _ _ w4)
    have kk6:=(kp_of s5).trans k6
    refine ⟨cnt (ws0++[(v2,y2)]++[(v1,y1)]),?_,xs++[.ref a],es++[.c u k],ws0++[(v2,y2)]++[(v1,y1)],_,rfl,fun b o e=>?_,?_,en4.kp kk6,?_,fun r hr=>?_,?_,rfl⟩
    ·rw [Zd6,Zd6,Zd6]
     show cnt ws0+y2.nd+y1.nd < cnt ws0+(y1.nd+y2.nd+1)
     lia
    ·rw [Zak (Zag e hlw0)]; exact s5 b o (s4 b o e)
    ·rw [Zak nel]; exact s5 _ _ l4
    ·rw [upd_same,List.map_append,List.map_append,List.append_assoc]; rfl
    ·rcases List.mem_append.mp hr with hr | hr
     ·rcases List.mem_append.mp hr with hr | hr
      ·exact (ob4 r hr).kp kk6
      ·rw [List.mem_singleton.mp hr]; exact o2.kp kk6
     ·rw [List.mem_singleton.mp hr]; exact o1.kp kk6
    ·rw [Zcy,Zcy,← heq]
     show es++[.c u k]++(ents y1++(ents y2++flat ws0))=es++(.c u k :: (ents y1++ents y2)++flat ws0)
     simp [List.append_assoc]
def wt:En→Int
 | .w _=>1
 | .c _ _=>-1
def wts (es:List En):Int:=(es.map wt).sum
theorem Zjy (a b:List En):wts (a++b)=wts a+wts b:=by
 unfold wts
 rw [List.map_append,List.sum_append]
theorem Zlc (e:En) (b:List En):wts (e :: b)=wt e+wts b:=by
 unfold wts
 rw [List.map_cons,List.sum_cons]
theorem Zdi:∀ t:Tr,wts (ents t)=1
 | .whole _=>rfl
 | .cut u k x y=>by
  rw [ents,Zlc,Zjy,Zdi x,Zdi y]; rfl
theorem Zg3:∀ ws:List (V × Tr),wts (flat ws)=ws.length
 | []=>rfl
 | p :: r=>by rw [Zjh,Zjy,Zdi,Zg3 r,List.length_cons]; lia
theorem Zjx:∀ (t:Tr) (a b:List En),ents t=a++b→b≠[]→1≤wts b
 | .whole m,a,b,h,hb=>by
  have h:[En.w m]=a++b:=h
  cases a with
  | nil=>rw [List.nil_append] at h; rw [← h]; exact Int.le_refl 1
  | cons e r =>
   have:=congrArg List.length h
   simp only [List.length_append,List.length_cons,List.length_nil] at this
   exact absurd (List.length_eq_zero_iff.mp (by lia)) hb
 | .cut u k x y,a,b,h,hb=>by
  cases a with
  | nil =>
   rw [List.nil_append] at h
   rw [← h,Zdi]
   decide
  | cons e r =>
   rw [ents,List.cons_append] at h
   have h2:=List.cons.inj h |>.2
   rcases List.append_eq_append_iff.mp h2 with ⟨c,hc,hd⟩ | ⟨c,hc,hd⟩
   ·exact Zjx y c b hd hb
   ·rw [hd,Zjy,Zdi]
    by_cases e:c=[]
    ·rw [e]; decide
    ·have:=Zjx x r c hc e
     lia
theorem Zh3:∀ (t t':Tr) (r r':List En),ents t++r=ents t'++r'→t=t'∧r=r'
 | .whole m,.whole m',r,r',h=>by
  have h:En.w m :: r=En.w m' :: r':=h
  injection h with h1 h2
  injection h1 with h1
  exact ⟨by rw [h1],h2⟩
 | .whole m,.cut u k x y,r,r',h=>by
  have h:En.w m :: r=En.c u k :: (ents x++ents y++r'):=h
  injection h with h1 _
  cases h1
 | .cut u k x y,.whole m,r,r',h=>by
  have h:En.c u k :: (ents x++ents y++r)=En.w m :: r':=h
  injection h with h1 _
  cases h1
 | .cut u k x y,.cut u' k' x' y',r,r',h=>by
  have h:En.c u k :: (ents x++ents y++r)=En.c u' k' :: (ents x'++ents y'++r'):=h
  injection h with h1 h2
  injection h1 with h3 h4
  rw [List.append_assoc,List.append_assoc] at h2
  obtain ⟨e1,h5⟩:=Zh3 x x' _ _ h2
  obtain ⟨e2,h6⟩:=Zh3 y y' _ _ h5
  exact ⟨by rw [h3,h4,e1,e2],h6⟩
def Zb6 (cW cU cL:Addr):Sp:=fun vs H Q _=>∃ (u:Bool) (k:Int) (v1 v2:V) (y1 y2:Tr),vs=[.str (wd u),.int k,v1,v2]∧Obj cW cU cL H y1 v1∧Obj cW cU cL H y2 v2∧∀ v' H',Same H H'→Obj cW cU cL H' (.cut u k y1 y2) v'→Q v' H'
theorem S_cut_from:Zap ["word","at","first","other"] ["word","at","first","other"] (Zad Zcq):=⟨rfl,rfl,rfl,by decide +kernel,rfl,by decide +kernel,by decide +kernel⟩
theorem Zkp {f:Addr} {fd:FuncData} (F:Fun K "cut_from" "cut_from" Zcq f fd) (T:Txt mg tk) (K_Upright:MkOk P w K mg base 1 "Upright" cU ["self","at","first","other"] (Zil cU)) (K_Level:MkOk P w K mg base 1 "Level" cL ["self","at","first","other"] (Zil cL)) :
  FnOk P w K mg base CX0 3 f fd ["word","at","first","other"] (Zb6 cW cU cL):=by
 have S:=S_cut_from
 refine F.ok S (fun vs H Q E h=>?_) (fun cdv A outer s H vs Q E hr h=>?_)
 ·obtain ⟨u,k,v1,v2,y1,y2,rfl,_⟩:=h; rfl
 ·obtain ⟨u,k,v1,v2,y1,y2,rfl,o1,o2,q⟩:=h
  refine ⟨_,(Zab (Za9 (Zai Zcf (pv 0) (Za1 (v:=.str "upright") rfl T.g_UPRIGHT ⟨_,rfl⟩) (nomark _)) (Zaf (Zal (pe_mk K_Upright hr (Zaa (pv 1) (Zaa (pv 2) (Zaa (pv 3) Zac)))))) Zan)
   (Zaf (Zal (pe_mk K_Level hr (Zaa (pv 1) (Zaa (pv 2) (Zaa (pv 3) Zac))))))),?_⟩
  cases u with
  | true =>
   refine ⟨_,rfl,rfl,_,rfl,iteP (Zcr true true) ⟨_,rfl,_,rfl,_,rfl,fun x dx nx ndx nex=>⟨x,dx,k,v1,v2,rfl,upd_same,fun H3 s3 e3=>⟨rfl,?_⟩⟩⟩⟩
   have s4:Same H H3:=fun b o e=>s3 b o (Zag e nx) (Zc9 nx ndx b o e)
   exact q _ _ s4 (by rw [Obj]; exact ⟨x,dx,v1,v2,rfl,e3,o1.same s4,o2.same s4⟩)
  | false =>
   refine ⟨_,rfl,rfl,_,rfl,iteN (Zcr false true) ⟨_,rfl,_,rfl,_,rfl,fun x dx nx ndx nex=>⟨x,dx,k,v1,v2,rfl,upd_same,fun H3 s3 e3=>⟨rfl,?_⟩⟩⟩⟩
   have s4:Same H H3:=fun b o e=>s3 b o (Zag e nx) (Zc9 nx ndx b o e)
   exact q _ _ s4 (by rw [Obj]; exact ⟨x,dx,v1,v2,rfl,e3,o1.same s4,o2.same s4⟩)
def Zj5 (K:PySem.W.Frag) (cW cU cL:Addr):Sp:=fun vs H Q _=>∃ (l:Addr) (xs:List V) (t:Tr),vs=[.ref l]∧SqL K H l xs∧EnsAt H xs (ents t)∧t.nd≤400∧∀ v' H',Same H H'→Obj cW cU cL H' t v'→Q v' H'
theorem Zk7:Zap ["entries","done","word","number","first","other"] ["entries"] (Zad Zb9):=⟨rfl,rfl,rfl,by decide +kernel,rfl,by decide +kernel,by decide +kernel⟩
theorem drop_last {es:List En} {i:Nat} {e:En} (hi:i < es.length) (h:es[es.length - 1 - i]?=some e):es.drop (es.length - (i+1))=e :: es.drop (es.length - i):=by
 have hk:es.length - 1 - i < es.length:=by lia
 rw [show es.length - (i+1)=es.length - 1 - i by lia,List.drop_eq_getElem_cons hk]
 rw [List.getElem?_eq_getElem hk] at h
 rw [Option.some.inj h,show es.length - 1 - i+1=es.length - i by lia]
theorem Ziz {f:Addr} {fd:FuncData} (F:Fun K "tree_from" "tree_from" Zb9 f fd) (T:Txt mg tk) (R:RT mg K cT cW cU cL) (K_Whole:MkOk P w K mg base 1 "Whole" cW ["self","mark"] (sp_iW cW)) (D_cut_from:DefOk P w K mg base 3 "cut_from" ["word","at","first","other"] (Zb6 cW cU cL)) :
  FnOk P w K mg base CX0 4 f fd ["entries"] (Zj5 K cW cU cL):=by
 have S:=Zk7
 refine F.ok S (fun vs H Q E h=>?_) (fun cdv A outer s H vs Q E hr h=>?_)
 ·obtain ⟨l,xs,t,rfl,_⟩:=h; rfl
 ·obtain ⟨l,xs,t,rfl,hl,hen,hn,q⟩:=h
  refine ⟨_,(Zab (Zam (i:=1) S.nd rfl (Or.inl rfl) (Zcv Zac))
   (Zab (Zgm PassesOwn.never rfl (pi_revd rfl T.z_reversed (Zaa (pv 0) Zac)) (Zdw rfl (Zas (Zau (i:=2) S.nd rfl (Or.inl rfl)) (Zas (Zau (i:=3) S.nd rfl (Or.inl rfl)) Zcu))) (Zaf (Za9 (Zai Zcf (pv 2) (Za1 (v:=.str "whole") rfl T.g_WHOLE ⟨_,rfl⟩) (nomark _)) (Zaf (Zeg (pe_bm PySem.F.plainAttrs_list PySem.F.slot_list_append PySem.F.type_list_append Zcw (pv 1) (Zaa (pe_mk K_Whole hr (Zaa (pv 3) Zac)) Zac)))) (Zab (Zam (i:=4) S.nd rfl (Or.inl rfl) (Zir PySem.F.plainAttrs_list PySem.F.slot_list_pop PySem.F.type_list_pop Zi7 (pv 1)))
   (Zab (Zam (i:=5) S.nd rfl (Or.inl rfl) (Zir PySem.F.plainAttrs_list PySem.F.slot_list_pop PySem.F.type_list_pop Zi7 (pv 1)))
   (Zaf (Zeg (pe_bm PySem.F.plainAttrs_list PySem.F.slot_list_append PySem.F.type_list_append Zcw (pv 1) (Zaa (Zaq D_cut_from hr (Zaa (pv 2) (Zaa (pv 3) (Zaa (pv 4) (Zaa (pv 5) Zac))))) Zac)))))))))
   (Zaf (Zal (Zir PySem.F.plainAttrs_list PySem.F.slot_list_pop PySem.F.type_list_pop Zi7 (pv 1)))))),?_⟩
  refine ⟨lenOk 0,fun ld hld=>⟨_,rfl,l,xs,rfl,(Same.new hld).seq hl,?_⟩⟩
  have hxl:=hen.len
  have hel:=Zd4 t
  refine for_rev (K:=K) (a:=l) (xs:=xs) (fun i σ H'=>∃ (ws:List (V × Tr)) (x2 x3 x4 x5:Option V),σ=[some (.ref l),some (.ref ld),x2,x3,x4,x5]∧Same H H'∧H' ld=some (.lst (ws.map (·.1)))∧(∀ p∈ws,Obj cW cU cL H' p.2 p.1)∧(ents t).drop ((ents t).length - i)=flat ws)
   ⟨[],_,_,_,_,rfl,Same.new hld,upd_same,(fun p hp=>(nomatch hp)),by rw [Nat.sub_zero,List.drop_length]; rfl⟩ (fun i σ H' _ hp=>let ⟨_,_,_,_,_,_,s,_⟩:=hp; s.seq hl) ?_ ?_
  ·rintro i v σ H' hv hi ⟨ws,x2,x3,x4,x5,rfl,s1,hd,hob,heq⟩
   obtain ⟨e,a,he,rfl,ha⟩:=hen.get hv
   have ha':=s1 _ _ ha
   rw [hxl] at he hi
   have hdr:=drop_last hi he
   have wl:ws.length≤400:=by
    have h1:=Zk2 ws
    have h2:=Zh0 ws
    rw [← heq,List.length_drop] at h2
    lia
   cases e with
   | w m =>
    refine ⟨a,_,rfl,SqT.of ha',rfl,_,_,rfl,_,_,rfl,rfl,?_⟩
    refine ⟨_,rfl,rfl,_,rfl,iteP (decide_eq_true rfl) ?_⟩
    refine ⟨_,rfl,.inl ⟨rfl,_,SqL.of hd⟩,_,rfl,fun x dx nx ndx nex=>⟨x,dx,_,rfl,upd_same,rfl,?_⟩⟩
    have s2:Same H' (upd (upd (upd H' dx (.own x)) x (.ins cW dx [])) x (.ins cW dx (wF (markV m)))):=fun b o e=>by
     rw [Zak (Zag e nx)]; exact Zc9 nx ndx b o e
    have e2:(upd (upd (upd H' dx (.own x)) x (.ins cW dx [])) x (.ins cW dx (wF (markV m)))) x=some (.ins cW dx (wF (markV m))):=upd_same
    generalize upd (upd (upd H' dx (.own x)) x (.ins cW dx [])) x (.ins cW dx (wF (markV m)))=H2 at s2 e2 ⊢
    have d2:=s2 _ _ hd
    refine ⟨ld,_,.ref x,rfl,rfl,d2,Za8 (by rw [List.length_map]; lia),?_⟩
    have k3:Kp H2 (upd H2 ld (.lst (ws.map (·.1)++[.ref x]))):=Kp.put d2
    refine ⟨ws++[(.ref x,.whole m)],_,_,_,_,rfl,fun b o e=>?_,?_,fun p hp=>?_,?_⟩
    ·rw [Zak (Zag e hld)]; exact s2 b o (s1 b o e)
    ·rw [upd_same,List.map_append]; rfl
    ·rcases List.mem_append.mp hp with hp | hp
     ·exact ((hob p hp).same s2).kp k3
     ·rw [List.mem_singleton.mp hp,Obj]; exact ⟨x,dx,rfl,k3 _ _ e2 (by intro xs z; cases z)⟩
    ·rw [hdr,heq,Zcy]; rfl
   | c u k =>
    have big:2≤ws.length:=by
     have h1:=Zjx t ((ents t).take ((ents t).length - (i+1))) ((ents t).drop ((ents t).length - (i+1))) (List.take_append_drop _ _).symm (by rw [hdr]; intro z; cases z)
     rw [hdr,heq,Zlc,Zg3] at h1
     have:wt (.c u k)=-1:=rfl
     lia
    obtain rfl | ⟨ws1,p1,rfl⟩:=Zed ws
    ·exact absurd big (by decide)
    obtain rfl | ⟨ws2,p2,rfl⟩:=Zed ws1
    ·exact absurd big (by simp)
    refine ⟨a,_,rfl,SqT.of ha',rfl,_,_,rfl,_,_,rfl,rfl,?_⟩
    refine ⟨_,rfl,rfl,_,rfl,iteN (Zcl u) ?_⟩
    refine ⟨_,rfl,.inl ⟨rfl,_,SqL.of hd⟩,ld,_,p1.1,rfl,rfl,hd,Zhs,?_⟩
    rw [Zh4]
    have k2:Kp H' (upd H' ld (.lst ((ws2++[p2]).map (·.1)))):=Kp.put hd
    have s2:Same H (upd H' ld (.lst ((ws2++[p2]).map (·.1)))):=fun b o e=>by rw [Zak (Zag e hld)]; exact s1 b o e
    have d2:(upd H' ld (.lst ((ws2++[p2]).map (·.1)))) ld=some (.lst ((ws2++[p2]).map (·.1))):=upd_same
    generalize upd H' ld (.lst ((ws2++[p2]).map (·.1)))=H2 at k2 s2 d2 ⊢
    refine ⟨_,rfl,.inl ⟨rfl,_,SqL.of d2⟩,ld,_,p2.1,rfl,rfl,d2,Zhs,?_⟩
    rw [Zh4]
    have k3:Kp H2 (upd H2 ld (.lst (ws2.map (·.1)))):=Kp.put d2
    have s3:Same H (upd H2 ld (.lst (ws2.map (·.1)))):=fun b o e=>by rw [Zak (Zag e hld)]; exact s2 b o e
    have d3:(upd H2 ld (.lst (ws2.map (·.1)))) ld=some (.lst (ws2.map (·.1))):=upd_same
    generalize upd H2 ld (.lst (ws2.map (·.1)))=H3 at k3 s3 d3 ⊢
    have kk:=k2.trans k3
    refine ⟨_,rfl,.inl ⟨rfl,_,SqL.of d3⟩,_,rfl,_,rfl,_,rfl,_,rfl,u,k,p1.1,p2.1,p1.2,p2.2,rfl,(hob p1 (by simp)).kp kk,(hob p2 (by simp)).kp kk,fun v' H4 s4 o4=>?_⟩
    have d4:=s4 _ _ d3
    rw [List.length_append,List.length_append] at wl
    refine ⟨ld,_,v',rfl,rfl,d4,Za8 (by rw [List.length_map]; lia),?_⟩
    have k5:Kp H4 (upd H4 ld (.lst (ws2.map (·.1)++[v']))):=Kp.put d4
    refine ⟨ws2++[(v',.cut u k p1.2 p2.2)],_,_,_,_,rfl,fun b o e=>?_,?_,fun p hp=>?_,?_⟩
    ·rw [Zak (Zag e hld)]; exact s4 b o (s3 b o e)
    ·rw [upd_same,List.map_append]; rfl
    ·rcases List.mem_append.mp hp with hp | hp
     ·exact ((((hob p (by simp [hp])).kp kk).same s4)).kp k5
     ·rw [List.mem_singleton.mp hp]; exact o4.kp k5
    ·rw [hdr,heq,Zcy,Zcy,Zcy]
     show .c u k :: (ents p1.2++(ents p2.2++flat ws2))=.c u k :: (ents p1.2++ents p2.2)++flat ws2
     rw [List.cons_append,List.append_assoc]
  ·rintro σ H' ⟨ws,x2,x3,x4,x5,rfl,s1,hd,hob,heq⟩
   rw [hxl,Nat.sub_self,List.drop_zero] at heq
   have one:ws.length=1:=by
    have h1:=Zdi t
    rw [heq,Zg3] at h1
    lia
   obtain ⟨p,rfl⟩:∃ p,ws=[p]:=by
    match ws,one with
    | [p],_=>exact ⟨p,rfl⟩
   have hp:=hob p (by simp)
   have et:p.2=t:=by
    have h1:ents t++[]=ents p.2++[]:=by
     rw [List.append_nil,heq]; rfl
    exact (Zh3 _ _ _ _ h1).1.symm
   refine ⟨_,rfl,.inl ⟨rfl,_,SqL.of hd⟩,ld,_,p.1,rfl,rfl,hd,rfl,?_⟩
   rw [et] at hp
   exact q _ _ (fun b o e=>by rw [Zak (Zag e hld)]; exact s1 b o e) (hp.kp (Kp.put hd))
abbrev Rk:=GB.Rc
abbrev Rk.vs (p:Rk):List V:=[.int p.t,.int p.l,.int p.b,.int p.r]
def Rk.len (p:Rk) (u:Bool):Int:=if u then p.r - p.l else p.b - p.t
def Rk.fst (p:Rk) (u:Bool) (k:Int):Rk:=if u then ⟨p.t,p.l,p.b,p.l+k⟩ else ⟨p.t,p.l,p.t+k,p.r⟩
def Rk.oth (p:Rk) (u:Bool) (k:Int):Rk:=if u then ⟨p.t,p.l+k,p.b,p.r⟩ else ⟨p.t+k,p.l,p.b,p.r⟩
def FitR (p:Rk) (t:Tr):Prop:=Fit t (p.r - p.l) (p.b - p.t)
theorem fitR_cut {p:Rk} {u:Bool} {k:Int} {x y:Tr}:FitR p (.cut u k x y)↔(1≤k∧k < p.len u)∧FitR (p.fst u k) x∧FitR (p.oth u k) y:=by
 unfold FitR Rk.len Rk.fst Rk.oth
 rw [Fit]
 cases u with
 | true =>
  show (1≤k∧k < p.r - p.l∧Fit x k (p.b - p.t)∧Fit y (p.r - p.l - k) (p.b - p.t))↔((1≤k∧k < p.r - p.l)∧Fit x (p.l+k - p.l) (p.b - p.t)∧Fit y (p.r - (p.l+k)) (p.b - p.t))
  rw [show p.l+k - p.l=k by lia,show p.r - (p.l+k)=p.r - p.l - k by lia]
  exact ⟨fun ⟨a,b,c,d⟩=>⟨⟨a,b⟩,c,d⟩,fun ⟨⟨a,b⟩,c,d⟩=>⟨a,b,c,d⟩⟩
 | false =>
  show (1≤k∧k < p.b - p.t∧Fit x (p.r - p.l) k∧Fit y (p.r - p.l) (p.b - p.t - k))↔((1≤k∧k < p.b - p.t)∧Fit x (p.r - p.l) (p.t+k - p.t)∧Fit y (p.r - p.l) (p.b - (p.t+k)))
  rw [show p.t+k - p.t=k by lia,show p.b - (p.t+k)=p.b - p.t - k by lia]
  exact ⟨fun ⟨a,b,c,d⟩=>⟨⟨a,b⟩,c,d⟩,fun ⟨⟨a,b⟩,c,d⟩=>⟨a,b,c,d⟩⟩
def gath:Tr→Rk→List (Rk × Option Int)
 | .whole m,p=>[(p,m)]
 | .cut u k x y,p=>gath x (p.fst u k)++gath y (p.oth u k)
theorem Zci:∀ (t:Tr) (p:Rk),(gath t p).length=t.sz
 | .whole _,_=>rfl
 | .cut u k x y,p=>by rw [gath,List.length_append,Zci x,Zci y]; rfl
theorem sz_nd:∀ t:Tr,t.sz≤t.nd
 | .whole _=>Nat.le_refl _
 | .cut _ _ x y=>by
  have:=sz_nd x
  have:=sz_nd y
  rw [Tr.sz,Tr.nd]; lia
theorem Zc1:∀ {t:Tr} {p:Rk},p.t < p.b→p.l < p.r→FitR p t→∀ g∈gath t p,p.t≤g.1.t∧g.1.t < g.1.b∧g.1.b≤p.b∧p.l≤g.1.l∧g.1.l < g.1.r∧g.1.r≤p.r
 | .whole m,p,h1,h2,_,g,hg=>by
  rw [gath] at hg
  rw [List.mem_singleton.mp hg]
  exact ⟨Int.le_refl _,h1,Int.le_refl _,Int.le_refl _,h2,Int.le_refl _⟩
 | .cut u k x y,p,h1,h2,f,g,hg=>by
  rw [fitR_cut] at f
  obtain ⟨⟨a,b⟩,fx,fy⟩:=f
  rw [gath,List.mem_append] at hg
  cases u with
  | true =>
   have b:k < p.r - p.l:=b
   rcases hg with hg | hg
   ·have:=Zc1 (p:=p.fst true k) h1 (show p.l < p.l+k by lia) fx g hg
    have:p.t≤g.1.t∧g.1.t < g.1.b∧g.1.b≤p.b∧p.l≤g.1.l∧g.1.l < g.1.r∧g.1.r≤p.l+k:=this
    lia
   ·have:=Zc1 (p:=p.oth true k) h1 (show p.l+k < p.r by lia) fy g hg
    have:p.t≤g.1.t∧g.1.t < g.1.b∧g.1.b≤p.b∧p.l+k≤g.1.l∧g.1.l < g.1.r∧g.1.r≤p.r:=this
    lia
  | false =>
   have b:k < p.b - p.t:=b
   rcases hg with hg | hg
   ·have:=Zc1 (p:=p.fst false k) (show p.t < p.t+k by lia) h2 fx g hg
    have:p.t≤g.1.t∧g.1.t < g.1.b∧g.1.b≤p.t+k∧p.l≤g.1.l∧g.1.l < g.1.r∧g.1.r≤p.r:=this
    lia
   ·have:=Zc1 (p:=p.oth false k) (show p.t+k < p.b by lia) h2 fy g hg
    have:p.t+k≤g.1.t∧g.1.t < g.1.b∧g.1.b≤p.b∧p.l≤g.1.l∧g.1.l < g.1.r∧g.1.r≤p.r:=this
    lia
theorem Zft:∀ {t:Tr} {p:Rk},p.t < p.b→p.l < p.r→FitR p t→∀ g∈gath t p,∀ h∈gath t p,g.1=h.1→g=h
 | .whole m,p,_,_,_,g,hg,h,hh,_=>by
  rw [gath] at hg hh
  rw [List.mem_singleton.mp hg,List.mem_singleton.mp hh]
 | .cut u k x y,p,h1,h2,f,g,hg,h,hh,e=>by
  rw [fitR_cut] at f
  obtain ⟨⟨a,b⟩,fx,fy⟩:=f
  rw [gath,List.mem_append] at hg hh
  obtain ⟨⟨a1,a2⟩,b1,b2⟩:((p.fst u k).t < (p.fst u k).b∧(p.fst u k).l < (p.fst u k).r)∧(p.oth u k).t < (p.oth u k).b∧(p.oth u k).l < (p.oth u k).r:=by
   cases u with
   | true =>
    have b:k < p.r - p.l:=b
    exact ⟨⟨h1,show p.l < p.l+k by lia⟩,h1,show p.l+k < p.r by lia⟩
   | false =>
    have b:k < p.b - p.t:=b
    exact ⟨⟨show p.t < p.t+k by lia,h2⟩,show p.t+k < p.b by lia,h2⟩
  have mix:∀ g∈gath x (p.fst u k),∀ h∈gath y (p.oth u k),g.1=h.1→False:=fun g hg h hh e=>by
   have i1:=Zc1 a1 a2 fx g hg
   have i2:=Zc1 b1 b2 fy h hh
   rw [← e] at i2
   cases u with
   | true =>
    have i1:p.t≤g.1.t∧g.1.t < g.1.b∧g.1.b≤p.b∧p.l≤g.1.l∧g.1.l < g.1.r∧g.1.r≤p.l+k:=i1
    have i2:p.t≤g.1.t∧g.1.t < g.1.b∧g.1.b≤p.b∧p.l+k≤g.1.l∧g.1.l < g.1.r∧g.1.r≤p.r:=i2
    lia
   | false =>
    have i1:p.t≤g.1.t∧g.1.t < g.1.b∧g.1.b≤p.t+k∧p.l≤g.1.l∧g.1.l < g.1.r∧g.1.r≤p.r:=i1
    have i2:p.t+k≤g.1.t∧g.1.t < g.1.b∧g.1.b≤p.b∧p.l≤g.1.l∧g.1.l < g.1.r∧g.1.r≤p.r:=i2
    lia
  rcases hg with hg | hg
  ·rcases hh with hh | hh
   ·exact Zft a1 a2 fx g hg h hh e
   ·exact (mix g hg h hh e).elim
  ·rcases hh with hh | hh
   ·exact (mix h hh g hg e.symm).elim
   ·exact Zft b1 b2 fy g hg h hh e
def Due (t:Tr) (ww hh:Int) (L:List (Rk × Option Int)):Prop:=L.Perm (gath t ⟨0,0,hh,ww⟩)∧(L.map fun g=>GB.key g.1.ls).Pairwise (·≤·)
theorem fit0 {t:Tr} {ww hh:Int} (f:Fit t ww hh):FitR ⟨0,0,hh,ww⟩ t:=by
 show Fit t (ww - 0) (hh - 0)
 rw [Int.sub_zero,Int.sub_zero]; exact f
theorem Zkw {t:Tr} {ww hh:Int} (w1:1≤ww) (h1:1≤hh) (f:Fit t ww hh):∀ g∈gath t ⟨0,0,hh,ww⟩,GB.Rc.In ww hh g.1:=fun g hg=>by
 have:0≤g.1.t∧g.1.t < g.1.b∧g.1.b≤hh∧0≤g.1.l∧g.1.l < g.1.r∧g.1.r≤ww:=Zc1 (p:=⟨0,0,hh,ww⟩) (show (0:Int) < hh by lia) (show (0:Int) < ww by lia) (fit0 f) g hg
 exact ⟨this.1,this.2.1,this.2.2.1,this.2.2.2.1,this.2.2.2.2.1,this.2.2.2.2.2⟩
theorem due_same {t:Tr} {ww hh:Int} (w1:1≤ww) (w2:ww≤12) (h1:1≤hh) (h2:hh≤12) (f:Fit t ww hh) {L M:List (Rk × Option Int)} (a:Due t ww hh L) (b:Due t ww hh M):L=M:=by
 have inn:=Zkw w1 h1 f
 have e:L.Perm M:=a.1.trans b.1.symm
 have hm:=GB.sorted_same (ps:=L.map (·.1)) (qs:=M.map (·.1)) (w:=ww) (h:=hh) (fun p hp=>by obtain ⟨g,hg,rfl⟩:=List.mem_map.mp hp; exact inn g (a.1.mem_iff.mp hg)) w2 h2 (e.map _) (by unfold GB.Srt; rw [List.map_map]; exact a.2) (by unfold GB.Srt; rw [List.map_map]; exact b.2)
 apply List.ext_getElem e.length_eq
 intro i h1' h2'
 have:=congrArg (fun l=>l[i]?) hm
 simp only [List.getElem?_map,List.getElem?_eq_getElem h1',List.getElem?_eq_getElem h2',Option.map_some,Option.some.injEq] at this
 exact Zft (p:=⟨0,0,hh,ww⟩) (show (0:Int) < hh by lia) (show (0:Int) < ww by lia) (fit0 f) _ (a.1.mem_iff.mp (List.getElem_mem h1')) _ (b.1.mem_iff.mp (List.getElem_mem h2')) this
abbrev PT:=Addr × Addr × Rk × Option Int
abbrev pcs (ts:List PT):List V:=ts.map fun t=>V.ref t.1
abbrev cons (ts:List PT):List (Rk × Option Int):=ts.map fun t=>t.2.2
def PcO (H:Hp) (ts:List PT):Prop:=∀ t∈ts,H t.1=some (.tup [.ref t.2.1,markV t.2.2.2])∧H t.2.1=some (.tup t.2.2.1.vs)
theorem PcO.same {H H':Hp} {ts:List PT} (s:Same H H') (h:PcO H ts):PcO H' ts:=fun t ht=>⟨s _ _ (h t ht).1,s _ _ (h t ht).2⟩
theorem PcO.perm {H:Hp} {ts us:List PT} (h:PcO H ts) (e:us.Perm ts):PcO H us:=fun t ht=>h t (e.mem_iff.mp ht)
theorem len1 {α:Type} {us:List α} (h:us.length=1):∃ a,us=[a]:=List.length_eq_one_iff.mp h
theorem len2 {α:Type} {us:List α} (h:us.length=2):∃ a b,us=[a,b]:=by
 cases us with
 | nil=>cases h
 | cons a r=>obtain ⟨b,rfl⟩:=len1 (Nat.succ.inj h); exact ⟨a,b,rfl⟩
theorem len3 {α:Type} {us:List α} (h:us.length=3):∃ a b c,us=[a,b,c]:=by
 cases us with
 | nil=>cases h
 | cons a r=>obtain ⟨b,c,rfl⟩:=len2 (Nat.succ.inj h); exact ⟨a,b,c,rfl⟩
theorem len4 {α:Type} {us:List α} (h:us.length=4):∃ a b c d,us=[a,b,c,d]:=by
 cases us with
 | nil=>cases h
 | cons a r=>obtain ⟨b,c,d,rfl⟩:=len3 (Nat.succ.inj h); exact ⟨a,b,c,d,rfl⟩
def Rk.lo (p:Rk) (u:Bool):Int:=if u then p.l else p.t
def Rk.hi (p:Rk) (u:Bool):Int:=if u then p.r else p.b
theorem Zin {p:Rk} {u:Bool}:p.len u=p.hi u - p.lo u:=by cases u <;> rfl
theorem Zio {p:Rk} {u:Bool} {k a:Int}:(p.fst u k).fst u a=p.fst u a:=by cases u <;> rfl
theorem Zka {p:Rk} {u:Bool} {k a:Int}:(p.fst u k).oth u a=(p.oth u a).fst u (k - a):=by
 cases u
 ·show (⟨p.t+a,p.l,p.t+k,p.r⟩:Rk)=⟨p.t+a,p.l,p.t+a+(k - a),p.r⟩
  rw [show p.t+a+(k - a)=p.t+k by lia]
 ·show (⟨p.t,p.l+a,p.b,p.l+k⟩:Rk)=⟨p.t,p.l+a,p.b,p.l+a+(k - a)⟩
  rw [show p.l+a+(k - a)=p.l+k by lia]
theorem Zj9 {p:Rk} {u:Bool} {k a:Int}:(p.oth u a).oth u (k - a)=p.oth u k:=by
 cases u
 ·show (⟨p.t+a+(k - a),p.l,p.b,p.r⟩:Rk)=⟨p.t+k,p.l,p.b,p.r⟩
  rw [show p.t+a+(k - a)=p.t+k by lia]
 ·show (⟨p.t,p.l+a+(k - a),p.b,p.r⟩:Rk)=⟨p.t,p.l+k,p.b,p.r⟩
  rw [show p.l+a+(k - a)=p.l+k by lia]
theorem rk_x {p:Rk} {u v:Bool} {k a:Int} (h:¬ v=u):(p.fst v k).fst u a=(p.fst u a).fst v k∧(p.fst v k).oth u a=(p.oth u a).fst v k∧(p.oth v k).fst u a=(p.fst u a).oth v k∧(p.oth v k).oth u a=(p.oth u a).oth v k∧(p.fst v k).len u=p.len u∧(p.oth v k).len u=p.len u∧(p.fst v k).lo u=p.lo u∧(p.oth v k).lo u=p.lo u∧(p.fst u a).len v=p.len v∧(p.oth u a).len v=p.len v:=by
 cases u <;> cases v <;> first | exact absurd rfl h | exact ⟨rfl,rfl,rfl,rfl,rfl,rfl,rfl,rfl,rfl,rfl⟩
theorem rk_s {p:Rk} {u:Bool} {k:Int}:(p.fst u k).len u=k∧(p.oth u k).len u=p.len u - k∧(p.fst u k).lo u=p.lo u∧(p.oth u k).lo u=p.lo u+k∧(p.fst u k).hi u=p.lo u+k:=by
 cases u
 ·exact ⟨show p.t+k - p.t=k by lia,show p.b - (p.t+k)=p.b - p.t - k by lia,rfl,rfl,rfl⟩
 ·exact ⟨show p.l+k - p.l=k by lia,show p.r - (p.l+k)=p.r - p.l - k by lia,rfl,rfl,rfl⟩
abbrev Rk.ok (p:Rk):Prop:=p.t < p.b∧p.l < p.r
theorem rk_parts {p:Rk} {u:Bool} {k:Int} (h:p.ok) (a:1≤k) (b:k < p.len u):(p.fst u k).ok∧(p.oth u k).ok:=by
 cases u with
 | true =>
  have b:k < p.r - p.l:=b
  exact ⟨⟨h.1,show p.l < p.l+k by lia⟩,h.1,show p.l+k < p.r by lia⟩
 | false =>
  have b:k < p.b - p.t:=b
  exact ⟨⟨show p.t < p.t+k by lia,h.2⟩,show p.t+k < p.b by lia,h.2⟩
def Thr:Tr→Bool→Int→Prop
 | .whole _,_,_=>False
 | .cut v k x y,u,a=>if v=u then (if a < k then Thr x u a else if k < a then Thr y u (a - k) else True) else Thr x u a∧Thr y u a
def ahd:Tr→Bool→Int→Tr
 | .whole m,_,_=>.whole m
 | .cut v k x y,u,a=>if v=u then (if a < k then ahd x u a else if k < a then .cut v k x (ahd y u (a - k)) else x) else .cut v k (ahd x u a) (ahd y u a)
def bhd:Tr→Bool→Int→Tr
 | .whole m,_,_=>.whole m
 | .cut v k x y,u,a=>if v=u then (if a < k then .cut v (k - a) (bhd x u a) y else if k < a then bhd y u (a - k) else y) else .cut v k (bhd x u a) (bhd y u a)
abbrev Mv:=List Int × Str
def pre (i:Int) (L:List Mv):List Mv:=L.map fun m=>(i :: m.1,m.2)
def leanT (u:Bool) (k:Int):Tr→Tr→Option Tr
 | .cut v j a b,y=>if v=u then some (.cut u j a (.cut u (k - j) b y)) else none
 | .whole _,_=>none
def backT (u:Bool) (k:Int) (x:Tr):Tr→Option Tr
 | .cut v j a b=>if v=u then some (.cut u (k+j) (.cut u k x a) b) else none
 | .whole _=>none
def crossT (u:Bool) (k:Int):Tr→Tr→Option Tr
 | .cut v j a b,.cut v' j' c d=>if v=u then none else if v=v'∧j=j' then some (.cut v j (.cut u k a c) (.cut u k b d)) else none
 | _,_=>none
def atop (u:Bool) (k:Int) (x y:Tr) (w:Str):Option Tr:=if w="lean" then leanT u k x y else if w="back" then backT u k x y else if w="cross" then crossT u k x y else none
def mvd:Tr→List Int→Str→Option Tr
 | .whole _,_,_=>none
 | .cut u k x y,[],w=>atop u k x y w
 | .cut u k x y,i :: st,w=>if i=0 then (mvd x st w).map (.cut u k · y) else if i=1 then (mvd y st w).map (.cut u k x ·) else none
def runs:Tr→List Mv→Option Tr
 | t,[]=>some t
 | t,m :: r=>(mvd t m.1 m.2).bind (runs · r)
theorem Zgh:∀ t:Tr,1≤t.sz
 | .whole _=>Nat.le_refl _
 | .cut _ _ x y=>by
  have:=Zgh x
  rw [Tr.sz]; lia
theorem Zdh:∀ {t:Tr} {p:Rk} {u:Bool} {a:Int},FitR p t→Thr t u a→(1≤a∧a < p.len u)→FitR (p.fst u a) (ahd t u a)∧FitR (p.oth u a) (bhd t u a)
 | .whole _,p,u,a,_,h,_=>h.elim
 | .cut v k x y,p,u,a,f,h,⟨a1,a2⟩=>by
  rw [fitR_cut] at f
  obtain ⟨⟨k1,k2⟩,fx,fy⟩:=f
  rw [Thr] at h
  rw [ahd,bhd]
  by_cases e:v=u
  ·subst e
   rw [if_pos rfl] at h
   rw [if_pos rfl,if_pos rfl]
   obtain ⟨s1,s2,_,_,_⟩:=rk_s (p:=p) (u:=v) (k:=k)
   by_cases c:a < k
   ·rw [if_pos c] at h
    rw [if_pos c,if_pos c,fitR_cut]
    obtain ⟨i1,i2⟩:=Zdh fx h ⟨a1,by rw [s1]; exact c⟩
    rw [Zio] at i1
    rw [Zka] at i2
    refine ⟨i1,⟨by lia,?_⟩,i2,by rw [Zj9]; exact fy⟩
    have:=(rk_s (p:=p) (u:=v) (k:=a)).2.1
    lia
   ·rw [if_neg c] at h
    rw [if_neg c,if_neg c]
    by_cases c2:k < a
    ·rw [if_pos c2] at h
     rw [if_pos c2,if_pos c2,fitR_cut]
     obtain ⟨i1,i2⟩:=Zdh fy h ⟨by lia,by rw [s2]; lia⟩
     rw [← Zka] at i1
     rw [Zj9] at i2
     refine ⟨⟨⟨k1,?_⟩,by rw [Zio]; exact fx,i1⟩,i2⟩
     have:=(rk_s (p:=p) (u:=v) (k:=a)).1
     lia
    ·rw [if_neg c2,if_neg c2]
     have:a=k:=by lia
     rw [this]; exact ⟨fx,fy⟩
  ·rw [if_neg e] at h
   rw [if_neg e,if_neg e,fitR_cut,fitR_cut]
   obtain ⟨e1,e2,e3,e4,e5,e6,_,_,e9,e10⟩:=rk_x (p:=p) (u:=u) (v:=v) (k:=k) (a:=a) e
   obtain ⟨i1,i2⟩:=Zdh fx h.1 ⟨a1,by rw [e5]; exact a2⟩
   obtain ⟨j1,j2⟩:=Zdh fy h.2 ⟨a1,by rw [e6]; exact a2⟩
   rw [e1] at i1; rw [e2] at i2; rw [e3] at j1; rw [e4] at j2
   exact ⟨⟨⟨k1,by rw [e9]; exact k2⟩,i1,j1⟩,⟨k1,by rw [e10]; exact k2⟩,i2,j2⟩
theorem perm4 {α:Type} {A B C D:List α}:((A++B)++(C++D)).Perm ((A++C)++(B++D)):=by
 rw [List.append_assoc,List.append_assoc]
 refine List.Perm.append_left A ?_
 rw [← List.append_assoc,← List.append_assoc]
 exact List.Perm.append_right D List.perm_append_comm
theorem Zdd:∀ {t:Tr} {p:Rk} {u:Bool} {a:Int},Thr t u a→(gath t p).Perm (gath (ahd t u a) (p.fst u a)++gath (bhd t u a) (p.oth u a))
 | .whole _,p,u,a,h=>h.elim
 | .cut v k x y,p,u,a,h=>by
  rw [Thr] at h
  rw [ahd,bhd]
  by_cases e:v=u
  ·subst e
   rw [if_pos rfl] at h
   rw [if_pos rfl,if_pos rfl]
   by_cases c:a < k
   ·rw [if_pos c] at h
    rw [if_pos c,if_pos c,gath,gath,Zj9,← Zka,← List.append_assoc]
    have:=Zdd (p:=p.fst v k) h
    rw [Zio] at this
    exact this.append_right _
   ·rw [if_neg c] at h
    rw [if_neg c,if_neg c]
    by_cases c2:k < a
    ·rw [if_pos c2] at h
     rw [if_pos c2,if_pos c2,gath,gath,Zio,Zka,List.append_assoc]
     have:=Zdd (p:=p.oth v k) h
     rw [Zj9] at this
     exact this.append_left _
    ·rw [if_neg c2,if_neg c2]
     have:a=k:=by lia
     rw [this,gath]
  ·rw [if_neg e] at h
   rw [if_neg e,if_neg e,gath,gath,gath]
   obtain ⟨e1,e2,e3,e4,_⟩:=rk_x (p:=p) (u:=u) (v:=v) (k:=k) (a:=a) e
   have i:=Zdd (p:=p.fst v k) h.1
   have j:=Zdd (p:=p.oth v k) h.2
   rw [e1,e2] at i
   rw [e3,e4] at j
   exact (i.append j).trans perm4
def brk (u:Bool) (line:Int) (g:Rk × Option Int):Prop:=g.1.lo u < line∧line < g.1.hi u
theorem Zik:∀ {t:Tr} {p:Rk} {u:Bool} {a:Int},FitR p t→1≤a→a < p.len u→(∀ g∈gath t p,¬ brk u (p.lo u+a) g)→Thr t u a
 | .whole m,p,u,a,_,h1,h2,h=>by
  rw [gath] at h
  rw [Zin] at h2
  exact absurd (show p.lo u < p.lo u+a∧p.lo u+a < p.hi u by lia) (h (p,m) (List.mem_singleton.mpr rfl))
 | .cut v k x y,p,u,a,f,h1,h2,h=>by
  rw [fitR_cut] at f
  obtain ⟨⟨k1,k2⟩,fx,fy⟩:=f
  rw [gath] at h
  rw [Thr]
  by_cases e:v=u
  ·subst e
   rw [if_pos rfl]
   obtain ⟨s1,s2,s3,s4,_⟩:=rk_s (p:=p) (u:=v) (k:=k)
   by_cases c:a < k
   ·rw [if_pos c]
    exact Zik fx h1 (by rw [s1]; exact c) fun g hg=>by rw [s3]; exact h g (List.mem_append.mpr (.inl hg))
   ·rw [if_neg c]
    by_cases c2:k < a
    ·rw [if_pos c2]
     exact Zik fy (by lia) (by rw [s2]; lia) fun g hg=>by rw [s4,show p.lo v+k+(a - k)=p.lo v+a by lia]; exact h g (List.mem_append.mpr (.inr hg))
    ·rw [if_neg c2]; trivial
  ·rw [if_neg e]
   obtain ⟨_,_,_,_,e5,e6,e7,e8,_⟩:=rk_x (p:=p) (u:=u) (v:=v) (k:=k) (a:=a) e
   exact ⟨Zik fx h1 (by rw [e5]; exact h2) fun g hg=>by rw [e7]; exact h g (List.mem_append.mpr (.inl hg)),Zik fy h1 (by rw [e6]; exact h2) fun g hg=>by rw [e8]; exact h g (List.mem_append.mpr (.inr hg))⟩
theorem Zjg {t:Tr} {p:Rk} (h:p.ok) (f:FitR p t) {g:Rk × Option Int} (hg:g∈gath t p) (u:Bool):p.lo u≤g.1.lo u∧g.1.lo u < g.1.hi u∧g.1.hi u≤p.hi u:=by
 have:=Zc1 h.1 h.2 f g hg
 cases u
 ·exact ⟨this.1,this.2.1,this.2.2.1⟩
 ·exact ⟨this.2.2.2.1,this.2.2.2.2.1,this.2.2.2.2.2⟩
theorem Zgu {x y:Tr} {p:Rk} {u:Bool} {k:Int} (h:p.ok) (k1:1≤k) (k2:k < p.len u) (fx:FitR (p.fst u k) x) (fy:FitR (p.oth u k) y) :
  ((gath x (p.fst u k)++gath y (p.oth u k)).filter fun g=>decide (g.1.lo u < p.lo u+k))=gath x (p.fst u k)∧((gath x (p.fst u k)++gath y (p.oth u k)).filter fun g=>decide (p.lo u+k≤g.1.lo u))=gath y (p.oth u k)∧∀ g∈gath x (p.fst u k)++gath y (p.oth u k),¬ brk u (p.lo u+k) g:=by
 obtain ⟨o1,o2⟩:=rk_parts h k1 k2
 obtain ⟨_,_,s3,s4,s5⟩:=rk_s (p:=p) (u:=u) (k:=k)
 have i1:∀ g∈gath x (p.fst u k),g.1.lo u < p.lo u+k∧g.1.hi u≤p.lo u+k:=fun g hg=>by
  have:=Zjg o1 fx hg u
  rw [s5] at this; lia
 have i2:∀ g∈gath y (p.oth u k),p.lo u+k≤g.1.lo u:=fun g hg=>by
  have:=Zjg o2 fy hg u
  rw [s4] at this; lia
 refine ⟨?_,?_,fun g hg z=>?_⟩
 ·rw [List.filter_append,List.filter_eq_self.mpr (fun g hg=>decide_eq_true (i1 g hg).1),List.filter_eq_nil_iff.mpr (fun g hg z=>by have:=of_decide_eq_true z; have:=i2 g hg; lia),List.append_nil]
 ·rw [List.filter_append,List.filter_eq_self.mpr (fun g hg=>decide_eq_true (i2 g hg)),List.filter_eq_nil_iff.mpr (fun g hg z=>by have:=of_decide_eq_true z; have:=i1 g hg; lia),List.nil_append]
 ·obtain ⟨z1,z2⟩:=z
  rcases List.mem_append.mp hg with hg | hg
  ·have:=i1 g hg; lia
  ·have:=i2 g hg; lia
theorem part_perm {t:Tr} {p:Rk} {u:Bool} {a:Int} {L:List (Rk × Option Int)} (h:p.ok) (f:FitR p t) (e:L.Perm (gath t p)) (a1:1≤a) (a2:a < p.len u) (hb:∀ g∈L,¬ brk u (p.lo u+a) g) :
  Thr t u a∧FitR (p.fst u a) (ahd t u a)∧FitR (p.oth u a) (bhd t u a)∧(L.filter fun g=>decide (g.1.lo u < p.lo u+a)).Perm (gath (ahd t u a) (p.fst u a))∧(L.filter fun g=>decide (p.lo u+a≤g.1.lo u)).Perm (gath (bhd t u a) (p.oth u a)):=by
 have th:=Zik f a1 a2 fun g hg=>hb g (e.mem_iff.mpr hg)
 obtain ⟨f1,f2⟩:=Zdh f th ⟨a1,a2⟩
 obtain ⟨q1,q2,_⟩:=Zgu h a1 a2 f1 f2
 have:=e.trans (Zdd (p:=p) th)
 refine ⟨th,f1,f2,?_,?_⟩
 ·have:=this.filter (fun g=>decide (g.1.lo u < p.lo u+a))
  rw [q1] at this; exact this
 ·have:=this.filter (fun g=>decide (p.lo u+a≤g.1.lo u))
  rw [q2] at this; exact this
theorem sz_one:∀ {t:Tr},t.sz=1→∃ m,t=.whole m
 | .whole m,_=>⟨m,rfl⟩
 | .cut _ _ x y,h=>by
  have:=Zgh x
  have:=Zgh y
  rw [Tr.sz] at h; lia
theorem atop_keep {u:Bool} {k:Int} {x y s:Tr} {w:Str} {p:Rk} (f:FitR p (.cut u k x y)) (h:atop u k x y w=some s):FitR p s∧(gath s p).Perm (gath (.cut u k x y) p):=by
 rw [fitR_cut] at f
 obtain ⟨⟨k1,k2⟩,fx,fy⟩:=f
 rw [atop] at h
 split at h
 ·cases x with
  | whole m=>cases h
  | cut v j a b =>
   rw [leanT] at h
   split at h
   ·rename_i e
    subst e
    cases h
    rw [fitR_cut] at fx
    obtain ⟨⟨j1,j2⟩,fa,fb⟩:=fx
    rw [(rk_s (p:=p) (u:=v) (k:=k)).1] at j2
    rw [Zio] at fa
    rw [Zka] at fb
    refine ⟨?_,?_⟩
    ·rw [fitR_cut,fitR_cut,Zj9]
     refine ⟨⟨j1,by lia⟩,fa,⟨by lia,?_⟩,fb,fy⟩
     rw [(rk_s (p:=p) (u:=v) (k:=j)).2.1]; lia
    ·rw [gath,gath,gath,gath,Zj9,Zio,Zka,List.append_assoc]
   ·cases h
 ·split at h
  ·cases y with
   | whole m=>cases h
   | cut v j a b =>
    rw [backT] at h
    split at h
    ·rename_i e
     subst e
     cases h
     rw [fitR_cut] at fy
     obtain ⟨⟨j1,j2⟩,fa,fb⟩:=fy
     rw [(rk_s (p:=p) (u:=v) (k:=k)).2.1] at j2
     have oo:(p.oth v k).oth v j=p.oth v (k+j):=by have:=Zj9 (p:=p) (u:=v) (k:=k+j) (a:=k); rw [show k+j - k=j by lia] at this; exact this
     have fo:(p.fst v (k+j)).oth v k=(p.oth v k).fst v j:=by have:=Zka (p:=p) (u:=v) (k:=k+j) (a:=k); rw [show k+j - k=j by lia] at this; exact this
     rw [oo] at fb
     refine ⟨?_,?_⟩
     ·rw [fitR_cut,fitR_cut,Zio,fo]
      refine ⟨⟨by lia,by lia⟩,⟨⟨k1,?_⟩,fx,fa⟩,fb⟩
      rw [(rk_s (p:=p) (u:=v) (k:=k+j)).1]; lia
     ·rw [gath,gath,gath,gath,oo,Zio,fo,List.append_assoc]
    ·cases h
  ·split at h
   ·cases x with
    | whole m=>cases y <;> cases h
    | cut v j a b =>
     cases y with
     | whole m=>cases h
     | cut v' j' c d =>
      rw [crossT] at h
      split at h
      ·cases h
      ·rename_i e
       split at h
       ·rename_i e2
        obtain ⟨rfl,rfl⟩:=e2
        cases h
        rw [fitR_cut] at fx fy
        obtain ⟨⟨j1,j2⟩,fa,fb⟩:=fx
        obtain ⟨_,fc,fd⟩:=fy
        obtain ⟨e1,e2,e3,e4,e5,e6,_,_,e9,e10⟩:=rk_x (p:=p) (u:=v) (v:=u) (k:=k) (a:=j) (fun z=>e z.symm)
        rw [e5] at j2
        rw [e1] at fa
        rw [e2] at fb
        rw [e3] at fc
        rw [e4] at fd
        refine ⟨?_,?_⟩
        ·rw [fitR_cut,fitR_cut,fitR_cut]
         exact ⟨⟨j1,j2⟩,⟨⟨k1,by rw [e9]; exact k2⟩,fa,fc⟩,⟨k1,by rw [e10]; exact k2⟩,fb,fd⟩
        ·rw [gath,gath,gath,gath,gath,gath,e1,e2,e3,e4]
         exact perm4
       ·cases h
   ·cases h
theorem Zhq:∀ {t s:Tr} {st:List Int} {w:Str} {p:Rk},FitR p t→mvd t st w=some s→FitR p s∧(gath s p).Perm (gath t p)
 | .whole _,s,st,w,p,_,h=>by cases h
 | .cut u k x y,s,[],w,p,f,h=>atop_keep f h
 | .cut u k x y,s,i :: st,w,p,f,h=>by
  rw [mvd] at h
  obtain ⟨⟨k1,k2⟩,fx,fy⟩:=fitR_cut.mp f
  split at h
  ·obtain ⟨r,hr,rfl⟩:=Option.map_eq_some_iff.mp h
   obtain ⟨g1,g2⟩:=Zhq fx hr
   exact ⟨fitR_cut.mpr ⟨⟨k1,k2⟩,g1,fy⟩,by rw [gath,gath]; exact g2.append_right _⟩
  ·split at h
   ·obtain ⟨r,hr,rfl⟩:=Option.map_eq_some_iff.mp h
    obtain ⟨g1,g2⟩:=Zhq fy hr
    exact ⟨fitR_cut.mpr ⟨⟨k1,k2⟩,fx,g1⟩,by rw [gath,gath]; exact g2.append_left _⟩
   ·cases h
def trD:Tr→D
 | .whole m=>.tup (.cons (.at (.str "whole")) (.cons (.at (markV m)) .nil))
 | .cut u k x y=>.tup (.cons (.at (.str (wd u))) (.cons (.at (.int k)) (.cons (trD x) (.cons (trD y) .nil))))
theorem Zd0 (m:Option Int):flatV (markV m)=true:=by cases m <;> rfl
theorem Zeo {K:PySem.W.Frag} {H:Hp}:∀ {t:Tr} {v:V},Told H t v→DIs K H (trD t) v
 | .whole m,v,h=>by
  rw [Told] at h
  obtain ⟨a,rfl,h⟩:=h
  rw [trD,DIs]
  refine ⟨a,_,rfl,SqT.of h,?_⟩
  rw [DIss]
  refine ⟨_,_,rfl,by rw [DIs]; exact ⟨rfl,rfl⟩,?_⟩
  rw [DIss]
  exact ⟨_,_,rfl,by rw [DIs]; exact ⟨rfl,Zd0 m⟩,by rw [DIss]⟩
 | .cut u k x y,v,h=>by
  rw [Told] at h
  obtain ⟨a,vx,vy,rfl,h,h1,h2⟩:=h
  rw [trD,DIs]
  refine ⟨a,_,rfl,SqT.of h,?_⟩
  rw [DIss]
  refine ⟨_,_,rfl,by rw [DIs]; exact ⟨rfl,rfl⟩,?_⟩
  rw [DIss]
  refine ⟨_,_,rfl,by rw [DIs]; exact ⟨rfl,rfl⟩,?_⟩
  rw [DIss]
  refine ⟨_,_,rfl,Zeo h1,?_⟩
  rw [DIss]
  exact ⟨_,_,rfl,Zeo h2,by rw [DIss]⟩
theorem Ze6:∀ t:Tr,dep (trD t)≤t.dp+1
 | .whole m=>by rw [trD,dep,deps,deps,deps,dep,dep]; lia
 | .cut u k x y=>by
  have:=Ze6 x
  have:=Ze6 y
  rw [trD,dep,deps,deps,deps,deps,deps,dep,dep,Tr.dp]; lia
theorem strE (x y:Str):eqV (.str x) (.str y)=decide (V.str x=V.str y):=by
 show (x == y)=_
 rw [Zkz]
def gD (g:Rk × Option Int):D:=.tup (.cons (.tup (.cons (.at (.int g.1.t)) (.cons (.at (.int g.1.l)) (.cons (.at (.int g.1.b)) (.cons (.at (.int g.1.r)) .nil))))) (.cons (.at (markV g.2)) .nil))
def gsD:List (Rk × Option Int)→Ds
 | []=>.nil
 | g :: r=>.cons (gD g) (gsD r)
theorem gsD_dep:∀ gs,deps (gsD gs)≤2
 | []=>by rw [gsD,deps]; lia
 | g :: r=>by
  have:=gsD_dep r
  rw [gsD,deps,gD,dep,deps,dep,deps,deps,deps,deps,deps,deps,deps,dep,dep,dep,dep,dep]; lia
theorem gsD_is {K:PySem.W.Frag} {H:Hp}:∀ {ts:List PT},PcO H ts→DIss K H (gsD (cons ts)) (pcs ts)
 | [],_=>by show DIss K H .nil []; rw [DIss]
 | t :: r,h=>by
  show DIss K H (.cons (gD t.2.2) (gsD (cons r))) (.ref t.1 :: pcs r)
  rw [DIss]
  refine ⟨_,_,rfl,?_,gsD_is fun u hu=>h u (List.mem_cons_of_mem _ hu)⟩
  obtain ⟨h1,h2⟩:=h t List.mem_cons_self
  rw [gD,DIs]
  refine ⟨_,_,rfl,SqT.of h1,?_⟩
  rw [DIss]
  refine ⟨_,_,rfl,?_,?_⟩
  ·rw [DIs]
   refine ⟨_,_,rfl,SqT.of h2,?_⟩
   rw [DIss]
   refine ⟨_,_,rfl,by rw [DIs]; exact ⟨rfl,rfl⟩,?_⟩
   rw [DIss]
   refine ⟨_,_,rfl,by rw [DIs]; exact ⟨rfl,rfl⟩,?_⟩
   rw [DIss]
   refine ⟨_,_,rfl,by rw [DIs]; exact ⟨rfl,rfl⟩,?_⟩
   rw [DIss]
   exact ⟨_,_,rfl,by rw [DIs]; exact ⟨rfl,rfl⟩,by rw [DIss]⟩
  ·rw [DIss]
   exact ⟨_,_,rfl,by rw [DIs]; exact ⟨rfl,Zd0 _⟩,by rw [DIss]⟩
theorem gsL {K:PySem.W.Frag} {H:Hp} {a:Addr} {ts:List PT} (h:H a=some (.lst (pcs ts))) (p:PcO H ts):DIs K H (.lst (gsD (cons ts))) (.ref a):=by
 rw [DIs]
 exact ⟨a,_,rfl,SqL.of h,gsD_is p⟩
theorem PcO.kp {H H':Hp} {ts:List PT} (h:PcO H ts) (k:Kp H H'):PcO H' ts:=fun t ht=>⟨k _ _ (h t ht).1 (by intro xs z; cases z),k _ _ (h t ht).2 (by intro xs z; cases z)⟩
theorem pcs_snoc (ts:List PT) (t:PT):pcs (ts++[t])=pcs ts++[V.ref t.1]:=by
 show List.map (fun p=>V.ref p.1) (ts++[t])=_
 rw [List.map_append]; rfl
theorem Zji (ts:List PT) (t:PT):cons (ts++[t])=cons ts++[t.2.2]:=by
 show List.map (fun p=>p.2.2) (ts++[t])=_
 rw [List.map_append]; rfl
theorem Zhx:∀ {t:Tr} {p:Rk},p.t < p.b→p.l < p.r→FitR p t→((gath t p).map (·.1)).Pairwise GB.Apart
 | .whole m,p,_,_,_=>by rw [gath]; exact List.pairwise_singleton _ _
 | .cut u k x y,p,h1,h2,f=>by
  rw [fitR_cut] at f
  obtain ⟨⟨a,b⟩,fx,fy⟩:=f
  obtain ⟨⟨a1,a2⟩,b1,b2⟩:((p.fst u k).t < (p.fst u k).b∧(p.fst u k).l < (p.fst u k).r)∧(p.oth u k).t < (p.oth u k).b∧(p.oth u k).l < (p.oth u k).r:=by
   cases u with
   | true =>
    have b:k < p.r - p.l:=b
    exact ⟨⟨h1,show p.l < p.l+k by lia⟩,h1,show p.l+k < p.r by lia⟩
   | false =>
    have b:k < p.b - p.t:=b
    exact ⟨⟨show p.t < p.t+k by lia,h2⟩,show p.t+k < p.b by lia,h2⟩
  rw [gath,List.map_append,List.pairwise_append]
  refine ⟨Zhx a1 a2 fx,Zhx b1 b2 fy,fun q hq q' hq' r c z z'=>?_⟩
  obtain ⟨g,hg,rfl⟩:=List.mem_map.mp hq
  obtain ⟨g',hg',rfl⟩:=List.mem_map.mp hq'
  have i1:=Zc1 a1 a2 fx g hg
  have i2:=Zc1 b1 b2 fy g' hg'
  obtain ⟨z1,z2,z3,z4⟩:=z
  obtain ⟨z5,z6,z7,z8⟩:=z'
  cases u with
  | true =>
   have i1:p.t≤g.1.t∧g.1.t < g.1.b∧g.1.b≤p.b∧p.l≤g.1.l∧g.1.l < g.1.r∧g.1.r≤p.l+k:=i1
   have i2:p.t≤g'.1.t∧g'.1.t < g'.1.b∧g'.1.b≤p.b∧p.l+k≤g'.1.l∧g'.1.l < g'.1.r∧g'.1.r≤p.r:=i2
   lia
  | false =>
   have i1:p.t≤g.1.t∧g.1.t < g.1.b∧g.1.b≤p.t+k∧p.l≤g.1.l∧g.1.l < g.1.r∧g.1.r≤p.r:=i1
   have i2:p.t+k≤g'.1.t∧g'.1.t < g'.1.b∧g'.1.b≤p.b∧p.l≤g'.1.l∧g'.1.l < g'.1.r∧g'.1.r≤p.r:=i2
   lia
theorem inj_of {α β:Type} {g:α→β}:∀ {l:List α},(l.map g).Nodup→∀ {p q:α},p∈l→q∈l→g p=g q→p=q
 | [],_,_,_,h,_,_=>nomatch h
 | x :: l,n,p,q,hp,hq,e=>by
  rw [List.map_cons,List.nodup_cons] at n
  rcases List.mem_cons.mp hp with a | a <;> rcases List.mem_cons.mp hq with b | b
  ·rw [a,b]
  ·exact absurd (List.mem_map.mpr ⟨q,b,by rw [← a]; exact e.symm⟩) n.1
  ·exact absurd (List.mem_map.mpr ⟨p,a,by rw [← b]; exact e⟩) n.1
  ·exact inj_of n.2 a b e
theorem nd_sz:∀ t:Tr,t.nd+1=2 * t.sz
 | .whole _=>by rw [Tr.nd,Tr.sz]
 | .cut _ _ x y=>by have:=nd_sz x; have:=nd_sz y; rw [Tr.nd,Tr.sz]; lia
theorem gath_nd {t:Tr} {ww hh:Int} (w1:1≤ww) (h1:1≤hh) (f:Fit t ww hh):((gath t ⟨0,0,hh,ww⟩).map (·.1)).Nodup:=by
 refine List.Pairwise.imp_of_mem (fun {p q} hp _ ap e=>?_) (Zhx (p:=⟨0,0,hh,ww⟩) (show (0:Int) < hh by lia) (show (0:Int) < ww by lia) (fit0 f))
 obtain ⟨g,hg,rfl⟩:=List.mem_map.mp hp
 obtain ⟨_,i2,_,_,i5,_⟩:=Zkw w1 h1 f g hg
 subst e
 have hh':GB.Rc.has g.1 g.1.t g.1.l:=⟨Int.le_refl _,i2,Int.le_refl _,i5⟩
 exact ap _ _ hh' hh'
abbrev toPR (t:PT):PR:=(t.1,t.2.1,t.2.2.1.ls,markV t.2.2.2)
theorem Zhh (ts:List PT):(ts.map toPR).map (fun t=>V.ref t.1)=pcs ts:=by rw [List.map_map]; rfl
theorem srt_pcs {H:Hp} {ts:List PT} {t:Tr} {ww hh:Int} (w1:1≤ww) (w2:ww≤12) (h1:1≤hh) (h2:hh≤12) (f:Fit t ww hh) (pc:PcO H ts) (ec:cons ts=gath t ⟨0,0,hh,ww⟩) :
  (∀ u∈ts.map toPR,H u.1=some (.tup [.ref u.2.1,u.2.2.2])∧H u.2.1=some (.tup (u.2.2.1.map V.int))∧u.2.2.1.length=3+1∧flatV u.2.2.2=true)∧(∀ u∈ts.map toPR,∀ z∈ts.map toPR,HT.lexLt u.2.2.1 z.2.2.1=decide (GB.key u.2.2.1 < GB.key z.2.2.1))∧(∀ u∈ts.map toPR,∀ z∈ts.map toPR,u.2.2.1=z.2.2.1→u=z) ∧
  ∀ us:List PR,us.Perm (ts.map toPR)→(us.map fun u=>GB.key u.2.2.1).Pairwise (·≤·)→∃ zs:List PT,us=zs.map toPR∧zs.Perm ts∧Due t ww hh (cons zs):=by
 have inn:∀ u∈ts,GB.Rc.In ww hh u.2.2.1:=fun u hu=>Zkw w1 h1 f u.2.2 (ec ▸ List.mem_map.mpr ⟨u,hu,rfl⟩)
 have nd:(ts.map fun u=>u.2.2.1).Nodup:=by
  have:=gath_nd w1 h1 f
  rw [← ec,List.map_map] at this; exact this
 refine ⟨fun u hu=>?_,fun u hu z hz=>?_,fun u hu z hz e=>?_,fun us pm sr=>?_⟩
 ·obtain ⟨x,hx,rfl⟩:=List.mem_map.mp hu
  exact ⟨(pc x hx).1,(pc x hx).2,rfl,Zd0 _⟩
 ·obtain ⟨x,hx,rfl⟩:=List.mem_map.mp hu
  obtain ⟨y,hy,rfl⟩:=List.mem_map.mp hz
  exact GB.key_lt (inn x hx) (inn y hy) w2 h2 w2 h2
 ·obtain ⟨x,hx,rfl⟩:=List.mem_map.mp hu
  obtain ⟨y,hy,rfl⟩:=List.mem_map.mp hz
  have e:x.2.2.1.ls=y.2.2.1.ls:=e
  have e':x.2.2.1=y.2.2.1:=GB.key_inj (inn x hx) (inn y hy) w2 h2 w2 h2 (by rw [e])
  rw [inj_of nd hx hy e']
 ·obtain ⟨zs,p1,rfl⟩:=perm_pre (f:=toPR) pm ts rfl
  refine ⟨zs,rfl,p1,?_,?_⟩
  ·rw [← ec]; exact p1.map _
  ·rw [List.map_map] at sr ⊢
   exact sr
theorem Zdl {H:Hp} {t:Tr} {v:V} (h:Told H t v):∃ a,v=.ref a:=by
 cases t <;> rw [Told] at h
 ·obtain ⟨a,rfl,_⟩:=h; exact ⟨a,rfl⟩
 ·obtain ⟨a,_,_,rfl,_⟩:=h; exact ⟨a,rfl⟩
def Zfb:Sp:=fun vs H Q _=>∃ i:Int,vs=[.int i]∧Q (.bl true) H
theorem Zk8:Zap ["_law_found"] ["_law_found"] (Zad Zbz):=⟨rfl,rfl,rfl,by decide +kernel,rfl,by decide +kernel,by decide +kernel⟩
theorem Zi0 {f:Addr} {fd:FuncData} (F:Fun K "_law_whole" "_law_whole" Zbz f fd) (T:Txt mg tk):FnOk P w K mg base CX0 1 f fd ["_law_found"] Zfb:=by
 have S:=Zk8
 refine F.ok S (fun vs H Q E h=>?_) (fun cdv A outer s H vs Q E hr h=>?_)
 ·obtain ⟨i,rfl,_⟩:=h; rfl
 ·obtain ⟨i,rfl,q⟩:=h
  refine ⟨_,(Zaf (Zal (pe_and (Zay Zda rfl T.z_isinstance rfl (Zaa (pv 0) (Zaa (Zeh (v:=.ty "int") rfl T.z_int rfl rfl) Zac))) (pe_one (pe_not (Zay Zda rfl T.z_isinstance rfl (Zaa (pv 0) (Zaa (Zeh (v:=.ty "bool") rfl T.z_bool rfl rfl) Zac)))))))),?_⟩
  exact ⟨_,rfl,_,"int","int",rfl,rfl,.inl rfl,_,rfl,iteP (by decide) ⟨_,rfl,_,"int","bool",rfl,rfl,.inr (.inl rfl),_,rfl,q⟩⟩
def Zdv (cW cU cL:Addr) (n:Nat):Sp:=fun vs H Q _=>∃ (v:V) (t:Tr),vs=[v]∧Obj cW cU cL H t v∧t.dp < n∧∀ v' H',Same H H'→Told H' t v'→Q v' H'
theorem ltold0 {vs:List V} {H:Hp} {Q:VK} {E:XK}:¬ Zdv cW cU cL 0 vs H Q E:=by
 rintro ⟨v,t,_,_,h,_⟩
 lia
theorem Zg1:Zap ["_law_tree_here","_law_word","_law_first","_law_other"] ["_law_tree_here"] (Zad Zca):=⟨rfl,rfl,rfl,by decide +kernel,rfl,by decide +kernel,by decide +kernel⟩
theorem Zdb {H:Hp} {t:Tr} {v:V} (h:Told H t v):decide (v=V.non)=false:=by
 cases t <;> rw [Told] at h
 ·obtain ⟨a,rfl,_⟩:=h; exact decide_eq_false (by intro z; cases z)
 ·obtain ⟨a,_,_,rfl,_⟩:=h; exact decide_eq_false (by intro z; cases z)
theorem Zki {f:Addr} {fd:FuncData} {n:Nat} (F:Fun K "_law_told" "_law_told" Zca f fd) (T:Txt mg tk) (R:RT mg K cT cW cU cL) (D__law_whole:DefOk P w K mg base 1 "_law_whole" ["_law_found"] Zfb) (D__law_told:DefOk P w K mg base (n+3) "_law_told" ["_law_tree_here"] (Zdv cW cU cL n)):FnOk P w K mg base CX0 (n+4) f fd ["_law_tree_here"] (Zdv cW cU cL (n+1)):=by
 have S:=Zg1
 refine F.ok S (fun vs H Q E h=>?_) (fun cdv A outer s H vs Q E hr h=>?_)
 ·obtain ⟨v,t,rfl,_⟩:=h; rfl
 ·obtain ⟨v,t,rfl,ho,hd,q⟩:=h
  refine ⟨_,(Zab (Za9 (Zck (Zay Zbr rfl T.z_isinstance rfl (Zaa (pv 0) (Zaa (Za1 (v:=.ref (cW)) rfl R.g_Whole rfl) Zac)))) (Zab (Za9 (PW.pt (Zdn (Zai op_notN (Zaz (pv 0) rfl) Zbs (nomark _)) (Zdc (Zdo (Zck (Zaq D__law_whole hr (Zaa (Zaz (pv 0) rfl) Zac) (by lia))))))) (Zaf (Zal Zbs)) Zan)
   (Zaf (Zal (Zaw (Zaa Zax (Zaa (Zaz (pv 0) rfl) Zac)))))) Zan)
   (Zab (Za9 (PW.pt (Zdn (Zdo (Zck (Zay Zbr rfl T.z_isinstance rfl (Zaa (pv 0) (Zaa (Za1 (v:=.ref (cU)) rfl R.g_Upright rfl) Zac))))) (Zdc (Zdo (Zck (Zay Zbr rfl T.z_isinstance rfl (Zaa (pv 0) (Zaa (Za1 (v:=.ref (cL)) rfl R.g_Level rfl) Zac)))))))) (Zaf (Zal Zbs)) Zan)
   (Zab (Zam (i:=1) S.nd rfl (Or.inl rfl) Zax)
   (Zab (Za9 (Zck (Zay Zbr rfl T.z_isinstance rfl (Zaa (pv 0) (Zaa (Za1 (v:=.ref (cU)) rfl R.g_Upright rfl) Zac)))) (Zaf (Zam (i:=1) S.nd rfl (Or.inl rfl) Zax)) Zan)
   (Zab (Zam (i:=2) S.nd rfl (Or.inl rfl) (Zaq D__law_told hr (Zaa (Zaz (pv 0) rfl) Zac) (by lia)))
   (Zab (Zam (i:=3) S.nd rfl (Or.inl rfl) (Zaq D__law_told hr (Zaa (Zaz (pv 0) rfl) Zac) (by lia)))
   (Zab (Za9 (PW.pt (Zhg (Zdo (Zck (Zaq D__law_whole hr (Zaa (Zaz (pv 0) rfl) Zac) (by lia)))) (Zhg (Zai Ziv (pv 2) Zbs (nomark _)) (Zgl (Zai Ziv (pv 3) Zbs (nomark _)))))) (Zaf (Zal Zbs)) Zan)
   (Zaf (Zal (Zaw (Zaa (pv 1) (Zaa (Zaz (pv 0) rfl) (Zaa (pv 2) (Zaa (pv 3) Zac)))))))))))))),?_⟩
  cases t with
  | whole m =>
   rw [Obj] at ho
   obtain ⟨x,dx,rfl,hx⟩:=ho
   refine ⟨_,rfl,x,cW,dx,_,_,.ref cW,true,rfl,hx,R.iW,rfl,refU,R.kWW,_,rfl,iteP rfl ?_⟩
   refine ⟨_,rfl,x,cW,dx,_,_,rfl,hx,R.iW.cl,R.n_mark,fW _,rfl,_,rfl,?_⟩
   have fin:∀ a,H a=none→Q (.ref a) (upd H a (.tup [.str "whole",markV m])):=fun a ha=>q _ _ (Same.new ha) (by rw [Told]; exact ⟨a,rfl,upd_same⟩)
   cases m with
   | none=>exact iteN (by show (!decide (V.non=V.non))=false; rw [decide_eq_true rfl]; rfl) (iteN rfl ⟨_,rfl,x,cW,dx,_,_,rfl,hx,R.iW.cl,R.n_mark,fW _,lenOk 2,fin⟩)
   | some i=>exact iteP (by show (!decide (V.int i=V.non))=true; rw [decide_eq_false (by intro z; cases z)]; rfl) ⟨_,rfl,x,cW,dx,_,_,rfl,hx,R.iW.cl,R.n_mark,fW _,i,rfl,_,rfl,iteN rfl ⟨_,rfl,x,cW,dx,_,_,rfl,hx,R.iW.cl,R.n_mark,fW _,lenOk 2,fin⟩⟩
  | cut u k y1 y2 =>
   rw [Obj] at ho
   obtain ⟨x,dx,w1,w2,rfl,hx,o1,o2⟩:=ho
   have hd:max y1.dp y2.dp+1 < n+1:=hd
   refine ⟨_,rfl,x,_,dx,_,_,.ref cW,false,rfl,hx,R.iC u,rfl,refU,R.kCW u,_,rfl,iteN rfl ?_⟩
   have go:∀ H1:Hp,H1=H→∀ z:Str,z=wd u→True:=fun _ _ _ _=>trivial
   cases u with
   | true =>
    refine ⟨_,rfl,x,_,dx,_,_,.ref cU,true,rfl,hx,R.iC true,rfl,refU,R.kCC true true,_,rfl,iteN rfl (iteN rfl ?_)⟩
    refine ⟨_,rfl,x,_,dx,_,_,.ref cU,true,rfl,hx,R.iC true,rfl,refU,R.kCC true true,_,rfl,iteP rfl ?_⟩
    refine ⟨_,rfl,x,_,dx,_,_,rfl,hx,(R.iC true).cl,R.n_first true,Zbw _ _ _,w1,y1,rfl,o1,by lia,fun v1 H1 s1 t1=>?_⟩
    have hx1:=s1 _ _ hx
    refine ⟨_,rfl,x,_,dx,_,_,rfl,hx1,(R.iC true).cl,R.n_other true,Zbv _ _ _,w2,y2,rfl,o2.same s1,by lia,fun v2 H2 s2 t2=>?_⟩
    have hx2:=s2 _ _ hx1
    have t1':=t1.same s2
    refine ⟨_,rfl,x,_,dx,_,_,rfl,hx2,(R.iC true).cl,R.n_at true,Zdf _ _ _,k,rfl,_,rfl,iteN rfl ?_⟩
    refine ⟨_,rfl,rfl,_,rfl,iteN (Zdb t1') ⟨_,rfl,rfl,_,rfl,iteN (Zdb t2) ?_⟩⟩
    refine ⟨_,rfl,_,rfl,x,_,dx,_,_,rfl,hx2,(R.iC true).cl,R.n_at true,Zdf _ _ _,_,rfl,_,rfl,lenOk 4,fun a ha=>?_⟩
    have s3:Same H2 (upd H2 a (.tup [.str (wd true),.int k,v1,v2])):=Same.new ha
    exact q _ _ ((s1.trans s2).trans s3) (by rw [Told]; exact ⟨a,v1,v2,rfl,upd_same,t1'.same s3,t2.same s3⟩)
   | false =>
    refine ⟨_,rfl,x,_,dx,_,_,.ref cU,false,rfl,hx,R.iC false,rfl,refU,R.kCC false true,_,rfl,iteP rfl ?_⟩
    refine ⟨_,rfl,x,_,dx,_,_,.ref cL,true,rfl,hx,R.iC false,rfl,refU,R.kCC false false,_,rfl,iteN rfl ?_⟩
    refine ⟨_,rfl,x,_,dx,_,_,.ref cU,false,rfl,hx,R.iC false,rfl,refU,R.kCC false true,_,rfl,iteN rfl ?_⟩
    refine ⟨_,rfl,x,_,dx,_,_,rfl,hx,(R.iC false).cl,R.n_first false,Zbw _ _ _,w1,y1,rfl,o1,by lia,fun v1 H1 s1 t1=>?_⟩
    have hx1:=s1 _ _ hx
    refine ⟨_,rfl,x,_,dx,_,_,rfl,hx1,(R.iC false).cl,R.n_other false,Zbv _ _ _,w2,y2,rfl,o2.same s1,by lia,fun v2 H2 s2 t2=>?_⟩
    have hx2:=s2 _ _ hx1
    have t1':=t1.same s2
    refine ⟨_,rfl,x,_,dx,_,_,rfl,hx2,(R.iC false).cl,R.n_at false,Zdf _ _ _,k,rfl,_,rfl,iteN rfl ?_⟩
    refine ⟨_,rfl,rfl,_,rfl,iteN (Zdb t1') ⟨_,rfl,rfl,_,rfl,iteN (Zdb t2) ?_⟩⟩
    refine ⟨_,rfl,_,rfl,x,_,dx,_,_,rfl,hx2,(R.iC false).cl,R.n_at false,Zdf _ _ _,_,rfl,_,rfl,lenOk 4,fun a ha=>?_⟩
    have s3:Same H2 (upd H2 a (.tup [.str (wd false),.int k,v1,v2])):=Same.new ha
    exact q _ _ ((s1.trans s2).trans s3) (by rw [Told]; exact ⟨a,v1,v2,rfl,upd_same,t1'.same s3,t2.same s3⟩)
def Zc2 (n:Nat):Sp:=fun vs H Q _=>∃ (v:V) (t:Tr) (a:Addr) (p:Rk),vs=[v,.ref a]∧Told H t v∧H a=some (.tup p.vs)∧t.dp < n∧t.nd≤400∧∀ l ts H',Same H H'→H l=none→H' l=some (.lst (pcs ts))→PcO H' ts→cons ts=gath t p→Q (.ref l) H'
theorem lpieces0 {vs:List V} {H:Hp} {Q:VK} {E:XK}:¬ Zc2 0 vs H Q E:=by
 rintro ⟨v,t,a,p,_,_,_,h,_⟩
 lia
theorem cons_app (ts us:List PT):cons (ts++us)=cons ts++cons us:=List.map_append
theorem pcs_app (ts us:List PT):pcs (ts++us)=pcs ts++pcs us:=List.map_append
theorem PcO.app {H:Hp} {ts us:List PT} (a:PcO H ts) (b:PcO H us):PcO H (ts++us):=fun t ht=>(List.mem_append.mp ht).elim (a t) (b t)
theorem Zkr {H H':Hp} {l:Addr} (s:Same H H') (h:H' l=none):H l=none:=by
 cases e:H l with
 | none=>rfl
 | some o=>rw [s _ _ e] at h; cases h
theorem Zeu:Zap ["_law_told_here","_law_block","_law_top","_law_left","_law_bottom","_law_right","_law_line","_law_first"] ["_law_told_here","_law_block"] (Zad Zbn):=⟨rfl,rfl,rfl,by decide +kernel,rfl,by decide +kernel,by decide +kernel⟩
theorem Zhk {f:Addr} {fd:FuncData} {n:Nat} (F:Fun K "_law_pieces" "_law_pieces" Zbn f fd) (D__law_pieces:DefOk P w K mg base (n+3) "_law_pieces" ["_law_told_here","_law_block"] (Zc2 n)):FnOk P w K mg base CX0 (n+4) f fd ["_law_told_here","_law_block"] (Zc2 (n+1)):=by
 have S:=Zeu
 refine F.ok S (fun vs H Q E h=>?_) (fun cdv A outer s H vs Q E hr h=>?_)
 ·obtain ⟨v,t,a,p,rfl,_⟩:=h; rfl
 ·obtain ⟨v,t,b,p,rfl,ht,hb,hd,hn,q⟩:=h
  refine ⟨_,(Zab (Zgn (pv 1) (Zdw rfl (Zas (Zau (i:=2) S.nd rfl (Or.inl rfl)) (Zas (Zau (i:=3) S.nd rfl (Or.inl rfl)) (Zas (Zau (i:=4) S.nd rfl (Or.inl rfl)) (Zas (Zau (i:=5) S.nd rfl (Or.inl rfl)) Zcu))))))
   (Zab (Za9 (Zai Zcf (Zav Zar (pv 0) Zae (fun _ _=>rfl)) Zax (nomark _)) (Zaf (Zal (Zcv (Zaa (Zaw (Zaa (pv 1) (Zaa (Zav Zar (pv 0) Zae (fun _ _=>rfl)) Zac))) Zac)))) Zan)
   (Zab (Za9 (Zai Zcf (Zav Zar (pv 0) Zae (fun _ _=>rfl)) Zax (nomark _)) (Zab (Zam (i:=6) S.nd rfl (Or.inl rfl) (Zbb Zb4 (pv 3) (Zav Zar (pv 0) Zae (fun _ _=>rfl))))
   (Zab (Zam (i:=7) S.nd rfl (Or.inl rfl) (Zaq D__law_pieces hr (Zaa (Zav Zar (pv 0) Zae (fun _ _=>rfl)) (Zaa (Zaw (Zaa (pv 2) (Zaa (pv 3) (Zaa (pv 4) (Zaa (pv 6) Zac))))) Zac)) (by lia)))
   (Zaf (Zal (Zbb op_cat (pv 7) (Zaq D__law_pieces hr (Zaa (Zav Zar (pv 0) Zae (fun _ _=>rfl)) (Zaa (Zaw (Zaa (pv 2) (Zaa (pv 6) (Zaa (pv 4) (Zaa (pv 5) Zac))))) Zac)) (by lia))))))) Zan)
   (Zab (Zam (i:=6) S.nd rfl (Or.inl rfl) (Zbb Zb4 (pv 2) (Zav Zar (pv 0) Zae (fun _ _=>rfl))))
   (Zaf (Zal (Zbb op_cat (Zaq D__law_pieces hr (Zaa (Zav Zar (pv 0) Zae (fun _ _=>rfl)) (Zaa (Zaw (Zaa (pv 2) (Zaa (pv 3) (Zaa (pv 6) (Zaa (pv 5) Zac))))) Zac)) (by lia)) (Zaq D__law_pieces hr (Zaa (Zav Zar (pv 0) Zae (fun _ _=>rfl)) (Zaa (Zaw (Zaa (pv 6) (Zaa (pv 3) (Zaa (pv 4) (Zaa (pv 5) Zac))))) Zac)) (by lia))))))))),?_⟩
  refine ⟨_,rfl,b,_,rfl,SqT.of hb,rfl,_,_,rfl,_,_,rfl,_,_,rfl,_,_,rfl,rfl,?_⟩
  cases t with
  | whole m =>
   rw [Told] at ht
   obtain ⟨a,rfl,ha⟩:=ht
   refine ⟨_,rfl,a,_,_,_,rfl,rfl,SqT.of ha,at2_0,rfl,_,rfl,iteP (decide_eq_true rfl) ?_⟩
   refine ⟨_,rfl,_,rfl,a,_,_,_,rfl,rfl,SqT.of ha,at2_1,lenOk 2,fun ta hta=>⟨lenOk 1,fun l hl=>?_⟩⟩
   have s2:Same H (upd H ta (.tup [.ref b,markV m])):=Same.new hta
   have e2:(upd H ta (.tup [.ref b,markV m])) ta=some (.tup [.ref b,markV m]):=upd_same
   generalize upd H ta (.tup [.ref b,markV m])=H2 at s2 e2 hl ⊢
   have s3:Same H2 (upd H2 l (.lst [.ref ta])):=Same.new hl
   refine q l [(ta,b,p,m)] _ (s2.trans s3) (Zkr s2 hl) upd_same (fun t ht=>?_) (by rw [gath]; rfl)
   rw [List.mem_singleton.mp ht]
   exact ⟨s3 _ _ e2,s3 _ _ (s2 _ _ hb)⟩
  | cut u k y1 y2 =>
   rw [Told] at ht
   obtain ⟨a,v1,v2,rfl,ha,t1,t2⟩:=ht
   have hd:max y1.dp y2.dp+1 < n+1:=hd
   have hn:y1.nd+y2.nd+1≤400:=hn
   have z1:=sz_nd y1
   have z2:=sz_nd y2
   refine ⟨_,rfl,a,_,_,_,rfl,rfl,SqT.of ha,at0,rfl,_,rfl,iteN (Zcl u) ?_⟩
   cases u with
   | true =>
    refine ⟨_,rfl,a,_,_,_,rfl,rfl,SqT.of ha,at0,rfl,_,rfl,iteP (Zcr true true) ?_⟩
    refine ⟨_,rfl,_,rfl,a,_,_,_,rfl,rfl,SqT.of ha,at1,_,_,rfl,rfl,?_⟩
    refine ⟨_,rfl,a,_,_,_,rfl,rfl,SqT.of ha,at2,_,rfl,_,rfl,_,rfl,_,rfl,lenOk 4,fun b1 hb1=>?_⟩
    have s0:Same H (upd H b1 (.tup [.int p.t,.int p.l,.int p.b,.int (p.l+k)])):=Same.new hb1
    have e0:(upd H b1 (.tup [.int p.t,.int p.l,.int p.b,.int (p.l+k)])) b1=some (.tup (p.fst true k).vs):=upd_same
    generalize upd H b1 (.tup [.int p.t,.int p.l,.int p.b,.int (p.l+k)])=H0 at s0 e0 ⊢
    refine ⟨v1,y1,b1,p.fst true k,rfl,t1.same s0,e0,by lia,by lia,fun l1 ts1 H1 s1 n1 g1 c1 e1=>?_⟩
    have s01:=s0.trans s1
    refine ⟨_,rfl,_,rfl,a,_,_,_,rfl,rfl,SqT.of (s01 _ _ ha),at3,_,rfl,_,rfl,_,rfl,_,rfl,lenOk 4,fun b2 hb2=>?_⟩
    have s2:Same H1 (upd H1 b2 (.tup [.int p.t,.int (p.l+k),.int p.b,.int p.r])):=Same.new hb2
    have e2':(upd H1 b2 (.tup [.int p.t,.int (p.l+k),.int p.b,.int p.r])) b2=some (.tup (p.oth true k).vs):=upd_same
    generalize upd H1 b2 (.tup [.int p.t,.int (p.l+k),.int p.b,.int p.r])=H2 at s2 e2' ⊢
    refine ⟨v2,y2,b2,p.oth true k,rfl,(t2.same s01).same s2,e2',by lia,by lia,fun l2 ts2 H3 s3 n2 g2 c2 e2=>?_⟩
    have s23:=s2.trans s3
    have len1:=congrArg List.length e1
    have len2:=congrArg List.length e2
    rw [Zci,List.length_map] at len1 len2
    refine ⟨l1,l2,_,_,rfl,rfl,s23 _ _ g1,g2,Nat.le_of_lt (Za8 (by rw [List.length_map,List.length_map]; lia)),fun l hl=>?_⟩
    have s4:Same H3 (upd H3 l (.lst (pcs ts1++pcs ts2))):=Same.new hl
    exact q l (ts1++ts2) _ ((s01.trans s23).trans s4) (Zkr (s01.trans s23) hl) (by rw [upd_same,pcs_app]) (((c1.same s23).app c2).same s4) (by rw [cons_app,e1,e2,gath])
   | false =>
    refine ⟨_,rfl,a,_,_,_,rfl,rfl,SqT.of ha,at0,rfl,_,rfl,iteN (Zcr false true) ?_⟩
    refine ⟨_,rfl,_,rfl,a,_,_,_,rfl,rfl,SqT.of ha,at1,_,_,rfl,rfl,?_⟩
    refine ⟨_,rfl,a,_,_,_,rfl,rfl,SqT.of ha,at2,_,rfl,_,rfl,_,rfl,_,rfl,lenOk 4,fun b1 hb1=>?_⟩
    have s0:Same H (upd H b1 (.tup [.int p.t,.int p.l,.int (p.t+k),.int p.r])):=Same.new hb1
    have e0:(upd H b1 (.tup [.int p.t,.int p.l,.int (p.t+k),.int p.r])) b1=some (.tup (p.fst false k).vs):=upd_same
    generalize upd H b1 (.tup [.int p.t,.int p.l,.int (p.t+k),.int p.r])=H0 at s0 e0 ⊢
    refine ⟨v1,y1,b1,p.fst false k,rfl,t1.same s0,e0,by lia,by lia,fun l1 ts1 H1 s1 n1 g1 c1 e1=>?_⟩
    have s01:=s0.trans s1
    refine ⟨_,rfl,a,_,_,_,rfl,rfl,SqT.of (s01 _ _ ha),at3,_,rfl,_,rfl,_,rfl,_,rfl,lenOk 4,fun b2 hb2=>?_⟩
    have s2:Same H1 (upd H1 b2 (.tup [.int (p.t+k),.int p.l,.int p.b,.int p.r])):=Same.new hb2
    have e2':(upd H1 b2 (.tup [.int (p.t+k),.int p.l,.int p.b,.int p.r])) b2=some (.tup (p.oth false k).vs):=upd_same
    generalize upd H1 b2 (.tup [.int (p.t+k),.int p.l,.int p.b,.int p.r])=H2 at s2 e2' ⊢
    refine ⟨v2,y2,b2,p.oth false k,rfl,(t2.same s01).same s2,e2',by lia,by lia,fun l2 ts2 H3 s3 n2 g2 c2 e2=>?_⟩
    have s23:=s2.trans s3
    have len1:=congrArg List.length e1
    have len2:=congrArg List.length e2
    rw [Zci,List.length_map] at len1 len2
    refine ⟨l1,l2,_,_,rfl,rfl,s23 _ _ g1,g2,Nat.le_of_lt (Za8 (by rw [List.length_map,List.length_map]; lia)),fun l hl=>?_⟩
    have s4:Same H3 (upd H3 l (.lst (pcs ts1++pcs ts2))):=Same.new hl
    exact q l (ts1++ts2) _ ((s01.trans s23).trans s4) (Zkr (s01.trans s23) hl) (by rw [upd_same,pcs_app]) (((c1.same s23).app c2).same s4) (by rw [cons_app,e1,e2,gath])
theorem catA {K:PySem.W.Frag} {H:Hp} {sa p:Addr} {st:List Int} {i:Int} (hs:H sa=some (.tup (st.map V.int))) (hp:H p=some (.tup [.int i])) (sz:st.length≤100) {Q:VK} (q:∀ sb H',Same H H'→H' sb=some (.tup ((st++[i]).map V.int))→Q (.ref sb) H'):rCatA K (.ref sa) (.ref p) H Q :=
 ⟨sa,p,_,_,rfl,rfl,SqT.of hs,hp,(by simp),Nat.le_of_lt (Za8 (by rw [List.length_map]; show st.length+1≤1000; lia)),fun sb H' s h=>q sb H' s (by rw [h,List.map_append]; rfl)⟩
def sd (u:Bool):Int:=if u then 1 else 0
theorem at_lo {p:Rk} {u:Bool}:atI p.vs (sd u)=some (.int (p.lo u)):=by cases u <;> rfl
theorem at_hi {p:Rk} {u:Bool}:atI p.vs (sd u+2)=some (.int (p.hi u)):=by cases u <;> rfl
theorem at_wd {u:Bool}:atI [V.str "level",V.str "upright"] (sd u)=some (.str (wd u)):=by cases u <;> rfl
theorem rk_pos {p:Rk} (h:p.ok) (u:Bool):p.lo u < p.hi u:=by
 cases u
 ·exact h.1
 ·exact h.2
def brkB (u:Bool) (a:Int) (g:Rk × Option Int):Bool:=decide (g.1.lo u < a) && decide (a < g.1.hi u)
theorem brk_iff {u:Bool} {a:Int} {g:Rk × Option Int}:brkB u a g=true↔brk u a g:=by
 unfold brkB brk
 rw [Bool.and_eq_true,decide_eq_true_iff,decide_eq_true_iff]
theorem Zkf {ts:List PT} {i:Nat} {x:V} (h:(pcs ts)[i]?=some x):∃ u,ts[i]?=some u∧x=.ref u.1:=by
 rw [List.getElem?_map] at h
 cases e:ts[i]? with
 | none=>rw [e] at h; cases h
 | some u=>rw [e] at h; exact ⟨u,rfl,(Option.some.inj h).symm⟩
def LnAt (H:Hp) (l:Addr) (cs:List (Bool × Int)):Prop:=∃ ts:List (Addr × Bool × Int),H l=some (.lst (refs ts))∧(∀ t∈ts,H t.1=some (.tup [.str (wd t.2.1),.int t.2.2]))∧ts.map (·.2)=cs
theorem LnAt.same {H H':Hp} {a:Addr} {ks:List (Bool × Int)} (h:LnAt H a ks) (s:Same H H'):LnAt H' a ks :=
 let ⟨ts,a,b,c⟩:=h; ⟨ts,s _ _ a,fun t ht=>s _ _ (b t ht),c⟩
structure Fnd (L:List (Rk × Option Int)) (p:Rk) (dn:Bool→Int→Prop) (cs:List (Bool × Int)):Prop where
 ok:∀ x∈cs,p.lo x.1 < x.2∧x.2 < p.hi x.1∧∀ g∈L,¬ brk x.1 x.2 g
 all:∀ u a,dn u a→p.lo u < a→a < p.hi u→(∀ g∈L,¬ brk u a g)→(u,a)∈cs
def Zea:Sp:=fun vs H Q _=>∃ (l b:Addr) (ts:List PT) (p:Rk),vs=[.ref l,.ref b]∧H l=some (.lst (pcs ts))∧PcO H ts∧ts.length≤150∧H b=some (.tup p.vs)∧p.ok∧(∀ u,0≤p.lo u∧p.hi u≤12) ∧
 ∀ c cs H',Same H H'→LnAt H' c cs→Fnd (cons ts) p (fun _ _=>True) cs→cs.length≤24→Q (.ref c) H'
theorem Zie:Zap ["_law_some","_law_block","_law_found","_law_side","_law_line"] ["_law_some","_law_block"] (Zad Zbh):=⟨rfl,rfl,rfl,by decide +kernel,rfl,by decide +kernel,by decide +kernel⟩
theorem Zgb {f:Addr} {fd:FuncData} (F:Fun K "_law_through" "_law_through" Zbh f fd) (T:Txt mg tk):FnOk P w K mg base CX0 1 f fd ["_law_some","_law_block"] Zea:=by
 have S:=Zie
 refine F.ok S (fun vs H Q E h=>?_) (fun cdv A outer s H vs Q E hr h=>?_)
 ·obtain ⟨l,b,ts,p,rfl,_⟩:=h; rfl
 ·obtain ⟨l,b,ts,p,rfl,hl,pc,hn,hb,pk,pb,q⟩:=h
  refine ⟨_,(Zab (Zam (i:=2) S.nd rfl (Or.inl rfl) (Zcv Zac))
   (Zab (Zgm PassesOwn.never rfl (Zfi (Zcv (Zaa Zae (Zaa Zae Zac)))) (Zau (i:=3) S.nd rfl (Or.inr rfl)) (Zaf (Zgm PassesOwn.never rfl (pi_range2 rfl T.z_range (Zaa (Zbb Zb4 (Zav Zar (pv 1) (pv 3) (fun _ _=>rfl)) Zae) (Zaa (Zav Zar (pv 1) (Zbb Zb4 (pv 3) Zae) (fun _ _=>rfl)) Zac))) (Zau (i:=4) S.nd rfl (Or.inr rfl)) (Zaf (Za9 (Zdo (Zck (Zay call_any rfl T.z_any rfl (Zaa (pe_comp rfl (Zfi (pv 0)) (fun _ _ _ _ _=>(Zkc (K:=K) (n:=2) rfl (Zas (Zau (i:=0) (show List.Nodup (["_law_one","_law_mark","_law_line","_law_side"]:List Str) from by decide +kernel) rfl (Or.inl rfl)) (Zas (Zau (i:=1) (show List.Nodup (["_law_one","_law_mark","_law_line","_law_side"]:List Str) from by decide +kernel) rfl (Or.inl rfl)) Zcu)))) (fun _ _ _ _ _=>(pe_chain Ziu Ziu (Zav (Zht (K:=K)) (pv 0) (pv 3) (fun _ _=>rfl)) (pv 2) (Zav (Zht (K:=K)) (pv 0) (Zbb Zb4 (pv 3) Zae) (fun _ _=>rfl)))) (N:=["_law_one","_law_mark","_law_line","_law_side"]) (fr:=[none,none,some 4,some 3])) Zac)))) (Zaf (Zeg (pe_bm PySem.F.plainAttrs_list PySem.F.slot_list_append PySem.F.type_list_append Zcw (pv 2) (Zaa (Zaw (Zaa (Zav Zcg (Zcv (Zaa Zax (Zaa Zax Zac))) (pv 3) (fun _ _=>rfl)) (Zaa (pv 4) Zac))) Zac)))) Zan)))))
   (Zaf (Zal (pv 2))))),?_⟩
  refine ⟨lenOk 0,fun c hc=>?_⟩
  have s0:Same H (upd H c (.lst [])):=Same.new hc
  have e0:(upd H c (.lst [])) c=some (.lst []):=upd_same
  generalize upd H c (.lst [])=H0 at s0 e0 ⊢
  refine ⟨lenOk 2,fun M hM=>?_⟩
  have s1:Same H0 (upd H0 M (.lst [.int 1,.int 0])):=Same.new hM
  have e1:(upd H0 M (.lst [.int 1,.int 0])) M=some (.lst [.int 1,.int 0]):=upd_same
  have nM:M≠c:=Ne.symm (Zag e0 hM)
  have c1:=s1 _ _ e0
  generalize upd H0 M (.lst [.int 1,.int 0])=H1 at s1 e1 c1 ⊢
  refine ⟨M,rfl,⟨_,SqL.of e1⟩,for_list (K:=K) (a:=M) (xs:=[.int 1,.int 0]) (fun i σ H'=>∃ (x3 x4:Option V) (cs:List (Bool × Int)),σ=[some (.ref l),some (.ref b),some (.ref c),x3,x4]∧Same H H'∧H' M=some (.lst [.int 1,.int 0])∧LnAt H' c cs∧Fnd (cons ts) p (fun u _=>if u then 1≤i else 2≤i) cs∧cs.length≤12 * i)
   ⟨_,_,[],rfl,s0.trans s1,e1,⟨[],c1,(fun t ht=>nomatch ht),rfl⟩,⟨fun x hx=>(nomatch hx),fun u a d=>by cases u <;> simp at d⟩,Nat.le_refl _⟩ (fun i σ H' _ hp=>let ⟨_,_,_,_,_,h,_⟩:=hp; SqL.of h) ?_ ?_⟩
  ·rintro i x σ H' hx ⟨x3,x4,cs,rfl,s2,m2,ln,fd2,len2⟩
   obtain ⟨u,rfl,hu⟩:∃ u,x=.int (sd u)∧i=if u then 0 else 1:=by
    match i,hx with
    | 0,hx=>cases hx; exact ⟨true,rfl,rfl⟩
    | 1,hx=>cases hx; exact ⟨false,rfl,rfl⟩
   obtain ⟨b0,b1⟩:=pb u
   have h12:=rk_pos pk u
   refine ⟨_,rfl,_,rfl,b,_,_,_,rfl,rfl,SqT.of (s2 _ _ hb),at_lo,_,_,rfl,rfl,_,rfl,_,rfl,_,_,rfl,rfl,b,_,_,_,rfl,rfl,SqT.of (s2 _ _ hb),at_hi,?_⟩
   refine ⟨_,_,rfl,⟨by lia,by lia,by lia,by lia⟩,?_⟩
   refine for_range (lo:=p.lo u+1) (n:=(p.hi u - (p.lo u+1)).toNat) (fun j σ H'=>∃ (x4:Option V) (cs:List (Bool × Int)),σ=[some (.ref l),some (.ref b),some (.ref c),some (.int (sd u)),x4]∧Same H H'∧H' M=some (.lst [.int 1,.int 0])∧LnAt H' c cs∧Fnd (cons ts) p (fun v a=>(if v then 1≤i else 2≤i)∨(v=u∧a≤p.lo u+j)) cs∧cs.length≤12 * i+j)
    ⟨_,cs,rfl,s2,m2,ln,⟨fd2.ok,fun v a d a1 a2=>d.elim (fun d=>fd2.all v a d a1 a2) (fun ⟨e,d⟩=>by subst e; lia)⟩,len2⟩ ?_ ?_
   ·rintro j σ H2 hj ⟨x4,cs,rfl,s3,m3,ln,fdj,lenj⟩
    have la:p.lo u+1+(j:Int) < p.hi u:=by lia
    generalize ea:p.lo u+1+(j:Int)=a at la ⊢
    refine ⟨_,rfl,l,rfl,⟨_,SqL.of (s3 _ _ hl)⟩,fun acc hacc=>comp_list (K:=K) (a:=l) (ys:=pcs ts) (fun i zs σ H'=>(∃ y z,σ=[y,z,some (.int a),some (.int (sd u))])∧Same H2 H'∧zs=((cons ts).take i).map fun g=>V.bl (brkB u a g)) ⟨⟨none,none,rfl⟩,Same.new hacc,rfl⟩ (fun i zs σ H' _ _ hp=>SqL.of ((s3.trans hp.2.1) _ _ hl)) ?_ ?_⟩
    ·rintro k x zs σ H' hx hk hl' hacc' ⟨⟨y,z,rfl⟩,hs,rfl⟩
     obtain ⟨t,ht,rfl⟩:=Zkf hx
     obtain ⟨g1,g2⟩:=(pc.same (s3.trans hs)) t (List.mem_of_getElem? ht)
     have next:∀ {σ':St} {v:V} {H3:Hp},H3=H'→σ'=[some (.ref t.2.1),some (markV t.2.2.2),some (.int a),some (.int (sd u))]→v=.bl (brkB u a t.2.2)→cNx acc (pcs ts).length (fun i zs σ H'=>(∃ y z,σ=[y,z,some (.int a),some (.int (sd u))])∧Same H2 H'∧zs=((cons ts).take i).map fun g=>V.bl (brkB u a g)) k σ' v H3:=fun {σ' v H3} e e2 e3=>by
      subst e e2 e3
      refine cNx.mk (Nat.le_of_lt (Za8 (by rw [List.length_map]; lia))) hk hl' hacc' ⟨⟨_,_,rfl⟩,fun b o e=>by rw [Zak (Zag e hacc)]; exact hs b o e,?_⟩
      rw [List.take_succ,List.getElem?_map,ht,List.map_append]; rfl
     refine ⟨t.1,_,rfl,SqT.of g1,rfl,_,_,rfl,_,_,rfl,rfl,_,rfl,_,rfl,t.2.1,_,_,_,rfl,rfl,SqT.of g2,at_lo,_,rfl,_,_,rfl,rfl,_,rfl,ite3 (fun h1=>?_) (fun h1=>?_)⟩
     ·refine ⟨_,rfl,_,rfl,_,_,rfl,rfl,t.2.1,_,_,_,rfl,rfl,SqT.of g2,at_hi,_,_,rfl,rfl,next rfl rfl ?_⟩
      unfold brkB
      rw [h1,Bool.true_and]
     ·exact next rfl rfl (by unfold brkB; rw [h1]; rfl)
    ·rintro zs σ H3 hzl hacc' ⟨_,s4,rfl⟩
     rw [List.length_map,← List.length_map (f:=fun t:PT=>t.2.2),List.take_length] at hacc'
     have hbs:SqL K H3 acc (((cons ts).map (brkB u a)).map V.bl):=SqL.of (by rw [List.map_map]; exact hacc')
     have s24:=s3.trans s4
     have m4:=s4 _ _ m3
     have nac:acc≠c:=fun z=>by obtain ⟨_,h,_⟩:=ln; rw [z,h] at hacc; cases hacc
     refine ⟨acc,_,rfl,hbs,rfl,_,rfl,?_⟩
     cases hany:(((cons ts).map (brkB u a)).any id) with
     | true =>
      refine iteN rfl ⟨_,cs,rfl,s24,m4,ln.same s4,⟨fdj.ok,fun v a' d a1 a2 nb=>?_⟩,by lia⟩
      rcases d with d | ⟨e,d⟩
      ·exact fdj.all v a' (.inl d) a1 a2 nb
      ·subst e
       by_cases e':a'=a
       ·subst e'
        obtain ⟨z,hz,hz2⟩:=List.any_eq_true.mp hany
        obtain ⟨g,hg,rfl⟩:=List.mem_map.mp hz
        exact absurd (brk_iff.mp hz2) (nb g hg)
       ·exact fdj.all v a' (.inr ⟨rfl,by lia⟩) a1 a2 nb
     | false =>
      refine iteP rfl ?_
      obtain ⟨us,u1,u2,ue⟩:=ln.same s4
      refine ⟨_,rfl,.inl ⟨rfl,_,SqL.of u1⟩,lenOk 2,fun N hN=>?_⟩
      have s5:Same H3 (upd H3 N (.lst [.str "level",.str "upright"])):=Same.new hN
      have e5:(upd H3 N (.lst [.str "level",.str "upright"])) N=some (.lst [.str "level",.str "upright"]):=upd_same
      generalize upd H3 N (.lst [.str "level",.str "upright"])=H5 at s5 e5 ⊢
      refine ⟨_,rfl,N,_,_,_,rfl,rfl,SqL.of e5,at_wd,_,rfl,lenOk 2,fun t6 h6=>?_⟩
      have s6:Same H5 (upd H5 t6 (.tup [.str (wd u),.int a])):=Same.new h6
      have e6:(upd H5 t6 (.tup [.str (wd u),.int a])) t6=some (.tup [.str (wd u),.int a]):=upd_same
      generalize upd H5 t6 (.tup [.str (wd u),.int a])=H6 at s6 e6 ⊢
      have s56:=s5.trans s6
      have u6:=s56 _ _ u1
      have ul:us.length=cs.length:=by rw [← ue,List.length_map]
      have il:i≤1:=by rw [hu]; cases u <;> decide
      have jl:j≤12:=by lia
      refine ⟨c,_,_,rfl,rfl,u6,Za8 (by rw [Zey]; lia),?_⟩
      have sK:∀ {b:Addr} {o:HO},b≠c→H6 b=some o→(upd H6 c (.lst (refs us++[.ref t6]))) b=some o:=fun n e=>by rw [Zak n]; exact e
      have tup:∀ {b:Addr} {xs:List V},H6 b=some (.tup xs)→(upd H6 c (.lst (refs us++[.ref t6]))) b=some (.tup xs):=fun {b xs} e=>sK (Zi6 e u6 (by intro z; cases z)) e
      refine ⟨_,cs++[(u,a)],rfl,fun d o e=>?_,sK nM (s56 _ _ m4),⟨us++[(t6,u,a)],by rw [upd_same]; show _=some (HO.lst (List.map _ (us++[(t6,u,a)]))); rw [List.map_append]; rfl,fun t ht=>?_,by rw [List.map_append,ue]; rfl⟩,⟨fun x hx=>?_,fun v a' d a1 a2 nb=>?_⟩,by rw [List.length_append,List.length_singleton]; lia⟩
      ·rw [Zak (Zag e hc)]; exact s56 _ _ (s24 _ _ e)
      ·rcases List.mem_append.mp ht with ht | ht
       ·exact tup (s56 _ _ (u2 t ht))
       ·rw [List.mem_singleton.mp ht]; exact tup e6
      ·rcases List.mem_append.mp hx with hx | hx
       ·exact fdj.ok x hx
       ·rw [List.mem_singleton.mp hx]
        refine ⟨show p.lo u < a by lia,la,fun g hg z=>?_⟩
        have:(((cons ts).map (brkB u a)).any id)=true:=List.any_eq_true.mpr ⟨_,List.mem_map.mpr ⟨g,hg,rfl⟩,brk_iff.mpr z⟩
        rw [hany] at this; cases this
      ·rcases d with d | ⟨e,d⟩
       ·exact List.mem_append_left _ (fdj.all v a' (.inl d) a1 a2 nb)
       ·subst e
        by_cases e':a'=a
        ·subst e'; exact List.mem_append_right _ (List.mem_singleton.mpr rfl)
        ·exact List.mem_append_left _ (fdj.all v a' (.inr ⟨rfl,by lia⟩) a1 a2 nb)
   ·rintro σ H2 ⟨x4,cs,rfl,s3,m3,ln,fdj,lenj⟩
    refine ⟨_,_,cs,rfl,s3,m3,ln,⟨fdj.ok,fun v a d a1 a2 nb=>?_⟩,by lia⟩
    by_cases e:v=u
    ·subst e
     exact fdj.all v a (.inr ⟨rfl,by lia⟩) a1 a2 nb
    ·refine fdj.all v a (.inl ?_) a1 a2 nb
     rw [hu] at d ⊢
     cases u <;> cases v <;> simp at e d ⊢
  ·rintro σ H' ⟨x3,x4,cs,rfl,s2,m2,ln,fd2,len2⟩
   exact ⟨_,rfl,q c cs H' s2 ln ⟨fd2.ok,fun u a _=>fd2.all u a (by cases u <;> simp)⟩ len2⟩
theorem Zfv {α:Type} (p:α→Bool) {L:List α} {i:Nat} {x:α} (h:L[i]?=some x):(L.take (i+1)).filter p=(L.take i).filter p++if p x=true then [x] else []:=by
 rw [List.take_succ,h,List.filter_append]
 show _=_
 cases hx:p x with
 | true=>simp [hx]
 | false=>simp [hx]
def Ze9:Sp:=fun vs H Q _=>∃ (l b:Addr) (ts:List PT) (p:Rk) (u:Bool) (a:Int),vs=[.ref l,.ref b,.str (wd u),.int (p.lo u+a)]∧H l=some (.lst (pcs ts))∧PcO H ts∧ts.length≤150∧H b=some (.tup p.vs) ∧
 ∀ c l1 b1 l2 b2 ts1 ts2 H',Same H H'→H' c=some (.tup [.ref l1,.ref b1,.ref l2,.ref b2])→H' l1=some (.lst (pcs ts1))→PcO H' ts1→cons ts1=((cons ts).filter fun g=>decide (g.1.lo u < p.lo u+a))→H' b1=some (.tup (p.fst u a).vs) →
  H' l2=some (.lst (pcs ts2))→PcO H' ts2→cons ts2=((cons ts).filter fun g=>decide (p.lo u+a≤g.1.lo u))→H' b2=some (.tup (p.oth u a).vs)→Q (.ref c) H'
theorem Zjr:Zap ["_law_some","_law_block","_law_word","_law_line","_law_top","_law_left","_law_bottom","_law_right","_law_side","_law_first","_law_other"] ["_law_some","_law_block","_law_word","_law_line"] (Zad Zbo):=⟨rfl,rfl,rfl,by decide +kernel,rfl,by decide +kernel,by decide +kernel⟩
theorem Zhl {f:Addr} {fd:FuncData} (F:Fun K "_law_parted" "_law_parted" Zbo f fd) (T:Txt mg tk):FnOk P w K mg base CX0 1 f fd ["_law_some","_law_block","_law_word","_law_line"] Ze9:=by
 have S:=Zjr
 refine F.ok S (fun vs H Q E h=>?_) (fun cdv A outer s H vs Q E hr h=>?_)
 ·obtain ⟨l,b,ts,p,u,a,rfl,_⟩:=h; rfl
 ·obtain ⟨l,b,ts,p,u,a,rfl,hl,pc,hn,hb,q⟩:=h
  refine ⟨_,(Zab (Zgn (pv 1) (Zdw rfl (Zas (Zau (i:=4) S.nd rfl (Or.inl rfl)) (Zas (Zau (i:=5) S.nd rfl (Or.inl rfl)) (Zas (Zau (i:=6) S.nd rfl (Or.inl rfl)) (Zas (Zau (i:=7) S.nd rfl (Or.inl rfl)) Zcu))))))
   (Zab (Zam (i:=8) S.nd rfl (Or.inr rfl) (Ziq Zjl rfl T.z_int rfl (Zaa (Zke Zcf (pv 2) Zax (nomark _)) Zac)))
   (Zab (Zfg rfl (Zau (i:=9) S.nd rfl (Or.inl rfl)) (Zfi (pv 0)) (fun _ _ _ _ _=>(Zkc (K:=K) (n:=2) rfl (Zas (Zau (i:=0) (show List.Nodup (["_law_one","_law_mark","_law_line","_law_side"]:List Str) from by decide +kernel) rfl (Or.inl rfl)) (Zas (Zau (i:=1) (show List.Nodup (["_law_one","_law_mark","_law_line","_law_side"]:List Str) from by decide +kernel) rfl (Or.inl rfl)) Zcu)))) (fun _ _ _ _ _=>(Zai Ziu (Zav (Zht (K:=K)) (pv 0) (pv 3) (fun _ _=>rfl)) (pv 2) (nomark _))) (fun _ _ _ _ _=>(Zaw (Zaa (pv 0) (Zaa (pv 1) Zac)))) (N:=["_law_one","_law_mark","_law_line","_law_side"]) (fr:=[none,none,some 3,some 8]))
   (Zab (Zfg rfl (Zau (i:=10) S.nd rfl (Or.inl rfl)) (Zfi (pv 0)) (fun _ _ _ _ _=>(Zkc (K:=K) (n:=2) rfl (Zas (Zau (i:=0) (show List.Nodup (["_law_one","_law_mark","_law_line","_law_side"]:List Str) from by decide +kernel) rfl (Or.inl rfl)) (Zas (Zau (i:=1) (show List.Nodup (["_law_one","_law_mark","_law_line","_law_side"]:List Str) from by decide +kernel) rfl (Or.inl rfl)) Zcu)))) (fun _ _ _ _ _=>(Zai op_ge (Zav (Zht (K:=K)) (pv 0) (pv 3) (fun _ _=>rfl)) (pv 2) (nomark _))) (fun _ _ _ _ _=>(Zaw (Zaa (pv 0) (Zaa (pv 1) Zac)))) (N:=["_law_one","_law_mark","_law_line","_law_side"]) (fr:=[none,none,some 3,some 8]))
   (Zab (Za9 (Zai Zcf (pv 8) Zae (nomark _)) (Zaf (Zal (Zaw (Zaa (pv 9) (Zaa (Zaw (Zaa (pv 4) (Zaa (pv 5) (Zaa (pv 6) (Zaa (pv 3) Zac))))) (Zaa (pv 10) (Zaa (Zaw (Zaa (pv 4) (Zaa (pv 3) (Zaa (pv 6) (Zaa (pv 7) Zac))))) Zac))))))) Zan)
   (Zaf (Zal (Zaw (Zaa (pv 9) (Zaa (Zaw (Zaa (pv 4) (Zaa (pv 5) (Zaa (pv 3) (Zaa (pv 7) Zac))))) (Zaa (pv 10) (Zaa (Zaw (Zaa (pv 3) (Zaa (pv 5) (Zaa (pv 6) (Zaa (pv 7) Zac))))) Zac)))))))))))),?_⟩
  refine ⟨_,rfl,b,_,rfl,SqT.of hb,rfl,_,_,rfl,_,_,rfl,_,_,rfl,_,_,rfl,rfl,?_⟩
  refine ⟨_,rfl,rfl,.inr ⟨_,rfl,?_⟩⟩
  have hsd:(if decide (V.str (wd u)=V.str "upright")=true then (1:Int) else 0)=sd u:=by rw [wd_eq]; rfl
  rw [hsd]
  have sz:(pcs ts).length≤sizeLine:=Nat.le_of_lt (Za8 (by rw [List.length_map]; lia))
  generalize ea:p.lo u+a=ln at q ⊢
  refine ⟨_,rfl,l,rfl,⟨_,SqL.of hl⟩,fun acc hacc=>Zgw (K:=K) (a:=l) (ys:=pcs ts) (fun i zs σ H'=>(∃ y z,σ=[y,z,some (.int ln),some (.int (sd u))])∧Same H H'∧∃ us:List PT,zs=pcs us∧PcO H' us∧cons us=((cons ts).take i).filter fun g=>decide (g.1.lo u < ln)) ⟨⟨none,none,rfl⟩,Same.new hacc,[],rfl,(fun t ht=>nomatch ht),rfl⟩ (fun i zs σ H' _ _ hp=>SqL.of (hp.2.1 _ _ hl)) ?_ ?_⟩
  ·rintro i x zs σ H' hx hi hl' hacc' ⟨⟨y,z,rfl⟩,hs,us,rfl,pu,eu⟩
   obtain ⟨t,ht,rfl⟩:=Zkf hx
   obtain ⟨g1,g2⟩:=(pc.same hs) t (List.mem_of_getElem? ht)
   have ft:=Zfv (fun g:Rk × Option Int=>decide (g.1.lo u < ln)) (L:=cons ts) (i:=i) (x:=t.2.2) (by rw [List.getElem?_map,ht]; rfl)
   refine ⟨t.1,_,rfl,SqT.of g1,rfl,_,_,rfl,_,_,rfl,rfl,_,rfl,_,rfl,t.2.1,_,_,_,rfl,rfl,SqT.of g2,at_lo,_,rfl,_,_,rfl,rfl,_,rfl,?_⟩
   cases h3:decide (t.2.2.1.lo u < ln) with
   | true =>
    refine ⟨_,rfl,_,rfl,lenOk 2,fun n hn'=>?_⟩
    have s2:Same H' (upd H' n (.tup [.ref t.2.1,markV t.2.2.2])):=Same.new hn'
    have e2:(upd H' n (.tup [.ref t.2.1,markV t.2.2.2])) n=some (.tup [.ref t.2.1,markV t.2.2.2]):=upd_same
    generalize upd H' n (.tup [.ref t.2.1,markV t.2.2.2])=H2 at s2 e2 ⊢
    have a2:=s2 _ _ hacc'
    refine fNx.mk sz hi hl' a2 ⟨⟨_,_,rfl⟩,fun d o e=>by rw [Zak (Zag e hacc)]; exact s2 _ _ (hs d o e),us++[(n,t.2)],(pcs_snoc us (n,t.2)).symm,?_,?_⟩
    ·intro r hr
     rcases List.mem_append.mp hr with hr | hr
     ·exact (pu.same s2).kp (Kp.put a2) r hr
     ·rw [List.mem_singleton.mp hr]
      exact ⟨Kp.put a2 _ _ e2 (by intro xs z; cases z),Kp.put a2 _ _ (s2 _ _ g2) (by intro xs z; cases z)⟩
    ·rw [Zji,eu,ft,h3,if_pos rfl]
   | false=>exact fSk.mk hi hl' hacc' ⟨⟨_,_,rfl⟩,hs,us,rfl,pu,by rw [eu,ft,h3,if_neg Bool.false_ne_true,List.append_nil]⟩
  rintro zs σ H1 hzl ac1 ⟨_,s1,us1,rfl,pu1,eu1⟩
  rw [List.length_map,← List.length_map (f:=fun t:PT=>t.2.2),List.take_length] at eu1
  refine ⟨_,rfl,l,rfl,⟨_,SqL.of (s1 _ _ hl)⟩,fun acc2 hacc2=>Zgw (K:=K) (a:=l) (ys:=pcs ts) (fun i zs σ H'=>(∃ y z,σ=[y,z,some (.int ln),some (.int (sd u))])∧Same H1 H'∧∃ us:List PT,zs=pcs us∧PcO H' us∧cons us=((cons ts).take i).filter fun g=>decide (ln≤g.1.lo u)) ⟨⟨none,none,rfl⟩,Same.new hacc2,[],rfl,(fun t ht=>nomatch ht),rfl⟩ (fun i zs σ H' _ _ hp=>SqL.of ((s1.trans hp.2.1) _ _ hl)) ?_ ?_⟩
  ·rintro i x zs σ H' hx hi hl' hacc' ⟨⟨y,z,rfl⟩,hs,us,rfl,pu,eu⟩
   obtain ⟨t,ht,rfl⟩:=Zkf hx
   obtain ⟨g1,g2⟩:=(pc.same (s1.trans hs)) t (List.mem_of_getElem? ht)
   have ft:=Zfv (fun g:Rk × Option Int=>decide (ln≤g.1.lo u)) (L:=cons ts) (i:=i) (x:=t.2.2) (by rw [List.getElem?_map,ht]; rfl)
   refine ⟨t.1,_,rfl,SqT.of g1,rfl,_,_,rfl,_,_,rfl,rfl,_,rfl,_,rfl,t.2.1,_,_,_,rfl,rfl,SqT.of g2,at_lo,_,rfl,_,_,rfl,rfl,_,rfl,?_⟩
   show match decide (ln≤t.2.2.1.lo u) with | true=>_ | false=>_
   cases h3:decide (ln≤t.2.2.1.lo u) with
   | true =>
    refine ⟨_,rfl,_,rfl,lenOk 2,fun n hn'=>?_⟩
    have s2:Same H' (upd H' n (.tup [.ref t.2.1,markV t.2.2.2])):=Same.new hn'
    have e2:(upd H' n (.tup [.ref t.2.1,markV t.2.2.2])) n=some (.tup [.ref t.2.1,markV t.2.2.2]):=upd_same
    generalize upd H' n (.tup [.ref t.2.1,markV t.2.2.2])=H2 at s2 e2 ⊢
    have a2:=s2 _ _ hacc'
    refine fNx.mk sz hi hl' a2 ⟨⟨_,_,rfl⟩,fun d o e=>by rw [Zak (Zag e hacc2)]; exact s2 _ _ (hs d o e),us++[(n,t.2)],(pcs_snoc us (n,t.2)).symm,?_,?_⟩
    ·intro r hr
     rcases List.mem_append.mp hr with hr | hr
     ·exact (pu.same s2).kp (Kp.put a2) r hr
     ·rw [List.mem_singleton.mp hr]
      exact ⟨Kp.put a2 _ _ e2 (by intro xs z; cases z),Kp.put a2 _ _ (s2 _ _ g2) (by intro xs z; cases z)⟩
    ·rw [Zji,eu,ft,h3,if_pos rfl]
   | false=>exact fSk.mk hi hl' hacc' ⟨⟨_,_,rfl⟩,hs,us,rfl,pu,by rw [eu,ft,h3,if_neg Bool.false_ne_true,List.append_nil]⟩
  rintro zs σ H2 hzl2 ac2 ⟨_,s2,us2,rfl,pu2,eu2⟩
  rw [List.length_map,← List.length_map (f:=fun t:PT=>t.2.2),List.take_length] at eu2
  have s12:=s1.trans s2
  refine ⟨_,rfl,rfl,_,rfl,?_⟩
  cases u with
  | true =>
   refine iteP (by decide) ⟨_,rfl,_,rfl,_,rfl,_,rfl,_,rfl,lenOk 4,fun b1 n1=>?_⟩
   have s3:Same H2 (upd H2 b1 (.tup [.int p.t,.int p.l,.int p.b,.int ln])):=Same.new n1
   have e3:(upd H2 b1 (.tup [.int p.t,.int p.l,.int p.b,.int ln])) b1=some (.tup [.int p.t,.int p.l,.int p.b,.int ln]):=upd_same
   generalize upd H2 b1 (.tup [.int p.t,.int p.l,.int p.b,.int ln])=H3 at s3 e3 ⊢
   refine ⟨_,rfl,_,rfl,_,rfl,_,rfl,_,rfl,lenOk 4,fun b2 n2=>?_⟩
   have s4:Same H3 (upd H3 b2 (.tup [.int p.t,.int ln,.int p.b,.int p.r])):=Same.new n2
   have e4:(upd H3 b2 (.tup [.int p.t,.int ln,.int p.b,.int p.r])) b2=some (.tup [.int p.t,.int ln,.int p.b,.int p.r]):=upd_same
   generalize upd H3 b2 (.tup [.int p.t,.int ln,.int p.b,.int p.r])=H4 at s4 e4 ⊢
   refine ⟨lenOk 4,fun c n5=>?_⟩
   have s5:Same H4 (upd H4 c (.tup [.ref acc,.ref b1,.ref acc2,.ref b2])):=Same.new n5
   have s25:=(s3.trans s4).trans s5
   subst ea
   exact q c acc b1 acc2 b2 us1 us2 _ (s12.trans s25) upd_same (s25 _ _ (s2 _ _ ac1)) ((pu1.same s2).same s25) eu1 ((s4.trans s5) _ _ e3) (s25 _ _ ac2) (pu2.same s25) eu2 (s5 _ _ e4)
  | false =>
   refine iteN (by decide) ⟨_,rfl,_,rfl,_,rfl,_,rfl,_,rfl,lenOk 4,fun b1 n1=>?_⟩
   have s3:Same H2 (upd H2 b1 (.tup [.int p.t,.int p.l,.int ln,.int p.r])):=Same.new n1
   have e3:(upd H2 b1 (.tup [.int p.t,.int p.l,.int ln,.int p.r])) b1=some (.tup [.int p.t,.int p.l,.int ln,.int p.r]):=upd_same
   generalize upd H2 b1 (.tup [.int p.t,.int p.l,.int ln,.int p.r])=H3 at s3 e3 ⊢
   refine ⟨_,rfl,_,rfl,_,rfl,_,rfl,_,rfl,lenOk 4,fun b2 n2=>?_⟩
   have s4:Same H3 (upd H3 b2 (.tup [.int ln,.int p.l,.int p.b,.int p.r])):=Same.new n2
   have e4:(upd H3 b2 (.tup [.int ln,.int p.l,.int p.b,.int p.r])) b2=some (.tup [.int ln,.int p.l,.int p.b,.int p.r]):=upd_same
   generalize upd H3 b2 (.tup [.int ln,.int p.l,.int p.b,.int p.r])=H4 at s4 e4 ⊢
   refine ⟨lenOk 4,fun c n5=>?_⟩
   have s5:Same H4 (upd H4 c (.tup [.ref acc,.ref b1,.ref acc2,.ref b2])):=Same.new n5
   have s25:=(s3.trans s4).trans s5
   subst ea
   exact q c acc b1 acc2 b2 us1 us2 _ (s12.trans s25) upd_same (s25 _ _ (s2 _ _ ac1)) ((pu1.same s2).same s25) eu1 ((s4.trans s5) _ _ e3) (s25 _ _ ac2) (pu2.same s25) eu2 (s5 _ _ e4)
theorem St8.keep {H H':Hp} {st a:Addr} {tm:Int} {o:HO} (h:St8 H st tm) (s:SameX st H H') (e:H a=some o) (n:∀ kv,o≠.dK kv):H' a=some o:=by
 obtain ⟨_,_,_,q⟩:=h
 exact s _ _ (Zi6 e q (n _)) e
theorem PcO.st {H H':Hp} {st:Addr} {tm:Int} {ts:List PT} (p:PcO H ts) (h:St8 H st tm) (s:SameX st H H'):PcO H' ts:=fun t ht=>⟨h.keep s (p t ht).1 (by intro kv z; cases z),h.keep s (p t ht).2 (by intro kv z; cases z)⟩
def Zdt (n:Nat):Sp:=fun vs H Q _=>∃ (l b st:Addr) (ts:List PT) (p:Rk) (t:Tr) (tm:Int),vs=[.ref l,.ref b,.ref st]∧H l=some (.lst (pcs ts))∧PcO H ts∧ts.length≤150∧H b=some (.tup p.vs)∧p.ok∧(∀ u,0≤p.lo u∧p.hi u≤12)∧FitR p t∧(cons ts).Perm (gath t p)∧St8 H st tm∧0≤tm∧tm+t.sz≤900∧p.len true+p.len false < n ∧
 ∀ v r H' tm',SameX st H H'→St8 H' st tm'→0≤tm'→tm'+1≤tm+t.sz→Told H' r v→FitR p r→(gath r p).Perm (gath t p)→Q v H'
theorem recut0 {vs:List V} {H:Hp} {Q:VK} {E:XK}:¬ Zdt 0 vs H Q E:=by
 rintro ⟨l,b,st,ts,p,t,tm,_,_,_,_,_,pk,_,_,_,_,_,_,h,_⟩
 have h1:=rk_pos pk true
 have h2:=rk_pos pk false
 rw [Zin,Zin] at h
 lia
abbrev N_recut:List Str:=["_law_some","_law_block","_law_state_here","_law_lines","_law_word","_law_line","_law_first","_law_low","_law_other","_law_high","_law_part"]
theorem Zf3:Zap N_recut ["_law_some","_law_block","_law_state_here"] (Zad Zb0):=⟨rfl,rfl,rfl,by decide +kernel,rfl,by decide +kernel,by decide +kernel⟩
theorem rk_lh {p:Rk} {u:Bool} {a:Int} (h:∀ v,0≤p.lo v∧p.hi v≤12) (a1:1≤a) (a2:a < p.len u):(∀ v,0≤(p.fst u a).lo v∧(p.fst u a).hi v≤12)∧(∀ v,0≤(p.oth u a).lo v∧(p.oth u a).hi v≤12)∧(p.fst u a).len true+(p.fst u a).len false < p.len true+p.len false∧(p.oth u a).len true+(p.oth u a).len false < p.len true+p.len false:=by
 obtain ⟨x1,x2⟩:=h true
 obtain ⟨y1,y2⟩:=h false
 have x1:0≤p.l:=x1
 have x2:p.r≤12:=x2
 have y1:0≤p.t:=y1
 have y2:p.b≤12:=y2
 cases u with
 | true =>
  have a2:a < p.r - p.l:=a2
  refine ⟨fun v=>?_,fun v=>?_,?_,?_⟩
  ·cases v
   ·exact ⟨y1,y2⟩
   ·exact ⟨x1,show p.l+a≤12 by lia⟩
  ·cases v
   ·exact ⟨y1,y2⟩
   ·exact ⟨show 0≤p.l+a by lia,x2⟩
  ·show p.l+a - p.l+(p.b - p.t) < p.r - p.l+(p.b - p.t); lia
  ·show p.r - (p.l+a)+(p.b - p.t) < p.r - p.l+(p.b - p.t); lia
 | false =>
  have a2:a < p.b - p.t:=a2
  refine ⟨fun v=>?_,fun v=>?_,?_,?_⟩
  ·cases v
   ·exact ⟨y1,show p.t+a≤12 by lia⟩
   ·exact ⟨x1,x2⟩
  ·cases v
   ·exact ⟨show 0≤p.t+a by lia,y2⟩
   ·exact ⟨x1,x2⟩
  ·show p.r - p.l+(p.t+a - p.t) < p.r - p.l+(p.b - p.t); lia
  ·show p.r - p.l+(p.b - (p.t+a)) < p.r - p.l+(p.b - p.t); lia
theorem refs_at {α:Type} {ts:List (Addr × α)} {z:Int} (h0:0≤z) (h1:z < ts.length):∃ t∈ts,atI (refs ts) z=some (.ref t.1):=by
 have h:z.toNat < ts.length:=by lia
 have e:=Zib (xs:=refs ts) (j:=z.toNat) (v:=.ref ts[z.toNat].1) (by unfold refs; rw [List.getElem?_map,List.getElem?_eq_getElem h]; rfl)
 rw [Int.toNat_of_nonneg h0] at e
 exact ⟨_,List.getElem_mem h,e⟩
theorem Zi3 {f:Addr} {fd:FuncData} {n:Nat} (F:Fun K "_law_recut" "_law_recut" Zb0 f fd) (T:Txt mg tk) (D__law_through:DefOk P w K mg base 1 "_law_through" ["_law_some","_law_block"] Zea) (D__law_pick:DefOk P w K mg base 2 "_law_pick" ["_law_state_here","_law_many"] Zha) (D__law_parted:DefOk P w K mg base 1 "_law_parted" ["_law_some","_law_block","_law_word","_law_line"] Ze9)
  (D__law_recut:DefOk P w K mg base (n+3) "_law_recut" ["_law_some","_law_block","_law_state_here"] (Zdt n)):FnOk P w K mg base CX0 (n+4) f fd ["_law_some","_law_block","_law_state_here"] (Zdt (n+1)):=by
 have S:=Zf3
 refine F.ok S (fun vs H Q E h=>?_) (fun cdv A outer s H vs Q E hr h=>?_)
 ·obtain ⟨l,b,st,ts,p,t,tm,rfl,_⟩:=h; rfl
 ·obtain ⟨l,b,st,ts,p,t,tm,rfl,hl,pc,hn,hb,pk,pb,fit,pm,hst,tm0,tm9,hd,q⟩:=h
  refine ⟨_,(Zab (Za9 (Zai Zcf (Zay Zc0 rfl T.z_len rfl (Zaa (pv 0) Zac)) Zae (nomark _)) (Zaf (Zal (Zaw (Zaa Zax (Zaa (Zav Zar (Zav Zcg (pv 0) Zae (fun _ _=>rfl)) Zae (fun _ _=>rfl)) Zac))))) Zan)
   (Zab (Zam (i:=3) S.nd rfl (Or.inl rfl) (Zaq D__law_through hr (Zaa (pv 0) (Zaa (pv 1) Zac)) (by lia)))
   (Zab (Zgn (Zav Zcg (pv 3) (Zaq D__law_pick hr (Zaa (pv 2) (Zaa (Zay Zc0 rfl T.z_len rfl (Zaa (pv 3) Zac)) Zac)) (by lia)) (fun _ _=>rfl)) (Zdw rfl (Zas (Zau (i:=4) S.nd rfl (Or.inl rfl)) (Zas (Zau (i:=5) S.nd rfl (Or.inl rfl)) Zcu))))
   (Zab (Zgn (Zaq D__law_parted hr (Zaa (pv 0) (Zaa (pv 1) (Zaa (pv 4) (Zaa (pv 5) Zac)))) (by lia)) (Zdw rfl (Zas (Zau (i:=6) S.nd rfl (Or.inl rfl)) (Zas (Zau (i:=7) S.nd rfl (Or.inl rfl)) (Zas (Zau (i:=8) S.nd rfl (Or.inl rfl)) (Zas (Zau (i:=9) S.nd rfl (Or.inl rfl)) Zcu))))))
   (Zab (Zam (i:=10) S.nd rfl (Or.inl rfl) (Zaq D__law_recut hr (Zaa (pv 6) (Zaa (pv 7) (Zaa (pv 2) Zac))) (by lia)))
   (Zaf (Zal (Zaw (Zaa (pv 4) (Zaa (Zbb Zfj (pv 5) (Zav Zar (pv 1) (Ziq Zjl rfl T.z_int rfl (Zaa (Zke Zcf (pv 4) Zax (nomark _)) Zac)) (fun _ _=>rfl))) (Zaa (pv 10) (Zaa (Zaq D__law_recut hr (Zaa (pv 8) (Zaa (pv 9) (Zaa (pv 2) Zac))) (by lia)) Zac)))))))))))),?_⟩
  have lenE:=pm.length_eq
  rw [Zci,List.length_map] at lenE
  refine ⟨_,rfl,l,_,rfl,.inl (SqL.of hl),rfl,_,rfl,ite3 (fun c=>?_) (fun c=>?_)⟩
  ·have c:=of_decide_eq_true c
   have c:ts.length=1:=by have:=V.int.inj c; rw [List.length_map] at this; lia
   obtain ⟨x,rfl⟩:=List.length_eq_one_iff.mp c
   obtain ⟨m,rfl⟩:=sz_one (lenE.symm.trans c)
   have hx:=pc x (List.mem_singleton.mpr rfl)
   refine ⟨_,rfl,l,_,_,_,rfl,rfl,SqL.of hl,rfl,x.1,_,_,_,rfl,rfl,SqT.of hx.1,at2_1,lenOk 2,fun a ha=>?_⟩
   rw [gath] at pm
   have e:=pm.mem_iff.mp (List.mem_singleton.mpr rfl)
   have e:=List.mem_singleton.mp e
   have e2:x.2.2.2=m:=congrArg Prod.snd e
   have s1:Same H (upd H a (.tup [.str "whole",markV x.2.2.2])):=Same.new ha
   refine q (.ref a) (.whole m) _ tm s1.x (hst.same s1) tm0 (Int.le_refl _) ?_ fit (List.Perm.refl _)
   rw [Told,← e2]; exact ⟨a,rfl,upd_same⟩
  ·have c:=of_decide_eq_false c
   have c:t.sz≠1:=fun z=>c (by rw [List.length_map,lenE,z]; rfl)
   refine ⟨_,rfl,_,rfl,l,b,ts,p,rfl,hl,pc,hn,hb,pk,pb,fun cl cs H1 s1 ln fnd cl24=>?_⟩
   obtain ⟨us,u1,u2,ue⟩:=ln
   have ul:us.length=cs.length:=by rw [← ue,List.length_map]
   have ne:0 < cs.length:=by
    cases t with
    | whole m=>exact absurd rfl c
    | cut u0 k0 x0 y0 =>
     obtain ⟨⟨k1,k2⟩,fx,fy⟩:=fitR_cut.mp fit
     obtain ⟨_,_,nb⟩:=Zgu pk k1 k2 fx fy
     rw [Zin] at k2
     exact List.length_pos_of_mem (fnd.all u0 (p.lo u0+k0) trivial (by lia) (by lia) fun g hg=>nb g (by have:=pm.mem_iff.mp hg; rw [gath] at this; exact this))
   have st1:=hst.same s1
   refine ⟨_,rfl,_,rfl,_,rfl,cl,_,rfl,.inl (SqL.of u1),st,tm,_,rfl,st1,tm0,by have:=Zgh t; lia,by rw [Zey]; lia,by rw [Zey]; lia,fun z H2 z0 z1 s2 st2=>?_⟩
   rw [Zey] at z1
   obtain ⟨x,hx,hat⟩:=refs_at (ts:=us) z0 z1
   obtain ⟨xa,u,line⟩:=x
   have kp2:∀ {d:Addr} {o:HO},H d=some o→(∀ kv,o≠.dK kv)→H2 d=some o:=fun e nk=>st1.keep s2 (s1 _ _ e) nk
   refine ⟨cl,_,_,_,rfl,rfl,SqL.of (st1.keep s2 u1 (by intro kv z; cases z)),hat,xa,_,rfl,SqT.of (st1.keep s2 (u2 _ hx) (by intro kv z; cases z)),rfl,_,_,rfl,_,_,rfl,rfl,?_⟩
   obtain ⟨f1,f2,nb⟩:=fnd.ok (u,line) (ue ▸ List.mem_map.mpr ⟨_,hx,rfl⟩)
   obtain ⟨a,rfl⟩:∃ a,line=p.lo u+a:=⟨line - p.lo u,by lia⟩
   have f1:p.lo u < p.lo u+a:=f1
   have f2:p.lo u+a < p.hi u:=f2
   have a1:1≤a:=by lia
   have a2:a < p.len u:=by rw [Zin]; lia
   obtain ⟨th,fa,fb,q1,q2⟩:=part_perm pk fit pm a1 a2 nb
   obtain ⟨ok1,ok2⟩:=rk_parts pk a1 a2
   obtain ⟨lh1,lh2,lt1,lt2⟩:=rk_lh (u:=u) (a:=a) pb a1 a2
   have szE:=(Zdd (p:=p) th).length_eq
   rw [Zci,List.length_append,Zci,Zci] at szE
   have sza:=Zgh (ahd t u a)
   have szb:=Zgh (bhd t u a)
   have l2:=kp2 hl (by intro kv z; cases z)
   have b2:=kp2 hb (by intro kv z; cases z)
   have pc2:=(pc.same s1).st st1 s2
   refine ⟨_,rfl,_,rfl,_,rfl,_,rfl,l,b,ts,p,u,a,rfl,l2,pc2,hn,b2,fun cc l1 b1 lo bo ts1 ts2 H3 s3 hcc hl1 pc1 e1 hb1 hlo pco e2 hbo=>?_⟩
   refine ⟨cc,_,rfl,SqT.of hcc,rfl,_,_,rfl,_,_,rfl,_,_,rfl,_,_,rfl,rfl,?_⟩
   have st3:=st2.same s3
   have q1':(cons ts1).Perm (gath (ahd t u a) (p.fst u a)):=by rw [e1]; exact q1
   have q2':(cons ts2).Perm (gath (bhd t u a) (p.oth u a)):=by rw [e2]; exact q2
   have n1:=q1'.length_eq
   have n2:=q2'.length_eq
   rw [Zci,List.length_map] at n1 n2
   refine ⟨_,rfl,_,rfl,_,rfl,l1,b1,st,ts1,p.fst u a,ahd t u a,tm+1,rfl,hl1,pc1,by lia,hb1,ok1,lh1,fa,q1',st3,by lia,by lia,by lia,fun v1 r1 H4 tm4 s4 st4 t40 t4 told1 fit1 perm1=>?_⟩
   have hlo4:=st3.keep s4 hlo (by intro kv z; cases z)
   have hbo4:=st3.keep s4 hbo (by intro kv z; cases z)
   have b4:=st3.keep s4 (s3 _ _ b2) (by intro kv z; cases z)
   refine ⟨_,rfl,_,rfl,_,rfl,_,rfl,rfl,.inr ⟨_,rfl,?_⟩⟩
   have hsd:(if decide (V.str (wd u)=V.str "upright")=true then (1:Int) else 0)=sd u:=by rw [wd_eq]; rfl
   rw [hsd]
   refine ⟨b,_,_,_,rfl,rfl,SqT.of b4,at_lo,_,_,rfl,rfl,_,rfl,_,rfl,_,rfl,_,rfl,lo,bo,st,ts2,p.oth u a,bhd t u a,tm4,rfl,hlo4,pco.st st3 s4,by lia,hbo4,ok2,lh2,fb,q2',st4,t40,by lia,by lia,fun v2 r2 H5 tm5 s5 st5 t50 t5 told2 fit2 perm2=>?_⟩
   refine ⟨lenOk 4,fun x6 h6=>?_⟩
   have s6:Same H5 (upd H5 x6 (.tup [.str (wd u),.int (p.lo u+a - p.lo u),v1,v2])):=Same.new h6
   refine q (.ref x6) (.cut u a r1 r2) _ tm5 ((s1.x.trans s2).trans ((s3.x.trans s4).trans (s5.trans s6.x))) (st5.same s6) t50 (by lia) ?_ (fitR_cut.mpr ⟨⟨a1,a2⟩,fit1,fit2⟩) ?_
   ·rw [Told]; exact ⟨x6,v1,v2,rfl,upd_same.trans (by show some (HO.tup [V.str (wd u),V.int (p.lo u+a - p.lo u),v1,v2])=_; rw [show p.lo u+a - p.lo u=a by lia]),(told1.samed s5 st4).same s6,told2.same s6⟩
   ·rw [gath]
    exact (perm1.append perm2).trans (Zdd (p:=p) th).symm
def TldO (H:Hp) (o:Option Tr) (v:V):Prop:=match o with
 | none=>v=.non
 | some t=>Told H t v
def Zdu (n:Nat):Sp:=fun vs H Q _=>∃ (v:V) (t:Tr) (st:List Int) (sa:Addr) (wo:Str),vs=[v,.ref sa,.str wo]∧Told H t v∧H sa=some (.tup (st.map V.int))∧t.dp < n∧t.dp≤100∧st.length≤200∧∀ v' H',Same H H'→TldO H' (mvd t st wo) v'→Q v' H'
theorem moved0 {vs:List V} {H:Hp} {Q:VK} {E:XK}:¬ Zdu 0 vs H Q E:=by
 rintro ⟨v,t,st,sa,wo,_,_,_,h,_⟩
 lia
theorem Zia {x:V} {r:List V}:atI (x :: r) 0=some x:=Zib (xs:=x :: r) (j:=0) (v:=x) rfl
theorem eqI (i j:Int):eqV (.int i) (.int j)=decide (i=j):=by
 by_cases q:i=j
 ·subst q; simp [eqV]
 ·simp [eqV,q]
theorem in01 (i:Int):inV (V.int i) [V.int 0,V.int 1]=(decide (0=i) || decide (1=i)):=by
 show (eqV _ _ || (eqV _ _ || false))=_
 rw [eqI,eqI,Bool.or_false]
theorem in2 (x y z:Str):inV (V.str x) [V.str y,V.str z]=(decide (V.str y=V.str x) || decide (V.str z=V.str x)):=by
 show (eqV _ _ || (eqV _ _ || false))=_
 rw [strE,strE,Bool.or_false]
theorem cut_tail {i:Int} {st:List Int}:cutV ((i :: st).map V.int) (some 1) none=st.map V.int:=by
 unfold cutV
 have e:HT.sIx ((i :: st).map V.int).length 0 (some 1)=1:=by
  rw [show (1:Int)=((1:Nat):Int) from rfl,HT.sIx_nat]
  show min 1 ((st.map V.int).length+1)=1
  lia
 have e2:HT.sIx ((i :: st).map V.int).length ((i :: st).map V.int).length none=(st.map V.int).length+1:=rfl
 rw [e,e2,Nat.add_sub_cancel]
 show List.take _ (st.map V.int)=_
 exact List.take_length
theorem cut2 {x y:V} {r:List V} (h:r=[]∨∃ v w,r=[v,w]):cutV (x :: y :: r) none (some 2)=[x,y]:=by
 rcases h with rfl | ⟨v,w,rfl⟩ <;> rfl
def hdW:Tr→Str
 | .whole _=>"whole"
 | .cut u _ _ _=>wd u
def hdN:Tr→V
 | .whole m=>markV m
 | .cut _ k _ _=>.int k
theorem Ze7 {H:Hp} {t:Tr} {v:V} (h:Told H t v):∃ a r,v=.ref a∧H a=some (.tup (.str (hdW t) :: hdN t :: r))∧(r=[]∨∃ x y,r=[x,y]):=by
 cases t with
 | whole m=>rw [Told] at h; obtain ⟨a,rfl,h⟩:=h; exact ⟨a,[],rfl,h,.inl rfl⟩
 | cut u k x y=>rw [Told] at h; obtain ⟨a,vx,vy,rfl,h,_⟩:=h; exact ⟨a,[vx,vy],rfl,h,.inr ⟨_,_,rfl⟩⟩
def hdD (t:Tr):D:=.tup (.cons (.at (.str (hdW t))) (.cons (.at (hdN t)) .nil))
theorem hdD_is {K:PySem.W.Frag} {H:Hp} {t:Tr} {a:Addr} (h:H a=some (.tup [.str (hdW t),hdN t])):DIs K H (hdD t) (.ref a):=by
 have fl:flatV (hdN t)=true:=by
  cases t with
  | whole m=>exact Zd0 m
  | cut _ _ _ _=>rfl
 rw [hdD,DIs]
 refine ⟨a,_,rfl,SqT.of h,?_⟩
 rw [DIss]
 refine ⟨_,_,rfl,by rw [DIs]; exact ⟨rfl,rfl⟩,?_⟩
 rw [DIss]
 exact ⟨_,_,rfl,by rw [DIs]; exact ⟨rfl,fl⟩,by rw [DIss]⟩
theorem hdD_dep (t:Tr):dep (hdD t)≤50:=by rw [hdD,dep,deps,deps,deps,dep,dep]; lia
theorem hdD_eq {v:Bool} {j:Int} {a b:Tr}:∀ {s:Tr},deq (hdD (.cut v j a b)) (hdD s)=match s with
  | .whole _=>false
  | .cut v' j' _ _=>decide (v=v'∧j=j')
 | .whole m=>by
  rw [hdD,hdD,deq,deqs,deq]
  show (eqV (.str (wd v)) (.str "whole") && _)=false
  rw [strE,Zcl,Bool.false_and]
 | .cut v' j' c d=>by
  rw [hdD,hdD,deq,deqs,deqs,deqs,deq,deq]
  show (eqV (.str (wd v)) (.str (wd v')) && (eqV (.int j) (.int j') && true))=decide (v=v'∧j=j')
  rw [strE,Zcr,eqI,Bool.and_true,Bool.decide_and]
  cases v <;> cases v' <;> rfl
theorem not_in {u:Bool} {t:Tr}:(!inV (V.str (hdW t)) [V.str "whole",V.str (wd u)])=match t with
  | .whole _=>false
  | .cut v _ _ _=>!(v == u):=by
 rw [in2]
 cases t with
 | whole m =>
  show (!(decide (V.str "whole"=V.str "whole") || _))=false
  rw [decide_eq_true rfl]; rfl
 | cut v k x y =>
  show (!(decide (V.str "whole"=V.str (wd v)) || decide (V.str (wd u)=V.str (wd v))))=!(v == u)
  cases v <;> cases u <;> decide +kernel
abbrev Zig:List Str:=["_law_told_here","_law_steps_here","_law_word","_law_part","_law_kind","_law_at","_law_one","_law_two"]
theorem Zf4:Zap Zig ["_law_told_here","_law_steps_here","_law_word"] (Zad Za0):=⟨rfl,rfl,rfl,by decide +kernel,rfl,by decide +kernel,by decide +kernel⟩
theorem Zi4 {f:Addr} {fd:FuncData} {n:Nat} (F:Fun K "_law_moved" "_law_moved" Za0 f fd) (T:Txt mg tk) (D__law_moved:DefOk P w K mg base (n+3) "_law_moved" ["_law_told_here","_law_steps_here","_law_word"] (Zdu n)):FnOk P w K mg base CX0 (n+4) f fd ["_law_told_here","_law_steps_here","_law_word"] (Zdu (n+1)):=by
 have S:=Zf4
 refine F.ok S (fun vs H Q E h=>?_) (fun cdv A outer s H vs Q E hr h=>?_)
 ·obtain ⟨v,t,st,sa,wo,rfl,_⟩:=h; rfl
 ·obtain ⟨v,t,st,sa,wo,rfl,ht,hs,hd,hd1,hl,q⟩:=h
  have sEq:∀ z:Str,(V.str wo=V.str z)↔wo=z:=fun z=>⟨fun e=>V.str.inj e,fun e=>by rw [e]⟩
  obtain ⟨t5,h5,k5⟩:∃ rd,PSs (cxOf CX0 P w K mg base Zig "_law_moved" (Zad Za0) f cdv A outer s H E).nox ((Zaj Za0).drop 5) rd∧∀ (x0 x1 x3:Option V) (u:Bool) (k:Int) (v1 v2:V) (y1 y2:Tr),Told H y1 v1→Told H y2 v2→(∀ v' H',Same H H'→TldO H' (if wo="cross" then crossT u k y1 y2 else none) v'→Q v' H') →
    rd { nx:=fun _ H'=>Q .non H',rt:=Q } [x0,x1,some (.str wo),x3,some (.str (wd u)),some (.int k),some v1,some v2] H:=by
   refine ⟨_,(Zab (Za9 (PW.pt (Zdn (Zai Zcf (pv 2) Zax (nomark _)) (Zdn (Zai Zis (Zav Zar (pv 6) Zae (fun _ _=>rfl)) (Zaw (Zaa Zax (Zaa (pv 4) Zac))) rfl) (Zdc (Zai (op_eqD hr) (Zdx Zj8 (pv 6) Zkb (Zdq Zae)) (Zdx Zj8 (pv 7) Zkb (Zdq Zae)) (nomark _)))))) (Zaf (Zal (Zaw (Zaa (Zav Zar (pv 6) Zae (fun _ _=>rfl)) (Zaa (Zav Zar (pv 6) Zae (fun _ _=>rfl)) (Zaa (Zaw (Zaa (pv 4) (Zaa (pv 5) (Zaa (Zav Zar (pv 6) Zae (fun _ _=>rfl)) (Zaa (Zav Zar (pv 7) Zae (fun _ _=>rfl)) Zac))))) (Zaa (Zaw (Zaa (pv 4) (Zaa (pv 5) (Zaa (Zav Zar (pv 6) Zae (fun _ _=>rfl)) (Zaa (Zav Zar (pv 7) Zae (fun _ _=>rfl)) Zac))))) Zac))))))) Zan)
   (Zaf (Zal Zbs))),?_⟩
   intro x0 x1 x3 u k v1 v2 y1 y2 t1 t2 q
   obtain ⟨a1,r1,rfl,e1,z1⟩:=Ze7 t1
   obtain ⟨a2,r2,rfl,e2,z2⟩:=Ze7 t2
   refine ⟨_,rfl,rfl,_,rfl,ite3 (fun c=>?_) (fun c=>?_)⟩
   ·rw [if_pos ((sEq _).mp (of_decide_eq_true c))] at q
    refine ⟨_,rfl,a1,_,_,_,rfl,rfl,SqT.of e1,Zia,_,rfl,lenOk 2,fun p hp=>?_⟩
    have s1:Same H (upd H p (.tup [.str "whole",.str (wd u)])):=Same.new hp
    have e3:(upd H p (.tup [.str "whole",.str (wd u)])) p=some (.tup [.str "whole",.str (wd u)]):=upd_same
    generalize upd H p (.tup [.str "whole",.str (wd u)])=H1 at s1 e3 ⊢
    refine ⟨p,_,rfl,.inr (SqT.of e3),rfl,rfl,_,rfl,?_⟩
    have nn:∀ H',Same H H'→crossT u k y1 y2=none→Q .non H':=fun H' s' e=>q .non H' s' (by rw [e]; rfl)
    cases y1 with
    | whole m=>exact iteN (by rw [if_pos rfl]; exact not_in (t:=.whole m)) (nn H1 s1 (by cases y2 <;> rfl))
    | cut v j ya yb =>
     by_cases ev:v=u
     ·subst ev
      refine iteN (by rw [if_pos rfl]; exact (not_in (t:=.cut v j ya yb)).trans (by cases v <;> rfl)) (nn H1 s1 ?_)
      cases y2
      ·rfl
      ·rw [crossT,if_pos rfl]
     ·refine iteP (by rw [if_pos rfl]; exact (not_in (t:=.cut v j ya yb)).trans (by show (!(v == u))=true; rw [beq_false_of_ne ev]; rfl)) ?_
      refine ⟨_,rfl,_,rfl,a1,_,rfl,s1 _ _ e1,fun sA H2 s2 eA=>?_⟩
      rw [cut2 z1] at eA
      refine ⟨_,rfl,_,rfl,a2,_,rfl,(s1.trans s2) _ _ e2,fun sB H3 s3 eB=>?_⟩
      rw [cut2 z2] at eB
      have s13:=(s1.trans s2).trans s3
      refine ⟨_,_,hdD_is (t:=.cut v j ya yb) (s3 _ _ eA),hdD_is eB,⟨_,rfl⟩,⟨_,rfl⟩,hdD_dep _,_,rfl,?_⟩
      rw [if_neg Bool.false_ne_true]
      have de:=hdD_eq (v:=v) (j:=j) (a:=ya) (b:=yb) (s:=y2)
      cases y2 with
      | whole m'=>exact iteN de (nn H3 s13 rfl)
      | cut v' j' yc yd =>
       by_cases e4:v=v'∧j=j'
       ·refine iteP (de.trans (decide_eq_true e4)) ?_
        obtain ⟨rfl,rfl⟩:=e4
        rw [crossT,if_neg ev,if_pos ⟨rfl,rfl⟩] at q
        rw [Told] at t1 t2
        obtain ⟨b1,va,vb,eb1,hb1,ta,tb⟩:=t1
        cases eb1
        obtain ⟨b2,vc,vd,eb2,hb2,tc,td⟩:=t2
        cases eb2
        have g1:=s13 _ _ hb1
        have g2:=s13 _ _ hb2
        refine ⟨_,rfl,a1,_,_,_,rfl,rfl,SqT.of g1,at0,_,rfl,a1,_,_,_,rfl,rfl,SqT.of g1,at1,_,rfl,_,rfl,_,rfl,a1,_,_,_,rfl,rfl,SqT.of g1,at2,_,rfl,a2,_,_,_,rfl,rfl,SqT.of g2,at2,lenOk 4,fun p5 n5=>?_⟩
        have s5:Same H3 (upd H3 p5 (.tup [.str (wd u),.int k,va,vc])):=Same.new n5
        have e5:(upd H3 p5 (.tup [.str (wd u),.int k,va,vc])) p5=some (.tup [.str (wd u),.int k,va,vc]):=upd_same
        generalize upd H3 p5 (.tup [.str (wd u),.int k,va,vc])=H5 at s5 e5 ⊢
        refine ⟨_,rfl,_,rfl,_,rfl,a1,_,_,_,rfl,rfl,SqT.of (s5 _ _ g1),at3,_,rfl,a2,_,_,_,rfl,rfl,SqT.of (s5 _ _ g2),at3,lenOk 4,fun p6 n6=>?_⟩
        have s6:Same H5 (upd H5 p6 (.tup [.str (wd u),.int k,vb,vd])):=Same.new n6
        have e6:(upd H5 p6 (.tup [.str (wd u),.int k,vb,vd])) p6=some (.tup [.str (wd u),.int k,vb,vd]):=upd_same
        generalize upd H5 p6 (.tup [.str (wd u),.int k,vb,vd])=H6 at s6 e6 ⊢
        refine ⟨lenOk 4,fun p7 n7=>?_⟩
        have s7:Same H6 (upd H6 p7 (.tup [.str (wd v),.int j,.ref p5,.ref p6])):=Same.new n7
        have s17:=((s13.trans s5).trans s6).trans s7
        refine q _ _ s17 ?_
        show Told _ (.cut v j (.cut u k ya yc) (.cut u k yb yd)) _
        rw [Told]
        refine ⟨p7,_,_,rfl,upd_same,?_,?_⟩
        ·rw [Told]; exact ⟨p5,va,vc,rfl,(s6.trans s7) _ _ e5,ta.same s17,tc.same s17⟩
        ·rw [Told]; exact ⟨p6,vb,vd,rfl,s7 _ _ e6,tb.same s17,td.same s17⟩
       ·refine iteN (de.trans (decide_eq_false e4)) (nn H3 s13 ?_)
        rw [crossT,if_neg ev,if_neg e4]
   ·rw [if_neg (fun e=>of_decide_eq_false c ((sEq _).mpr e))] at q
    exact iteF (q .non H (Same.refl H) rfl)
  obtain ⟨t4,h4,k4⟩:∃ rd,PSs (cxOf CX0 P w K mg base Zig "_law_moved" (Zad Za0) f cdv A outer s H E).nox ((Zaj Za0).drop 4) rd∧∀ (x0 x1 x3:Option V) (u:Bool) (k:Int) (v1 v2:V) (y1 y2:Tr),Told H y1 v1→Told H y2 v2→(∀ v' H',Same H H'→TldO H' (if wo="back" then backT u k y1 y2 else if wo="cross" then crossT u k y1 y2 else none) v'→Q v' H') →
    rd { nx:=fun _ H'=>Q .non H',rt:=Q } [x0,x1,some (.str wo),x3,some (.str (wd u)),some (.int k),some v1,some v2] H:=by
   refine ⟨_,(Zab (Za9 (PW.pt (Zdn (Zai Zcf (pv 2) Zax (nomark _)) (Zdc (Zai Zcf (Zav Zar (pv 7) Zae (fun _ _=>rfl)) (pv 4) (nomark _))))) (Zaf (Zal (Zaw (Zaa (pv 4) (Zaa (Zbb Zb4 (pv 5) (Zav Zar (pv 7) Zae (fun _ _=>rfl))) (Zaa (Zaw (Zaa (pv 4) (Zaa (pv 5) (Zaa (pv 6) (Zaa (Zav Zar (pv 7) Zae (fun _ _=>rfl)) Zac))))) (Zaa (Zav Zar (pv 7) Zae (fun _ _=>rfl)) Zac))))))) Zan)
   h5),?_⟩
   intro x0 x1 x3 u k v1 v2 y1 y2 t1 t2 q
   have hcb:¬ (("back":Str)="cross"):=by decide +kernel
   refine ⟨_,rfl,rfl,_,rfl,ite3 (fun c=>?_) (fun c=>?_)⟩
   ·have c:=(sEq _).mp (of_decide_eq_true c)
    subst c
    rw [if_pos rfl] at q
    have nn:backT u k y1 y2=none→(∀ v' H',Same H H'→TldO H' (if ("back":Str)="cross" then crossT u k y1 y2 else none) v'→Q v' H'):=fun e v' H' s' z=>q v' H' s' (by rw [e]; rw [if_neg hcb] at z; exact z)
    obtain ⟨a2,r2,rfl,e2,z2⟩:=Ze7 t2
    refine ⟨_,rfl,a2,_,_,_,rfl,rfl,SqT.of e2,Zia,_,rfl,rfl,_,rfl,?_⟩
    cases y2 with
    | whole m=>exact iteN (by show decide (V.str "whole"=V.str (wd u))=false; cases u <;> decide +kernel) (k5 x0 x1 x3 u k v1 _ y1 _ t1 t2 (nn rfl))
    | cut v j ya yb =>
     by_cases ev:v=u
     ·subst ev
      refine iteP (decide_eq_true rfl) ?_
      rw [backT,if_pos rfl] at q
      rw [Told] at t2
      obtain ⟨b2,va,vb,eb2,hb2,ta,tb⟩:=t2
      cases eb2
      refine ⟨_,rfl,_,rfl,_,rfl,a2,_,_,_,rfl,rfl,SqT.of hb2,at1,_,_,rfl,rfl,_,rfl,_,rfl,_,rfl,_,rfl,a2,_,_,_,rfl,rfl,SqT.of hb2,at2,lenOk 4,fun p5 n5=>?_⟩
      have s5:Same H (upd H p5 (.tup [.str (wd v),.int k,v1,va])):=Same.new n5
      have e5:(upd H p5 (.tup [.str (wd v),.int k,v1,va])) p5=some (.tup [.str (wd v),.int k,v1,va]):=upd_same
      generalize upd H p5 (.tup [.str (wd v),.int k,v1,va])=H5 at s5 e5 ⊢
      refine ⟨_,rfl,a2,_,_,_,rfl,rfl,SqT.of (s5 _ _ hb2),at3,lenOk 4,fun p7 n7=>?_⟩
      have s7:Same H5 (upd H5 p7 (.tup [.str (wd v),.int (k+j),.ref p5,vb])):=Same.new n7
      have s17:=s5.trans s7
      refine q _ _ s17 ?_
      show Told _ (.cut v (k+j) (.cut v k y1 ya) yb) _
      rw [Told]
      refine ⟨p7,_,_,rfl,upd_same,?_,tb.same s17⟩
      rw [Told]; exact ⟨p5,v1,va,rfl,s7 _ _ e5,t1.same s17,ta.same s17⟩
     ·refine iteN (by show decide (V.str (wd v)=V.str (wd u))=false; rw [Zcr,beq_false_of_ne ev]) (k5 x0 x1 x3 u k v1 _ y1 _ t1 t2 (nn ?_))
      rw [backT,if_neg ev]
   ·rw [if_neg (fun e=>of_decide_eq_false c ((sEq _).mpr e))] at q
    exact iteF (k5 x0 x1 x3 u k v1 v2 y1 y2 t1 t2 q)
  obtain ⟨t3,h3,k3⟩:∃ rd,PSs (cxOf CX0 P w K mg base Zig "_law_moved" (Zad Za0) f cdv A outer s H E).nox ((Zaj Za0).drop 3) rd∧∀ (x0 x1 x3:Option V) (u:Bool) (k:Int) (v1 v2:V) (y1 y2:Tr),Told H y1 v1→Told H y2 v2→(∀ v' H',Same H H'→TldO H' (atop u k y1 y2 wo) v'→Q v' H') →
    rd { nx:=fun _ H'=>Q .non H',rt:=Q } [x0,x1,some (.str wo),x3,some (.str (wd u)),some (.int k),some v1,some v2] H:=by
   refine ⟨_,(Zab (Za9 (PW.pt (Zdn (Zai Zcf (pv 2) Zax (nomark _)) (Zdc (Zai Zcf (Zav Zar (pv 6) Zae (fun _ _=>rfl)) (pv 4) (nomark _))))) (Zaf (Zal (Zaw (Zaa (pv 4) (Zaa (Zav Zar (pv 6) Zae (fun _ _=>rfl)) (Zaa (Zav Zar (pv 6) Zae (fun _ _=>rfl)) (Zaa (Zaw (Zaa (pv 4) (Zaa (Zbb Zfj (pv 5) (Zav Zar (pv 6) Zae (fun _ _=>rfl))) (Zaa (Zav Zar (pv 6) Zae (fun _ _=>rfl)) (Zaa (pv 7) Zac))))) Zac))))))) Zan)
   h4),?_⟩
   intro x0 x1 x3 u k v1 v2 y1 y2 t1 t2 q
   rw [atop] at q
   have hcb:¬ (("lean":Str)="back"):=by decide +kernel
   have hcc:¬ (("lean":Str)="cross"):=by decide +kernel
   refine ⟨_,rfl,rfl,_,rfl,ite3 (fun c=>?_) (fun c=>?_)⟩
   ·have c:=(sEq _).mp (of_decide_eq_true c)
    subst c
    rw [if_pos rfl] at q
    have nn:leanT u k y1 y2=none→(∀ v' H',Same H H'→TldO H' (if ("lean":Str)="back" then backT u k y1 y2 else if ("lean":Str)="cross" then crossT u k y1 y2 else none) v'→Q v' H'):=fun e v' H' s' z=>q v' H' s' (by rw [e]; rw [if_neg hcb,if_neg hcc] at z; exact z)
    obtain ⟨a1,r1,rfl,e1,z1⟩:=Ze7 t1
    refine ⟨_,rfl,a1,_,_,_,rfl,rfl,SqT.of e1,Zia,_,rfl,rfl,_,rfl,?_⟩
    cases y1 with
    | whole m=>exact iteN (by show decide (V.str "whole"=V.str (wd u))=false; cases u <;> decide +kernel) (k4 x0 x1 x3 u k _ v2 _ y2 t1 t2 (nn rfl))
    | cut v j ya yb =>
     by_cases ev:v=u
     ·subst ev
      refine iteP (decide_eq_true rfl) ?_
      rw [leanT,if_pos rfl] at q
      rw [Told] at t1
      obtain ⟨b1,va,vb,eb1,hb1,ta,tb⟩:=t1
      cases eb1
      refine ⟨_,rfl,_,rfl,a1,_,_,_,rfl,rfl,SqT.of hb1,at1,_,rfl,a1,_,_,_,rfl,rfl,SqT.of hb1,at2,_,rfl,_,rfl,_,rfl,a1,_,_,_,rfl,rfl,SqT.of hb1,at1,_,_,rfl,rfl,_,rfl,a1,_,_,_,rfl,rfl,SqT.of hb1,at3,_,rfl,lenOk 4,fun p5 n5=>?_⟩
      have s5:Same H (upd H p5 (.tup [.str (wd v),.int (k - j),vb,v2])):=Same.new n5
      have e5:(upd H p5 (.tup [.str (wd v),.int (k - j),vb,v2])) p5=some (.tup [.str (wd v),.int (k - j),vb,v2]):=upd_same
      generalize upd H p5 (.tup [.str (wd v),.int (k - j),vb,v2])=H5 at s5 e5 ⊢
      refine ⟨lenOk 4,fun p7 n7=>?_⟩
      have s7:Same H5 (upd H5 p7 (.tup [.str (wd v),.int j,va,.ref p5])):=Same.new n7
      have s17:=s5.trans s7
      refine q _ _ s17 ?_
      show Told _ (.cut v j ya (.cut v (k - j) yb y2)) _
      rw [Told]
      refine ⟨p7,_,_,rfl,upd_same,ta.same s17,?_⟩
      rw [Told]; exact ⟨p5,vb,v2,rfl,s7 _ _ e5,tb.same s17,t2.same s17⟩
     ·refine iteN (by show decide (V.str (wd v)=V.str (wd u))=false; rw [Zcr,beq_false_of_ne ev]) (k4 x0 x1 x3 u k _ v2 _ y2 t1 t2 (nn ?_))
      rw [leanT,if_neg ev]
   ·rw [if_neg (fun e=>of_decide_eq_false c ((sEq _).mpr e))] at q
    exact iteF (k4 x0 x1 x3 u k v1 v2 y1 y2 t1 t2 q)
  refine ⟨_,(Zab (Za9 (Zai Zcf (Zav Zar (pv 0) Zae (fun _ _=>rfl)) Zax (nomark _)) (Zaf (Zal Zbs)) Zan)
   (Zab (Za9 (Zai op_gt (Zay Zc0 rfl T.z_len rfl (Zaa (pv 1) Zac)) Zae (nomark _)) (Zab (Zam (i:=3) S.nd rfl (Or.inl rfl) Zbs)
   (Zab (Za9 (Zai Ziw (Zav Zar (pv 1) Zae (fun _ _=>rfl)) (Zaw (Zaa Zae (Zaa Zae Zac))) rfl) (Zaf (Zam (i:=3) S.nd rfl (Or.inl rfl) (Zaq D__law_moved hr (Zaa (Zav Zar (pv 0) (Zbb Zb4 Zae (Zav Zar (pv 1) Zae (fun _ _=>rfl))) (fun _ _=>rfl)) (Zaa (Zdx Zj8 (pv 1) (Zdq Zae) Zkb) (Zaa (pv 2) Zac))) (by lia)))) Zan)
   (Zab (Za9 (Zai Ziv (pv 3) Zbs (nomark _)) (Zaf (Zal Zbs)) Zan)
   (Zab (Za9 (Zai Zcf (Zav Zar (pv 1) Zae (fun _ _=>rfl)) Zae (nomark _)) (Zaf (Zal (Zaw (Zaa (Zav Zar (pv 0) Zae (fun _ _=>rfl)) (Zaa (Zav Zar (pv 0) Zae (fun _ _=>rfl)) (Zaa (pv 3) (Zaa (Zav Zar (pv 0) Zae (fun _ _=>rfl)) Zac))))))) Zan)
   (Zaf (Zal (Zaw (Zaa (Zav Zar (pv 0) Zae (fun _ _=>rfl)) (Zaa (Zav Zar (pv 0) Zae (fun _ _=>rfl)) (Zaa (Zav Zar (pv 0) Zae (fun _ _=>rfl)) (Zaa (pv 3) Zac))))))))))) Zan)
   (Zab (Zgn (pv 0) (Zdw rfl (Zas (Zau (i:=4) S.nd rfl (Or.inl rfl)) (Zas (Zau (i:=5) S.nd rfl (Or.inl rfl)) (Zas (Zau (i:=6) S.nd rfl (Or.inl rfl)) (Zas (Zau (i:=7) S.nd rfl (Or.inl rfl)) Zcu))))))
   h3))),?_⟩
  cases t with
  | whole m =>
   rw [Told] at ht
   obtain ⟨a,rfl,ha⟩:=ht
   exact ⟨_,rfl,a,_,_,_,rfl,rfl,SqT.of ha,at2_0,rfl,_,rfl,iteP (decide_eq_true rfl) (q .non H (Same.refl H) rfl)⟩
  | cut u k y1 y2 =>
   rw [Told] at ht
   obtain ⟨a,v1,v2,rfl,ha,t1,t2⟩:=ht
   have hd:max y1.dp y2.dp+1 < n+1:=hd
   have hd1:max y1.dp y2.dp+1≤100:=hd1
   refine ⟨_,rfl,a,_,_,_,rfl,rfl,SqT.of ha,at0,rfl,_,rfl,iteN (Zcl u) ?_⟩
   cases st with
   | nil =>
    refine ⟨_,rfl,sa,_,rfl,.inr (SqT.of hs),_,_,rfl,rfl,_,rfl,iteN rfl ?_⟩
    refine ⟨_,rfl,a,_,rfl,SqT.of ha,rfl,_,_,rfl,_,_,rfl,_,_,rfl,_,_,rfl,rfl,?_⟩
    exact k3 _ _ _ u k v1 v2 y1 y2 t1 t2 q
   | cons i st =>
    have hl:st.length+1≤200:=hl
    refine ⟨_,rfl,sa,_,rfl,.inr (SqT.of hs),_,_,rfl,rfl,_,rfl,iteP (decide_eq_true (by show (0:Int) < ((st.map V.int).length+1:Nat); lia)) ?_⟩
    refine ⟨_,rfl,sa,_,_,_,rfl,rfl,SqT.of hs,Zia,lenOk 2,fun p hp=>?_⟩
    have s1:Same H (upd H p (.tup [.int 0,.int 1])):=Same.new hp
    have e1:(upd H p (.tup [.int 0,.int 1])) p=some (.tup [.int 0,.int 1]):=upd_same
    generalize upd H p (.tup [.int 0,.int 1])=H1 at s1 e1 ⊢
    refine ⟨p,_,rfl,.inr (SqT.of e1),rfl,rfl,_,rfl,?_⟩
    rw [if_neg Bool.false_ne_true,in01]
    have ha1:=s1 _ _ ha
    have hs1:=s1 _ _ hs
    rw [mvd] at q
    by_cases i0:i=0
    ·subst i0
     rw [if_pos rfl] at q
     refine iteP rfl ?_
     refine ⟨_,rfl,_,rfl,sa,_,_,_,rfl,rfl,SqT.of hs1,Zia,_,_,rfl,rfl,a,_,_,_,rfl,rfl,SqT.of ha1,rfl,_,rfl,_,rfl,sa,_,rfl,hs1,fun sb H2 s2 e2=>?_⟩
     rw [cut_tail] at e2
     have s12:=s1.trans s2
     refine ⟨_,rfl,v1,y1,st,sb,wo,rfl,t1.same s12,e2,by lia,by lia,by lia,fun v' H3 s3 z3=>?_⟩
     have s13:=s12.trans s3
     cases em:mvd y1 st wo with
     | none =>
      rw [em] at q z3
      have z3:v'=.non:=z3
      subst z3
      exact ⟨_,rfl,rfl,_,rfl,iteP (decide_eq_true rfl) (q .non H3 s13 rfl)⟩
     | some r =>
      rw [em] at q z3
      have z3:Told H3 r v':=z3
      refine ⟨_,rfl,rfl,_,rfl,iteN (Zdb z3) ?_⟩
      have ha3:=s13 _ _ ha
      refine ⟨_,rfl,sa,_,_,_,rfl,rfl,SqT.of (s13 _ _ hs),Zia,rfl,_,rfl,iteP (decide_eq_true rfl) ?_⟩
      refine ⟨_,rfl,a,_,_,_,rfl,rfl,SqT.of ha3,at0,_,rfl,a,_,_,_,rfl,rfl,SqT.of ha3,at1,_,rfl,_,rfl,a,_,_,_,rfl,rfl,SqT.of ha3,at3,lenOk 4,fun p7 n7=>?_⟩
      have s7:Same H3 (upd H3 p7 (.tup [.str (wd u),.int k,v',v2])):=Same.new n7
      refine q _ _ (s13.trans s7) ?_
      show Told _ (.cut u k r y2) _
      rw [Told]; exact ⟨p7,_,_,rfl,upd_same,z3.same s7,t2.same (s13.trans s7)⟩
    ·rw [if_neg i0] at q
     by_cases i1:i=1
     ·subst i1
      rw [if_pos rfl] at q
      refine iteP rfl ?_
      refine ⟨_,rfl,_,rfl,sa,_,_,_,rfl,rfl,SqT.of hs1,Zia,_,_,rfl,rfl,a,_,_,_,rfl,rfl,SqT.of ha1,rfl,_,rfl,_,rfl,sa,_,rfl,hs1,fun sb H2 s2 e2=>?_⟩
      rw [cut_tail] at e2
      have s12:=s1.trans s2
      refine ⟨_,rfl,v2,y2,st,sb,wo,rfl,t2.same s12,e2,by lia,by lia,by lia,fun v' H3 s3 z3=>?_⟩
      have s13:=s12.trans s3
      cases em:mvd y2 st wo with
      | none =>
       rw [em] at q z3
       have z3:v'=.non:=z3
       subst z3
       exact ⟨_,rfl,rfl,_,rfl,iteP (decide_eq_true rfl) (q .non H3 s13 rfl)⟩
      | some r =>
       rw [em] at q z3
       have z3:Told H3 r v':=z3
       refine ⟨_,rfl,rfl,_,rfl,iteN (Zdb z3) ?_⟩
       have ha3:=s13 _ _ ha
       refine ⟨_,rfl,sa,_,_,_,rfl,rfl,SqT.of (s13 _ _ hs),Zia,rfl,_,rfl,iteN (by decide) ?_⟩
       refine ⟨_,rfl,a,_,_,_,rfl,rfl,SqT.of ha3,at0,_,rfl,a,_,_,_,rfl,rfl,SqT.of ha3,at1,_,rfl,a,_,_,_,rfl,rfl,SqT.of ha3,at2,_,rfl,lenOk 4,fun p7 n7=>?_⟩
       have s7:Same H3 (upd H3 p7 (.tup [.str (wd u),.int k,v1,v'])):=Same.new n7
       refine q _ _ (s13.trans s7) ?_
       show Told _ (.cut u k y1 r) _
       rw [Told]; exact ⟨p7,_,_,rfl,upd_same,t1.same (s13.trans s7),z3.same s7⟩
     ·rw [if_neg i1] at q
      refine iteN (by rw [decide_eq_false (Ne.symm i0),decide_eq_false (Ne.symm i1)]; rfl) ?_
      exact ⟨_,rfl,rfl,_,rfl,iteP (decide_eq_true rfl) (q .non H1 s1 rfl)⟩
def ObjO (cW cU cL:Addr) (H:Hp) (o:Option Tr) (v:V):Prop:=match o with
 | none=>v=.non
 | some t=>Obj cW cU cL H t v
theorem wh_wd (u:Bool):decide (V.str "whole"=V.str (wd u))=false:=decide_eq_false fun z=>by have:=Zcl u; rw [decide_eq_true z.symm] at this; cases this
def Zj3 (cW cU cL:Addr):Sp:=fun vs H Q _=>∃ (v:V) (u:Bool) (k:Int) (x y:Tr),vs=[v]∧Obj cW cU cL H (.cut u k x y) v∧∀ v' H',Same H H'→ObjO cW cU cL H' (leanT u k x y) v'→Q v' H'
theorem S_leaned:Zap ["cut","kind","below"] ["cut"] (Zad Zdm):=⟨rfl,rfl,rfl,by decide +kernel,rfl,by decide +kernel,by decide +kernel⟩
theorem ok_leaned {f:Addr} {fd:FuncData} (F:Fun K "leaned" "leaned" Zdm f fd) (R:RT mg K cT cW cU cL) (D_kind_of:DefOk P w K mg base 1 "kind_of" ["tree"] (Zcs cW cU cL)) (D_cut_from:DefOk P w K mg base 3 "cut_from" ["word","at","first","other"] (Zb6 cW cU cL)):FnOk P w K mg base CX0 4 f fd ["cut"] (Zj3 cW cU cL):=by
 have S:=S_leaned
 refine F.ok S (fun vs H Q E h=>?_) (fun cdv A outer s H vs Q E hr h=>?_)
 ·obtain ⟨v,u,k,x,y,rfl,_⟩:=h; rfl
 ·obtain ⟨v,u,k,x,y,rfl,ho,q⟩:=h
  refine ⟨_,(Zab (Zam (i:=1) S.nd rfl (Or.inl rfl) (Zaq D_kind_of hr (Zaa (pv 0) Zac)))
   (Zab (Zam (i:=2) S.nd rfl (Or.inl rfl) (Zaz (pv 0) rfl))
   (Zab (Za9 (Zai Zit (Zaq D_kind_of hr (Zaa (pv 2) Zac)) (pv 1) (nomark _)) (Zaf (Zal Zbs)) Zan)
   (Zaf (Zal (Zaq D_cut_from hr (Zaa (pv 1) (Zaa (Zaz (pv 2) rfl) (Zaa (Zaz (pv 2) rfl) (Zaa (Zaq D_cut_from hr (Zaa (pv 1) (Zaa (Zbb Zfj (Zaz (pv 0) rfl) (Zaz (pv 2) rfl)) (Zaa (Zaz (pv 2) rfl) (Zaa (Zaz (pv 0) rfl) Zac))))) Zac)))))))))),?_⟩
  refine ⟨_,rfl,v,_,rfl,ho,?_⟩
  rw [Obj] at ho
  obtain ⟨c,dx,w1,w2,rfl,hx,o1,o2⟩:=ho
  refine ⟨_,rfl,c,_,dx,_,_,rfl,hx,(R.iC u).cl,R.n_first u,Zbw _ _ _,?_⟩
  refine ⟨_,rfl,w1,x,rfl,o1,_,rfl,?_⟩
  cases x with
  | whole m=>exact ⟨rfl,_,rfl,iteP (by show (!decide (V.str "whole"=V.str (wd u)))=true; rw [wh_wd]; rfl) (q .non H (Same.refl H) rfl)⟩
  | cut v' j xa xb =>
   refine ⟨rfl,_,rfl,?_⟩
   by_cases e:v'=u
   ·subst e
    refine iteN (by show (!decide (V.str (wd v')=V.str (wd v')))=false; rw [decide_eq_true rfl]; rfl) ?_
    rw [Obj] at o1
    obtain ⟨c1,dx1,z1,z2,rfl,hx1,o3,o4⟩:=o1
    refine ⟨_,rfl,_,rfl,c1,_,dx1,_,_,rfl,hx1,(R.iC v').cl,R.n_at v',Zdf _ _ _,_,rfl,c1,_,dx1,_,_,rfl,hx1,(R.iC v').cl,R.n_first v',Zbw _ _ _,?_⟩
    refine ⟨_,rfl,_,rfl,c,_,dx,_,_,rfl,hx,(R.iC v').cl,R.n_at v',Zdf _ _ _,_,rfl,c1,_,dx1,_,_,rfl,hx1,(R.iC v').cl,R.n_at v',Zdf _ _ _,_,_,rfl,rfl,_,rfl,c1,_,dx1,_,_,rfl,hx1,(R.iC v').cl,R.n_other v',Zbv _ _ _,_,rfl,c,_,dx,_,_,rfl,hx,(R.iC v').cl,R.n_other v',Zbv _ _ _,v',k - j,z2,w2,xb,y,rfl,o4,o2,fun v1 H1 s1 b1=>?_⟩
    exact ⟨v',j,z1,v1,xa,_,rfl,o3.same s1,b1,fun v2 H2 s2 b2=>q v2 H2 (s1.trans s2) (by rw [leanT,if_pos rfl]; exact b2)⟩
   ·exact iteP (by show (!decide (V.str (wd v')=V.str (wd u)))=true; rw [Zcr,beq_false_of_ne e]; rfl) (q .non H (Same.refl H) (by rw [leanT,if_neg e]; rfl))
def Zj7 (cW cU cL:Addr):Sp:=fun vs H Q _=>∃ (v:V) (u:Bool) (k:Int) (x y:Tr),vs=[v]∧Obj cW cU cL H (.cut u k x y) v∧∀ v' H',Same H H'→ObjO cW cU cL H' (backT u k x y) v'→Q v' H'
theorem Zid:Zap ["cut","kind","below"] ["cut"] (Zad Zbm):=⟨rfl,rfl,rfl,by decide +kernel,rfl,by decide +kernel,by decide +kernel⟩
theorem Zga {f:Addr} {fd:FuncData} (F:Fun K "leaned_back" "leaned_back" Zbm f fd) (R:RT mg K cT cW cU cL) (D_kind_of:DefOk P w K mg base 1 "kind_of" ["tree"] (Zcs cW cU cL)) (D_cut_from:DefOk P w K mg base 3 "cut_from" ["word","at","first","other"] (Zb6 cW cU cL)):FnOk P w K mg base CX0 4 f fd ["cut"] (Zj7 cW cU cL):=by
 have S:=Zid
 refine F.ok S (fun vs H Q E h=>?_) (fun cdv A outer s H vs Q E hr h=>?_)
 ·obtain ⟨v,u,k,x,y,rfl,_⟩:=h; rfl
 ·obtain ⟨v,u,k,x,y,rfl,ho,q⟩:=h
  refine ⟨_,(Zab (Zam (i:=1) S.nd rfl (Or.inl rfl) (Zaq D_kind_of hr (Zaa (pv 0) Zac)))
   (Zab (Zam (i:=2) S.nd rfl (Or.inl rfl) (Zaz (pv 0) rfl))
   (Zab (Za9 (Zai Zit (Zaq D_kind_of hr (Zaa (pv 2) Zac)) (pv 1) (nomark _)) (Zaf (Zal Zbs)) Zan)
   (Zaf (Zal (Zaq D_cut_from hr (Zaa (pv 1) (Zaa (Zbb Zb4 (Zaz (pv 0) rfl) (Zaz (pv 2) rfl)) (Zaa (Zaq D_cut_from hr (Zaa (pv 1) (Zaa (Zaz (pv 0) rfl) (Zaa (Zaz (pv 0) rfl) (Zaa (Zaz (pv 2) rfl) Zac))))) (Zaa (Zaz (pv 2) rfl) Zac)))))))))),?_⟩
  refine ⟨_,rfl,v,_,rfl,ho,?_⟩
  rw [Obj] at ho
  obtain ⟨c,dx,w1,w2,rfl,hx,o1,o2⟩:=ho
  refine ⟨_,rfl,c,_,dx,_,_,rfl,hx,(R.iC u).cl,R.n_other u,Zbv _ _ _,?_⟩
  refine ⟨_,rfl,w2,y,rfl,o2,_,rfl,?_⟩
  cases y with
  | whole m=>exact ⟨rfl,_,rfl,iteP (by show (!decide (V.str "whole"=V.str (wd u)))=true; rw [wh_wd]; rfl) (q .non H (Same.refl H) rfl)⟩
  | cut v' j ya yb =>
   refine ⟨rfl,_,rfl,?_⟩
   by_cases e:v'=u
   ·subst e
    refine iteN (by show (!decide (V.str (wd v')=V.str (wd v')))=false; rw [decide_eq_true rfl]; rfl) ?_
    rw [Obj] at o2
    obtain ⟨c1,dx1,z1,z2,rfl,hx1,o3,o4⟩:=o2
    refine ⟨_,rfl,_,rfl,c,_,dx,_,_,rfl,hx,(R.iC v').cl,R.n_at v',Zdf _ _ _,_,rfl,c1,_,dx1,_,_,rfl,hx1,(R.iC v').cl,R.n_at v',Zdf _ _ _,_,_,rfl,rfl,?_⟩
    refine ⟨_,rfl,_,rfl,c,_,dx,_,_,rfl,hx,(R.iC v').cl,R.n_at v',Zdf _ _ _,_,rfl,c,_,dx,_,_,rfl,hx,(R.iC v').cl,R.n_first v',Zbw _ _ _,_,rfl,c1,_,dx1,_,_,rfl,hx1,(R.iC v').cl,R.n_first v',Zbw _ _ _,v',k,w1,z1,x,ya,rfl,o1,o3,fun v1 H1 s1 b1=>?_⟩
    refine ⟨_,rfl,c1,_,dx1,_,_,rfl,s1 _ _ hx1,(R.iC v').cl,R.n_other v',Zbv _ _ _,v',k+j,v1,z2,_,yb,rfl,b1,o4.same s1,fun v2 H2 s2 b2=>q v2 H2 (s1.trans s2) (by rw [backT,if_pos rfl]; exact b2)⟩
   ·exact iteP (by show (!decide (V.str (wd v')=V.str (wd u)))=true; rw [Zcr,beq_false_of_ne e]; rfl) (q .non H (Same.refl H) (by rw [backT,if_neg e]; rfl))
def Zg9:Sp:=fun vs H Q _=>∃ u:Bool,vs=[.str (wd u)]∧Q (.str (wd (!u))) H
theorem Zic:Zap ["word"] ["word"] (Zad Zbl):=⟨rfl,rfl,rfl,by decide +kernel,rfl,by decide +kernel,by decide +kernel⟩
theorem Zf9 {f:Addr} {fd:FuncData} (F:Fun K "turned_word" "turned_word" Zbl f fd) (T:Txt mg tk):FnOk P w K mg base CX0 1 f fd ["word"] Zg9:=by
 have S:=Zic
 refine F.ok S (fun vs H Q E h=>?_) (fun cdv A outer s H vs Q E hr h=>?_)
 ·obtain ⟨u,rfl,_⟩:=h; rfl
 ·obtain ⟨u,rfl,q⟩:=h
  refine ⟨_,(Zab (Za9 (Zai Zcf (pv 0) (Za1 (v:=.str "whole") rfl T.g_WHOLE ⟨_,rfl⟩) (nomark _)) (Zaf (Zal (Za1 (v:=.str "whole") rfl T.g_WHOLE ⟨_,rfl⟩))) Zan)
   (Zaf (Zal (Ze0 (Zai Zcf (pv 0) (Za1 (v:=.str "upright") rfl T.g_UPRIGHT ⟨_,rfl⟩) (nomark _)) (Za1 (v:=.str "level") rfl T.g_LEVEL ⟨_,rfl⟩) (Za1 (v:=.str "upright") rfl T.g_UPRIGHT ⟨_,rfl⟩))))),?_⟩
  refine ⟨_,rfl,rfl,_,rfl,iteN (Zcl u) ?_⟩
  cases u with
  | true=>exact ⟨_,rfl,rfl,_,rfl,iteP (Zcr true true) q⟩
  | false=>exact ⟨_,rfl,rfl,_,rfl,iteN (Zcr false true) q⟩
def Zhc (cW cU cL:Addr):Sp:=fun vs H Q _=>∃ (v:V) (u:Bool) (k:Int) (x y:Tr),vs=[v]∧Obj cW cU cL H (.cut u k x y) v∧∀ v' H',Same H H'→ObjO cW cU cL H' (crossT u k x y) v'→Q v' H'
theorem S_crossed:Zap ["cut","kind","across","one","two","ahead","behind"] ["cut"] (Zad Zc5):=⟨rfl,rfl,rfl,by decide +kernel,rfl,by decide +kernel,by decide +kernel⟩
theorem ok_crossed {f:Addr} {fd:FuncData} (F:Fun K "crossed" "crossed" Zc5 f fd) (R:RT mg K cT cW cU cL) (D_kind_of:DefOk P w K mg base 1 "kind_of" ["tree"] (Zcs cW cU cL)) (D_turned_word:DefOk P w K mg base 1 "turned_word" ["word"] Zg9) (D_cut_from:DefOk P w K mg base 3 "cut_from" ["word","at","first","other"] (Zb6 cW cU cL)):FnOk P w K mg base CX0 4 f fd ["cut"] (Zhc cW cU cL):=by
 have S:=S_crossed
 refine F.ok S (fun vs H Q E h=>?_) (fun cdv A outer s H vs Q E hr h=>?_)
 ·obtain ⟨v,u,k,x,y,rfl,_⟩:=h; rfl
 ·obtain ⟨v,u,k,x,y,rfl,ho,q⟩:=h
  refine ⟨_,(Zab (Zam (i:=1) S.nd rfl (Or.inl rfl) (Zaq D_kind_of hr (Zaa (pv 0) Zac)))
   (Zab (Zam (i:=2) S.nd rfl (Or.inl rfl) (Zaq D_turned_word hr (Zaa (pv 1) Zac)))
   (Zab (Zam (i:=3) S.nd rfl (Or.inl rfl) (Zaz (pv 0) rfl))
   (Zab (Zam (i:=4) S.nd rfl (Or.inl rfl) (Zaz (pv 0) rfl))
   (Zab (Za9 (PW.pt (Zhg (Zai Zit (Zaq D_kind_of hr (Zaa (pv 3) Zac)) (pv 2) (nomark _)) (Zhg (Zai Zit (Zaq D_kind_of hr (Zaa (pv 4) Zac)) (pv 2) (nomark _)) (Zgl (Zai Zit (Zaz (pv 3) rfl) (Zaz (pv 4) rfl) (nomark _)))))) (Zaf (Zal Zbs)) Zan)
   (Zab (Zam (i:=5) S.nd rfl (Or.inl rfl) (Zaq D_cut_from hr (Zaa (pv 1) (Zaa (Zaz (pv 0) rfl) (Zaa (Zaz (pv 3) rfl) (Zaa (Zaz (pv 4) rfl) Zac))))))
   (Zab (Zam (i:=6) S.nd rfl (Or.inl rfl) (Zaq D_cut_from hr (Zaa (pv 1) (Zaa (Zaz (pv 0) rfl) (Zaa (Zaz (pv 3) rfl) (Zaa (Zaz (pv 4) rfl) Zac))))))
   (Zaf (Zal (Zaq D_cut_from hr (Zaa (pv 2) (Zaa (Zaz (pv 3) rfl) (Zaa (pv 5) (Zaa (pv 6) Zac)))))))))))))),?_⟩
  refine ⟨_,rfl,v,_,rfl,ho,?_⟩
  rw [Obj] at ho
  obtain ⟨c,dx,w1,w2,rfl,hx,o1,o2⟩:=ho
  refine ⟨_,rfl,u,rfl,?_⟩
  refine ⟨_,rfl,c,_,dx,_,_,rfl,hx,(R.iC u).cl,R.n_first u,Zbw _ _ _,?_⟩
  refine ⟨_,rfl,c,_,dx,_,_,rfl,hx,(R.iC u).cl,R.n_other u,Zbv _ _ _,?_⟩
  have nn:crossT u k x y=none→Q .non H:=fun e=>q .non H (Same.refl H) (by rw [e]; rfl)
  refine ⟨_,rfl,w1,x,rfl,o1,_,rfl,?_⟩
  cases x with
  | whole m=>exact ⟨rfl,_,rfl,iteP (by show (!decide (V.str "whole"=V.str (wd (!u))))=true; rw [wh_wd]; rfl) (nn (by cases y <;> rfl))⟩
  | cut v' j xa xb =>
   refine ⟨rfl,_,rfl,?_⟩
   by_cases e:v'=u
   ·subst e
    exact iteP (by show (!decide (V.str (wd v')=V.str (wd (!v'))))=true; rw [Zcr]; cases v' <;> rfl) (nn (by cases y; rfl; rw [crossT,if_pos rfl]))
   ·have e':v'=!u:=by cases v' <;> cases u <;> first | rfl | exact absurd rfl e
    refine iteN (by show (!decide (V.str (wd v')=V.str (wd (!u))))=false; rw [e',decide_eq_true rfl]; rfl) ?_
    refine ⟨_,rfl,w2,y,rfl,o2,_,rfl,?_⟩
    cases y with
    | whole m=>exact ⟨rfl,_,rfl,iteP (by show (!decide (V.str "whole"=V.str (wd (!u))))=true; rw [wh_wd]; rfl) (nn rfl)⟩
    | cut v2 j2 ya yb =>
     refine ⟨rfl,_,rfl,?_⟩
     by_cases e2:v2=u
     ·subst e2
      exact iteP (by show (!decide (V.str (wd v2)=V.str (wd (!v2))))=true; rw [Zcr]; cases v2 <;> rfl) (nn (by rw [crossT,if_neg e,if_neg (fun z=>e z.1)]))
     ·have e2':v2=!u:=by cases v2 <;> cases u <;> first | rfl | exact absurd rfl e2
      refine iteN (by show (!decide (V.str (wd v2)=V.str (wd (!u))))=false; rw [e2',decide_eq_true rfl]; rfl) ?_
      rw [Obj] at o1 o2
      obtain ⟨c1,dx1,z1,z2,rfl,hx1,o3,o4⟩:=o1
      obtain ⟨c2,dx2,y1,y2,rfl,hx2,o5,o6⟩:=o2
      refine ⟨_,rfl,c1,_,dx1,_,_,rfl,hx1,(R.iC v').cl,R.n_at v',Zdf _ _ _,_,rfl,c2,_,dx2,_,_,rfl,hx2,(R.iC v2).cl,R.n_at v2,Zdf _ _ _,rfl,_,rfl,ite3 (fun cj=>?_) (fun cj=>?_)⟩
      ·refine nn ?_
       rw [crossT,if_neg e,if_neg]
       rintro ⟨_,z⟩
       rw [z,decide_eq_true rfl] at cj
       cases cj
      ·have ej:j=j2:=by
        by_cases z:j=j2
        ·exact z
        ·rw [decide_eq_false (fun y=>z (V.int.inj y))] at cj; cases cj
       subst ej
       have ev:v'=v2:=e'.trans e2'.symm
       subst ev
       refine ⟨_,rfl,_,rfl,c,_,dx,_,_,rfl,hx,(R.iC u).cl,R.n_at u,Zdf _ _ _,_,rfl,c1,_,dx1,_,_,rfl,hx1,(R.iC v').cl,R.n_first v',Zbw _ _ _,_,rfl,c2,_,dx2,_,_,rfl,hx2,(R.iC v').cl,R.n_first v',Zbw _ _ _,u,k,z1,y1,xa,ya,rfl,o3,o5,fun v1 H1 s1 b1=>?_⟩
       refine ⟨_,rfl,_,rfl,c,_,dx,_,_,rfl,s1 _ _ hx,(R.iC u).cl,R.n_at u,Zdf _ _ _,_,rfl,c1,_,dx1,_,_,rfl,s1 _ _ hx1,(R.iC v').cl,R.n_other v',Zbv _ _ _,_,rfl,c2,_,dx2,_,_,rfl,s1 _ _ hx2,(R.iC v').cl,R.n_other v',Zbv _ _ _,u,k,z2,y2,xb,yb,rfl,o4.same s1,o6.same s1,fun v2 H2 s2 b2=>?_⟩
       have s12:=s1.trans s2
       refine ⟨_,rfl,_,rfl,c1,_,dx1,_,_,rfl,s12 _ _ hx1,(R.iC v').cl,R.n_at v',Zdf _ _ _,_,rfl,_,rfl,v',j,v1,v2,_,_,by rw [e']; rfl,b1.same s2,b2,fun v3 H3 s3 b3=>q v3 H3 (s12.trans s3) (by rw [crossT,if_neg e,if_pos ⟨rfl,rfl⟩]; exact b3)⟩
def Zec (cW cU cL:Addr):Sp:=fun vs H Q _=>∃ (v:V) (u:Bool) (k:Int) (x y:Tr) (wo:Str),vs=[v,.str wo]∧Obj cW cU cL H (.cut u k x y) v∧∀ v' H',Same H H'→ObjO cW cU cL H' (atop u k x y wo) v'→Q v' H'
theorem S_changed:Zap ["cut","word"] ["cut","word"] (Zad Zc6):=⟨rfl,rfl,rfl,by decide +kernel,rfl,by decide +kernel,by decide +kernel⟩
theorem ok_changed {f:Addr} {fd:FuncData} (F:Fun K "changed" "changed" Zc6 f fd) (T:Txt mg tk) (D_leaned:DefOk P w K mg base 4 "leaned" ["cut"] (Zj3 cW cU cL)) (D_leaned_back:DefOk P w K mg base 4 "leaned_back" ["cut"] (Zj7 cW cU cL)) (D_crossed:DefOk P w K mg base 4 "crossed" ["cut"] (Zhc cW cU cL)):FnOk P w K mg base CX0 5 f fd ["cut","word"] (Zec cW cU cL):=by
 have S:=S_changed
 refine F.ok S (fun vs H Q E h=>?_) (fun cdv A outer s H vs Q E hr h=>?_)
 ·obtain ⟨v,u,k,x,y,wo,rfl,_⟩:=h; rfl
 ·obtain ⟨v,u,k,x,y,wo,rfl,ho,q⟩:=h
  refine ⟨_,(Zab (Za9 (Zdo (Zck (Zay Zda rfl T.z_isinstance rfl (Zaa (pv 1) (Zaa (Zeh (v:=.ty "str") rfl T.z_str rfl rfl) Zac))))) (Zaf (Zal Zbs)) Zan)
   (Zab (Za9 (Zai Zcf (pv 1) (Za1 (v:=.str "lean") rfl T.g_LEAN ⟨_,rfl⟩) (nomark _)) (Zaf (Zal (Zaq D_leaned hr (Zaa (pv 0) Zac)))) Zan)
   (Zab (Za9 (Zai Zcf (pv 1) (Za1 (v:=.str "back") rfl T.g_BACK ⟨_,rfl⟩) (nomark _)) (Zaf (Zal (Zaq D_leaned_back hr (Zaa (pv 0) Zac)))) Zan)
   (Zab (Za9 (Zai Zcf (pv 1) (Za1 (v:=.str "cross") rfl T.g_CROSS ⟨_,rfl⟩) (nomark _)) (Zaf (Zal (Zaq D_crossed hr (Zaa (pv 0) Zac)))) Zan)
   (Zaf (Zal Zbs)))))),?_⟩
  have sN:∀ z:Str,decide (V.str wo=V.str z)=false→¬ wo=z:=fun z h e=>by rw [e,decide_eq_true rfl] at h; cases h
  refine ⟨_,rfl,_,"str","str",rfl,rfl,.inr (.inr (.inr (.inr rfl))),_,rfl,iteN (by decide) ?_⟩
  refine ⟨_,rfl,rfl,_,rfl,ite3 (fun c=>?_) (fun c=>?_)⟩
  ·have e:=V.str.inj (of_decide_eq_true c)
   exact ⟨_,rfl,v,u,k,x,y,rfl,ho,fun v' H' s' b'=>q v' H' s' (by rw [atop,if_pos e]; exact b')⟩
  refine ⟨_,rfl,rfl,_,rfl,ite3 (fun c2=>?_) (fun c2=>?_)⟩
  ·have e:=V.str.inj (of_decide_eq_true c2)
   exact ⟨_,rfl,v,u,k,x,y,rfl,ho,fun v' H' s' b'=>q v' H' s' (by rw [atop,if_neg (sN _ c),if_pos e]; exact b')⟩
  refine ⟨_,rfl,rfl,_,rfl,ite3 (fun c3=>?_) (fun c3=>?_)⟩
  ·have e:=V.str.inj (of_decide_eq_true c3)
   exact ⟨_,rfl,v,u,k,x,y,rfl,ho,fun v' H' s' b'=>q v' H' s' (by rw [atop,if_neg (sN _ c),if_neg (sN _ c2),if_pos e]; exact b')⟩
  exact q .non H (Same.refl H) (by rw [atop,if_neg (sN _ c),if_neg (sN _ c2),if_neg (sN _ c3)]; rfl)
def Zfd:Sp:=fun vs H Q _=>∃ i:Int,vs=[.int i]∧∀ H',Same H H'→Q (.bl (decide (0=i) || decide (1=i))) H'
theorem S_is_step:Zap ["thing"] ["thing"] (Zad Zc4):=⟨rfl,rfl,rfl,by decide +kernel,rfl,by decide +kernel,by decide +kernel⟩
theorem ok_is_step {f:Addr} {fd:FuncData} (F:Fun K "is_step" "is_step" Zc4 f fd) (T:Txt mg tk) (D_is_whole:DefOk P w K mg base 1 "is_whole" ["thing"] Zg8):FnOk P w K mg base CX0 2 f fd ["thing"] Zfd:=by
 have S:=S_is_step
 refine F.ok S (fun vs H Q E h=>?_) (fun cdv A outer s H vs Q E hr h=>?_)
 ·obtain ⟨i,rfl,_⟩:=h; rfl
 ·obtain ⟨i,rfl,q⟩:=h
  refine ⟨_,(Zaf (Zal (pe_and (Zaq D_is_whole hr (Zaa (pv 0) Zac)) (pe_one (Zke Ziw (pv 0) (Zaw (Zaa Zae (Zaa Zae Zac))) rfl))))),?_⟩
  refine ⟨_,rfl,i,rfl,true,rfl,_,rfl,lenOk 2,fun p hp=>?_⟩
  have s1:Same H (upd H p (.tup [.int 0,.int 1])):=Same.new hp
  have e3:(upd H p (.tup [.int 0,.int 1])) p=some (.tup [.int 0,.int 1]):=upd_same
  generalize upd H p (.tup [.int 0,.int 1])=H1 at s1 e3 ⊢
  refine ⟨p,_,rfl,.inr (SqT.of e3),rfl,rfl,?_⟩
  rw [if_neg Bool.false_ne_true,in01]
  exact q H1 s1
def Zg7 (cW cU cL:Addr):Sp:=fun vs H Q _=>∃ (v vp:V) (u:Bool) (k i:Int) (x y s:Tr),vs=[v,.int i,vp]∧Obj cW cU cL H (.cut u k x y) v∧Obj cW cU cL H s vp∧∀ v' H',Same H H'→Obj cW cU cL H' (if i=0 then .cut u k s y else .cut u k x s) v'→Q v' H'
theorem Zk5:Zap ["cut","step","part"] ["cut","step","part"] (Zad Zb7):=⟨rfl,rfl,rfl,by decide +kernel,rfl,by decide +kernel,by decide +kernel⟩
theorem Zix {f:Addr} {fd:FuncData} (F:Fun K "with_part" "with_part" Zb7 f fd) (R:RT mg K cT cW cU cL) (D_kind_of:DefOk P w K mg base 1 "kind_of" ["tree"] (Zcs cW cU cL)) (D_cut_from:DefOk P w K mg base 3 "cut_from" ["word","at","first","other"] (Zb6 cW cU cL)):FnOk P w K mg base CX0 4 f fd ["cut","step","part"] (Zg7 cW cU cL):=by
 have S:=Zk5
 refine F.ok S (fun vs H Q E h=>?_) (fun cdv A outer s H vs Q E hr h=>?_)
 ·obtain ⟨v,vp,u,k,i,x,y,s,rfl,_⟩:=h; rfl
 ·obtain ⟨v,vp,u,k,i,x,y,s',rfl,ho,hp,q⟩:=h
  refine ⟨_,(Zab (Za9 (Zai Zcf (pv 1) Zae (nomark _)) (Zaf (Zal (Zaq D_cut_from hr (Zaa (Zaq D_kind_of hr (Zaa (pv 0) Zac)) (Zaa (Zaz (pv 0) rfl) (Zaa (pv 2) (Zaa (Zaz (pv 0) rfl) Zac))))))) Zan)
   (Zaf (Zal (Zaq D_cut_from hr (Zaa (Zaq D_kind_of hr (Zaa (pv 0) Zac)) (Zaa (Zaz (pv 0) rfl) (Zaa (Zaz (pv 0) rfl) (Zaa (pv 2) Zac)))))))),?_⟩
  have ho':=ho
  rw [Obj] at ho
  obtain ⟨c,dx,w1,w2,rfl,hx,o1,o2⟩:=ho
  refine ⟨_,rfl,rfl,_,rfl,ite3 (fun cc=>?_) (fun cc=>?_)⟩
  ·have e:i=0:=V.int.inj (of_decide_eq_true cc)
   rw [if_pos e] at q
   exact ⟨_,rfl,_,_,rfl,ho',_,rfl,c,_,dx,_,_,rfl,hx,(R.iC u).cl,R.n_at u,Zdf _ _ _,_,rfl,_,rfl,c,_,dx,_,_,rfl,hx,(R.iC u).cl,R.n_other u,Zbv _ _ _,u,k,vp,w2,s',y,rfl,hp,o2,q⟩
  ·have e:¬ i=0:=fun z=>by rw [z] at cc; exact absurd (of_decide_eq_false cc) (fun h=>h rfl)
   rw [if_neg e] at q
   exact ⟨_,rfl,_,_,rfl,ho',_,rfl,c,_,dx,_,_,rfl,hx,(R.iC u).cl,R.n_at u,Zdf _ _ _,_,rfl,c,_,dx,_,_,rfl,hx,(R.iC u).cl,R.n_first u,Zbw _ _ _,_,rfl,u,k,w1,vp,x,s',rfl,o1,hp,q⟩
def down:Tr→List Int→Option Tr
 | t,[]=>some t
 | .whole _,_ :: _=>none
 | .cut _ _ x y,i :: st=>if i=0 then down x st else if i=1 then down y st else none
def put:Tr→List Int→Tr→Tr
 | _,[],s=>s
 | .whole m,_ :: _,_=>.whole m
 | .cut u k x y,i :: st,s=>if i=0 then .cut u k (put x st s) y else .cut u k x (put y st s)
theorem Zcz (t:Tr):down t []=some t:=by cases t <;> rfl
theorem put_nil (t s:Tr):put t [] s=s:=by cases t <;> rfl
theorem Zd5:∀ (t:Tr) (a b:List Int),down t (a++b)=(down t a).bind fun s=>down s b
 | t,[],b=>by rw [Zcz]; rfl
 | .whole m,i :: a,b=>rfl
 | .cut u k x y,i :: a,b=>by
  show (if i=0 then down x (a++b) else if i=1 then down y (a++b) else none)=Option.bind (if i=0 then down x a else if i=1 then down y a else none) _
  by_cases h0:i=0
  ·rw [if_pos h0,if_pos h0]; exact Zd5 x a b
  ·rw [if_neg h0,if_neg h0]
   by_cases h1:i=1
   ·rw [if_pos h1,if_pos h1]; exact Zd5 y a b
   ·rw [if_neg h1,if_neg h1]; rfl
theorem down_one {t s:Tr} {i:Int} (h:down t [i]=some s):∃ u k x y,t=.cut u k x y∧((i=0∧s=x)∨(i=1∧s=y)):=by
 cases t with
 | whole m=>cases h
 | cut u k x y =>
  have h:(if i=0 then down x [] else if i=1 then down y [] else none)=some s:=h
  by_cases h0:i=0
  ·rw [if_pos h0,Zcz] at h; cases h; exact ⟨u,k,_,y,rfl,.inl ⟨h0,rfl⟩⟩
  ·rw [if_neg h0] at h
   by_cases h1:i=1
   ·rw [if_pos h1,Zcz] at h; cases h; exact ⟨u,k,x,_,rfl,.inr ⟨h1,rfl⟩⟩
   ·rw [if_neg h1] at h; cases h
theorem mvd_eq:∀ (t:Tr) (st:List Int) (w:Str),mvd t st w=match down t st with
  | some (.cut u k x y)=>(atop u k x y w).map (put t st)
  | _=>none
 | .whole m,[],w=>rfl
 | .whole m,i :: st,w=>rfl
 | .cut u k x y,[],w=>by
  rw [mvd,Zcz]
  show atop u k x y w=(atop u k x y w).map (put (.cut u k x y) [])
  cases atop u k x y w with
  | none=>rfl
  | some s=>show some s=some (put (.cut u k x y) [] s); rw [put_nil]
 | .cut u k x y,i :: st,w=>by
  rw [mvd]
  show _=match (if i=0 then down x st else if i=1 then down y st else none) with
   | some (.cut u' k' x' y')=>(atop u' k' x' y' w).map (put (.cut u k x y) (i :: st))
   | _=>none
  by_cases h0:i=0
  ·rw [if_pos h0,if_pos h0,mvd_eq x st w]
   cases down x st with
   | none=>rfl
   | some s =>
    cases s with
    | whole m=>rfl
    | cut u' k' x' y' =>
     show ((atop u' k' x' y' w).map (put x st)).map _=_
     rw [Option.map_map]
     congr 1
     funext s
     show Tr.cut u k (put x st s) y=put (.cut u k x y) (i :: st) s
     rw [put,if_pos h0]
  ·rw [if_neg h0,if_neg h0]
   by_cases h1:i=1
   ·rw [if_pos h1,if_pos h1,mvd_eq y st w]
    cases down y st with
    | none=>rfl
    | some s =>
     cases s with
     | whole m=>rfl
     | cut u' k' x' y' =>
      show ((atop u' k' x' y' w).map (put y st)).map _=_
      rw [Option.map_map]
      congr 1
      funext s
      show Tr.cut u k x (put y st s)=put (.cut u k x y) (i :: st) s
      rw [put,if_neg h0]
   ·rw [if_neg h1,if_neg h1]
def sp_way (cW cU cL cM:Addr):Sp:=fun vs H Q E=>∃ (v:V) (t:Tr) (st:List Int) (sa:Addr),vs=[v,.ref sa]∧Obj cW cU cL H t v∧H sa=some (.tup (st.map V.int))∧st.length≤200 ∧
 ((∀ u k x y,down t st≠some (.cut u k x y))→Rf H E cM fun fs _=>fs=([(("steps":Str),V.ref sa)]:List (Str × V))) ∧
 ∀ u k x y,down t st=some (.cut u k x y)→∀ l ws H',Same H H'→H' l=some (.lst ws)→ws.length=st.length+1→(∀ (j:Nat) (w:V),ws[j]?=some w→∃ s,down t (st.take j)=some s∧Obj cW cU cL H' s w)→Q (.ref l) H'
theorem Zk6:Zap ["tree","steps","way","step"] ["tree","steps"] (Zad Zb8):=⟨rfl,rfl,rfl,by decide +kernel,rfl,by decide +kernel,by decide +kernel⟩
theorem at_end {ws:List V} {w:V} {n:Nat} (hl:ws.length=n+1) (h:ws[n]?=some w):atI ws (-1)=some w:=by
 have e:ws=ws.take n++[w]:=by
  have:=List.take_succ (l:=ws) (i:=n)
  rw [h,List.take_of_length_le (by lia)] at this
  exact this
 rw [e]
 exact atI_last _ _
theorem Ziy {f:Addr} {fd:FuncData} {cM:Addr} (F:Fun K "way_along" "way_along" Zb8 f fd) (T:Txt mg tk) (R:RT mg K cT cW cU cL) (X_NoMove:XMkOk P w K mg base 1 "NoMove" cM ["self","steps"] ["steps"]) (D_is_step:DefOk P w K mg base 2 "is_step" ["thing"] Zfd):FnOk P w K mg base (CX1 P w) 3 f fd ["tree","steps"] (sp_way cW cU cL cM):=by
 have S:=Zk6
 refine F.okx S (fun vs H Q E h=>?_) (fun cdv A outer s H vs Q E hr h=>?_)
 ·obtain ⟨v,t,st,sa,rfl,_⟩:=h; rfl
 ·obtain ⟨v,t,st,sa,rfl,ho,hs,hl,qx,q⟩:=h
  refine ⟨_,(Zab (Za9 (Zdo (Zck (Zay Zda rfl T.z_isinstance rfl (Zaa (pv 1) (Zaa (Zeh (v:=.ty "tuple") rfl T.z_tuple rfl rfl) Zac))))) (Zaf (Zez Ze2 X_NoMove hr (Zaa (pv 1) Zac))) Zan)
   (Zab (Zam (i:=2) S.nd rfl (Or.inl rfl) (Zcv (Zaa (pv 0) Zac)))
   (Zab (Zgm own_cx rfl (pi_tup (pv 1)) (Zau (i:=3) S.nd rfl (Or.inl rfl)) (Zab (Za9 (PW.pt (Zhg (Zck (Zay Zbr rfl T.z_isinstance rfl (Zaa (Zav Zcg (pv 2) (Zkd Ze5 Zae) (fun _ _=>rfl)) (Zaa (Za1 (v:=.ref (cW)) rfl R.g_Whole rfl) Zac)))) (Zgl (Zdo (Zck (Zaq D_is_step hr (Zaa (pv 3) Zac))))))) (Zaf (Zez Ze2 X_NoMove hr (Zaa (pv 1) Zac))) Zan)
   (Zaf (Zeg (pe_bm PySem.F.plainAttrs_list PySem.F.slot_list_append PySem.F.type_list_append Zcw (pv 2) (Zaa (Ze0 (Zai Zcf (pv 3) Zae (nomark _)) (Zaz (Zav Zcg (pv 2) (Zkd Ze5 Zae) (fun _ _=>rfl)) rfl) (Zaz (Zav Zcg (pv 2) (Zkd Ze5 Zae) (fun _ _=>rfl)) rfl)) Zac))))))
   (Zab (Za9 (Zck (Zay Zbr rfl T.z_isinstance rfl (Zaa (Zav Zcg (pv 2) (Zkd Ze5 Zae) (fun _ _=>rfl)) (Zaa (Za1 (v:=.ref (cW)) rfl R.g_Whole rfl) Zac)))) (Zaf (Zez Ze2 X_NoMove hr (Zaa (pv 1) Zac))) Zan)
   (Zaf (Zal (pv 2))))))),?_⟩
  refine ⟨_,rfl,_,"tuple","tuple",rfl,ty_tup hs,.inr (.inr (.inl rfl)),_,rfl,iteN (by decide) ?_⟩
  refine ⟨_,rfl,lenOk 1,fun l nl=>?_⟩
  have s1:Same H (upd H l (.lst [v])):=Same.new nl
  have e1:(upd H l (.lst [v])) l=some (.lst [v]):=upd_same
  generalize upd H l (.lst [v])=H1 at s1 e1 ⊢
  have refuse:∀ H2:Hp,Same H H2→(∀ u k x y,down t st≠some (.cut u k x y))→∀ y dx' T' H4,H2 y=none→Same H2 H4→H4 y=some (ExcO cM dx' y)→H4 dx'=some (ExcD dx' ([("steps":Str)].zip [V.ref sa]))→dx'≠y→H4 T'=none→T'≠y→E (.ref y) (some dx') (thrown H4 y cM (some dx') T') :=
   fun H2 s2 no y dx' T' H4 hy s4' e ed nd hT nT=>(qx no).raise s2 hy s4' e ed nd hT rfl
  have tst:∀ (i:Nat) (b:Int),st[i]?=some b→st=st.take i++(b :: st.drop (i+1)):=fun i b h=>by
   obtain ⟨h1,h2⟩:=List.getElem?_eq_some_iff.mp h
   conv=>lhs; rw [← List.take_append_drop i st]
   rw [List.drop_eq_getElem_cons h1,h2]
  refine ⟨_,rfl,sa,rfl,⟨_,SqT.of (s1 _ _ hs)⟩,for_tup (K:=K) (a:=sa) (xs:=st.map V.int) (fun i σ H'=>∃ (w3:Option V) (ws:List V),σ=[some v,some (.ref sa),some (.ref l),w3]∧Same H H'∧H' l=some (.lst ws)∧ws.length=i+1∧∀ (j:Nat) (w:V),ws[j]?=some w→∃ s,down t (st.take j)=some s∧Obj cW cU cL H' s w)
   ⟨none,[v],rfl,s1,e1,rfl,fun j w h=>?_⟩ (fun i σ H' _ hp=>by obtain ⟨_,_,_,s',_⟩:=hp; exact SqT.of (s' _ _ hs)) ?_ ?_⟩
  ·cases j with
   | zero=>cases h; exact ⟨t,by rw [List.take_zero,Zcz],ho.same s1⟩
   | succ j=>simp at h
  ·rintro i x σ H2 hx ⟨w3,ws,rfl,s2,hl2,lw,dn⟩
   obtain ⟨b,hb,rfl⟩:=Zhu hx
   have eq:=tst i b hb
   have il:=(List.getElem?_eq_some_iff.mp hb).1
   obtain ⟨wl,hwl⟩:∃ wl,ws[i]?=some wl:=⟨_,List.getElem?_eq_getElem (by lia)⟩
   obtain ⟨si,hsi,osi⟩:=dn i wl hwl
   have aE:=at_end lw hwl
   have dst:down t st=down si (b :: st.drop (i+1)):=by
    conv=>lhs; rw [eq]
    rw [Zd5,hsi]; rfl
   cases si with
   | whole m =>
    rw [Obj] at osi
    obtain ⟨xx,dx,rfl,hxx⟩:=osi
    refine ⟨_,rfl,1,rfl,l,_,_,_,rfl,rfl,SqL.of hl2,aE,xx,cW,dx,_,_,.ref cW,true,rfl,hxx,R.iW,rfl,refU,R.kWW,_,rfl,iteP rfl ?_⟩
    exact ⟨_,rfl,rfl,refuse H2 s2 (fun u k x y z=>by rw [dst] at z; cases z)⟩
   | cut u k x y =>
    have osi':=osi
    rw [Obj] at osi
    obtain ⟨xx,dx,v1,v2,rfl,hxx,o1,o2⟩:=osi
    refine ⟨_,rfl,1,rfl,l,_,_,_,rfl,rfl,SqL.of hl2,aE,xx,_,dx,_,_,.ref cW,false,rfl,hxx,R.iC u,rfl,refU,R.kCW u,_,rfl,iteN rfl ?_⟩
    refine ⟨_,rfl,b,rfl,fun H3 s3=>⟨_,rfl,ite3 (fun c=>?_) (fun c=>?_)⟩⟩
    ·refine ⟨_,rfl,rfl,refuse H3 (s2.trans s3) (fun u' k' x' y' z=>?_)⟩
     rw [dst] at z
     have z:(if b=0 then down x (st.drop (i+1)) else if b=1 then down y (st.drop (i+1)) else none)=some (.cut u' k' x' y'):=z
     have n0:¬ b=0:=fun e=>by rw [e] at c; simp at c
     have n1:¬ b=1:=fun e=>by rw [e] at c; simp at c
     rw [if_neg n0,if_neg n1] at z
     cases z
    ·have b01:b=0∨b=1:=by
      by_cases e0:b=0
      ·exact .inl e0
      ·by_cases e1':b=1
       ·exact .inr e1'
       ·rw [decide_eq_false (fun z=>e0 z.symm),decide_eq_false (fun z=>e1' z.symm)] at c; cases c
     have hl3:=s3 _ _ hl2
     have hx3:=s3 _ _ hxx
     have tk:st.take (i+1)=st.take i++[b]:=by rw [List.take_succ,hb]; rfl
     have fin:∀ (wn:V) (sn:Tr),down (.cut u k x y) [b]=some sn→Obj cW cU cL H3 sn wn→∃ (w3:Option V) (ws':List V),[some v,some (.ref sa),some (.ref l),some (V.int b)]=[some v,some (.ref sa),some (.ref l),w3]∧Same H (upd H3 l (.lst (ws++[wn])))∧(upd H3 l (.lst (ws++[wn]))) l=some (.lst ws')∧ws'.length=i+1+1∧∀ (j:Nat) (w:V),ws'[j]?=some w→∃ s,down t (st.take j)=some s∧Obj cW cU cL (upd H3 l (.lst (ws++[wn]))) s w:=fun wn sn hd on=>by
      have kp:Kp H3 (upd H3 l (.lst (ws++[wn]))):=Kp.put hl3
      refine ⟨_,ws++[wn],rfl,fun d o e=>by rw [Zak (Zag e nl)]; exact s3 _ _ (s2 _ _ e),upd_same,by rw [List.length_append,lw]; rfl,fun j w h=>?_⟩
      rcases Nat.lt_or_ge j ws.length with hj | hj
      ·rw [List.getElem?_append_left hj] at h
       obtain ⟨s',d',o'⟩:=dn j w h
       exact ⟨s',d',(o'.same s3).kp kp⟩
      ·rw [List.getElem?_append_right hj] at h
       have ej:j=i+1:=by
        have:=(List.getElem?_eq_some_iff.mp h).1
        rw [List.length_singleton] at this
        lia
       subst ej
       rw [lw,Nat.sub_self] at h
       cases h
       exact ⟨sn,by rw [tk,Zd5,hsi]; exact hd,on.kp kp⟩
     refine ⟨_,rfl,.inl ⟨rfl,_,SqL.of hl3⟩,_,rfl,rfl,_,rfl,ite3 (fun c0=>?_) (fun c0=>?_)⟩
     ·have b0:b=0:=V.int.inj (of_decide_eq_true c0)
      refine ⟨_,rfl,1,rfl,l,_,_,_,rfl,rfl,SqL.of hl3,aE,xx,_,dx,_,_,rfl,hx3,(R.iC u).cl,R.n_first u,Zbw _ _ _,l,_,_,rfl,rfl,hl3,Za8 (by lia),?_⟩
      exact fin v1 x (by show (if b=0 then down x [] else _)=_; rw [if_pos b0,Zcz]) (o1.same s3)
     ·have b1:b=1:=by
       rcases b01 with e | e
       ·rw [e,decide_eq_true rfl] at c0; cases c0
       ·exact e
      refine ⟨_,rfl,1,rfl,l,_,_,_,rfl,rfl,SqL.of hl3,aE,xx,_,dx,_,_,rfl,hx3,(R.iC u).cl,R.n_other u,Zbv _ _ _,l,_,_,rfl,rfl,hl3,Za8 (by lia),?_⟩
      exact fin v2 y (by show (if b=0 then down x [] else if b=1 then down y [] else none)=_; rw [if_neg (by lia),if_pos b1,Zcz]) (o2.same s3)
  ·rintro σ H2 ⟨w3,ws,rfl,s2,hl2,lw,dn⟩
   rw [List.length_map] at lw
   obtain ⟨wl,hwl⟩:∃ wl,ws[st.length]?=some wl:=⟨_,List.getElem?_eq_getElem (by lia)⟩
   obtain ⟨si,hsi,osi⟩:=dn _ wl hwl
   have aE:=at_end lw hwl
   rw [List.take_length] at hsi
   cases si with
   | whole m =>
    rw [Obj] at osi
    obtain ⟨xx,dx,rfl,hxx⟩:=osi
    refine ⟨_,rfl,1,rfl,l,_,_,_,rfl,rfl,SqL.of hl2,aE,xx,cW,dx,_,_,.ref cW,true,rfl,hxx,R.iW,rfl,refU,R.kWW,_,rfl,iteP rfl ?_⟩
    exact ⟨_,rfl,rfl,refuse H2 s2 (fun u k x y z=>by rw [hsi] at z; cases z)⟩
   | cut u k x y =>
    have osi':=osi
    rw [Obj] at osi
    obtain ⟨xx,dx,v1,v2,rfl,hxx,o1,o2⟩:=osi
    refine ⟨_,rfl,1,rfl,l,_,_,_,rfl,rfl,SqL.of hl2,aE,xx,_,dx,_,_,.ref cW,false,rfl,hxx,R.iC u,rfl,refU,R.kCW u,_,rfl,iteN rfl ?_⟩
    exact ⟨_,rfl,q u k x y hsi l ws H2 s2 hl2 lw dn⟩
theorem Zkq {H:Hp} {t:Tr} {v:V} (h:Obj cW cU cL H t v):decide (v=V.non)=false:=by
 cases t with
 | whole m=>rw [Obj] at h; obtain ⟨x,dx,rfl,_⟩:=h; exact decide_eq_false (fun z=>by cases z)
 | cut u k a b=>rw [Obj] at h; obtain ⟨x,dx,w1,w2,rfl,_⟩:=h; exact decide_eq_false (fun z=>by cases z)
theorem mvd_no {t:Tr} {st:List Int} {w:Str} (h:∀ u k x y,down t st≠some (.cut u k x y)):mvd t st w=none:=by
 rw [mvd_eq]
 cases q:down t st with
 | none=>rfl
 | some s =>
  cases s with
  | whole m=>rfl
  | cut u k x y=>exact absurd q (h u k x y)
def sp_mv (K:PySem.W.Frag) (cW cU cL cM:Addr):Sp:=fun vs H Q E=>∃ (v:V) (t:Tr) (st:List Int) (sa mo:Addr) (wo:Str),vs=[v,.ref mo]∧Obj cW cU cL H t v∧H mo=some (.tup [.ref sa,.str wo])∧H sa=some (.tup (st.map V.int))∧st.length≤200∧(∀ s,mvd t st wo=some s→s.nd≤400) ∧
 (mvd t st wo=none→Rf H E cM fun fs _=>fs=([(("steps":Str),V.ref sa)]:List (Str × V)))∧∀ s,mvd t st wo=some s→∀ v' H',Same H H'→Obj cW cU cL H' s v'→Q v' H'
theorem S_moved:Zap ["tree","move","steps","way","part","cut","step"] ["tree","move"] (Zad Zee):=⟨rfl,rfl,rfl,by decide +kernel,rfl,by decide +kernel,by decide +kernel⟩
theorem ok_moved {f:Addr} {fd:FuncData} {cM:Addr} (F:Fun K "moved" "moved" Zee f fd) (T:Txt mg tk) (X_NoMove:XMkOk P w K mg base 1 "NoMove" cM ["self","steps"] ["steps"]) (D_way_along:DefOkX P w K mg base 3 "way_along" ["tree","steps"] (sp_way cW cU cL cM)) (D_changed:DefOk P w K mg base 5 "changed" ["cut","word"] (Zec cW cU cL)) (D_with_part:DefOk P w K mg base 4 "with_part" ["cut","step","part"] (Zg7 cW cU cL))
  (D_entries_of:DefOk P w K mg base 3 "entries_of" ["tree"] (Zeb cW cU cL)) (D_tree_from:DefOk P w K mg base 4 "tree_from" ["entries"] (Zj5 K cW cU cL)):FnOk P w K mg base (CX1 P w) 6 f fd ["tree","move"] (sp_mv K cW cU cL cM):=by
 have S:=S_moved
 refine F.okx S (fun vs H Q E h=>?_) (fun cdv A outer s H vs Q E hr h=>?_)
 ·obtain ⟨v,t,st,sa,mo,wo,rfl,_⟩:=h; rfl
 ·obtain ⟨v,t,st,sa,mo,wo,rfl,ho,hm,hs,hl,nd,qx,q⟩:=h
  refine ⟨_,(Zab (Zam (i:=2) S.nd rfl (Or.inl rfl) (Zav Zar (pv 1) Zae (fun _ _=>rfl)))
   (Zab (Zam (i:=3) S.nd rfl (Or.inl rfl) (pe_fnx D_way_along hr (pass_x Ze2 (pass_u (H:=H) (E:=E))) (Zaa (pv 0) (Zaa (pv 2) Zac))))
   (Zab (Zam (i:=4) S.nd rfl (Or.inl rfl) (Zaq D_changed hr (Zaa (Zav Zcg (pv 3) (Zkd Ze5 Zae) (fun _ _=>rfl)) (Zaa (Zav Zar (pv 1) Zae (fun _ _=>rfl)) Zac))))
   (Zab (Za9 (Zai Ziv (pv 4) Zbs (nomark _)) (Zaf (Zez Ze2 X_NoMove hr (Zaa (pv 2) Zac))) Zan)
   (Zab (Zgm own_cx rfl (pi_revd rfl T.z_reversed (Zaa (pe_zipl rfl T.z_list rfl T.z_zip (Zaa (pv 3) (Zaa (pv 2) Zac))) Zac)) (Zdw rfl (Zas (Zau (i:=5) S.nd rfl (Or.inl rfl)) (Zas (Zau (i:=6) S.nd rfl (Or.inl rfl)) Zcu))) (Zaf (Zam (i:=4) S.nd rfl (Or.inl rfl) (Zaq D_with_part hr (Zaa (pv 5) (Zaa (pv 6) (Zaa (pv 4) Zac)))))))
   (Zaf (Zal (Zaq D_tree_from hr (Zaa (Zaq D_entries_of hr (Zaa (pv 4) Zac)) Zac))))))))),?_⟩
  refine ⟨_,rfl,mo,_,_,_,rfl,rfl,SqT.of hm,at2_0,?_⟩
  refine ⟨_,rfl,_,rfl,v,t,st,sa,rfl,ho,hs,hl,fun no=>rf_u (Same.refl H) (qx (mvd_no no)) stb_eq,fun u k x y hd l ws H1 s1 hl1 lw dn=>?_⟩
  obtain ⟨wl,hwl⟩:∃ wl,ws[st.length]?=some wl:=⟨_,List.getElem?_eq_getElem (by lia)⟩
  obtain ⟨sl,hsl,osl⟩:=dn _ wl hwl
  have aE:=at_end lw hwl
  rw [List.take_length,hd] at hsl
  cases hsl
  have mv:mvd t st wo=(atop u k x y wo).map (put t st):=by rw [mvd_eq,hd]
  refine ⟨_,rfl,1,rfl,l,_,_,_,rfl,rfl,SqL.of hl1,aE,_,rfl,mo,_,_,_,rfl,rfl,SqT.of (s1 _ _ hm),at2_1,wl,u,k,x,y,wo,rfl,osl,fun v' H2 s2 oo=>?_⟩
  have s02:=s1.trans s2
  cases ha:atop u k x y wo with
  | none =>
   rw [ha] at oo mv
   obtain rfl:v'=.non:=oo
   refine ⟨_,rfl,rfl,_,rfl,iteP (decide_eq_true rfl) ?_⟩
   exact ⟨_,rfl,rfl,fun y dx' T' H4 hy s4' e ed nd hT nT=>(qx mv).raise s02 hy s4' e ed nd hT rfl⟩
  | some r =>
   rw [ha] at oo mv
   have oo:Obj cW cU cL H2 r v':=oo
   have mv:mvd t st wo=some (put t st r):=mv
   refine ⟨_,rfl,rfl,_,rfl,iteN (Zkq oo) ?_⟩
   have hs2:=s02 _ _ hs
   refine ⟨_,rfl,_,rfl,l,sa,ws,st.map V.int,rfl,SqL.of (s2 _ _ hl1),SqT.of hs2,by rw [List.length_map]; lia,fun rl as H3 s3 nr hr la prs=>?_⟩
   rw [List.length_map] at la
   have s03:=s02.trans s3
   refine ⟨rl,_,rfl,SqL.of hr,for_rev (K:=K) (a:=rl) (xs:=as.map V.ref) (fun i σ H'=>∃ (w5 w6:Option V) (vp:V) (tj:Tr),σ=[some v,some (.ref mo),some (.ref sa),some (.ref l),some vp,w5,w6]∧Same H3 H'∧down t (st.take (st.length - i))=some tj∧Obj cW cU cL H' (put tj (st.drop (st.length - i)) r) vp)
    ⟨none,none,v',.cut u k x y,rfl,Same.refl _,by rw [Nat.sub_zero,List.take_length]; exact hd,by rw [Nat.sub_zero,List.drop_length,put_nil]; exact oo.same s3⟩ (fun i σ H' _ hp=>by obtain ⟨_,_,_,_,_,s',_⟩:=hp; exact SqL.of (s' _ _ hr)) ?_ ?_⟩
   ·rintro i xv σ H4 hv hi ⟨w5,w6,vp,tj,rfl,s4,dj,oj⟩
    rw [List.length_map,la] at hv hi
    rw [List.getElem?_map] at hv
    obtain ⟨a,haj,rfl⟩:=Option.map_eq_some_iff.mp hv
    obtain ⟨xw,yb,e1,e2,e3⟩:=prs _ a haj
    obtain ⟨b,hb,rfl⟩:=Zhu e2
    obtain ⟨cj,dcj,ocj⟩:=dn _ xw e1
    have jn:st.length - 1 - i+1=st.length - i:=by lia
    have tk:st.take (st.length - i)=st.take (st.length - 1 - i)++[b]:=by rw [← jn,List.take_succ,hb]; rfl
    have dr:st.drop (st.length - (i+1))=b :: st.drop (st.length - i):=by
     rw [show st.length - (i+1)=st.length - 1 - i by lia]
     obtain ⟨h1,h2⟩:=List.getElem?_eq_some_iff.mp hb
     rw [List.drop_eq_getElem_cons h1,h2,jn]
    rw [tk,Zd5,dcj] at dj
    obtain ⟨u',k',xa,ya,rfl,hbt⟩:=down_one dj
    have e34:=s4 _ _ e3
    refine ⟨a,_,rfl,SqT.of e34,rfl,_,_,rfl,_,_,rfl,rfl,?_⟩
    refine ⟨_,rfl,_,rfl,_,rfl,xw,vp,u',k',b,xa,ya,_,rfl,ocj.same ((s2.trans s3).trans s4),oj,fun v5 H5 s5 o5=>⟨_,_,v5,_,rfl,s4.trans s5,by rw [show st.length - (i+1)=st.length - 1 - i by lia]; exact dcj,?_⟩⟩
    rw [dr,put]
    rcases hbt with ⟨b0,rfl⟩ | ⟨b1,rfl⟩
    ·rw [if_pos b0] at o5 ⊢; exact o5
    ·rw [if_neg (by lia)] at o5 ⊢; exact o5
   ·rintro σ H4 ⟨w5,w6,vp,tj,rfl,s4,dj,oj⟩
    rw [List.length_map,la,Nat.sub_self] at dj oj
    rw [List.take_zero,Zcz] at dj
    cases dj
    rw [List.drop_zero] at oj
    have n4:=nd _ mv
    refine ⟨_,rfl,vp,_,rfl,oj,n4,fun l5 xs5 H5 s5 nl5 hl5 en5=>?_⟩
    exact ⟨l5,xs5,_,rfl,SqL.of hl5,en5,n4,fun v6 H6 s6 o6=>q _ mv v6 H6 (s03.trans (s4.trans (s5.trans s6))) o6⟩
theorem Zjk {X:Cx}:CallR X (.builtin "isinstance") (fun xs H Q=>∃ a C t c1 c2 c3,xs=[.ref a,.ref t]∧IsExc H a C∧XCls X.K C∧H t=some (.tup [.ref c1,.ref c2,.ref c3])∧PySem.W.kitOne X.K (.ref C) (.ref c1)=some false∧PySem.W.kitOne X.K (.ref C) (.ref c2)=some false∧PySem.W.kitOne X.K (.ref C) (.ref c3)=some false∧Q (.bl false) H):=by
 intro pins s σ H xs us Q I r h
 obtain ⟨a,C,t,c1,c2,c3,rfl,he,hc,ht,k1,k2,k3,q⟩:=h
 obtain ⟨v1,v2,rfl,r1,r2⟩:=vals2 r
 cases r1
 cases r2
 obtain ⟨its,rt,hp,_⟩:=I.tuple (SqT.of (K:=X.K) ht)
 cases rt with
 | cons q1 rt=>cases rt with
  | cons q2 rt=>cases rt with
   | cons q3 rt =>
    cases rt
    cases q1
    cases q2
    cases q3
    obtain ⟨⟨cls,dd,data,sl⟩,ho,ec,n,ed⟩:=hp
    simp only at ec ed
    subst ec ed
    exact PySem.W.kia_tup (kitx_exc hc) I.kIn (Zgq I he) ho (by simp [PySem.W.kitAny,k1,k2,k3]) (fun z=>nomatch z) fun tk=>⟨.bl false,H,I.tok tk,rfl,q⟩
theorem Zh8 {X:Cx} {K:PySem.W.Frag} (hK:X.K=K:=by rfl):CallR X (.builtin "isinstance") (fun xs H Q=>∃ a C t c1 c2 c3,xs=[.ref a,.ref t]∧IsExc H a C∧XCls K C∧H t=some (.tup [.ref c1,.ref c2,.ref c3])∧PySem.W.kitOne K (.ref C) (.ref c1)=some false∧PySem.W.kitOne K (.ref C) (.ref c2)=some false∧PySem.W.kitOne K (.ref C) (.ref c3)=some false∧Q (.bl false) H):=by subst hK; exact Zjk
def Zfc:Sp:=fun vs H Q _=>∃ (v:V) (t:Tr) (c:Int),vs=[v,.int c]∧Told H t v∧t.dp≤60∧∀ sa (st:List Int) H',Same H H'→H' sa=some (.tup (st.map V.int))→st.length≤100→Q (.ref sa) H'
abbrev N_ls:List Str:=["_law_told_here","_law_cell_here","_law_steps_here","_law_nth","_law_step"]
theorem Zk9:Zap N_ls ["_law_told_here","_law_cell_here"] (Zad Zbe):=⟨rfl,rfl,rfl,by decide +kernel,rfl,by decide +kernel,by decide +kernel⟩
theorem int_of4 {v:V} (h:v∈([.int 0,.int 1,.int 2,.int (-1)]:List V)):∃ z:Int,v=.int z:=by
 simp only [List.mem_cons,List.not_mem_nil,or_false] at h
 rcases h with rfl | rfl | rfl | rfl
 ·exact ⟨0,rfl⟩
 ·exact ⟨1,rfl⟩
 ·exact ⟨2,rfl⟩
 ·exact ⟨-1,rfl⟩
theorem Zi1 {f:Addr} {fd:FuncData} (F:Fun K "_law_steps" "_law_steps" Zbe f fd) (D__law_draw:DefOk P w K mg base 1 "_law_draw" ["_law_cell_here","_law_nth","_law_many"] Zfe):FnOk P w K mg base CX0 2 f fd ["_law_told_here","_law_cell_here"] Zfc:=by
 have S:=Zk9
 refine F.ok S (fun vs H Q E h=>?_) (fun cdv A outer s H vs Q E hr h=>?_)
 ·obtain ⟨v,t,c,rfl,_⟩:=h; rfl
 ·obtain ⟨v,t,c,rfl,ht,hd,q⟩:=h
  obtain ⟨tT,hT,kT⟩:∃ rd,PSs (cxOf CX0 P w K mg base N_ls "_law_steps" (Zad Zbe) f cdv A outer s H E).nox ((Zaj Zbe).drop 3) rd∧∀ (w0 w3 w4:Option V) (sa:Addr) (st:List Int) (H3:Hp),Same H H3→H3 sa=some (.tup (st.map V.int))→st.length≤60→rd { nx:=fun _ H'=>Q .non H',rt:=Q } [w0,some (.int c),some (.ref sa),w3,w4] H3:=by
   refine ⟨_,(Zab (Za9 (Zai Zcf (Zaq D__law_draw hr (Zaa (pv 1) (Zaa Zae (Zaa Zae Zac)))) Zae (nomark _)) (Zaf (Zam (i:=2) S.nd rfl (Or.inl rfl) (Zbb op_catA (pv 2) (Zaw (Zaa (Zav Zcg (Zcv (Zaa Zae (Zaa Zae (Zaa Zae (Zaa (Zkd Ze5 Zae) Zac))))) (Zaq D__law_draw hr (Zaa (pv 1) (Zaa Zae (Zaa Zae Zac)))) (fun _ _=>rfl)) Zac))))) Zan)
   (Zaf (Zal (pv 2)))),?_⟩
   intro w0 w3 w4 sa st H3 s3 hs3 l3
   refine ⟨_,rfl,c,1,9,rfl,by decide,by decide,by decide,fun r1 r10 r11=>⟨rfl,_,rfl,ite3 (fun c1=>?_) (fun c1=>⟨_,rfl,q sa st H3 s3 hs3 (by lia)⟩)⟩⟩
   refine ⟨_,rfl,1,rfl,lenOk 4,fun L nL=>?_⟩
   have s4:Same H3 (upd H3 L (.lst [.int 0,.int 1,.int 2,.int (-1)])):=Same.new nL
   have e4:(upd H3 L (.lst [.int 0,.int 1,.int 2,.int (-1)])) L=some (.lst [.int 0,.int 1,.int 2,.int (-1)]):=upd_same
   generalize upd H3 L (.lst [.int 0,.int 1,.int 2,.int (-1)])=H4 at s4 e4 ⊢
   refine ⟨_,rfl,c,70,4,rfl,by decide,by decide,by decide,fun r2 r20 r21=>?_⟩
   obtain ⟨v4,hv4,hm4⟩:=atI_in (L:=[.int 0,.int 1,.int 2,.int (-1)]) (i:=r2) r20 r21
   obtain ⟨b,rfl⟩:=int_of4 hm4
   refine ⟨L,_,_,_,rfl,rfl,SqL.of e4,hv4,lenOk 1,fun p np=>?_⟩
   have s5:Same H4 (upd H4 p (.tup [.int b])):=Same.new np
   have e5:(upd H4 p (.tup [.int b])) p=some (.tup [.int b]):=upd_same
   generalize upd H4 p (.tup [.int b])=H5 at s5 e5 ⊢
   have s35:=s4.trans s5
   exact catA (s35 _ _ hs3) e5 (by lia) fun sb H6 s6 e6=>⟨_,rfl,q sb _ H6 (s3.trans (s35.trans s6)) e6 (by rw [List.length_append,List.length_singleton]; lia)⟩
  refine ⟨_,(Zab (Zam (i:=2) S.nd rfl (Or.inl rfl) (Zaw Zac))
   (Zab (Zam (i:=3) S.nd rfl (Or.inl rfl) Zae)
   (Zab (ps_while PassesOwn.never (PW.pt (Zdn (Zai Zit (Zav Zar (pv 0) Zae (fun _ _=>rfl)) Zax (nomark _)) (Zdc (Zai op_gt (Zaq D__law_draw hr (Zaa (pv 1) (Zaa (pv 3) (Zaa Zae Zac)))) Zae (nomark _))))) (Zab (Zam (i:=4) S.nd rfl (Or.inl rfl) (Zaq D__law_draw hr (Zaa (pv 1) (Zaa (Zbb Zb4 (pv 3) Zae) (Zaa Zae Zac)))))
   (Zab (Zam (i:=2) S.nd rfl (Or.inl rfl) (Zbb op_catA (pv 2) (Zaw (Zaa (pv 4) Zac))))
   (Zab (Zam (i:=0) S.nd rfl (Or.inl rfl) (Zav Zar (pv 0) (Zbb Zb4 Zae (pv 4)) (fun _ _=>rfl)))
   (Zaf (Zam (i:=3) S.nd rfl (Or.inl rfl) (Zbb Zb4 (pv 3) Zae)))))))
   hT))),?_⟩
  refine ⟨lenOk 0,fun s0 ns0=>?_⟩
  have s1:Same H (upd H s0 (.tup [])):=Same.new ns0
  have e1:(upd H s0 (.tup [])) s0=some (.tup (([]:List Int).map V.int)):=upd_same
  generalize upd H s0 (.tup [])=H1 at s1 e1 ⊢
  have W0:∃ (x:V) (t':Tr) (sa:Addr) (st:List Int) (n:Int) (w4:Option V),t.dp=t'.dp∧[some v,some (.int c),some (.ref s0),some (.int 2),none]=[some x,some (.int c),some (.ref sa),some (.int n),w4]∧Same H H1∧Told H1 t' x∧H1 sa=some (.tup (st.map V.int))∧st.length+t'.dp≤60∧n=2+st.length:=⟨v,t,s0,[],2,none,rfl,rfl,s1,ht.same s1,e1,by simpa using hd,rfl⟩
  refine ⟨fun m σ H'=>∃ (x:V) (t':Tr) (sa:Addr) (st:List Int) (n:Int) (w4:Option V),m=t'.dp∧σ=[some x,some (.int c),some (.ref sa),some (.int n),w4]∧Same H H'∧Told H' t' x∧H' sa=some (.tup (st.map V.int))∧st.length+t'.dp≤60∧n=2+st.length,⟨t.dp,W0⟩,?_⟩
  rintro m σ H2 ⟨x,t',sa,st,n,w4,rfl,rfl,s2,ht2,hs2,hl,rfl⟩
  obtain ⟨a,r,rfl,ha,hr2⟩:=Ze7 ht2
  refine ⟨_,rfl,a,_,_,_,rfl,rfl,SqT.of ha,Zia,rfl,_,rfl,?_⟩
  cases t' with
  | whole m=>exact iteN (by show (!decide (V.str "whole"=V.str "whole"))=false; rw [decide_eq_true rfl]; rfl) (iteN rfl (kT _ _ _ sa st H2 s2 hs2 (by lia)))
  | cut u k y1 y2 =>
   refine iteP (by show (!decide (V.str (wd u)=V.str "whole"))=true; rw [Zcl]; rfl) ?_
   rw [Told] at ht2
   obtain ⟨a',v1,v2,ea,ha',t1,t2⟩:=ht2
   cases ea
   have hl:st.length+(max y1.dp y2.dp+1)≤60:=hl
   refine ⟨_,rfl,_,rfl,c,2+(st.length:Int),4,rfl,by lia,by lia,by decide,fun r1 r10 r11=>⟨_,_,rfl,rfl,?_⟩⟩
   refine ⟨_,rfl,ite3 (fun c1=>?_) (fun c1=>kT _ _ _ sa st H2 s2 hs2 (by lia))⟩
   refine ⟨fun σ' H'=>∃ (x:V) (t':Tr) (sa:Addr) (st':List Int) (w4:Option V),t'.dp < (Tr.cut u k y1 y2).dp∧σ'=[some x,some (.int c),some (.ref sa),some (.int (2+(st'.length:Int))),w4]∧Same H H'∧Told H' t' x∧H' sa=some (.tup (st'.map V.int))∧st'.length+t'.dp≤60,fun σ' H' ⟨x,t',sa,st',w4,h1,h2,h3,h4,h5,h6⟩=>⟨t'.dp,h1,x,t',sa,st',_,w4,rfl,h2,h3,h4,h5,h6,rfl⟩,?_⟩
   refine ⟨_,rfl,_,rfl,_,_,rfl,rfl,c,2+(st.length:Int)+30,2,rfl,by lia,by lia,by decide,fun r2 r20 r21=>?_⟩
   refine ⟨_,rfl,_,rfl,lenOk 1,fun p np=>?_⟩
   have s5:Same H2 (upd H2 p (.tup [.int r2])):=Same.new np
   have e5:(upd H2 p (.tup [.int r2])) p=some (.tup [.int r2]):=upd_same
   generalize upd H2 p (.tup [.int r2])=H5 at s5 e5 ⊢
   refine catA (s5 _ _ hs2) e5 (by lia) fun sb H6 s6 e6=>?_
   have s26:=s5.trans s6
   have hd:(Tr.cut u k y1 y2).dp=max y1.dp y2.dp+1:=rfl
   have r01:r2=0∨r2=1:=by lia
   rcases r01 with rfl | rfl
   ·refine ⟨_,rfl,_,rfl,_,_,rfl,rfl,a,_,_,v1,rfl,rfl,SqT.of (s26 _ _ ha'),rfl,?_⟩
    refine ⟨_,rfl,_,_,rfl,rfl,v1,y1,sb,st++[0],_,by rw [hd]; lia,by rw [List.length_append,List.length_singleton]; show _=[some v1,some (V.int c),some (V.ref sb),some (V.int (2+((st.length+1:Nat):Int))),_]; rw [show (2:Int)+((st.length+1:Nat):Int)=2+(st.length:Int)+1 by lia]; rfl,s2.trans s26,t1.same s26,e6,by rw [List.length_append,List.length_singleton]; lia⟩
   ·refine ⟨_,rfl,_,rfl,_,_,rfl,rfl,a,_,_,v2,rfl,rfl,SqT.of (s26 _ _ ha'),rfl,?_⟩
    refine ⟨_,rfl,_,_,rfl,rfl,v2,y2,sb,st++[1],_,by rw [hd]; lia,by rw [List.length_append,List.length_singleton]; show _=[some v2,some (V.int c),some (V.ref sb),some (V.int (2+((st.length+1:Nat):Int))),_]; rw [show (2:Int)+((st.length+1:Nat):Int)=2+(st.length:Int)+1 by lia]; rfl,s2.trans s26,t2.same s26,e6,by rw [List.length_append,List.length_singleton]; lia⟩
theorem pe_xfldK {X:Cx} {K:PySem.W.Frag} {e:Expr} {f:Str} {pos:Pos} {ta:TE} (he:PE X e ta) (hb:attributeBase e f X.env (eval e X.env)=eval e X.env) (hK:X.K=K:=by rfl):PE X (.Attribute e f pos) (tXFld K ta f):=by subst hK; exact pe_xfld he hb
theorem Zk3 {X:Cx} {K:PySem.W.Frag} (hK:X.K=K:=by rfl):CallR X (.builtin "isinstance") (fun xs H Q=>∃ a C c u b,xs=[.ref a,c]∧IsExc H a C∧XCls K C∧RelV c u∧(∀ u',RelV c u'→u'=u)∧PySem.W.kitOne K (.ref C) u=some b∧Q (.bl b) H):=by subst hK; exact call_isinX
theorem lookup1 {f:Str} {v:V}:([(f,v)]:List (Str × V)).lookup f=some v:=by simp [List.lookup]
structure RG (mg:Str→Option Value) (K:PySem.W.Frag) (cG cM cN cD cK:Addr):Prop where
 g_GlassError:mg "GlassError"=some (.ref cG)
 g_NoMove:mg "NoMove"=some (.ref cM)
 g_NoCut:mg "NoCut"=some (.ref cN)
 g_NoTree:mg "NoTree"=some (.ref cD)
 g_Unlike:mg "Unlike"=some (.ref cK)
 x_GlassError:PySem.W.excIn K cG vErr "ValueError.__new__"=true
 mM:PySem.W.mroIn K cM (.ref cG)=some true
 clM:XCls K cM
 n_steps:NoAttr K cM "steps"
 kMM:PySem.W.kitOne K (.ref cM) (.ref cM)=some true
 kMN:PySem.W.kitOne K (.ref cM) (.ref cN)=some false
 kMD:PySem.W.kitOne K (.ref cM) (.ref cD)=some false
 kMK:PySem.W.kitOne K (.ref cM) (.ref cK)=some false
def Zj4 (cW cU cL:Addr):Sp:=fun vs H Q _=>∃ (v:V) (t:Tr) (st:List Int) (sa mo:Addr) (wo:Str),vs=[v,.ref mo]∧Obj cW cU cL H t v∧H mo=some (.tup [.ref sa,.str wo])∧H sa=some (.tup (st.map V.int))∧st.length≤200∧(∀ s,mvd t st wo=some s→s.nd≤400) ∧
 (mvd t st wo=none→∀ c H',Same H H'→H' c=some (.tup [.str "none",.ref sa])→Q (.ref c) H')∧∀ s,mvd t st wo=some s→∀ c v' H',Same H H'→Obj cW cU cL H' s v'→H' c=some (.tup [.str "moved",v'])→Q (.ref c) H'
theorem Zlb:Zap ["_law_tree_here","_law_move","_law_found","e","_law_other"] ["_law_tree_here","_law_move"] (Zad Zb1):=⟨rfl,rfl,rfl,by decide +kernel,rfl,by decide +kernel,by decide +kernel⟩
theorem Zi5 {f cG cM cN cD cK:Addr} {fd:FuncData} (F:Fun K "_law_asked" "_law_asked" Zb1 f fd) (T:Txt mg tk) (R:RG mg K cG cM cN cD cK) (D_moved:DefOkX P w K mg base 6 "moved" ["tree","move"] (sp_mv K cW cU cL cM)):FnOk P w K mg base CX0 7 f fd ["_law_tree_here","_law_move"] (Zj4 cW cU cL):=by
 have S:=Zlb
 refine F.ok S (fun vs H Q E h=>?_) (fun cdv A outer s H vs Q E hr h=>?_)
 ·obtain ⟨v,t,st,sa,mo,wo,rfl,_⟩:=h; rfl
 ·obtain ⟨v,t,st,sa,mo,wo,rfl,ho,hm,hs,hl,nd,qx,q⟩:=h
  refine ⟨_,(Zab (Zam (i:=2) S.nd rfl (Or.inl rfl) Zbs)
   (Zab (ps_tryset (i:=2) (im:=3) S.nd rfl (Or.inl rfl) rfl rfl (fun _=>px_fn D_moved hr (Zaa (pv 0) (Zaa (pv 1) Zac))) rfl R.g_GlassError R.x_GlassError rfl rfl (fun _=>(Zab (Zam (i:=4) S.nd rfl (Or.inl rfl) (Zay (Zh8 (K:=K)) rfl T.z_isinstance rfl (Zaa (pv 3) (Zaa (Zaw (Zaa (Za1 (v:=.ref (cN)) rfl R.g_NoCut rfl) (Zaa (Za1 (v:=.ref (cD)) rfl R.g_NoTree rfl) (Zaa (Za1 (v:=.ref (cK)) rfl R.g_Unlike rfl) Zac)))) Zac))))
   (Zab (Za9 (PW.pt (Zdn (Zck (Zay (Zk3 (K:=K)) rfl T.z_isinstance rfl (Zaa (pv 3) (Zaa (Za1 (v:=.ref (cM)) rfl R.g_NoMove rfl) Zac)))) (Zdc (Zdo (Zck (pv 4)))))) (Zaf (Zal (Zaw (Zaa Zax (Zaa (pe_xfldK (K:=K) (pv 3) rfl) Zac))))) Zan)
   (Zaf (Zal (Zaw (Zaa Zax (Zaa Zbs Zac)))))))))
   (Zaf (Zal (Zaw (Zaa Zax (Zaa (pv 2) Zac))))))),?_⟩
  refine ⟨XE H (fun C fs _=>C=cM∧fs=([(("steps":Str),V.ref sa)]:List (Str × V))∧mvd t st wo=none),
   ⟨_,rfl,_,rfl,v,t,st,sa,mo,wo,rfl,ho,hm,hs,hl,nd,fun e=>XE.rf fun fs H' hp=>⟨rfl,hp,e⟩,fun s' e v' H1 s1 o1=>⟨_,rfl,lenOk 2,fun c nc=>q s' e c v' _ (s1.trans (Same.new nc)) (o1.same (Same.new nc)) upd_same⟩⟩,?_⟩
  rintro x' C' d T0 T2 H' ⟨x2,C2,dx,fs,ev,rfl,hx,s34,xr,rfl,rfl,e⟩ fl hT2 nT2
  obtain rfl:x'=x2:=Value.ref.inj ev
  obtain ⟨rfl,xr',s5⟩:=xr_on hx s34 xr fl hT2
  obtain ⟨⟨dx',ed,ndx,hd⟩,T3,hxT⟩:=xr'
  cases ed
  generalize thrown H' x' C2 (some dx) T2=H5 at hd hxT s5 ⊢
  refine ⟨R.mM,?_⟩
  refine ⟨_,rfl,lenOk 3,fun tt ntt=>?_⟩
  have s6:Same H5 (upd H5 tt (.tup [.ref cN,.ref cD,.ref cK])):=Same.new ntt
  have e6:(upd H5 tt (.tup [.ref cN,.ref cD,.ref cK])) tt=some (.tup [.ref cN,.ref cD,.ref cK]):=upd_same
  generalize upd H5 tt (.tup [.ref cN,.ref cD,.ref cK])=H6 at s6 e6 ⊢
  have he6:IsExc H6 x' C2:=.inl ⟨dx,_,.inr ⟨T3,s6 _ _ hxT⟩,s6 _ _ hd⟩
  refine ⟨x',C2,tt,cN,cD,cK,rfl,he6,R.clM,e6,R.kMN,R.kMD,R.kMK,?_⟩
  refine ⟨_,rfl,x',C2,.ref C2,.ref C2,true,rfl,he6,R.clM,rfl,(fun _ z=>z),R.kMM,_,rfl,iteP rfl ?_⟩
  refine ⟨_,rfl,_,rfl,iteP rfl ?_⟩
  refine ⟨_,rfl,x',C2,dx,_,_,rfl,.inr ⟨T3,s6 _ _ hxT⟩,s6 _ _ hd,R.clM,R.n_steps,lookup1,lenOk 2,fun c nc=>?_⟩
  have s7:Same H6 (upd H6 c (.tup [.str "none",.ref sa])):=Same.new nc
  exact qx e c _ (s5.trans (s6.trans s7)) upd_same
theorem xfin {H:Hp} {x d:Addr} {o1 o2:HO} {E1:HO} (hx:H x=some E1) (hd:H d=none):(upd (upd H d o1) x o2) x=some o2∧(upd (upd H d o1) x o2) d=some o1∧∀ a o,a≠x→H a=some o→(upd (upd H d o1) x o2) a=some o :=
 ⟨upd_same,by rw [Zak (Ne.symm (Zag hx hd)),upd_same],fun a o ne e=>by rw [Zak ne,Zak (Zag e hd)]; exact e⟩
theorem Zif:Zap ["self","steps"] ["self","steps"] (Zad Zbp):=⟨rfl,rfl,rfl,by decide +kernel,rfl,by decide +kernel,by decide +kernel⟩
theorem Zgc {f C:Addr} {fd:FuncData} (F:Fun K "__init__" "NoMove.__init__" Zbp f fd) (R:XCls K C) (n1:NoAttr K C "steps"):FnOk P w K mg base CX0 1 f fd ["self","steps"] (sp_x C ["steps"]):=by
 have S:=Zif
 refine F.ok S (fun vs H Q E h=>?_) (fun cdv A outer s H vs Q E hr h=>?_)
 ·obtain ⟨x,ws,rfl,hl,_⟩:=h; rw [List.length_cons,hl]; rfl
 ·obtain ⟨x,ws,rfl,hl,hx,q⟩:=h
  obtain ⟨v0,rfl⟩:=len1 hl
  refine ⟨_,(Zaf (ps_xfld (pv 0) (pv 1) rfl)),?_⟩
  refine ⟨_,rfl,_,rfl,x,C,rfl,R,n1,.inl ⟨hx,fun d hd=>?_⟩⟩
  obtain ⟨e1,e2,e3⟩:=xfin (o1:=ExcD d [("steps",v0)]) (o2:=ExcO C d x) hx hd
  exact q d _ hd e1 e2 e3
theorem fit0' {t:Tr} {ww hh:Int} (f:FitR ⟨0,0,hh,ww⟩ t):Fit t ww hh:=by
 have f:Fit t (ww - 0) (hh - 0):=f
 rw [Int.sub_zero,Int.sub_zero] at f; exact f
def nth (b:List Stmt) (i:Nat):Stmt:=b.getD i (.Pass ⟨0,0,0,0⟩)
def forBody:Stmt→List Stmt
 | .For _ _ b _ _=>b
 | _=>[]
theorem str4 {v:V} {a b c d:Str} (h:v∈([.str a,.str b,.str c,.str d]:List V)):∃ z:Str,v=.str z:=by
 simp only [List.mem_cons,List.not_mem_nil,or_false] at h
 rcases h with rfl | rfl | rfl | rfl <;> exact ⟨_,rfl⟩
theorem str5 {v:V} {a b c d e:Str} (h:v∈([.str a,.str b,.str c,.str d,.str e]:List V)):∃ z:Str,v=.str z:=by
 simp only [List.mem_cons,List.not_mem_nil,or_false] at h
 rcases h with rfl | rfl | rfl | rfl | rfl <;> exact ⟨_,rfl⟩
theorem stD_is {K:PySem.W.Frag} {H:Hp} {sa:Addr} {st:List Int} (h:H sa=some (.tup (st.map V.int))):DIs K H (.tup (intsD' st)) (.ref sa):=by
 rw [DIs]
 exact ⟨_,_,rfl,SqT.of h,Zd2 st⟩
abbrev N_law:List Str:=["_law_script","_law_width","_law_height","_law_block","_law_told_here","_law_some","_law_tree_here","_law_cell_here","_law_steps_here","_law_word","_law_due","_law_way","_law_found"]
theorem S_law:Zap N_law ["_law_script"] (Zad Zef):=⟨rfl,rfl,rfl,by decide +kernel,rfl,by decide +kernel,by decide +kernel⟩
def sp_law (K:PySem.W.Frag):Sp:=fun vs H Q _=>∃ (a:Addr) (ns:List Int),vs=[.ref a]∧SqL K H a (ns.map V.int)∧ns.length≤63∧∀ H',Q (.bl true) H'
structure Stnd (cW cU cL:Addr) (H:Hp) (r:Tr) (v o:V) (ww hh:Int) (L:List (Rk × Option Int)):Prop where
 told:Told H r v
 obj:Obj cW cU cL H r o
 fit:Fit r ww hh
 due:Due r ww hh L
theorem Stnd.same {H H':Hp} {r:Tr} {v o:V} {ww hh:Int} {L:List (Rk × Option Int)} (h:Stnd cW cU cL H r v o ww hh L) (s:Same H H'):Stnd cW cU cL H' r v o ww hh L:=⟨h.told.same s,h.obj.same s,h.fit,h.due⟩
theorem ok_law {f:Addr} {fd:FuncData} (F:Fun K "law" "law" Zef f fd) (T:Txt mg tk) (D__law_cell:DefOk P w K mg base 1 "_law_cell" ["_law_script","_law_k"] (Zj6 K)) (D__law_draw:DefOk P w K mg base 1 "_law_draw" ["_law_cell_here","_law_nth","_law_many"] Zfe) (D__law_state:DefOk P w K mg base 1 "_law_state" ["_law_cell_here"] Zex)
  (D__law_tree:DefOk P w K mg base 28 "_law_tree" ["_law_cells","_law_width","_law_height"] (Ze8 25)) (D__law_pieces:DefOk P w K mg base 27 "_law_pieces" ["_law_told_here","_law_block"] (Zc2 24)) (D__law_recut:DefOk P w K mg base 28 "_law_recut" ["_law_some","_law_block","_law_state_here"] (Zdt 25)) (D__law_made:DefOk P w K mg base 27 "_law_made" ["_law_told_here"] (Zfa cW cU cL 24))
  (D__law_steps:DefOk P w K mg base 2 "_law_steps" ["_law_told_here","_law_cell_here"] Zfc) (D__law_moved:DefOk P w K mg base 27 "_law_moved" ["_law_told_here","_law_steps_here","_law_word"] (Zdu 24)) (D__law_asked:DefOk P w K mg base 7 "_law_asked" ["_law_tree_here","_law_move"] (Zj4 cW cU cL)) (D__law_told:DefOk P w K mg base 27 "_law_told" ["_law_tree_here"] (Zdv cW cU cL 24)):FnOk P w K mg base CX0 29 f fd ["_law_script"] (sp_law K):=by
 have S:=S_law
 refine F.ok S (fun vs H Q E h=>?_) (fun cdv A outer s H vs Q E hr h=>?_)
 ·obtain ⟨a,ns,rfl,_⟩:=h; rfl
 ·obtain ⟨a,ns,rfl,hS0,hlen,q⟩:=h
  obtain ⟨tS,hS,kS⟩:∃ rd,PSs (cxOf CX0 P w K mg base N_law "law" (Zad Zef) f cdv A outer s H E).nox ((forBody (nth (Zaj Zef) 7)).drop 3) rd∧∀ (ww hh:Int) (bk ls:Addr) (zs:List PT) (r:Tr) (v o:V) (sa:Addr) (st:List Int) (wo:Str) (w0 w7 w10 w11 w12:Option V) (D:Ends) (H1:Hp),1≤ww→ww≤12→1≤hh→hh≤12→H1 bk=some (.tup [.int 0,.int 0,.int hh,.int ww])→H1 ls=some (.lst (pcs zs))→PcO H1 zs→Stnd cW cU cL H1 r v o ww hh (cons zs)→H1 sa=some (.tup (st.map V.int))→st.length≤100 →
    (∀ (r':Tr) (v' o' d1 d2 d3:V) (H2:Hp),Same H1 H2→Stnd cW cU cL H2 r' v' o' ww hh (cons zs)→D.nx [w0,some (.int ww),some (.int hh),some (.ref bk),some v',some (.ref ls),some o',w7,some (.ref sa),some (.str wo),some d1,some d2,some d3] H2) →
    rd D [w0,some (.int ww),some (.int hh),some (.ref bk),some v,some (.ref ls),some o,w7,some (.ref sa),some (.str wo),w10,w11,w12] H1:=by
   refine ⟨_,(Zab (Zam (i:=10) S.nd rfl (Or.inl rfl) (Zaq D__law_moved hr (Zaa (pv 4) (Zaa (pv 8) (Zaa (pv 9) Zac)))))
   (Zab (Zgn (Zaq D__law_asked hr (Zaa (pv 6) (Zaa (Zaw (Zaa (pv 8) (Zaa (pv 9) Zac))) Zac))) (Zdw rfl (Zas (Zau (i:=11) S.nd rfl (Or.inl rfl)) (Zas (Zau (i:=12) S.nd rfl (Or.inl rfl)) Zcu))))
   (Zab (Za9 (Zai (op_neD hr) (Zaq D__law_told hr (Zaa (pv 6) Zac)) (pv 4) (nomark _)) (Zaf (Zal pe_bl)) Zan)
   (Zaf (Za9 (Zai Ziv (pv 10) Zbs (nomark _)) (Zaf (Za9 (PW.pt (Zhg (Zai Zit (pv 11) Zax (nomark _)) (Zgl (Zai (op_neD hr) (pv 12) (pv 8) (nomark _))))) (Zaf (Zal pe_bl)) Zan)) (Zab (Za9 (PW.pt (Zhg (Zai Zit (pv 11) Zax (nomark _)) (Zhg (Zai (op_neD hr) (Zaq D__law_told hr (Zaa (pv 12) Zac)) (pv 10) (nomark _)) (Zgl (Zai (op_neD hr) (Zay (Zet hr) rfl T.z_sorted rfl (Zaa (Zaq D__law_pieces hr (Zaa (pv 10) (Zaa (pv 3) Zac))) Zac)) (pv 5) (nomark _)))))) (Zaf (Zal pe_bl)) Zan)
   (Zab (Zam (i:=4) S.nd rfl (Or.inl rfl) (pv 10))
   (Zaf (Zam (i:=6) S.nd rfl (Or.inl rfl) (pv 12)))))))))),?_⟩
   intro ww hh bk ls zs r v o sa st wo w0 w7 w10 w11 w12 D H1 w1 w2 g1 g2 hbk hls pc sd hs ls100 qq
   have dp:=Zd3 w1 g1 sd.fit
   have sz:=Zfu w1 g1 sd.fit
   have m4:ww * hh≤12 * 12:=Int.mul_le_mul w2 g2 (by lia) (by lia)
   refine ⟨_,rfl,_,rfl,_,rfl,v,r,st,sa,wo,rfl,sd.told,hs,by lia,by lia,by lia,fun dv H2 s2 td=>?_⟩
   have keep:∀ s',mvd r st wo=some s'→Fit s' ww hh∧(gath s' ⟨0,0,hh,ww⟩).Perm (gath r ⟨0,0,hh,ww⟩)∧s'.nd≤400∧s'.dp < 24∧s'.sz≤150:=fun s' e=>by
    obtain ⟨k1,k2⟩:=Zhq (fit0 sd.fit) e
    have f':=fit0' k1
    have d':=Zd3 w1 g1 f'
    have z':=Zfu w1 g1 f'
    have n':=nd_sz s'
    exact ⟨f',k2,by lia,by lia,by lia⟩
   refine ⟨_,rfl,_,rfl,_,rfl,lenOk 2,fun mo nmo=>?_⟩
   have s3:Same H2 (upd H2 mo (.tup [.ref sa,.str wo])):=Same.new nmo
   have e3:(upd H2 mo (.tup [.ref sa,.str wo])) mo=some (.tup [.ref sa,.str wo]):=upd_same
   generalize upd H2 mo (.tup [.ref sa,.str wo])=H3 at s3 e3 ⊢
   have s13:=s2.trans s3
   refine ⟨o,r,st,sa,mo,wo,rfl,sd.obj.same s13,e3,s13 _ _ hs,by lia,fun s' e=>(keep s' e).2.2.1,fun e c H4 s4 hc=>?_,fun s' e c v' H4 s4 ov hc=>?_⟩
   ·rw [e] at td
    obtain rfl:dv=.non:=td
    have s14:=s13.trans s4
    refine ⟨c,_,rfl,SqT.of hc,rfl,_,_,rfl,_,_,rfl,rfl,?_⟩
    refine ⟨_,rfl,o,r,rfl,sd.obj.same s14,by lia,fun v5 H5 s5 t5=>?_⟩
    have s15:=s14.trans s5
    have D1:=Zeo (K:=K) t5
    have D2:=Zeo (K:=K) (sd.told.same s15)
    refine ⟨_,rfl,_,_,D1,D2,Zdl t5,Zdl (sd.told.same s15),by have:=Ze6 r; lia,_,rfl,iteN (by rw [if_pos rfl,Zcn _ D1]; rfl) ?_⟩
    refine ⟨_,rfl,rfl,_,rfl,iteP (decide_eq_true rfl) ?_⟩
    have D3:=stD_is (K:=K) (s15 _ _ hs)
    refine ⟨_,rfl,rfl,_,rfl,iteN (by rw [decide_eq_true rfl]; rfl) ?_⟩
    refine ⟨_,rfl,_,rfl,_,_,D3,D3,⟨_,rfl⟩,⟨_,rfl⟩,by rw [dep,Zel]; lia,_,rfl,iteN (by rw [if_pos rfl,Zcn _ D3]; rfl) ?_⟩
    exact qq r v o _ _ _ H5 s15 (sd.same s15)
   ·rw [e] at td
    have td:Told H2 s' dv:=td
    obtain ⟨kf,kp,kn,kd,ks⟩:=keep s' e
    have s14:=s13.trans s4
    have s24:=s3.trans s4
    refine ⟨c,_,rfl,SqT.of hc,rfl,_,_,rfl,_,_,rfl,rfl,?_⟩
    refine ⟨_,rfl,o,r,rfl,sd.obj.same s14,by lia,fun v5 H5 s5 t5=>?_⟩
    have s15:=s14.trans s5
    have s25:=s24.trans s5
    have D1:=Zeo (K:=K) t5
    have D2:=Zeo (K:=K) (sd.told.same s15)
    refine ⟨_,rfl,_,_,D1,D2,Zdl t5,Zdl (sd.told.same s15),by have:=Ze6 r; lia,_,rfl,iteN (by rw [if_pos rfl,Zcn _ D1]; rfl) ?_⟩
    refine ⟨_,rfl,rfl,_,rfl,iteN (Zdb td) ?_⟩
    refine ⟨_,rfl,rfl,_,rfl,iteN (by rw [decide_eq_true rfl]; rfl) ?_⟩
    refine ⟨_,rfl,v',s',rfl,ov.same s5,kd,fun v6 H6 s6 t6=>?_⟩
    have s16:=s15.trans s6
    have s26:=s25.trans s6
    have td6:=td.same s26
    have D3:=Zeo (K:=K) t6
    have D4:=Zeo (K:=K) td6
    refine ⟨_,rfl,_,_,D3,D4,Zdl t6,Zdl td6,by have:=Ze6 s'; lia,_,rfl,iteN (by rw [if_pos rfl,Zcn _ D3]; rfl) ?_⟩
    refine ⟨_,rfl,_,rfl,dv,s',bk,⟨0,0,hh,ww⟩,rfl,td6,s16 _ _ hbk,kd,by lia,fun lp ts H7 s7 nl7 hl7 pc7 ec7=>?_⟩
    obtain ⟨r1,r2,r3,r4⟩:=srt_pcs w1 w2 g1 g2 kf pc7 ec7
    refine ⟨lp,ts.map toPR,3,GB.key,rfl,by rw [Zhh]; exact SqL.of hl7,r1,r2,r3,fun l8 us8 n8 pm8 sr8=>?_⟩
    obtain ⟨zs8,rfl,pz8,dz8⟩:=r4 us8 pm8 sr8
    rw [Zhh]
    have s8:Same H7 (upd H7 l8 (.lst (pcs zs8))):=Same.new n8
    have e8:(upd H7 l8 (.lst (pcs zs8))) l8=some (.lst (pcs zs8)):=upd_same
    generalize upd H7 l8 (.lst (pcs zs8))=H8 at s8 e8 ⊢
    have s68:=s7.trans s8
    have s18:=s16.trans s68
    have due':Due r ww hh (cons zs8):=⟨dz8.1.trans kp,dz8.2⟩
    have eqC:cons zs8=cons zs:=due_same w1 w2 g1 g2 sd.fit due' sd.due
    have D5:DIs K H8 (.lst (gsD (cons zs))) (.ref l8):=by rw [← eqC]; exact gsL e8 ((pc7.perm pz8).same s8)
    have D6:DIs K H8 (.lst (gsD (cons zs))) (.ref ls):=gsL (s18 _ _ hls) (pc.same s18)
    refine ⟨_,rfl,_,_,D5,D6,⟨_,rfl⟩,⟨_,rfl⟩,by have:=gsD_dep (cons zs); rw [dep]; lia,_,rfl,iteN (by rw [if_pos rfl,Zcn _ D5]; rfl) ?_⟩
    refine ⟨_,rfl,_,rfl,?_⟩
    exact qq s' dv v' _ _ _ H8 s18 ⟨td.same (s26.trans s68),ov.same (s5.trans (s6.trans s68)),kf,eqC ▸ dz8⟩
  obtain ⟨tB,hB,kB⟩:∃ rd,PSs (cxOf CX0 P w K mg base N_law "law" (Zad Zef) f cdv A outer s H E).nox ((Zaj Zef).drop 7) rd∧∀ (ww hh:Int) (bk ls:Addr) (zs:List PT) (r:Tr) (v o:V) (H1:Hp),Same H H1→1≤ww→ww≤12→1≤hh→hh≤12→H1 bk=some (.tup [.int 0,.int 0,.int hh,.int ww])→H1 ls=some (.lst (pcs zs))→PcO H1 zs→Stnd cW cU cL H1 r v o ww hh (cons zs) →
    rd { nx:=fun _ H'=>Q .non H',rt:=Q } [some (.ref a),some (.int ww),some (.int hh),some (.ref bk),some v,some (.ref ls),some o,none,none,none,none,none,none] H1:=by
   refine ⟨_,(Zab (Zgm PassesOwn.never rfl (Zfi (Zbb op_cat (Zcv (Zaa (Zaq D__law_cell hr (Zaa (pv 0) (Zaa Zae Zac))) Zac)) (Zdx sl_list (pv 0) (Zdq Zae) (Zdq Zae)))) (Zau (i:=7) S.nd rfl (Or.inl rfl)) (Zab (Zam (i:=8) S.nd rfl (Or.inl rfl) (Zaq D__law_steps hr (Zaa (pv 4) (Zaa (pv 7) Zac))))
   (Zab (Zam (i:=9) S.nd rfl (Or.inl rfl) (Zcv (Zaa Zax (Zaa Zax (Zaa Zax (Zaa Zax (Zaa (Zav Zcg (Zcv (Zaa Zax (Zaa Zax (Zaa Zax (Zaa Zax Zac))))) (Zaq D__law_draw hr (Zaa (pv 7) (Zaa Zae (Zaa Zae Zac)))) (fun _ _=>rfl)) Zac)))))))
   (Zab (Zam (i:=9) S.nd rfl (Or.inl rfl) (Zav Zcg (pv 9) (Zaq D__law_draw hr (Zaa (pv 7) (Zaa Zae (Zaa Zae Zac)))) (fun _ _=>rfl)))
   hS))))
   (Zaf (Zal pe_bl))),?_⟩
   intro ww hh bk ls zs r v o H1 s1 w1 w2 g1 g2 hbk hls pc sd
   refine ⟨_,rfl,a,ns,2,rfl,s1.seq hS0,by decide,fun c1=>⟨lenOk 1,fun l1 nl1=>?_⟩⟩
   have y1:Same H1 (upd H1 l1 (.lst [.int c1])):=Same.new nl1
   have e1:(upd H1 l1 (.lst [.int c1])) l1=some (.lst [.int c1]):=upd_same
   generalize upd H1 l1 (.lst [.int c1])=H2 at y1 e1 ⊢
   refine ⟨_,rfl,27,rfl,57,rfl,a,_,rfl,(s1.trans y1).seq hS0,fun l2 nl2=>?_⟩
   obtain ⟨cs,ecs,lcs⟩:∃ cs:List Int,cutV (ns.map V.int) (some 27) (some 57)=cs.map V.int∧cs.length≤63:=by
    refine ⟨(ns.drop (HT.sIx (ns.map V.int).length 0 (some 27))).take (HT.sIx (ns.map V.int).length (ns.map V.int).length (some 57) - HT.sIx (ns.map V.int).length 0 (some 27)),by unfold cutV; rw [← List.map_drop,← List.map_take],?_⟩
    rw [List.length_take,List.length_drop]
    lia
   rw [ecs]
   have y2:Same H2 (upd H2 l2 (.lst (cs.map V.int))):=Same.new nl2
   have e2:(upd H2 l2 (.lst (cs.map V.int))) l2=some (.lst (cs.map V.int)):=upd_same
   generalize upd H2 l2 (.lst (cs.map V.int))=H3 at y2 e2 ⊢
   refine ⟨l1,l2,_,_,rfl,rfl,y2 _ _ e1,e2,Nat.le_of_lt (Za8 (by rw [List.length_map]; show 1+cs.length≤1000; lia)),fun p np=>?_⟩
   have ea:[V.int c1]++cs.map V.int=(c1 :: cs).map V.int:=rfl
   rw [ea]
   have y3:Same H3 (upd H3 p (.lst ((c1 :: cs).map V.int))):=Same.new np
   have e3:(upd H3 p (.lst ((c1 :: cs).map V.int))) p=some (.lst ((c1 :: cs).map V.int)):=upd_same
   generalize upd H3 p (.lst ((c1 :: cs).map V.int))=H4 at y3 e3 ⊢
   have s14:=y1.trans (y2.trans y3)
   refine ⟨p,rfl,⟨_,SqL.of e3⟩,for_list (K:=K) (a:=p) (xs:=(c1 :: cs).map V.int) (fun i σ H'=>∃ (r':Tr) (v' o':V) (w7 w8 w9 w10 w11 w12:Option V),σ=[some (.ref a),some (.int ww),some (.int hh),some (.ref bk),some v',some (.ref ls),some o',w7,w8,w9,w10,w11,w12]∧Same H4 H'∧Stnd cW cU cL H' r' v' o' ww hh (cons zs))
    ⟨r,v,o,_,_,_,_,_,_,rfl,Same.refl _,sd.same s14⟩ (fun i σ H' _ hp=>by obtain ⟨_,_,_,_,_,_,_,_,_,_,s',_⟩:=hp; exact SqL.of (s' _ _ e3)) ?_ ?_⟩
   ·rintro i x σ H5 hx ⟨r',v',o',w7,w8,w9,w10,w11,w12,rfl,s5,sd5⟩
    obtain ⟨c,_,rfl⟩:=Zhu hx
    have dp:=Zd3 w1 g1 sd5.fit
    refine ⟨_,rfl,_,rfl,v',r',c,rfl,sd5.told,by lia,fun sa st H6 s6 hs6 l6=>?_⟩
    refine ⟨lenOk 4,fun L1 nL1=>?_⟩
    obtain ⟨Y1,hY1⟩:∃ Y:List V,Y=[.str "Lean",.str "",.str "turn",.str "over"]:=⟨_,rfl⟩
    have z1:Same H6 (upd H6 L1 (.lst [.str "Lean",.str "",.str "turn",.str "over"])):=Same.new nL1
    have f1:(upd H6 L1 (.lst [.str "Lean",.str "",.str "turn",.str "over"])) L1=some (.lst [.str "Lean",.str "",.str "turn",.str "over"]):=upd_same
    generalize upd H6 L1 (.lst [.str "Lean",.str "",.str "turn",.str "over"])=H7 at z1 f1 ⊢
    refine ⟨_,rfl,c,71,4,rfl,by decide,by decide,by decide,fun r1 r10 r11=>?_⟩
    obtain ⟨u1,hu1,hm1⟩:=atI_in (L:=[.str "Lean",.str "",.str "turn",.str "over"]) (i:=r1) r10 r11
    obtain ⟨x1,rfl⟩:=str4 hm1
    refine ⟨L1,_,_,_,rfl,rfl,SqL.of f1,hu1,lenOk 5,fun L2 nL2=>?_⟩
    have z2:Same H7 (upd H7 L2 (.lst [.str "lean",.str "back",.str "cross",.str "cross",.str x1])):=Same.new nL2
    have f2:(upd H7 L2 (.lst [.str "lean",.str "back",.str "cross",.str "cross",.str x1])) L2=some (.lst [.str "lean",.str "back",.str "cross",.str "cross",.str x1]):=upd_same
    generalize upd H7 L2 (.lst [.str "lean",.str "back",.str "cross",.str "cross",.str x1])=H8 at z2 f2 ⊢
    refine ⟨_,rfl,_,rfl,c,72,5,rfl,by decide,by decide,by decide,fun r2 r20 r21=>?_⟩
    obtain ⟨u2,hu2,hm2⟩:=atI_in (L:=[.str "lean",.str "back",.str "cross",.str "cross",.str x1]) (i:=r2) r20 r21
    obtain ⟨wo,rfl⟩:=str5 hm2
    refine ⟨L2,_,_,_,rfl,rfl,SqL.of f2,hu2,?_⟩
    have s48:=s5.trans (s6.trans (z1.trans z2))
    have s18:=s14.trans s48
    have s58:=s6.trans (z1.trans z2)
    exact kS ww hh bk ls zs r' v' o' sa st wo _ _ _ _ _ _ H8 w1 w2 g1 g2 (s18 _ _ hbk) (s18 _ _ hls) (pc.same s18) (sd5.same s58) ((z1.trans z2) _ _ hs6) l6 (fun r'' v'' o'' d1 d2 d3 H9 s9 sd9=>⟨r'',v'',o'',_,_,_,_,_,_,rfl,s48.trans s9,sd9⟩)
   ·rintro σ H5 ⟨r',v',o',w7,w8,w9,w10,w11,w12,rfl,s5,sd5⟩
    exact q H5
  refine ⟨_,(Zab (Zam (i:=1) S.nd rfl (Or.inl rfl) (Zbb Zb4 Zae (Zbb Zfk (Zaq D__law_cell hr (Zaa (pv 0) (Zaa Zae Zac))) Zae)))
   (Zab (Zam (i:=2) S.nd rfl (Or.inl rfl) (Zbb Zb4 Zae (Zbb Zfk (Zaq D__law_cell hr (Zaa (pv 0) (Zaa Zae Zac))) Zae)))
   (Zab (Zam (i:=3) S.nd rfl (Or.inl rfl) (Zaw (Zaa Zae (Zaa Zae (Zaa (pv 2) (Zaa (pv 1) Zac))))))
   (Zab (Zam (i:=4) S.nd rfl (Or.inl rfl) (Zaq D__law_tree hr (Zaa (pe_rev (Zdx sl_list (pv 0) (Zdq Zae) (Zdq Zae)) (Zkd Ze5 Zae)) (Zaa (pv 1) (Zaa (pv 2) Zac)))))
   (Zab (Zam (i:=5) S.nd rfl (Or.inl rfl) (Zay (Zet hr) rfl T.z_sorted rfl (Zaa (Zaq D__law_pieces hr (Zaa (pv 4) (Zaa (pv 3) Zac))) Zac)))
   (Zab (Zam (i:=4) S.nd rfl (Or.inl rfl) (Zaq D__law_recut hr (Zaa (pv 5) (Zaa (pv 3) (Zaa (Zaq D__law_state hr (Zaa (Zaq D__law_cell hr (Zaa (pv 0) (Zaa Zae Zac))) Zac)) Zac)))))
   (Zab (Zam (i:=6) S.nd rfl (Or.inl rfl) (Zaq D__law_made hr (Zaa (pv 4) Zac)))
   hB))))))),?_⟩
  refine ⟨_,rfl,a,ns,0,rfl,hS0,by decide,fun z1=>⟨_,_,rfl,rfl,(show (0:Int) < 12 from by decide),_,_,rfl,rfl,?_⟩⟩
  refine ⟨_,rfl,a,ns,1,rfl,hS0,by decide,fun z2=>⟨_,_,rfl,rfl,(show (0:Int) < 12 from by decide),_,_,rfl,rfl,?_⟩⟩
  have w1:1≤1+z1 % 12:=by lia
  have w2:1+z1 % 12≤12:=by lia
  have g1:1≤1+z2 % 12:=by lia
  have g2:1+z2 % 12≤12:=by lia
  refine ⟨_,rfl,_,rfl,lenOk 4,fun bk nbk=>?_⟩
  have sA':Same H (upd H bk (.tup [V.int 0,V.int 0,(fun i j=>V.int (i+j)) 1 (z2 % 12),(fun i j=>V.int (i+j)) 1 (z1 % 12)])):=Same.new nbk
  obtain ⟨HA,hHA⟩:∃ HA,HA=upd H bk (.tup [V.int 0,V.int 0,(fun i j=>V.int (i+j)) 1 (z2 % 12),(fun i j=>V.int (i+j)) 1 (z1 % 12)]):=⟨_,rfl⟩
  rw [← hHA] at sA' ⊢
  have sA:Same H HA:=sA'
  have eA:HA bk=some (.tup [.int 0,.int 0,.int (1+z2 % 12),.int (1+z1 % 12)]):=by rw [hHA]; exact upd_same
  clear hHA sA'
  refine ⟨_,rfl,3,rfl,27,rfl,a,_,rfl,sA.seq hS0,fun l nl=>?_⟩
  obtain ⟨cs,ecs⟩:∃ cs:List Int,cutV (ns.map V.int) (some 3) (some 27)=cs.map V.int:=⟨_,by unfold cutV; rw [← List.map_drop,← List.map_take]⟩
  rw [ecs]
  have y1:Same HA (upd HA l (.lst (cs.map V.int))):=Same.new nl
  have e1:(upd HA l (.lst (cs.map V.int))) l=some (.lst (cs.map V.int)):=upd_same
  generalize upd HA l (.lst (cs.map V.int))=H1 at y1 e1 ⊢
  refine ⟨1,rfl,l,_,rfl,rfl,SqL.of e1,fun r nr=>?_⟩
  rw [← List.map_reverse]
  have y2:Same H1 (upd H1 r (.lst (cs.reverse.map V.int))):=Same.new nr
  have e2:(upd H1 r (.lst (cs.reverse.map V.int))) r=some (.lst (cs.reverse.map V.int)):=upd_same
  have nrA:=wasNone y1 nr
  generalize upd H1 r (.lst (cs.reverse.map V.int))=H2 at y2 e2 ⊢
  refine ⟨_,rfl,_,rfl,r,_,1+z1 % 12,1+z2 % 12,rfl,e2,w1,g1,by lia,w2,g2,fun v t H3 ms' sx e3 told fit=>?_⟩
  have sB3:Same HA H3:=sx.same (y1.trans y2) nrA
  have s3:Same H H3:=sA.trans sB3
  have dp:=Zd3 w1 g1 fit
  have sz:=Zfu w1 g1 fit
  have nds:=nd_sz t
  have m4:=Int.mul_le_mul w2 g2 (by lia) (by lia:(0:Int)≤12)
  refine ⟨_,rfl,_,rfl,v,t,bk,⟨0,0,1+z2 % 12,1+z1 % 12⟩,rfl,told,sB3 _ _ eA,by lia,by lia,fun lp ts H6 s6 nl6 hl6 pc ec=>?_⟩
  obtain ⟨r1,r2,r3,r4⟩:=srt_pcs w1 w2 g1 g2 fit pc ec
  refine ⟨lp,ts.map toPR,3,GB.key,rfl,by rw [Zhh]; exact SqL.of hl6,r1,r2,r3,fun l7 us7 n7 pm sr=>?_⟩
  obtain ⟨zs,rfl,pz,dz⟩:=r4 us7 pm sr
  rw [Zhh]
  have s7:Same H6 (upd H6 l7 (.lst (pcs zs))):=Same.new n7
  have e7:(upd H6 l7 (.lst (pcs zs))) l7=some (.lst (pcs zs)):=upd_same
  generalize upd H6 l7 (.lst (pcs zs))=H7 at s7 e7 ⊢
  have s67:=s6.trans s7
  have s07:=s3.trans s67
  have sA7:=sB3.trans s67
  have ok:Rk.ok ⟨0,0,1+z2 % 12,1+z1 % 12⟩:=⟨show (0:Int) < 1+z2 % 12 by lia,show (0:Int) < 1+z1 % 12 by lia⟩
  have bd:∀ u,0≤Rk.lo ⟨0,0,1+z2 % 12,1+z1 % 12⟩ u∧Rk.hi ⟨0,0,1+z2 % 12,1+z1 % 12⟩ u≤12:=fun u=>by
   cases u
   ·exact ⟨Int.le_refl _,g2⟩
   ·exact ⟨Int.le_refl _,w2⟩
  have zl:=dz.1.length_eq
  rw [Zci,List.length_map] at zl
  have dim:Rk.len ⟨0,0,1+z2 % 12,1+z1 % 12⟩ true+Rk.len ⟨0,0,1+z2 % 12,1+z1 % 12⟩ false < ((25:Nat):Int):=by
   show 1+z1 % 12 - 0+(1+z2 % 12 - 0) < 25; lia
  have pc7:=(pc.perm pz).same s7
  refine ⟨_,rfl,_,rfl,_,rfl,a,ns,2,rfl,s07.seq hS0,by decide,fun c1=>⟨c1,rfl,fun st2 H8 s8 n8 st8=>?_⟩⟩
  refine ⟨l7,bk,st2,zs,⟨0,0,1+z2 % 12,1+z1 % 12⟩,t,0,rfl,s8 _ _ e7,pc7.same s8,by lia,(sA7.trans s8) _ _ eA,ok,bd,fit0 fit,dz.1,st8,Int.le_refl _,by lia,dim,fun v1 r1' H9 tm9 s9 _ _ _ t1 f1 p1=>?_⟩
  have s79:Same H7 H9:=s9.same s8 n8
  have d1:=Zd3 w1 g1 (fit0' f1)
  refine ⟨_,rfl,v1,r1',rfl,t1,by lia,fun o1 H10 s10 b1=>?_⟩
  have s710:=s79.trans s10
  exact kB _ _ bk l7 zs r1' v1 o1 H10 (s07.trans s710) w1 w2 g1 g2 ((sA7.trans s710) _ _ eA) (s710 _ _ e7) (pc7.same s710) ⟨t1.same s10,b1,fit0' f1,dz.1.trans p1.symm,dz.2⟩
def icB (K:PySem.W.Frag) (C:Addr):Bool:=PySem.W.plainGet K C Str.empty && (PySem.W.hasDictIn K C && (PySem.W.plainOver K C && ((PySem.W.findIn K (.ref C) "__setattr__" == some (some (.builtin "object.__setattr__"))) && ((PySem.W.findIn K (.ref C) "__class__" == some (some (.builtin "object.__class__"))) &&
 ((PySem.W.specialIn K (.builtin "object.__class__") "__get__" == some (some (.builtin "getset_descriptor.__get__"))) && ((PySem.W.takesIn K (.builtin "object.__class__") == some true) && ((PySem.W.mroIn K C (.type "object") == some true) && (PySem.W.makesIn K C && PySem.W.keepIn K (.ref C)))))))))
theorem icB_of {C:Addr} (h:icB K C=true):ICls K C∧PySem.W.makesIn K C=true∧PySem.W.keepIn K (.ref C)=true:=by
 unfold icB at h
 simp only [Bool.and_eq_true,beq_iff_eq] at h
 obtain ⟨a,b,c,d,e,f,g,i,j,l⟩:=h
 exact ⟨⟨⟨a,b,c,d⟩,e,f,g,i⟩,j,l⟩
def kitB (K:PySem.W.Frag) (cT cW cU cL:Addr):Bool:=([(cW,"mark"),(cU,"at"),(cU,"first"),(cU,"other"),(cL,"at"),(cL,"first"),(cL,"other")]:List (Addr × Str)).all (fun p=>PySem.W.findIn K (.ref p.1) p.2 == some none) &&
 ([(cW,cW,true),(cW,cU,false),(cW,cL,false),(cU,cW,false),(cL,cW,false),(cU,cU,true),(cU,cL,false),(cL,cU,false),(cL,cL,true),(cW,cT,true),(cU,cT,true),(cL,cT,true)]:List (Addr × Addr × Bool)).all (fun p=>PySem.W.kitOne K (.ref p.1) (.ref p.2.1) == some p.2.2)
theorem rt_of (h:kitB K cT cW cU cL=true) (iW:ICls K cW) (iU:ICls K cU) (iL:ICls K cL) (gT:mg "Tree"=some (.ref cT)) (gW:mg "Whole"=some (.ref cW)) (gU:mg "Upright"=some (.ref cU)) (gL:mg "Level"=some (.ref cL)):RT mg K cT cW cU cL:=by
 unfold kitB at h
 rw [Bool.and_eq_true,List.all_eq_true,List.all_eq_true] at h
 obtain ⟨h1,h2⟩:=h
 have f1:∀ p∈([(cW,"mark"),(cU,"at"),(cU,"first"),(cU,"other"),(cL,"at"),(cL,"first"),(cL,"other")]:List (Addr × Str)),PySem.W.findIn K (.ref p.1) p.2=some none:=fun p hp=>beq_iff_eq.mp (h1 p hp)
 have f2:∀ p∈([(cW,cW,true),(cW,cU,false),(cW,cL,false),(cU,cW,false),(cL,cW,false),(cU,cU,true),(cU,cL,false),(cL,cU,false),(cL,cL,true),(cW,cT,true),(cU,cT,true),(cL,cT,true)]:List (Addr × Addr × Bool)),PySem.W.kitOne K (.ref p.1) (.ref p.2.1)=some p.2.2:=fun p hp=>beq_iff_eq.mp (h2 p hp)
 simp only [List.forall_mem_cons,List.not_mem_nil,false_implies,implies_true,and_true] at f1 f2
 obtain ⟨a1,a2,a3,a4,a5,a6,a7⟩:=f1
 obtain ⟨k1,k2,k3,k4,k5,k6,k7,k8,k9,k10,k11,k12⟩:=f2
 refine ⟨gT,gW,gU,gL,iW,?_,a1,?_,?_,?_,k1,?_,?_,?_,k10,?_⟩
 ·intro u; cases u; exact iL; exact iU
 ·intro u; cases u; exact a5; exact a2
 ·intro u; cases u; exact a6; exact a3
 ·intro u; cases u; exact a7; exact a4
 ·intro u; cases u; exact k3; exact k2
 ·intro u; cases u; exact k5; exact k4
 ·intro u v; cases u <;> cases v; exact k9; exact k8; exact k7; exact k6
 ·intro u; cases u; exact k12; exact k11
end
theorem all_mk {l:PySem.W.OpenLaw} {w:World} {K:PySem.W.Frag} {h:Heap} {mg:Str→Option Value} {fa:Addr} (X:K.In h) (G:h.Ns mainGlobals mg) (hfa:mg "law"=some (.ref fa))
  {cT:Addr} (aT:PySem.W.nsIn K mainGlobals "Tree"=some (some (.ref cT)))
  {cW:Addr} (aC_cW:PySem.W.nsIn K mainGlobals "Whole"=some (some (.ref cW))) (ic_cW:icB K cW=true)
  {f_cW:Addr} {od_cW an_cW:Option Addr} {sl_cW:Array (Option Value)} {oc_cW kV_cW dc_cW pm_cW cd_cW ct_cW:Value} {T_cW:Addr} {to_cW:Value} {td_cW:Option Addr} {ts_cW:Array (Option Value)} {ti_cW:Array Value} {tn_cW:Nat} (a_cWcW:PySem.W.findIn K (.ref cW) "__init__"=some (some (.ref f_cW))) (i_cW:PySem.W.isFn K (.ref f_cW)=true) (l_cW:K.lookup f_cW=some ⟨oc_cW,od_cW,.func (PySem.W.fnOf "__init__" "Whole.__init__" (Zao Zb2) (Zaj Zb2) (Zad Zb2) (.ref T_cW) kV_cW dc_cW pm_cW an_cW cd_cW ct_cW),sl_cW⟩) (cc_cW:PySem.W.codeIn K cd_cW "Whole.__init__"=true) (k_cW:PySem.W.keepIn K (.ref f_cW)=true) (lT_cW:K.lookup T_cW=some ⟨to_cW,td_cW,.seq ti_cW tn_cW,ts_cW⟩) (eT_cW:ti_cW=#[.none])
  {cU:Addr} (aC_cU:PySem.W.nsIn K mainGlobals "Upright"=some (some (.ref cU))) (ic_cU:icB K cU=true)
  {f_cU:Addr} {od_cU an_cU:Option Addr} {sl_cU:Array (Option Value)} {oc_cU kV_cU dc_cU pm_cU cd_cU ct_cU:Value} (a_cUcU:PySem.W.findIn K (.ref cU) "__init__"=some (some (.ref f_cU))) (i_cU:PySem.W.isFn K (.ref f_cU)=true) (l_cU:K.lookup f_cU=some ⟨oc_cU,od_cU,.func (PySem.W.fnOf "__init__" "Upright.__init__" (Zao Zbi) (Zaj Zbi) (Zad Zbi) .none kV_cU dc_cU pm_cU an_cU cd_cU ct_cU),sl_cU⟩) (cc_cU:PySem.W.codeIn K cd_cU "Upright.__init__"=true) (k_cU:PySem.W.keepIn K (.ref f_cU)=true)
  {cL:Addr} (aC_cL:PySem.W.nsIn K mainGlobals "Level"=some (some (.ref cL))) (ic_cL:icB K cL=true)
  {f_cL:Addr} {od_cL an_cL:Option Addr} {sl_cL:Array (Option Value)} {oc_cL kV_cL dc_cL pm_cL cd_cL ct_cL:Value} (a_cLcL:PySem.W.findIn K (.ref cL) "__init__"=some (some (.ref f_cL))) (i_cL:PySem.W.isFn K (.ref f_cL)=true) (l_cL:K.lookup f_cL=some ⟨oc_cL,od_cL,.func (PySem.W.fnOf "__init__" "Level.__init__" (Zao Zb3) (Zaj Zb3) (Zad Zb3) .none kV_cL dc_cL pm_cL an_cL cd_cL ct_cL),sl_cL⟩) (cc_cL:PySem.W.codeIn K cd_cL "Level.__init__"=true) (k_cL:PySem.W.keepIn K (.ref f_cL)=true)
  (kit:kitB K cT cW cU cL=true)
  {cG:Addr} (aG:PySem.W.nsIn K mainGlobals "GlassError"=some (some (.ref cG))) (eG:PySem.W.excIn K cG vErr "ValueError.__new__"=true)
  {cM:Addr} (aC_cM:PySem.W.nsIn K mainGlobals "NoMove"=some (some (.ref cM))) (kC_cM:PySem.W.keepIn K (.ref cM)=true) (nC_cM:PySem.W.findIn K (.ref cM) "steps"=some none)
  {f_cM:Addr} {od_cM an_cM:Option Addr} {sl_cM:Array (Option Value)} {oc_cM kV_cM dc_cM pm_cM cd_cM ct_cM:Value} (a_cMcM:PySem.W.findIn K (.ref cM) "__init__"=some (some (.ref f_cM))) (i_cM:PySem.W.isFn K (.ref f_cM)=true) (l_cM:K.lookup f_cM=some ⟨oc_cM,od_cM,.func (PySem.W.fnOf "__init__" "NoMove.__init__" (Zao Zbp) (Zaj Zbp) (Zad Zbp) .none kV_cM dc_cM pm_cM an_cM cd_cM ct_cM),sl_cM⟩) (cc_cM:PySem.W.codeIn K cd_cM "NoMove.__init__"=true) (k_cM:PySem.W.keepIn K (.ref f_cM)=true)
  (ei_cM:excInI K cM f_cM=true) (xc_cM:xclsB K cM=true) (xm_cM:PySem.W.mroIn K cM (.ref cG)=some true)
  {cN:Addr} (aC_cN:PySem.W.nsIn K mainGlobals "NoCut"=some (some (.ref cN)))
  {cD:Addr} (aC_cD:PySem.W.nsIn K mainGlobals "NoTree"=some (some (.ref cD)))
  {cK:Addr} (aC_cK:PySem.W.nsIn K mainGlobals "Unlike"=some (some (.ref cK)))
  (kt0:(PySem.W.kitOne K (.ref cM) (.ref cM) == some true)=true)
  (kt1:(PySem.W.kitOne K (.ref cM) (.ref cN) == some false)=true)
  (kt2:(PySem.W.kitOne K (.ref cM) (.ref cD) == some false)=true)
  (kt3:(PySem.W.kitOne K (.ref cM) (.ref cK) == some false)=true)
  {f0:Addr} {od0 an0:Option Addr} {sl0:Array (Option Value)} {oc0 kV0 dc0 pm0 cd0 ct0:Value} (a0:PySem.W.nsIn K mainGlobals "is_whole"=some (some (.ref f0))) (l0:K.lookup f0=some ⟨oc0,od0,.func (PySem.W.fnOf "is_whole" "is_whole" (Zao Zco) (Zaj Zco) (Zad Zco) .none kV0 dc0 pm0 an0 cd0 ct0),sl0⟩) (cc0:PySem.W.codeIn K cd0 "is_whole"=true) (k0:PySem.W.keepIn K (.ref f0)=true)
  {f1:Addr} {od1 an1:Option Addr} {sl1:Array (Option Value)} {oc1 kV1 dc1 pm1 cd1 ct1:Value} (a1:PySem.W.nsIn K mainGlobals "kind_of"=some (some (.ref f1))) (l1:K.lookup f1=some ⟨oc1,od1,.func (PySem.W.fnOf "kind_of" "kind_of" (Zao Zc3) (Zaj Zc3) (Zad Zc3) .none kV1 dc1 pm1 an1 cd1 ct1),sl1⟩) (cc1:PySem.W.codeIn K cd1 "kind_of"=true) (k1:PySem.W.keepIn K (.ref f1)=true)
  {f2:Addr} {od2 an2:Option Addr} {sl2:Array (Option Value)} {oc2 kV2 dc2 pm2 cd2 ct2:Value} (a2:PySem.W.nsIn K mainGlobals "entry_of"=some (some (.ref f2))) (l2:K.lookup f2=some ⟨oc2,od2,.func (PySem.W.fnOf "entry_of" "entry_of" (Zao Zcp) (Zaj Zcp) (Zad Zcp) .none kV2 dc2 pm2 an2 cd2 ct2),sl2⟩) (cc2:PySem.W.codeIn K cd2 "entry_of"=true) (k2:PySem.W.keepIn K (.ref f2)=true)
  {f3:Addr} {od3 an3:Option Addr} {sl3:Array (Option Value)} {oc3 kV3 dc3 pm3 cd3 ct3:Value} (a3:PySem.W.nsIn K mainGlobals "entries_of"=some (some (.ref f3))) (l3:K.lookup f3=some ⟨oc3,od3,.func (PySem.W.fnOf "entries_of" "entries_of" (Zao Zby) (Zaj Zby) (Zad Zby) .none kV3 dc3 pm3 an3 cd3 ct3),sl3⟩) (cc3:PySem.W.codeIn K cd3 "entries_of"=true) (k3:PySem.W.keepIn K (.ref f3)=true)
  {f4:Addr} {od4 an4:Option Addr} {sl4:Array (Option Value)} {oc4 kV4 dc4 pm4 cd4 ct4:Value} (a4:PySem.W.nsIn K mainGlobals "cut_from"=some (some (.ref f4))) (l4:K.lookup f4=some ⟨oc4,od4,.func (PySem.W.fnOf "cut_from" "cut_from" (Zao Zcq) (Zaj Zcq) (Zad Zcq) .none kV4 dc4 pm4 an4 cd4 ct4),sl4⟩) (cc4:PySem.W.codeIn K cd4 "cut_from"=true) (k4:PySem.W.keepIn K (.ref f4)=true)
  {f5:Addr} {od5 an5:Option Addr} {sl5:Array (Option Value)} {oc5 kV5 dc5 pm5 cd5 ct5:Value} (a5:PySem.W.nsIn K mainGlobals "tree_from"=some (some (.ref f5))) (l5:K.lookup f5=some ⟨oc5,od5,.func (PySem.W.fnOf "tree_from" "tree_from" (Zao Zb9) (Zaj Zb9) (Zad Zb9) .none kV5 dc5 pm5 an5 cd5 ct5),sl5⟩) (cc5:PySem.W.codeIn K cd5 "tree_from"=true) (k5:PySem.W.keepIn K (.ref f5)=true)
  {f6:Addr} {od6 an6:Option Addr} {sl6:Array (Option Value)} {oc6 kV6 dc6 pm6 cd6 ct6:Value} (a6:PySem.W.nsIn K mainGlobals "turned_word"=some (some (.ref f6))) (l6:K.lookup f6=some ⟨oc6,od6,.func (PySem.W.fnOf "turned_word" "turned_word" (Zao Zbl) (Zaj Zbl) (Zad Zbl) .none kV6 dc6 pm6 an6 cd6 ct6),sl6⟩) (cc6:PySem.W.codeIn K cd6 "turned_word"=true) (k6:PySem.W.keepIn K (.ref f6)=true)
  {f7:Addr} {od7 an7:Option Addr} {sl7:Array (Option Value)} {oc7 kV7 dc7 pm7 cd7 ct7:Value} (a7:PySem.W.nsIn K mainGlobals "leaned"=some (some (.ref f7))) (l7:K.lookup f7=some ⟨oc7,od7,.func (PySem.W.fnOf "leaned" "leaned" (Zao Zdm) (Zaj Zdm) (Zad Zdm) .none kV7 dc7 pm7 an7 cd7 ct7),sl7⟩) (cc7:PySem.W.codeIn K cd7 "leaned"=true) (k7:PySem.W.keepIn K (.ref f7)=true)
  {f8:Addr} {od8 an8:Option Addr} {sl8:Array (Option Value)} {oc8 kV8 dc8 pm8 cd8 ct8:Value} (a8:PySem.W.nsIn K mainGlobals "leaned_back"=some (some (.ref f8))) (l8:K.lookup f8=some ⟨oc8,od8,.func (PySem.W.fnOf "leaned_back" "leaned_back" (Zao Zbm) (Zaj Zbm) (Zad Zbm) .none kV8 dc8 pm8 an8 cd8 ct8),sl8⟩) (cc8:PySem.W.codeIn K cd8 "leaned_back"=true) (k8:PySem.W.keepIn K (.ref f8)=true)
  {f9:Addr} {od9 an9:Option Addr} {sl9:Array (Option Value)} {oc9 kV9 dc9 pm9 cd9 ct9:Value} (a9:PySem.W.nsIn K mainGlobals "crossed"=some (some (.ref f9))) (l9:K.lookup f9=some ⟨oc9,od9,.func (PySem.W.fnOf "crossed" "crossed" (Zao Zc5) (Zaj Zc5) (Zad Zc5) .none kV9 dc9 pm9 an9 cd9 ct9),sl9⟩) (cc9:PySem.W.codeIn K cd9 "crossed"=true) (k9:PySem.W.keepIn K (.ref f9)=true)
  {f10:Addr} {od10 an10:Option Addr} {sl10:Array (Option Value)} {oc10 kV10 dc10 pm10 cd10 ct10:Value} (a10:PySem.W.nsIn K mainGlobals "changed"=some (some (.ref f10))) (l10:K.lookup f10=some ⟨oc10,od10,.func (PySem.W.fnOf "changed" "changed" (Zao Zc6) (Zaj Zc6) (Zad Zc6) .none kV10 dc10 pm10 an10 cd10 ct10),sl10⟩) (cc10:PySem.W.codeIn K cd10 "changed"=true) (k10:PySem.W.keepIn K (.ref f10)=true)
  {f11:Addr} {od11 an11:Option Addr} {sl11:Array (Option Value)} {oc11 kV11 dc11 pm11 cd11 ct11:Value} (a11:PySem.W.nsIn K mainGlobals "is_step"=some (some (.ref f11))) (l11:K.lookup f11=some ⟨oc11,od11,.func (PySem.W.fnOf "is_step" "is_step" (Zao Zc4) (Zaj Zc4) (Zad Zc4) .none kV11 dc11 pm11 an11 cd11 ct11),sl11⟩) (cc11:PySem.W.codeIn K cd11 "is_step"=true) (k11:PySem.W.keepIn K (.ref f11)=true)
  {f12:Addr} {od12 an12:Option Addr} {sl12:Array (Option Value)} {oc12 kV12 dc12 pm12 cd12 ct12:Value} (a12:PySem.W.nsIn K mainGlobals "way_along"=some (some (.ref f12))) (l12:K.lookup f12=some ⟨oc12,od12,.func (PySem.W.fnOf "way_along" "way_along" (Zao Zb8) (Zaj Zb8) (Zad Zb8) .none kV12 dc12 pm12 an12 cd12 ct12),sl12⟩) (cc12:PySem.W.codeIn K cd12 "way_along"=true) (k12:PySem.W.keepIn K (.ref f12)=true)
  {f13:Addr} {od13 an13:Option Addr} {sl13:Array (Option Value)} {oc13 kV13 dc13 pm13 cd13 ct13:Value} (a13:PySem.W.nsIn K mainGlobals "with_part"=some (some (.ref f13))) (l13:K.lookup f13=some ⟨oc13,od13,.func (PySem.W.fnOf "with_part" "with_part" (Zao Zb7) (Zaj Zb7) (Zad Zb7) .none kV13 dc13 pm13 an13 cd13 ct13),sl13⟩) (cc13:PySem.W.codeIn K cd13 "with_part"=true) (k13:PySem.W.keepIn K (.ref f13)=true)
  {f14:Addr} {od14 an14:Option Addr} {sl14:Array (Option Value)} {oc14 kV14 dc14 pm14 cd14 ct14:Value} (a14:PySem.W.nsIn K mainGlobals "moved"=some (some (.ref f14))) (l14:K.lookup f14=some ⟨oc14,od14,.func (PySem.W.fnOf "moved" "moved" (Zao Zee) (Zaj Zee) (Zad Zee) .none kV14 dc14 pm14 an14 cd14 ct14),sl14⟩) (cc14:PySem.W.codeIn K cd14 "moved"=true) (k14:PySem.W.keepIn K (.ref f14)=true)
  {f15:Addr} {od15 an15:Option Addr} {sl15:Array (Option Value)} {oc15 kV15 dc15 pm15 cd15 ct15:Value} (a15:PySem.W.nsIn K mainGlobals "_law_cell"=some (some (.ref f15))) (l15:K.lookup f15=some ⟨oc15,od15,.func (PySem.W.fnOf "_law_cell" "_law_cell" (Zao Zce) (Zaj Zce) (Zad Zce) .none kV15 dc15 pm15 an15 cd15 ct15),sl15⟩) (cc15:PySem.W.codeIn K cd15 "_law_cell"=true) (k15:PySem.W.keepIn K (.ref f15)=true)
  {f16:Addr} {od16 an16:Option Addr} {sl16:Array (Option Value)} {oc16 kV16 dc16 pm16 cd16 ct16:Value} (a16:PySem.W.nsIn K mainGlobals "_law_draw"=some (some (.ref f16))) (l16:K.lookup f16=some ⟨oc16,od16,.func (PySem.W.fnOf "_law_draw" "_law_draw" (Zao Zcd) (Zaj Zcd) (Zad Zcd) .none kV16 dc16 pm16 an16 cd16 ct16),sl16⟩) (cc16:PySem.W.codeIn K cd16 "_law_draw"=true) (k16:PySem.W.keepIn K (.ref f16)=true)
  {f17:Addr} {od17 an17:Option Addr} {sl17:Array (Option Value)} {oc17 kV17 dc17 pm17 cd17 ct17:Value} (a17:PySem.W.nsIn K mainGlobals "_law_state"=some (some (.ref f17))) (l17:K.lookup f17=some ⟨oc17,od17,.func (PySem.W.fnOf "_law_state" "_law_state" (Zao Zbf) (Zaj Zbf) (Zad Zbf) .none kV17 dc17 pm17 an17 cd17 ct17),sl17⟩) (cc17:PySem.W.codeIn K cd17 "_law_state"=true) (k17:PySem.W.keepIn K (.ref f17)=true)
  {f18:Addr} {od18 an18:Option Addr} {sl18:Array (Option Value)} {oc18 kV18 dc18 pm18 cd18 ct18:Value} (a18:PySem.W.nsIn K mainGlobals "_law_pick"=some (some (.ref f18))) (l18:K.lookup f18=some ⟨oc18,od18,.func (PySem.W.fnOf "_law_pick" "_law_pick" (Zao Zcb) (Zaj Zcb) (Zad Zcb) .none kV18 dc18 pm18 an18 cd18 ct18),sl18⟩) (cc18:PySem.W.codeIn K cd18 "_law_pick"=true) (k18:PySem.W.keepIn K (.ref f18)=true)
  {f19:Addr} {od19 an19:Option Addr} {sl19:Array (Option Value)} {oc19 kV19 dc19 pm19 cd19 ct19:Value} (a19:PySem.W.nsIn K mainGlobals "_law_tree"=some (some (.ref f19))) (l19:K.lookup f19=some ⟨oc19,od19,.func (PySem.W.fnOf "_law_tree" "_law_tree" (Zao Za5) (Zaj Za5) (Zad Za5) .none kV19 dc19 pm19 an19 cd19 ct19),sl19⟩) (cc19:PySem.W.codeIn K cd19 "_law_tree"=true) (k19:PySem.W.keepIn K (.ref f19)=true)
  {f20:Addr} {od20 an20:Option Addr} {sl20:Array (Option Value)} {oc20 kV20 dc20 pm20 cd20 ct20:Value} (a20:PySem.W.nsIn K mainGlobals "_law_made"=some (some (.ref f20))) (l20:K.lookup f20=some ⟨oc20,od20,.func (PySem.W.fnOf "_law_made" "_law_made" (Zao Zcc) (Zaj Zcc) (Zad Zcc) .none kV20 dc20 pm20 an20 cd20 ct20),sl20⟩) (cc20:PySem.W.codeIn K cd20 "_law_made"=true) (k20:PySem.W.keepIn K (.ref f20)=true)
  {f21:Addr} {od21 an21:Option Addr} {sl21:Array (Option Value)} {oc21 kV21 dc21 pm21 cd21 ct21:Value} (a21:PySem.W.nsIn K mainGlobals "_law_whole"=some (some (.ref f21))) (l21:K.lookup f21=some ⟨oc21,od21,.func (PySem.W.fnOf "_law_whole" "_law_whole" (Zao Zbz) (Zaj Zbz) (Zad Zbz) .none kV21 dc21 pm21 an21 cd21 ct21),sl21⟩) (cc21:PySem.W.codeIn K cd21 "_law_whole"=true) (k21:PySem.W.keepIn K (.ref f21)=true)
  {f22:Addr} {od22 an22:Option Addr} {sl22:Array (Option Value)} {oc22 kV22 dc22 pm22 cd22 ct22:Value} (a22:PySem.W.nsIn K mainGlobals "_law_told"=some (some (.ref f22))) (l22:K.lookup f22=some ⟨oc22,od22,.func (PySem.W.fnOf "_law_told" "_law_told" (Zao Zca) (Zaj Zca) (Zad Zca) .none kV22 dc22 pm22 an22 cd22 ct22),sl22⟩) (cc22:PySem.W.codeIn K cd22 "_law_told"=true) (k22:PySem.W.keepIn K (.ref f22)=true)
  {f23:Addr} {od23 an23:Option Addr} {sl23:Array (Option Value)} {oc23 kV23 dc23 pm23 cd23 ct23:Value} (a23:PySem.W.nsIn K mainGlobals "_law_pieces"=some (some (.ref f23))) (l23:K.lookup f23=some ⟨oc23,od23,.func (PySem.W.fnOf "_law_pieces" "_law_pieces" (Zao Zbn) (Zaj Zbn) (Zad Zbn) .none kV23 dc23 pm23 an23 cd23 ct23),sl23⟩) (cc23:PySem.W.codeIn K cd23 "_law_pieces"=true) (k23:PySem.W.keepIn K (.ref f23)=true)
  {f24:Addr} {od24 an24:Option Addr} {sl24:Array (Option Value)} {oc24 kV24 dc24 pm24 cd24 ct24:Value} (a24:PySem.W.nsIn K mainGlobals "_law_through"=some (some (.ref f24))) (l24:K.lookup f24=some ⟨oc24,od24,.func (PySem.W.fnOf "_law_through" "_law_through" (Zao Zbh) (Zaj Zbh) (Zad Zbh) .none kV24 dc24 pm24 an24 cd24 ct24),sl24⟩) (cc24:PySem.W.codeIn K cd24 "_law_through"=true) (k24:PySem.W.keepIn K (.ref f24)=true)
  {f25:Addr} {od25 an25:Option Addr} {sl25:Array (Option Value)} {oc25 kV25 dc25 pm25 cd25 ct25:Value} (a25:PySem.W.nsIn K mainGlobals "_law_parted"=some (some (.ref f25))) (l25:K.lookup f25=some ⟨oc25,od25,.func (PySem.W.fnOf "_law_parted" "_law_parted" (Zao Zbo) (Zaj Zbo) (Zad Zbo) .none kV25 dc25 pm25 an25 cd25 ct25),sl25⟩) (cc25:PySem.W.codeIn K cd25 "_law_parted"=true) (k25:PySem.W.keepIn K (.ref f25)=true)
  {f26:Addr} {od26 an26:Option Addr} {sl26:Array (Option Value)} {oc26 kV26 dc26 pm26 cd26 ct26:Value} (a26:PySem.W.nsIn K mainGlobals "_law_recut"=some (some (.ref f26))) (l26:K.lookup f26=some ⟨oc26,od26,.func (PySem.W.fnOf "_law_recut" "_law_recut" (Zao Zb0) (Zaj Zb0) (Zad Zb0) .none kV26 dc26 pm26 an26 cd26 ct26),sl26⟩) (cc26:PySem.W.codeIn K cd26 "_law_recut"=true) (k26:PySem.W.keepIn K (.ref f26)=true)
  {f27:Addr} {od27 an27:Option Addr} {sl27:Array (Option Value)} {oc27 kV27 dc27 pm27 cd27 ct27:Value} (a27:PySem.W.nsIn K mainGlobals "_law_moved"=some (some (.ref f27))) (l27:K.lookup f27=some ⟨oc27,od27,.func (PySem.W.fnOf "_law_moved" "_law_moved" (Zao Za0) (Zaj Za0) (Zad Za0) .none kV27 dc27 pm27 an27 cd27 ct27),sl27⟩) (cc27:PySem.W.codeIn K cd27 "_law_moved"=true) (k27:PySem.W.keepIn K (.ref f27)=true)
  {f28:Addr} {od28 an28:Option Addr} {sl28:Array (Option Value)} {oc28 kV28 dc28 pm28 cd28 ct28:Value} (a28:PySem.W.nsIn K mainGlobals "_law_steps"=some (some (.ref f28))) (l28:K.lookup f28=some ⟨oc28,od28,.func (PySem.W.fnOf "_law_steps" "_law_steps" (Zao Zbe) (Zaj Zbe) (Zad Zbe) .none kV28 dc28 pm28 an28 cd28 ct28),sl28⟩) (cc28:PySem.W.codeIn K cd28 "_law_steps"=true) (k28:PySem.W.keepIn K (.ref f28)=true)
  {f29:Addr} {od29 an29:Option Addr} {sl29:Array (Option Value)} {oc29 kV29 dc29 pm29 cd29 ct29:Value} (a29:PySem.W.nsIn K mainGlobals "_law_asked"=some (some (.ref f29))) (l29:K.lookup f29=some ⟨oc29,od29,.func (PySem.W.fnOf "_law_asked" "_law_asked" (Zao Zb1) (Zaj Zb1) (Zad Zb1) .none kV29 dc29 pm29 an29 cd29 ct29),sl29⟩) (cc29:PySem.W.codeIn K cd29 "_law_asked"=true) (k29:PySem.W.keepIn K (.ref f29)=true)
  {f30:Addr} {od30 an30:Option Addr} {sl30:Array (Option Value)} {oc30 kV30 dc30 pm30 cd30 ct30:Value} (a30:PySem.W.nsIn K mainGlobals "law"=some (some (.ref f30))) (l30:K.lookup f30=some ⟨oc30,od30,.func (PySem.W.fnOf "law" "law" (Zao Zef) (Zaj Zef) (Zad Zef) .none kV30 dc30 pm30 an30 cd30 ct30),sl30⟩) (cc30:PySem.W.codeIn K cd30 "law"=true) (k30:PySem.W.keepIn K (.ref f30)=true)
  (z0:PySem.W.nsIn K mainGlobals "isinstance"=some none)
  (z1:PySem.W.nsIn K mainGlobals "int"=some none)
  (z2:PySem.W.nsIn K mainGlobals "bool"=some none)
  (z3:PySem.W.nsIn K mainGlobals "tuple"=some none)
  (z4:PySem.W.nsIn K mainGlobals "list"=some none)
  (z5:PySem.W.nsIn K mainGlobals "len"=some none)
  (z6:PySem.W.nsIn K mainGlobals "range"=some none)
  (z7:PySem.W.nsIn K mainGlobals "abs"=some none)
  (z8:PySem.W.nsIn K mainGlobals "any"=some none)
  (z9:PySem.W.nsIn K mainGlobals "sorted"=some none)
  (z10:PySem.W.nsIn K mainGlobals "str"=some none)
  (z11:PySem.W.nsIn K mainGlobals "zip"=some none)
  (z12:PySem.W.nsIn K mainGlobals "reversed"=some none)
  {tk0:Tok} (g0:PySem.W.nsIn K mainGlobals "WHOLE"=some (some (.str "whole" tk0)))
  {tk1:Tok} (g1:PySem.W.nsIn K mainGlobals "UPRIGHT"=some (some (.str "upright" tk1)))
  {tk2:Tok} (g2:PySem.W.nsIn K mainGlobals "LEVEL"=some (some (.str "level" tk2)))
  {tk3:Tok} (g3:PySem.W.nsIn K mainGlobals "LEAN"=some (some (.str "lean" tk3)))
  {tk4:Tok} (g4:PySem.W.nsIn K mainGlobals "BACK"=some (some (.str "back" tk4)))
  {tk5:Tok} (g5:PySem.W.nsIn K mainGlobals "CROSS"=some (some (.str "cross" tk5)))
  : ∃ fd:FuncData,(∀ (s:Shared) (v:Value),BindsTo s fd ⟨[v],[]⟩ [("_law_script",v)])∧∀ base:Heap,K.In base→base.Ns mainGlobals mg→FnOk l.prog w K mg base CX0 29 fa fd ["_law_script"] (sp_law K):=by
 have e:=hfa.symm.trans (PySem.W.mg_of X G a30)
 cases e
 have T:Txt mg (tk0,tk1,tk2,tk3,tk4,tk5):=⟨PySem.W.mg_none_of X G z0,PySem.W.mg_none_of X G z1,PySem.W.mg_none_of X G z2,PySem.W.mg_none_of X G z3,PySem.W.mg_none_of X G z4,PySem.W.mg_none_of X G z5,PySem.W.mg_none_of X G z6,PySem.W.mg_none_of X G z7,PySem.W.mg_none_of X G z8,PySem.W.mg_none_of X G z9,PySem.W.mg_none_of X G z10,PySem.W.mg_none_of X G z11,PySem.W.mg_none_of X G z12,PySem.W.mg_of X G g0,PySem.W.mg_of X G g1,PySem.W.mg_of X G g2,PySem.W.mg_of X G g3,PySem.W.mg_of X G g4,PySem.W.mg_of X G g5⟩
 obtain ⟨I_cW,mk_cW,kc_cW⟩:=icB_of ic_cW
 obtain ⟨I_cU,mk_cU,kc_cU⟩:=icB_of ic_cU
 obtain ⟨I_cL,mk_cL,kc_cL⟩:=icB_of ic_cL
 have R0:RT mg K cT cW cU cL:=rt_of kit I_cW I_cU I_cL (PySem.W.mg_of X G aT) (PySem.W.mg_of X G aC_cW) (PySem.W.mg_of X G aC_cU) (PySem.W.mg_of X G aC_cL)
 have kq0:=beq_iff_eq.mp kt0
 have kq1:=beq_iff_eq.mp kt1
 have kq2:=beq_iff_eq.mp kt2
 have kq3:=beq_iff_eq.mp kt3
 have RG0:RG mg K cG cM cN cD cK:=⟨PySem.W.mg_of X G aG,PySem.W.mg_of X G aC_cM,PySem.W.mg_of X G aC_cN,PySem.W.mg_of X G aC_cD,PySem.W.mg_of X G aC_cK,eG,xm_cM,XCls.of xc_cM,nC_cM,kq0,kq1,kq2,kq3⟩
 have F_cW:FunD K "__init__" "Whole.__init__" Zb2 f_cW _:=⟨⟨_,_,_,_,_,_,_,_,_,_,_,tn_cW,rfl,l_cW,cc_cW,lT_cW,by rw [eT_cW]⟩,k_cW⟩
 have b_cW:=F_cW.binds (ps:=["self","mark"]) (ds:=[]) fun _ _ _ _ _ _ _ us hl=>by obtain ⟨u0,u1,rfl⟩:=len2 ((List.append_nil us) ▸ hl); exact ⟨_,rfl,rfl⟩
 have F_cU:=Za4 (st:=Zbi) l_cU cc_cU k_cU
 have b_cU:=F_cU.binds (ps:=["self","at","first","other"]) fun _ _ _ _ _ _ us hl=>by obtain ⟨u0,u1,u2,u3,rfl⟩:=len4 hl; rfl
 have F_cL:=Za4 (st:=Zb3) l_cL cc_cL k_cL
 have b_cL:=F_cL.binds (ps:=["self","at","first","other"]) fun _ _ _ _ _ _ us hl=>by obtain ⟨u0,u1,u2,u3,rfl⟩:=len4 hl; rfl
 have F_cM:=Za4 (st:=Zbp) l_cM cc_cM k_cM
 have b_cM:=F_cM.binds (ps:=["self","steps"]) fun _ _ _ _ _ _ us hl=>by obtain ⟨u0,u1,rfl⟩:=len2 hl; rfl
 have F0:=Za4 (st:=Zco) l0 cc0 k0
 have b0:=F0.binds (ps:=["thing"]) fun _ _ _ _ _ _ us hl=>by obtain ⟨u0,rfl⟩:=len1 hl; rfl
 have F1:=Za4 (st:=Zc3) l1 cc1 k1
 have b1:=F1.binds (ps:=["tree"]) fun _ _ _ _ _ _ us hl=>by obtain ⟨u0,rfl⟩:=len1 hl; rfl
 have F2:=Za4 (st:=Zcp) l2 cc2 k2
 have b2:=F2.binds (ps:=["tree"]) fun _ _ _ _ _ _ us hl=>by obtain ⟨u0,rfl⟩:=len1 hl; rfl
 have F3:=Za4 (st:=Zby) l3 cc3 k3
 have b3:=F3.binds (ps:=["tree"]) fun _ _ _ _ _ _ us hl=>by obtain ⟨u0,rfl⟩:=len1 hl; rfl
 have F4:=Za4 (st:=Zcq) l4 cc4 k4
 have b4:=F4.binds (ps:=["word","at","first","other"]) fun _ _ _ _ _ _ us hl=>by obtain ⟨u0,u1,u2,u3,rfl⟩:=len4 hl; rfl
 have F5:=Za4 (st:=Zb9) l5 cc5 k5
 have b5:=F5.binds (ps:=["entries"]) fun _ _ _ _ _ _ us hl=>by obtain ⟨u0,rfl⟩:=len1 hl; rfl
 have F6:=Za4 (st:=Zbl) l6 cc6 k6
 have b6:=F6.binds (ps:=["word"]) fun _ _ _ _ _ _ us hl=>by obtain ⟨u0,rfl⟩:=len1 hl; rfl
 have F7:=Za4 (st:=Zdm) l7 cc7 k7
 have b7:=F7.binds (ps:=["cut"]) fun _ _ _ _ _ _ us hl=>by obtain ⟨u0,rfl⟩:=len1 hl; rfl
 have F8:=Za4 (st:=Zbm) l8 cc8 k8
 have b8:=F8.binds (ps:=["cut"]) fun _ _ _ _ _ _ us hl=>by obtain ⟨u0,rfl⟩:=len1 hl; rfl
 have F9:=Za4 (st:=Zc5) l9 cc9 k9
 have b9:=F9.binds (ps:=["cut"]) fun _ _ _ _ _ _ us hl=>by obtain ⟨u0,rfl⟩:=len1 hl; rfl
 have F10:=Za4 (st:=Zc6) l10 cc10 k10
 have b10:=F10.binds (ps:=["cut","word"]) fun _ _ _ _ _ _ us hl=>by obtain ⟨u0,u1,rfl⟩:=len2 hl; rfl
 have F11:=Za4 (st:=Zc4) l11 cc11 k11
 have b11:=F11.binds (ps:=["thing"]) fun _ _ _ _ _ _ us hl=>by obtain ⟨u0,rfl⟩:=len1 hl; rfl
 have F12:=Za4 (st:=Zb8) l12 cc12 k12
 have b12:=F12.binds (ps:=["tree","steps"]) fun _ _ _ _ _ _ us hl=>by obtain ⟨u0,u1,rfl⟩:=len2 hl; rfl
 have F13:=Za4 (st:=Zb7) l13 cc13 k13
 have b13:=F13.binds (ps:=["cut","step","part"]) fun _ _ _ _ _ _ us hl=>by obtain ⟨u0,u1,u2,rfl⟩:=len3 hl; rfl
 have F14:=Za4 (st:=Zee) l14 cc14 k14
 have b14:=F14.binds (ps:=["tree","move"]) fun _ _ _ _ _ _ us hl=>by obtain ⟨u0,u1,rfl⟩:=len2 hl; rfl
 have F15:=Za4 (st:=Zce) l15 cc15 k15
 have b15:=F15.binds (ps:=["_law_script","_law_k"]) fun _ _ _ _ _ _ us hl=>by obtain ⟨u0,u1,rfl⟩:=len2 hl; rfl
 have F16:=Za4 (st:=Zcd) l16 cc16 k16
 have b16:=F16.binds (ps:=["_law_cell_here","_law_nth","_law_many"]) fun _ _ _ _ _ _ us hl=>by obtain ⟨u0,u1,u2,rfl⟩:=len3 hl; rfl
 have F17:=Za4 (st:=Zbf) l17 cc17 k17
 have b17:=F17.binds (ps:=["_law_cell_here"]) fun _ _ _ _ _ _ us hl=>by obtain ⟨u0,rfl⟩:=len1 hl; rfl
 have F18:=Za4 (st:=Zcb) l18 cc18 k18
 have b18:=F18.binds (ps:=["_law_state_here","_law_many"]) fun _ _ _ _ _ _ us hl=>by obtain ⟨u0,u1,rfl⟩:=len2 hl; rfl
 have F19:=Za4 (st:=Za5) l19 cc19 k19
 have b19:=F19.binds (ps:=["_law_cells","_law_width","_law_height"]) fun _ _ _ _ _ _ us hl=>by obtain ⟨u0,u1,u2,rfl⟩:=len3 hl; rfl
 have F20:=Za4 (st:=Zcc) l20 cc20 k20
 have b20:=F20.binds (ps:=["_law_told_here"]) fun _ _ _ _ _ _ us hl=>by obtain ⟨u0,rfl⟩:=len1 hl; rfl
 have F21:=Za4 (st:=Zbz) l21 cc21 k21
 have b21:=F21.binds (ps:=["_law_found"]) fun _ _ _ _ _ _ us hl=>by obtain ⟨u0,rfl⟩:=len1 hl; rfl
 have F22:=Za4 (st:=Zca) l22 cc22 k22
 have b22:=F22.binds (ps:=["_law_tree_here"]) fun _ _ _ _ _ _ us hl=>by obtain ⟨u0,rfl⟩:=len1 hl; rfl
 have F23:=Za4 (st:=Zbn) l23 cc23 k23
 have b23:=F23.binds (ps:=["_law_told_here","_law_block"]) fun _ _ _ _ _ _ us hl=>by obtain ⟨u0,u1,rfl⟩:=len2 hl; rfl
 have F24:=Za4 (st:=Zbh) l24 cc24 k24
 have b24:=F24.binds (ps:=["_law_some","_law_block"]) fun _ _ _ _ _ _ us hl=>by obtain ⟨u0,u1,rfl⟩:=len2 hl; rfl
 have F25:=Za4 (st:=Zbo) l25 cc25 k25
 have b25:=F25.binds (ps:=["_law_some","_law_block","_law_word","_law_line"]) fun _ _ _ _ _ _ us hl=>by obtain ⟨u0,u1,u2,u3,rfl⟩:=len4 hl; rfl
 have F26:=Za4 (st:=Zb0) l26 cc26 k26
 have b26:=F26.binds (ps:=["_law_some","_law_block","_law_state_here"]) fun _ _ _ _ _ _ us hl=>by obtain ⟨u0,u1,u2,rfl⟩:=len3 hl; rfl
 have F27:=Za4 (st:=Za0) l27 cc27 k27
 have b27:=F27.binds (ps:=["_law_told_here","_law_steps_here","_law_word"]) fun _ _ _ _ _ _ us hl=>by obtain ⟨u0,u1,u2,rfl⟩:=len3 hl; rfl
 have F28:=Za4 (st:=Zbe) l28 cc28 k28
 have b28:=F28.binds (ps:=["_law_told_here","_law_cell_here"]) fun _ _ _ _ _ _ us hl=>by obtain ⟨u0,u1,rfl⟩:=len2 hl; rfl
 have F29:=Za4 (st:=Zb1) l29 cc29 k29
 have b29:=F29.binds (ps:=["_law_tree_here","_law_move"]) fun _ _ _ _ _ _ us hl=>by obtain ⟨u0,u1,rfl⟩:=len2 hl; rfl
 have F30:=Za4 (st:=Zef) l30 cc30 k30
 refine ⟨PySem.W.fnOf "law" "law" (Zao Zef) (Zaj Zef) (Zad Zef) .none kV30 dc30 pm30 an30 cd30 ct30,fun s v=>.of_eq rfl,fun base _ _=>?_⟩
 have K_Whole:MkOk l.prog w K mg base 1 "Whole" cW ["self","mark"] (sp_iW cW):=⟨_,_,⟨mk_cW,a_cWcW,i_cW,kc_cW⟩,Zhn F_cW R0,PySem.W.mg_of X G aC_cW,b_cW⟩
 have K_Upright:MkOk l.prog w K mg base 1 "Upright" cU ["self","at","first","other"] (Zil cU):=⟨_,_,⟨mk_cU,a_cUcU,i_cU,kc_cU⟩,Zfl F_cU R0,PySem.W.mg_of X G aC_cU,b_cU⟩
 have K_Level:MkOk l.prog w K mg base 1 "Level" cL ["self","at","first","other"] (Zil cL):=⟨_,_,⟨mk_cL,a_cLcL,i_cL,kc_cL⟩,Zho F_cL R0,PySem.W.mg_of X G aC_cL,b_cL⟩
 have X_NoMove:XMkOk l.prog w K mg base 1 "NoMove" cM ["self","steps"] ["steps"]:=⟨by decide,f_cM,_,⟨XCls.of xc_cM,ei_cM,kC_cM,i_cM⟩,Zgc F_cM (XCls.of xc_cM) nC_cM,PySem.W.mg_of X G aC_cM,b_cM⟩
 have D_is_whole:DefOk l.prog w K mg base 1 "is_whole" ["thing"] Zg8:=⟨_,_,Zkn F0 T,PySem.W.mg_of X G a0,k0,b0⟩
 have D_kind_of:DefOk l.prog w K mg base 1 "kind_of" ["tree"] (Zcs cW cU cL):=⟨_,_,ok_kind_of F1 T R0,PySem.W.mg_of X G a1,k1,b1⟩
 have D_entry_of:DefOk l.prog w K mg base 2 "entry_of" ["tree"] (Zhb cW cU cL):=⟨_,_,Zko F2 T R0 D_kind_of,PySem.W.mg_of X G a2,k2,b2⟩
 have D_entries_of:DefOk l.prog w K mg base 3 "entries_of" ["tree"] (Zeb cW cU cL):=⟨_,_,Zhm F3 T R0 D_entry_of,PySem.W.mg_of X G a3,k3,b3⟩
 have D_cut_from:DefOk l.prog w K mg base 3 "cut_from" ["word","at","first","other"] (Zb6 cW cU cL):=⟨_,_,Zkp F4 T K_Upright K_Level,PySem.W.mg_of X G a4,k4,b4⟩
 have D_tree_from:DefOk l.prog w K mg base 4 "tree_from" ["entries"] (Zj5 K cW cU cL):=⟨_,_,Ziz F5 T R0 K_Whole D_cut_from,PySem.W.mg_of X G a5,k5,b5⟩
 have D_turned_word:DefOk l.prog w K mg base 1 "turned_word" ["word"] Zg9:=⟨_,_,Zf9 F6 T,PySem.W.mg_of X G a6,k6,b6⟩
 have D_leaned:DefOk l.prog w K mg base 4 "leaned" ["cut"] (Zj3 cW cU cL):=⟨_,_,ok_leaned F7 R0 D_kind_of D_cut_from,PySem.W.mg_of X G a7,k7,b7⟩
 have D_leaned_back:DefOk l.prog w K mg base 4 "leaned_back" ["cut"] (Zj7 cW cU cL):=⟨_,_,Zga F8 R0 D_kind_of D_cut_from,PySem.W.mg_of X G a8,k8,b8⟩
 have D_crossed:DefOk l.prog w K mg base 4 "crossed" ["cut"] (Zhc cW cU cL):=⟨_,_,ok_crossed F9 R0 D_kind_of D_turned_word D_cut_from,PySem.W.mg_of X G a9,k9,b9⟩
 have D_changed:DefOk l.prog w K mg base 5 "changed" ["cut","word"] (Zec cW cU cL):=⟨_,_,ok_changed F10 T D_leaned D_leaned_back D_crossed,PySem.W.mg_of X G a10,k10,b10⟩
 have D_is_step:DefOk l.prog w K mg base 2 "is_step" ["thing"] Zfd:=⟨_,_,ok_is_step F11 T D_is_whole,PySem.W.mg_of X G a11,k11,b11⟩
 have D_way_along:DefOkX l.prog w K mg base 3 "way_along" ["tree","steps"] (sp_way cW cU cL cM):=⟨_,_,Ziy F12 T R0 X_NoMove D_is_step,PySem.W.mg_of X G a12,k12,b12⟩
 have D_with_part:DefOk l.prog w K mg base 4 "with_part" ["cut","step","part"] (Zg7 cW cU cL):=⟨_,_,Zix F13 R0 D_kind_of D_cut_from,PySem.W.mg_of X G a13,k13,b13⟩
 have D_moved:DefOkX l.prog w K mg base 6 "moved" ["tree","move"] (sp_mv K cW cU cL cM):=⟨_,_,ok_moved F14 T X_NoMove D_way_along D_changed D_with_part D_entries_of D_tree_from,PySem.W.mg_of X G a14,k14,b14⟩
 have D__law_cell:DefOk l.prog w K mg base 1 "_law_cell" ["_law_script","_law_k"] (Zj6 K):=⟨_,_,Zkm F15 T,PySem.W.mg_of X G a15,k15,b15⟩
 have D__law_draw:DefOk l.prog w K mg base 1 "_law_draw" ["_law_cell_here","_law_nth","_law_many"] Zfe:=⟨_,_,Zkl F16,PySem.W.mg_of X G a16,k16,b16⟩
 have D__law_state:DefOk l.prog w K mg base 1 "_law_state" ["_law_cell_here"] Zex:=⟨_,_,Zi2 F17 T,PySem.W.mg_of X G a17,k17,b17⟩
 have D__law_pick:DefOk l.prog w K mg base 2 "_law_pick" ["_law_state_here","_law_many"] Zha:=⟨_,_,Zkj F18 D__law_draw,PySem.W.mg_of X G a18,k18,b18⟩
 have A__law_tree:∀ n:Nat,DefOk l.prog w K mg base (n+3) "_law_tree" ["_law_cells","_law_width","_law_height"] (Ze8 n):=fun n=>by
  induction n with
  | zero=>exact ⟨_,_,Zem F19 Zg0 (fun _ _ _ _=>tree0),PySem.W.mg_of X G a19,k19,b19⟩
  | succ n ih=>exact ⟨_,_,Zkh F19 D__law_state D__law_pick ih,PySem.W.mg_of X G a19,k19,b19⟩
 have D__law_tree:=A__law_tree 25
 have A__law_made:∀ n:Nat,DefOk l.prog w K mg base (n+3) "_law_made" ["_law_told_here"] (Zfa cW cU cL n):=fun n=>by
  induction n with
  | zero=>exact ⟨_,_,Zem F20 Zg2 (fun _ _ _ _=>made0),PySem.W.mg_of X G a20,k20,b20⟩
  | succ n ih=>exact ⟨_,_,Zkk F20 K_Whole K_Upright K_Level ih,PySem.W.mg_of X G a20,k20,b20⟩
 have D__law_made:=A__law_made 24
 have D__law_whole:DefOk l.prog w K mg base 1 "_law_whole" ["_law_found"] Zfb:=⟨_,_,Zi0 F21 T,PySem.W.mg_of X G a21,k21,b21⟩
 have A__law_told:∀ n:Nat,DefOk l.prog w K mg base (n+3) "_law_told" ["_law_tree_here"] (Zdv cW cU cL n):=fun n=>by
  induction n with
  | zero=>exact ⟨_,_,Zem F22 Zg1 (fun _ _ _ _=>ltold0),PySem.W.mg_of X G a22,k22,b22⟩
  | succ n ih=>exact ⟨_,_,Zki F22 T R0 D__law_whole ih,PySem.W.mg_of X G a22,k22,b22⟩
 have D__law_told:=A__law_told 24
 have A__law_pieces:∀ n:Nat,DefOk l.prog w K mg base (n+3) "_law_pieces" ["_law_told_here","_law_block"] (Zc2 n):=fun n=>by
  induction n with
  | zero=>exact ⟨_,_,Zem F23 Zeu (fun _ _ _ _=>lpieces0),PySem.W.mg_of X G a23,k23,b23⟩
  | succ n ih=>exact ⟨_,_,Zhk F23 ih,PySem.W.mg_of X G a23,k23,b23⟩
 have D__law_pieces:=A__law_pieces 24
 have D__law_through:DefOk l.prog w K mg base 1 "_law_through" ["_law_some","_law_block"] Zea:=⟨_,_,Zgb F24 T,PySem.W.mg_of X G a24,k24,b24⟩
 have D__law_parted:DefOk l.prog w K mg base 1 "_law_parted" ["_law_some","_law_block","_law_word","_law_line"] Ze9:=⟨_,_,Zhl F25 T,PySem.W.mg_of X G a25,k25,b25⟩
 have A__law_recut:∀ n:Nat,DefOk l.prog w K mg base (n+3) "_law_recut" ["_law_some","_law_block","_law_state_here"] (Zdt n):=fun n=>by
  induction n with
  | zero=>exact ⟨_,_,Zem F26 Zf3 (fun _ _ _ _=>recut0),PySem.W.mg_of X G a26,k26,b26⟩
  | succ n ih=>exact ⟨_,_,Zi3 F26 T D__law_through D__law_pick D__law_parted ih,PySem.W.mg_of X G a26,k26,b26⟩
 have D__law_recut:=A__law_recut 25
 have A__law_moved:∀ n:Nat,DefOk l.prog w K mg base (n+3) "_law_moved" ["_law_told_here","_law_steps_here","_law_word"] (Zdu n):=fun n=>by
  induction n with
  | zero=>exact ⟨_,_,Zem F27 Zf4 (fun _ _ _ _=>moved0),PySem.W.mg_of X G a27,k27,b27⟩
  | succ n ih=>exact ⟨_,_,Zi4 F27 T ih,PySem.W.mg_of X G a27,k27,b27⟩
 have D__law_moved:=A__law_moved 24
 have D__law_steps:DefOk l.prog w K mg base 2 "_law_steps" ["_law_told_here","_law_cell_here"] Zfc:=⟨_,_,Zi1 F28 D__law_draw,PySem.W.mg_of X G a28,k28,b28⟩
 have D__law_asked:DefOk l.prog w K mg base 7 "_law_asked" ["_law_tree_here","_law_move"] (Zj4 cW cU cL):=⟨_,_,Zi5 F29 T RG0 D_moved,PySem.W.mg_of X G a29,k29,b29⟩
 exact ok_law F30 T D__law_cell D__law_draw D__law_state D__law_tree D__law_pieces D__law_recut D__law_made D__law_steps D__law_moved D__law_asked D__law_told
theorem walk {l:PySem.W.OpenLaw} {q:Program} {loose:List Str} {XP:(Str→Option Value)→Heap→Prop} {YP:World→Heap→Prop} {d:DefRec} {K:Params→PySem.W.Frag} (hn:l.most=some 63) (hdf:d.params.defaults=[])
  (hY:∀ (w:World) (h:Heap),YP w h→(K w.params).In h)
  (F:∀ (w:World) (mg:Str→Option Value) (fa:Addr) (h:Heap),(K w.params).In h→h.Ns mainGlobals mg→mg d.name=some (.ref fa) →
   ∃ fd:FuncData,(∀ (s:Shared) (u:Value),BindsTo s fd ⟨[u],[]⟩ [("_law_script",u)])∧∀ base:Heap,(K w.params).In base→base.Ns mainGlobals mg→FnOk l.prog w (K w.params) mg base CX0 29 fa fd ["_law_script"] (sp_law (K w.params))) :
  PySem.W.WalkO q loose XP YP l.row.toRowW d [] (fun f vs=>PySem.call f vs) :=
 L2.walk_of (n:=63) (k:=29) (x:="_law_script") (CX:=fun _=>CX0) (sp:=fun w=>sp_law (K w.params)) hn (by decide) hdf ⟨rfl,by decide,by decide⟩ hY F (fun _ _ a ns hl _ hS=>⟨a,ns,rfl,hS,hl,fun _=>rfl⟩) fun _ _ _ _ _ z=>z
end K32
open PySem PySem.W PyProof.Rows
set_option maxRecDepth 100000 in
set_option maxHeartbeats 0 in
theorem PySem.Challenge.cw_glazebench_k32_moves_holds : PySem.Challenge.rw_glazebench_k32_moves.Holds := by
 refine KH.prep fun said => ?_
 have fx : ∀ s, KH.Xp PySem.Challenge.pw_glazebench_k32_moves s = true → XL (KH.qv PySem.Challenge.pw_glazebench_k32_moves) [] (s.heap.nsMap mainGlobals) s.heap := fun s e => xl_of s (Bool.and_eq_true_iff.mp e).1
 have fr : ∀ s, KH.Xp PySem.Challenge.pw_glazebench_k32_moves s = true → RecFacts (RowW.records (OpenRow.toRowW PySem.Challenge.rw_glazebench_k32_moves.row)) s.heap := fun s e => recFacts_of (Bool.and_eq_true_iff.mp e).2
 refine holds_open (XP := XL (KH.qv PySem.Challenge.pw_glazebench_k32_moves) []) KH.left (kHook KH.KK KH.kas KH.kas_is).of (kHook KH.KK KH.kas KH.kas_is).keeps fx XL.keeps (by rfl) (by rfl) (by rfl) fr (by rfl) said (by decide +kernel) ?hb ?hw ?hc
 case hb => exact ⟨rfl,rfl, rfl,rfl, rfl, by decide +kernel⟩
 case hw => w_witness2
 case hc =>
  k_fill
  refine K32.walk (l := PySem.Challenge.rw_glazebench_k32_moves) rfl rfl (fun w h Y => PySem.W.kIn_of Y) ?F
  case F =>
   intro w mg fa h KX G hmg
   refine' K32.all_mk KX G hmg ?my_aT ?my_aC_cW ?my_ic_cW ?my_a_cWcW ?my_i_cW ?my_l_cW ?my_cc_cW ?my_k_cW ?my_lT_cW ?my_eT_cW ?my_aC_cU ?my_ic_cU ?my_a_cUcU ?my_i_cU ?my_l_cU ?my_cc_cU ?my_k_cU ?my_aC_cL ?my_ic_cL ?my_a_cLcL ?my_i_cL ?my_l_cL ?my_cc_cL ?my_k_cL ?my_kit ?my_aG ?my_eG ?my_aC_cM ?my_kC_cM ?my_nC_cM ?my_a_cMcM ?my_i_cM ?my_l_cM ?my_cc_cM ?my_k_cM ?my_ei_cM ?my_xc_cM ?my_xm_cM ?my_aC_cN ?my_aC_cD ?my_aC_cK ?my_kt0 ?my_kt1 ?my_kt2 ?my_kt3 ?my_a0 ?my_l0 ?my_cc0 ?my_k0 ?my_a1 ?my_l1 ?my_cc1 ?my_k1 ?my_a2 ?my_l2 ?my_cc2 ?my_k2 ?my_a3 ?my_l3 ?my_cc3 ?my_k3 ?my_a4 ?my_l4 ?my_cc4 ?my_k4 ?my_a5 ?my_l5 ?my_cc5 ?my_k5 ?my_a6 ?my_l6 ?my_cc6 ?my_k6 ?my_a7 ?my_l7 ?my_cc7 ?my_k7 ?my_a8 ?my_l8 ?my_cc8 ?my_k8 ?my_a9 ?my_l9 ?my_cc9 ?my_k9 ?my_a10 ?my_l10 ?my_cc10 ?my_k10 ?my_a11 ?my_l11 ?my_cc11 ?my_k11 ?my_a12 ?my_l12 ?my_cc12 ?my_k12 ?my_a13 ?my_l13 ?my_cc13 ?my_k13 ?my_a14 ?my_l14 ?my_cc14 ?my_k14 ?my_a15 ?my_l15 ?my_cc15 ?my_k15 ?my_a16 ?my_l16 ?my_cc16 ?my_k16 ?my_a17 ?my_l17 ?my_cc17 ?my_k17 ?my_a18 ?my_l18 ?my_cc18 ?my_k18 ?my_a19 ?my_l19 ?my_cc19 ?my_k19 ?my_a20 ?my_l20 ?my_cc20 ?my_k20 ?my_a21 ?my_l21 ?my_cc21 ?my_k21 ?my_a22 ?my_l22 ?my_cc22 ?my_k22 ?my_a23 ?my_l23 ?my_cc23 ?my_k23 ?my_a24 ?my_l24 ?my_cc24 ?my_k24 ?my_a25 ?my_l25 ?my_cc25 ?my_k25 ?my_a26 ?my_l26 ?my_cc26 ?my_k26 ?my_a27 ?my_l27 ?my_cc27 ?my_k27 ?my_a28 ?my_l28 ?my_cc28 ?my_k28 ?my_a29 ?my_l29 ?my_cc29 ?my_k29 ?my_a30 ?my_l30 ?my_cc30 ?my_k30 ?my_z0 ?my_z1 ?my_z2 ?my_z3 ?my_z4 ?my_z5 ?my_z6 ?my_z7 ?my_z8 ?my_z9 ?my_z10 ?my_z11 ?my_z12 ?my_g0 ?my_g1 ?my_g2 ?my_g3 ?my_g4 ?my_g5
   (case my_aT => k_is); (case my_aC_cW => k_is); (case my_a_cWcW => k_is); (case my_i_cW => k_is); (case my_l_cW => k_is); (case my_cc_cW => k_is); (case my_k_cW => k_is); (case my_lT_cW => k_is)
   (case my_aC_cU => k_is); (case my_a_cUcU => k_is); (case my_i_cU => k_is); (case my_l_cU => k_is); (case my_cc_cU => k_is); (case my_k_cU => k_is); (case my_aC_cL => k_is); (case my_a_cLcL => k_is)
   (case my_i_cL => k_is); (case my_l_cL => k_is); (case my_cc_cL => k_is); (case my_k_cL => k_is); (case my_aG => k_is); (case my_aC_cM => k_is); (case my_kC_cM => k_is); (case my_nC_cM => k_is)
   (case my_a_cMcM => k_is); (case my_i_cM => k_is); (case my_l_cM => k_is); (case my_cc_cM => k_is); (case my_k_cM => k_is); (case my_xm_cM => k_is); (case my_aC_cN => k_is); (case my_aC_cD => k_is)
   (case my_aC_cK => k_is); (case my_a0 => k_is); (case my_l0 => k_is); (case my_cc0 => k_is); (case my_k0 => k_is); (case my_a1 => k_is); (case my_l1 => k_is); (case my_cc1 => k_is)
   (case my_k1 => k_is); (case my_a2 => k_is); (case my_l2 => k_is); (case my_cc2 => k_is); (case my_k2 => k_is); (case my_a3 => k_is); (case my_l3 => k_is); (case my_cc3 => k_is)
   (case my_k3 => k_is); (case my_a4 => k_is); (case my_l4 => k_is); (case my_cc4 => k_is); (case my_k4 => k_is); (case my_a5 => k_is); (case my_l5 => k_is); (case my_cc5 => k_is)
   (case my_k5 => k_is); (case my_a6 => k_is); (case my_l6 => k_is); (case my_cc6 => k_is); (case my_k6 => k_is); (case my_a7 => k_is); (case my_l7 => k_is); (case my_cc7 => k_is)
   (case my_k7 => k_is); (case my_a8 => k_is); (case my_l8 => k_is); (case my_cc8 => k_is); (case my_k8 => k_is); (case my_a9 => k_is); (case my_l9 => k_is); (case my_cc9 => k_is)
   (case my_k9 => k_is); (case my_a10 => k_is); (case my_l10 => k_is); (case my_cc10 => k_is); (case my_k10 => k_is); (case my_a11 => k_is); (case my_l11 => k_is); (case my_cc11 => k_is)
   (case my_k11 => k_is); (case my_a12 => k_is); (case my_l12 => k_is); (case my_cc12 => k_is); (case my_k12 => k_is); (case my_a13 => k_is); (case my_l13 => k_is); (case my_cc13 => k_is)
   (case my_k13 => k_is); (case my_a14 => k_is); (case my_l14 => k_is); (case my_cc14 => k_is); (case my_k14 => k_is); (case my_a15 => k_is); (case my_l15 => k_is); (case my_cc15 => k_is)
   (case my_k15 => k_is); (case my_a16 => k_is); (case my_l16 => k_is); (case my_cc16 => k_is); (case my_k16 => k_is); (case my_a17 => k_is); (case my_l17 => k_is); (case my_cc17 => k_is)
   (case my_k17 => k_is); (case my_a18 => k_is); (case my_l18 => k_is); (case my_cc18 => k_is); (case my_k18 => k_is); (case my_a19 => k_is); (case my_l19 => k_is); (case my_cc19 => k_is)
   (case my_k19 => k_is); (case my_a20 => k_is); (case my_l20 => k_is); (case my_cc20 => k_is); (case my_k20 => k_is); (case my_a21 => k_is); (case my_l21 => k_is); (case my_cc21 => k_is)
   (case my_k21 => k_is); (case my_a22 => k_is); (case my_l22 => k_is); (case my_cc22 => k_is); (case my_k22 => k_is); (case my_a23 => k_is); (case my_l23 => k_is); (case my_cc23 => k_is)
   (case my_k23 => k_is); (case my_a24 => k_is); (case my_l24 => k_is); (case my_cc24 => k_is); (case my_k24 => k_is); (case my_a25 => k_is); (case my_l25 => k_is); (case my_cc25 => k_is)
   (case my_k25 => k_is); (case my_a26 => k_is); (case my_l26 => k_is); (case my_cc26 => k_is); (case my_k26 => k_is); (case my_a27 => k_is); (case my_l27 => k_is); (case my_cc27 => k_is)
   (case my_k27 => k_is); (case my_a28 => k_is); (case my_l28 => k_is); (case my_cc28 => k_is); (case my_k28 => k_is); (case my_a29 => k_is); (case my_l29 => k_is); (case my_cc29 => k_is)
   (case my_k29 => k_is); (case my_a30 => k_is); (case my_l30 => k_is); (case my_cc30 => k_is); (case my_k30 => k_is); (case my_z0 => k_is); (case my_z1 => k_is); (case my_z2 => k_is)
   (case my_z3 => k_is); (case my_z4 => k_is); (case my_z5 => k_is); (case my_z6 => k_is); (case my_z7 => k_is); (case my_z8 => k_is); (case my_z9 => k_is); (case my_z10 => k_is)
   (case my_z11 => k_is); (case my_z12 => k_is); (case my_g0 => k_is); (case my_g1 => k_is); (case my_g2 => k_is); (case my_g3 => k_is); (case my_g4 => k_is); (case my_g5 => k_is)
   (case my_eT_cW => rfl); (case my_ic_cW => kernel_rfl); (case my_ic_cU => kernel_rfl); (case my_ic_cL => kernel_rfl); (case my_kit => kernel_rfl); (case my_eG => kernel_rfl); (case my_ei_cM => kernel_rfl); (case my_xc_cM => kernel_rfl)
   (case my_kt0 => kernel_rfl); (case my_kt1 => kernel_rfl); (case my_kt2 => kernel_rfl); (case my_kt3 => kernel_rfl)
