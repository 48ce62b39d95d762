import PyProof.Rows.All
import Wide.All
import OpenK.AllK
import Wide.FinOn
import Lean
import PyProof.EqAt
import PyProof.EqKinds
import PyProof.TupleCall
import PyProof.Rows.SortRuns
import PyProof.NeKinds
import PyProof.ExcAttrAll.ValueError
import PyProof.StationsW
import PyProof.PassesOwn
import PyProof.RulesAs
import PyProof.NsDelKeeps
import PyProof.CompMap
import PyProof.DictItems
import KE.KPairComp
import KE.KMinKey
import KE.KDictList
import KE.KDictOf
import KE.KEqDict
import PyProof.DictIter
import PyProof.DictWalks
import PyProof.Rows.DictUnroll
import KE.KRevIter
import KE.KLam
import KE.KSortKey
import KE.KSortTup
import PyProof.Rows.StrJoin2
import PyProof.Rows.StrNews
import PyProof.StrLawsTight
import PyProof.StrWalks
import PyProof.StrBlockH
import KE.KIntText
import KE.LcSums
import KE.KNest
import PySem.Challenge.RW_glazebench_k31_one_form
set_option Elab.async false
set_option linter.all false
set_option maxRecDepth 100000
namespace L2
open PySem PySem.Spec PyProof.Rows
abbrev Key:=Sum Int Str
def keyIs:Key→Value→Bool
  | .inl k,v=>Value.isInt k v
  | .inr x,v=>Value.isStrOf x v
def keyH (w:World):Key→Int
  | .inl k=>hashInt k
  | .inr x=>hashStr w x
theorem keyIs_shape:∀ {k:Key} {v:Value},keyIs k v=true→(∃ i t,k=Sum.inl i∧v=Value.int i t)∨(∃ x t,k=Sum.inr x∧v=Value.str x t)
  | .inl i,v,h=>by
    obtain ⟨t,e⟩:=Value.isInt_shape (k:=i) (v:=v) h
    exact .inl ⟨i,t,rfl,e⟩
  | .inr x,v,h=>by
    obtain ⟨t,e⟩:=Value.isStrOf_shape (x:=x) (v:=v) h
    exact .inr ⟨x,t,rfl,e⟩
theorem keyIs_int (i:Int) (t:Tok):keyIs (.inl i) (.int i t)=true:=by simp [keyIs,Value.isInt]
theorem keyIs_str (x:Str) (t:Tok):keyIs (.inr x) (.str x t)=true:=by simp [keyIs,Value.isStrOf]
theorem key_ll (a b:Int):decide ((Sum.inl a:Key)=Sum.inl b)=(a == b):=by
  by_cases e:a=b
  · subst e; simp
  · have h:¬ (Sum.inl a:Key)=Sum.inl b:=fun q=>e (Sum.inl.inj q)
    rw [decide_eq_false h]
    exact (beq_eq_false_iff_ne.mpr e).symm
theorem key_rr (a b:Str):decide ((Sum.inr a:Key)=Sum.inr b)=decide (a=b):=by
  by_cases e:a=b
  · subst e; simp
  · have h:¬ (Sum.inr a:Key)=Sum.inr b:=fun q=>e (Sum.inr.inj q)
    rw [decide_eq_false h,decide_eq_false e]
theorem key_lr (a:Int) (b:Str):decide ((Sum.inl a:Key)=Sum.inr b)=false:=decide_eq_false (fun q=>nomatch q)
theorem key_rl (a:Str) (b:Int):decide ((Sum.inr a:Key)=Sum.inl b)=false:=decide_eq_false (fun q=>nomatch q)
def mixKind (prog:Program) (w:World):PySem.KeyKind prog w Key where
  is:=keyIs
  hash:=keyH w
  inj:=fun v a b ha hb=>by
    rcases keyIs_shape ha with ⟨i,t,rfl,rfl⟩ | ⟨x,t,rfl,rfl⟩
    · rcases keyIs_shape hb with ⟨j,u,rfl,e⟩ | ⟨y,u,rfl,e⟩
      · injection e with e1 _; rw [e1]
      · exact nomatch e
    · rcases keyIs_shape hb with ⟨j,u,rfl,e⟩ | ⟨y,u,rfl,e⟩
      · exact nomatch e
      · injection e with e1 _; rw [e1]
  byValue:=fun k v h=>by
    rcases keyIs_shape h with ⟨i,t,rfl,rfl⟩ | ⟨x,t,rfl,rfl⟩ <;> rfl
  pyHash:=fun hv h=>by
    rcases keyIs_shape hv with ⟨i,t,rfl,rfl⟩ | ⟨x,t,rfl,rfl⟩
    · exact wpAny_pyHash_int h
    · exact wpAny_pyHash_str h
  eqBool:=fun hu hv h=>by
    rcases keyIs_shape hu with ⟨i,t,rfl,rfl⟩ | ⟨x,t,rfl,rfl⟩
    · rcases keyIs_shape hv with ⟨j,u,rfl,rfl⟩ | ⟨y,u,rfl,rfl⟩
      · rw [key_ll] at h; exact wpAny_eqBool_int h
      · rw [key_lr] at h; exact SeqAt.EqAt.int_str i t y u _ _ _ _ h
    · rcases keyIs_shape hv with ⟨j,u,rfl,rfl⟩ | ⟨y,u,rfl,rfl⟩
      · rw [key_rl] at h; exact SeqAt.EqAt.str_int x t j u _ _ _ _ h
      · rw [key_rr] at h; exact wpAny_eqBool_str h
  «strs»:=fun k x t v h=>by
    rcases keyIs_shape h with ⟨i,u,rfl,e⟩ | ⟨y,u,rfl,e⟩
    · exact nomatch e
    · injection e with e1 _
      subst e1
      cases v <;> rfl
theorem mixKind_int (prog:Program) (w:World) (i:Int) (t:Tok):(mixKind prog w).is (.inl i) (.int i t)=true:=keyIs_int i t
theorem mixKind_str (prog:Program) (w:World) (x:Str) (t:Tok):(mixKind prog w).is (.inr x) (.str x t)=true:=keyIs_str x t
end L2
namespace L2
open PySem PySem.Spec PyProof.Rows
inductive V where
  | non | bl (b:Bool) | int (i:Int) | str (x:Str) | byt (b:Array UInt8) | flt (b:UInt64) | ref (a:Addr) | ty (n:String)
  deriving DecidableEq
def RelV:V→Value→Prop
  | .non,u=>u=Value.none
  | .bl b,u=>u=Value.bool b
  | .int i,u=>∃ t,u=Value.int i t
  | .str x,u=>∃ t,u=Value.str x t
  | .byt b,u=>∃ t,u=Value.bytes b t
  | .flt b,u=>∃ t,u=Value.float b t
  | .ref a,u=>u=Value.ref a
  | .ty n,u=>u=Value.type n
abbrev Vals:List V→List Value→Prop:=Paired RelV
theorem Vals.length {xs:List V} {us:List Value} (r:Vals xs us):xs.length=us.length:=Paired.length r
theorem Vals.get:∀ {xs:List V} {us:List Value} {i:Nat} {x:V},Vals xs us→xs[i]?=some x→∃ u,us[i]?=some u∧RelV x u
  | _,_,_,_,.nil,e=>by simp at e
  | _,_,0,_,.cons r _,e=>by simp at e; subst e; exact ⟨_,rfl,r⟩
  | _,_,i+1,x,.cons _ t,e=>by
    obtain ⟨u,h1,h2⟩:=Vals.get (i:=i) (x:=x) t (by simpa using e)
    exact ⟨u,by simpa using h1,h2⟩
theorem Vals.append:∀ {xs ys:List V} {us ws:List Value},Vals xs us→Vals ys ws→Vals (xs++ys) (us++ws)
  | _,_,_,_,.nil,s=>s
  | _,_,_,_,.cons r t,s=>.cons r (Vals.append t s)
theorem Vals.take:∀ {xs:List V} {us:List Value} (n:Nat),Vals xs us→Vals (xs.take n) (us.take n)
  | _,_,0,_=>.nil
  | _,_,_+1,.nil=>.nil
  | _,_,n+1,.cons r t=>.cons r (Vals.take n t)
theorem Vals.drop:∀ {xs:List V} {us:List Value} (n:Nat),Vals xs us→Vals (xs.drop n) (us.drop n)
  | _,_,0,r=>r
  | _,_,_+1,.nil=>.nil
  | _,_,n+1,.cons _ t=>Vals.drop n t
def RelO:Option V→Option Value→Prop
  | some v,some u=>RelV v u
  | none,none=>True
  | _,_=>False
def KV {κ:Type}:List (κ × V)→List (κ × Value)→Prop:=Paired fun (p:κ × V) (q:κ × Value)=>p.1=q.1∧RelV p.2 q.2
def kV:Key→V
  | .inl i=>.int i
  | .inr x=>.str x
inductive HO where
  | lst (xs:List V)
  | tup (xs:List V)
  | dK (kvs:List (Key × V)) | dT (kvs:List (List Key × V))
  | set (S:Int→Bool) (n:Nat)
  | ins (C dx:Addr) (fs:List (Str × V))
  | own (x:Addr)
  | xd (fs:List (Str × V))
  | met (f x:Addr)
  | rng (lo hi:Int)
  | frz (o:Obj) (u:HO)
  | tbl (ps:Array Value)
  | ext (φ:Heap→Prop)
abbrev Hp:=Addr→Option HO
def upd (H:Hp) (a:Addr) (o:HO):Hp:=fun b=>if b=a then some o else H b
theorem upd_same {H:Hp} {a:Addr} {o:HO}:upd H a o a=some o:=by unfold upd; rw [if_pos rfl]
theorem upd_ne {H:Hp} {a b:Addr} {o:HO} (h:b≠a):upd H a o b=H b:=by unfold upd; rw [if_neg h]
theorem ne_of {H:Hp} {a b:Addr} {o u:HO} (h:H a=some o) (h':H b=some u) (d:o≠u):a≠b:=by
  intro e; subst e; rw [h] at h'; exact d (Option.some.inj h')
theorem ne_of_none {H:Hp} {a b:Addr} {o:HO} (h:H a=some o) (h':H b=none):a≠b:=by
  intro e; subst e; rw [h] at h'; cases h'
section
variable (P:Program) (w:World)
def ObjOk (H:Hp) (h:Heap) (a:Addr):HO→Prop
  | .lst xs=>xs.length≤sizeLine∧∃ (its:List Value) (n:Nat),Vals xs its∧h.get? a=some { cls:=.type "list",data:=.seq its.toArray n }
  | .tup xs=>xs.length≤sizeLine∧∃ its:List Value,Vals xs its∧IsTup h a its.toArray
  | .dK kvs=>kvs.length≤sizeLine∧(a == sysModules)=false∧∃ vs,KV kvs vs∧h.DictOf (mixKind P w) a vs
  | .dT kvs=>kvs.length≤sizeLine∧(a == sysModules)=false∧∃ xs:List (List Key × Addr × Value),
      Paired (fun (p:List Key × V) (q:List Key × Addr × Value)=>p.1=q.1∧H q.2.1=some (.tup (p.1.map kV))∧RelV p.2 q.2.2) kvs xs ∧
      ∃ o es ep,h.get? a=some o∧o.ExactDict∧o.data=.dict es ep∧es.toList=xs.map (entryOfKey (tupleKind (mixKind P w)))∧(xs.map (·.1)).Nodup
  | .set S n=>h.SetOf (intKind P w) a S n
  | .ins C dx fs=>H dx=some (.own a)∧fs.length≤1000∧dx≠a∧h.get? a=some (PySem.W.instObj C dx) ∧
      ∃ mA,h.Ns1 dx mA∧(∀ f,RelO (fs.lookup f) (mA f))∧PySem.Within mA (fs.map (·.1))
  | .own _=>∃ o,h.get? a=some o
  | .xd fs=>∃ mA,h.Ns1 a mA∧∀ f,RelO (fs.lookup f) (mA f)
  | .rng lo hi=>∃ t u v,h.get? a=some { cls:=.type "range",data:=.fields #[.int lo t,.int hi u,.int 1 v] }
  | .frz o u=>h.get? a=some o∧ObjOk H h a u
  | .tbl ps=>h.get? a=some { cls:=.none,data:=.fields ps }
  | .met f x=>h.get? a=some (PySem.W.methodObj (.ref f) (.ref x))
  | .ext φ=>φ h∧(∃ o,h.get? a=some o)∧∀ h1 h2:Heap,φ h1→(∀ o,h1.get? a=some o→h2.get? a=some o)→φ h2
def HOk (H:Hp) (h:Heap):Prop:=∀ a o,H a=some o→ObjOk P w H h a o
end
section
variable {P:Program} {w:World} {H H':Hp} {h h':Heap} {a:Addr} {o:HO}
theorem ObjOk.lt (x:ObjOk P w H h a o):a < h.objs.size:=by
  cases o with
  | lst xs=>obtain ⟨_,_,_,_,e⟩:=x; exact Heap.lt_size e
  | tup xs=>obtain ⟨_,_,_,p⟩:=x; exact p.lt
  | dK kvs=>obtain ⟨_,_,_,_,o,_,_,e,_⟩:=x; exact Heap.lt_size e
  | dT kvs=>obtain ⟨_,_,_,_,o,_,_,e,_⟩:=x; exact Heap.lt_size e
  | set S n=>obtain ⟨o,_,_,_,e,_⟩:=x; exact Heap.lt_size e
  | ins C dx fs=>obtain ⟨_,_,_,e,_⟩:=x; exact Heap.lt_size e
  | own y=>obtain ⟨_,e⟩:=x; exact Heap.lt_size e
  | xd fs=>obtain ⟨_,⟨_,_,_,e,_⟩,_⟩:=x; exact Heap.lt_size e
  | rng lo hi=>obtain ⟨_,_,_,e⟩:=x; exact Heap.lt_size e
  | frz ob u=>obtain ⟨e,_⟩:=x; exact Heap.lt_size e
  | tbl ps=>exact Heap.lt_size (show h.get? a=some _ from x)
  | met f y=>exact Heap.lt_size (show h.get? a=some _ from x)
  | ext φ=>obtain ⟨_,⟨_,e⟩,_⟩:=x; exact Heap.lt_size e
theorem Paired.mapP {α β:Type} {F G:α→β→Prop}:∀ {l₁:List α} {l₂:List β},Paired F l₁ l₂→(∀ a b,F a b→G a b)→Paired G l₁ l₂
  | _,_,.nil,_=>.nil
  | _,_,.cons r t,f=>.cons (f _ _ r) (Paired.mapP t f)
theorem ObjOk.stay (x:ObjOk P w H h a o) (k:∀ b u,(b=a∨H b=some (.own a))→h.get? b=some u→h'.get? b=some u)
    (ho:∀ b,H b=some (.own a)→H' b=some (.own a)) (ht:∀ b xs,H b=some (.tup xs)→H' b=some (.tup xs)):ObjOk P w H' h' a o:=by
  induction o with
  | lst xs=>obtain ⟨z,its,n,r,e⟩:=x; exact ⟨z,its,n,r,k _ _ (.inl rfl) e⟩
  | tup xs=>obtain ⟨z,its,r,ob,e,c⟩:=x; exact ⟨z,its,r,ob,k _ _ (.inl rfl) e,c⟩
  | dK kvs=>obtain ⟨z,y,vs,r,ob,es,ep,e,c⟩:=x; exact ⟨z,y,vs,r,ob,es,ep,k _ _ (.inl rfl) e,c⟩
  | dT kvs =>
    obtain ⟨z,y,xs,r,ob,es,ep,e,c⟩:=x
    exact ⟨z,y,xs,Paired.mapP r fun p q z=>⟨z.1,ht _ _ z.2.1,z.2.2⟩,ob,es,ep,k _ _ (.inl rfl) e,c⟩
  | set S n=>obtain ⟨ob,es,ep,t,e,c⟩:=x; exact ⟨ob,es,ep,t,k _ _ (.inl rfl) e,c⟩
  | ins C dx fs =>
    obtain ⟨d,z,ne,e,mA,⟨od,es,ep,e2,c⟩,r⟩:=x
    exact ⟨ho _ d,z,ne,k _ _ (.inl rfl) e,mA,⟨od,es,ep,k _ _ (.inr d) e2,c⟩,r⟩
  | own y=>obtain ⟨ob,e⟩:=x; exact ⟨ob,k _ _ (.inl rfl) e⟩
  | xd fs=>obtain ⟨mA,⟨od,es,ep,e,c⟩,r⟩:=x; exact ⟨mA,⟨od,es,ep,k _ _ (.inl rfl) e,c⟩,r⟩
  | rng lo hi=>obtain ⟨t,u,v,e⟩:=x; exact ⟨t,u,v,k _ _ (.inl rfl) e⟩
  | frz ob u ih=>obtain ⟨e,q⟩:=x; exact ⟨k _ _ (.inl rfl) e,ih q⟩
  | tbl ps =>
    have e:h.get? a=some { cls:=.none,data:=.fields ps }:=x
    show h'.get? a=some { cls:=.none,data:=.fields ps }
    exact k a _ (.inl rfl) e
  | met f y =>
    have e:h.get? a=some (PySem.W.methodObj (.ref f) (.ref y)):=x
    show h'.get? a=some (PySem.W.methodObj (.ref f) (.ref y))
    exact k a _ (.inl rfl) e
  | ext φ=>obtain ⟨p,⟨o,e⟩,st⟩:=x; exact ⟨st _ _ p fun o q=>k _ _ (.inl rfl) q,⟨o,k _ _ (.inl rfl) e⟩,st⟩
theorem HOk.lt (x:HOk P w H h) (e:H a=some o):a < h.objs.size:=(x a o e).lt
theorem HOk.fresh (x:HOk P w H h) (e:h.objs.size≤a):H a=none:=by
  cases q:H a with
  | none=>rfl
  | some u=>exact absurd (Nat.lt_of_lt_of_le (x.lt q) e) (Nat.lt_irrefl _)
theorem HOk.kept (x:HOk P w H h) (k:∀ b u,h.get? b=some u→h'.get? b=some u):HOk P w H h':=fun a o e =>
  (x a o e).stay (fun b u _ q=>k b u q) (fun _ q=>q) fun _ _ q=>q
theorem HOk.laid (x:HOk P w H h) (k:∀ b u,h.get? b=some u→h'.get? b=some u) (hp:h.objs.size≤a) (new:ObjOk P w (upd H a o) h' a o):HOk P w (upd H a o) h':=fun b u e=>by
  have hn:=x.fresh hp
  by_cases hb:b=a
  · subst hb; rw [upd_same] at e; cases e; exact new
  · rw [upd_ne hb] at e
    exact (x b u e).stay (fun c v _ q=>k c v q) (fun c q=>by rw [upd_ne (ne_of_none q hn)]; exact q) fun c xs q=>by rw [upd_ne (ne_of_none q hn)]; exact q
end
def Rd (H:Hp) (a:Addr) (u:HO):Prop:=H a=some u∨∃ o,H a=some (.frz o u)
theorem Rd.ok {P:Program} {w:World} {H:Hp} {h:Heap} {a:Addr} {u:HO} (r:Rd H a u) (x:HOk P w H h):ObjOk P w H h a u:=by
  rcases r with r | ⟨o,r⟩
  · exact x a u r
  · obtain ⟨_,q⟩:=x a _ r
    exact q
def Mut:Option HO→Prop
  | some (.lst _)=>True
  | some (.dK _)=>True
  | some (.dT _)=>True
  | some (.set _ _)=>True
  | some (.ins _ _ _)=>True
  | some (.ext _)=>True
  | _=>False
section
variable {P:Program} {w:World} {H:Hp} {h h':Heap} {x e:Addr} {o':HO}
theorem HOk.write (ok:HOk P w H h) (mu:Mut (H x)) (he:e=x∨H e=some (.own x)) (k:∀ b u,b≠e→h.get? b=some u→h'.get? b=some u) (heo:∃ u,h'.get? e=some u)
    (new:ObjOk P w (upd H x o') h' x o'):HOk P w (upd H x o') h':=fun b u q=>by
  have nown:∀ c y,H c=some (.own y)→c≠x:=fun c y r z=>by subst z; rw [r] at mu; exact mu
  have ntup:∀ c xs,H c=some (.tup xs)→c≠x:=fun c xs r z=>by subst z; rw [r] at mu; exact mu
  by_cases hb:b=x
  · subst hb; rw [upd_same] at q; cases q; exact new
  · rw [upd_ne hb] at q
    by_cases hbe:b=e
    · have q':H b=some (.own x):=by
        rcases he with z | z
        · exact absurd (hbe.trans z) hb
        · rw [hbe]; exact z
      rw [q] at q'; cases q'
      obtain ⟨v,hv⟩:=heo
      exact ⟨v,by rw [hbe]; exact hv⟩
    · refine (ok b u q).stay (fun c v hc r=>k c v ?_ r) (fun c r=>by rw [upd_ne (nown c b r)]; exact r) fun c xs r=>by rw [upd_ne (ntup c xs r)]; exact r
      rcases hc with rfl | hc
      · exact hbe
      · rintro rfl
        rcases he with z | z
        · exact nown c b hc z
        · rw [hc] at z; cases z; exact hb rfl
end
structure Un (fs ex:List Addr) (H H':Hp) (h h':Heap):Prop where
  keep:∀ b o,h.get? b=some o→H b=none→b ∉ fs→b ∉ ex→h'.get? b=some o
  slot:∀ b o,h.get? b=some o→H b=none→b∈fs→b ∉ ex→∃ sl,h'.get? b=some { o with slots:=sl }
  free:∀ b o,h.get? b=some o→H b=none→b ∉ ex→H' b=none
  there:∀ b o,h.get? b=some o→b ∉ ex→∃ o',h'.get? b=some o'
  tups:∀ b xs,H b=some (.tup xs)→H' b=some (.tup xs)
  frzs:∀ b o u,H b=some (.frz o u)→H' b=some (.frz o u)
  tbls:∀ b ps,H b=some (.tbl ps)→∃ more,H' b=some (.tbl (ps++more))
section
variable {fs fs' ex ex':List Addr} {H H1 H2:Hp} {h h1 h2 h':Heap} {a x e:Addr} {o:HO}
theorem Un.any (u:Un fs ex H H1 h h1) {b:Addr} {ob:Obj} (q:h.get? b=some ob) (n:H b=none) (hx:b ∉ ex):∃ sl,h1.get? b=some { ob with slots:=sl }:=by
  by_cases hb:b∈fs
  · exact u.slot b ob q n hb hx
  · exact ⟨ob.slots,u.keep b ob q n hb hx⟩
theorem Un.kept (k:∀ b u,h.get? b=some u→h'.get? b=some u):Un fs ex H H h h' :=
  ⟨fun b ob q _ _ _=>k b ob q,fun b ob q _ _ _=>⟨ob.slots,k b ob q⟩,fun _ _ _ n _=>n,fun b ob q _=>⟨ob,k b ob q⟩,fun _ _ q=>q,fun _ _ _ q=>q,fun _ ps q=>⟨#[],by rw [q]; simp⟩⟩
theorem Un.refl:Un fs ex H H h h:=Un.kept fun _ _ q=>q
theorem Un.laid (k:∀ b u,h.get? b=some u→h'.get? b=some u) (hp:h.objs.size≤a) (hn:H a=none):Un fs ex H (upd H a o) h h' where
  keep:=fun b u q _ _ _=>k b u q
  slot:=fun b u q _ _ _=>⟨u.slots,k b u q⟩
  free:=fun b u q n _=>by rw [upd_ne (Nat.ne_of_lt (Nat.lt_of_lt_of_le (Heap.lt_size q) hp))]; exact n
  there:=fun b u q _=>⟨u,k b u q⟩
  tups:=fun b xs q=>by rw [upd_ne (ne_of_none q hn)]; exact q
  frzs:=fun b u xs q=>by rw [upd_ne (ne_of_none q hn)]; exact q
  tbls:=fun b ps q=>⟨#[],by rw [upd_ne (ne_of_none q hn),q]; simp⟩
theorem Un.write (mu:Mut (H x)) (he:e=x∨H e=some (.own x)) (k:∀ b u,b≠e→h.get? b=some u→h'.get? b=some u) (heo:∃ u,h'.get? e=some u):Un fs ex H (upd H x o) h h':=by
  have hx:∀ b,H b=none→b≠x:=fun b n z=>by subst z; rw [n] at mu; exact mu
  have hb:∀ b,H b=none→b≠e:=fun b n z=>by
    subst z
    rcases he with r | r
    · exact hx b n r
    · rw [n] at r; cases r
  have hm:∀ b u,H b=some u→¬ Mut (some u)→b≠x:=fun b u q nm z=>by subst z; rw [q] at mu; exact nm mu
  refine ⟨fun b u q n _ _=>k b u (hb b n) q,fun b u q n _ _=>⟨u.slots,k b u (hb b n) q⟩,fun b u q n _=>by rw [upd_ne (hx b n)]; exact n,fun b u q _=>?_,
    fun b xs q=>by rw [upd_ne (hm b _ q fun z=>z)]; exact q,fun b u xs q=>by rw [upd_ne (hm b _ q fun z=>z)]; exact q,fun b ps q=>⟨#[],by rw [upd_ne (hm b _ q fun z=>z),q]; simp⟩⟩
  by_cases hbe:b=e
  · subst hbe; exact heo
  · exact ⟨u,k b u hbe q⟩
end
def trk (h:Heap) (H:Hp):List Addr:=(List.range h.objs.size).filter fun a=>(H a).isSome
def hidT (h:Heap) (H:Hp):Heap:=PySem.W.hideAll h (trk h H)
theorem hidT_size (h:Heap) (H:Hp):(hidT h H).objs.size=h.objs.size:=PySem.W.hideAll_size _ _
theorem hidT_get {h:Heap} {H:Hp} {b:Addr} {o:Obj} (e:h.get? b=some o) (n:H b=none):(hidT h H).get? b=some o :=
  PySem.W.hideAll_get _ e fun hm=>by
    have q:(H b).isSome=true:=(List.mem_filter.mp hm).2
    rw [n] at q; simp at q
theorem of_hidT {h:Heap} {H:Hp} {b:Addr} {o:Obj} (e:(hidT h H).get? b=some o):h.get? b=some o∧H b=none:=by
  have e':h.get? b=some o:=PySem.W.of_hideAll (trk h H) e
  refine ⟨e',?_⟩
  cases q:H b with
  | none=>rfl
  | some x =>
    have hm:b∈trk h H:=List.mem_filter.mpr ⟨List.mem_range.mpr (Heap.lt_size e'),by simp [q]⟩
    have z:(hidT h H).get? b=none:=PySem.W.hideAll_none (trk h H) hm
    rw [z] at e; cases e
def allNews (g h:Heap) (L:Addr):List (Addr × Obj):=(List.range h.objs.size).filterMap fun a=>if a=L∨(g.get? a).isSome=true then none else (h.get? a).map fun o=>(a,o)
def rest (g h:Heap) (L d:Addr):List (Addr × Obj):=(allNews g h L).filter fun p=>decide (p.1≠d)
end L2
namespace L2
open PySem PySem.Spec PyProof.Rows
structure Mod (K:PySem.W.Frag) (mg:Str→Option Value) (base:Heap):Prop where
  kin:K.In base
  glob:base.Ns mainGlobals mg
  blt:∃ mb,base.Ns builtinsNs mb∧∀ x:Str,x≠"__name__"→mb x=bootBuiltins x
  nolimit:base.NoLimit
structure Cx where
  prog:Program
  w:World
  K:PySem.W.Frag
  mg:Str→Option Value
  base:Heap
  A:Around
  N:List Str
  s₀:Shared
  H₀:Hp
  env:Env
  outer:List Env
  stack:List Env
  ex:List Addr
  fn:Str→Bool
  calm:Bool
  pn:List (Addr × Obj)
  xe:Value→Shared→Prop
def frs (l:List Env):List Addr:=l.filterMap (·.frame)
abbrev Cx.fs (X:Cx):List Addr:=frs X.outer
def Vis (sc:Scope) (x:Str):Prop:=sc.names.lookup x=some .local∨sc.names.lookup x=some .cell∨sc.names.lookup x=some .free
def Loc (sc:Scope) (x:Str):Prop:=sc.names.lookup x=some .local∨sc.names.lookup x=some .cell
def Look (env:Env) (h:Heap) (m:Str→Option Value) (x:Str) (u:Value):Prop :=
  (env.kindOf x=some .local∧m x=some u)∨((env.kindOf x=some .cell∨env.kindOf x=some .free)∧∃ c,env.cells.lookup x=some c∧h.IsCell c (some u))
structure Cx.Ok (X:Cx):Prop where
  mod:Mod X.K X.mg X.base
  kind:X.env.scope.kind=.function
  glob:X.env.globals=mainGlobals
  blt:X.env.builtins=builtinsNs
  above:X.s₀.heap.objs.size≤X.env.locals
  inj:∀ x y c,X.env.cells.lookup x=some c→X.env.cells.lookup y=some c→x=y
  has:∀ x,(X.env.kindOf x=some .cell∨X.env.kindOf x=some .free)→∃ c,X.env.cells.lookup x=some c
  cab:∀ x c,X.fn x=true→X.env.cells.lookup x=some c→X.s₀.heap.objs.size≤c
  hd:X.calm=true→X.A.handled=none
  frames:X.A.frames=some X.stack
  stk:X.stack=X.outer∨(X.stack=X.env :: X.outer∧X.env.frame=some X.env.locals)
  exf:∀ b∈X.ex,b≠X.env.locals∧∀ x c,X.env.cells.lookup x=some c→c≠b
  bs:∀ b o,X.base.get? b=some o→X.s₀.heap.get? b=some o∧X.H₀ b=none
  bsz:X.base.objs.size≤X.s₀.heap.objs.size
  noex:∀ b o,X.base.get? b=some o→b ∉ X.ex
  exfs:∀ b∈X.ex,b ∉ X.fs
  funs:X.s₀.heap.FunFrames X.base X.outer
  frf:∀ b∈X.fs,X.H₀ b=none
structure Inv (X:Cx) (pins:List (Addr × Obj)) (σ:List (Option V)) (H:Hp) (s:Shared):Prop where
  ok:X.Ok
  os:s.os=X.s₀.os
  bare:AllBare s.gens
  base:Un X.fs X.ex X.H₀ H X.s₀.heap s.heap
  loc:∃ m,s.heap.Ns X.env.locals m∧∀ (i:Nat) (x:Str) (v:V),X.N[i]?=some x→σ[i]?=some (some v)→Vis X.env.scope x→∃ u,RelV v u∧Look X.env s.heap m x u
  cell:∀ x c,X.env.cells.lookup x=some c→∃ v,s.heap.IsCell c v
  free:H X.env.locals=none
  freeC:∀ x c,X.env.cells.lookup x=some c→H c=none
  pin:∀ p∈X.pn++pins,s.heap.get? p.1=some p.2∧H p.1=none∧p.1≠X.env.locals∧p.1 ∉ X.fs∧∀ v,p.2.data≠.cell v
  hok:HOk X.prog X.w H s.heap
  len:σ.length=X.N.length
section
variable {X:Cx} {pins:List (Addr × Obj)} {σ:List (Option V)} {H H':Hp} {s:Shared} {h':Heap}
theorem Cx.Ok.nofr (ok:X.Ok) {b:Addr} {o:Obj} (e:X.base.get? b=some o):b ∉ X.fs:=fun hb=>by
  have:=(ok.funs.mem hb).1
  rw [e] at this; cases this
theorem Inv.bs (I:Inv X pins σ H s):∀ b o,X.base.get? b=some o→s.heap.get? b=some o∧H b=none:=fun b o e =>
  ⟨I.base.keep b o (I.ok.bs b o e).1 (I.ok.bs b o e).2 (I.ok.nofr e) (I.ok.noex b o e),I.base.free b o (I.ok.bs b o e).1 (I.ok.bs b o e).2 (I.ok.noex b o e)⟩
theorem Inv.bk (I:Inv X pins σ H s):∀ b o,X.base.get? b=some o→s.heap.get? b=some o:=fun b o e=>(I.bs b o e).1
theorem Inv.mod (I:Inv X pins σ H s):Mod X.K X.mg X.base:=I.ok.mod
theorem Inv.kIn (I:Inv X pins σ H s):X.K.In s.heap:=I.ok.mod.kin.keeps I.bk
theorem Inv.lt (I:Inv X pins σ H s):X.env.locals < s.heap.objs.size:=let ⟨_,hn,_⟩:=I.loc; hn.lt
theorem Inv.sz (I:Inv X pins σ H s):X.s₀.heap.objs.size≤s.heap.objs.size:=Nat.le_trans I.ok.above (Nat.le_of_lt I.lt)
theorem Inv.nofs (I:Inv X pins σ H s) {a:Addr} (h:s.heap.objs.size≤a):a ∉ X.fs:=fun hb=>by
  obtain ⟨_,o,ho,_⟩:=I.ok.funs.mem hb
  exact absurd (Nat.lt_of_lt_of_le (Heap.lt_size ho) (Nat.le_trans I.sz h)) (Nat.lt_irrefl _)
theorem Inv.cne (I:Inv X pins σ H s):∀ x c,X.env.cells.lookup x=some c→c≠X.env.locals:=fun x c e z=>by
  obtain ⟨v,o,ho,hd⟩:=I.cell x c e
  obtain ⟨m,⟨o',es,ep,ho',hd',_⟩,_⟩:=I.loc
  rw [z,ho'] at ho; cases ho; rw [hd'] at hd; cases hd
theorem Inv.funs (I:Inv X pins σ H s):s.heap.FunFrames X.base X.outer:=by
  have all:∀ (l:List Env),(∀ b∈frs l,b∈X.fs)→X.s₀.heap.FunFrames X.base l→s.heap.FunFrames X.base l:=by
    intro l
    induction l with
    | nil=>intro _ _; trivial
    | cons env r ih =>
      intro hs hl
      obtain ⟨hk,⟨L,o,hf,hn,ho,hd⟩,hr⟩:=hl
      have hL:L∈X.fs:=hs L (by unfold frs; rw [List.filterMap_cons,hf]; exact List.mem_cons_self)
      obtain ⟨sl,e⟩:=I.base.slot L o ho (I.ok.frf L hL) hL fun z=>I.ok.exfs L z hL
      exact ⟨hk,⟨L,_,hf,hn,e,hd⟩,ih (fun b hb=>hs b (by unfold frs; rw [List.filterMap_cons,hf]; exact List.mem_cons_of_mem _ hb)) hr⟩
  exact all X.outer (fun _ hb=>hb) I.ok.funs
theorem Inv.stack (I:Inv X pins σ H s):s.heap.FunFrames X.base X.stack:=by
  rcases I.ok.stk with e | ⟨e,hf⟩
  · rw [e]; exact I.funs
  · rw [e]
    obtain ⟨m,hn,_⟩:=I.loc
    refine .cons (by rw [I.ok.kind]; decide) hf hn ?_ I.funs
    exact Heap.get?_none_of_le (Nat.le_trans I.ok.bsz I.ok.above)
theorem Inv.stkSub (I:Inv X pins σ H s):∀ b∈frs X.stack,b∈X.env.locals :: X.fs:=fun b hb=>by
  rcases I.ok.stk with e | ⟨e,hf⟩
  · rw [e] at hb; exact List.mem_cons_of_mem _ hb
  · rw [e] at hb
    unfold frs at hb
    rw [List.filterMap_cons,hf] at hb
    exact hb
theorem Inv.stkFree (I:Inv X pins σ H s):∀ b∈frs X.stack,H b=none:=fun b hb=>by
  rcases List.mem_cons.mp (I.stkSub b hb) with e | hb
  · rw [e]; exact I.free
  · obtain ⟨_,o,ho,_⟩:=I.ok.funs.mem hb
    exact I.base.free b o ho (I.ok.frf b hb) fun z=>I.ok.exfs b z hb
theorem Inv.step {g':Array GenState} {t':Nat} {d':Drawn} {ch:List Addr} (I:Inv X pins σ H s)
    (hch:∀ b∈ch,(b∈X.ex∨X.s₀.heap.objs.size≤b)∧b≠X.env.locals∧(∀ x c,X.env.cells.lookup x=some c→c≠b)∧∀ p∈X.pn++pins,p.1≠b)
    (keep:∀ b o,b≠X.env.locals→b ∉ X.fs→b ∉ ch→s.heap.get? b=some o→H b=none→h'.get? b=some o)
    (slot:∀ b o,b≠X.env.locals→b∈X.fs→b ∉ ch→s.heap.get? b=some o→H b=none→∃ sl,h'.get? b=some { o with slots:=sl }) (free:∀ b o,b ∉ ch→s.heap.get? b=some o→H b=none→H' b=none)
    (there:∀ b o,b ∉ ch→s.heap.get? b=some o→∃ o',h'.get? b=some o')
    (tups:∀ b xs,H b=some (.tup xs)→H' b=some (.tup xs)) (frzs:∀ b o u,H b=some (.frz o u)→H' b=some (.frz o u)) (tbls:∀ b ps,H b=some (.tbl ps)→∃ more,H' b=some (.tbl (ps++more)))
    (ns:∀ m,s.heap.Ns X.env.locals m→h'.Ns X.env.locals m) (hok:HOk X.prog X.w H' h') (hg:AllBare g') :
    Inv X pins σ H' { s with heap:=h',gens:=g',drawn:=d',toks:=t' }:=by
  have neL:∀ b o,X.s₀.heap.get? b=some o→b≠X.env.locals:=fun b o e=>Nat.ne_of_lt (Nat.lt_of_lt_of_le (Heap.lt_size e) I.ok.above)
  have neC:∀ b o,X.s₀.heap.get? b=some o→b ∉ X.ex→b ∉ ch:=fun b o e hx hb=>by
    rcases (hch b hb).1 with z | z
    · exact hx z
    · exact absurd (Nat.lt_of_lt_of_le (Heap.lt_size e) z) (Nat.lt_irrefl _)
  have cellK:∀ x c,X.env.cells.lookup x=some c→∀ v,s.heap.IsCell c v→h'.IsCell c v:=fun x c e v ⟨o,ho,hd⟩=>by
    have nch:c ∉ ch:=fun z=>(hch c z).2.2.1 x c e rfl
    by_cases hc:c∈X.fs
    · obtain ⟨sl,q⟩:=slot c o (I.cne x c e) hc nch ho (I.freeC x c e)
      exact ⟨_,q,hd⟩
    · exact ⟨o,keep c o (I.cne x c e) hc nch ho (I.freeC x c e),hd⟩
  refine ⟨I.ok,I.os,hg,⟨fun b o e n hb hx=>?_,fun b o e n hb hx=>?_,fun b o e n hx=>?_,fun b o e hx=>?_,fun b xs e=>tups b xs (I.base.tups b xs e),fun b o xs e=>frzs b o xs (I.base.frzs b o xs e),fun b ps e=>?_⟩,?_,fun x c e=>?_,?_,fun x c e=>?_,fun p hp=>?_,hok,I.len⟩
  · exact keep b o (neL b o e) hb (neC b o e hx) (I.base.keep b o e n hb hx) (I.base.free b o e n hx)
  · obtain ⟨sl,e1⟩:=I.base.slot b o e n hb hx
    obtain ⟨sl',e2⟩:=slot b _ (neL b o e) hb (neC b o e hx) e1 (I.base.free b o e n hx)
    exact ⟨sl',e2⟩
  · obtain ⟨o',e1⟩:=I.base.there b o e hx
    exact free b o' (neC b o e hx) e1 (I.base.free b o e n hx)
  · obtain ⟨o',e1⟩:=I.base.there b o e hx
    exact there b o' (neC b o e hx) e1
  · obtain ⟨m1,e1⟩:=I.base.tbls b ps e
    obtain ⟨m2,e2⟩:=tbls b _ e1
    exact ⟨m1++m2,by rw [e2,Array.append_assoc]⟩
  · obtain ⟨m,hn,hl⟩:=I.loc
    refine ⟨m,ns m hn,fun i x v e1 e2 e3=>?_⟩
    obtain ⟨u,r,l⟩:=hl i x v e1 e2 e3
    refine ⟨u,r,?_⟩
    rcases l with l | ⟨k,c,e,z⟩
    · exact .inl l
    · exact .inr ⟨k,c,e,cellK x c e _ z⟩
  · obtain ⟨v,z⟩:=I.cell x c e
    exact ⟨v,cellK x c e v z⟩
  · obtain ⟨m,⟨o,_,_,ho,_⟩,_⟩:=I.loc
    exact free _ o (fun z=>(hch _ z).2.1 rfl) ho I.free
  · obtain ⟨v,o,ho,hd⟩:=I.cell x c e
    exact free c o (fun z=>(hch c z).2.2.1 x c e rfl) ho (I.freeC x c e)
  · obtain ⟨e,n,ne,nf,d⟩:=I.pin p hp
    have nch:p.1 ∉ ch:=fun z=>(hch p.1 z).2.2.2 p hp rfl
    exact ⟨keep p.1 p.2 ne nf nch e n,free p.1 p.2 nch e n,ne,nf,d⟩
theorem Inv.un {t':Nat} (I:Inv X pins σ H s) (u:Un X.fs [] H H' s.heap h') (hok:HOk X.prog X.w H' h'):Inv X pins σ H' { s with heap:=h',toks:=t' }:=by
  obtain ⟨m,⟨o,es,ep,ho,r⟩,_⟩:=id I.loc
  obtain ⟨sl,hL⟩:=u.any ho I.free (by simp)
  exact I.step (g':=s.gens) (d':=s.drawn) (ch:=[]) (fun _ z=>nomatch z) (fun b o _ hb _ e n=>u.keep b o e n hb (by simp)) (fun b o _ hb _ e n=>u.slot b o e n hb (by simp)) (fun b o _ e n=>u.free b o e n (by simp)) (fun b o _ e=>u.there b o e (by simp)) u.tups u.frzs u.tbls (fun m' hm=>by
    obtain ⟨o',es',ep',ho',r'⟩:=hm
    rw [ho] at ho'; cases ho'
    exact ⟨_,es',ep',hL,r'⟩) hok I.bare
theorem Inv.call {g':Array GenState} {t':Nat} {d':Drawn} {ch:List Addr} (I:Inv X pins σ H s) (u:Un (frs X.stack) ch H H' s.heap h') (hok:HOk X.prog X.w H' h') (hg:AllBare g')
    (hch:∀ b∈ch,(b∈X.ex∨X.s₀.heap.objs.size≤b)∧b≠X.env.locals∧(∀ x c,X.env.cells.lookup x=some c→c≠b)∧∀ p∈X.pn++pins,p.1≠b) :
    Inv X pins σ H' { s with heap:=h',gens:=g',drawn:=d',toks:=t' }:=by
  obtain ⟨m,⟨o,es,ep,ho,r⟩,_⟩:=id I.loc
  obtain ⟨sl,hL⟩:=u.any ho I.free fun z=>(hch _ z).2.1 rfl
  exact I.step (ch:=ch) hch (fun b o hL hb hc e n=>u.keep b o e n (fun z=>(List.mem_cons.mp (I.stkSub b z)).elim hL hb) hc) (fun b o _ _ hc e n=>u.any e n hc) (fun b o hc e n=>u.free b o e n hc) (fun b o hc e=>u.there b o e hc) u.tups u.frzs u.tbls (fun m' hm=>by
    obtain ⟨o',es',ep',ho',r'⟩:=hm
    rw [ho] at ho'; cases ho'
    exact ⟨_,es',ep',hL,r'⟩) hok hg
theorem Inv.turned {t':Nat} {it:Addr} (I:Inv X pins σ H s) (k:∀ b o,b≠it→s.heap.get? b=some o→h'.get? b=some o) (hn:H it=none) (hL:it≠X.env.locals)
    (h1:it∈X.ex∨X.s₀.heap.objs.size≤it) (h2:∀ x c,X.env.cells.lookup x=some c→c≠it) (h3:∀ p∈X.pn++pins,p.1≠it):Inv X pins σ H { s with heap:=h',toks:=t' }:=by
  have nit:∀ b u,H b=some u→b≠it:=fun b u e z=>by rw [z,hn] at e; cases e
  refine I.step (g':=s.gens) (d':=s.drawn) (ch:=[it]) (fun b hb=>?_) (fun b o _ _ hc e _=>k b o (fun z=>hc (by simp [z])) e) (fun b o _ _ hc e _=>⟨o.slots,k b o (fun z=>hc (by simp [z])) e⟩) (fun _ _ _ _ n=>n)
    (fun b o hc e=>⟨o,k b o (fun z=>hc (by simp [z])) e⟩) (fun _ _ e=>e) (fun _ _ _ e=>e) (fun b ps e=>⟨#[],by rw [e]; simp⟩) (fun m hm=>?_) (fun b u e=>?_) I.bare
  · have e:b=it:=by simpa using hb
    subst e
    exact ⟨h1,hL,h2,h3⟩
  · obtain ⟨o,es,ep,ho,r⟩:=hm
    exact ⟨o,es,ep,k _ o (Ne.symm hL) ho,r⟩
  · refine (I.hok b u e).stay (fun c v hc q=>k c v ?_ q) (fun _ q=>q) fun _ _ q=>q
    rcases hc with z | z
    · rw [z]; exact nit b u e
    · exact nit c _ z
theorem Inv.tok (I:Inv X pins σ H s) (t:Nat):Inv X pins σ H { s with toks:=t }:=I.un (h':=s.heap) (t':=t) Un.refl I.hok
theorem Inv.kept {t':Nat} (I:Inv X pins σ H s) (k:∀ b u,s.heap.get? b=some u→h'.get? b=some u):Inv X pins σ H { s with heap:=h',toks:=t' }:=I.un (Un.kept k) (I.hok.kept k)
theorem Inv.laid {a:Addr} {o:HO} {t':Nat} (I:Inv X pins σ H s) (k:∀ b u,s.heap.get? b=some u→h'.get? b=some u) (hp:s.heap.objs.size≤a) (new:ObjOk X.prog X.w (upd H a o) h' a o) :
    Inv X pins σ (upd H a o) { s with heap:=h',toks:=t' }:=I.un (Un.laid k hp (I.hok.fresh hp)) (I.hok.laid k hp new)
theorem Inv.write {x e:Addr} {o:HO} {t':Nat} (I:Inv X pins σ H s) (mu:Mut (H x)) (he:e=x∨H e=some (.own x)) (k:∀ b u,b≠e→s.heap.get? b=some u→h'.get? b=some u) (heo:∃ u,h'.get? e=some u)
    (new:ObjOk X.prog X.w (upd H x o) h' x o):Inv X pins σ (upd H x o) { s with heap:=h',toks:=t' }:=I.un (Un.write mu he k heo) (I.hok.write mu he k heo new)
theorem Inv.pins_of {pins':List (Addr × Obj)} (I:Inv X pins σ H s) (h:∀ p∈pins',s.heap.get? p.1=some p.2∧H p.1=none∧p.1≠X.env.locals∧p.1 ∉ X.fs∧∀ v,p.2.data≠.cell v):Inv X pins' σ H s :=
  ⟨I.ok,I.os,I.bare,I.base,I.loc,I.cell,I.free,I.freeC,fun p hp=>(List.mem_append.mp hp).elim (fun z=>I.pin p (List.mem_append_left _ z)) (h p),I.hok,I.len⟩
theorem nodup_ix {N:List Str} (hN:N.Nodup) {i j:Nat} {x:Str} (a:N[i]?=some x) (b:N[j]?=some x):i=j:=by
  obtain ⟨h1,e1⟩:=List.getElem?_eq_some_iff.mp a
  obtain ⟨h2,e2⟩:=List.getElem?_eq_some_iff.mp b
  exact (List.getElem_inj hN).mp (e1.trans e2.symm)
theorem store_ok2 {M:Model} {A:Around} {E:Value→Shared→Prop} {i:Nat} {x:Str} {v:V} {u:Value} {Q:Unit→Shared→Prop} (I:Inv X pins σ H s) (hN:X.N.Nodup) (hi:X.N[i]?=some x) (hx:Loc X.env.scope x) (r:RelV v u)
    (h:∀ s',Inv X pins (σ.set i (some v)) H s'→(∃ a,Heap.SameBut a s.heap s'.heap∧(a=X.env.locals∨X.env.cells.lookup x=some a))→Q () s') (hf:X.fn x=true∨X.env.scope.names.lookup x=some .local:=by first | exact .inl rfl | exact .inr rfl | assumption):wpAny M A (storeName X.env x u) Q E s:=by
  obtain ⟨m,hn,hl⟩:=id I.loc
  have hcls:(X.env.scope.kind == .class || (X.env.scope.kind == .module && X.env.locals != X.env.globals))=false:=by rw [I.ok.kind]; rfl
  have hiσ:i < σ.length:=by rw [I.len]; exact (List.getElem?_eq_some_iff.mp hi).1
  have cne:=I.cne
  have tracked:∀ {a:Addr} {h':Heap},(∃ o,s.heap.get? a=some o∧H a=none)→Heap.SameBut a s.heap h'→HOk X.prog X.w H h':=fun {a h'} ha hs b ob e=>by
    obtain ⟨_,_,hfree⟩:=ha
    refine (I.hok b ob e).stay (fun c w' hc q=>(hs.2 c ?_).trans q) (fun _ q=>q) fun _ _ q=>q
    rintro rfl
    rcases hc with rfl | hc
    · rw [hfree] at e; cases e
    · rw [hfree] at hc; cases hc
  rcases hx with hk | hk
  · refine wpAny_storeName_local hk hn (fun h' hn' hs=>?_) hcls
    obtain ⟨oL,_,_,hoL,_⟩:=id hn
    refine h _ ⟨I.ok,I.os,I.bare,⟨fun b o e n hb hx=>?_,fun b o e n hb hx=>?_,I.base.free,fun b o e hx=>?_,I.base.tups,I.base.frzs,I.base.tbls⟩,⟨_,hn',fun j y v' e1 e2 e3=>?_⟩,fun y c e=>?_,I.free,I.freeC,fun p hp=>?_,tracked ⟨oL,hoL,I.free⟩ hs,by simpa using I.len⟩ ⟨_,hs,.inl rfl⟩
    · exact (hs.2 b (Nat.ne_of_lt (Nat.lt_of_lt_of_le (Heap.lt_size e) I.ok.above))).trans (I.base.keep b o e n hb hx)
    · obtain ⟨sl,e1⟩:=I.base.slot b o e n hb hx
      exact ⟨sl,(hs.2 b (Nat.ne_of_lt (Nat.lt_of_lt_of_le (Heap.lt_size e) I.ok.above))).trans e1⟩
    · obtain ⟨o',e1⟩:=I.base.there b o e hx
      exact ⟨o',(hs.2 b (Nat.ne_of_lt (Nat.lt_of_lt_of_le (Heap.lt_size e) I.ok.above))).trans e1⟩
    · by_cases hj:j=i
      · subst hj
        rw [hi] at e1; cases e1
        rw [List.getElem?_set_self hiσ] at e2
        cases e2
        exact ⟨u,r,.inl ⟨hk,by simp⟩⟩
      · rw [List.getElem?_set_ne (Ne.symm hj)] at e2
        obtain ⟨u',r',q⟩:=hl j y v' e1 e2 e3
        refine ⟨u',r',?_⟩
        rcases q with ⟨k,e⟩ | ⟨k,c,e,z⟩
        · refine .inl ⟨k,?_⟩
          have:y≠x:=fun e=>hj (nodup_ix hN e1 (e ▸ hi))
          simp [this,e]
        · exact .inr ⟨k,c,e,z.sameBut hs (cne y c e)⟩
    · obtain ⟨w',z⟩:=I.cell y c e
      exact ⟨w',z.sameBut hs (cne y c e)⟩
    · obtain ⟨e,n,ne,nf,d⟩:=I.pin p hp
      exact ⟨(hs.2 p.1 ne).trans e,n,ne,nf,d⟩
  · have hfn:X.fn x=true:=by
      rcases hf with z | z
      · exact z
      · rw [z] at hk; cases hk
    obtain ⟨c,hc⟩:=I.ok.has x (.inl hk)
    obtain ⟨w',z⟩:=I.cell x c hc
    refine wpAny_storeName_cell I.ok.kind hk hc z (fun h' hc' hs=>?_)
    obtain ⟨oc,hoc,hocd⟩:=id z
    refine h { s with heap:=h' } ⟨I.ok,I.os,I.bare,⟨fun b o e n hb hx=>?_,fun b o e n hb hx=>?_,I.base.free,fun b o e hx=>?_,I.base.tups,I.base.frzs,I.base.tbls⟩,⟨m,hn.sameBut hs (Ne.symm (cne x c hc)),fun j y v' e1 e2 e3=>?_⟩,fun y c' e=>?_,I.free,I.freeC,fun p hp=>?_,tracked ⟨oc,hoc,I.freeC x c hc⟩ hs,by simpa using I.len⟩ ⟨c,hs,.inr hc⟩
    · exact (hs.2 b (Nat.ne_of_lt (Nat.lt_of_lt_of_le (Heap.lt_size e) (I.ok.cab x c hfn hc)))).trans (I.base.keep b o e n hb hx)
    · obtain ⟨sl,e1⟩:=I.base.slot b o e n hb hx
      exact ⟨sl,(hs.2 b (Nat.ne_of_lt (Nat.lt_of_lt_of_le (Heap.lt_size e) (I.ok.cab x c hfn hc)))).trans e1⟩
    · obtain ⟨o',e1⟩:=I.base.there b o e hx
      exact ⟨o',(hs.2 b (Nat.ne_of_lt (Nat.lt_of_lt_of_le (Heap.lt_size e) (I.ok.cab x c hfn hc)))).trans e1⟩
    · by_cases hj:j=i
      · subst hj
        rw [hi] at e1; cases e1
        rw [List.getElem?_set_self hiσ] at e2
        cases e2
        exact ⟨u,r,.inr ⟨.inl hk,c,hc,hc'⟩⟩
      · rw [List.getElem?_set_ne (Ne.symm hj)] at e2
        obtain ⟨u',r',q⟩:=hl j y v' e1 e2 e3
        refine ⟨u',r',?_⟩
        rcases q with q | ⟨k,c',e,z'⟩
        · exact .inl q
        · refine .inr ⟨k,c',e,z'.sameBut hs ?_⟩
          rintro rfl
          exact hj (nodup_ix hN e1 (I.ok.inj _ _ _ e hc ▸ hi))
    · by_cases hcc:c'=c
      · subst hcc; exact ⟨_,hc'⟩
      · obtain ⟨w2,z2⟩:=I.cell y c' e
        exact ⟨w2,z2.sameBut hs hcc⟩
    · obtain ⟨e,n,ne,nf,d⟩:=I.pin p hp
      refine ⟨(hs.2 p.1 ?_).trans e,n,ne,nf,d⟩
      intro q
      rw [q,hoc] at e
      have q':oc=p.2:=Option.some.inj e
      exact d w' (by rw [← q']; exact hocd)
theorem store_ok {M:Model} {A:Around} {E:Value→Shared→Prop} {i:Nat} {x:Str} {v:V} {u:Value} {Q:Unit→Shared→Prop} (I:Inv X pins σ H s) (hN:X.N.Nodup) (hi:X.N[i]?=some x) (hx:Loc X.env.scope x) (r:RelV v u)
    (h:∀ s',Inv X pins (σ.set i (some v)) H s'→Q () s') (hf:X.fn x=true∨X.env.scope.names.lookup x=some .local:=by first | exact .inl rfl | exact .inr rfl | assumption):wpAny M A (storeName X.env x u) Q E s :=
  store_ok2 I hN hi hx r (fun s' I' _=>h s' I') hf
theorem Inv.call' {s':Shared} {ch:List Addr} (I:Inv X pins σ H s) (ho:s'.os=s.os) (u:Un (frs X.stack) ch H H' s.heap s'.heap) (hok:HOk X.prog X.w H' s'.heap) (hg:AllBare s'.gens)
    (hch:∀ b∈ch,(b∈X.ex∨X.s₀.heap.objs.size≤b)∧b≠X.env.locals∧(∀ x c,X.env.cells.lookup x=some c→c≠b)∧∀ p∈X.pn++pins,p.1≠b):Inv X pins σ H' s':=by
  obtain ⟨h',g',d',t',o'⟩:=s'
  have e:o'=s.os:=ho
  subst e
  exact I.call (g':=g') (t':=t') (d':=d') u hok hg hch
end
abbrev XK:=Value→Option Addr→Hp→Prop
abbrev St:=List (Option V)
abbrev VK:=V→Hp→Prop
abbrev TE:=St→Hp→VK→Prop
abbrev TT:=St→Hp→(Bool→Hp→Prop)→Prop
abbrev TA:=St→Hp→(List V→Hp→Prop)→Prop
structure Ends where
  nx:St→Hp→Prop
  rt:VK
  bk:St→Hp→Prop:=fun _ _=>False
  ct:St→Hp→Prop:=fun _ _=>False
abbrev TS:=Ends→St→Hp→Prop
def EP (X:Cx) (pins:List (Addr × Obj)) (σ:St) (Q:VK) (u:Value) (s':Shared):Prop:=∃ v H',Inv X pins σ H' s'∧RelV v u∧Q v H'
def TP (X:Cx) (pins:List (Addr × Obj)) (σ:St) (Q:Bool→Hp→Prop) (b:Bool) (s':Shared):Prop:=∃ H',Inv X pins σ H' s'∧Q b H'
def AP (X:Cx) (pins:List (Addr × Obj)) (σ:St) (Q:List V→Hp→Prop) (us:List Value) (s':Shared):Prop:=∃ vs H',Inv X pins σ H' s'∧Vals vs us∧Q vs H'
def SP (X:Cx) (pins:List (Addr × Obj)) (D:Ends) (f:Flow) (s':Shared):Prop :=
  match f with
  | .next=>∃ σ' H',Inv X pins σ' H' s'∧D.nx σ' H'
  | .brk=>∃ σ' H',Inv X pins σ' H' s'∧D.bk σ' H'
  | .cont=>∃ σ' H',Inv X pins σ' H' s'∧D.ct σ' H'
  | .ret u=>∃ v σ' H',Inv X pins σ' H' s'∧RelV v u∧D.rt v H'
def PE (X:Cx) (e:Expr) (t:TE):Prop :=
  ∀ (pins:List (Addr × Obj)) (s:Shared) (σ:St) (H:Hp) (Q:VK),Inv X pins σ H s→t σ H Q→wpAny (model X.prog X.w) X.A (eval e X.env) (EP X pins σ Q) X.xe s
def PT (X:Cx) (e:Expr) (t:TT):Prop :=
  ∀ (pins:List (Addr × Obj)) (s:Shared) (σ:St) (H:Hp) (Q:Bool→Hp→Prop),Inv X pins σ H s→t σ H Q→wpAny (model X.prog X.w) X.A (isTrue e X.env (eval e X.env)) (TP X pins σ Q) X.xe s
def PW (X:Cx) (e:Expr) (t:TT):Prop :=
  ∀ (whole:Sem Value) (pins:List (Addr × Obj)) (s:Shared) (σ:St) (H:Hp) (Q:Bool→Hp→Prop),Inv X pins σ H s→t σ H Q→wpAny (model X.prog X.w) X.A (isTrue e X.env whole) (TP X pins σ Q) X.xe s
theorem PW.pt {X:Cx} {e:Expr} {t:TT} (h:PW X e t):PT X e t:=h _
def PA (X:Cx) (es:List Expr) (t:TA):Prop :=
  ∀ (pos:Pos) (pins:List (Addr × Obj)) (s:Shared) (σ:St) (H:Hp) (Q:List V→Hp→Prop),Inv X pins σ H s→t σ H Q→wpAny (model X.prog X.w) X.A (spliced (backTo pos (starEach es X.env))) (AP X pins σ Q) X.xe s
def PS (X:Cx) (st:Stmt) (t:TS):Prop :=
  ∀ (pins:List (Addr × Obj)) (s:Shared) (σ:St) (H:Hp) (D:Ends),Inv X pins σ H s→t D σ H→wpAny (model X.prog X.w) X.A (exec st X.env) (SP X pins D) X.xe s
def PSs (X:Cx) (st:List Stmt) (t:TS):Prop :=
  ∀ (pins:List (Addr × Obj)) (s:Shared) (σ:St) (H:Hp) (D:Ends),Inv X pins σ H s→t D σ H→wpAny (model X.prog X.w) X.A (execs st X.env) (SP X pins D) X.xe s
theorem thn {α:Type} {t:Sem α} {Q Q':α→Shared→Prop} {M:Model} {A:Around} {E:Value→Shared→Prop} {s:Shared} (h:wpAny M A t Q E s) (hQ:∀ a s,Q a s→Q' a s):wpAny M A t Q' E s:=wpAny_mono h hQ fun _ _ x=>x
end L2
namespace L2
open PySem PySem.Spec PyProof.Rows
section
variable {X:Cx}
def tVar (i:Nat):TE:=fun σ H Q=>∃ v,σ[i]?=some (some v)∧Q v H
def tC (v:V):TE:=fun _ H Q=>Q v H
theorem pe_var {i:Nat} {x:Str} {pos:Pos} (hN:X.N[i]?=some x) (hv:Vis X.env.scope x) (hd:(x == ("__debug__":Str))=false:=by decide) (hcd:(x == ("__classdict__":Str))=false:=by decide):PE X (.Name x pos) (tVar i):=by
  intro pins s σ H Q I h
  obtain ⟨v,e,h⟩:=h
  obtain ⟨m,hn,hl⟩:=I.loc
  obtain ⟨u,r,l⟩:=hl i x v hN e hv
  have fin:EP X pins σ Q u s:=⟨v,H,I,r,h⟩
  rcases l with ⟨hk,hm⟩ | ⟨hk,c,hc,hcell⟩
  · exact wpAny_Name (wpAny_loadName_local I.ok.kind hk hn hm fin) hd
  · rcases hk with hk | hk
    · exact wpAny_Name (wpAny_loadName_cell I.ok.kind hk hc hcell fin) hd
    · exact wpAny_Name (wpAny_loadName_free I.ok.kind hk hc hcell fin hcd) hd
theorem pe_int {i j pos}:PE X (.Constant (.int i) j pos) (tC (.int i)):=fun _ _ _ H _ I h=>wpAny_Constant_int ⟨.int i,H,I.tok _,⟨_,rfl⟩,h⟩
theorem pe_bl {b j pos}:PE X (.Constant (.bool b) j pos) (tC (.bl b)):=fun _ _ _ H _ I h=>Constant_bool ⟨.bl b,H,I,rfl,h⟩
theorem pe_non {j pos}:PE X (.Constant .none j pos) (tC .non):=fun _ _ _ H _ I h=>Constant_none ⟨.non,H,I,rfl,h⟩
theorem pe_str {x j pos}:PE X (.Constant (.str x) j pos) (tC (.str x)):=fun _ _ _ H _ I h=>Calls.Constant_str ⟨.str x,H,I.tok _,⟨_,rfl⟩,h⟩
def Gl (X:Cx) (x:Str):Prop:=X.env.kindOf x=some .globalImplicit
theorem ld_glob {E:Value→Shared→Prop} {pins:List (Addr × Obj)} {s:Shared} {σ:St} {H:Hp} {x:Str} {u:Value} {pos:Pos} {Q:Value→Shared→Prop} (I:Inv X pins σ H s) (hg:Gl X x) (hm:X.mg x=some u) (h:Q u s)
    (hd:(x == ("__debug__":Str))=false:=by decide):wpAny (model X.prog X.w) X.A (eval (.Name x pos) X.env) Q E s :=
  Calls.Name_function_global I.ok.kind hg (Calls.loadGlobal_global (by rw [I.ok.glob]; exact I.mod.glob.keeps I.bk) hm h) hd
theorem ld_blt {E:Value→Shared→Prop} {pins:List (Addr × Obj)} {s:Shared} {σ:St} {H:Hp} {x:Str} {u:Value} {pos:Pos} {Q:Value→Shared→Prop} (I:Inv X pins σ H s) (hg:Gl X x) (hm:X.mg x=none) (hv:bootBuiltins x=some u) (h:Q u s)
    (hn:x≠"__name__":=by decide) (hd:(x == ("__debug__":Str))=false:=by decide):wpAny (model X.prog X.w) X.A (eval (.Name x pos) X.env) Q E s:=by
  obtain ⟨mb,h1,h2⟩:=I.mod.blt
  exact Calls.Name_function_global I.ok.kind hg (Calls.loadGlobal_builtin (by rw [I.ok.glob]; exact I.mod.glob.keeps I.bk) hm (by rw [I.ok.blt]; exact h1.keeps I.bk) ((h2 x hn).trans hv) h) hd
theorem pe_glob {x:Str} {v:V} {u:Value} {pos:Pos} (hg:Gl X x) (hm:X.mg x=some u) (r:RelV v u) (hd:(x == ("__debug__":Str))=false:=by decide):PE X (.Name x pos) (tC v) :=
  fun _ _ _ H _ I h=>ld_glob I hg hm ⟨v,H,I,r,h⟩ hd
theorem pe_bltn {x:Str} {v:V} {u:Value} {pos:Pos} (hg:Gl X x) (hm:X.mg x=none) (hv:bootBuiltins x=some u) (r:RelV v u) (hn:x≠"__name__":=by decide) (hd:(x == ("__debug__":Str))=false:=by decide):PE X (.Name x pos) (tC v) :=
  fun _ _ _ H _ I h=>ld_blt I hg hm hv ⟨v,H,I,r,h⟩ hn hd
variable {a b:Expr} {ta tb:TE} {pos:Pos}
def tB (t:TE):TT:=fun σ H Q=>t σ H fun x H1=>∃ c,x=.bl c∧Q c H1
theorem pt_val {e:Expr} {t:TE} (h:PE X e t) (he:∀ whole,isTrue e X.env whole=(do let v ← whole; standAt e.pos; holding [v] (truthy v)):=by intro _; rfl):PT X e (tB t):=by
  intro pins s σ H Q I hw
  refine isTrue_plain (thn (h pins s σ H _ I hw) fun v s1 ⟨x,H1,I1,r1,q1⟩=>?_) (he _)
  obtain ⟨d,rfl,q⟩:=q1
  cases r1
  exact wpAny_truthy_bool ⟨H1,I1,q⟩
variable {tA tB':TT} {rest:List Expr}
def tAnd (t u:TT):TT:=fun σ H Q=>t σ H fun c H1=>if c=true then u σ H1 Q else Q false H1
def tOr (t u:TT):TT:=fun σ H Q=>t σ H fun c H1=>if c=true then Q true H1 else u σ H1 Q
def tNot (t:TT):TT:=fun σ H Q=>t σ H fun c H1=>Q (!c) H1
theorem pw_and1 (ha:PT X a tA):PW X (.BoolOp .And [a] pos) tA:=by
  intro wh pins s σ H Q I h
  refine isTrue_and (thn (ha pins s σ H Q I h) fun c s1 e=>?_)
  cases c with
  | true=>exact isTrue_and_nil e
  | false=>exact e
theorem pw_or1 (ha:PT X a tA):PW X (.BoolOp .Or [a] pos) tA:=by
  intro wh pins s σ H Q I h
  refine isTrue_or (thn (ha pins s σ H Q I h) fun c s1 e=>?_)
  cases c with
  | false=>exact isTrue_or_nil e
  | true=>exact e
theorem pw_and (ha:PT X a tA) (hb:PW X (.BoolOp .And (b :: rest) pos) tB'):PW X (.BoolOp .And (a :: b :: rest) pos) (tAnd tA tB'):=by
  intro wh pins s σ H Q I h
  refine isTrue_and (thn (ha pins s σ H _ I h) fun c s1 ⟨H1,I1,q1⟩=>?_)
  cases c with
  | true=>exact hb wh pins s1 σ H1 Q I1 q1
  | false=>exact ⟨H1,I1,q1⟩
theorem pw_or (ha:PT X a tA) (hb:PW X (.BoolOp .Or (b :: rest) pos) tB'):PW X (.BoolOp .Or (a :: b :: rest) pos) (tOr tA tB'):=by
  intro wh pins s σ H Q I h
  refine isTrue_or (thn (ha pins s σ H _ I h) fun c s1 ⟨H1,I1,q1⟩=>?_)
  cases c with
  | true=>exact ⟨H1,I1,q1⟩
  | false=>exact hb wh pins s1 σ H1 Q I1 q1
theorem pt_not (ha:PT X a tA):PT X (.UnaryOp .Not a pos) (tNot tA):=by
  intro pins s σ H Q I h
  exact isTrue_not (ha pins s σ H (fun c H1=>Q (!c) H1) I h)
def tAndV (ta tb:TE):TE:=fun σ H Q=>ta σ H fun x H1=>∃ c,x=.bl c∧if c=true then tb σ H1 Q else Q (.bl false) H1
def tNotV (ta:TE):TE:=fun σ H Q=>ta σ H fun x H1=>∃ c,x=.bl c∧Q (.bl (!c)) H1
theorem pe_one {op} {t:TE} (h:PE X a t):PE X (.BoolOp op [a] pos) t:=fun pins s σ H Q I hw=>BoolOp_one (h pins s σ H Q I hw)
theorem pe_and (ha:PE X a ta) (hb:PE X (.BoolOp .And (b :: rest) pos) tb):PE X (.BoolOp .And (a :: b :: rest) pos) (tAndV ta tb):=by
  intro pins s σ H Q I h
  refine BoolOp_and (thn (ha pins s σ H _ I h) fun v s1 ⟨x,H1,I1,r1,q1⟩=>?_)
  obtain ⟨c,rfl,q1⟩:=q1
  cases r1
  refine wpAny_truthy_bool ?_
  cases c with
  | true=>exact hb pins s1 σ H1 Q I1 q1
  | false=>exact ⟨.bl false,H1,I1,rfl,q1⟩
theorem pe_not (ha:PE X a ta):PE X (.UnaryOp .Not a pos) (tNotV ta):=by
  intro pins s σ H Q I h
  refine UnaryOp_ (thn (ha pins s σ H _ I h) fun v s1 ⟨x,H1,I1,r1,q1⟩=>?_)
  obtain ⟨c,rfl,q1⟩:=q1
  cases r1
  exact not_of (wpAny_truthy_bool ⟨.bl (!c),H1,I1,rfl,q1⟩)
def tIf (t:TT) (ta tb:TE):TE:=fun σ H Q=>t σ H fun c H1=>if c=true then ta σ H1 Q else tb σ H1 Q
theorem pe_ifExp {c:Expr} (hc:PT X c tA) (ha:PE X a ta) (hb:PE X b tb):PE X (.IfExp c a b pos) (tIf tA ta tb):=by
  intro pins s σ H Q I h
  refine wpAny_IfExp (thn (hc pins s σ H _ I h) fun d s1 ⟨H1,I1,q1⟩=>?_)
  cases d with
  | true=>exact ha pins s1 σ H1 Q I1 q1
  | false=>exact hb pins s1 σ H1 Q I1 q1
end
end L2
namespace L2
open PySem PySem.Spec PyProof.Rows
def SqL (K:PySem.W.Frag) (H:Hp) (a:Addr) (xs:List V):Prop :=
  Rd H a (.lst xs) ∨
    ∃ (o:Obj) (its:Array Value) (n:Nat),K.lookup a=some o∧o.cls=.type "list"∧o.dict=none∧o.data=.seq its n∧its.size≤sizeLine∧Vals xs its.toList
def SqT (K:PySem.W.Frag) (H:Hp) (a:Addr) (xs:List V):Prop :=
  Rd H a (.tup xs) ∨
    ∃ (o:Obj) (its:Array Value) (n:Nat),K.lookup a=some o∧o.cls=.type "tuple"∧o.data=.seq its n∧its.size≤sizeLine∧Vals xs its.toList
def absV:Value→Option V
  | .none=>some .non
  | .bool b=>some (.bl b)
  | .int i _=>some (.int i)
  | .str x _=>some (.str x)
  | .bytes b _=>some (.byt b)
  | .float b _=>some (.flt b)
  | .ref a=>some (.ref a)
  | .type n=>some (.ty n)
  | _=>none
theorem RelV.abs {x:V} {u:Value} (r:RelV x u):absV u=some x:=by
  cases x with
  | non=>cases r; rfl
  | bl _=>cases r; rfl
  | int _=>obtain ⟨t,rfl⟩:=r; rfl
  | str _=>obtain ⟨t,rfl⟩:=r; rfl
  | byt _=>obtain ⟨t,rfl⟩:=r; rfl
  | flt _=>obtain ⟨t,rfl⟩:=r; rfl
  | ref _=>cases r; rfl
  | ty _=>cases r; rfl
theorem RelV.inj {x y:V} {u:Value} (r:RelV x u) (q:RelV y u):x=y:=Option.some.inj (r.abs.symm.trans q.abs)
theorem Vals.inj:∀ {xs ys:List V} {us:List Value},Vals xs us→Vals ys us→xs=ys
  | _,_,_,.nil,.nil=>rfl
  | _,_,_,.cons r t,.cons r' t'=>by rw [r.inj r',Vals.inj t t']
section
variable {X:Cx} {pins:List (Addr × Obj)} {σ:St} {H:Hp} {s:Shared} {a:Addr} {xs ys:List V}
theorem SqL.of {K:PySem.W.Frag} (h:H a=some (.lst xs)):SqL K H a xs:=.inl (.inl h)
theorem SqT.of {K:PySem.W.Frag} (h:H a=some (.tup xs)):SqT K H a xs:=.inl (.inl h)
theorem Inv.list (I:Inv X pins σ H s) (h:SqL X.K H a xs):∃ its:List Value,Vals xs its∧PlainL s.heap a its.toArray∧xs.length≤sizeLine:=by
  rcases h with h | ⟨o,its,n,hk,hc,hd,hs,hz,r⟩
  · obtain ⟨z,its,n,r,e⟩:=h.ok I.hok
    exact ⟨its,r,⟨_,n,e,rfl,rfl,rfl⟩,z⟩
  · refine ⟨its.toList,r,⟨o,n,I.kIn a o hk,hc,hd,by simpa using hs⟩,?_⟩
    have e:=r.length
    simp only [Array.length_toList] at e
    omega
theorem Inv.tuple (I:Inv X pins σ H s) (h:SqT X.K H a xs):∃ its:List Value,Vals xs its∧IsTup s.heap a its.toArray∧xs.length≤sizeLine:=by
  rcases h with h | ⟨o,its,n,hk,hc,hs,hz,r⟩
  · obtain ⟨z,its,r,p⟩:=h.ok I.hok
    exact ⟨its,r,p,z⟩
  · refine ⟨its.toList,r,⟨o,I.kIn a o hk,hc,n,by simpa using hs⟩,?_⟩
    have e:=r.length
    simp only [Array.length_toList] at e
    omega
theorem Inv.list_inj (I:Inv X pins σ H s) (h:SqL X.K H a xs) (h':SqL X.K H a ys):xs=ys:=by
  obtain ⟨its,r,⟨o,n,e,_,_,d⟩,_⟩:=I.list h
  obtain ⟨its',r',⟨o',n',e',_,_,d'⟩,_⟩:=I.list h'
  rw [e] at e'; cases e'
  rw [d] at d'
  injection d' with d1 _
  have:its=its':=by simpa using congrArg Array.toList d1
  subst this
  exact r.inj r'
theorem Inv.tuple_inj (I:Inv X pins σ H s) (h:SqT X.K H a xs) (h':SqT X.K H a ys):xs=ys:=by
  obtain ⟨its,r,⟨o,e,_,n,d⟩,_⟩:=I.tuple h
  obtain ⟨its',r',⟨o',e',_,n',d'⟩,_⟩:=I.tuple h'
  rw [e] at e'; cases e'
  rw [d] at d'
  injection d' with d1 _
  have:its=its':=by simpa using congrArg Array.toList d1
  subst this
  exact r.inj r'
end
abbrev Cx.wish (X:Cx) (E:Value→Shared→Prop):Cx:={ X with xe:=E }
abbrev Cx.nox (X:Cx):Cx:=X.wish fun _ _=>False
theorem Cx.Ok.wish {X:Cx} (ok:X.Ok) (E:Value→Shared→Prop):(X.wish E).Ok :=
  ⟨ok.mod,ok.kind,ok.glob,ok.blt,ok.above,ok.inj,ok.has,ok.cab,ok.hd,ok.frames,ok.stk,ok.exf,ok.bs,ok.bsz,ok.noex,ok.exfs,ok.funs,ok.frf⟩
theorem Cx.Ok.unwish {X:Cx} {E:Value→Shared→Prop} (ok:(X.wish E).Ok):X.Ok :=
  ⟨ok.mod,ok.kind,ok.glob,ok.blt,ok.above,ok.inj,ok.has,ok.cab,ok.hd,ok.frames,ok.stk,ok.exf,ok.bs,ok.bsz,ok.noex,ok.exfs,ok.funs,ok.frf⟩
section
variable {X:Cx} {pins:List (Addr × Obj)} {σ:St} {H:Hp} {s:Shared} {E:Value→Shared→Prop}
theorem Inv.wish (I:Inv X pins σ H s) (E:Value→Shared→Prop):Inv (X.wish E) pins σ H s:=⟨I.ok.wish E,I.os,I.bare,I.base,I.loc,I.cell,I.free,I.freeC,I.pin,I.hok,I.len⟩
theorem Inv.unwish (I:Inv (X.wish E) pins σ H s):Inv X pins σ H s:=⟨I.ok.unwish,I.os,I.bare,I.base,I.loc,I.cell,I.free,I.freeC,I.pin,I.hok,I.len⟩
theorem SP.unwish {D:Ends} {f:Flow} {s':Shared} (h:SP (X.wish E) pins D f s'):SP X pins D f s':=by
  cases f with
  | next=>obtain ⟨σ',H',I,q⟩:=h; exact ⟨σ',H',I.unwish,q⟩
  | brk=>obtain ⟨σ',H',I,q⟩:=h; exact ⟨σ',H',I.unwish,q⟩
  | cont=>obtain ⟨σ',H',I,q⟩:=h; exact ⟨σ',H',I.unwish,q⟩
  | ret u=>obtain ⟨v,σ',H',I,r,q⟩:=h; exact ⟨v,σ',H',I.unwish,r,q⟩
theorem PSs.nox {st:List Stmt} {t:TS} (h:PSs X.nox st t):PSs X st t:=fun pins s σ H D I hw =>
  wpAny_mono (h pins s σ H D (I.wish _) hw) (fun _ _ q=>q.unwish) fun _ _ z=>False.elim z
end
section
variable {X:Cx} {st:Stmt} {rest:List Stmt} {t u:TS} {e:Expr} {te:TE} {pos:Pos}
def tNext:TS:=fun D σ H=>D.nx σ H
def tSeq (t u:TS):TS:=fun D σ H=>t { D with nx:=u D } σ H
theorem pss_nil:PSs X [] tNext:=fun _ _ σ H _ I h=>wpAny_execs_nil ⟨σ,H,I,h⟩
theorem pss_cons (h1:PS X st t) (h2:PSs X rest u):PSs X (st :: rest) (tSeq t u):=by
  intro pins s σ H D I h
  refine wpAny_execs_cons (thn (h1 pins s σ H { D with nx:=u D } I h) fun f s1 q=>?_)
  cases f with
  | next =>
    obtain ⟨σ',H',I',q⟩:=q
    exact h2 pins s1 σ' H' D I' q
  | ret v=>exact q
  | brk=>exact q
  | cont=>exact q
theorem pss_one (h1:PS X st t):PSs X [st] t:=by
  intro pins s σ H D I h
  refine wpAny_execs_cons (thn (h1 pins s σ H D I h) fun f s1 q=>?_)
  cases f with
  | next=>exact wpAny_execs_nil q
  | ret v=>exact q
  | brk=>exact q
  | cont=>exact q
theorem Inv.quiet {pins:List (Addr × Obj)} {σ:St} {H:Hp} {s:Shared} (I:Inv X pins σ H s):interactive X.env=false:=by simp [interactive,I.ok.kind]
def tDrop (te:TE):TS:=fun D σ H=>te σ H fun _ H1=>D.nx σ H1
theorem ps_expr (he:PE X e te) (hs:swapsWith e none pos.line X.env=pure false:=by rfl):PS X (.Expr e pos) (tDrop te):=by
  intro pins s σ H D I h
  exact wpAny_Expr_any (thn (he pins s σ H _ I h) fun v s1 ⟨x,H1,I1,r1,q1⟩=>⟨σ,H1,I1,q1⟩) I.quiet hs
def tRet (te:TE):TS:=fun D σ H=>te σ H D.rt
theorem ps_ret (he:PE X e te):PS X (.Return (some e) pos) (tRet te):=by
  intro pins s σ H D I h
  exact wpAny_Return_some (thn (he pins s σ H _ I h) fun v s1 ⟨x,H1,I1,r1,q1⟩=>⟨x,σ,H1,I1,r1,q1⟩)
def tIfS (c:TT) (t u:TS):TS:=fun D σ H=>c σ H fun b H1=>if b=true then t D σ H1 else u D σ H1
theorem ps_if {c:Expr} {a b:List Stmt} {tc:TT} (hc:PT X c tc) (ha:PSs X a t) (hb:PSs X b u):PS X (.If c a b pos) (tIfS tc t u):=by
  intro pins s σ H D I h
  refine wpAny_If (thn (hc pins s σ H _ I h) fun d s1 ⟨H1,I1,q1⟩=>?_)
  cases d with
  | true=>exact ha pins s1 σ H1 D I1 q1
  | false=>exact hb pins s1 σ H1 D I1 q1
def tNever:TS:=fun _ _ _=>False
theorem ps_never:PS X st tNever:=fun _ _ _ _ _ _ h=>h.elim
end
abbrev TG:=V→St→Hp→(St→Hp→Prop)→Prop
abbrev TGs:=List V→St→Hp→(St→Hp→Prop)→Prop
def PG (X:Cx) (target:Expr) (t:TG):Prop :=
  ∀ (pins:List (Addr × Obj)) (s:Shared) (σ:St) (H:Hp) (v:V) (u:Value) (Q:St→Hp→Prop),Inv X pins σ H s→RelV v u→t v σ H Q →
    wpAny (model X.prog X.w) X.A (assign target X.env u) (fun _ s'=>∃ σ' H',Inv X pins σ' H' s'∧Q σ' H') X.xe s
def PGs (X:Cx) (ts:List Expr) (t:TGs):Prop :=
  ∀ (pins:List (Addr × Obj)) (s:Shared) (σ:St) (H:Hp) (vs:List V) (us:List Value) (Q:St→Hp→Prop),Inv X pins σ H s→Vals vs us→t vs σ H Q →
    wpAny (model X.prog X.w) X.A (assignInOrder ((assignEach ts X.env).map (·.2)) us) (fun _ s'=>∃ σ' H',Inv X pins σ' H' s'∧Q σ' H') X.xe s
section
variable {X:Cx} {pos:Pos}
def gName (i:Nat):TG:=fun v σ H Q=>Q (σ.set i (some v)) H
theorem pg_name {i:Nat} {x:Str} (hN:X.N.Nodup) (hi:X.N[i]?=some x) (hx:Loc X.env.scope x) (hf:X.fn x=true∨X.env.scope.names.lookup x=some .local:=by first | exact .inl rfl | exact .inr rfl | assumption):PG X (.Name x pos) (gName i):=by
  intro pins s σ H v u Q I r h
  exact wpAny_assign_Name (store_ok I hN hi hx r (fun s' I'=>⟨_,H,I',h⟩) hf)
def gNil:TGs:=fun vs σ H Q=>vs=[]∧Q σ H
def gCons (t:TG) (u:TGs):TGs:=fun vs σ H Q=>∃ v r,vs=v :: r∧t v σ H fun σ' H'=>u r σ' H' Q
theorem pgs_nil:PGs X [] gNil:=by
  intro pins s σ H vs us Q I r h
  obtain ⟨e,h⟩:=h
  subst e
  cases r
  exact assignInOrder_nil ⟨σ,H,I,h⟩
theorem pgs_cons {e:Expr} {es:List Expr} {t:TG} {u:TGs} (h1:PG X e t) (h2:PGs X es u)
    (hs:(assignEach (e :: es) X.env).map (·.2)=assign e X.env :: (assignEach es X.env).map (·.2):=by rfl):PGs X (e :: es) (gCons t u):=by
  intro pins s σ H vs us Q I r h
  obtain ⟨v,vr,e1,h⟩:=h
  subst e1
  cases r with
  | cons r rr =>
    rw [hs]
    refine assignInOrder_cons (thn (h1 pins s σ H _ _ _ I r h) fun _ s1 ⟨σ1,H1,I1,q1⟩=>?_)
    exact h2 pins s1 σ1 H1 _ _ Q I1 rr q1
def gTup (K:PySem.W.Frag) (n:Nat) (t:TGs):TG:=fun v σ H Q=>∃ a xs,v=.ref a∧SqT K H a xs∧xs.length=n∧t xs σ H Q
theorem pg_tup {es:List Expr} {k:Nat} {t:TGs} {n:Nat} (hc:X.calm=true) (h:PGs X es t)
    (hn:(assignEach es X.env).length=n:=by rfl) (hst:(assignEach es X.env).findIdx? (·.1)=none:=by rfl):PG X (.Tuple es k pos) (gTup X.K n t):=by
  intro pins s σ H v u Q I r hw
  obtain ⟨a,xs,e1,hq,hl,hw⟩:=hw
  subst e1
  cases r
  obtain ⟨its,rv,ht,hz⟩:=I.tuple hq
  refine assign_Tuple_tuple (I.ok.hd hc) ht (by simp [hn,← hl,rv.length]) hst fun h' hx=>?_
  have I1:Inv X pins σ H { s with heap:=h' }:=I.kept (t':=s.toks) fun b o e=>hx b o (Nat.ne_of_lt (Heap.lt_size e)) e
  exact h pins _ σ H xs _ Q I1 (by simpa using rv) hw
def tAsg (te:TE) (g:TG):TS:=fun D σ H=>te σ H fun x H1=>g x σ H1 D.nx
theorem ps_asg {tg e:Expr} {te:TE} {g:TG} (he:PE X e te) (hg:PG X tg g) (hs:swapsWithSole [tg] e pos.line X.env=pure false:=by rfl) (hw:swappedStores [tg] e X.env=pure none:=by rfl)
    (h1:(assignEach [tg] X.env).map (·.2)=[assign tg X.env]:=by rfl):PS X (.Assign [tg] e pos) (tAsg te g):=by
  intro pins s σ H D I h
  refine wpAny_Assign_stores (thn (he pins s σ H _ I h) fun v s1 ⟨x,H1,I1,r1,q1⟩=>?_) hs hw
  rw [h1]
  exact thn (hg pins s1 σ H1 x v _ I1 r1 q1) fun _ s2 q=>q
theorem ps_set {i:Nat} {x:Str} {e:Expr} {te:TE} {pos':Pos} (hN:X.N.Nodup) (hi:X.N[i]?=some x) (hx:Loc X.env.scope x) (he:PE X e te) (hs:swapsWith e (some (.Name x pos')) pos.line X.env=pure false:=by rfl) (hf:X.fn x=true∨X.env.scope.names.lookup x=some .local:=by first | exact .inl rfl | exact .inr rfl | assumption) :
    PS X (.Assign [.Name x pos'] e pos) (tAsg te (gName i)):=by
  intro pins s σ H D I h
  refine wpAny_Assign_Name (thn (he pins s σ H _ I h) fun v s1 ⟨y,H1,I1,r1,q1⟩=>?_) hs
  exact store_ok I1 hN hi hx r1 (fun s2 I2=>⟨_,H1,I2,q1⟩) hf
end
section
variable {X:Cx} {pos:Pos}
def tWhile (c:TT) (tb:TS):TS:=fun D σ H=>∃ W:Nat→St→Hp→Prop,(∃ m,W m σ H)∧∀ m σ H,W m σ H →
  c σ H fun b H1=>if b=true then ∃ N:St→Hp→Prop,(∀ σ' H',N σ' H'→∃ m',m' < m∧W m' σ' H')∧tb { D with nx:=N,ct:=N,bk:=D.nx } σ H1 else D.nx σ H1
theorem ps_while {c:Expr} {body:List Stmt} {tc:TT} {tb:TS} (hp:PassesOwn (model X.prog X.w) X.A X.env X.xe) (hc:PT X c tc) (hb:PSs X body tb):PS X (.While c body [] pos) (tWhile tc tb):=by
  intro pins s σ H D I h
  obtain ⟨W,⟨m0,w0⟩,turn⟩:=h
  refine wpAny_While (codeAny_whileLoop (fun n s'=>∃ σ' H',Inv X pins σ' H' s'∧W n σ' H') ?_ m0 ⟨σ,H,I,w0⟩)
  rintro n s1 ⟨σ1,H1,I1,w1⟩
  refine wpAny_passesOwn hp (thn (hc pins s1 σ1 H1 _ I1 (turn n σ1 H1 w1)) fun b s2 ⟨H2,I2,q2⟩=>?_)
  cases b with
  | true =>
    obtain ⟨N,hN,q2⟩:=q2
    rw [if_pos rfl]
    refine wpAny_passesOwn hp (thn (hb pins s2 σ1 H2 _ I2 q2) fun f s3 q3=>?_)
    cases f with
    | next =>
      obtain ⟨σ3,H3,I3,n3⟩:=q3
      obtain ⟨m',hm,w3⟩:=hN σ3 H3 n3
      exact ⟨m',hm,σ3,H3,I3,w3⟩
    | cont =>
      obtain ⟨σ3,H3,I3,n3⟩:=q3
      obtain ⟨m',hm,w3⟩:=hN σ3 H3 n3
      exact ⟨m',hm,σ3,H3,I3,w3⟩
    | brk=>exact q3
    | ret v=>exact q3
  | false =>
    rw [if_neg Bool.false_ne_true]
    exact wpAny_execs_nil ⟨σ1,H2,I2,q2⟩
end
structure It where
  go:Nat→Hp→Prop
  yld:Nat→Hp→V→Hp→Prop
  stop:Nat→Hp→Prop
def FpOk (X:Cx) (pins:List (Addr × Obj)) (H:Hp) (b:Addr):Prop :=
  H b=none∧b≠X.env.locals∧b ∉ X.fs∧(b∈X.ex∨X.s₀.heap.objs.size≤b)∧(∀ x c,X.env.cells.lookup x=some c→c≠b)∧∀ p∈X.pn++pins,p.1≠b
theorem Inv.fpOk {X:Cx} {pins:List (Addr × Obj)} {σ:St} {H H':Hp} {s:Shared} {b:Addr} (I:Inv X pins σ H s) (hb:s.heap.objs.size≤b) (hn:H' b=none):FpOk X pins H' b:=by
  refine ⟨hn,Nat.ne_of_gt (Nat.lt_of_lt_of_le I.lt hb),I.nofs hb,.inr (Nat.le_trans I.sz hb),fun x c e z=>?_,fun p hp z=>?_⟩
  · obtain ⟨v,q⟩:=I.cell x c e
    exact absurd (Nat.lt_of_lt_of_le q.lt (by rw [z]; exact hb)) (Nat.lt_irrefl _)
  · exact absurd (Nat.lt_of_lt_of_le (Heap.lt_size (I.pin p hp).1) (by rw [z]; exact hb)) (Nat.lt_irrefl _)
structure Turn (P:Program) (w:World) (K:PySem.W.Frag) (tg:Expr) (J:It) (fp:List Addr) (it:Addr) (tn:Nat→Heap→Prop):Prop where
  mem:it∈fp
  obj:∀ i h,tn i h→∀ b∈fp,∃ o,h.get? b=some o∧∀ v,o.data≠.cell v
  keep:∀ i h h',tn i h→(∀ b∈fp,∀ o,h.get? b=some o→h'.get? b=some o)→tn i h'
  item:∀ (X:Cx),X.prog=P→X.w=w→X.K=K→X.calm=true→∀ (i:Nat) (pins:List (Addr × Obj)) (s:Shared) (σ:St) (H:Hp) (E:Value→Shared→Prop),Inv X pins σ H s→(∀ b∈fp,FpOk X pins H b)→tn i s.heap→J.go i H →
    wpAny (model P w) X.A (pyNext (.ref it)) (fun r s1=>∃ u,r=some u ∧
      wpAny (model P w) X.A (letOwnedTupleGo tg (.ref it) u) (fun _ s2=>∃ x H',Inv X pins σ H' s2∧RelV x u∧J.yld i H x H'∧tn (i+1) s2.heap∧∀ b∈fp,H' b=none) E s1) E s
  done:∀ (X:Cx),X.prog=P→X.w=w→X.K=K→X.calm=true→∀ (i:Nat) (pins:List (Addr × Obj)) (s:Shared) (σ:St) (H:Hp) (E:Value→Shared→Prop),Inv X pins σ H s→(∀ b∈fp,FpOk X pins H b)→tn i s.heap→J.stop i H →
    wpAny (model P w) X.A (pyNext (.ref it)) (fun r s1=>r=none∧Inv X pins σ H s1) E s
  self:∀ (A:Around) (i:Nat) (s:Shared) (Q:Value→Shared→Prop) (E:Value→Shared→Prop),tn i s.heap→Q (.ref it) s→wpAny (model P w) A (pyIter (.ref it)) Q E s
abbrev TI:=St→Hp→(It→Hp→Prop)→Prop
def PIE (X:Cx) (pins:List (Addr × Obj)) (σ:St) (tg:Expr) (R:It→Hp→Prop) (itv:Value) (s2:Shared):Prop :=
  ∃ (it:Addr) (fp:List Addr) (tn:Nat→Heap→Prop) (J:It) (H':Hp),itv=.ref it∧Inv X pins σ H' s2∧Turn X.prog X.w X.K tg J fp it tn∧tn 0 s2.heap∧(∀ b∈fp,FpOk X pins H' b)∧R J H'
def PI (X:Cx) (tg iter:Expr) (wi:TI):Prop :=
  ∀ (pins:List (Addr × Obj)) (s:Shared) (σ:St) (H:Hp) (R:It→Hp→Prop),Inv X pins σ H s→wi σ H R →
    wpAny (model X.prog X.w) X.A (eval iter X.env) (fun v s1=>wpAny (model X.prog X.w) X.A (pyIter v) (PIE X pins σ tg R) X.xe s1) X.xe s
theorem go_of {M:Model} {A:Around} {E:Value→Shared→Prop} {s:Shared} {tg:Expr} {it:Addr} {u:Value} {o:Obj} {n:String} {vs:Array Value} {Q:Unit→Shared→Prop} (ho:s.heap.get? it=some o) (hc:o.cls=.type n) (hd:o.data=.fields vs)
    (hn:["enumerate","zip","dict_itemiterator","dict_reverseitemiterator","odict_iterator","itertools.zip_longest","itertools.pairwise"].contains n=false) (hQ:Q () s):wpAny M A (letOwnedTupleGo tg (.ref it) u) Q E s:=by
  unfold letOwnedTupleGo
  cases tg <;> first
    | exact wpAny_pure hQ
    | (cases u <;> first
        | exact wpAny_pure hQ
        | (refine wpAny_bind (wpAny_load ho ?_)
           rw [hc,hd]
           show wpAny M A (if (["enumerate","zip","dict_itemiterator","dict_reverseitemiterator","odict_iterator","itertools.zip_longest","itertools.pairwise"].contains n && vs[0]? == some (rawInt _))=true then _ else _) Q E s
           rw [if_neg (by intro h; rw [hn,Bool.false_and] at h; cases h)]
           exact wpAny_pure hQ))
def Itl (K:PySem.W.Frag) (a:Addr):It :=
  ⟨fun i H=>∃ xs x,SqL K H a xs∧xs[i]?=some x,fun i H x H'=>H'=H∧∀ xs,SqL K H a xs→xs[i]?=some x,fun i H=>∃ xs,SqL K H a xs∧xs.length≤i⟩
def Itt (K:PySem.W.Frag) (a:Addr):It :=
  ⟨fun i H=>∃ xs x,SqT K H a xs∧xs[i]?=some x,fun i H x H'=>H'=H∧∀ xs,SqT K H a xs→xs[i]?=some x,fun i H=>∃ xs,SqT K H a xs∧xs.length≤i⟩
def Itr (lo:Int) (n:Nat):It:=⟨fun i _=>i < n,fun i H x H'=>H'=H∧x=.int (lo+i),fun i _=>n≤i⟩
theorem turn_list {P:Program} {w:World} {K:PySem.W.Frag} {tg:Expr} (a it:Addr):Turn P w K tg (Itl K a) [it] it (fun i h=>h.IsListIter it a i) where
  mem:=by simp
  obj:=fun i h st b hb=>by
    have e:b=it:=by simpa using hb
    subst e
    obtain ⟨o,e,c,d⟩:=st
    exact ⟨o,e,fun v z=>by rw [d] at z; cases z⟩
  keep:=fun i h h' st k=>st.at fun o e=>k it (by simp) o e
  item:=by
    intro X hP hw hK hc i pins s σ H E I hf st hg
    subst hP hw hK
    obtain ⟨xs,x,hq,hx⟩:=hg
    obtain ⟨its,rv,p,hz⟩:=I.list hq
    obtain ⟨u,hu,ru⟩:=rv.get hx
    obtain ⟨f0,f1,f2,f3,f4,f5⟩:=hf it (by simp)
    refine wpAny_pyNext_list_item st p.isList (x:=u) (by simpa using hu) fun h' st' sb=>?_
    have I1:Inv X pins σ H { s with heap:=h' }:=I.turned (t':=s.toks) (fun b o hb e=>(sb.2 b hb).trans e) f0 f1 f3 f4 f5
    obtain ⟨o,e,c,d⟩:=id st'
    exact ⟨u,rfl,go_of (s:={ s with heap:=h' }) e c d (by decide) ⟨x,H,I1,ru,⟨rfl,fun ys hy=>by rw [I.list_inj hy hq]; exact hx⟩,st',fun b hb=>(hf b hb).1⟩⟩
  done:=by
    intro X hP hw hK hc i pins s σ H E I hf st hg
    subst hP hw hK
    obtain ⟨xs,hq,hx⟩:=hg
    obtain ⟨its,rv,p,hz⟩:=I.list hq
    obtain ⟨f0,f1,f2,f3,f4,f5⟩:=hf it (by simp)
    have hl:=rv.length
    exact wpAny_pyNext_list_end (I.ok.hd hc) st p.isList (by simp; omega) fun h' eb=>⟨rfl,I.turned (t':=s.toks) (fun b o hb e=>eb b o hb e) f0 f1 f3 f4 f5⟩
  self:=fun _ _ _ _ _ st h=>wpAny_pyIter_listiter st h
theorem turn_tuple {P:Program} {w:World} {K:PySem.W.Frag} {tg:Expr} (a it:Addr):Turn P w K tg (Itt K a) [it] it (fun i h=>h.IsTupleIter it a i) where
  mem:=by simp
  obj:=fun i h st b hb=>by
    have e:b=it:=by simpa using hb
    subst e
    obtain ⟨o,e,c,d⟩:=st
    exact ⟨o,e,fun v z=>by rw [d] at z; cases z⟩
  keep:=fun i h h' st k=>st.at fun o e=>k it (by simp) o e
  item:=by
    intro X hP hw hK hc i pins s σ H E I hf st hg
    subst hP hw hK
    obtain ⟨xs,x,hq,hx⟩:=hg
    obtain ⟨its,rv,p,hz⟩:=I.tuple hq
    obtain ⟨u,hu,ru⟩:=rv.get hx
    obtain ⟨f0,f1,f2,f3,f4,f5⟩:=hf it (by simp)
    refine wpAny_pyNext_tuple_item st (show s.heap.IsTuple a its.toArray from p) (x:=u) (by simpa using hu) fun h' st' sb=>?_
    have I1:Inv X pins σ H { s with heap:=h' }:=I.turned (t':=s.toks) (fun b o hb e=>(sb.2 b hb).trans e) f0 f1 f3 f4 f5
    obtain ⟨o,e,c,d⟩:=id st'
    exact ⟨u,rfl,go_of (s:={ s with heap:=h' }) e c d (by decide) ⟨x,H,I1,ru,⟨rfl,fun ys hy=>by rw [I.tuple_inj hy hq]; exact hx⟩,st',fun b hb=>(hf b hb).1⟩⟩
  done:=by
    intro X hP hw hK hc i pins s σ H E I hf st hg
    subst hP hw hK
    obtain ⟨xs,hq,hx⟩:=hg
    obtain ⟨its,rv,p,hz⟩:=I.tuple hq
    obtain ⟨f0,f1,f2,f3,f4,f5⟩:=hf it (by simp)
    have hl:=rv.length
    exact wpAny_pyNext_tuple_end (I.ok.hd hc) st (show s.heap.IsTuple a its.toArray from p) (by simp; omega) fun h' eb=>⟨rfl,I.turned (t':=s.toks) (fun b o hb e=>eb b o hb e) f0 f1 f3 f4 f5⟩
  self:=fun _ _ _ _ _ st h=>wpAny_pyIter_tupleiter st h
theorem turn_range {P:Program} {w:World} {K:PySem.W.Frag} {tg:Expr} (it:Addr) (lo:Int) (n:Nat):Turn P w K tg (Itr lo n) [it] it (fun i h=>IsRangeIter h it (lo+(i:Nat) * 1) ((n:Int) - (i:Nat)) 1) where
  mem:=by simp
  obj:=fun i h st b hb=>by
    have e:b=it:=by simpa using hb
    subst e
    exact ⟨_,st,fun v z=>by
      have z':Data.fields _=Data.cell v:=z
      cases z'⟩
  keep:=fun i h h' st k=>k it (by simp) _ st
  item:=by
    intro X hP hw hK hc i pins s σ H E I hf st hg
    subst hP hw hK
    obtain ⟨f0,f1,f2,f3,f4,f5⟩:=hf it (by simp)
    have W:=Walks.range (prog:=X.prog) (w:=X.w) (I.ok.hd hc) it lo 1 n
    refine W.item i s _ _ hg st fun v h' tk hv st' kk=>?_
    obtain ⟨t,rfl⟩:=hv
    have I1:Inv X pins σ H { s with heap:=h',toks:=tk }:=I.turned (fun b o hb e=>kk b o (by simpa using hb) e) f0 f1 f3 f4 f5
    refine ⟨_,rfl,go_of (s:={ s with heap:=h',toks:=tk }) (n:="range_iterator") st' rfl rfl (by decide) ⟨.int (lo+i),H,I1,⟨t,?_⟩,⟨rfl,rfl⟩,st',fun b hb=>(hf b hb).1⟩⟩
    rw [Int.mul_one]
  done:=by
    intro X hP hw hK hc i pins s σ H E I hf st hg
    subst hP hw hK
    obtain ⟨f0,f1,f2,f3,f4,f5⟩:=hf it (by simp)
    exact wpAny_pyNext_range_end (I.ok.hd hc) st (by have:n≤i:=hg; omega) fun h' eb=>⟨rfl,I.turned (t':=s.toks) (fun b o hb e=>eb b o hb e) f0 f1 f3 f4 f5⟩
  self:=fun _ _ _ _ _ st h=>wpAny_pyIter_rangeiter st h
end L2
namespace L2
open PySem PySem.Spec PyProof.Rows
section
variable {X:Cx} {tg:Expr}
def iList (K:PySem.W.Frag) (tl:TE):TI:=fun σ H R=>tl σ H fun x H1=>∃ a,x=.ref a∧(∃ xs,SqL K H1 a xs)∧R (Itl K a) H1
def iTup (K:PySem.W.Frag) (tl:TE):TI:=fun σ H R=>tl σ H fun x H1=>∃ a,x=.ref a∧(∃ xs,SqT K H1 a xs)∧R (Itt K a) H1
theorem pi_list {l:Expr} {tl:TE} (hl:PE X l tl):PI X tg l (iList X.K tl):=by
  intro pins s σ H R I h
  refine thn (hl pins s σ H _ I h) fun v s1 ⟨x,H1,I1,r1,q1⟩=>?_
  obtain ⟨a,e,⟨xs,hq⟩,q⟩:=q1
  subst e
  cases r1
  obtain ⟨its,rv,p,hz⟩:=I1.list hq
  refine wpAny_pyIter_list p.isList ?_
  refine ⟨s1.heap.objs.size,[s1.heap.objs.size],_,_,H1,rfl,I1.kept (t':=s1.toks) fun b o e=>Heap.get?_push_of_some _ e,turn_list a _,⟨_,Heap.get?_push_size _ rfl,rfl,rfl⟩,fun b hb=>?_,q⟩
  have e:b=s1.heap.objs.size:=by simpa using hb
  subst e
  exact I1.fpOk (Nat.le_refl _) (I1.hok.fresh (Nat.le_refl _))
theorem pi_tup {l:Expr} {tl:TE} (hl:PE X l tl):PI X tg l (iTup X.K tl):=by
  intro pins s σ H R I h
  refine thn (hl pins s σ H _ I h) fun v s1 ⟨x,H1,I1,r1,q1⟩=>?_
  obtain ⟨a,e,⟨xs,hq⟩,q⟩:=q1
  subst e
  cases r1
  obtain ⟨its,rv,p,hz⟩:=I1.tuple hq
  refine wpAny_pyIter_tuple (show s1.heap.IsTuple a its.toArray from p) ?_
  refine ⟨s1.heap.objs.size,[s1.heap.objs.size],_,_,H1,rfl,I1.kept (t':=s1.toks) fun b o e=>Heap.get?_push_of_some _ e,turn_tuple a _,⟨_,Heap.get?_push_size _ rfl,rfl,rfl⟩,fun b hb=>?_,q⟩
  have e:b=s1.heap.objs.size:=by simpa using hb
  subst e
  exact I1.fpOk (Nat.le_refl _) (I1.hok.fresh (Nat.le_refl _))
theorem range_it {pins:List (Addr × Obj)} {σ:St} {H:Hp} {s:Shared} {R:It→Hp→Prop} {E:Value→Shared→Prop} {lo hi:Int} {t u v:Tok} {tk:Nat} (I:Inv X pins σ H s) (h1:-(2^62)≤lo) (h2:lo < 2^62) (h3:-(2^62)≤hi) (h4:hi < 2^62)
    (q:R (Itr lo (hi - lo).toNat) H):wpAny (model X.prog X.w) X.A (pyIter (.ref s.heap.objs.size)) (PIE X pins σ tg R) E { s with heap:=s.heap.push { cls:=.type "range",data:=.fields #[.int lo t,.int hi u,.int 1 v] },toks:=tk }:=by
  refine wpAny_pyIter_range (IsRange.new ..) (small_one h1 h2 h3 h4) ?_
  have I1:Inv X pins σ H { s with heap:=s.heap.push { cls:=.type "range",data:=.fields #[.int lo t,.int hi u,.int 1 v] },toks:=tk }:=I.kept fun b o e=>Heap.get?_push_of_some _ e
  refine ⟨(s.heap.push { cls:=.type "range",data:=.fields #[.int lo t,.int hi u,.int 1 v] }).objs.size,[(s.heap.push { cls:=.type "range",data:=.fields #[.int lo t,.int hi u,.int 1 v] }).objs.size],_,_,H,rfl,
    I1.kept (t':=tk) fun b o e=>Heap.get?_push_of_some _ e,turn_range _ lo (hi - lo).toNat,?_,fun b hb=>?_,q⟩
  · have e1:lo+((0:Nat):Int) * 1=lo:=by simp
    have e2:(((hi - lo).toNat:Nat):Int) - ((0:Nat):Int)=Builtin.Range.rangeSize lo hi 1:=by rw [rangeSize_one]; split <;> omega
    show IsRangeIter _ _ (lo+((0:Nat):Int) * 1) ((((hi - lo).toNat:Nat):Int) - ((0:Nat):Int)) 1
    rw [e1,e2]
    exact Heap.get?_push_size _ rfl
  · have e:b=(s.heap.push { cls:=.type "range",data:=.fields #[.int lo t,.int hi u,.int 1 v] }).objs.size:=by simpa using hb
    subst e
    exact I1.fpOk (Nat.le_refl _) (I1.hok.fresh (Nat.le_refl _))
def iRng2 (ta:TA):TI:=fun σ H R=>ta σ H fun vs H1=>∃ i j:Int,vs=[.int i,.int j]∧(-(2^62)≤i∧i < 2^62∧-(2^62)≤j∧j < 2^62)∧R (Itr i (j - i).toNat) H1
theorem pi_range2 {a b:Expr} {ta:TA} {p pos:Pos} (hg:Gl X "range") (hm:X.mg "range"=none) (ha:PA X [a,b] ta) (hs:starEach [a,b] X.env=[(false,eval a X.env),(false,eval b X.env)]:=by rfl) (hs2:starEach [b] X.env=[(false,eval b X.env)]:=by rfl) :
    PI X tg (.Call (.Name "range" p) [a,b] [] pos) (iRng2 ta):=by
  intro pins s σ H R I h
  refine Call_ (ld_blt I hg hm boot_range (PyProof.Rows.callWith_type1 (thn (ha pos pins s σ H _ I h) fun us s1 ⟨vs,H1,I1,r1,q1⟩=>?_) (by rw [hs,hs2]) (by rw [hs2]; rfl)))
  obtain ⟨i,j,e,⟨q1,q2,q3,q4⟩,q⟩:=q1
  subst e
  cases r1 with
  | cons r rr =>
    cases rr with
    | cons r' rr =>
      cases rr
      obtain ⟨t,rfl⟩:=r
      obtain ⟨t',rfl⟩:=r'
      exact call_range_2 (range_it I1 q1 q2 q3 q4 q)
def tFor (wi:TI) (g:TG) (tb:TS):TS:=fun D σ H=>wi σ H fun J H1=>∃ W:Nat→Nat→St→Hp→Prop,(∃ m,W 0 m σ H1)∧∀ i m σ H,W i m σ H →
  (J.stop i H∧D.nx σ H)∨(J.go i H∧∃ N:St→Hp→Prop,(∀ σ' H',N σ' H'→∃ m',m' < m∧W (i+1) m' σ' H')∧∀ x H',J.yld i H x H'→g x σ H' fun σ2 H2=>tb { D with nx:=N,ct:=N,bk:=D.nx } σ2 H2)
def pinsAt (fp:List Addr) (h:Heap):List (Addr × Obj):=fp.filterMap fun b=>(h.get? b).map fun o=>(b,o)
theorem mem_pinsAt {fp:List Addr} {h:Heap} {b:Addr} {o:Obj} (hb:b∈fp) (e:h.get? b=some o):(b,o)∈pinsAt fp h:=List.mem_filterMap.mpr ⟨b,hb,by rw [e]; rfl⟩
theorem of_pinsAt {fp:List Addr} {h:Heap} {p:Addr × Obj} (hp:p∈pinsAt fp h):p.1∈fp∧h.get? p.1=some p.2:=by
  obtain ⟨b,hb,e⟩:=List.mem_filterMap.mp hp
  cases q:h.get? b with
  | none=>rw [q] at e; cases e
  | some o =>
    rw [q] at e
    have e':(b,o)=p:=Option.some.inj e
    subst e'
    exact ⟨hb,q⟩
theorem Inv.pinned {pins:List (Addr × Obj)} {σ:St} {H:Hp} {s:Shared} {fp:List Addr} (I:Inv X pins σ H s) (hf:∀ b∈fp,FpOk X pins H b) (ho:∀ b∈fp,∃ o,s.heap.get? b=some o∧∀ v,o.data≠.cell v):Inv X (pins++pinsAt fp s.heap) σ H s :=
  I.pins_of fun p hp=>(List.mem_append.mp hp).elim (fun z=>I.pin p (List.mem_append_right _ z)) fun z=>by
    obtain ⟨hb,e⟩:=of_pinsAt z
    obtain ⟨f0,f1,f2,_⟩:=hf p.1 hb
    obtain ⟨o,e',d⟩:=ho p.1 hb
    rw [e] at e'; cases e'
    exact ⟨e,f0,f1,f2,d⟩
theorem Inv.unpinned {pins pl:List (Addr × Obj)} {σ:St} {H:Hp} {s:Shared} (I:Inv X (pins++pl) σ H s):Inv X pins σ H s:=I.pins_of fun p hp=>I.pin p (List.mem_append_right _ (List.mem_append_left _ hp))
theorem ps_for {iter:Expr} {body:List Stmt} {wi:TI} {g:TG} {tb:TS} {pos:Pos} (hp:PassesOwn (model X.prog X.w) X.A X.env X.xe) (hc:X.calm=true) (hi:PI X tg iter wi) (hg:PG X tg g) (hb:PSs X body tb)
    (hs:∀ x,foldedSetIterable iter X.env x=pure x:=by intro _; rfl):PS X (.For tg iter body [] pos) (tFor wi g tb):=by
  intro pins s σ H D I h
  refine wpAny_For (thn (hi pins s σ H _ I h) fun v s1 h1=>thn h1 fun itv s2 h2=>?_) hs
  obtain ⟨it,fp,tn,J,H2,e,I2,T,st2,f2,W,⟨m0,w0⟩,turn⟩:=h2
  subst e
  have stat:∀ {H':Hp},(∀ b∈fp,H' b=none)→∀ b∈fp,FpOk X pins H' b:=fun hn b hb=>⟨hn b hb,(f2 b hb).2⟩
  refine codeAny_forLoop_any (fun n s'=>∃ i σ' H',Inv X pins σ' H' s'∧tn i s'.heap∧(∀ b∈fp,H' b=none)∧W i n σ' H') ?_ m0 ⟨0,σ,H2,I2,st2,fun b hb=>(f2 b hb).1,w0⟩
  rintro n s3 ⟨i,σ3,H3,I3,st3,fr3,w3⟩
  rcases turn i n σ3 H3 w3 with ⟨stop,qn⟩ | ⟨go,N,hN,step⟩
  · refine wpAny_passesOwn hp (thn (T.done X rfl rfl rfl hc i pins s3 σ3 H3 X.xe I3 (stat fr3) st3 stop) fun r s4 ⟨hr,I4⟩=>?_)
    subst hr
    exact wpAny_execs_nil ⟨σ3,H3,I4,qn⟩
  · refine wpAny_passesOwn hp (thn (T.item X rfl rfl rfl hc i pins s3 σ3 H3 X.xe I3 (stat fr3) st3 go) fun r s4 ⟨u,hr,h4⟩=>?_)
    subst hr
    refine wpAny_passesOwn hp (thn h4 fun _ s5 ⟨x,H5,I5,r5,y5,st5,fr5⟩=>?_)
    have I5':=I5.pinned (stat fr5) (T.obj _ _ st5)
    refine wpAny_passesOwn hp (thn (hg _ s5 σ3 H5 x u _ I5' r5 (step x H5 y5)) fun _ s6 ⟨σ6,H6,I6,q6⟩=>?_)
    refine wpAny_passesOwn hp (thn (hb _ s6 σ6 H6 _ I6 q6) fun f s7 q7=>?_)
    have again:∀ {σ7:St} {H7:Hp},Inv X (pins++pinsAt fp s5.heap) σ7 H7 s7→N σ7 H7→∃ m,m < n∧∃ i σ' H',Inv X pins σ' H' s7∧tn i s7.heap∧(∀ b∈fp,H' b=none)∧W i m σ' H':=fun {σ7 H7} I7 n7=>by
      obtain ⟨m',hm,w7⟩:=hN σ7 H7 n7
      refine ⟨m',hm,i+1,σ7,H7,I7.unpinned,T.keep _ _ _ st5 fun b hb o e=>(I7.pin (b,o) (List.mem_append_right _ (List.mem_append_right _ (mem_pinsAt hb e)))).1,fun b hb=>?_,w7⟩
      obtain ⟨o,e,d⟩:=T.obj _ _ st5 b hb
      exact (I7.pin (b,o) (List.mem_append_right _ (List.mem_append_right _ (mem_pinsAt hb e)))).2.1
    cases f with
    | next=>obtain ⟨σ7,H7,I7,n7⟩:=q7; exact again I7 n7
    | cont=>obtain ⟨σ7,H7,I7,n7⟩:=q7; exact again I7 n7
    | brk=>obtain ⟨σ7,H7,I7,q7⟩:=q7; exact ⟨σ7,H7,I7.unpinned,q7⟩
    | ret v=>obtain ⟨x7,σ7,H7,I7,r7,q7⟩:=q7; exact ⟨x7,σ7,H7,I7.unpinned,r7,q7⟩
end
theorem for_list {K:PySem.W.Frag} {a:Addr} {xs:List V} {g:TG} {tb:TS} {D:Ends} {σ:St} {H:Hp} (Pv:Nat→St→Hp→Prop) (h0:Pv 0 σ H) (hl:∀ i σ H,i≤xs.length→Pv i σ H→SqL K H a xs)
    (hs:∀ i x σ H,xs[i]?=some x→Pv i σ H→g x σ H fun σ2 H2=>tb { D with nx:=Pv (i+1),ct:=Pv (i+1),bk:=D.nx } σ2 H2) (hd:∀ σ H,Pv xs.length σ H→D.nx σ H) :
    ∃ W:Nat→Nat→St→Hp→Prop,(∃ m,W 0 m σ H)∧∀ i m σ H,W i m σ H →
      ((Itl K a).stop i H∧D.nx σ H)∨((Itl K a).go i H∧∃ N:St→Hp→Prop,(∀ σ' H',N σ' H'→∃ m',m' < m∧W (i+1) m' σ' H')∧∀ x H',(Itl K a).yld i H x H'→g x σ H' fun σ2 H2=>tb { D with nx:=N,ct:=N,bk:=D.nx } σ2 H2):=by
  refine ⟨fun i m σ H=>m=xs.length - i∧i≤xs.length∧Pv i σ H,⟨xs.length,by simp,Nat.zero_le _,h0⟩,?_⟩
  rintro i m σ H ⟨rfl,hi,p⟩
  have q:=hl i σ H hi p
  by_cases hlt:i < xs.length
  · refine .inr ⟨⟨xs,xs[i],q,by simp [hlt]⟩,Pv (i+1),fun σ' H' p'=>⟨xs.length - (i+1),by omega,rfl,hlt,p'⟩,fun x H' y=>?_⟩
    obtain ⟨e,y⟩:=y
    subst e
    exact hs i x σ _ (y xs q) p
  · have e:i=xs.length:=by omega
    subst e
    exact .inl ⟨⟨xs,q,Nat.le_refl _⟩,hd σ H p⟩
theorem for_tup {K:PySem.W.Frag} {a:Addr} {xs:List V} {g:TG} {tb:TS} {D:Ends} {σ:St} {H:Hp} (Pv:Nat→St→Hp→Prop) (h0:Pv 0 σ H) (hl:∀ i σ H,i≤xs.length→Pv i σ H→SqT K H a xs)
    (hs:∀ i x σ H,xs[i]?=some x→Pv i σ H→g x σ H fun σ2 H2=>tb { D with nx:=Pv (i+1),ct:=Pv (i+1),bk:=D.nx } σ2 H2) (hd:∀ σ H,Pv xs.length σ H→D.nx σ H) :
    ∃ W:Nat→Nat→St→Hp→Prop,(∃ m,W 0 m σ H)∧∀ i m σ H,W i m σ H →
      ((Itt K a).stop i H∧D.nx σ H)∨((Itt K a).go i H∧∃ N:St→Hp→Prop,(∀ σ' H',N σ' H'→∃ m',m' < m∧W (i+1) m' σ' H')∧∀ x H',(Itt K a).yld i H x H'→g x σ H' fun σ2 H2=>tb { D with nx:=N,ct:=N,bk:=D.nx } σ2 H2):=by
  refine ⟨fun i m σ H=>m=xs.length - i∧i≤xs.length∧Pv i σ H,⟨xs.length,by simp,Nat.zero_le _,h0⟩,?_⟩
  rintro i m σ H ⟨rfl,hi,p⟩
  have q:=hl i σ H hi p
  by_cases hlt:i < xs.length
  · refine .inr ⟨⟨xs,xs[i],q,by simp [hlt]⟩,Pv (i+1),fun σ' H' p'=>⟨xs.length - (i+1),by omega,rfl,hlt,p'⟩,fun x H' y=>?_⟩
    obtain ⟨e,y⟩:=y
    subst e
    exact hs i x σ _ (y xs q) p
  · have e:i=xs.length:=by omega
    subst e
    exact .inl ⟨⟨xs,q,Nat.le_refl _⟩,hd σ H p⟩
theorem for_range {lo:Int} {n:Nat} {g:TG} {tb:TS} {D:Ends} {σ:St} {H:Hp} (Pv:Nat→St→Hp→Prop) (h0:Pv 0 σ H)
    (hs:∀ i σ H,i < n→Pv i σ H→g (.int (lo+i)) σ H fun σ2 H2=>tb { D with nx:=Pv (i+1),ct:=Pv (i+1),bk:=D.nx } σ2 H2) (hd:∀ σ H,Pv n σ H→D.nx σ H) :
    ∃ W:Nat→Nat→St→Hp→Prop,(∃ m,W 0 m σ H)∧∀ i m σ H,W i m σ H →
      ((Itr lo n).stop i H∧D.nx σ H)∨((Itr lo n).go i H∧∃ N:St→Hp→Prop,(∀ σ' H',N σ' H'→∃ m',m' < m∧W (i+1) m' σ' H')∧∀ x H',(Itr lo n).yld i H x H'→g x σ H' fun σ2 H2=>tb { D with nx:=N,ct:=N,bk:=D.nx } σ2 H2):=by
  refine ⟨fun i m σ H=>m=n - i∧i≤n∧Pv i σ H,⟨n,by simp,Nat.zero_le _,h0⟩,?_⟩
  rintro i m σ H ⟨rfl,hi,p⟩
  by_cases hlt:i < n
  · refine .inr ⟨hlt,Pv (i+1),fun σ' H' p'=>⟨n - (i+1),by omega,rfl,hlt,p'⟩,fun x H' y=>?_⟩
    obtain ⟨e,y⟩:=y
    subst e y
    exact hs i σ _ hlt p
  · have e:i=n:=by omega
    subst e
    exact .inl ⟨Nat.le_refl _,hd σ H p⟩
end L2
namespace L2
open PySem PySem.Spec PyProof.Rows
abbrev R2:=V→V→Hp→VK→Prop
def OpR (X:Cx) (f:Value→Value→Sem Value) (r:R2):Prop :=
  ∀ (pins:List (Addr × Obj)) (s:Shared) (σ:St) (H:Hp) (x y:V) (v u:Value) (Q:VK),Inv X pins σ H s→RelV x v→RelV y u→r x y H Q →
    wpAny (model X.prog X.w) X.A (f v u) (EP X pins σ Q) X.xe s
def UnR (X:Cx) (f:Value→Sem Value) (r:V→Hp→VK→Prop):Prop :=
  ∀ (pins:List (Addr × Obj)) (s:Shared) (σ:St) (H:Hp) (x:V) (v:Value) (Q:VK),Inv X pins σ H s→RelV x v→r x H Q →
    wpAny (model X.prog X.w) X.A (f v) (EP X pins σ Q) X.xe s
def CallR (X:Cx) (f:Value) (r:List V→Hp→VK→Prop):Prop :=
  ∀ (pins:List (Addr × Obj)) (s:Shared) (σ:St) (H:Hp) (xs:List V) (us:List Value) (Q:VK),Inv X pins σ H s→Vals xs us→r xs H Q →
    wpAny (model X.prog X.w) X.A (call f us) (EP X pins σ Q) X.xe s
def TruR (X:Cx) (r:V→Hp→(Bool→Hp→Prop)→Prop):Prop :=
  ∀ (pins:List (Addr × Obj)) (s:Shared) (σ:St) (H:Hp) (x:V) (v:Value) (Q:Bool→Hp→Prop),Inv X pins σ H s→RelV x v→r x H Q →
    wpAny (model X.prog X.w) X.A (truthy v) (TP X pins σ Q) X.xe s
def tOp (r:R2) (ta tb:TE):TE:=fun σ H Q=>ta σ H fun x H1=>tb σ H1 fun y H2=>r x y H2 Q
def tUn (r:V→Hp→VK→Prop) (ta:TE):TE:=fun σ H Q=>ta σ H fun x H1=>r x H1 Q
def rI (C:Int→Int→Prop) (g:Int→Int→V):R2:=fun x y H Q=>∃ i j,x=.int i∧y=.int j∧C i j∧Q (g i j) H
def rI0 (g:Int→Int→V):R2:=fun x y H Q=>∃ i j,x=.int i∧y=.int j∧Q (g i j) H
def rU (g:Int→V):V→Hp→VK→Prop:=fun x H Q=>∃ i,x=.int i∧Q (g i) H
section
variable {X:Cx} {a b c:Expr} {ta tb tc:TE} {pos:Pos}
theorem binT (ha:PE X a ta) (hb:PE X b tb) {pins:List (Addr × Obj)} {s:Shared} {σ:St} {H:Hp} {R:V→V→Hp→Prop} (I:Inv X pins σ H s)
    (h:ta σ H fun x H1=>tb σ H1 fun y H2=>R x y H2) {Q:Value→Shared→Prop} {f:Value→Value→Sem Value}
    (hf:∀ v u s2 x y H2,Inv X pins σ H2 s2→RelV x v→RelV y u→R x y H2→wpAny (model X.prog X.w) X.A (f v u) Q X.xe s2) :
    wpAny (model X.prog X.w) X.A (eval a X.env) (fun v s₁=>wpAny (model X.prog X.w) X.A (eval b X.env) (fun u s₂=>wpAny (model X.prog X.w) X.A (f v u) Q X.xe s₂) X.xe s₁) X.xe s:=by
  refine thn (ha pins s σ H _ I h) fun v s1 ⟨x,H1,I1,r1,q1⟩=>?_
  refine thn (hb pins s1 σ H1 _ I1 q1) fun u s2 ⟨y,H2,I2,r2,q2⟩=>?_
  exact hf v u s2 x y H2 I2 r1 r2 q2
theorem pe_op {op:Operator} {r:R2} (ho:OpR X (binaryOp op) r) (ha:PE X a ta) (hb:PE X b tb):PE X (.BinOp a op b pos) (tOp r ta tb):=by
  intro pins s σ H Q I h
  exact wpAny_BinOp (binT ha hb I h fun v u s2 x y H2 I2 rx ry q=>ho pins s2 σ H2 x y v u Q I2 rx ry q)
theorem pe_un {op:UnaryOp} {r:V→Hp→VK→Prop} (ho:UnR X (unaryOp op) r) (ha:PE X a ta):PE X (.UnaryOp op a pos) (tUn r ta):=by
  intro pins s σ H Q I h
  exact UnaryOp_ (thn (ha pins s σ H _ I h) fun v s1 ⟨x,H1,I1,r1,q1⟩=>ho pins s1 σ H1 x v Q I1 r1 q1)
theorem opI {f:Value→Value→Sem Value} {C:Int→Int→Prop} {g:Int→Int→Int}
    (rule:∀ (i j:Int) (t u:Tok) (s:Shared) (Q:Value→Shared→Prop) (E:Value→Shared→Prop),C i j→Q (.int (g i j) s.toks) { s with toks:=s.toks+1 }→wpAny (model X.prog X.w) X.A (f (.int i t) (.int j u)) Q E s) :
    OpR X f (rI C fun i j=>.int (g i j)):=by
  intro pins s σ H x y v u Q I rx ry h
  obtain ⟨i,j,rfl,rfl,hc,q⟩:=h
  obtain ⟨t,rfl⟩:=rx
  obtain ⟨t',rfl⟩:=ry
  exact rule i j t t' s _ _ hc ⟨.int (g i j),H,I.tok _,⟨_,rfl⟩,q⟩
theorem opI0 {f:Value→Value→Sem Value} {g:Int→Int→Int}
    (rule:∀ (i j:Int) (t u:Tok) (s:Shared) (Q:Value→Shared→Prop) (E:Value→Shared→Prop),Q (.int (g i j) s.toks) { s with toks:=s.toks+1 }→wpAny (model X.prog X.w) X.A (f (.int i t) (.int j u)) Q E s) :
    OpR X f (rI0 fun i j=>.int (g i j)):=by
  intro pins s σ H x y v u Q I rx ry h
  obtain ⟨i,j,rfl,rfl,q⟩:=h
  obtain ⟨t,rfl⟩:=rx
  obtain ⟨t',rfl⟩:=ry
  exact rule i j t t' s _ _ ⟨.int (g i j),H,I.tok _,⟨_,rfl⟩,q⟩
theorem opB0 {f:Value→Value→Sem Value} {g:Int→Int→Bool}
    (rule:∀ (i j:Int) (t u:Tok) (s:Shared) (Q:Value→Shared→Prop) (E:Value→Shared→Prop),Q (.bool (g i j)) s→wpAny (model X.prog X.w) X.A (f (.int i t) (.int j u)) Q E s) :
    OpR X f (rI0 fun i j=>.bl (g i j)):=by
  intro pins s σ H x y v u Q I rx ry h
  obtain ⟨i,j,rfl,rfl,q⟩:=h
  obtain ⟨t,rfl⟩:=rx
  obtain ⟨t',rfl⟩:=ry
  exact rule i j t t' s _ _ ⟨.bl (g i j),H,I,rfl,q⟩
def CPow (i j:Int):Prop:=0≤j∧j≤1000000∧i.natAbs < 2^64
theorem op_add:OpR X (binaryOp .Add) (rI0 fun i j=>.int (i+j)):=opI0 fun _ _ _ _ _ _ _ q=>add_int q
theorem op_sub:OpR X (binaryOp .Sub) (rI0 fun i j=>.int (i - j)):=opI0 fun _ _ _ _ _ _ _ q=>sub_int q
theorem op_mod:OpR X (binaryOp .Mod) (rI (fun _ j=>0 < j) fun i j=>.int (i % j)):=opI fun i j _ _ _ _ _ hc q=>by
  have h1:(0:Int) < j:=hc
  exact mod_int' (by omega) (by rw [Int.fmod_eq_emod_of_nonneg i (by omega)]; exact q)
theorem op_pow:OpR X (binaryOp .Pow) (rI CPow fun i j=>.int (i^j.toNat)):=opI fun _ _ _ _ _ _ _ hc q=>pow_int_small hc.1 hc.2.1 hc.2.2 q
theorem unI {f:Value→Sem Value} {g:Int→Int}
    (rule:∀ (i:Int) (t:Tok) (s:Shared) (Q:Value→Shared→Prop) (E:Value→Shared→Prop),Q (.int (g i) s.toks) { s with toks:=s.toks+1 }→wpAny (model X.prog X.w) X.A (f (.int i t)) Q E s) :
    UnR X f (rU fun i=>.int (g i)):=by
  intro pins s σ H x v Q I rx h
  obtain ⟨i,rfl,q⟩:=h
  obtain ⟨t,rfl⟩:=rx
  exact rule i t s _ _ ⟨.int (g i),H,I.tok _,⟨_,rfl⟩,q⟩
theorem un_neg:UnR X (unaryOp .USub) (rU fun i=>.int (-i)):=unI fun _ _ _ _ _ q=>neg_int q
end
def scal:V→V→Bool
  | .non,.non=>true | .non,.int _=>true | .int _,.non=>true | .non,.bl _=>true | .bl _,.non=>true | .non,.str _=>true | .str _,.non=>true
  | .int _,.int _=>true | .bl _,.bl _=>true | .str _,.str _=>true | .byt _,.byt _=>true
  | .int _,.str _=>true | .str _,.int _=>true | .bl _,.str _=>true | .str _,.bl _=>true
  | _,_=>false
def rEq:R2:=fun x y H Q=>scal x y=true∧Q (.bl (decide (x=y))) H
def rNe:R2:=fun x y H Q=>scal x y=true∧Q (.bl (!decide (x=y))) H
theorem dec_int {i j:Int}:decide (V.int i=V.int j)=(i == j):=by
  rw [Bool.eq_iff_iff]
  simp
theorem dec_bl {i j:Bool}:decide (V.bl i=V.bl j)=(i == j):=by
  rw [Bool.eq_iff_iff]
  simp
theorem dec_str {i j:Str}:decide (V.str i=V.str j)=(i == j):=by
  rw [Bool.eq_iff_iff]
  simp
theorem dec_byt {i j:Array UInt8}:decide (V.byt i=V.byt j)=(i.toList == j.toList):=by
  rw [Bool.eq_iff_iff]
  cases i
  cases j
  simp
section
variable {X:Cx} {a b c:Expr} {ta tb tc:TE} {pos:Pos}
theorem fin_bl {pins:List (Addr × Obj)} {σ:St} {H:Hp} {s:Shared} {Q:VK} {k k':Bool} (I:Inv X pins σ H s) (q:Q (.bl k) H) (e:k=k'):EP X pins σ Q (.bool k') s:=by
  subst e
  exact ⟨.bl k,H,I,rfl,q⟩
theorem op_eq:OpR X (compareOp .Eq) rEq:=by
  intro pins s σ H x y v u Q I rx ry h
  obtain ⟨hs,q⟩:=h
  cases x with
  | non =>
    cases rx
    cases y with
    | non=>cases ry; exact PySem.EqNone.eq_none_none (fin_bl I q (by simp))
    | bl j=>cases ry; exact PySem.EqNone.eq_none_bool (fin_bl I q (by simp))
    | int j=>obtain ⟨t',rfl⟩:=ry; exact PySem.EqNone.eq_none_int (fin_bl I q (by simp))
    | str j=>obtain ⟨t',rfl⟩:=ry; exact PySem.EqNone.eq_none_str (fin_bl I q (by simp))
    | _=>exact absurd (show false=true from hs) Bool.false_ne_true
  | bl i =>
    cases rx
    cases y with
    | non=>cases ry; exact PySem.EqNone.eq_bool_none (fin_bl I q (by simp))
    | bl j=>cases ry; exact eq_bool (fin_bl I q dec_bl)
    | str j=>obtain ⟨t',rfl⟩:=ry; exact PySem.EqMixed.eq_bool_str (fin_bl I q (by simp))
    | _=>exact absurd (show false=true from hs) Bool.false_ne_true
  | int i =>
    obtain ⟨t,rfl⟩:=rx
    cases y with
    | non=>cases ry; exact PySem.EqNone.eq_int_none (fin_bl I q (by simp))
    | int j=>obtain ⟨t',rfl⟩:=ry; exact eq_int (fin_bl I q dec_int)
    | str j=>obtain ⟨t',rfl⟩:=ry; exact PySem.EqMixed.eq_int_str (fin_bl I q (by simp))
    | _=>exact absurd (show false=true from hs) Bool.false_ne_true
  | str i =>
    obtain ⟨t,rfl⟩:=rx
    cases y with
    | non=>cases ry; exact PySem.EqNone.eq_str_none (fin_bl I q (by simp))
    | bl j=>cases ry; exact PySem.EqMixed.eq_str_bool (fin_bl I q (by simp))
    | int j=>obtain ⟨t',rfl⟩:=ry; exact PySem.EqMixed.eq_str_int (fin_bl I q (by simp))
    | str j=>obtain ⟨t',rfl⟩:=ry; exact eq_str (fin_bl I q dec_str)
    | _=>exact absurd (show false=true from hs) Bool.false_ne_true
  | byt i =>
    obtain ⟨t,rfl⟩:=rx
    cases y with
    | byt j=>obtain ⟨t',rfl⟩:=ry; exact PySem.W.eq_bytes (fin_bl I q dec_byt)
    | _=>exact absurd (show false=true from hs) Bool.false_ne_true
  | _=>cases y <;> exact absurd (show false=true from hs) Bool.false_ne_true
theorem op_ne:OpR X (compareOp .NotEq) rNe:=by
  intro pins s σ H x y v u Q I rx ry h
  obtain ⟨hs,q⟩:=h
  cases x with
  | non =>
    cases rx
    cases y with
    | non=>cases ry; exact PySem.EqNone.ne_none_none (fin_bl I q (by simp))
    | bl j=>cases ry; exact PySem.EqNone.ne_none_bool (fin_bl I q (by simp))
    | int j=>obtain ⟨t',rfl⟩:=ry; exact PySem.EqNone.ne_none_int (fin_bl I q (by simp))
    | str j=>obtain ⟨t',rfl⟩:=ry; exact PySem.EqNone.ne_none_str (fin_bl I q (by simp))
    | _=>exact absurd (show false=true from hs) Bool.false_ne_true
  | bl i =>
    cases rx
    cases y with
    | non=>cases ry; exact PySem.EqNone.ne_bool_none (fin_bl I q (by simp))
    | bl j=>cases ry; exact ne_bool (fin_bl I q (congrArg not dec_bl))
    | str j=>obtain ⟨t',rfl⟩:=ry; exact PySem.EqMixed.ne_bool_str (fin_bl I q (by simp))
    | _=>exact absurd (show false=true from hs) Bool.false_ne_true
  | int i =>
    obtain ⟨t,rfl⟩:=rx
    cases y with
    | non=>cases ry; exact PySem.EqNone.ne_int_none (fin_bl I q (by simp))
    | int j=>obtain ⟨t',rfl⟩:=ry; exact ne_int (fin_bl I q (congrArg not dec_int))
    | str j=>obtain ⟨t',rfl⟩:=ry; exact PySem.EqMixed.ne_int_str (fin_bl I q (by simp))
    | _=>exact absurd (show false=true from hs) Bool.false_ne_true
  | str i =>
    obtain ⟨t,rfl⟩:=rx
    cases y with
    | non=>cases ry; exact PySem.EqNone.ne_str_none (fin_bl I q (by simp))
    | bl j=>cases ry; exact PySem.EqMixed.ne_str_bool (fin_bl I q (by simp))
    | int j=>obtain ⟨t',rfl⟩:=ry; exact PySem.EqMixed.ne_str_int (fin_bl I q (by simp))
    | str j=>obtain ⟨t',rfl⟩:=ry; exact ne_str (fin_bl I q (congrArg not dec_str))
    | _=>exact absurd (show false=true from hs) Bool.false_ne_true
  | byt i =>
    obtain ⟨t,rfl⟩:=rx
    cases y with
    | byt j=>obtain ⟨t',rfl⟩:=ry; exact PySem.W.ne_bytes (fin_bl I q (congrArg not dec_byt))
    | _=>exact absurd (show false=true from hs) Bool.false_ne_true
  | _=>cases y <;> exact absurd (show false=true from hs) Bool.false_ne_true
theorem op_lt:OpR X (compareOp .Lt) (rI0 fun i j=>.bl (decide (i < j))):=opB0 fun _ _ _ _ _ _ _ q=>lt_int q
theorem op_le:OpR X (compareOp .LtE) (rI0 fun i j=>.bl (decide (i≤j))):=opB0 fun _ _ _ _ _ _ _ q=>le_int q
theorem op_gt:OpR X (compareOp .Gt) (rI0 fun i j=>.bl (decide (j < i))):=opB0 fun _ _ _ _ _ _ _ q=>gt_int q
theorem op_ge:OpR X (compareOp .GtE) (rI0 fun i j=>.bl (decide (j≤i))):=opB0 fun _ _ _ _ _ _ _ q=>ge_int q
theorem op_isN:OpR X (compareOp .Is) (fun x y H Q=>y=.non∧Q (.bl (decide (x=.non))) H):=by
  intro pins s σ H x y v u Q I rx ry h
  obtain ⟨rfl,q⟩:=h
  cases ry
  refine is_none_gen (fin_bl I q ?_)
  cases x <;> first
    | (cases rx; rfl)
    | (obtain ⟨t,rfl⟩:=rx; rfl)
theorem op_notN:OpR X (compareOp .IsNot) (fun x y H Q=>y=.non∧Q (.bl (!decide (x=.non))) H):=by
  intro pins s σ H x y v u Q I rx ry h
  obtain ⟨rfl,q⟩:=h
  cases ry
  refine isnot_none_gen (fin_bl I q ?_)
  cases x <;> first
    | (cases rx; rfl)
    | (obtain ⟨t,rfl⟩:=rx; rfl)
theorem nomark (b:Expr) {op:CmpOp} (h:op≠.In:=by decide) (h2:op≠.NotIn:=by decide):behindInMarks op b=false:=by
  have e1:(op == CmpOp.In)=false:=by cases op <;> first | rfl | exact absurd rfl h
  have e2:(op == CmpOp.NotIn)=false:=by cases op <;> first | rfl | exact absurd rfl h2
  cases b <;> simp [behindInMarks,e1,e2]
theorem pe_cmpR {op:CmpOp} {r:R2} (ho:OpR X (compareOp op) r) (ha:PE X a ta) (hb:PE X b tb) (hm:behindInMarks op b=false):PE X (.Compare a [op] [b] pos) (tOp r ta tb):=by
  intro pins s σ H Q I h
  exact wpAny_Compare1 (binT ha hb I h fun v u s2 x y H2 I2 rx ry q=>ho pins s2 σ H2 x y v u Q I2 rx ry q) hm
def tTest (t:TE):TT:=fun σ H Q=>t σ H fun x H'=>∃ k,x=.bl k∧Q k H'
theorem pt_cmpR {op:CmpOp} {r:R2} (ho:OpR X (compareOp op) r) (ha:PE X a ta) (hb:PE X b tb) (hm:behindInMarks op b=false):PT X (.Compare a [op] [b] pos) (tTest (tOp r ta tb)):=by
  intro pins s σ H Q I h
  refine wpAny_isTrue_Compare1 (thn (ha pins s σ H _ I h) fun v s1 ⟨x,H1,I1,r1,q1⟩=>thn (hb pins s1 σ H1 _ I1 q1) fun u s2 ⟨y,H2,I2,r2,q2⟩ =>
    thn (ho pins s2 σ H2 x y v u _ I2 r1 r2 q2) fun c s3 ⟨z,H3,I3,r3,k,e,q3⟩=>?_) hm
  subst e
  cases r3
  exact wpAny_truthy_bool ⟨H3,I3,q3⟩
def tChain (r r':R2) (ta tb tc:TE):TE:=fun σ H Q=>ta σ H fun x H1=>tb σ H1 fun y H2=>r x y H2 fun z H3=>∃ k,z=.bl k ∧
  (if k=true then tc σ H3 fun w' H4=>r' y w' H4 Q else Q (.bl false) H3)
theorem pe_chain {op op':CmpOp} {r r':R2} (ho:OpR X (compareOp op) r) (ho':OpR X (compareOp op') r') (ha:PE X a ta) (hb:PE X b tb) (hc:PE X c tc)
    (hm:lastMarks [op,op'] [b,c]=false:=by with_unfolding_all rfl):PE X (.Compare a [op,op'] [b,c] pos) (tChain r r' ta tb tc):=by
  intro pins s σ H Q I h
  refine Compare_chain (thn (ha pins s σ H _ I h) fun v s1 ⟨x,H1,I1,r1,q1⟩=>chain_link (thn (hb pins s1 σ H1 _ I1 q1) fun u s2 ⟨y,H2,I2,r2,q2⟩ =>
    thn (ho pins s2 σ H2 x y v u _ I2 r1 r2 q2) fun d s3 ⟨z,H3,I3,r3,k,e,q3⟩=>?_)) hm
  subst e
  cases r3
  refine wpAny_truthy_bool ?_
  cases k with
  | false=>exact ite_ff ⟨.bl false,H3,I3,rfl,q3⟩
  | true=>exact ite_tt (chain_last (thn (hc pins s3 σ H3 _ I3 q3) fun w' s4 ⟨z',H4,I4,r4,q4⟩=>ho' pins s4 σ H4 y z' u w' Q I4 r2 r4 q4))
theorem pt_chain {op op':CmpOp} {r r':R2} (ho:OpR X (compareOp op) r) (ho':OpR X (compareOp op') r') (ha:PE X a ta) (hb:PE X b tb) (hc:PE X c tc)
    (hm:lastMarks [op,op'] [b,c]=false:=by with_unfolding_all rfl):PT X (.Compare a [op,op'] [b,c] pos) (tTest (tChain r r' ta tb tc)):=by
  intro pins s σ H Q I h
  refine isTrue_chain (thn (ha pins s σ H _ I h) fun v s1 ⟨x,H1,I1,r1,q1⟩=>test_link (thn (hb pins s1 σ H1 _ I1 q1) fun u s2 ⟨y,H2,I2,r2,q2⟩ =>
    thn (ho pins s2 σ H2 x y v u _ I2 r1 r2 q2) fun d s3 ⟨z,H3,I3,r3,k,e,q3⟩=>?_)) hm
  subst e
  cases r3
  refine wpAny_truthy_bool ?_
  cases k with
  | false =>
    obtain ⟨k',e',q'⟩:=q3
    cases e'
    exact ite_ff ⟨H3,I3,q'⟩
  | true =>
    refine ite_tt (test_last (thn (hc pins s3 σ H3 _ I3 q3) fun w' s4 ⟨z',H4,I4,r4,q4⟩=>thn (ho' pins s4 σ H4 y z' u w' _ I4 r2 r4 q4) fun d' s5 ⟨z2,H5,I5,r5,k2,e2,q5⟩=>?_))
    subst e2
    cases r5
    exact wpAny_truthy_bool ⟨H5,I5,q5⟩
def TruV (K:PySem.W.Frag) (x:V) (H:Hp) (k:Bool):Prop :=
  match x with
  | .non=>k=false
  | .bl b=>k=b
  | .int i=>k=(i != 0)
  | .str y=>y.length≤sizeLine∧k=((y.length:Int) != 0)
  | .byt y=>y.size≤sizeLine∧k=((y.size:Int) != 0)
  | .ref p=>(∃ xs,SqL K H p xs∧k=!xs.isEmpty)∨(∃ xs,SqT K H p xs∧k=!xs.isEmpty)∨∃ kvs,H p=some (.dK kvs)∧k=!kvs.isEmpty
  | _=>False
theorem isEmpty_kv {κ:Type} {kvs:List (κ × V)} {vs:List (κ × Value)} (r:KV kvs vs):(!vs.isEmpty)=!kvs.isEmpty:=by
  cases r <;> rfl
theorem isEmpty_of {xs:List V} {its:List Value} (r:Vals xs its):(!its.toArray.isEmpty)=!xs.isEmpty:=by
  cases r <;> simp
theorem line63:(sizeLine:Nat) < 2^63:=by rw [sizeLine_eq]; decide
theorem tru_ok:TruR X (fun x H Q=>∃ k,TruV X.K x H k∧Q k H):=by
  intro pins s σ H x v Q I rx h
  obtain ⟨k,e,q⟩:=h
  have hl:=line63
  have hs:sizeLine=16777216:=sizeLine_eq
  cases x with
  | non =>
    cases rx
    have e':k=false:=e
    subst e'
    exact truthy_none ⟨H,I,q⟩
  | bl b =>
    cases rx
    have e':k=b:=e
    subst e'
    exact wpAny_truthy_bool ⟨H,I,q⟩
  | int i =>
    obtain ⟨t,rfl⟩:=rx
    have e':k=(i != 0):=e
    subst e'
    exact PySem.P.truthy_int ⟨H,I,q⟩
  | str y =>
    obtain ⟨t,rfl⟩:=rx
    obtain ⟨hy,e'⟩:y.length≤sizeLine∧k=((y.length:Int) != 0):=e
    subst e'
    exact PySem.P.truthy_str (by omega) ⟨H,I.tok _,q⟩
  | byt y =>
    obtain ⟨t,rfl⟩:=rx
    obtain ⟨hy,e'⟩:y.size≤sizeLine∧k=((y.size:Int) != 0):=e
    subst e'
    exact PySem.W.truthy_bytes (by omega) ⟨H,I.tok _,q⟩
  | ref p =>
    cases rx
    have e':(∃ xs,SqL X.K H p xs∧k=!xs.isEmpty)∨(∃ xs,SqT X.K H p xs∧k=!xs.isEmpty)∨∃ kvs,H p=some (.dK kvs)∧k=!kvs.isEmpty:=e
    rcases e' with ⟨xs,hx,e'⟩ | ⟨xs,hx,e'⟩ | ⟨kvs,hx,e'⟩
    · subst e'
      obtain ⟨its,r,pl,hz⟩:=I.list hx
      have hlen:=r.length
      exact wpAny_truthy_list pl.isList (by simp only [List.size_toArray]; omega) ⟨H,I.tok _,by rw [isEmpty_of r]; exact q⟩
    · subst e'
      obtain ⟨its,r,pl,hz⟩:=I.tuple hx
      have hlen:=r.length
      exact truthy_tuple pl (by simp only [List.size_toArray]; omega) ⟨H,I.tok _,by rw [isEmpty_of r]; exact q⟩
    · subst e'
      obtain ⟨hz,hS,vs,r,m⟩:kvs.length≤sizeLine∧(p == sysModules)=false∧∃ vs,KV kvs vs∧s.heap.DictOf (mixKind X.prog X.w) p vs:=I.hok p _ hx
      have hlen:kvs.length=vs.length:=Paired.length r
      exact wpAny_truthy_dict hS m (by omega) ⟨H,I.tok _,by rw [isEmpty_kv r]; exact q⟩
  | _=>exact (show False from e).elim
theorem pt_truth (ha:PE X a ta) (he:∀ whole,isTrue a X.env whole=(do let v ← whole; standAt a.pos; holding [v] (truthy v))) :
    PT X a (fun σ H Q=>ta σ H fun x H'=>∃ k,TruV X.K x H' k∧Q k H'):=by
  intro pins s σ H Q I h
  exact isTrue_plain (thn (ha pins s σ H _ I h) fun v s1 ⟨x,H1,I1,r1,q1⟩=>tru_ok pins s1 σ H1 x v Q I1 r1 q1) (he _)
theorem vals1 {x:V} {us:List Value} (r:Vals [x] us):∃ u,us=[u]∧RelV x u:=by
  cases r with
  | cons r1 r2=>cases r2; exact ⟨_,rfl,r1⟩
theorem vals2 {x y:V} {us:List Value} (r:Vals [x,y] us):∃ u w',us=[u,w']∧RelV x u∧RelV y w':=by
  cases r with
  | cons r1 r2 =>
    cases r2 with
    | cons r3 r4=>cases r4; exact ⟨_,_,rfl,r1,r3⟩
theorem call_abs:CallR X (.builtin "abs") (fun xs H Q=>∃ i,xs=[.int i]∧Q (.int (if i < 0 then -i else i)) H):=by
  intro pins s σ H xs us Q I r h
  obtain ⟨i,rfl,q⟩:=h
  obtain ⟨u,rfl,t,rfl⟩:=vals1 r
  exact call_abs_int fun u tk=>⟨.int (if i < 0 then -i else i),H,I.tok _,⟨_,rfl⟩,q⟩
theorem call_int1:CallR X (.type "int") (fun xs H Q=>(∃ i,xs=[.int i]∧Q (.int i) H)∨∃ k,xs=[.bl k]∧Q (.int (if k then 1 else 0)) H):=by
  intro pins s σ H xs us Q I r h
  rcases h with ⟨i,rfl,q⟩ | ⟨k,rfl,q⟩
  · obtain ⟨u,rfl,t,rfl⟩:=vals1 r
    exact call_int_int ⟨.int i,H,I,⟨_,rfl⟩,q⟩
  · obtain ⟨u,rfl,r1⟩:=vals1 r
    cases r1
    exact call_int_bool ⟨.int (if k then 1 else 0),H,I.tok _,⟨_,rfl⟩,q⟩
end
end L2
namespace L2
open PySem PySem.Spec PyProof.Rows
structure ObjM (h:Heap) (x dx C:Addr) (mA:Str→Option Value):Prop where
  obj:h.get? x=some (PySem.W.instObj C dx)
  ns:h.Ns1 dx mA
  ne:dx≠x
theorem lookIn_ns {h:Heap} {dx:Addr} {mA:Str→Option Value} (n:h.Ns1 dx mA):∃ od,h.get? dx=some od∧∀ name,PySem.W.lookIn name od=some (mA name):=by
  obtain ⟨o,es,ep,ho,hd,hk,_,hm⟩:=n
  refine ⟨o,ho,fun name=>?_⟩
  have e:=hm name
  unfold nsFind findBy at e
  rw [← Array.find?_toList] at e
  unfold PySem.W.lookIn
  rw [hd]
  dsimp only
  split
  · rename_i y q
    rw [q] at e
    exact congrArg some e
  · rename_i q
    rw [q] at e
    have a:es.toList.any (·.refKey)=false:=by
      rw [List.any_eq_false]
      intro y hy
      obtain ⟨z,t,hkey⟩:=hk y (Array.mem_toList_iff.mp hy)
      simp [DictEntry.refKey,hkey]
    have a':¬ es.toList.any (·.refKey)=true:=by rw [a]; exact Bool.false_ne_true
    rw [if_neg a']
    exact congrArg some e
theorem ObjM.look {h:Heap} {x dx C:Addr} {mA:Str→Option Value} (I:ObjM h x dx C mA):∃ od,PySem.W.InstAt h x (PySem.W.instObj C dx) C (some od)∧∀ name,PySem.W.lookIn name od=some (mA name) :=
  let ⟨od,ho,hl⟩:=lookIn_ns I.ns
  ⟨od,⟨I.obj,rfl,rfl,ho⟩,hl⟩
section
variable {prog:Program} {w:World} {A:Around} {E:Value→Shared→Prop} {s:Shared} {K:PySem.W.Frag} {x dx C f:Addr} {mA:Str→Option Value} {name:Str} {v:Value}
theorem get_map {expr:Bool} {Q:Value→Shared→Prop} (X:K.In s.heap) (I:ObjM s.heap x dx C mA) (hg:PySem.W.plainGet K C name=true) (hh:PySem.W.hasDictIn K C=true)
    (ha:PySem.W.findIn K (.ref C) name=some none) (hv:mA name=some v) (hv':PySem.W.handedIn v=true) (h:Q v { s with toks:=s.toks+1 }) :
    wpAny (model prog w) A (getAttr (.ref x) name expr) Q E s:=by
  obtain ⟨od,J,hl⟩:=I.look
  exact PySem.W.get_value X J (PySem.W.plainGet_of hg).1 (PySem.W.findObj_own hh ha rfl (by rw [hl,hv])) hv' h
theorem get_meth {pl:Sem Bool} {Q:Value × List Value→Shared→Prop} (X:K.In s.heap) (I:ObjM s.heap x dx C mA) (hg:PySem.W.plainGet K C name=true)
    (hf:PySem.W.findIn K (.ref C) name=some (some (.ref f))) (ht:PySem.W.isFn K (.ref f)=true) (hv:mA name=none) (h:Q (.ref f,[.ref x]) s) :
    wpAny (model prog w) A (getMethod (.ref x) name pl) Q E s:=by
  obtain ⟨od,J,hl⟩:=I.look
  exact PySem.W.method_fn X J (PySem.W.plainGet_of hg).1 (PySem.W.plainGet_of hg).2 hf (beq_iff_eq.mp ht) (by show (PySem.W.lookIn name od).map (·.isSome)=some false; rw [hl,hv]; rfl) h
theorem set_map {ns:List Str} {Q:Unit→Shared→Prop} (X:K.In s.heap) (I:ObjM s.heap x dx C mA)
    (hs:PySem.W.findIn K (.ref C) "__setattr__"=some (some (.builtin "object.__setattr__"))) (hp:PySem.W.plainOver K C=true) (ht:PySem.W.takerIn K C name=some none) (hh:PySem.W.hasDictIn K C=true)
    (hw:PySem.Within mA ns) (hsz:ns.length≤sizeLine)
    (h:∀ h',ObjM h' x dx C (fun y=>if y=name then some v else mA y)→Heap.SameBut dx s.heap h'→Q () { s with heap:=h',toks:=s.toks+2 }) :
    wpAny (model prog w) A (setAttr (.ref x) name v) Q E s:=by
  obtain ⟨od,J,hl⟩:=I.look
  refine PySem.W.set_plain X J hs (PySem.W.osa_open (s:={ s with toks:=s.toks+1 }) (r:=none) X J hp ht fun b=>?_)
  obtain ⟨cd,hc,hd'⟩:=PySem.W.any_some hh
  have hx:s.heap.get? x=some ⟨.ref C,some dx,.plain,#[]⟩:=I.obj
  refine wpAny_bind (wpAny_pure (wpAny_bind (wpAny_bind (wpAny_loadPart hx (wpAny_bind (PySem.W.Looks.here (s:={ s with toks:=s.toks+1 }) (PySem.W.looks_clsIn X hc) ?_))))))
  rw [hd']
  refine wpAny_pure (a:=some dx) (wpAny_bind (wpAny_pure (wpAny_bind ?_)))
  refine wpAny_nsSet1 (s:={ s with toks:=s.toks+1 }) I.ns fun h' hn2 hs2=>?_
  obtain ⟨oD,esD,epD,hoD,hdD,hcD⟩:=hn2.count (PySem.Within.cons name v hw)
  refine wpAny_bind (wpAny_lookBehind hoD (by rw [hdD]; exact pastItsLine_dict (Nat.le_trans hcD (by rw [List.length_cons]; omega))) ?_)
  exact wpAny_pure (h _ ⟨(hs2.2 _ (Ne.symm I.ne)).trans I.obj,hn2,I.ne⟩ hs2)
theorem make_map {R:Result→Shared→Prop} {vs:List Value} {kw:List (Str × Value)} (X:K.In s.heap) (hm:PySem.W.makesIn K C=true)
    (hi:PySem.W.findIn K (.ref C) "__init__"=some (some (.ref f))) (hf:PySem.W.typeIn K (.ref f)=some (.type "function"))
    (h:codeAny (model prog w) (A.under (.builtin "type.__call__" ⟨.ref C :: vs,kw⟩)) (.call (.ref f) ⟨.ref (s.heap.objs.size+1) :: vs,kw⟩) (PySem.W.InitBack (s.heap.objs.size+1) R)
      { s with heap:=(s.heap.push PySem.W.emptyDict).push (PySem.W.instObj C s.heap.objs.size) }) :
    codeAny (model prog w) A (.call (.ref C) ⟨vs,kw⟩) R s:=by
  obtain ⟨hh,g,d,t,os⟩:=s
  exact PySem.W.make_core (PySem.W.makes_of X hm) (PySem.W.looks_findIn X hi) (fun self=>PySem.W.bind_fn X self hf) (.inl rfl) h
end
def putF (f:Str) (v:V):List (Str × V)→List (Str × V)
  | []=>[(f,v)]
  | (g,x) :: r=>if g=f then (g,v) :: r else (g,x) :: putF f v r
theorem lookup_putF (f g:Str) (v:V):∀ fs:List (Str × V),(putF f v fs).lookup g=if g=f then some v else fs.lookup g
  | []=>by
    show List.lookup g [(f,v)]=_
    by_cases h:g=f
    · have hb:(g == f)=true:=beq_iff_eq.mpr h
      simp only [List.lookup,hb,if_pos h]
    · have hb:(g == f)=false:=beq_eq_false_iff_ne.mpr h
      simp only [List.lookup,hb,if_neg h]
  | (k,x) :: r=>by
    have ih:=lookup_putF f g v r
    rw [show putF f v ((k,x) :: r)=(if k=f then (k,v) :: r else (k,x) :: putF f v r) from rfl]
    by_cases hk:k=f
    · rw [if_pos hk]
      by_cases h:g=k
      · have hb:(g == k)=true:=beq_iff_eq.mpr h
        simp only [List.lookup,hb,if_pos (h.trans hk)]
      · have hb:(g == k)=false:=beq_eq_false_iff_ne.mpr h
        simp only [List.lookup,hb,if_neg (fun e:g=f=>h (e.trans hk.symm))]
    · rw [if_neg hk]
      by_cases h:g=k
      · have hb:(g == k)=true:=beq_iff_eq.mpr h
        simp only [List.lookup,hb,if_neg (fun e:g=f=>hk (h.symm.trans e))]
      · have hb:(g == k)=false:=beq_eq_false_iff_ne.mpr h
        simp only [List.lookup,hb]
        exact ih
theorem keys_putF (f:Str) (v:V):∀ fs:List (Str × V),f∈(putF f v fs).map (·.1)∧∀ g,g∈fs.map (·.1)→g∈(putF f v fs).map (·.1)
  | []=>⟨by simp [putF],fun g h=>by simp at h⟩
  | (k,x) :: r=>by
    obtain ⟨i1,i2⟩:=keys_putF f v r
    rw [show putF f v ((k,x) :: r)=(if k=f then (k,v) :: r else (k,x) :: putF f v r) from rfl]
    by_cases hk:k=f
    · rw [if_pos hk]
      subst hk
      exact ⟨by simp,fun g h=>by simpa using h⟩
    · rw [if_neg hk]
      refine ⟨?_,fun g h=>?_⟩
      · rw [List.map_cons]
        exact List.mem_cons_of_mem _ i1
      · rw [List.map_cons] at h ⊢
        rcases List.mem_cons.mp h with e | e
        · exact List.mem_cons.mpr (.inl e)
        · exact List.mem_cons_of_mem _ (i2 g e)
theorem length_putF (f:Str) (v:V):∀ fs:List (Str × V),(putF f v fs).length≤fs.length+1
  | []=>by simp [putF]
  | (k,x) :: r=>by
    have ih:=length_putF f v r
    rw [show putF f v ((k,x) :: r)=(if k=f then (k,v) :: r else (k,x) :: putF f v r) from rfl]
    by_cases hk:k=f
    · rw [if_pos hk,List.length_cons,List.length_cons]; omega
    · rw [if_neg hk,List.length_cons,List.length_cons]; omega
theorem RelO.some_of {v:V} {o:Option Value} (r:RelO (some v) o):∃ u,o=some u∧RelV v u:=by
  cases o with
  | none=>exact (show False from r).elim
  | some u=>exact ⟨u,rfl,r⟩
theorem RelO.none_of {o:Option Value} (r:RelO none o):o=none:=by
  cases o with
  | none=>rfl
  | some u=>exact (show False from r).elim
theorem handed_of {v:V} {u:Value} (r:RelV v u):PySem.W.handedIn u=true:=by
  cases v with
  | non=>cases (show u=Value.none from r); rfl
  | bl b=>cases (show u=Value.bool b from r); rfl
  | int i=>obtain ⟨t,e⟩:=(show ∃ t,u=Value.int i t from r); cases e; rfl
  | str x=>obtain ⟨t,e⟩:=(show ∃ t,u=Value.str x t from r); cases e; rfl
  | byt b=>obtain ⟨t,e⟩:=(show ∃ t,u=Value.bytes b t from r); cases e; rfl
  | flt b=>obtain ⟨t,e⟩:=(show ∃ t,u=Value.float b t from r); cases e; rfl
  | ref a=>cases (show u=Value.ref a from r); rfl
  | ty n=>cases (show u=Value.type n from r); rfl
section
variable {P:Program} {w:World} {H H':Hp} {h h':Heap} {a C dx:Addr} {fs fs':List (Str × V)}
theorem ins_get (hok:HOk P w H h) (e:H a=some (.ins C dx fs)):∃ mA,ObjM h a dx C mA∧(∀ f,RelO (fs.lookup f) (mA f))∧PySem.Within mA (fs.map (·.1))∧fs.length≤1000∧H dx=some (.own a):=by
  obtain ⟨d,z,ne,ob,mA,n,r,q⟩:=(show ObjOk P w H h a (.ins C dx fs) from hok a _ e)
  exact ⟨mA,⟨ob,n,ne⟩,r,q,z,d⟩
end
structure Cls (K:PySem.W.Frag) (C:Addr):Prop where
  pg:PySem.W.plainGet K C Str.empty=true
  hd:PySem.W.hasDictIn K C=true
  po:PySem.W.plainOver K C=true
  sa:PySem.W.findIn K (.ref C) "__setattr__"=some (some (.builtin "object.__setattr__"))
theorem Cls.get {K:PySem.W.Frag} {C:Addr} (c:Cls K C) (f:Str):PySem.W.plainGet K C f=true:=c.pg
def NoAttr (K:PySem.W.Frag) (C:Addr) (f:Str):Prop:=PySem.W.findIn K (.ref C) f=some none
theorem NoAttr.taker {K:PySem.W.Frag} {C:Addr} {f:Str} (n:NoAttr K C f):PySem.W.takerIn K C f=some none:=by
  unfold PySem.W.takerIn
  rw [show PySem.W.findIn K (.ref C) f=some none from n]
  rfl
structure Meth (K:PySem.W.Frag) (C:Addr) (m:Str) (f:Addr):Prop where
  at_:PySem.W.findIn K (.ref C) m=some (some (.ref f))
  fn:PySem.W.isFn K (.ref f)=true
  kp:PySem.W.keepIn K (.ref f)=true
section
variable {X:Cx} {pins:List (Addr × Obj)} {σ:St} {H:Hp} {s:Shared} {a C dx:Addr} {fs:List (Str × V)} {f:Str} {v:V} {A:Around} {E:Value→Shared→Prop}
theorem getattr_ok {b:Bool} {Q:Value→Shared→Prop} (I:Inv X pins σ H s) (e:H a=some (.ins C dx fs)) (c:Cls X.K C) (n:NoAttr X.K C f) (l:fs.lookup f=some v)
    (h:∀ u s',Inv X pins σ H s'→RelV v u→Q u s'):wpAny (model X.prog X.w) A (getAttr (.ref a) f b) Q E s:=by
  obtain ⟨mA,O,r,_,_,_⟩:=ins_get I.hok e
  obtain ⟨u,hu,ru⟩:=RelO.some_of (v:=v) (o:=mA f) (by rw [← l]; exact r f)
  exact get_map I.kIn O (c.get f) c.hd n hu (handed_of ru) (h u _ (I.tok _) ru)
theorem getmeth_ok {m:Str} {g:Addr} {pl:Sem Bool} {Q:Value × List Value→Shared→Prop} (I:Inv X pins σ H s) (e:H a=some (.ins C dx fs)) (c:Cls X.K C) (k:Meth X.K C m g) (l:fs.lookup m=none)
    (h:Q (.ref g,[.ref a]) s):wpAny (model X.prog X.w) A (getMethod (.ref a) m pl) Q E s:=by
  obtain ⟨mA,O,r,_,_,_⟩:=ins_get I.hok e
  have hn:mA m=none:=RelO.none_of (by rw [← l]; exact r m)
  exact get_meth I.kIn O (c.get m) k.at_ k.fn hn h
theorem setattr_ok {y:V} {u:Value} {Q:Unit→Shared→Prop} (I:Inv X pins σ H s) (e:H a=some (.ins C dx fs)) (c:Cls X.K C) (n:NoAttr X.K C f) (hl:fs.length < 1000) (ry:RelV y u)
    (h:∀ s',Inv X pins σ (upd H a (.ins C dx (putF f y fs))) s'→Q () s'):wpAny (model X.prog X.w) A (setAttr (.ref a) f u) Q E s:=by
  obtain ⟨mA,O,r,wi,_,ho⟩:=ins_get I.hok e
  have hz:(fs.map (·.1)).length≤sizeLine:=by rw [List.length_map,sizeLine_eq]; omega
  refine set_map I.kIn O c.sa c.po n.taker c.hd wi hz fun h' O' sb=>h _ ?_
  have hd:∃ o,h'.get? dx=some o:=let ⟨o,_,_,e',_⟩:=O'.ns; ⟨o,e'⟩
  refine I.write (x:=a) (e:=dx) (by rw [e]; exact True.intro) (.inr ho) (fun b q hb z=>(sb.2 b hb).trans z) hd ?_
  refine ⟨by rw [upd_ne O.ne]; exact ho,?_,O.ne,O'.obj,_,O'.ns,fun g=>?_,fun g hg=>?_⟩
  · have:=length_putF f y fs; omega
  · show RelO ((putF f y fs).lookup g) (if g=f then some u else mA g)
    rw [lookup_putF]
    by_cases q:g=f
    · rw [if_pos q,if_pos q]; exact ry
    · rw [if_neg q,if_neg q]; exact r g
  · by_cases q:g=f
    · rw [q]; exact (keys_putF f y fs).1
    · refine (keys_putF f y fs).2 g (wi g fun z=>hg ?_)
      show (if g=f then some u else mA g)=none
      rw [if_neg q]; exact z
theorem Inv.made (I:Inv X pins σ H s):Inv X pins σ (upd (upd H s.heap.objs.size (.own (s.heap.objs.size+1))) (s.heap.objs.size+1) (.ins C s.heap.objs.size []))
    { s with heap:=(s.heap.push PySem.W.emptyDict).push (PySem.W.instObj C s.heap.objs.size) }:=by
  have e1:(s.heap.push PySem.W.emptyDict).get? s.heap.objs.size=some PySem.W.emptyDict:=Heap.get?_push_size s.heap rfl
  have e2:((s.heap.push PySem.W.emptyDict).push (PySem.W.instObj C s.heap.objs.size)).get? (s.heap.objs.size+1)=some (PySem.W.instObj C s.heap.objs.size):=by
    have:=Heap.get?_push_size (s.heap.push PySem.W.emptyDict) (o:=PySem.W.instObj C s.heap.objs.size) rfl
    rwa [Heap.size_push] at this
  have e3:(s.heap.push PySem.W.emptyDict).Ns s.heap.objs.size (fun _=>none):=⟨PySem.W.emptyDict,#[],_,e1,rfl,(fun e he=>absurd he (by simp)),fun _=>rfl⟩
  have I1:=I.laid (a:=s.heap.objs.size) (o:=.own (s.heap.objs.size+1)) (h':=s.heap.push PySem.W.emptyDict) (t':=s.toks) (fun b u q=>Heap.get?_push_of_some _ q) (Nat.le_refl _) ⟨_,e1⟩
  refine I1.laid (a:=s.heap.objs.size+1) (o:=.ins C s.heap.objs.size []) (t':=s.toks) (fun b u q=>Heap.get?_push_of_some _ q) (Nat.le_of_eq (Heap.size_push _ _)) ?_
  have ne:s.heap.objs.size≠s.heap.objs.size+1:=Nat.ne_of_lt (Nat.lt_succ_self _)
  refine ⟨by rw [upd_ne ne,upd_same],Nat.zero_le _,ne,e2,fun _=>none,(Heap.Ns1.of_empty e3).at fun o q=>Heap.get?_push_of_some _ q,fun _=>True.intro,fun y hy=>absurd rfl hy⟩
theorem attr_of {prog:Program} {w:World} {env:Env} {e:Expr} {f:Str} {pos:Pos} {s:Shared} {Q:Value→Shared→Prop} (hb:attributeBase e f env (eval e env)=eval e env)
    (h:wpAny (model prog w) A (eval e env) (fun o s₁=>wpAny (model prog w) A (getAttr o f true) Q E s₁) E s):wpAny (model prog w) A (eval (.Attribute e f pos) env) Q E s :=
  Attribute_any_ h (by rw [arm_eval_Attribute,hb])
end
def tFld (K:PySem.W.Frag) (ta:TE) (f:Str):TE:=fun σ H Q=>ta σ H fun x H1=>∃ a C dx fs v,x=.ref a∧H1 a=some (.ins C dx fs)∧Cls K C∧NoAttr K C f∧fs.lookup f=some v∧Q v H1
def sFld (K:PySem.W.Frag) (ta tv:TE) (f:Str):TS:=fun D σ H=>tv σ H fun y H1=>ta σ H1 fun x H2=>∃ a C dx fs,x=.ref a∧H2 a=some (.ins C dx fs)∧Cls K C∧NoAttr K C f∧fs.length < 1000 ∧
  D.nx σ (upd H2 a (.ins C dx (putF f y fs)))
section
variable {X:Cx} {o e value:Expr} {f:Str} {pos pos' tpos:Pos} {ta tv:TE}
theorem pe_fld (he:PE X e ta) (hb:attributeBase e f X.env (eval e X.env)=eval e X.env):PE X (.Attribute e f pos) (tFld X.K ta f):=by
  intro pins s σ H Q I h
  refine attr_of hb (thn (he pins s σ H _ I h) fun u s1 ⟨x,H1,I1,rx,a,C,dx,fs,v,ex,ea,c,n,l,q⟩=>?_)
  subst ex
  obtain rfl:u=Value.ref a:=rx
  exact getattr_ok I1 ea c n l fun u' s2 I2 ru=>⟨v,H1,I2,ru,q⟩
theorem ps_fld (ha:PE X o ta) (hv:PE X value tv) (hs:swapsWith value (some (.Attribute o f pos')) pos.line X.env=pure false):PS X (.Assign [.Attribute o f pos'] value pos) (sFld X.K ta tv f):=by
  intro pins s σ H D I h
  refine plainObj_wpAny_Assign_Attribute (thn (hv pins s σ H _ I h) fun u s1 ⟨y,H1,I1,ry,q⟩=>thn (ha pins s1 σ H1 _ I1 q) fun ov s2 ⟨x,H2,I2,rx,a,C,dx,fs,ex,ea,c,n,l,q2⟩=>?_) hs
  subst ex
  obtain rfl:ov=Value.ref a:=rx
  exact setattr_ok I2 ea c n l ry fun s3 I3=>⟨σ,_,I3,q2⟩
end
section
variable {X:Cx} {pins:List (Addr × Obj)} {σ:St} {H:Hp} {s:Shared} {A:Around} {E:Value→Shared→Prop} {Q:Value→Shared→Prop} {c:Value} {b:Bool}
inductive TyOf (K:PySem.W.Frag) (H:Hp):V→Value→Prop where
  | non:TyOf K H .non (.type "NoneType")
  | bl (x:Bool):TyOf K H (.bl x) (.type "bool")
  | int (i:Int):TyOf K H (.int i) (.type "int")
  | str (x:Str):TyOf K H (.str x) (.type "str")
  | flt (x:UInt64):TyOf K H (.flt x) (.type "float")
  | lst {a:Addr} {xs:List V} (e:H a=some (.lst xs)):TyOf K H (.ref a) (.type "list")
  | frz {a:Addr} {o:Obj} {xs:List V} (e:H a=some (.frz o (.lst xs))):TyOf K H (.ref a) (.type "list")
  | tup {a:Addr} {xs:List V} (e:H a=some (.tup xs)):TyOf K H (.ref a) (.type "tuple")
  | dK {a:Addr} {kvs:List (Key × V)} (e:H a=some (.dK kvs)):TyOf K H (.ref a) (.type "dict")
  | dT {a:Addr} {kvs:List (List Key × V)} (e:H a=some (.dT kvs)):TyOf K H (.ref a) (.type "dict")
  | ins {a C dx:Addr} {fs:List (Str × V)} (e:H a=some (.ins C dx fs)) (cl:Cls K C) (ha:PySem.W.findIn K (.ref C) "__class__"=some (some (.builtin "object.__class__")))
      (hn:PySem.W.specialIn K (.builtin "object.__class__") "__get__"=some (some (.builtin "getset_descriptor.__get__"))) (htk:PySem.W.takesIn K (.builtin "object.__class__")=some true)
      (hm:PySem.W.mroIn K C (.type "object")=some true):TyOf K H (.ref a) (.ref C)
theorem isinst_ok {x:V} {u t:Value} (I:Inv X pins σ H s) (rx:RelV x u) (ty:TyOf X.K H x t) (e:PySem.W.kitOne X.K t c=some b) (h:∀ tk,Q (.bool b) { s with toks:=tk }) :
    wpAny (model X.prog X.w) A (call (.builtin "isinstance") [u,c]) Q E s:=by
  cases ty with
  | non=>cases (show u=Value.none from rx); exact PySem.W.kia_one PySem.W.kitx_none I.kIn True.intro e (fun z=>nomatch z) h
  | bl y=>cases (show u=Value.bool y from rx); exact PySem.W.kia_one PySem.W.kitx_bool I.kIn True.intro e (fun z=>nomatch z) h
  | int i=>obtain ⟨t,q⟩:=(show ∃ t,u=Value.int i t from rx); cases q; exact PySem.W.kia_one PySem.W.kitx_int I.kIn True.intro e (fun z=>nomatch z) h
  | str y=>obtain ⟨t,q⟩:=(show ∃ t,u=Value.str y t from rx); cases q; exact PySem.W.kia_one PySem.W.kitx_str I.kIn True.intro e (fun z=>nomatch z) h
  | flt y=>obtain ⟨t,q⟩:=(show ∃ t,u=Value.float y t from rx); cases q; exact PySem.W.kia_one PySem.W.kitx_float I.kIn True.intro e (fun z=>nomatch z) h
  | @lst a xs ea =>
    cases (show u=Value.ref a from rx)
    obtain ⟨_,_,n,_,h1⟩:=(show ObjOk X.prog X.w H s.heap a (.lst xs) from I.hok a _ ea)
    exact PySem.W.kia_one PySem.W.kitx_list I.kIn ⟨_,h1,rfl⟩ e (fun z=>nomatch z) h
  | @frz a ob xs ea =>
    cases (show u=Value.ref a from rx)
    obtain ⟨_,_,_,n,_,h1⟩:=(show ObjOk X.prog X.w H s.heap a (.frz ob (.lst xs)) from I.hok a _ ea)
    exact PySem.W.kia_one PySem.W.kitx_list I.kIn ⟨_,h1,rfl⟩ e (fun z=>nomatch z) h
  | @tup a xs ea =>
    cases (show u=Value.ref a from rx)
    obtain ⟨_,_,_,p⟩:=(show ObjOk X.prog X.w H s.heap a (.tup xs) from I.hok a _ ea)
    obtain ⟨o,h1,h2,_⟩:=p
    exact PySem.W.kia_one PySem.W.kitx_tuple I.kIn ⟨o,h1,h2⟩ e (fun z=>nomatch z) h
  | @dK a kvs ea =>
    cases (show u=Value.ref a from rx)
    obtain ⟨_,_,vs,_,p⟩:=(show ObjOk X.prog X.w H s.heap a (.dK kvs) from I.hok a _ ea)
    obtain ⟨o,es,ep,h1,h2,_⟩:=p
    exact PySem.W.kia_one PySem.W.kitx_dict I.kIn ⟨o,h1,h2.1⟩ e (fun z=>nomatch z) h
  | @dT a kvs ea =>
    cases (show u=Value.ref a from rx)
    obtain ⟨_,_,xs,_,o,es,ep,h1,h2,_⟩:=(show ObjOk X.prog X.w H s.heap a (.dT kvs) from I.hok a _ ea)
    exact PySem.W.kia_one PySem.W.kitx_dict I.kIn ⟨o,h1,h2.1⟩ e (fun z=>nomatch z) h
  | @ins a C dx fs ea cl ha hn htk hm =>
    cases (show u=Value.ref a from rx)
    obtain ⟨mA,O,_⟩:=ins_get I.hok ea
    obtain ⟨od,J,_⟩:=O.look
    exact PySem.W.kia_one (PySem.W.kitx_own (cl.get _) cl.hd ha hn htk hm) I.kIn J e (fun z=>nomatch z) h
end
end L2
namespace L2
open PySem PySem.Spec PyProof.Rows
structure Room (k:Nat) (A:Around):Prop where
  hd:A.handled=none
  dp:A.depth+3 * k+5 < recursionLimit
  un:A.units+16 * k+200 < cLine
theorem Room.mono {j k:Nat} {A:Around} (r:Room k A) (h:j≤k):Room j A:=⟨r.hd,by have:=r.dp; omega,by have:=r.un; omega⟩
theorem Room.deeper {k:Nat} {A:Around} (r:Room (k+1) A) (env:Env):Room k (A.deeper env) :=
  ⟨r.hd,by have:=r.dp; show A.depth+1+3 * k+5 < _; omega,by have:=r.un; show A.units+3+16 * k+200 < _; omega⟩
theorem Room.in1 {k:Nat} {A:Around} (r:Room (k+1) A):Room k A.in1 :=
  ⟨r.hd,by have:=r.dp; show A.depth+3 * k+5 < _; omega,by have:=r.un; show A.units+1+16 * k+200 < _; omega⟩
theorem make_depth {A:Around} {C:Addr} {us:List Value} {kw:List (Str × Value)}:(A.under (.builtin "type.__call__" ⟨.ref C :: us,kw⟩)).depth=A.depth+1:=by
  first | rfl | simp [Around.under,Code.weight,Code.isCreation,Code.isGuard,Code.isCaller,Code.frames,Code.isFrame,guardIds]
theorem make_units {A:Around} {C:Addr} {us:List Value} {kw:List (Str × Value)}:(A.under (.builtin "type.__call__" ⟨.ref C :: us,kw⟩)).units=A.units+1:=by
  first | rfl | simp [Around.under,Code.cUnits,Code.frames,Code.isFrame]
theorem Room.make {k:Nat} {A:Around} (r:Room (k+1) A) (C:Addr) (us:List Value) (kw:List (Str × Value)):Room k (A.under (.builtin "type.__call__" ⟨.ref C :: us,kw⟩)) :=
  ⟨r.hd,by have:=r.dp; rw [make_depth]; omega,by have:=r.un; rw [make_units]; omega⟩
theorem Room.depth {k:Nat} {A:Around} (r:Room k A):A.depth < recursionLimit:=by have:=r.dp; omega
theorem Room.units {k:Nat} {A:Around} (r:Room k A):A.units+64 < cLine:=by have:=r.un; omega
def tNil:TA:=fun _ H Q=>Q [] H
def tCons (ta:TE) (tr:TA):TA:=fun σ H Q=>ta σ H fun x H1=>tr σ H1 fun xs H2=>Q (x :: xs) H2
section
variable {X:Cx} {e:Expr} {es:List Expr} {te:TE} {t:TA} {pos:Pos}
theorem pa_nil:PA X [] tNil:=fun _ _ _ _ H Q I h=>Calls.spliced_nil ⟨[],H,I,.nil,h⟩
theorem pa_cons (ha:PE X e te) (hr:PA X es t) (hs:starEach (e :: es) X.env=(false,eval e X.env) :: starEach es X.env:=by rfl):PA X (e :: es) (tCons te t):=by
  intro pos pins s σ H Q I h
  rw [hs]
  show wpAny _ _ (spliced ((false,eval e X.env) :: backTo pos (starEach es X.env))) _ _ s
  refine Calls.spliced_cons (thn (ha pins s σ H _ I h) fun u s1 ⟨x,H1,I1,r1,q1⟩=>?_)
  exact thn (hr pos pins s1 σ H1 _ I1 q1) fun us s2 ⟨xs,H2,I2,r2,q2⟩=>⟨x :: xs,H2,I2,.cons r1 r2,q2⟩
def tTup (t:TA):TE:=fun σ H Q=>t σ H fun xs H1=>xs.length≤sizeLine∧∀ p,H1 p=none→Q (.ref p) (upd H1 p (.tup xs))
def tLst (t:TA):TE:=fun σ H Q=>t σ H fun xs H1=>xs.length≤sizeLine∧∀ p,H1 p=none→Q (.ref p) (upd H1 p (.lst xs))
theorem pe_tup {x1} (h:PA X es t):PE X (.Tuple es x1 pos) (tTup t):=by
  intro pins s σ H Q I hq
  refine wpAny_Tuple_spliced (thn (h pos pins s σ H _ I hq) fun us s1 ⟨xs,H1,I1,r,z,q⟩=>⟨by rw [← r.length]; exact z,?_⟩)
  have hf:H1 s1.heap.objs.size=none:=I1.hok.fresh (Nat.le_refl _)
  refine ⟨.ref s1.heap.objs.size,upd H1 s1.heap.objs.size (.tup xs),I1.laid (t':=s1.toks) (fun b u e=>Heap.get?_push_of_some _ e) (Nat.le_refl _) ?_,rfl,q _ hf⟩
  exact ⟨z,us,r,⟨_,Heap.get?_push_size _ rfl,rfl,_,rfl⟩⟩
theorem pe_lst (h:PA X es t):PE X (.List es pos) (tLst t):=by
  intro pins s σ H Q I hq
  refine wpAny_List_spliced (thn (h pos pins s σ H _ I hq) fun us s1 ⟨xs,H1,I1,r,z,q⟩=>⟨by rw [← r.length]; exact z,?_⟩)
  have hf:H1 s1.heap.objs.size=none:=I1.hok.fresh (Nat.le_refl _)
  refine ⟨.ref s1.heap.objs.size,upd H1 s1.heap.objs.size (.lst xs),I1.laid (t':=s1.toks) (fun b u e=>Heap.get?_push_of_some _ e) (Nat.le_refl _) ?_,rfl,q _ hf⟩
  exact ⟨z,us,0,r,Heap.get?_push_size _ rfl⟩
end
abbrev Sp:=List V→Hp→VK→XK→Prop
abbrev CXT:=List Env→Hp→Shared→XK→Value→Shared→Prop
structure Env0 (P:Program) (w:World) (K:PySem.W.Frag) (mg:Str→Option Value) (base:Heap) (A:Around) (outer:List Env) (s:Shared) (H:Hp):Prop where
  frames:A.frames=some outer
  mod:Mod K mg base
  bs:∀ b o,base.get? b=some o→s.heap.get? b=some o∧H b=none
  bsz:base.objs.size≤s.heap.objs.size
  funs:s.heap.FunFrames base outer
  frf:∀ b∈frs outer,H b=none
  hok:HOk P w H s.heap
  bare:AllBare s.gens
def CE (outer:List Env) (P:Program) (w:World) (H:Hp) (s:Shared) (Q:VK) (u:Value) (s':Shared):Prop :=
  ∃ v H',s'.os=s.os∧AllBare s'.gens∧Un (frs outer) [] H H' s.heap s'.heap∧HOk P w H' s'.heap∧RelV v u∧Q v H'
def CR (CX:CXT) (outer:List Env) (P:Program) (w:World) (H:Hp) (s:Shared) (Q:VK) (E:XK) (r:Result) (s':Shared):Prop :=
  match r with
  | .ok (.ret u)=>CE outer P w H s Q u s'
  | .ok _=>False
  | .error e=>CX outer H s E e s'
structure FnOk (P:Program) (w:World) (K:PySem.W.Frag) (mg:Str→Option Value) (base:Heap) (CX:CXT) (k:Nat) (f:Addr) (fd:FuncData) (ps:List Str) (sp:Sp):Prop where
  len:∀ vs H Q E,sp vs H Q E→vs.length=ps.length
  run:∀ (A:Around) (outer:List Env) (s:Shared) (H:Hp) (args:Args) (us:List Value) (vs:List V) (Q:VK) (E:XK),Room k A→Env0 P w K mg base A outer s H→BindsTo s fd args (ps.zip us)→Vals vs us→sp vs H Q E →
    codeAny (model P w) A (.call (.ref f) args) (CR CX outer P w H s Q E) s
theorem Env0.make {P:Program} {w:World} {K:PySem.W.Frag} {mg:Str→Option Value} {base:Heap} {A:Around} {outer:List Env} {s:Shared} {H:Hp} (e:Env0 P w K mg base A outer s H) (C:Addr) (us:List Value) (kw:List (Str × Value)) :
    Env0 P w K mg base (A.under (.builtin "type.__call__" ⟨.ref C :: us,kw⟩)) outer s H:=⟨by first | exact e.frames | (simpa [Around.under,Code.envs,Code.isFrame,pushEnvs] using e.frames),e.mod,e.bs,e.bsz,e.funs,e.frf,e.hok,e.bare⟩
theorem Env0.in1 {P:Program} {w:World} {K:PySem.W.Frag} {mg:Str→Option Value} {base:Heap} {A:Around} {outer:List Env} {s:Shared} {H:Hp} (e:Env0 P w K mg base A outer s H) :
    Env0 P w K mg base A.in1 outer s H:=⟨e.frames,e.mod,e.bs,e.bsz,e.funs,e.frf,e.hok,e.bare⟩
section
variable {X:Cx} {pins:List (Addr × Obj)} {σ:St} {H:Hp} {s s':Shared}
theorem Inv.env0 (I:Inv X pins σ H s):Env0 X.prog X.w X.K X.mg X.base X.A X.stack s H :=
  ⟨I.ok.frames,I.ok.mod,I.bs,Nat.le_trans I.ok.bsz I.sz,I.stack,I.stkFree,I.hok,I.bare⟩
theorem Inv.after {Q:VK} {u:Value} (I:Inv X pins σ H s) (h:CE X.stack X.prog X.w H s Q u s'):EP X pins σ Q u s':=by
  obtain ⟨v,H',os,bare,un,hok,r,q⟩:=h
  obtain ⟨hh,g,d,t,os'⟩:=s'
  obtain rfl:os'=s.os:=os
  exact ⟨v,H',I.call (h':=hh) (g':=g) (d':=d) (t':=t) (ch:=[]) un hok bare (fun b z=>absurd z (by simp)),r,q⟩
end
def tCall (sp:Sp) (dvs:List V) (E:XK) (t:TA):TE:=fun σ H Q=>t σ H fun vs H1=>sp (vs++dvs) H1 Q E
def tMake (C:Addr) (sp:Sp) (dvs:List V) (E:XK) (t:TA):TE:=fun σ H Q=>t σ H fun vs H1=>∀ x dx,H1 x=none→H1 dx=none→dx≠x →
  sp (.ref x :: (vs++dvs)) (upd (upd H1 dx (.own x)) x (.ins C dx [])) (fun v H2=>v=.non∧Q (.ref x) H2) E
def Binds (K:PySem.W.Frag) (fd:FuncData) (ps:List Str) (ds:List Value):Prop :=
  ∀ (s:Shared) (us:List Value),K.In s.heap→(us++ds).length=ps.length→BindsTo s fd ⟨us,[]⟩ (ps.zip (us++ds))
theorem Binds.all {K:PySem.W.Frag} {fd:FuncData} {ps:List Str} (h:∀ us:List Value,us.length=ps.length→bindArgs fd ⟨us,[]⟩=pure (ps.zip us)):Binds K fd ps []:=fun s us _ hl=>by
  rw [List.append_nil] at hl ⊢
  exact .of_eq (h us hl)
def Passes (CX:CXT) (X:Cx) (E:XK):Prop:=∀ (pins:List (Addr × Obj)) (σ:St) (H:Hp) (s:Shared) (e:Value) (s':Shared),Inv X pins σ H s→CX X.stack H s E e s'→X.xe e s'
section
variable {X:Cx} {CX:CXT} {k:Nat} {f C:Addr} {fd:FuncData} {ps:List Str} {sp:Sp} {dvs:List V} {ds:List Value} {E:XK} {x m:Str} {p pos apos:Pos} {e o:Expr} {es:List Expr} {ta:TE} {t:TA}
theorem run_fn {pins:List (Addr × Obj)} {σ:St} {H:Hp} {s:Shared} {Q:VK} {us:List Value} {vs:List V} (F:FnOk X.prog X.w X.K X.mg X.base CX k f fd ps sp) (hr:Room k X.A) (hb:Binds X.K fd ps ds) (hd:Vals dvs ds) (hx:Passes CX X E)
    (I:Inv X pins σ H s) (r:Vals vs us) (h:sp (vs++dvs) H Q E):wpAny (model X.prog X.w) X.A (call (.ref f) us) (EP X pins σ Q) X.xe s:=by
  have r2:Vals (vs++dvs) (us++ds):=r.append hd
  have hl:(us++ds).length=ps.length:=by rw [← r2.length]; exact F.len _ _ _ _ h
  refine wpAny_call (codeAny_mono (F.run X.A X.stack s H ⟨us,[]⟩ (us++ds) (vs++dvs) Q E hr I.env0 (hb s us I.kIn hl) r2 h) fun r s' hq=>?_)
  cases r with
  | error e=>exact hx pins σ H s e s' I hq
  | ok fl =>
    cases fl with
    | ret u=>exact I.after hq
    | next=>exact False.elim hq
    | brk=>exact False.elim hq
    | cont=>exact False.elim hq
theorem pe_call (F:FnOk X.prog X.w X.K X.mg X.base CX k f fd ps sp) (hr:Room k X.A) (hg:Gl X x) (hm:X.mg x=some (.ref f)) (hk:PySem.W.keepIn X.K (.ref f)=true) (hb:Binds X.K fd ps ds) (hd:Vals dvs ds) (hx:Passes CX X E)
    (ha:PA X (e :: es) t) (hdb:(x == ("__debug__":Str))=false:=by decide) (he:starEach (e :: es) X.env=(false,eval e X.env) :: starEach es X.env:=by rfl) (hpl:(backTo pos (starEach es X.env)).any (·.1)=false:=by rfl) :
    PE X (.Call (.Name x p) (e :: es) [] pos) (tCall sp dvs E t):=by
  intro pins s σ H Q I h
  refine wpAny_Call_Name_kw (ld_glob I hg hm ?_ hdb)
  refine PySem.W.callWith_K (h₀:=X.base) I.ok.mod.kin hk (thn (ha pos pins s σ H _ I h) fun us s1 ⟨vs,H1,I1,r,q⟩=>⟨I1.kIn,?_⟩) he hpl
  exact run_fn F hr hb hd hx I1 r q
structure Mk (K:PySem.W.Frag) (C f:Addr):Prop where
  makes:PySem.W.makesIn K C=true
  init:PySem.W.findIn K (.ref C) "__init__"=some (some (.ref f))
  fn:PySem.W.isFn K (.ref f)=true
  kp:PySem.W.keepIn K (.ref C)=true
theorem run_make {pins:List (Addr × Obj)} {σ:St} {H:Hp} {s:Shared} {Q:VK} {us:List Value} {vs:List V} (M:Mk X.K C f) (F:FnOk X.prog X.w X.K X.mg X.base CX k f fd ps sp) (hr:Room (k+1) X.A) (hb:Binds X.K fd ps ds) (hd:Vals dvs ds)
    (hx:Passes CX X E) (I:Inv X pins σ H s) (r:Vals vs us)
    (h:∀ x dx,H x=none→H dx=none→dx≠x→sp (.ref x :: (vs++dvs)) (upd (upd H dx (.own x)) x (.ins C dx [])) (fun v H2=>v=.non∧Q (.ref x) H2) E) :
    wpAny (model X.prog X.w) X.A (call (.ref C) us) (EP X pins σ Q) X.xe s:=by
  have hq:=h (s.heap.objs.size+1) s.heap.objs.size (I.hok.fresh (Nat.le_succ _)) (I.hok.fresh (Nat.le_refl _)) (Nat.ne_of_lt (Nat.lt_succ_self _))
  have I2:=Inv.made (C:=C) I
  have r2:Vals (V.ref (s.heap.objs.size+1) :: (vs++dvs)) (Value.ref (s.heap.objs.size+1) :: (us++ds)):=.cons rfl (r.append hd)
  have hl:(Value.ref (s.heap.objs.size+1) :: us++ds).length=ps.length:=by
    have e:=r2.length
    rw [F.len _ _ _ _ hq] at e
    exact e.symm
  refine wpAny_call (make_map (f:=f) I.kIn M.makes M.init (beq_iff_eq.mp M.fn) (codeAny_mono (F.run _ X.stack _ _ ⟨Value.ref (s.heap.objs.size+1) :: us,[]⟩ (Value.ref (s.heap.objs.size+1) :: (us++ds)) _ _ E (hr.make C us [])
    (I2.env0.make C us []) (hb _ (Value.ref (s.heap.objs.size+1) :: us) I2.kIn hl) r2 hq) fun r s' hq'=>?_))
  cases r with
  | error e=>exact hx pins σ _ _ e s' I2 hq'
  | ok fl =>
    cases fl with
    | ret u =>
      obtain ⟨v,H',I3,rv,ev,q3⟩:=I2.after hq'
      subst ev
      exact ⟨rv,⟨V.ref (s.heap.objs.size+1),H',I3,rfl,q3⟩⟩
    | next=>exact False.elim hq'
    | brk=>exact False.elim hq'
    | cont=>exact False.elim hq'
theorem pe_make (M:Mk X.K C f) (F:FnOk X.prog X.w X.K X.mg X.base CX k f fd ps sp) (hr:Room (k+1) X.A) (hg:Gl X x) (hm:X.mg x=some (.ref C)) (hb:Binds X.K fd ps ds) (hd:Vals dvs ds) (hx:Passes CX X E)
    (ha:PA X (e :: es) t) (hdb:(x == ("__debug__":Str))=false:=by decide) (he:starEach (e :: es) X.env=(false,eval e X.env) :: starEach es X.env:=by rfl) (hpl:(backTo pos (starEach es X.env)).any (·.1)=false:=by rfl) :
    PE X (.Call (.Name x p) (e :: es) [] pos) (tMake C sp dvs E t):=by
  intro pins s σ H Q I h
  refine wpAny_Call_Name_kw (ld_glob I hg hm ?_ hdb)
  refine PySem.W.callWith_K (h₀:=X.base) I.ok.mod.kin M.kp (thn (ha pos pins s σ H _ I h) fun us s1 ⟨vs,H1,I1,r,q⟩=>⟨I1.kIn,?_⟩) he hpl
  exact run_make M F hr hb hd hx I1 r q
end
section
variable {X:Cx} {CX:CXT} {k:Nat} {f C:Addr} {fd:FuncData} {ps ks:List Str} {sp:Sp} {E:XK} {x m:Str} {p pos apos kpos:Pos} {e o:Expr} {es:List Expr} {kws:List Keyword} {te ta:TE} {t tk:TA} {nm:Option Str}
variable {g:List Value→List Value→List Value} {gV:List V→List V→List V}
end
structure FnScope (N P:List Str) (sc:Scope):Prop where
  kind:sc.kind=.function
  co:sc.isCoroutine=false
  gen:sc.isGenerator=false
  nd:N.Nodup
  pre:N.take P.length=P
  par:∀ x∈P,sc.names.lookup x=some .local∨sc.names.lookup x=some .cell
  nofree:∀ y∈sc.names,y.2≠.free
theorem bindL_out {kindOf:Str→Option NameKind} {x:Str}:∀ {binds:List (Str × Value)} {m:Str→Option Value},(∀ v,(x,v) ∉ binds)→bindL kindOf binds m x=m x
  | [],_,_=>rfl
  | (n,v) :: r,m,h=>by
    unfold bindL
    rw [bindL_out fun w hw=>h w (List.mem_cons_of_mem _ hw)]
    split
    · have:x≠n:=by rintro rfl; exact h v List.mem_cons_self
      simp [this]
    · rfl
theorem bindC_out {kindOf:Str→Option NameKind} {x:Str}:∀ {binds:List (Str × Value)} {m:Str→Option Value},(∀ v,(x,v) ∉ binds)→bindC kindOf binds m x=m x
  | [],_,_=>rfl
  | (n,v) :: r,m,h=>by
    unfold bindC
    rw [bindC_out fun w hw=>h w (List.mem_cons_of_mem _ hw)]
    split
    · rfl
    · have:x≠n:=by rintro rfl; exact h v List.mem_cons_self
      simp [this]
theorem bindL_get {kindOf:Str→Option NameKind} {x:Str} {v:Value}:∀ {P:List Str} {vs:List Value} {i:Nat} {m:Str→Option Value},P.Nodup→P[i]?=some x→vs[i]?=some v→kindOf x=some .local →
    bindL kindOf (P.zip vs) m x=some v
  | [],_,_,_,_,h,_,_=>by simp at h
  | _ :: _,[],_,_,_,_,h,_=>by simp at h
  | p :: P,w :: vs,0,m,nd,h1,h2,hk=>by
    simp at h1 h2; subst h1; subst h2
    show bindL kindOf ((p,w) :: P.zip vs) m p=_
    unfold bindL
    rw [bindL_out fun v hv=>(List.nodup_cons.mp nd).1 (List.of_mem_zip hv).1,if_pos hk]
    simp
  | p :: P,w :: vs,i+1,m,nd,h1,h2,hk=>by
    show bindL kindOf ((p,w) :: P.zip vs) m x=_
    unfold bindL
    exact bindL_get (i:=i) (List.nodup_cons.mp nd).2 (by simpa using h1) (by simpa using h2) hk
theorem bindC_get {kindOf:Str→Option NameKind} {x:Str} {v:Value}:∀ {P:List Str} {vs:List Value} {i:Nat} {m:Str→Option Value},P.Nodup→P[i]?=some x→vs[i]?=some v→kindOf x≠some .local →
    bindC kindOf (P.zip vs) m x=some v
  | [],_,_,_,_,h,_,_=>by simp at h
  | _ :: _,[],_,_,_,_,h,_=>by simp at h
  | p :: P,w :: vs,0,m,nd,h1,h2,hk=>by
    simp at h1 h2; subst h1; subst h2
    show bindC kindOf ((p,w) :: P.zip vs) m p=_
    unfold bindC
    rw [bindC_out fun v hv=>(List.nodup_cons.mp nd).1 (List.of_mem_zip hv).1,if_neg hk]
    simp
  | p :: P,w :: vs,i+1,m,nd,h1,h2,hk=>by
    show bindC kindOf ((p,w) :: P.zip vs) m x=_
    unfold bindC
    exact bindC_get (i:=i) (List.nodup_cons.mp nd).2 (by simpa using h1) (by simpa using h2) hk
def start (N:List Str) (vs:List V):St:=vs.map some++List.replicate (N.length - vs.length) none
def cxOf (CX:CXT) (P:Program) (w:World) (K:PySem.W.Frag) (mg:Str→Option Value) (base:Heap) (N:List Str) (qual:Str) (scope:Scope) (f:Addr) (cd:Value) (A:Around) (outer:List Env) (s:Shared) (H:Hp) (E:XK):Cx where
  prog:=P
  w:=w
  K:=K
  mg:=mg
  base:=base
  A:=A.deeper (envOfC qual scope s.heap.objs.size f cd)
  N:=N
  s₀:=s
  H₀:=H
  env:=envOfC qual scope s.heap.objs.size f cd
  outer:=outer
  stack:=envOfC qual scope s.heap.objs.size f cd :: outer
  ex:=[]
  calm:=true
  fn:=fun _=>true
  pn:=[]
  xe:=fun e s'=>wpAny (model P w) (A.deeper (envOfC qual scope s.heap.objs.size f cd)) (leaving (envOfC qual scope s.heap.objs.size f cd) e) (fun _ s''=>CX outer H s E e s'') (fun e' s''=>CX outer H s E e' s'') s'
theorem cell_has {sc:Scope} {n:Nat} {x:Str} (h:sc.names.lookup x=some .cell):∃ c,(cellsFrom n sc.names []).lookup x=some c:=by
  have q:=PySem.W.cellsFrom_some sc.names n [] (.inl h)
  exact Option.isSome_iff_exists.mp q
theorem inv_start {CX:CXT} {P:Program} {w:World} {K:PySem.W.Frag} {mg:Str→Option Value} {base:Heap} {N ps:List Str} {qual:Str} {scope:Scope} {f:Addr} {cd:Value} {A:Around} {outer:List Env} {s s1:Shared} {H:Hp} {E:XK} {us:List Value} {vs:List V}
    (S:FnScope N ps scope) (hd:A.handled=none) (e0:Env0 P w K mg base A outer s H) (hl:vs.length=ps.length) (r:Vals vs us)
    (x:InCallC s s.heap.objs.size (bindL (envOfC qual scope s.heap.objs.size f cd).kindOf (ps.zip us) fun _=>none) (cellsFrom (s.heap.objs.size+1) scope.names []) (bindC (envOfC qual scope s.heap.objs.size f cd).kindOf (ps.zip us) fun _=>none) s1) :
    Inv (cxOf CX P w K mg base N qual scope f cd A outer s H E) [] (start N vs) H s1:=by
  have hpl:ps.length≤N.length:=by have:=congrArg List.length S.pre; rw [List.length_take] at this; omega
  obtain ⟨h1,tk,rfl,hk⟩:=x.done
  have noA:∀ b:Addr,b ∉ (cxOf CX P w K mg base N qual scope f cd A outer s H E).ex:=fun b z=>absurd (show b∈([]:List Addr) from z) (by simp)
  refine ⟨⟨e0.mod,S.kind,rfl,rfl,Nat.le_refl _,fun y z c h1 h2=>?_,fun y hy=>?_,fun y c _ h=>?_,fun _=>hd,Around.frames_deeper e0.frames,.inr ⟨rfl,rfl⟩,fun b z=>absurd z (noA b),e0.bs,e0.bsz,fun b _ _=>noA b,fun b z=>absurd z (noA b),e0.funs,e0.frf⟩,
    rfl,e0.bare,Un.kept hk,⟨_,x.toInCall.ns,fun i y v h1 h2 h3=>?_⟩,fun y c h=>⟨_,x.cell y c h⟩,e0.hok.fresh (Nat.le_refl _),fun y c h=>?_,fun p hp=>absurd (show p∈([]:List (Addr × Obj)) from hp) (by simp),e0.hok.kept hk,?_⟩
  · exact name_of_addr x.apart (PySem.mem_of_lookup h1) (PySem.mem_of_lookup h2)
  · have hy:scope.names.lookup y=some .cell∨scope.names.lookup y=some .free:=hy
    rcases hy with hy | hy
    · exact cell_has hy
    · exact absurd rfl (S.nofree _ (PySem.mem_of_lookup hy))
  · exact Nat.le_of_lt (x.above y c (PySem.mem_of_lookup h))
  · have hi:i < vs.length:=by
      unfold start at h2
      by_cases hi:i < vs.length
      · exact hi
      · rw [List.getElem?_append_right (by simpa using hi)] at h2
        rw [List.getElem?_replicate] at h2
        split at h2 <;> cases h2
    have ha:vs[i]?=some v:=by
      unfold start at h2
      rw [List.getElem?_append_left (by simpa using hi),List.getElem?_map] at h2
      cases e:vs[i]? with
      | none=>rw [e] at h2; cases h2
      | some a=>rw [e] at h2; cases h2; rfl
    obtain ⟨u,hu,rv⟩:=r.get ha
    have hp:ps[i]?=some y:=by
      rw [← S.pre,List.getElem?_take_of_lt (by omega)]; exact h1
    have ndP:ps.Nodup:=by rw [← S.pre]; exact S.nd.sublist (List.take_sublist _ _)
    refine ⟨u,rv,?_⟩
    rcases S.par y (List.mem_of_getElem? hp) with k | k
    · exact .inl ⟨k,bindL_get ndP hp hu k⟩
    · obtain ⟨c,e⟩:=cell_has (n:=s.heap.objs.size+1) k
      refine .inr ⟨.inl k,c,e,?_⟩
      have q:=x.cell y c e
      rw [bindC_get ndP hp hu (by show scope.names.lookup y≠_; rw [k]; decide)] at q
      exact q
  · exact e0.hok.fresh (Nat.le_of_lt (x.above y c (PySem.mem_of_lookup h)))
  · unfold start
    show _=N.length
    rw [List.length_append,List.length_map,List.length_replicate]
    omega
theorem fn_of {CX:CXT} {P:Program} {w:World} {K:PySem.W.Frag} {mg:Str→Option Value} {base:Heap} {k:Nat} {f:Addr} {name qual:Str} {params:Arguments} {body:List Stmt} {scope:Scope} {dV kV doc pm cdv ct oc:Value} {an od:Option Addr}
    {osl:Array (Option Value)} {N ps:List Str} {sp:Sp} (lk:K.lookup f=some ⟨oc,od,.func (PySem.W.fnOf name qual params body scope dV kV doc pm an cdv ct),osl⟩) (hcd:PySem.W.codeIn K cdv qual=true) (S:FnScope N ps scope)
    (len:∀ vs H Q E,sp vs H Q E→vs.length=ps.length)
    (hbody:∀ (A:Around) (outer:List Env) (s:Shared) (H:Hp) (vs:List V) (Q:VK) (E:XK),Room k (A.deeper (envOfC qual scope s.heap.objs.size f cdv))→sp vs H Q E →
      ∃ t,PSs (cxOf CX P w K mg base N qual scope f cdv A outer s H E) body t∧t { nx:=fun _ H'=>Q .non H',rt:=Q } (start N vs) H) :
    FnOk P w K mg base CX (k+1) f (PySem.W.fnOf name qual params body scope dV kV doc pm an cdv ct) ps sp:=by
  refine ⟨len,fun A outer s H args us vs Q E hr e0 hb r hsp=>?_⟩
  have hl:=len _ _ _ _ hsp
  have KX:K.In s.heap:=e0.mod.kin.keeps fun b o e=>(e0.bs b o e).1
  have lim:s.heap.NoLimit:=e0.mod.nolimit.keeps fun b o e=>(e0.bs b o e).1
  have hkind:∀ y∈ps.zip us,scope.names.lookup y.1=some .local∨(scope.names.lookup y.1=some .cell∧((cellsFrom (s.heap.objs.size+1) scope.names []).lookup y.1).isSome=true):=fun ⟨n,v⟩ hy=>by
    rcases S.par n (List.of_mem_zip hy).1 with q | q
    · exact .inl q
    · exact .inr ⟨q,PySem.W.cellsFrom_some _ _ _ (.inl q)⟩
  refine codeAny_call_function hr.depth (KX _ _ lk) rfl S.co S.gen rfl (PySem.W.codeRec_of KX hcd) (hb _ _ _ _ ?_)
  refine wpAny_newFunctionEnv_cells S.kind hkind fun env he s1 x=>?_
  subst he
  refine ⟨lim.keeps x.toInCall.keep,codeAny_func ?_⟩
  obtain ⟨t,ht,hq⟩:=hbody A outer s H vs Q E (hr.deeper _) hsp
  have I:Inv (cxOf CX P w K mg base N qual scope f cdv A outer s H E) [] (start N vs) H s1:=inv_start S hr.hd e0 hl r x
  refine wpAny_mono (ht [] s1 (start N vs) H _ I hq) (fun fl s' hs=>?_) fun e s' hs=>hs
  have fin:∀ {σ':St} {H':Hp} {v:V} {u:Value},Inv (cxOf CX P w K mg base N qual scope f cdv A outer s H E) [] σ' H' s'→RelV v u→Q v H'→CE outer P w H s Q u s' :=
    fun {σ' H' v u} J rv q=>⟨v,H',J.os,J.bare,J.base,J.hok,rv,q⟩
  cases fl with
  | ret u =>
    obtain ⟨v,σ',H',J,rv,q⟩:=hs
    exact fin J rv q
  | next =>
    obtain ⟨σ',H',J,q⟩:=hs
    exact fin (v:=V.non) (u:=Value.none) J rfl q
  | brk =>
    obtain ⟨_,_,_,q⟩:=hs
    exact False.elim q
  | cont =>
    obtain ⟨_,_,_,q⟩:=hs
    exact False.elim q
end L2
namespace L2
open PySem PySem.Spec PyProof.Rows
section
variable {X:Cx} {x:Str} {p pos:Pos} {e:Expr} {es:List Expr} {t:TA} {id T:String} {r:List V→Hp→VK→Prop}
def tCB (r:List V→Hp→VK→Prop) (t:TA):TE:=fun σ H Q=>t σ H fun vs H1=>r vs H1 Q
theorem pe_callB (hc:CallR X (.builtin id) r) (hg:Gl X x) (hm:X.mg x=none) (hv:bootBuiltins x=some (.builtin id)) (ha:PA X (e :: es) t) (hn:x≠"__name__":=by decide) (hdb:(x == ("__debug__":Str))=false:=by decide)
    (he:starEach (e :: es) X.env=(false,eval e X.env) :: starEach es X.env:=by rfl) (hpl:(backTo pos (starEach es X.env)).any (·.1)=false:=by rfl):PE X (.Call (.Name x p) (e :: es) [] pos) (tCB r t):=by
  intro pins s σ H Q I h
  refine wpAny_Call_Name_kw (ld_blt I hg hm hv ?_ hn hdb)
  exact PyProof.Rows.callWith_builtin1 (thn (ha pos pins s σ H _ I h) fun us s1 ⟨vs,H1,I1,r1,q1⟩=>hc pins s1 σ H1 vs us Q I1 r1 q1) he hpl
theorem pe_callTy (hc:CallR X (.type T) r) (hg:Gl X x) (hm:X.mg x=none) (hv:bootBuiltins x=some (.type T)) (ha:PA X (e :: es) t) (hn:x≠"__name__":=by decide) (hdb:(x == ("__debug__":Str))=false:=by decide)
    (he:starEach (e :: es) X.env=(false,eval e X.env) :: starEach es X.env:=by rfl) (hpl:(backTo pos (starEach es X.env)).any (·.1)=false:=by rfl):PE X (.Call (.Name x p) (e :: es) [] pos) (tCB r t):=by
  intro pins s σ H Q I h
  refine wpAny_Call_Name_kw (ld_blt I hg hm hv ?_ hn hdb)
  exact PyProof.Rows.callWith_type1 (thn (ha pos pins s σ H _ I h) fun us s1 ⟨vs,H1,I1,r1,q1⟩=>hc pins s1 σ H1 vs us Q I1 r1 q1) he hpl
end
end L2
namespace HT
open PySem PyProof.Rows
def lexLt:List Int→List Int→Bool
  | [],[]=>false
  | [],_ :: _=>true
  | _ :: _,[]=>false
  | x :: xs,y :: ys=>if x=y then lexLt xs ys else decide (x < y)
theorem lexLt_cons (x y:Int) (xs ys:List Int):lexLt (x :: xs) (y :: ys)=if x=y then lexLt xs ys else decide (x < y):=rfl
theorem lexLt_nil_nil:lexLt [] []=false:=rfl
theorem lexLt_nil_cons (y:Int) (ys:List Int):lexLt [] (y :: ys)=true:=rfl
theorem lexLt_cons_nil (x:Int) (xs:List Int):lexLt (x :: xs) []=false:=rfl
theorem eqAt_int (A:Around) (s:Shared) (a:Int) (t:Tok) (c:Int) (u:Tok):∃ e,SeqAt.EqAt A s (.int a t) (.int c u) e∧(e=true↔a=c) :=
  ⟨(a == c),SeqAt.EqAt.int_int a t c u,by simp⟩
theorem rcLt_int (A:Around) (s:Shared) (a:Int) (t:Tok) (c:Int) (u:Tok) (prog:Program) (w:World) (E:Value→Shared→Prop) (Q:Value→Shared→Prop) (h:Q (.bool (decide (a < c))) s) :
    wpAny (model prog w) A (richCompare .Lt (.int a t) (.int c u)) Q E s :=
  (PyProof.Rows.lt_int h:wpAny (model prog w) A (compareOp .Lt (.int a t) (.int c u)) Q E s)
section
open PySem.SeqAt
open PySem.AutoSeq1 (wpAny_loadPart')
open PySem.MeetsSeq PySem.MeetsSeq2 PySem.MeetsSeq3
theorem tuple_lt_ints (l b:Addr) (items items2:Array Value) (n n2:Nat) (dd dd2:Option Addr) (sl sl2:Array (Option Value)) (ns ms:List Int) (hi:IntsAre items.toList ns) (hj:IntsAre items2.toList ms) :
    Meets (Builtin.«tuple.__lt__» ⟨[.ref l,.ref b],[]⟩)
      (fun _ R s=>s.heap.get? l=some { cls:=.type "tuple",dict:=dd,data:=.seq items n,slots:=sl }∧s.heap.get? b=some { cls:=.type "tuple",dict:=dd2,data:=.seq items2 n2,slots:=sl2 } ∧
        R (.ok (.ret (.bool (lexLt ns ms)))) s) :=
  .of_wp fun prog w A R s h=>by
    obtain ⟨hp,g,d,tk,os⟩:=s; obtain ⟨hl,hb,h⟩:=h
    have f2:=AutoSeq1.sub_tuple_tuple
    have z1:items.size=ns.length:=by rw [← hi.length]; simp
    have z2:items2.size=ms.length:=by rw [← hj.length]; simp
    wp_walk using wpAny_loadPart' hl,wpAny_loadPart' hb,wpAny_forIn_list _ (fun rest b s'=>b.1=none∧s'=⟨hp,g,d,tk,os⟩∧∃ (vs ws:List Value) (ns' ms':List Int),rest=vs.zip ws ∧
      IntsAre vs ns'∧IntsAre ws ms'∧ns'.length+items2.size=ms'.length+items.size∧R (.ok (.ret (.bool (lexLt ns' ms')))) ⟨hp,g,d,tk,os⟩) _
    case turn =>
      rintro ⟨y,x⟩ rest b s' ⟨hb',rfl,vs,ws,ns',ms',hz,hvi,hwi,hlen,hR⟩
      cases hvi with
      | nil=>rw [List.zip_nil_left] at hz; cases hz
      | cons a t hvi' =>
        cases hwi with
        | nil=>rw [List.zip_nil_right] at hz; cases hz
        | cons c u hwi' =>
          rw [List.zip_cons_cons] at hz
          injection hz with hyx hrest
          injection hyx with hy hx
          subst hy hx
          rw [lexLt_cons] at hR
          simp only [List.length_cons] at hlen
          obtain ⟨e,he,hiff⟩:=eqAt_int A.in1 ⟨hp,g,d,tk,os⟩ a t c u
          refine wpAny_bind (he prog w _ _ ?_)
          cases e with
          | true =>
            rw [if_pos (hiff.mp rfl)] at hR
            wp_walk
            exact ⟨rfl,rfl,_,_,_,_,hrest,hvi',hwi',by omega,hR⟩
          | false =>
            rw [if_neg (fun q=>absurd (hiff.mpr q) Bool.false_ne_true)] at hR
            have hri:=rcLt_int A.in1 ⟨hp,g,d,tk,os⟩ a t c u prog w
            wp_walk using hri
            exact ⟨_,rfl,by simpa using hR⟩
    case fin =>
      rintro ⟨b1,b2⟩ s' ⟨hb',rfl,vs,ws,ns',ms',hz,hvi,hwi,hlen,hR⟩
      simp only at hb'
      subst hb'
      have hv:lexLt ns' ms'=decide (items.size < items2.size):=by
        cases hvi with
        | nil =>
          cases hwi with
          | nil =>
            simp only [List.length_nil] at hlen
            rw [lexLt_nil_nil]
            exact (decide_eq_false (by omega)).symm
          | cons c u hw =>
            simp only [List.length_nil,List.length_cons] at hlen
            rw [lexLt_nil_cons]
            exact (decide_eq_true (by omega)).symm
        | cons a t hv =>
          cases hwi with
          | nil =>
            simp only [List.length_nil,List.length_cons] at hlen
            rw [lexLt_cons_nil]
            exact (decide_eq_false (by omega)).symm
          | cons c u hw =>
            rw [List.zip_cons_cons] at hz
            cases hz
      rw [hv] at hR
      wp_walk
      exact ⟨_,rfl,by simpa [Builtin.Tuple.tupleCompareSizes] using hR⟩
    case h =>
      exact ⟨rfl,rfl,items.toList,items2.toList,ns,ms,rfl,hi,hj,by omega,h⟩
end
section
variable {prog:Program} {w:World} {A:Around} {E:Value→Shared→Prop} {s:Shared}
theorem lt_tupInts {l b:Addr} {items items2:Array Value} {ns ms:List Int} {Q:Value→Shared→Prop} (hl:IsTup s.heap l items) (hb:IsTup s.heap b items2) (hi:IntsAre items.toList ns) (hj:IntsAre items2.toList ms)
    (hu:A.units < cLine) (h:Q (.bool (lexLt ns ms)) s):wpAny (model prog w) A (compareOp .Lt (.ref l) (.ref b)) Q E s:=by
  obtain ⟨⟨cls,dd,data,sl⟩,ho,hc,n,hd⟩:=id hl
  obtain ⟨⟨cls2,dd2,data2,sl2⟩,ho2,hc2,n2,hd2⟩:=id hb
  simp only at hc hd hc2 hd2
  subst hc hd hc2 hd2
  exact richCompare_meets_room (op:=.Lt) ⟨_,ho,rfl⟩ ⟨_,ho2,rfl⟩ PySem.F.slot_tuple_lt PySem.F.entry_tuple_lt (PySem.F.args_tuple_lt_2 _ _) (tuple_lt_ints l b items items2 n n2 dd dd2 sl sl2 ns ms hi hj)
    ⟨ho,ho2,show Value.bool (lexLt ns ms)≠Value.notImplemented∧Q (.bool (lexLt ns ms)) s from ⟨(fun x=>nomatch x),h⟩⟩ hu
def sIx (n d:Nat):Option Int→Nat
  | none=>d
  | some v=>if v < 0 then (v+(n:Int)).toNat else min v.toNat n
end
end HT
namespace L2
open PySem PySem.Spec PyProof.Rows
abbrev TO:=St→Hp→(Option Int→Hp→Prop)→Prop
def PO (X:Cx) (e:Option Expr) (t:TO):Prop :=
  ∀ (pins:List (Addr × Obj)) (s:Shared) (σ:St) (H:Hp) (Q:Option Int→Hp→Prop),Inv X pins σ H s→t σ H Q →
    wpAny (model X.prog X.w) X.A (evalPart e X.env) (fun u s'=>∃ o H',Inv X pins σ H' s'∧IsPart u o∧Q o H') X.xe s
def tPart (t:TE):TO:=fun σ H Q=>t σ H fun x H1=>∃ i,x=.int i∧Q (some i) H1
theorem intsAre_of {ns:List Int}:∀ {us:List Value},Vals (ns.map V.int) us→IntsAre us ns:=by
  induction ns with
  | nil=>intro us r; rw [List.map_nil] at r; cases r; exact .nil
  | cons n ns ih =>
    intro us r
    rw [List.map_cons] at r
    cases r with
    | cons r1 r2 =>
      obtain ⟨t,e⟩:=r1
      subst e
      exact .cons n t (ih r2)
section
variable {X:Cx} {e:Expr} {te:TE} {lo hi:Option Expr} {tl th:TO} {pos p2:Pos}
theorem po_some (h:PE X e te):PO X (some e) (tPart te):=by
  intro pins s σ H Q I hw
  rw [evalPart_some]
  refine thn (h pins s σ H _ I hw) fun u s1 ⟨x,H1,I1,r1,q1⟩=>?_
  obtain ⟨i,rfl,q⟩:=q1
  obtain ⟨t,rfl⟩:=r1
  exact ⟨some i,H1,I1,.int i t,q⟩
def SlR (X:Cx) (r:V→Option Int→Option Int→Hp→VK→Prop):Prop :=
  ∀ (pins:List (Addr × Obj)) (s:Shared) (σ:St) (H:Hp) (x:V) (v vl vu:Value) (lo hi:Option Int) (sl:Addr) (Q:VK),Inv X pins σ H s→RelV x v→s.heap.IsSliceOf sl vl vu .none→IsPart vl lo→IsPart vu hi→r x lo hi H Q →
    ∃ T id,typeLookup (.type T) "__getitem__"=pure (some (.builtin id))∧s.TypeIs v T∧wpAny (model X.prog X.w) X.A (getItem v (.ref sl)) (EP X pins σ Q) X.xe s
def tSl (r:V→Option Int→Option Int→Hp→VK→Prop) (te:TE) (tl th:TO):TE:=fun σ H Q=>te σ H fun x H1=>tl σ H1 fun l H2=>th σ H2 fun u H3=>r x l u H3 Q
theorem pe_slice {r:V→Option Int→Option Int→Hp→VK→Prop} (hr:SlR X r) (he:PE X e te) (hl:PO X lo tl) (hu:PO X hi th):PE X (.Subscript e (.Slice lo hi none p2) pos) (tSl r te tl th):=by
  intro pins s σ H Q I h
  refine Subscript_ (thn (he pins s σ H _ I h) fun v s1 ⟨x,H1,I1,r1,q1⟩=>?_)
  refine wpAny_Slice (thn (hl pins s1 σ H1 _ I1 q1) fun vl s2 ⟨l,H2,I2,pl,q2⟩=>thn (hu pins s2 σ H2 _ I2 q2) fun vu s3 ⟨u,H3,I3,pu,q3⟩=>?_)
  rw [evalPart_none]
  refine wpAny_pure ?_
  have I4:Inv X pins σ H3 { s3 with heap:=s3.heap.push { cls:=.type "slice",data:=.fields #[vl,vu,.none] } }:=I3.kept (t':=s3.toks) fun b ob q=>Heap.get?_push_of_some _ q
  obtain ⟨T,id,hT,ht,hg⟩:=hr pins { s3 with heap:=s3.heap.push { cls:=.type "slice",data:=.fields #[vl,vu,.none] } } σ H3 x v vl vu l u s3.heap.objs.size Q I4 r1 (Heap.IsSliceOf.new ..) pl pu q3
  show wpAny (model X.prog X.w) X.A (subscriptTail e (.Slice lo hi none p2) v (.ref s3.heap.objs.size)) (EP X pins σ Q) X.xe { s3 with heap:=s3.heap.push { cls:=.type "slice",data:=.fields #[vl,vu,.none] } }
  exact tail_any (ops:=[.ref s3.heap.objs.size,v]) ht hT hg (by with_unfolding_all rfl)
def cutV (xs:List V) (lo hi:Option Int):List V:=(xs.drop (HT.sIx xs.length 0 lo)).take (HT.sIx xs.length xs.length hi - HT.sIx xs.length 0 lo)
theorem cutV_length (xs:List V) (lo hi:Option Int):(cutV xs lo hi).length≤xs.length:=by
  unfold cutV
  rw [List.length_take,List.length_drop]
  omega
end
end L2
namespace L2
open PySem PySem.Spec PyProof.Rows
def ixN (n:Nat) (i:Int):Option Nat:=if 0≤i then (if i < n then some i.toNat else none) else if -(n:Int)≤i then some (i+n).toNat else none
def atI {α:Type} (xs:List α) (i:Int):Option α:=(ixN xs.length i).bind fun j=>xs[j]?
theorem ixN_seq {n:Nat} {i:Int} {j:Nat} (h:ixN n i=some j):seqIndex? i n=some j∧j < n∧-(n:Int)≤i∧i < n:=by
  unfold ixN at h
  by_cases h0:0≤i
  · rw [if_pos h0] at h
    by_cases h1:i < n
    · rw [if_pos h1] at h
      have e:i.toNat=j:=Option.some.inj h
      exact ⟨by rw [seqIndex_of h0 h1,e],by omega,by omega,h1⟩
    · rw [if_neg h1] at h; cases h
  · rw [if_neg h0] at h
    by_cases h1:-(n:Int)≤i
    · rw [if_pos h1] at h
      have e:(i+n).toNat=j:=Option.some.inj h
      exact ⟨by rw [seqIndex_neg (by omega) h1,e],by omega,h1,by omega⟩
    · rw [if_neg h1] at h; cases h
theorem atI_get {α:Type} {xs:List α} {i:Int} {v:α} (h:atI xs i=some v):∃ j,seqIndex? i xs.length=some j∧xs[j]?=some v∧j < xs.length∧-(xs.length:Int)≤i∧i < xs.length:=by
  unfold atI at h
  cases e:ixN xs.length i with
  | none=>rw [e] at h; cases h
  | some j =>
    rw [e] at h
    obtain ⟨h1,h2,h3,h4⟩:=ixN_seq e
    exact ⟨j,h1,h,h2,h3,h4⟩
theorem atI_nat {α:Type} {xs:List α} {j:Nat} {v:α} (h:xs[j]?=some v):atI xs (j:Int)=some v:=by
  have hj:j < xs.length:=(List.getElem?_eq_some_iff.mp h).1
  have e:ixN xs.length (j:Int)=some j:=by
    unfold ixN
    rw [if_pos (by omega),if_pos (by omega)]; simp
  unfold atI; rw [e]; exact h
def PlainIx (b:Expr):Prop:=∀ o i,subscripted b false o i=operate [o,i] (getItem o i)
def IxR (X:Cx) (r:R2):Prop :=
  ∀ (value slice:Expr) (pins:List (Addr × Obj)) (s:Shared) (σ:St) (H:Hp) (x y:V) (v u:Value) (Q:VK),Inv X pins σ H s→RelV x v→RelV y u→r x y H Q →
    subscripted slice false v u=operate [v,u] (getItem v u)→wpAny (model X.prog X.w) X.A (subscriptTail value slice v u) (EP X pins σ Q) X.xe s
def MtR (X:Cx) (id:String) (r:V→List V→Hp→VK→Prop):Prop :=
  ∀ (pins:List (Addr × Obj)) (s:Shared) (σ:St) (H:Hp) (x:V) (xs:List V) (v:Value) (us:List Value) (Q:VK),Inv X pins σ H s→RelV x v→Vals xs us→r x xs H Q →
    wpAny (model X.prog X.w) X.A (call (.builtin id) (v :: us)) (EP X pins σ Q) X.xe s
section
variable {X:Cx} {a b:Expr} {ta tb:TE} {pos:Pos}
theorem pe_ix {r:R2} (hr:IxR X r) (ha:PE X a ta) (hb:PE X b tb) (hs:PlainIx b):PE X (.Subscript a b pos) (tOp r ta tb):=by
  intro pins s σ H Q I h
  exact Subscript_ (binT ha hb I h fun v u s2 x y H2 I2 rx ry q=>hr a b pins s2 σ H2 x y v u Q I2 rx ry q (hs _ _))
def rIxL (K:PySem.W.Frag):R2:=fun x y H Q=>∃ p xs i v,x=.ref p∧y=.int i∧SqL K H p xs∧atI xs i=some v∧Q v H
def rIxT (K:PySem.W.Frag):R2:=fun x y H Q=>∃ p xs i v,x=.ref p∧y=.int i∧SqT K H p xs∧atI xs i=some v∧Q v H
theorem ix_list:IxR X (rIxL X.K):=by
  intro value slice pins s σ H x y v u Q I rx ry h hs
  obtain ⟨p,xs,i,z,rfl,rfl,hq,he,q⟩:=h
  cases rx
  obtain ⟨t,rfl⟩:=ry
  obtain ⟨its,r,pl,hz⟩:=I.list hq
  obtain ⟨j,h1,h2,h3,h4,h5⟩:=atI_get he
  obtain ⟨w,ew,rw'⟩:=r.get h2
  have hl:=r.length
  have hn:=line63
  have fin:EP X pins σ Q w s:=⟨z,H,I,rw',q⟩
  by_cases h0:0≤i
  · have hj:i.toNat=j:=by
      rw [seqIndex_of h0 h5] at h1
      exact Option.some.inj h1
    exact item_listR pl.isList h0 (by omega) (by rw [hj]; simpa using ew) fin hs
  · have hj:(i+(its.toArray.size:Int)).toNat=j:=by
      rw [seqIndex_neg (by omega) h4] at h1
      rw [List.size_toArray,← hl]
      exact Option.some.inj h1
    exact subscriptTail_builtinR (x:=w) pl.isList.typeIs slot_list_getitem.lookup
      (wpAny_getItem_list_neg (Q:=fun r s'=>r=w∧EP X pins σ Q r s') pl.isList (by omega) (by rw [List.size_toArray] <;> omega) (by omega) (by rw [hj]; simpa using ew) ⟨rfl,fin⟩) hs
theorem ix_tup:IxR X (rIxT X.K):=by
  intro value slice pins s σ H x y v u Q I rx ry h hs
  obtain ⟨p,xs,i,z,rfl,rfl,hq,he,q⟩:=h
  cases rx
  obtain ⟨t,rfl⟩:=ry
  obtain ⟨its,r,pl,hz⟩:=I.tuple hq
  obtain ⟨j,h1,h2,h3,h4,h5⟩:=atI_get he
  obtain ⟨w,ew,rw'⟩:=r.get h2
  have hl:=r.length
  have hn:=line63
  have fin:EP X pins σ Q w s:=⟨z,H,I,rw',q⟩
  exact subscriptTail_builtinR (x:=w) pl.typeIs slot_tuple_getitem.lookup
    (getItem_tuple (j:=j) (Q:=fun r s'=>r=w∧EP X pins σ Q r s') pl (by omega) (by omega) (by rw [List.size_toArray,← hl]; exact h1) (by simpa using ew) ⟨rfl,fin⟩) hs
theorem slice_bounds (lo hi:Option Int) (n:Nat):(sliceBounds lo hi none n).1=((HT.sIx n 0 lo:Nat):Int)∧(sliceBounds lo hi none n).2.1=((HT.sIx n n hi:Nat):Int)∧(sliceBounds lo hi none n).2.2=1:=by
  refine ⟨?_,?_,rfl⟩
  · cases lo with
    | none=>simp [sliceBounds,HT.sIx]
    | some i =>
      simp only [sliceBounds,HT.sIx,Option.getD_none,show (1:Int) > 0 by decide,if_true]
      by_cases h:i < 0
      · simp only [h,if_true] <;> omega
      · simp only [h,if_false] <;> omega
  · cases hi with
    | none=>simp [sliceBounds,HT.sIx]
    | some i =>
      simp only [sliceBounds,HT.sIx,Option.getD_none,show (1:Int) > 0 by decide,if_true]
      by_cases h:i < 0
      · simp only [h,if_true] <;> omega
      · simp only [h,if_false] <;> omega
theorem slicePick_cut (its:List Value) (lo hi:Option Int):slicePick its.toArray lo hi none=((its.drop (HT.sIx its.length 0 lo)).take (HT.sIx its.length its.length hi - HT.sIx its.length 0 lo)).toArray:=by
  obtain ⟨h1,h2,h3⟩:=slice_bounds lo hi its.toArray.size
  unfold slicePick
  rw [h1,h2,h3]
  simp only [sliceRange_one,pick_run,List.size_toArray] <;> rfl
def rSlL (K:PySem.W.Frag):V→Option Int→Option Int→Hp→VK→Prop:=fun x lo hi H Q=>∃ a xs,x=.ref a∧SqL K H a xs∧∀ p,H p=none→Q (.ref p) (upd H p (.lst (cutV xs lo hi)))
theorem sl_list:SlR X (rSlL X.K):=by
  intro pins s σ H x v vl vu lo hi sl Q I rx hs pl pu h
  obtain ⟨a,xs,rfl,hx,q⟩:=h
  cases rx
  obtain ⟨its,r,ht,hz⟩:=I.list hx
  have hlen:=r.length
  refine ⟨"list",_,slot_list_getitem.lookup,ht.isList.typeIs,?_⟩
  refine wpAny_getItem_list_slice ht.isList hs pl pu .none (by simp) ?_ (by rw [List.size_toArray] <;> omega)
  rw [slicePick_cut,← hlen]
  refine ⟨.ref s.heap.objs.size,_,I.laid (t':=s.toks) (o:=.lst (cutV xs lo hi)) (fun b ob q=>Heap.get?_push_of_some _ q) (Nat.le_refl _) ?_,rfl,q _ (I.hok.fresh (Nat.le_refl _))⟩
  exact ⟨Nat.le_trans (cutV_length xs lo hi) hz,_,0,(r.drop (HT.sIx xs.length 0 lo)).take (HT.sIx xs.length xs.length hi - HT.sIx xs.length 0 lo),Heap.get?_push_size _ rfl⟩
def flatV:V→Bool
  | .non=>true
  | .bl _=>true
  | .int _=>true
  | .str _=>true
  | _=>false
def eqV:V→V→Bool
  | .non,.non=>true
  | .bl a,.bl b=>a == b
  | .bl a,.int b=>(if a then 1 else 0) == b
  | .int a,.bl b=>a == (if b then 1 else 0)
  | .int a,.int b=>a == b
  | .str a,.str b=>a == b
  | _,_=>false
theorem eqAt_V {A:Around} {s:Shared} {y x:V} {u v:Value} (ry:RelV y u) (rx:RelV x v) (fy:flatV y=true) (fx:flatV x=true):SeqAt.EqAt A s u v (eqV y x):=by
  cases y with
  | non =>
    cases ry
    cases x with
    | non=>cases rx; exact SeqAt.EqAt.same _
    | bl b=>cases rx; exact SeqAt.EqAt.none_bool b
    | int b=>obtain ⟨t,rfl⟩:=rx; exact SeqAt.EqAt.none_int b t
    | str b=>obtain ⟨t,rfl⟩:=rx; exact SeqAt.EqAt.none_str b t
    | _=>exact absurd (show false=true from fx) Bool.false_ne_true
  | bl a =>
    cases ry
    cases x with
    | non=>cases rx; exact SeqAt.EqAt.bool_none a
    | bl b=>cases rx; exact SeqAt.EqAt.bool_bool a b
    | int b=>obtain ⟨t,rfl⟩:=rx; exact SeqAt.EqAt.bool_int a b t
    | str b=>obtain ⟨t,rfl⟩:=rx; exact SeqAt.EqAt.bool_str a b t
    | _=>exact absurd (show false=true from fx) Bool.false_ne_true
  | int a =>
    obtain ⟨t',rfl⟩:=ry
    cases x with
    | non=>cases rx; exact SeqAt.EqAt.int_none a t'
    | bl b=>cases rx; exact SeqAt.EqAt.int_bool a t' b
    | int b=>obtain ⟨t,rfl⟩:=rx; exact SeqAt.EqAt.int_int a t' b t
    | str b=>obtain ⟨t,rfl⟩:=rx; exact SeqAt.EqAt.int_str a t' b t
    | _=>exact absurd (show false=true from fx) Bool.false_ne_true
  | str a =>
    obtain ⟨t',rfl⟩:=ry
    cases x with
    | non=>cases rx; exact SeqAt.EqAt.str_none a t'
    | bl b=>cases rx; exact SeqAt.EqAt.str_bool a t' b
    | int b=>obtain ⟨t,rfl⟩:=rx; exact SeqAt.EqAt.str_int a t' b t
    | str b=>obtain ⟨t,rfl⟩:=rx; exact SeqAt.EqAt.str_str a t' b t
    | _=>exact absurd (show false=true from fx) Bool.false_ne_true
  | _=>exact absurd (show false=true from fy) Bool.false_ne_true
def eqU (x:V) (u:Value):Bool:=match u with
  | .none=>eqV .non x
  | .bool b=>eqV (.bl b) x
  | .int i _=>eqV (.int i) x
  | .str z _=>eqV (.str z) x
  | _=>false
theorem eqU_of {x y:V} {u:Value} (r:RelV y u) (f:flatV y=true):eqU x u=eqV y x:=by
  cases y with
  | non=>cases r; rfl
  | bl b=>cases r; rfl
  | int i=>obtain ⟨t,rfl⟩:=r; rfl
  | str z=>obtain ⟨t,rfl⟩:=r; rfl
  | _=>exact absurd (show false=true from f) Bool.false_ne_true
theorem any_eqU {x:V}:∀ {xs:List V} {us:List Value},Vals xs us→xs.all flatV=true→us.any (eqU x)=xs.any fun y=>eqV y x
  | _,_,.nil,_=>rfl
  | y :: xs,u :: us,.cons r t,f=>by
    rw [List.all_cons,Bool.and_eq_true] at f
    rw [List.any_cons,List.any_cons,eqU_of r f.1,any_eqU t f.2]
theorem mem_eqAt {A:Around} {s:Shared} {x:V} {v:Value} (rx:RelV x v) (fx:flatV x=true):∀ {xs:List V} {us:List Value},Vals xs us→xs.all flatV=true→∀ u∈us,SeqAt.EqAt A s u v (eqU x u)
  | _,_,.nil,_=>fun u hu=>by cases hu
  | y :: xs,u :: us,.cons r t,f=>fun u' hu=>by
    rw [List.all_cons,Bool.and_eq_true] at f
    rcases List.mem_cons.mp hu with rfl | hu
    · rw [eqU_of r f.1]; exact eqAt_V r rx f.1 fx
    · exact mem_eqAt rx fx t f.2 u' hu
def inV (x:V) (xs:List V):Bool:=xs.any fun y=>eqV y x
def rIn (K:PySem.W.Frag) (neg:Bool):R2:=fun x y H Q=>∃ p xs,y=.ref p∧(SqL K H p xs∨SqT K H p xs)∧flatV x=true∧xs.all flatV=true∧Q (.bl (if neg then !inV x xs else inV x xs)) H
theorem op_in_seq:OpR X (compareOp .In) (rIn X.K false):=by
  intro pins s σ H x y v u Q I rx ry h
  obtain ⟨p,xs,rfl,hq,fx,fs,q⟩:=h
  cases ry
  rcases hq with hq | hq
  · obtain ⟨its,r,pl,hz⟩:=I.list hq
    refine SeqAt.in_listAt (eqU x) pl.isList (fun w hw=>mem_eqAt rx fx r fs w (by simpa using hw)) ⟨.bl _,H,I,rfl,?_⟩
    rw [show its.toArray.any (eqU x)=its.any (eqU x) by simp,any_eqU r fs]
    exact q
  · obtain ⟨its,r,pl,hz⟩:=I.tuple hq
    refine SeqAt.in_tupleAt (eqU x) pl (fun w hw=>mem_eqAt rx fx r fs w (by simpa using hw)) ⟨.bl _,H,I,rfl,?_⟩
    rw [show its.toArray.any (eqU x)=its.any (eqU x) by simp,any_eqU r fs]
    exact q
theorem call_len_seq:CallR X (.builtin "len") (fun xs H Q=>∃ p ys,xs=[.ref p]∧(SqL X.K H p ys∨SqT X.K H p ys)∧Q (.int ys.length) H):=by
  intro pins s σ H xs us Q I r h
  obtain ⟨p,ys,rfl,hq,q⟩:=h
  obtain ⟨u,rfl,rx⟩:=vals1 r
  cases rx
  have hn:=line63
  rcases hq with hq | hq
  · obtain ⟨its,r',pl,hz⟩:=I.list hq
    have hlen:=r'.length
    exact Calls.call_len_list pl.isList (by simp only [List.size_toArray] <;> omega) ⟨.int ys.length,H,I.tok _,⟨s.toks+1,by rw [List.size_toArray,hlen]⟩,q⟩
  · obtain ⟨its,r',pl,hz⟩:=I.tuple hq
    have hlen:=r'.length
    exact len_tuple pl (by simp only [List.size_toArray] <;> omega) ⟨.int ys.length,H,I.tok _,⟨s.toks+1,by rw [List.size_toArray,hlen]⟩,q⟩
def tyV (K:PySem.W.Frag) (T:String) (x:V) (H:Hp):Prop:=match x with
  | .str _=>T="str"
  | .int _=>T="int"
  | .ref p=>(T="list"∧∃ xs,SqL K H p xs)∨(T="tuple"∧∃ o,K.lookup p=some o∧o.cls=.type "tuple"∧o.dict=none) ∨
      (T="dict"∧((∃ kvs,H p=some (.dK kvs))∨∃ kvs,H p=some (.dT kvs)))∨(T="set"∧∃ S n,H p=some (.set S n))
  | _=>False
theorem tyV_is {pins:List (Addr × Obj)} {σ:St} {H:Hp} {s:Shared} {T:String} {x:V} {v:Value} (I:Inv X pins σ H s) (r:RelV x v) (ty:tyV X.K T x H) :
    s.TypeIs v T∧∀ a,v=.ref a→∃ ob,s.heap.get? a=some ob∧ob.dict=none:=by
  cases x with
  | str z =>
    obtain ⟨t,rfl⟩:=r
    cases (show T="str" from ty)
    exact ⟨typeIs_str s z t,fun _ e=>nomatch e⟩
  | int i =>
    obtain ⟨t,rfl⟩:=r
    cases (show T="int" from ty)
    exact ⟨typeIs_int s i t,fun _ e=>nomatch e⟩
  | ref p =>
    cases r
    rcases ty with ⟨rfl,xs,hq⟩ | ⟨rfl,o,hk,hc,hd⟩ | ⟨rfl,hk⟩ | ⟨rfl,S,n,hk⟩
    · obtain ⟨its,_,pl,_⟩:=I.list hq
      refine ⟨pl.isList.typeIs,fun a e=>?_⟩
      cases e
      obtain ⟨o,n,e,c,hd,_⟩:=pl
      exact ⟨o,e,hd⟩
    · refine ⟨⟨o,I.kIn p o hk,hc⟩,fun a e=>?_⟩
      cases e
      exact ⟨o,I.kIn _ o hk,hd⟩
    · have z:∃ o,s.heap.get? p=some o∧o.ExactDict:=by
        rcases hk with ⟨kvs,hk⟩ | ⟨kvs,hk⟩
        · obtain ⟨_,_,_,_,o,_,_,e,ex,_⟩:=I.hok p _ hk
          exact ⟨o,e,ex⟩
        · obtain ⟨_,_,_,_,o,_,_,e,ex,_⟩:=I.hok p _ hk
          exact ⟨o,e,ex⟩
      obtain ⟨o,e,ex⟩:=z
      refine ⟨⟨o,e,ex.1⟩,fun a e2=>?_⟩
      cases e2
      exact ⟨o,e,ex.2.1⟩
    · obtain ⟨o,_,_,_,e,ex,_⟩:=I.hok p _ hk
      refine ⟨⟨o,e,ex.1⟩,fun a e2=>?_⟩
      cases e2
      exact ⟨o,e,ex.2.1⟩
  | _=>exact False.elim ty
def tBM0 (K:PySem.W.Frag) (T:String) (r:V→List V→Hp→VK→Prop) (to:TE):TE:=fun σ H Q=>to σ H fun x H1=>tyV K T x H1∧r x [] H1 Q
def tBM (K:PySem.W.Frag) (T:String) (r:V→List V→Hp→VK→Prop) (to:TE) (t:TA):TE:=fun σ H Q=>to σ H fun x H1=>tyV K T x H1∧t σ H1 fun xs H2=>r x xs H2 Q
variable {o e:Expr} {es:List Expr} {to:TE} {t:TA} {name:Str} {apos cpos:Pos} {T id:String} {r:V→List V→Hp→VK→Prop}
theorem pe_bm0 (pa:PlainAttrs T) (slot:Slot T name id) (hty:typeOf (.builtin id)=pure (.type "method_descriptor")) (hm:MtR X id r) (ho:PE X o to)
    (hbase:attributeBase o name X.env (eval o X.env)=eval o X.env:=by rfl) (hline:(apos.endLine == cpos.line)=true:=by rfl):PE X (.Call (.Attribute o name apos) [] [] cpos) (tBM0 X.K T r to):=by
  intro pins s σ H Q I h
  refine wpAny_Call_method0_late hbase hline (thn (ho pins s σ H _ I h) fun v s1 ⟨x,H1,I1,r1,ty,q1⟩=>?_)
  obtain ⟨h1,h2⟩:=tyV_is I1 r1 ty
  exact ⟨T,id,pa,slot,hty,h1,h2,Calls.callWith_builtin rfl (PySem.evalArgs_none (hm pins s1 σ H1 x [] v [] Q I1 r1 .nil q1))⟩
theorem pe_bm (pa:PlainAttrs T) (slot:Slot T name id) (hty:typeOf (.builtin id)=pure (.type "method_descriptor")) (hm:MtR X id r) (ho:PE X o to) (ha:PA X (e :: es) t)
    (hbase:attributeBase o name X.env (eval o X.env)=eval o X.env:=by rfl)
    (hfew:((backTo cpos (starEach (e :: es) X.env)).all (fun x=>!x.1) && (backToKw cpos (keywordEach [] X.env)).all (fun x=>x.1.isSome)
      && decide ((e :: es).length+([]:List Keyword).length+(if ([]:List Keyword).isEmpty then 0 else 1) < 30))=true:=by rfl)
    (hline:(apos.endLine == cpos.line)=true:=by rfl) (hs:starEach (e :: es) X.env=(false,eval e X.env) :: starEach es X.env:=by rfl) (hplain:(backTo cpos (starEach es X.env)).any (·.1)=false:=by rfl) :
    PE X (.Call (.Attribute o name apos) (e :: es) [] cpos) (tBM X.K T r to t):=by
  intro pins s σ H Q I h
  refine wpAny_Call_method_late hbase hfew hline rfl (thn (ho pins s σ H _ I h) fun v s1 ⟨x,H1,I1,r1,ty,q1⟩=>?_)
  obtain ⟨h1,h2⟩:=tyV_is I1 r1 ty
  refine ⟨T,id,pa,slot,hty,h1,h2,?_⟩
  have hA:=ha cpos pins s1 σ H1 _ I1 q1
  rw [hs] at hA ⊢
  refine Calls.callWith_builtin (by show (false || (backTo cpos (starEach es X.env)).any (·.1))=false; rw [hplain] <;> rfl) (Calls.evalArgs_plain ?_)
  exact thn hA fun us s2 ⟨vs,H2,I2,r2,q2⟩=>hm pins s2 σ H2 x vs v us Q I2 r1 r2 q2
/- xs.append(e),list.index on a module's tuple .. are MtR facts of 06m -/
end
end L2
namespace L2
open PySem PySem.Spec PyProof.Rows
def MtM (X:Cx) (id:String) (r:V→List V→Hp→VK→Prop):Prop :=
  ∀ (pins:List (Addr × Obj)) (s:Shared) (σ:St) (H:Hp) (x:V) (xs:List V) (v:Value) (us:List Value) (Q:VK),Inv X pins σ H s→RelV x v→Vals xs us→r x xs H Q →
    wpAny (model X.prog X.w) X.A (call (.builtin id) (v :: us)) (EP X pins σ Q) X.xe s
theorem Vals.one:∀ {x:V} {us:List Value},Vals [x] us→∃ u,us=[u]∧RelV x u
  | _,_,.cons r .nil=>⟨_,rfl,r⟩
theorem Vals.zero:∀ {us:List Value},Vals [] us→us=[]
  | _,.nil=>rfl
theorem Vals.dropLast {xs:List V} {us:List Value} (h:Vals xs us):Vals xs.dropLast us.dropLast:=by
  induction h with
  | nil=>exact .nil
  | cons r t ih =>
    cases t with
    | nil=>exact .nil
    | cons q t'=>exact .cons r ih
theorem Vals.reverse {xs:List V} {us:List Value} (h:Vals xs us):Vals xs.reverse us.reverse:=by
  induction h with
  | nil=>exact .nil
  | cons r t ih=>rw [List.reverse_cons,List.reverse_cons]; exact Vals.append ih (.cons r .nil)
theorem erase_last {α:Type} (l:List α):l.eraseIdx (l.length - 1)=l.dropLast:=by
  induction l with
  | nil=>rfl
  | cons a r ih =>
    cases r with
    | nil=>rfl
    | cons b r =>
      have e:(a :: b :: r).length - 1=((b :: r).length - 1)+1:=by
        have h1:(a :: b :: r).length=r.length+2:=rfl
        have h2:(b :: r).length=r.length+1:=rfl
        omega
      rw [e,List.eraseIdx_cons_succ,ih]
      all_goals rfl
section
variable {X:Cx} {pins:List (Addr × Obj)} {σ:St} {H:Hp} {s:Shared} {l b:Addr} {xs ys zs:List V}
theorem Inv.lset {its its':List Value} {n:Nat} {f:Array Value→Array Value} {t':Nat} (I:Inv X pins σ H s) (hH:H l=some (.lst xs))
    (e:s.heap.get? l=some { cls:=.type "list",data:=.seq its.toArray n }) (hf:f its.toArray=its'.toArray) (hv:Vals ys its') (hz:ys.length≤sizeLine) :
    Inv X pins σ (upd H l (.lst ys)) { s with heap:=s.heap.update l (Obj.mapSeq f),toks:=t' }:=by
  have q:=PySem.IsL.update e f
  rw [hf] at q
  refine I.write (x:=l) (e:=l) (by rw [hH]; exact trivial) (.inl rfl) (fun b' u hb hu=>(Heap.get?_update_other s.heap (Obj.mapSeq f) (Ne.symm hb)).trans hu) ⟨_,q⟩ ?_
  exact ⟨hz,its',_,hv,q⟩
theorem Inv.lnew {its:List Value} {t':Nat} (I:Inv X pins σ H s) (hv:Vals ys its) (hz:ys.length≤sizeLine) :
    Inv X pins σ (upd H s.heap.objs.size (.lst ys)) { s with heap:=s.heap.push { cls:=.type "list",data:=.seq its.toArray },toks:=t' } :=
  I.laid (fun _ _ q=>Heap.get?_push_of_some _ q) (Nat.le_refl _) ⟨hz,its,0,hv,Heap.get?_push_size _ rfl⟩
theorem Inv.fresh (I:Inv X pins σ H s):H s.heap.objs.size=none:=I.hok.fresh (Nat.le_refl _)
theorem Inv.lstM (I:Inv X pins σ H s) (hH:H l=some (.lst xs)):xs.length≤sizeLine∧∃ (its:List Value) (n:Nat),Vals xs its∧xs.length=its.length∧s.heap.get? l=some { cls:=.type "list",data:=.seq its.toArray n }:=by
  obtain ⟨z,its,n,r,e⟩:=I.hok l _ hH
  exact ⟨z,its,n,r,r.length,e⟩
theorem notLongL {n:Nat} (h:n≤sizeLine):Builtin.List.listTooLong n=false:=by
  unfold Builtin.List.listTooLong
  exact decide_eq_false (by omega)
end
section
variable {X:Cx}
def rAppend:V→List V→Hp→VK→Prop:=fun x vs H Q=>∃ l xs y,x=.ref l∧vs=[y]∧H l=some (.lst xs)∧xs.length < sizeLine∧Q .non (upd H l (.lst (xs++[y])))
theorem mt_append:MtM X "list.append" rAppend:=by
  intro pins s σ H x vs v us Q I rx rv h
  obtain ⟨l,xs,y,rfl,rfl,hH,hz,q⟩:=h
  cases rx
  obtain ⟨u,rfl,ru⟩:=rv.one
  obtain ⟨z,its,n,r,hl,e⟩:=I.lstM hH
  refine call_meets F.slot_list_append ⟨_,e,rfl⟩ F.entry_list_append (F.args_list_append_2 _ _) (PySem.list_append l its.toArray n u (by rw [List.size_toArray]; omega)) ⟨e,?_⟩
  refine ⟨.non,_,I.lset (its':=its++[u]) hH e (by simp) (r.append (.cons ru .nil)) ?_,rfl,q⟩
  rw [List.length_append,List.length_singleton]
  omega
def rExtend:V→List V→Hp→VK→Prop:=fun x vs H Q=>∃ l b xs zs,x=.ref l∧vs=[.ref b]∧H l=some (.lst xs)∧H b=some (.lst zs)∧xs.length+zs.length≤sizeLine∧Q .non (upd H l (.lst (xs++zs)))
theorem mt_extend:MtM X "list.extend" rExtend:=by
  intro pins s σ H x vs v us Q I rx rv h
  obtain ⟨l,b,xs,zs,rfl,rfl,hH,hB,hz,q⟩:=h
  cases rx
  obtain ⟨u,rfl,ru⟩:=rv.one
  cases ru
  obtain ⟨z,its,n,r,hl,e⟩:=I.lstM hH
  obtain ⟨z2,its2,n2,r2,hl2,e2⟩:=I.lstM hB
  have hsz:its.toArray.size+its2.toArray.size≤sizeLine:=by rw [List.size_toArray,List.size_toArray]; omega
  have hlong:¬ (!its.toArray.isEmpty && Builtin.List.listTooLong (its.toArray.size+its2.toArray.size))=true:=by
    rw [notLongL hsz,Bool.and_false]
    exact Bool.false_ne_true
  refine call_meets F.slot_list_extend ⟨_,e,rfl⟩ F.entry_list_extend (F.args_list_extend_2 _ _)
    (AutoSeq1.list_extend_list_list_0 l its.toArray n b its2.toArray n2 hlong (by rw [List.size_toArray]; omega) (by omega)) ⟨e,e2,?_⟩
  refine ⟨.non,_,I.lset (its':=its++its2) hH e (by simp) (r.append r2) ?_,rfl,q⟩
  rw [List.length_append]
  omega
def rPop:V→List V→Hp→VK→Prop:=fun x vs H Q=>∃ l xs y,x=.ref l∧vs=[]∧H l=some (.lst xs)∧xs[xs.length - 1]?=some y∧Q y (upd H l (.lst xs.dropLast))
theorem mt_pop:MtM X "list.pop" rPop:=by
  intro pins s σ H x vs v us Q I rx rv h
  obtain ⟨l,xs,y,rfl,rfl,hH,hy,q⟩:=h
  cases rx
  have hus:=rv.zero
  subst hus
  obtain ⟨z,its,n,r,hl,e⟩:=I.lstM hH
  obtain ⟨u,hu,ru⟩:=r.get hy
  have hy':its.toArray[its.toArray.size - 1]?=some u:=by
    show its.toArray[its.length - 1]?=some u
    rw [← Array.getElem?_toList,← hl]
    exact hu
  refine call_meets F.slot_list_pop ⟨_,e,rfl⟩ F.entry_list_pop (F.args_list_pop_1 _) (MeetsSeq.list_pop_last l its.toArray n u hy' (by rw [List.size_toArray]; omega)) ⟨e,?_⟩
  refine ⟨y,_,I.lset (its':=its.dropLast) hH e ?_ r.dropLast ?_,ru,q⟩
  · show its.toArray.eraseIdxIfInBounds (its.toArray.size - 1)=its.dropLast.toArray
    rw [List.size_toArray,List.eraseIdxIfInBounds_toArray,erase_last]
  · rw [List.length_dropLast]
    omega
def rCat:R2:=fun x y H Q=>∃ l b xs zs,x=.ref l∧y=.ref b∧H l=some (.lst xs)∧H b=some (.lst zs)∧xs.length+zs.length≤sizeLine∧∀ p,H p=none→Q (.ref p) (upd H p (.lst (xs++zs)))
theorem op_cat:OpR X (binaryOp .Add) rCat:=by
  intro pins s σ H x y v u Q I rx ry h
  obtain ⟨l,b,xs,zs,rfl,rfl,hH,hB,hz,q⟩:=h
  cases rx
  cases ry
  obtain ⟨z,its,n,r,hl,e⟩:=I.lstM hH
  obtain ⟨z2,its2,n2,r2,hl2,e2⟩:=I.lstM hB
  refine PySem.P.add_list e e2 ?_ (by rw [List.size_toArray,List.size_toArray]; omega)
  have ea:its.toArray++its2.toArray=(its++its2).toArray:=by simp
  rw [ea]
  exact ⟨.ref _,_,I.lnew (t':=s.toks) (r.append r2) (by rw [List.length_append]; omega),rfl,q _ I.fresh⟩
end
section
variable {prog:Program} {w:World} {A:Around} {E:Value→Shared→Prop} {s:Shared}
end
section
variable {X:Cx}
end
end L2
namespace Att
open PySem PySem.W PySem.Calls PyProof.Rows
theorem ints_of_wellAll {P:Params} {h:Heap}:∀ (ns:List Int) (vs:List Value),WellAll P h vs (ns.map WData.int)→IntsAre vs ns:=by
  intro ns
  induction ns with
  | nil =>
    intro vs w
    rw [List.map_nil] at w
    cases w
    exact .nil
  | cons n ns ih =>
    intro vs w
    rw [List.map_cons] at w
    cases w with
    | cons a b =>
      cases a
      exact .cons _ _ (ih _ b)
theorem script_of {l:OpenLaw} {n:Nat} (hn:l.most=some n) {P:Params} {h:Heap} {args:List WData} {vals:List Value}
    (hpre:l.row.toRowW.claim.pre args=true) (hwl:WellAll P h vals args) :
    ∃ a vs ns,vals=[Value.ref a]∧args=[WData.list (ns.map WData.int)]∧h.get? a=some { cls:=.type "list",data:=.seq vs.toArray }∧IntsAre vs ns∧ns.length≤n:=by
  have hsh:WShape.hasAll [] args [.list .int]=true:=(pre_splitW hpre).1
  have hc:l.pre.holds [] { args:=args }=true:=(pre_splitW hpre).2
  obtain ⟨d,r,rfl,h1,h2⟩:=hasAllW_cons hsh
  obtain rfl:=hasAllW_nil h2
  obtain ⟨xs,rfl,h3⟩:=hasW_list h1
  obtain ⟨ns,rfl⟩:=items_int h3
  have hlen:ns.length≤n:=by
    unfold OpenLaw.pre at hc
    have h4:(WTm.not (.lt (.lit (.int (n:Int))) (.len (.arg 0)))).holds [] { args:=[.list (ns.map .int)] }=true:=by
      have h4:=(holds_andW hc).1
      rw [hn] at h4
      exact h4
    have h5:=condW_of h4 (w_not (w_lt w_lit (w_len_list (w_arg rfl))))
    rw [List.length_map] at h5
    refine Nat.le_of_not_lt fun q=>?_
    have q':(n:Int) < ((ns.length:Nat):Int):=by omega
    first
      | (rw [decide_eq_true q'] at h5; exact absurd h5 (by decide))
      | (simp at h5; omega)
  cases hwl with
  | cons w1 w2 =>
    cases w2
    cases w1 with
    | list ho hall=>exact ⟨_,_,ns,rfl,rfl,ho,ints_of_wellAll ns _ hall,hlen⟩
theorem post_true (l:OpenLaw) (args:List WData):l.row.toRowW.claim.post args (.bool true) args=true :=
  postW_of (r:=l.row.toRowW) (X:=(true == true))
    (show WShape.has [] (.bool true) .bool=true by first | rfl | decide | simp [WShape.has,WShape.arms,WShape.armsAll])
    (show (WTm.eq .res (.lit (.bool true))).value [] { args:=args,res:=some (.bool true),after:=args }=some (.bool (true == true)) from w_eq_bool (w_res rfl) w_lit) rfl
theorem attach_call {l:OpenLaw} {n:Nat} {q:Program} {loose:List Str} {XP:(Str→Option Value)→Heap→Prop} {YP:World→Heap→Prop} {d:DefRec}
    (hn:l.most=some n) (hdf:d.params.defaults=[])
    (call:∀ (w:World) (s₀ s₁:Shared) (mg mb:Str→Option Value) (fa:Addr) (o:Obj) (pm cd doc:Value) (a:Addr) (vs:List Value) (ns:List Int),
      Ground q loose [] XP w s₀ mg mb s₁.heap→YP w s₁.heap →
      s₁.heap.get? fa=some o→o.data=.func (docDef d.name d.params d.body d.scope pm cd doc)→s₁.heap.CodeRec cd d.name→mg d.name=some (.ref fa) →
      s₁.heap.get? a=some { cls:=.type "list",data:=.seq vs.toArray }→IntsAre vs ns→ns.length≤n→s₁.gens=#[] →
      codeAny (model l.prog w) callerA (.call (.ref fa) ⟨[.ref a],[]⟩) (fun r s'=>r=.ok (.ret (.bool true))∧OldK s₁.heap s'.heap∧s'.os=s₁.os∧AllBare s'.gens) s₁) :
    WalkO q loose XP YP l.row.toRowW d [] (fun f vs=>PySem.call f vs):=by
  intro w s₀ s₁ mg mb G Y fa o pm cd doc dV kV ho hd hcd hD hmg hg args vals as hpre hlay hrd hwl hlo
  obtain rfl:dV=.none:=Dflts.none hD hdf
  obtain rfl:kV=.none:=Dflts.noKw hD
  obtain ⟨a,vs,ns,rfl,rfl,hobj,hints,hlen⟩:=script_of hn hpre hwl
  refine enter_call (codeAny_mono (call w s₀ s₁ mg mb fa o pm cd doc a vs ns G Y ho (fd_plain hd) hcd hmg hobj hints hlen hg) fun r s' hq=>?_)
  obtain ⟨rfl,h2,h3,h4⟩:=hq
  exact ⟨.inl ⟨.bool true,.bool true,[],rfl,fun _=>rfl,.bool true,post_true l _,fun _=>⟨List.Pairwise.nil,fun _ hm=>(nomatch hm)⟩⟩,h2,h3,h4⟩
section
variable {prog:Program} {w:World} {A:Around} {E:Value→Shared→Prop} {s:Shared} {K:Frag}
end
end Att
namespace L2
open PySem PySem.Spec PyProof.Rows
theorem vals_ints:∀ {vs:List Value} {ns:List Int},IntsAre vs ns→Vals (ns.map V.int) vs
  | _,_,.nil=>.nil
  | _,_,.cons n t h=>.cons ⟨t,rfl⟩ (vals_ints h)
def Only (H:Hp):Prop:=∀ b,H b=none∨∃ o xs,H b=some (.frz o (.lst xs))
theorem law_call {P:Program} {w:World} {K:PySem.W.Frag} {mg mb:Str→Option Value} {CX:CXT} {k:Nat} {fa a:Addr} {fd:FuncData} {x:Str} {sp:Sp} {s₁:Shared} {vs:List Value} {ns:List Int}
    (KX:K.In s₁.heap) (hns:s₁.heap.Ns mainGlobals mg) (hb:s₁.heap.Ns builtinsNs mb) (hbb:∀ x:Str,x≠"__name__"→mb x=bootBuiltins x) (hlim:s₁.heap.NoLimit) (hg:s₁.gens=#[])
    (ha:s₁.heap.get? a=some { cls:=.type "list",data:=.seq vs.toArray }) (hi:IntsAre vs ns) (hl:ns.length≤sizeLine) (hr:Room k callerA)
    (F:∀ base:Heap,K.In base→base.Ns mainGlobals mg→FnOk P w K mg base CX k fa fd [x] sp) (hbind:∀ (s:Shared) (u:Value),BindsTo s fd ⟨[u],[]⟩ [(x,u)])
    (hsp:∀ H:Hp,Only H→SqL K H a (ns.map V.int)→sp [.ref a] H (fun v _=>v=.bl true) fun _ _ _=>False)
    (hCX:∀ H e s',CX [] H s₁ (fun _ _ _=>False) e s'→False) :
    codeAny (model P w) callerA (.call (.ref fa) ⟨[.ref a],[]⟩) (fun r s'=>r=.ok (.ret (.bool true))∧OldK s₁.heap s'.heap∧s'.os=s₁.os∧AllBare s'.gens) s₁:=by
  have rv:=vals_ints hi
  have lenV:=hi.length
  have core:∀ H:Hp,Only H→SqL K H a (ns.map V.int)→HOk P w H s₁.heap→(∀ b,H b≠none→b=a)→(H a≠none→K.lookup a=none) →
      codeAny (model P w) callerA (.call (.ref fa) ⟨[.ref a],[]⟩) (fun r s'=>r=.ok (.ret (.bool true))∧OldK s₁.heap s'.heap∧s'.os=s₁.os∧AllBare s'.gens) s₁:=by
    intro H hO hS hok hA hK
    have base_of:∀ {b:Addr} {o:Obj},s₁.heap.get? b=some o→H b=none→(hidT s₁.heap H).get? b=some o:=fun e n=>hidT_get e n
    have noA:∀ {b:Addr} {o:Obj} {es:Array DictEntry} {ep:Nat},s₁.heap.get? b=some o→o.data=.dict es ep→H b=none:=fun {b o es ep} e d=>by
      cases q:H b with
      | none=>rfl
      | some u =>
        have e':b=a:=hA b (by rw [q]; simp)
        subst e'
        rw [ha] at e; cases e
        have d':Data.seq vs.toArray _=Data.dict es ep:=d
        cases d'
    have nsK:∀ {b:Addr} {m:Str→Option Value},s₁.heap.Ns b m→(hidT s₁.heap H).Ns b m:=fun {b m} ⟨o,es,ep,e,d,r⟩=>⟨o,es,ep,base_of e (noA e d),d,r⟩
    have hKb:K.In (hidT s₁.heap H):=fun b o e=>base_of (KX b o e) (by
      cases q:H b with
      | none=>rfl
      | some u =>
        have e':b=a:=hA b (by rw [q]; simp)
        subst e'
        rw [hK (by rw [q]; simp)] at e; cases e)
    have hM:Mod K mg (hidT s₁.heap H):=⟨hKb,nsK hns,⟨mb,nsK hb,hbb⟩,let ⟨mc,h1,h2⟩:=hlim; ⟨mc,nsK h1,h2⟩⟩
    have e0:Env0 P w K mg (hidT s₁.heap H) callerA [] s₁ H:=⟨rfl,hM,fun b o e=>of_hidT e,Nat.le_of_eq (hidT_size _ _),trivial,fun b hb=>absurd (show b∈([]:List Addr) from hb) (by simp),hok,.of_eq hg⟩
    refine codeAny_mono ((F _ hKb (nsK hns)).run callerA [] s₁ H ⟨[.ref a],[]⟩ [.ref a] [.ref a] _ _ hr e0 (hbind s₁ (.ref a)) (.cons rfl .nil) (hsp H hO hS)) fun r s' h=>?_
    cases r with
    | error e=>exact (hCX H e s' h).elim
    | ok fl =>
      cases fl with
      | next=>exact False.elim h
      | brk=>exact False.elim h
      | cont=>exact False.elim h
      | ret u =>
        obtain ⟨v,H',os,bare,un,hok',r',q⟩:=h
        have q':v=.bl true:=q
        subst q'
        obtain rfl:u=Value.bool true:=r'
        refine ⟨rfl,OldK.of_keep fun b o e=>?_,os,bare⟩
        cases q:H b with
        | none=>exact un.keep b o e q (by intro z; exact absurd (show b∈([]:List Addr) from z) (by simp)) (by simp)
        | some u =>
          rcases hO b with z | ⟨ob,xs,z⟩
          · rw [q] at z; cases z
          · have z2:=un.frzs b ob _ z
            obtain ⟨e1,_⟩:=hok b _ z
            obtain ⟨e2,_⟩:=hok' b _ z2
            rw [e] at e1; cases e1
            exact e2
  cases hk:K.lookup a with
  | some o =>
    have e:=KX a o hk
    rw [ha] at e
    cases e
    refine core (fun _=>none) (fun _=>.inl rfl) (.inr ⟨_,vs.toArray,_,hk,rfl,rfl,rfl,by rw [List.size_toArray,lenV]; exact hl,by simpa using rv⟩) (fun b u z=>by have z':(none:Option HO)=some u:=z; cases z') (fun b z=>absurd rfl z) fun z=>absurd rfl z
  | none =>
    refine core (fun b=>if b=a then some (.frz { cls:=.type "list",data:=.seq vs.toArray } (.lst (ns.map V.int))) else none) (fun b=>?_) (.inl (.inr ⟨{ cls:=.type "list",data:=.seq vs.toArray },if_pos rfl⟩)) (fun b u z=>?_) (fun b z=>?_) fun _=>hk
    · by_cases hb:b=a
      · exact .inr ⟨_,_,if_pos hb⟩
      · exact .inl (if_neg hb)
    · by_cases hb:b=a
      · have z':=(if_pos hb).symm.trans z
        cases z'
        subst hb
        exact ⟨ha,by rw [List.length_map]; exact hl,vs,_,rv,ha⟩
      · have z':=(if_neg hb).symm.trans z
        cases z'
    · by_cases hb:b=a
      · exact hb
      · exact absurd (if_neg hb) z
end L2
namespace L2
open PySem PySem.Spec PyProof.Rows
abbrev KOf {K:PySem.W.Frag} {h:Heap} (_:K.In h):PySem.W.Frag:=K
theorem walk_of {l:PySem.W.OpenLaw} {n k:Nat} {q:Program} {loose:List Str} {XP:(Str→Option Value)→Heap→Prop} {YP:World→Heap→Prop} {d:DefRec} {K:Params→PySem.W.Frag} {CX:World→CXT} {sp:World→Sp} {x:Str}
    (hn:l.most=some n) (hn2:n≤sizeLine) (hdf:d.params.defaults=[]) (hr:Room k callerA)
    (hY:∀ (w:World) (h:Heap),YP w h→(K w.params).In h)
    (F:∀ (w:World) (mg:Str→Option Value) (fa:Addr) (h:Heap),(K w.params).In h→h.Ns mainGlobals mg→mg d.name=some (.ref fa) →
      ∃ fd:FuncData,(∀ (s:Shared) (u:Value),BindsTo s fd ⟨[u],[]⟩ [(x,u)]) ∧
        ∀ base:Heap,(K w.params).In base→base.Ns mainGlobals mg→FnOk l.prog w (K w.params) mg base (CX w) k fa fd [x] (sp w))
    (hsp:∀ (w:World) (H:Hp) (a:Addr) (ns:List Int),ns.length≤n→Only H→SqL (K w.params) H a (ns.map V.int)→sp w [.ref a] H (fun v _=>v=.bl true) fun _ _ _=>False)
    (hCX:∀ (w:World) (H:Hp) (s:Shared) (e:Value) (s':Shared),CX w [] H s (fun _ _ _=>False) e s'→False) :
    PySem.W.WalkO q loose XP YP l.row.toRowW d [] (fun f vs=>PySem.call f vs):=by
  refine Att.attach_call hn hdf fun w s₀ s₁ mg mb fa o pm cd doc a vs ns G Y ho hd hcd hmg hobj hints hlen hg=>?_
  have KX:=hY w _ Y
  obtain ⟨fd,hb,hF⟩:=F w mg fa _ KX G.T.g hmg
  exact law_call KX G.T.g G.T.b G.T.builtins G.T.nolimit hg hobj hints (Nat.le_trans hlen hn2) hr hF hb (fun H hO hS=>hsp w H a ns hlen hO hS) fun H e s'=>hCX w H s₁ e s'
end L2
/- THE LAST THEOREM (shape; LID,My.* are yours):
   My.Adr: a structure of the addresses that your layer names (classes,functions); My.Txt K t: a structure (Prop) of the equations over K;
   My.txt_mk:{K} {implicit addresses ..} (e1:nsIn K mainGlobals "law"=some (some (.ref f))) (e2:K.lookup f=some ⟨oc,od,.func (fnOf "law" "law" params body scope dV kV doc pm an cdv ct),sl⟩) (e3:codeIn K cdv "law"=true) ..:∃ t,My.Txt K t
set_option maxRecDepth 100000 in
set_option maxHeartbeats 0 in
theorem PySem.Challenge.cw_LID_holds:PySem.Challenge.rw_LID.Holds:=by
  w_on; o_law; k_head; (case hw=>w_witness2)
  k_fill
  refine L2.walk_of (l:=PySem.Challenge.rw_LID) (n:=63) (k:=40) (x:="script") (CX:=fun w=>..) (sp:=fun _=>My.sp_law) rfl (by decide) rfl ⟨rfl,by decide,by decide⟩ (fun w h Y=>PySem.W.kIn_of Y) ?F ?S ?C
  case F =>
    intro w mg fa h KX G hmg
    have T:∃ t,My.Txt (L2.KOf KX) t:=by
      dsimp only [L2.KOf]                          -- K must stand as «<heap const> w.params» for k_is
      refine' My.txt_mk ?e1 ?e2 ?e3 ..
      (case e1=>PySem.W.k_is)                    -- in the order: a name -> its address -> its object -> its parts
      (case e2=>PySem.W.k_is)
      ..
    obtain ⟨t,T⟩:=T
    have e0:=hmg.symm.trans (PySem.W.mg_of KX G T.law)
    cases e0                                       -- fa is the law's own address
    exact ⟨_,fun s u=>.of_eq rfl,fun base kb nb=>My.law_fn T kb nb⟩     -- if «.of_eq rfl» comes too early: refine' ⟨_,?b,fun base kb nb=>My.law_fn T kb nb⟩; exact fun s u=>.of_eq rfl
  case S=>exact fun w H a ns hl hO hS=>..
  case C=>exact ..
(the tactic k_is has no namespace: write k_is) -/
namespace L2
open PySem PySem.Spec PyProof.Rows
def inClass (s:Stmt) (j:Nat):Stmt:=match s with
  | .ClassDef _ _ _ body _ _ _ _ _ _ _=>body.getD j (.Pass ⟨0,0,0,0⟩)
  | _=>.Pass ⟨0,0,0,0⟩
def defArgs (s:Stmt):Arguments:=match s with
  | .FunctionDef _ a _ _ _ _ _ _ _ _=>a
  | _=>{ posonlyargs:=[],args:=[],vararg:=none,kwonlyargs:=[],kw_defaults:=[],kwarg:=none,defaults:=[] }
def defBody (s:Stmt):List Stmt:=match s with
  | .FunctionDef _ _ b _ _ _ _ _ _ _=>b
  | _=>[]
def defScope (s:Stmt):Scope:=match s with
  | .FunctionDef _ _ _ _ _ _ sc _ _ _=>sc
  | _=>{ kind:=.function,names:=[],isGenerator:=false,isCoroutine:=false }
abbrev CX0:CXT:=fun _ _ _ _ _ _=>False
abbrev E0:XK:=fun _ _ _=>False
theorem pass0 {X:Cx}:Passes CX0 X E0:=fun _ _ _ _ _ _ _ h=>h.elim
structure Fun (K:PySem.W.Frag) (x qual:Str) (st:Stmt) (f:Addr) (fd:FuncData):Prop where
  ex:∃ (oc:Value) (od:Option Addr) (kV doc pm:Value) (an:Option Addr) (cdv ct:Value) (osl:Array (Option Value)),
    fd=PySem.W.fnOf x qual (defArgs st) (defBody st) (defScope st) .none kV doc pm an cdv ct∧K.lookup f=some ⟨oc,od,.func fd,osl⟩∧PySem.W.codeIn K cdv qual=true
  kp:PySem.W.keepIn K (.ref f)=true
section
variable {P:Program} {w:World} {K:PySem.W.Frag} {mg:Str→Option Value} {base:Heap}
theorem Fun.ok {x qual:Str} {st:Stmt} {f:Addr} {fd:FuncData} {N ps:List Str} {k:Nat} {sp:Sp} (F:Fun K x qual st f fd) (S:FnScope N ps (defScope st)) (len:∀ vs H Q E,sp vs H Q E→vs.length=ps.length)
    (hbody:∀ (cdv:Value) (A:Around) (outer:List Env) (s:Shared) (H:Hp) (vs:List V) (Q:VK) (E:XK),Room k (A.deeper (envOfC qual (defScope st) s.heap.objs.size f cdv))→sp vs H Q E →
      ∃ t,PSs (cxOf CX0 P w K mg base N qual (defScope st) f cdv A outer s H E).nox (defBody st) t∧t { nx:=fun _ H'=>Q .non H',rt:=Q } (start N vs) H):FnOk P w K mg base CX0 (k+1) f fd ps sp:=by
  obtain ⟨oc,od,kV,doc,pm,an,cdv,ct,osl,rfl,lk,hcd⟩:=F.ex
  refine fn_of lk hcd S len fun A outer s H vs Q E hr hsp=>?_
  obtain ⟨t,h,q⟩:=hbody cdv A outer s H vs Q E hr hsp
  exact ⟨t,h.nox,q⟩
theorem Fun.binds {x qual:Str} {st:Stmt} {f:Addr} {fd:FuncData} {ps:List Str} (F:Fun K x qual st f fd)
    (h:∀ (kV doc pm:Value) (an:Option Addr) (cdv ct:Value) (us:List Value),us.length=ps.length→bindArgs (PySem.W.fnOf x qual (defArgs st) (defBody st) (defScope st) .none kV doc pm an cdv ct) ⟨us,[]⟩=pure (ps.zip us)):Binds K fd ps []:=by
  obtain ⟨oc,od,kV,doc,pm,an,cdv,ct,osl,rfl,lk,hcd⟩:=F.ex
  exact .all (h kV doc pm an cdv ct)
theorem fun_mk {x qual:Str} {st:Stmt} {f:Addr} {oc:Value} {od an:Option Addr} {osl:Array (Option Value)} {kV doc pm cdv ct:Value} (l:K.lookup f=some ⟨oc,od,.func (PySem.W.fnOf x qual (defArgs st) (defBody st) (defScope st) .none kV doc pm an cdv ct),osl⟩)
    (c:PySem.W.codeIn K cdv qual=true) (k:PySem.W.keepIn K (.ref f)=true):Fun K x qual st f (PySem.W.fnOf x qual (defArgs st) (defBody st) (defScope st) .none kV doc pm an cdv ct):=⟨⟨oc,od,kV,doc,pm,an,cdv,ct,osl,rfl,l,c⟩,k⟩
end
theorem hu_of {A:Around} {k:Nat} (hr:Room k A):A.units+1 < cLine:=Nat.lt_of_le_of_lt (Nat.add_le_add_left (by decide:1≤64) _) hr.units
theorem small1000 {n:Nat} (h:n≤1000):n < sizeLine:=Nat.lt_of_le_of_lt h (by decide)
section
variable {X:Cx}
theorem pv (i:Nat) {x:Str} {pos:Pos} (hN:X.N[i]?=some x:=by rfl) (hv:Vis X.env.scope x:=by first | exact Or.inl rfl | exact Or.inr (Or.inl rfl) | exact Or.inr (Or.inr rfl)) (hd:(x == ("__debug__":Str))=false:=by decide)
    (hcd:(x == ("__classdict__":Str))=false:=by decide):PE X (.Name x pos) (tVar i):=pe_var hN hv hd hcd
end
theorem iteF {A B:Prop} (h:B):if false=true then A else B:=by
  rw [if_neg Bool.false_ne_true]
  exact h
theorem iteT {A B:Prop} (h:A):if true=true then A else B:=by
  rw [if_pos rfl]
  exact h
def Same (H H':Hp):Prop:=∀ b o,H b=some o→H' b=some o
theorem Same.refl (H:Hp):Same H H:=fun _ _ h=>h
theorem Same.trans {H H1 H2:Hp} (a:Same H H1) (b:Same H1 H2):Same H H2:=fun c o h=>b c o (a c o h)
theorem Same.seq {K:PySem.W.Frag} {H H':Hp} {a:Addr} {xs:List V} (e:Same H H') (h:SqL K H a xs):SqL K H' a xs:=by
  rcases h with (h | ⟨o,h⟩) | h
  · exact .inl (.inl (e _ _ h))
  · exact .inl (.inr ⟨o,e _ _ h⟩)
  · exact .inr h
end L2
set_option maxHeartbeats 4000000
namespace L2
open PySem PySem.W PyProof.Rows
def lookO {α β:Type} (oS:Program→List Str→List Str→(Shared→Bool)→Bool→Shared→α) (ms:List Str) (p q:Program) (lo:List Str) (Xt:Shared→Bool) (Yf:Shared→β) (h0:Heap) (s:Shared):Bool × α × β :=
  ((((staticsOk ms h0 s.heap && namesBound p s.heap) && gensDone s) && laidKept h0 s.heap),oS q lo ms Xt true s,Yf s)
noncomputable abbrev atBoot (P:Params) (os:OsState):Shared:=Shared.mk (boot_heap P) (Array.mk []) boot_drawn boot_toks os
theorem left_once {p q:Program} {lo:List Str} {Xt:Shared→Bool} {β:Type} {Yf:Shared→β} {Ya:World→β} {N m:Nat} {an:Option Value}
    (bo:∀ w:World,Option.map (fun s=>(s.heap,s.gens,s.drawn,s.toks)) (fencedOpening treeTable p w N)=some (boot_heap w.params,Array.mk [],boot_drawn,boot_toks))
    (sz:∀ w:World,((boot_heap w.params).isNs mainGlobals,(boot_heap w.params).objs.size,(boot_heap w.params).nsMap mainGlobals "__annotations__")=(true,m,an))
    (rn:∀ (w:World) (os:OsState),Option.map (lookO openSeen (importedModules p.main.body) p q lo Xt Yf (boot_heap w.params)) (topRun treeTable p w m an N (atBoot w.params os) (topStub p))=some (true,openGood q lo,Ya w)) :
    LeftO p q lo Xt Yf Ya N:=by
  intro w
  obtain ⟨s0,e0,e1⟩:=Option.map_eq_some_iff.mp (bo w)
  obtain ⟨hp,gs,dr,tk,os⟩:=s0
  simp only [Prod.mk.injEq] at e1
  obtain ⟨rfl,rfl,rfl,rfl⟩:=e1
  have z:=sz w
  simp only [Prod.mk.injEq] at z
  obtain ⟨z1,z2,z3⟩:=z
  obtain ⟨s1,r1,r2⟩:=Option.map_eq_some_iff.mp (rn w os)
  unfold lookO at r2
  simp only [Prod.mk.injEq] at r2
  obtain ⟨l1,l2,l3⟩:=r2
  have tf:topFrom treeTable p w N (atBoot w.params os)=some s1:=by
    unfold topFrom
    dsimp only
    rw [z1,z2,z3]
    show Option.bind (topRun treeTable p w m an N (atBoot w.params os) (topStub p)) _=_
    rw [r1]
    show (match (((staticsOk (importedModules p.main.body) (boot_heap w.params) s1.heap && namesBound p s1.heap) && gensDone s1) && laidKept (boot_heap w.params) s1.heap) with | true=>some s1 | false=>none)=_
    rw [l1]
  unfold openEnds
  rw [e0]
  show Option.map _ (topFrom treeTable p w N (atBoot w.params os))=_
  rw [tf]
  exact congrArg some (Prod.ext l2 l3)
def treeAt:List Obj→Nat→BT→BT
  | [],_,t=>t
  | o :: r,i,t=>treeAt r (i+1) (t.ins i o)
def topRunT (ok:Thread→Bool) (stp:SharedT→Thread→Option (SharedT × Thread)):Nat→SharedT→Thread→Option SharedT
  | 0,_,_=>none
  | n+1,s,t=>match through t with
    | true=>some s
    | false=>match ok t with
      | false=>none
      | true=>match stp s t with
        | some (s1,t1)=>topRunT ok stp n s1 t1
        | none=>none
theorem topRunT_of {tb:String→Option Builtin} {p:Program} {w:World} {m:Nat} {an:Option Value}:∀ {n:Nat} {s s1:SharedT} {t:Thread},topRunT (stepOk m an) (stepT (denote tb) p w) n s t=some s1→topRun tb p w m an n s.abs t=some s1.abs
  | 0,_,_,_,h=>by cases h
  | n+1,s,s1,t,h=>by
    rw [topRunT] at h
    rw [topRun]
    cases ht:through t with
    | true=>rw [ht] at h; cases h; rfl
    | false =>
      rw [ht] at h
      cases hk:stepOk m an t with
      | false=>rw [hk] at h; cases h
      | true =>
        rw [hk] at h
        cases hs:stepT (denote tb) p w s t with
        | none=>rw [hs] at h; cases h
        | some r =>
          obtain ⟨s2,t2⟩:=r
          rw [hs] at h
          rw [stepT_spec hs]
          exact topRunT_of h
noncomputable def bootT (P:Params):BT:=treeAt (boot_heap P).objs.toList 0 .nil
noncomputable def atBootT (P:Params) (os:OsState):SharedT:=SharedT.mk (bootT P) 11 (boot_heap P).life (Array.mk []) boot_drawn boot_toks os
theorem bootT_is (P:Params) (os:OsState):(atBootT P os).abs=atBoot P os:=by kernel_rfl
theorem ran_of {p q:Program} {lo ms:List Str} {Xt:Shared→Bool} {α β:Type} {Yf:Shared→β} {N m:Nat} {an:Option Value} {w:World} {os:OsState} {r:Bool × α × β} {oS:Program→List Str→List Str→(Shared→Bool)→Bool→Shared→α}
    (h:Option.map (fun s=>lookO oS ms p q lo Xt Yf (boot_heap w.params) (SharedT.abs s)) (topRunT (stepOk m an) (stepT (denote treeTable) p w) N (atBootT w.params os) (topStub p))=some r) :
    Option.map (lookO oS ms p q lo Xt Yf (boot_heap w.params)) (topRun treeTable p w m an N (atBoot w.params os) (topStub p))=some r:=by
  obtain ⟨s,e,z⟩:=Option.map_eq_some_iff.mp h
  have e:=topRunT_of e
  rw [bootT_is] at e
  rw [e]
  exact congrArg some z
end L2
namespace L2
open PySem PySem.W PyProof.Rows
theorem look3 {σ α β:Type} {r:Option σ} {f:σ→Bool} {g:σ→α} {k:σ→β} {a:α} {b:β} (h1:r.map f=some true) (h2:r.map g=some a) (h3:r.map k=some b):r.map (fun s=>(f s,g s,k s))=some (true,a,b):=by
  cases r with
  | none=>cases h1
  | some s =>
    have e1:=Option.some.inj h1
    have e2:=Option.some.inj h2
    have e3:=Option.some.inj h3
    exact congrArg some (Prod.ext e1 (Prod.ext e2 e3))
def lookA (ms:List Str) (p:Program) (h0:Heap) (s:Shared):Bool:=(((staticsOk ms h0 s.heap && namesBound p s.heap) && gensDone s) && laidKept h0 s.heap)
def RunA (N m:Nat) (an:Option Value) {p p':Program} {sT:(Code→Sem Fin)→Program→World→SharedT→Thread→Option (SharedT × Thread)} {dn:(String→Option Builtin)→Code→Sem Fin} {tT:String→Option Builtin} {iM:List Stmt→List Str} {oS:∀ (q:Program) (lo ms:List Str) (Xt:Shared→Bool) (g0:Bool) (s:Shared),_} (h1:@stepT=sT) (h0:@denote=dn) (h2:treeTable=tT) (h3:@importedModules=iM) (h4:@openSeen=oS) (h5:p=p'):Prop:=∀ (w:World) (os:OsState),Option.map (fun s=>lookA (iM p'.main.body) p' (boot_heap w.params) (SharedT.abs s)) (topRunT (stepOk m an) (sT (dn tT) p' w) N (atBootT w.params os) (topStub p'))=some true
def RunB (N m:Nat) (an:Option Value) (q:Program→Program) (lo:List Str) (Xt:Program→Shared→Bool) {p p':Program} {sT:(Code→Sem Fin)→Program→World→SharedT→Thread→Option (SharedT × Thread)} {dn:(String→Option Builtin)→Code→Sem Fin} {tT:String→Option Builtin} {iM:List Stmt→List Str} {oS:∀ (q:Program) (lo ms:List Str) (Xt:Shared→Bool) (g0:Bool) (s:Shared),_} (h1:@stepT=sT) (h0:@denote=dn) (h2:treeTable=tT) (h3:@importedModules=iM) (h4:@openSeen=oS) (h5:p=p'):Prop:=∀ (w:World) (os:OsState),Option.map (fun s=>oS (q p') lo (iM p'.main.body) (Xt p') true (SharedT.abs s)) (topRunT (stepOk m an) (sT (dn tT) p' w) N (atBootT w.params os) (topStub p'))=some (openGood (q p') lo)
def RunC (N m:Nat) (an:Option Value) {β:Type} (Yf:Shared→β) (Ya:World→β) {p p':Program} {sT:(Code→Sem Fin)→Program→World→SharedT→Thread→Option (SharedT × Thread)} {dn:(String→Option Builtin)→Code→Sem Fin} {tT:String→Option Builtin} {iM:List Stmt→List Str} {oS:∀ (q:Program) (lo ms:List Str) (Xt:Shared→Bool) (g0:Bool) (s:Shared),_} (h1:@stepT=sT) (h0:@denote=dn) (h2:treeTable=tT) (h3:@importedModules=iM) (h4:@openSeen=oS) (h5:p=p'):Prop:=∀ (w:World) (os:OsState),Option.map (fun s=>Yf (SharedT.abs s)) (topRunT (stepOk m an) (sT (dn tT) p' w) N (atBootT w.params os) (topStub p'))=some (Ya w)
theorem run_by3 {q:Program→Program} {lo:List Str} {Xt:Program→Shared→Bool} {β:Type} {Yf:Shared→β} {Ya:World→β} {N m:Nat} {an:Option Value} {p p':Program} {sT:(Code→Sem Fin)→Program→World→SharedT→Thread→Option (SharedT × Thread)} {dn:(String→Option Builtin)→Code→Sem Fin} {tT:String→Option Builtin} {iM:List Stmt→List Str} {oS:∀ (q:Program) (lo ms:List Str) (Xt:Shared→Bool) (g0:Bool) (s:Shared),_} {h1:@stepT=sT} {h0:@denote=dn} {h2:treeTable=tT} {h3:@importedModules=iM} {h4:@openSeen=oS} {h5:p=p'}
    (rA:RunA N m an h1 h0 h2 h3 h4 h5) (rB:RunB N m an q lo Xt h1 h0 h2 h3 h4 h5) (rC:RunC N m an Yf Ya h1 h0 h2 h3 h4 h5) :
    ∀ (w:World) (os:OsState),Option.map (lookO openSeen (importedModules p.main.body) p (q p) lo (Xt p) Yf (boot_heap w.params)) (topRun treeTable p w m an N (atBoot w.params os) (topStub p))=some (true,openGood (q p) lo,Ya w):=by
  subst h1 h0 h2 h3 h4 h5
  exact fun w os=>ran_of (look3 (rA w os) (rB w os) (rC w os))
end L2
namespace L2
open PySem PySem.Spec PyProof.Rows PySem.W
def hookT (K:PySem.W.Hook) (Ts:List Addr):PySem.W.Hook :=
  ⟨K.α × List (Option Obj),fun s=>(K.obs s,Ts.map fun T=>s.heap.get? T),fun w=>(K.val w,Ts.map fun _=>some (tabObj #[])),fun w h=>K.says w h∧∀ T∈Ts,h.get? T=some (tabObj #[]),
   fun w s e=>⟨K.of w s (Prod.mk.inj e).1,fun T hT=>by
     have e2:=(Prod.mk.inj e).2
     have:=List.map_eq_map_iff.mp e2 T hT
     exact this⟩,fun w h h' x k=>⟨K.keeps w h h' x.1 k,fun T hT=>k _ _ (x.2 T hT)⟩⟩
end L2
namespace KH
open PySem PySem.W PyProof.Rows L2
def top (i:Nat):Stmt:=PySem.Challenge.pw_glazebench_k31_one_form.main.body.getD i (.Pass ⟨0,0,0,0⟩)
def kE (P:Params) (x:Str) (t:Tok) (v:Value):DictEntry:=⟨PyData.keyHash P x,.str x t,v⟩
abbrev fo (a b:Str) (e:Stmt) (d m:Value) (c:Addr):Obj:=⟨(.type "function"),none,(.func (fnOf a b (defArgs e) (defBody e) (defScope e) d .none .none m none (.ref c) .none)),#[]⟩
abbrev co (a b:Str) (t u v:Tok) (l n:Int) (r:Addr) (i:Int) (p q x y:Addr) (j k:Int) (z:Tok):Obj:=⟨(.type "code"),none,(.fields #[(.str a t),(.str b u),(.str "/claim/cut.py" v),(.int l 0),(.int n 0),(.int (0) 0),(.int (0) 0),(.int (3) 0),(.ref r),(.bool true),(.int i 0),(.ref p),.none,(.ref q),(.ref x),(.ref y),(.int j 0),(.int k 0),(.str "/claim/cut.py" z)]),#[]⟩
def k2 (P:Params):Obj:=⟨.none,none,(.dict #[] 0),#[]⟩
def k3 (P:Params):Obj:=⟨(.type "dict"),none,(.dict #[kE P "__name__" 165 (.str "law_glazebench_k31_one_form" 625),kE P "__doc__" 166 .none,kE P "__package__" 167 .none,kE P "__loader__" 168 (.builtin "__main__.__loader__#opaque"),kE P "__spec__" 169 .none,kE P "__annotations__" 170 (.ref 6),kE P "__builtins__" 171 (.ref 4),kE P "__file__" 173 (.str "/claim/cut.py" 172),kE P "__cached__" 174 .none,kE P "_wall" 193 (.ref 21),kE P "GlassError" 213 (.ref 31),kE P "NoSide" 238 (.ref 51),kE P "NoCut" 263 (.ref 70),kE P "LONGEST_SIDE" 267 (.int (12) 266),kE P "is_whole" 274 (.ref 79),kE P "is_side" 281 (.ref 86),kE P "inside" 290 (.ref 93),kE P "check_sides" 299 (.ref 100),kE P "WHOLE" 303 (.str "whole" 302),kE P "UPRIGHT" 305 (.str "upright" 304),kE P "LEVEL" 307 (.str "level" 306),kE P "Tree" 364 (.ref 143),kE P "Whole" 389 (.ref 165),kE P "Upright" 418 (.ref 184),kE P "Level" 447 (.ref 203),kE P "kind_of" 454 (.ref 212),kE P "entry_of" 462 (.ref 219),kE P "entries_of" 472 (.ref 226),kE P "cut_from" 482 (.ref 233),kE P "tree_from" 494 (.ref 240),kE P "entries_by" 506 (.ref 247),kE P "check_cut" 516 (.ref 254),kE P "first_piece" 525 (.ref 261),kE P "other_piece" 534 (.ref 268),kE P "cut_out" 548 (.ref 275),kE P "pieces" 557 (.ref 282),kE P "TOP" 561 (.int (0) 560),kE P "LEFT" 563 (.int (1) 562),kE P "line_breaks" 572 (.ref 289),kE P "goes_through" 578 (.ref 294),kE P "lines_through" 584 (.ref 299),kE P "ROOM" 588 (.str "room" 587),kE P "entry_for" 594 (.ref 304),kE P "cut_up" 603 (.ref 311),kE P "form" 614 (.ref 318),kE P "alike" 624 (.ref 325),kE P "_law_cell" 634 (.ref 332),kE P "_law_draw" 644 (.ref 339),kE P "_law_state" 652 (.ref 346),kE P "_law_pick" 661 (.ref 353),kE P "_law_tree" 674 (.ref 360),kE P "_law_made" 681 (.ref 367),kE P "_law_whole" 688 (.ref 374),kE P "_law_told" 698 (.ref 381),kE P "_law_pieces" 712 (.ref 388),kE P "_law_through" 718 (.ref 393),kE P "_law_parted" 724 (.ref 398),kE P "_law_recut" 741 (.ref 405),kE P "_law_spoiled" 749 (.ref 412),kE P "_law_swapped" 758 (.ref 419),kE P "law" 764 (.ref 424)] 61),#[]⟩
def k20 (P:Params):Obj:=co "_wall" "_wall" 187 188 189 1 1 15 181 16 17 18 19 191 1 192
def k21 (P:Params):Obj:=fo "_wall" "_wall" (top 0) .none (.str "__main__" 164) 20
def k30 (P:Params):Obj:=⟨(.type "dict"),none,(.dict #[kE P "__module__" 203 (.str "glazebench.errors" 194),kE P "__firstlineno__" 207 (.int (5) 206),kE P "__static_attributes__" 208 (.ref 29),kE P "__weakref__" 210 (.ref 32),kE P "__doc__" 211 .none] 3),#[]⟩
def k31 (P:Params):Obj:=⟨(.type "type"),none,(.cls { name:="GlassError",bases:=[(.type "ValueError")],mro:=[(.ref 31),(.type "ValueError"),(.type "Exception"),(.type "BaseException"),(.type "object")],ns:=30,qualname:="GlassError",hasDict:=true,slotNames:=[],subclasses:=[(.ref 51),(.ref 70)],abstract:=false,collection:=none,hasDel:=false }),#[some (.ref 22),none,some (.str "GlassError" 196),some (.str "GlassError" 204),some (.builtin "ValueError.__new__"),some (.bool true)]⟩
def k32 (P:Params):Obj:=⟨(.type "getset_descriptor"),none,(.fields #[(.str "__weakref__" 209),(.ref 31),(.builtin "ExceptionGroup.__weakref__"),.none]),#[]⟩
def k47 (P:Params):Obj:=co "__init__" "NoSide.__init__" 226 227 228 9 2 42 181 43 44 45 46 231 9 232
def k48 (P:Params):Obj:=fo "__init__" "NoSide.__init__" (inClass (top 3) 0) .none (.str "glazebench.errors" 194) 47
def k50 (P:Params):Obj:=⟨(.type "dict"),none,(.dict #[kE P "__module__" 221 (.str "glazebench.errors" 194),kE P "__firstlineno__" 225 (.int (7) 224),kE P "__init__" 233 (.ref 48),kE P "__static_attributes__" 235 (.ref 49),kE P "__doc__" 236 .none] 2),#[]⟩
def k51 (P:Params):Obj:=⟨(.type "type"),none,(.cls { name:="NoSide",bases:=[(.ref 31)],mro:=[(.ref 51),(.ref 31),(.type "ValueError"),(.type "Exception"),(.type "BaseException"),(.type "object")],ns:=50,qualname:="NoSide",hasDict:=true,slotNames:=[],subclasses:=[],abstract:=false,collection:=none,hasDel:=false }),#[some (.ref 35),none,some (.str "NoSide" 214),some (.str "NoSide" 222),some (.builtin "ValueError.__new__"),some (.bool true)]⟩
def k66 (P:Params):Obj:=co "__init__" "NoCut.__init__" 251 252 253 13 2 61 181 62 63 64 65 256 13 257
def k67 (P:Params):Obj:=fo "__init__" "NoCut.__init__" (inClass (top 4) 0) .none (.str "glazebench.errors" 194) 66
def k69 (P:Params):Obj:=⟨(.type "dict"),none,(.dict #[kE P "__module__" 246 (.str "glazebench.errors" 194),kE P "__firstlineno__" 250 (.int (11) 249),kE P "__init__" 258 (.ref 67),kE P "__static_attributes__" 260 (.ref 68),kE P "__doc__" 261 .none] 2),#[]⟩
def k70 (P:Params):Obj:=⟨(.type "type"),none,(.cls { name:="NoCut",bases:=[(.ref 31)],mro:=[(.ref 70),(.ref 31),(.type "ValueError"),(.type "Exception"),(.type "BaseException"),(.type "object")],ns:=69,qualname:="NoCut",hasDict:=true,slotNames:=[],subclasses:=[],abstract:=false,collection:=none,hasDel:=false }),#[some (.ref 54),none,some (.str "NoCut" 239),some (.str "NoCut" 247),some (.builtin "ValueError.__new__"),some (.bool true)]⟩
def k78 (P:Params):Obj:=co "is_whole" "is_whole" 268 269 270 17 1 73 181 74 75 76 77 272 17 273
def k79 (P:Params):Obj:=fo "is_whole" "is_whole" (top 7) .none (.str "glazebench.panels" 264) 78
def k85 (P:Params):Obj:=co "is_side" "is_side" 275 276 277 19 1 80 181 81 82 83 84 279 19 280
def k86 (P:Params):Obj:=fo "is_side" "is_side" (top 8) .none (.str "glazebench.panels" 264) 85
def k92 (P:Params):Obj:=co "inside" "inside" 282 283 284 21 2 87 181 88 89 90 91 288 21 289
def k93 (P:Params):Obj:=fo "inside" "inside" (top 9) .none (.str "glazebench.panels" 264) 92
def k99 (P:Params):Obj:=co "check_sides" "check_sides" 291 292 293 24 2 94 181 95 96 97 98 297 24 298
def k100 (P:Params):Obj:=fo "check_sides" "check_sides" (top 10) .none (.str "glazebench.panels" 264) 99
def k111 (P:Params):Obj:=⟨(.type "code"),none,(.fields #[(.str "leaves" 320),(.str "Tree.leaves" 321),(.str "/claim/cut.py" 322),(.int (34) 0),(.int (1) 0),(.int (0) 0),(.int (0) 0),(.int (3) 0),(.ref 108),(.bool true),(.int (181) 0),(.ref 109),.none,.none,.none,(.ref 110),(.int (323) 0),(.int (34) 0),(.str "/claim/cut.py" 324)]),#[]⟩
def k112 (P:Params):Obj:=fo "leaves" "Tree.leaves" (inClass (top 15) 0) .none (.str "glazebench.cuts" 300) 111
def k118 (P:Params):Obj:=co "depth" "Tree.depth" 326 327 328 37 1 113 181 114 115 116 117 330 37 331
def k119 (P:Params):Obj:=fo "depth" "Tree.depth" (inClass (top 15) 1) .none (.str "glazebench.cuts" 300) 118
def k125 (P:Params):Obj:=co "turned" "Tree.turned" 333 334 335 40 1 120 181 121 122 123 124 337 40 338
def k126 (P:Params):Obj:=fo "turned" "Tree.turned" (inClass (top 15) 2) .none (.str "glazebench.cuts" 300) 125
def k132 (P:Params):Obj:=co "fits" "Tree.fits" 340 341 342 43 3 127 181 128 129 130 131 346 43 347
def k133 (P:Params):Obj:=fo "fits" "Tree.fits" (inClass (top 15) 3) .none (.str "glazebench.cuts" 300) 132
def k139 (P:Params):Obj:=co "same" "Tree.same" 349 350 351 46 2 134 181 135 136 137 138 354 46 355
def k140 (P:Params):Obj:=fo "same" "Tree.same" (inClass (top 15) 4) .none (.str "glazebench.cuts" 300) 139
def k142 (P:Params):Obj:=⟨(.type "dict"),none,(.dict #[kE P "__module__" 315 (.str "glazebench.cuts" 300),kE P "__firstlineno__" 319 (.int (32) 318),kE P "leaves" 325 (.ref 112),kE P "depth" 332 (.ref 119),kE P "turned" 339 (.ref 126),kE P "fits" 348 (.ref 133),kE P "same" 356 (.ref 140),kE P "__static_attributes__" 357 (.ref 141),kE P "__dict__" 359 (.ref 144),kE P "__weakref__" 361 (.ref 145),kE P "__doc__" 362 .none] 4),#[]⟩
def k143 (P:Params):Obj:=⟨(.type "type"),none,(.cls { name:="Tree",bases:=[(.type "object")],mro:=[(.ref 143),(.type "object")],ns:=142,qualname:="Tree",hasDict:=true,slotNames:=[],subclasses:=[(.ref 165),(.ref 184),(.ref 203)],abstract:=false,collection:=none,hasDel:=false }),#[none,none,some (.str "Tree" 308),some (.str "Tree" 316),some (.builtin "object.__new__"),some (.bool true)]⟩
def k144 (P:Params):Obj:=⟨(.type "getset_descriptor"),none,(.fields #[(.str "__dict__" 358),(.ref 143),(.builtin "function.__dict__"),(.builtin "function.__dict__#set")]),#[]⟩
def k145 (P:Params):Obj:=⟨(.type "getset_descriptor"),none,(.fields #[(.str "__weakref__" 360),(.ref 143),(.builtin "ExceptionGroup.__weakref__"),.none]),#[]⟩
def k155 (P:Params):Obj:=⟨(.type "tuple"),none,(.seq #[.none] 0),#[]⟩
def k161 (P:Params):Obj:=co "__init__" "Whole.__init__" 377 378 379 50 2 156 181 157 158 159 160 382 50 383
def k162 (P:Params):Obj:=fo "__init__" "Whole.__init__" (inClass (top 16) 0) (.ref 155) (.str "glazebench.cuts" 300) 161
def k164 (P:Params):Obj:=⟨(.type "dict"),none,(.dict #[kE P "__module__" 372 (.str "glazebench.cuts" 300),kE P "__firstlineno__" 376 (.int (48) 375),kE P "__init__" 384 (.ref 162),kE P "__static_attributes__" 386 (.ref 163),kE P "__doc__" 387 .none] 2),#[]⟩
def k165 (P:Params):Obj:=⟨(.type "type"),none,(.cls { name:="Whole",bases:=[(.ref 143)],mro:=[(.ref 165),(.ref 143),(.type "object")],ns:=164,qualname:="Whole",hasDict:=true,slotNames:=[],subclasses:=[],abstract:=false,collection:=none,hasDel:=false }),#[some (.ref 148),none,some (.str "Whole" 365),some (.str "Whole" 373),some (.builtin "object.__new__"),some (.bool true)]⟩
def k180 (P:Params):Obj:=co "__init__" "Upright.__init__" 402 403 404 54 4 175 181 176 177 178 179 409 54 410
def k181 (P:Params):Obj:=fo "__init__" "Upright.__init__" (inClass (top 17) 0) .none (.str "glazebench.cuts" 300) 180
def k183 (P:Params):Obj:=⟨(.type "dict"),none,(.dict #[kE P "__module__" 397 (.str "glazebench.cuts" 300),kE P "__firstlineno__" 401 (.int (52) 400),kE P "__init__" 411 (.ref 181),kE P "__static_attributes__" 415 (.ref 182),kE P "__doc__" 416 .none] 2),#[]⟩
def k184 (P:Params):Obj:=⟨(.type "type"),none,(.cls { name:="Upright",bases:=[(.ref 143)],mro:=[(.ref 184),(.ref 143),(.type "object")],ns:=183,qualname:="Upright",hasDict:=true,slotNames:=[],subclasses:=[],abstract:=false,collection:=none,hasDel:=false }),#[some (.ref 168),none,some (.str "Upright" 390),some (.str "Upright" 398),some (.builtin "object.__new__"),some (.bool true)]⟩
def k199 (P:Params):Obj:=co "__init__" "Level.__init__" 431 432 433 60 4 194 181 195 196 197 198 438 60 439
def k200 (P:Params):Obj:=fo "__init__" "Level.__init__" (inClass (top 18) 0) .none (.str "glazebench.cuts" 300) 199
def k202 (P:Params):Obj:=⟨(.type "dict"),none,(.dict #[kE P "__module__" 426 (.str "glazebench.cuts" 300),kE P "__firstlineno__" 430 (.int (58) 429),kE P "__init__" 440 (.ref 200),kE P "__static_attributes__" 444 (.ref 201),kE P "__doc__" 445 .none] 2),#[]⟩
def k203 (P:Params):Obj:=⟨(.type "type"),none,(.cls { name:="Level",bases:=[(.ref 143)],mro:=[(.ref 203),(.ref 143),(.type "object")],ns:=202,qualname:="Level",hasDict:=true,slotNames:=[],subclasses:=[],abstract:=false,collection:=none,hasDel:=false }),#[some (.ref 187),none,some (.str "Level" 419),some (.str "Level" 427),some (.builtin "object.__new__"),some (.bool true)]⟩
def k211 (P:Params):Obj:=co "kind_of" "kind_of" 448 449 450 64 1 206 181 207 208 209 210 452 64 453
def k212 (P:Params):Obj:=fo "kind_of" "kind_of" (top 19) .none (.str "glazebench.cuts" 300) 211
def k218 (P:Params):Obj:=co "entry_of" "entry_of" 455 456 457 68 1 213 181 214 215 216 217 460 68 461
def k219 (P:Params):Obj:=fo "entry_of" "entry_of" (top 20) .none (.str "glazebench.cuts" 300) 218
def k225 (P:Params):Obj:=co "entries_of" "entries_of" 463 464 465 71 1 220 181 221 222 223 224 470 71 471
def k226 (P:Params):Obj:=fo "entries_of" "entries_of" (top 21) .none (.str "glazebench.cuts" 300) 225
def k232 (P:Params):Obj:=co "cut_from" "cut_from" 473 474 475 80 4 227 181 228 229 230 231 480 80 481
def k233 (P:Params):Obj:=fo "cut_from" "cut_from" (top 22) .none (.str "glazebench.cuts" 300) 232
def k239 (P:Params):Obj:=co "tree_from" "tree_from" 483 484 485 84 1 234 181 235 236 237 238 492 84 493
def k240 (P:Params):Obj:=fo "tree_from" "tree_from" (top 23) .none (.str "glazebench.cuts" 300) 239
def k246 (P:Params):Obj:=co "entries_by" "entries_by" 495 496 497 94 2 241 181 242 243 244 245 504 94 505
def k247 (P:Params):Obj:=fo "entries_by" "entries_by" (top 24) .none (.str "glazebench.cuts" 300) 246
def k253 (P:Params):Obj:=co "check_cut" "check_cut" 507 508 509 105 3 248 181 249 250 251 252 514 105 515
def k254 (P:Params):Obj:=fo "check_cut" "check_cut" (top 25) .none (.str "glazebench.cuts" 300) 253
def k260 (P:Params):Obj:=co "first_piece" "first_piece" 517 518 519 109 3 255 181 256 257 258 259 523 109 524
def k261 (P:Params):Obj:=fo "first_piece" "first_piece" (top 26) .none (.str "glazebench.cuts" 300) 260
def k267 (P:Params):Obj:=co "other_piece" "other_piece" 526 527 528 113 3 262 181 263 264 265 266 532 113 533
def k268 (P:Params):Obj:=fo "other_piece" "other_piece" (top 27) .none (.str "glazebench.cuts" 300) 267
def k274 (P:Params):Obj:=co "cut_out" "cut_out" 535 536 537 117 3 269 181 270 271 272 273 546 117 547
def k275 (P:Params):Obj:=fo "cut_out" "cut_out" (top 28) .none (.str "glazebench.cuts" 300) 274
def k281 (P:Params):Obj:=co "pieces" "pieces" 549 550 551 129 3 276 181 277 278 279 280 555 129 556
def k282 (P:Params):Obj:=fo "pieces" "pieces" (top 29) .none (.str "glazebench.cuts" 300) 281
def k288 (P:Params):Obj:=co "line_breaks" "line_breaks" 564 565 566 135 3 283 181 284 285 286 287 570 135 571
def k289 (P:Params):Obj:=fo "line_breaks" "line_breaks" (top 33) .none (.str "glazebench.blocks" 558) 288
def k293 (P:Params):Obj:=⟨(.type "code"),none,(.fields #[(.str "goes_through" 573),(.str "goes_through" 574),(.str "/claim/cut.py" 575),(.int (137) 0),(.int (3) 0),(.int (0) 0),(.int (0) 0),(.int (3) 0),(.ref 290),(.bool true),(.int (181) 0),(.ref 291),.none,.none,.none,(.ref 292),(.int (576) 0),(.int (137) 0),(.str "/claim/cut.py" 577)]),#[]⟩
def k294 (P:Params):Obj:=fo "goes_through" "goes_through" (top 34) .none (.str "glazebench.blocks" 558) 293
def k298 (P:Params):Obj:=⟨(.type "code"),none,(.fields #[(.str "lines_through" 579),(.str "lines_through" 580),(.str "/claim/cut.py" 581),(.int (139) 0),(.int (3) 0),(.int (0) 0),(.int (0) 0),(.int (3) 0),(.ref 295),(.bool true),(.int (181) 0),(.ref 296),.none,.none,.none,(.ref 297),(.int (582) 0),(.int (139) 0),(.str "/claim/cut.py" 583)]),#[]⟩
def k299 (P:Params):Obj:=fo "lines_through" "lines_through" (top 35) .none (.str "glazebench.blocks" 558) 298
def k303 (P:Params):Obj:=⟨(.type "code"),none,(.fields #[(.str "entry_for" 589),(.str "entry_for" 590),(.str "/claim/cut.py" 591),(.int (143) 0),(.int (2) 0),(.int (0) 0),(.int (0) 0),(.int (3) 0),(.ref 300),(.bool true),(.int (181) 0),(.ref 301),.none,.none,.none,(.ref 302),(.int (592) 0),(.int (143) 0),(.str "/claim/cut.py" 593)]),#[]⟩
def k304 (P:Params):Obj:=fo "entry_for" "entry_for" (top 38) .none (.str "glazebench.rooms" 585) 303
def k310 (P:Params):Obj:=co "cut_up" "cut_up" 595 596 597 154 2 305 181 306 307 308 309 601 154 602
def k311 (P:Params):Obj:=fo "cut_up" "cut_up" (top 39) .none (.str "glazebench.rooms" 585) 310
def k317 (P:Params):Obj:=co "form" "form" 606 607 608 157 3 312 181 313 314 315 316 612 157 613
def k318 (P:Params):Obj:=fo "form" "form" (top 41) .none (.str "glazebench.forms" 604) 317
def k324 (P:Params):Obj:=co "alike" "alike" 615 616 617 159 4 319 181 320 321 322 323 622 159 623
def k325 (P:Params):Obj:=fo "alike" "alike" (top 42) .none (.str "glazebench.forms" 604) 324
def k331 (P:Params):Obj:=co "_law_cell" "_law_cell" 627 628 629 162 2 326 181 327 328 329 330 632 162 633
def k332 (P:Params):Obj:=fo "_law_cell" "_law_cell" (top 44) .none (.str "law_glazebench_k31_one_form" 625) 331
def k338 (P:Params):Obj:=co "_law_draw" "_law_draw" 635 636 637 166 3 333 181 334 335 336 337 642 166 643
def k339 (P:Params):Obj:=fo "_law_draw" "_law_draw" (top 45) .none (.str "law_glazebench_k31_one_form" 625) 338
def k345 (P:Params):Obj:=co "_law_state" "_law_state" 645 646 647 169 1 340 181 341 342 343 344 650 169 651
def k346 (P:Params):Obj:=fo "_law_state" "_law_state" (top 46) .none (.str "law_glazebench_k31_one_form" 625) 345
def k352 (P:Params):Obj:=co "_law_pick" "_law_pick" 653 654 655 174 2 347 181 348 349 350 351 659 174 660
def k353 (P:Params):Obj:=fo "_law_pick" "_law_pick" (top 47) .none (.str "law_glazebench_k31_one_form" 625) 352
def k359 (P:Params):Obj:=co "_law_tree" "_law_tree" 662 663 664 181 3 354 181 355 356 357 358 672 181 673
def k360 (P:Params):Obj:=fo "_law_tree" "_law_tree" (top 48) .none (.str "law_glazebench_k31_one_form" 625) 359
def k366 (P:Params):Obj:=co "_law_made" "_law_made" 675 676 677 195 1 361 181 362 363 364 365 679 195 680
def k367 (P:Params):Obj:=fo "_law_made" "_law_made" (top 49) .none (.str "law_glazebench_k31_one_form" 625) 366
def k373 (P:Params):Obj:=co "_law_whole" "_law_whole" 682 683 684 201 1 368 181 369 370 371 372 686 201 687
def k374 (P:Params):Obj:=fo "_law_whole" "_law_whole" (top 50) .none (.str "law_glazebench_k31_one_form" 625) 373
def k380 (P:Params):Obj:=co "_law_told" "_law_told" 689 690 691 203 1 375 181 376 377 378 379 696 203 697
def k381 (P:Params):Obj:=fo "_law_told" "_law_told" (top 51) .none (.str "law_glazebench_k31_one_form" 625) 380
def k387 (P:Params):Obj:=co "_law_pieces" "_law_pieces" 699 700 701 218 2 382 181 383 384 385 386 710 218 711
def k388 (P:Params):Obj:=fo "_law_pieces" "_law_pieces" (top 52) .none (.str "law_glazebench_k31_one_form" 625) 387
def k392 (P:Params):Obj:=⟨(.type "code"),none,(.fields #[(.str "_law_through" 713),(.str "_law_through" 714),(.str "/claim/cut.py" 715),(.int (228) 0),(.int (2) 0),(.int (0) 0),(.int (0) 0),(.int (3) 0),(.ref 389),(.bool true),(.int (181) 0),(.ref 390),.none,.none,.none,(.ref 391),(.int (716) 0),(.int (228) 0),(.str "/claim/cut.py" 717)]),#[]⟩
def k393 (P:Params):Obj:=fo "_law_through" "_law_through" (top 53) .none (.str "law_glazebench_k31_one_form" 625) 392
def k397 (P:Params):Obj:=⟨(.type "code"),none,(.fields #[(.str "_law_parted" 719),(.str "_law_parted" 720),(.str "/claim/cut.py" 721),(.int (235) 0),(.int (4) 0),(.int (0) 0),(.int (0) 0),(.int (3) 0),(.ref 394),(.bool true),(.int (181) 0),(.ref 395),.none,.none,.none,(.ref 396),(.int (722) 0),(.int (235) 0),(.str "/claim/cut.py" 723)]),#[]⟩
def k398 (P:Params):Obj:=fo "_law_parted" "_law_parted" (top 54) .none (.str "law_glazebench_k31_one_form" 625) 397
def k404 (P:Params):Obj:=co "_law_recut" "_law_recut" 725 726 727 243 3 399 181 400 401 402 403 739 243 740
def k405 (P:Params):Obj:=fo "_law_recut" "_law_recut" (top 55) .none (.str "law_glazebench_k31_one_form" 625) 404
def k411 (P:Params):Obj:=co "_law_spoiled" "_law_spoiled" 742 743 744 251 2 406 181 407 408 409 410 747 251 748
def k412 (P:Params):Obj:=fo "_law_spoiled" "_law_spoiled" (top 56) .none (.str "law_glazebench_k31_one_form" 625) 411
def k418 (P:Params):Obj:=co "_law_swapped" "_law_swapped" 750 751 752 261 3 413 181 414 415 416 417 756 261 757
def k419 (P:Params):Obj:=fo "_law_swapped" "_law_swapped" (top 57) .none (.str "law_glazebench_k31_one_form" 625) 418
def k423 (P:Params):Obj:=⟨(.type "code"),none,(.fields #[(.str "law" 759),(.str "law" 760),(.str "/claim/cut.py" 761),(.int (265) 0),(.int (1) 0),(.int (0) 0),(.int (0) 0),(.int (3) 0),(.ref 420),(.bool true),(.int (181) 0),(.ref 421),.none,.none,.none,(.ref 422),(.int (762) 0),(.int (265) 0),(.str "/claim/cut.py" 763)]),#[]⟩
def k424 (P:Params):Obj:=fo "law" "law" (top 58) .none (.str "law_glazebench_k31_one_form" 625) 423
def k4 (P:Params):Obj:=⟨(.type "module"),(some 0),.plain,#[]⟩
def KK:Params→Frag:=fun P=>(nat_lit 2,k2 P) :: (nat_lit 3,k3 P) :: (nat_lit 20,k20 P) :: (nat_lit 21,k21 P) :: (nat_lit 30,k30 P) :: (nat_lit 31,k31 P) :: (nat_lit 32,k32 P) :: (nat_lit 47,k47 P) :: (nat_lit 48,k48 P) :: (nat_lit 50,k50 P) :: (nat_lit 51,k51 P) :: (nat_lit 66,k66 P) :: (nat_lit 67,k67 P) :: (nat_lit 69,k69 P) :: (nat_lit 70,k70 P) :: (nat_lit 78,k78 P) :: (nat_lit 79,k79 P) :: (nat_lit 85,k85 P) :: (nat_lit 86,k86 P) :: (nat_lit 92,k92 P) :: (nat_lit 93,k93 P) :: (nat_lit 99,k99 P) :: (nat_lit 100,k100 P) :: (nat_lit 111,k111 P) :: (nat_lit 112,k112 P) :: (nat_lit 118,k118 P) :: (nat_lit 119,k119 P) :: (nat_lit 125,k125 P) :: (nat_lit 126,k126 P) :: (nat_lit 132,k132 P) :: (nat_lit 133,k133 P) :: (nat_lit 139,k139 P) :: (nat_lit 140,k140 P) :: (nat_lit 142,k142 P) :: (nat_lit 143,k143 P) :: (nat_lit 144,k144 P) :: (nat_lit 145,k145 P) :: (nat_lit 155,k155 P) :: (nat_lit 161,k161 P) :: (nat_lit 162,k162 P) :: (nat_lit 164,k164 P) :: (nat_lit 165,k165 P) :: (nat_lit 180,k180 P) :: (nat_lit 181,k181 P) :: (nat_lit 183,k183 P) :: (nat_lit 184,k184 P) :: (nat_lit 199,k199 P) :: (nat_lit 200,k200 P) :: (nat_lit 202,k202 P) :: (nat_lit 203,k203 P) :: (nat_lit 211,k211 P) :: (nat_lit 212,k212 P) :: (nat_lit 218,k218 P) :: (nat_lit 219,k219 P) :: (nat_lit 225,k225 P) :: (nat_lit 226,k226 P) :: (nat_lit 232,k232 P) :: (nat_lit 233,k233 P) :: (nat_lit 239,k239 P) :: (nat_lit 240,k240 P) :: (nat_lit 246,k246 P) :: (nat_lit 247,k247 P) :: (nat_lit 253,k253 P) :: (nat_lit 254,k254 P) :: (nat_lit 260,k260 P) :: (nat_lit 261,k261 P) :: (nat_lit 267,k267 P) :: (nat_lit 268,k268 P) :: (nat_lit 274,k274 P) :: (nat_lit 275,k275 P) :: (nat_lit 281,k281 P) :: (nat_lit 282,k282 P) :: (nat_lit 288,k288 P) :: (nat_lit 289,k289 P) :: (nat_lit 293,k293 P) :: (nat_lit 294,k294 P) :: (nat_lit 298,k298 P) :: (nat_lit 299,k299 P) :: (nat_lit 303,k303 P) :: (nat_lit 304,k304 P) :: (nat_lit 310,k310 P) :: (nat_lit 311,k311 P) :: (nat_lit 317,k317 P) :: (nat_lit 318,k318 P) :: (nat_lit 324,k324 P) :: (nat_lit 325,k325 P) :: (nat_lit 331,k331 P) :: (nat_lit 332,k332 P) :: (nat_lit 338,k338 P) :: (nat_lit 339,k339 P) :: (nat_lit 345,k345 P) :: (nat_lit 346,k346 P) :: (nat_lit 352,k352 P) :: (nat_lit 353,k353 P) :: (nat_lit 359,k359 P) :: (nat_lit 360,k360 P) :: (nat_lit 366,k366 P) :: (nat_lit 367,k367 P) :: (nat_lit 373,k373 P) :: (nat_lit 374,k374 P) :: (nat_lit 380,k380 P) :: (nat_lit 381,k381 P) :: (nat_lit 387,k387 P) :: (nat_lit 388,k388 P) :: (nat_lit 392,k392 P) :: (nat_lit 393,k393 P) :: (nat_lit 397,k397 P) :: (nat_lit 398,k398 P) :: (nat_lit 404,k404 P) :: (nat_lit 405,k405 P) :: (nat_lit 411,k411 P) :: (nat_lit 412,k412 P) :: (nat_lit 418,k418 P) :: (nat_lit 419,k419 P) :: (nat_lit 423,k423 P) :: (nat_lit 424,k424 P) :: (nat_lit 4,k4 P) :: []
def kas:List Addr:=nat_lit 2 :: nat_lit 3 :: nat_lit 20 :: nat_lit 21 :: nat_lit 30 :: nat_lit 31 :: nat_lit 32 :: nat_lit 47 :: nat_lit 48 :: nat_lit 50 :: nat_lit 51 :: nat_lit 66 :: nat_lit 67 :: nat_lit 69 :: nat_lit 70 :: nat_lit 78 :: nat_lit 79 :: nat_lit 85 :: nat_lit 86 :: nat_lit 92 :: nat_lit 93 :: nat_lit 99 :: nat_lit 100 :: nat_lit 111 :: nat_lit 112 :: nat_lit 118 :: nat_lit 119 :: nat_lit 125 :: nat_lit 126 :: nat_lit 132 :: nat_lit 133 :: nat_lit 139 :: nat_lit 140 :: nat_lit 142 :: nat_lit 143 :: nat_lit 144 :: nat_lit 145 :: nat_lit 155 :: nat_lit 161 :: nat_lit 162 :: nat_lit 164 :: nat_lit 165 :: nat_lit 180 :: nat_lit 181 :: nat_lit 183 :: nat_lit 184 :: nat_lit 199 :: nat_lit 200 :: nat_lit 202 :: nat_lit 203 :: nat_lit 211 :: nat_lit 212 :: nat_lit 218 :: nat_lit 219 :: nat_lit 225 :: nat_lit 226 :: nat_lit 232 :: nat_lit 233 :: nat_lit 239 :: nat_lit 240 :: nat_lit 246 :: nat_lit 247 :: nat_lit 253 :: nat_lit 254 :: nat_lit 260 :: nat_lit 261 :: nat_lit 267 :: nat_lit 268 :: nat_lit 274 :: nat_lit 275 :: nat_lit 281 :: nat_lit 282 :: nat_lit 288 :: nat_lit 289 :: nat_lit 293 :: nat_lit 294 :: nat_lit 298 :: nat_lit 299 :: nat_lit 303 :: nat_lit 304 :: nat_lit 310 :: nat_lit 311 :: nat_lit 317 :: nat_lit 318 :: nat_lit 324 :: nat_lit 325 :: nat_lit 331 :: nat_lit 332 :: nat_lit 338 :: nat_lit 339 :: nat_lit 345 :: nat_lit 346 :: nat_lit 352 :: nat_lit 353 :: nat_lit 359 :: nat_lit 360 :: nat_lit 366 :: nat_lit 367 :: nat_lit 373 :: nat_lit 374 :: nat_lit 380 :: nat_lit 381 :: nat_lit 387 :: nat_lit 388 :: nat_lit 392 :: nat_lit 393 :: nat_lit 397 :: nat_lit 398 :: nat_lit 404 :: nat_lit 405 :: nat_lit 411 :: nat_lit 412 :: nat_lit 418 :: nat_lit 419 :: nat_lit 423 :: nat_lit 424 :: nat_lit 4 :: []
def keeps:List Nat:=0 :: 2 :: 3 :: 4 :: 6 :: 7 :: 8 :: 9 :: 10 :: 12 :: 13 :: 14 :: 15 :: 16 :: 17 :: 18 :: 19 :: 20 :: 21 :: 22 :: 23 :: 24 :: 25 :: 26 :: 27 :: 28 :: 29 :: 31 :: 32 :: 33 :: 34 :: 35 :: 37 :: 38 :: 39 :: 41 :: 42 :: 44 :: 45 :: 46 :: 47 :: 48 :: 49 :: 50 :: 51 :: 52 :: 53 :: 54 :: 55 :: 56 :: 57 :: 58 :: []
def lo:List Str:=["Whole"]
def Ts:List Addr:=nat_lit 277 :: nat_lit 306 :: []
theorem prep (h:PySem.Challenge.rw_glazebench_k31_one_form.row.wellSaid=true→PySem.Challenge.rw_glazebench_k31_one_form.row.Holds):PySem.Challenge.rw_glazebench_k31_one_form.Holds:=by
  w_on
  o_law
  exact h (by assumption)
def qv (p:Program):Program:=view p keeps
def Xp (p:Program) (s:Shared):Bool:=xlAt (qv p) [] s && recOk (RowW.records (OpenRow.toRowW PySem.Challenge.rw_glazebench_k31_one_form.row)) s
theorem kas_is (P:Params):kas=(KK P).map (fun x=>x.1):=by kernel_rfl
theorem op_is:opening PySem.Challenge.pw_glazebench_k31_one_form=plainProg PySem.Challenge.pw_glazebench_k31_one_form.main.scope.names:=by kernel_rfl
theorem fence_is (s:Shared):fenceModules? PySem.Challenge.pw_glazebench_k31_one_form s=some s:=by kernel_rfl
theorem boot_is (w:World):((boot_heap w.params).isNs mainGlobals,(boot_heap w.params).objs.size,(boot_heap w.params).nsMap mainGlobals "__annotations__")=(true,11,(some (.ref 6))):=by kernel_rfl
theorem ranA:RunA 6238 11 (some (.ref 6)) PySem.W.Fast.te10156331382660048174 PySem.W.Fast.te11892475500146522536 PySem.W.Fast.te14364793385576792824 PySem.W.Fast.te5923862056798008813 PySem.W.Fast.te4187177175401517315 PySem.W.Fast.te10420588208999147978:=fun w os=>by kernel_rfl
theorem ranB:RunB 6238 11 (some (.ref 6)) qv lo Xp PySem.W.Fast.te10156331382660048174 PySem.W.Fast.te11892475500146522536 PySem.W.Fast.te14364793385576792824 PySem.W.Fast.te5923862056798008813 PySem.W.Fast.te4187177175401517315 PySem.W.Fast.te10420588208999147978:=fun w os=>by kernel_rfl
theorem ranC:RunC 6238 11 (some (.ref 6)) (hookT (kHook KK kas kas_is) Ts).obs (hookT (kHook KK kas kas_is) Ts).val PySem.W.Fast.te10156331382660048174 PySem.W.Fast.te11892475500146522536 PySem.W.Fast.te14364793385576792824 PySem.W.Fast.te5923862056798008813 PySem.W.Fast.te4187177175401517315 PySem.W.Fast.te10420588208999147978:=fun w os=>by kernel_rfl
theorem ran:∀ (w:World) (os:OsState),Option.map (lookO openSeen (importedModules PySem.Challenge.pw_glazebench_k31_one_form.main.body) PySem.Challenge.pw_glazebench_k31_one_form (qv PySem.Challenge.pw_glazebench_k31_one_form) lo (Xp PySem.Challenge.pw_glazebench_k31_one_form) (hookT (kHook KK kas kas_is) Ts).obs (boot_heap w.params)) (topRun treeTable PySem.Challenge.pw_glazebench_k31_one_form w 11 (some (.ref 6)) 6238 (atBoot w.params os) (topStub PySem.Challenge.pw_glazebench_k31_one_form))=some (true,openGood (qv PySem.Challenge.pw_glazebench_k31_one_form) lo,(hookT (kHook KK kas kas_is) Ts).val w):=run_by3 ranA ranB ranC
theorem left:LeftO PySem.Challenge.pw_glazebench_k31_one_form (qv PySem.Challenge.pw_glazebench_k31_one_form) lo (Xp PySem.Challenge.pw_glazebench_k31_one_form) (hookT (kHook KK kas kas_is) Ts).obs (hookT (kHook KK kas kas_is) Ts).val 6238:=left_once (boot_open op_is (by decide) fence_is) boot_is ran
end KH
namespace L2
open PySem PySem.Spec PyProof.Rows
section
variable {M:Model} {A:Around} {E:Value→Shared→Prop} {s:Shared}
def gallopG:Bool→Keyed→Array Keyed→Nat→Nat→Nat→StateT SortSt Sem (Option Nat):=sortPriv% PySem.Builtin.gallop
def AskG (M:Model) (A:Around) (E:Value→Shared→Prop) (s:Shared) (left:Bool) (key:Keyed) (arr:Array Keyed) (base n:Nat) (kd:SortKind) (B:Nat→Bool):Prop :=
  ∀ i,i < n→∀ (st:SortSt) (Q:Option Bool→SortSt→Prop),kindOf st=kd→Q (some (B i)) st→wpS M A E s (elem' arr (base+i) >>= fun x=>if left=true then lt' x key else lt' key x >>= fun r=>pure (r.map (!·))) Q st
theorem halve {n:Nat} {B:Nat→Bool} {f:Nat→Option (Option Nat) × Nat × Nat→StateT SortSt Sem (ForInStep (Option (Option Nat) × Nat × Nat))} {g:Option (Option Nat) × Nat × Nat→StateT SortSt Sem (Option Nat)} {lo hi:Nat} {st:SortSt} {Q:Option Nat→SortSt→Prop} (mono:∀ i j,i≤j→j < n→B j=true→B i=true)
    (hf:∀ x lo hi (Q':ForInStep (Option (Option Nat) × Nat × Nat)→SortSt→Prop),hi≤n→(lo≥hi→Q' (.done (none,lo,hi)) st)→(lo < hi→B (lo+(hi - lo) / 2)=true→Q' (.yield (none,lo+(hi - lo) / 2+1,hi)) st)→(lo < hi→B (lo+(hi - lo) / 2)=false→Q' (.yield (none,lo,lo+(hi - lo) / 2)) st)→wpS M A E s (f x (none,lo,hi)) Q' st)
    (hg:∀ lo hi,g (none,lo,hi)=pure (some hi)) (h1:lo≤hi) (h2:hi≤n) (h3:∀ i,i < lo→B i=true) (h4:∀ i,hi≤i→i < n→B i=false)
    (h:∀ k,k≤n→(∀ i,i < k→B i=true)→(∀ i,k≤i→i < n→B i=false)→Q (some k) st):wpS M A E s (forIn [0:n] (none,lo,hi) f >>= g) Q st:=by
  have anti:∀ i j,i≤j→j < n→B i=false→B j=false:=fun i j hij hj hi=>by
    cases e:B j with
    | false=>rfl
    | true=>rw [mono i j hij hj e] at hi; cases hi
  refine wpS_bind (wpS_mono (wpS_forRange (I:=fun x (c:Option (Option Nat) × Nat × Nat) st'=>st'=st∧c.1=none∧c.2.1≤c.2.2∧c.2.2≤n∧(c.2.2 - c.2.1)+x≤n∧(∀ i,i < c.2.1→B i=true)∧(∀ i,c.2.2≤i→i < n→B i=false))
    (Q:=fun (c:Option (Option Nat) × Nat × Nat) st'=>st'=st∧c.1=none∧c.2.2≤n∧(∀ i,i < c.2.2→B i=true)∧(∀ i,c.2.2≤i→i < n→B i=false)) ?step ?fin (And.intro rfl ⟨rfl,h1,h2,by show hi - lo+0≤n; omega,h3,h4⟩)) ?post)
  case fin =>
    rintro ⟨r,lo,hi⟩ st' ⟨e,e1,c1,c2,c3,c4,c5⟩
    have:lo=hi:=by
      have c3:hi - lo+max 0 n≤n:=c3
      have c1:lo≤hi:=c1
      omega
    subst this
    exact And.intro e ⟨e1,c2,c4,c5⟩
  case step =>
    rintro x ⟨r,lo,hi⟩ st' _ hx ⟨e,e1,c1,c2,c3,c4,c5⟩
    have e1:r=none:=e1
    subst e1
    subst e
    have c1:lo≤hi:=c1
    have c2:hi≤n:=c2
    have c3:hi - lo+x≤n:=c3
    have c4:∀ i,i < lo→B i=true:=c4
    have c5:∀ i,hi≤i→i < n→B i=false:=c5
    refine hf x lo hi _ c2 (fun hl=>?_) (fun hl hb=>?_) (fun hl hb=>?_)
    · have:lo=hi:=by omega
      subst this
      exact And.intro rfl ⟨rfl,c2,c4,c5⟩
    · refine And.intro rfl ⟨rfl,by show lo+(hi - lo) / 2+1≤hi; omega,c2,by show hi - (lo+(hi - lo) / 2+1)+(x+1)≤n; omega,fun i hi'=>?_,c5⟩
      exact mono i _ (by have:i < lo+(hi - lo) / 2+1:=hi'; omega) (by omega) hb
    · refine And.intro rfl ⟨rfl,by show lo≤lo+(hi - lo) / 2; omega,by show lo+(hi - lo) / 2≤n; omega,by show lo+(hi - lo) / 2 - lo+(x+1)≤n; omega,c4,fun i h1 h2=>?_⟩
      exact anti _ i h1 h2 hb
  case post =>
    rintro ⟨r,lo,hi⟩ st' ⟨e,e1,c1,c2,c3⟩
    have e1:r=none:=e1
    subst e1
    subst e
    rw [hg]
    exact wpS_pure (h hi c1 c2 c3)
theorem stride {n mx:Nat} {C:Nat→Bool} {f:Nat→Option (Option Nat) × Nat × Nat→StateT SortSt Sem (ForInStep (Option (Option Nat) × Nat × Nat))} {g:Option (Option Nat) × Nat × Nat→StateT SortSt Sem (Option Nat)} {st:SortSt} {Q:Option Nat→SortSt→Prop} (hmx:mx≤n) (h1:1≤mx) (c0:C 0=true)
    (hf:∀ x la of (Q':ForInStep (Option (Option Nat) × Nat × Nat)→SortSt→Prop),(of≥mx→Q' (.done (none,la,of)) st)→(of < mx→C of=false→Q' (.done (none,la,of)) st)→(of < mx→C of=true→Q' (.yield (none,of,2 * of+1)) st)→wpS M A E s (f x (none,la,of)) Q' st)
    (hg:∀ la of,la < of→la < mx→C la=true→(of≥mx∨(of < mx∧C of=false))→wpS M A E s (g (none,la,of)) Q st):wpS M A E s (forIn [0:n] (none,0,1) f >>= g) Q st:=by
  refine wpS_bind (wpS_mono (wpS_forRange (I:=fun x (c:Option (Option Nat) × Nat × Nat) st'=>st'=st∧c.1=none∧c.2.1 < c.2.2∧c.2.1 < mx∧x+1≤c.2.2∧C c.2.1=true)
    (Q:=fun (c:Option (Option Nat) × Nat × Nat) st'=>st'=st∧c.1=none∧c.2.1 < c.2.2∧c.2.1 < mx∧C c.2.1=true∧(c.2.2≥mx∨(c.2.2 < mx∧C c.2.2=false))) ?step ?fin (And.intro rfl ⟨rfl,by show 0 < 1; omega,by show 0 < mx; omega,by show 0+1≤1; omega,c0⟩)) ?post)
  case fin =>
    rintro ⟨r,la,of⟩ st' ⟨e,e1,c1,c2,c3,c4⟩
    have c3:max 0 n+1≤of:=c3
    exact And.intro e ⟨e1,c1,c2,c4,.inl (by show of≥mx; omega)⟩
  case step =>
    rintro x ⟨r,la,of⟩ st' _ hx ⟨e,e1,c1,c2,c3,c4⟩
    have e1:r=none:=e1
    subst e1
    subst e
    have c1:la < of:=c1
    have c2:la < mx:=c2
    have c3:x+1≤of:=c3
    refine hf x la of _ (fun hl=>?_) (fun hl hb=>?_) (fun hl hb=>?_)
    · exact And.intro rfl ⟨rfl,c1,c2,c4,.inl hl⟩
    · exact And.intro rfl ⟨rfl,c1,c2,c4,.inr ⟨hl,hb⟩⟩
    · exact And.intro rfl ⟨rfl,by show of < 2 * of+1; omega,hl,by show x+1+1≤2 * of+1; omega,hb⟩
  case post =>
    rintro ⟨r,la,of⟩ st' ⟨e,e1,c1,c2,c3,c4⟩
    have e1:r=none:=e1
    subst e1
    subst e
    exact hg la of c1 c2 c3 c4
theorem wpS_gallop {left:Bool} {key:Keyed} {arr:Array Keyed} {base n hint:Nat} {kd:SortKind} {B:Nat→Bool} {st:SortSt} {Q:Option Nat→SortSt→Prop} (hk:kindOf st=kd) (ask:AskG M A E s left key arr base n kd B) (mono:∀ i j,i≤j→j < n→B j=true→B i=true) (hh:hint < n)
    (h:∀ k,k≤n→(∀ i,i < k→B i=true)→(∀ i,k≤i→i < n→B i=false)→Q (some k) st):wpS M A E s (gallopG left key arr base n hint) Q st:=by
  have anti:∀ i j,i≤j→j < n→B i=false→B j=false:=fun i j hij hj hi=>by
    cases e:B j with
    | false=>rfl
    | true=>rw [mono i j hij hj e] at hi; cases hi
  refine wpS_bind (ask hint hh st _ hk ?_)
  dsimp only
  cases hr:B hint with
  | true =>
    rw [if_pos rfl]
    refine stride (mx:=n - hint) (C:=fun o=>B (hint+o)) (by omega) (by omega) hr (fun x la of Q' k1 k2 k3=>?_) (fun la of d1 d2 d3 d4=>?_)
    · dsimp only
      by_cases hl:of≥n - hint
      · rw [if_pos hl]; exact wpS_pure (k1 hl)
      · rw [if_neg hl]
        refine wpS_bind (ask (hint+of) (by omega) st _ hk ?_)
        dsimp only
        cases hb:B (hint+of) with
        | true=>exact wpS_pure (k3 (by omega) hb)
        | false=>exact wpS_pure (k2 (by omega) hb)
    · dsimp only
      refine halve mono (fun x lo hi Q' hn k1 k2 k3=>?_) (fun lo hi=>rfl) (by omega) (by omega) (fun i hi=>mono i (hint+la) (by omega) (by omega) d3) (fun i hi hi2=>?_) h
      · dsimp only
        by_cases hl:lo≥hi
        · rw [if_pos hl]; exact wpS_pure (k1 hl)
        · rw [if_neg hl]
          refine wpS_bind (ask (lo+(hi - lo) / 2) (by omega) st _ hk ?_)
          dsimp only
          cases hb:B (lo+(hi - lo) / 2) with
          | true=>exact wpS_pure (k2 (by omega) hb)
          | false=>exact wpS_pure (k3 (by omega) hb)
      · rcases d4 with d4 | ⟨d4,d5⟩
        · omega
        · exact anti (hint+of) i (by omega) hi2 d5
  | false =>
    rw [if_neg Bool.false_ne_true]
    refine stride (mx:=hint+1) (C:=fun o=>!B (hint - o)) (by omega) (by omega) (by show (!B hint)=true; rw [hr]; rfl) (fun x la of Q' k1 k2 k3=>?_) (fun la of d1 d2 d3 d4=>?_)
    · dsimp only
      by_cases hl:of≥hint+1
      · rw [if_pos hl]; exact wpS_pure (k1 hl)
      · rw [if_neg hl]
        refine wpS_bind (ask (hint - of) (by omega) st _ hk ?_)
        dsimp only
        cases hb:B (hint - of) with
        | true=>exact wpS_pure (k2 (by omega) (by rw [hb]; rfl))
        | false=>exact wpS_pure (k3 (by omega) (by rw [hb]; rfl))
    · dsimp only
      have d3:B (hint - la)=false:=by simpa using d3
      refine halve mono (fun x lo hi Q' hn k1 k2 k3=>?_) (fun lo hi=>rfl) (by omega) (by omega) (fun i hi=>?_) (fun i hi hi2=>anti (hint - la) i (by omega) hi2 d3) h
      · dsimp only
        by_cases hl:lo≥hi
        · rw [if_pos hl]; exact wpS_pure (k1 hl)
        · rw [if_neg hl]
          refine wpS_bind (ask (lo+(hi - lo) / 2) (by omega) st _ hk ?_)
          dsimp only
          cases hb:B (lo+(hi - lo) / 2) with
          | true=>exact wpS_pure (k2 (by omega) hb)
          | false=>exact wpS_pure (k3 (by omega) hb)
      · rcases d4 with d4 | ⟨d4,d5⟩
        · omega
        · have d5:B (hint - of)=true:=by simpa using d5
          exact mono i (hint - of) (by omega) (by omega) d5
def LtG (M:Model) (A:Around) (E:Value→Shared→Prop) (s:Shared) (kd:SortKind) (κ:Keyed→Int) (S:Keyed→Prop):Prop :=
  ∀ x y,S x→S y→∀ (st:SortSt) (Q:Option Bool→SortSt→Prop),kindOf st=kd→Q (some (decide (κ x < κ y))) st→wpS M A E s (lt' x y) Q st
theorem wpS_elemG {arr:Array Keyed} {i:Nat} {x:Keyed} {st:SortSt} {Q:Keyed→SortSt→Prop} (hx:arr[i]?=some x) (h:Q x st):wpS M A E s (elem' arr i) Q st:=by
  rw [elem'_eq,hx]
  exact wpS_pure h
theorem askG_l {kd:SortKind} {κ:Keyed→Int} {S:Keyed→Prop} (L:LtG M A E s kd κ S) {key:Keyed} {arr:Array Keyed} {base n:Nat} (hk:S key) (ha:∀ i,i < n→∃ x,arr[base+i]?=some x∧S x) :
    AskG M A E s true key arr base n kd (fun i=>decide (κ (arr.getD (base+i) default) < κ key)):=fun i hi st Q hs hq=>by
  obtain ⟨x,hx,sx⟩:=ha i hi
  refine wpS_bind (wpS_elemG hx ?_)
  rw [if_pos rfl]
  refine L x key sx hk st Q hs ?_
  have e:arr.getD (base+i) default=x:=by rw [Array.getD_eq_getD_getElem?,hx]; rfl
  dsimp only at hq
  rw [e] at hq
  exact hq
theorem askG_r {kd:SortKind} {κ:Keyed→Int} {S:Keyed→Prop} (L:LtG M A E s kd κ S) {key:Keyed} {arr:Array Keyed} {base n:Nat} (hk:S key) (ha:∀ i,i < n→∃ x,arr[base+i]?=some x∧S x) :
    AskG M A E s false key arr base n kd (fun i=>!decide (κ key < κ (arr.getD (base+i) default))):=fun i hi st Q hs hq=>by
  obtain ⟨x,hx,sx⟩:=ha i hi
  refine wpS_bind (wpS_elemG hx ?_)
  rw [if_neg Bool.false_ne_true]
  refine wpS_bind (L key x hk sx st _ hs ?_)
  have e:arr.getD (base+i) default=x:=by rw [Array.getD_eq_getD_getElem?,hx]; rfl
  dsimp only at hq
  rw [e] at hq
  exact wpS_pure hq
end
end L2
namespace L2
open PySem PySem.Spec PyProof.Rows
section
variable {α:Type} {κ:α→Int}
def Rise (κ:α→Int) (xs:List α):Prop:=xs.Pairwise fun x y=>κ x≤κ y
structure MI (κ:α→Int) (a b out:List α) (ia ib:Nat):Prop where
  pm:(out++(a.drop ia++b.drop ib)).Perm (a++b)
  so:Rise κ out
  le:∀ x∈out,∀ y∈a.drop ia++b.drop ib,κ x≤κ y
  la:ia≤a.length
  lb:ib≤b.length
theorem Rise.drop {xs:List α} (h:Rise κ xs) (n:Nat):Rise κ (xs.drop n):=List.Pairwise.sublist (List.drop_sublist n xs) h
theorem Rise.app {xs ys:List α} (h1:Rise κ xs) (h2:Rise κ ys) (h:∀ x∈xs,∀ y∈ys,κ x≤κ y):Rise κ (xs++ys):=List.pairwise_append.mpr ⟨h1,h2,h⟩
theorem drop_split (xs:List α) (i k:Nat):xs.drop i=(xs.drop i).take k++xs.drop (i+k):=by
  rw [← List.drop_drop]; exact (List.take_append_drop k _).symm
theorem MI.start (a b:List α):MI κ a b [] 0 0:=⟨by simp,List.Pairwise.nil,fun x h=>absurd h List.not_mem_nil,Nat.zero_le _,Nat.zero_le _⟩
theorem MI.takeA {a b out:List α} {ia ib k:Nat} (m:MI κ a b out ia ib) (sa:Rise κ a) (hk:ia+k≤a.length) (h:∀ x∈(a.drop ia).take k,∀ y∈b.drop ib,κ x≤κ y):MI κ a b (out++(a.drop ia).take k) (ia+k) ib:=by
  have e:=drop_split a ia k
  have sd:=sa.drop ia
  rw [e] at sd
  obtain ⟨s1,s2,s3⟩:=List.pairwise_append.mp sd
  refine ⟨?_,m.so.app s1 fun x hx y hy=>m.le x hx y (List.mem_append_left _ (by rw [e]; exact List.mem_append_left _ hy)),fun x hx y hy=>?_,hk,m.lb⟩
  · refine List.Perm.trans ?_ m.pm
    rw [List.append_assoc,← List.append_assoc ((a.drop ia).take k),← e]
  · rcases List.mem_append.mp hx with hx | hx
    · rcases List.mem_append.mp hy with hy | hy
      · exact m.le x hx y (List.mem_append_left _ (by rw [e]; exact List.mem_append_right _ hy))
      · exact m.le x hx y (List.mem_append_right _ hy)
    · rcases List.mem_append.mp hy with hy | hy
      · exact s3 x hx y hy
      · exact h x hx y hy
theorem MI.takeB {a b out:List α} {ia ib k:Nat} (m:MI κ a b out ia ib) (sb:Rise κ b) (hk:ib+k≤b.length) (h:∀ x∈(b.drop ib).take k,∀ y∈a.drop ia,κ x≤κ y):MI κ a b (out++(b.drop ib).take k) ia (ib+k):=by
  have e:=drop_split b ib k
  have sd:=sb.drop ib
  rw [e] at sd
  obtain ⟨s1,s2,s3⟩:=List.pairwise_append.mp sd
  refine ⟨?_,m.so.app s1 fun x hx y hy=>m.le x hx y (List.mem_append_right _ (by rw [e]; exact List.mem_append_left _ hy)),fun x hx y hy=>?_,m.la,hk⟩
  · refine List.Perm.trans ?_ m.pm
    rw [List.append_assoc]
    refine List.Perm.append_left out ?_
    have e2:a.drop ia++b.drop ib=a.drop ia++((b.drop ib).take k++b.drop (ib+k)):=by rw [← e]
    rw [e2,← List.append_assoc,← List.append_assoc]
    exact List.Perm.append_right _ List.perm_append_comm
  · rcases List.mem_append.mp hx with hx | hx
    · rcases List.mem_append.mp hy with hy | hy
      · exact m.le x hx y (List.mem_append_left _ hy)
      · exact m.le x hx y (List.mem_append_right _ (by rw [e]; exact List.mem_append_right _ hy))
    · rcases List.mem_append.mp hy with hy | hy
      · exact h x hx y hy
      · exact s3 x hx y hy
theorem MI.done {a b out:List α} {ia ib:Nat} (m:MI κ a b out ia ib) (sa:Rise κ a) (sb:Rise κ b) (h:ib=b.length∨ia=a.length):Rise κ (out++a.drop ia++b.drop ib)∧(out++a.drop ia++b.drop ib).Perm (a++b):=by
  refine ⟨?_,by rw [List.append_assoc]; exact m.pm⟩
  rw [List.append_assoc]
  refine m.so.app ?_ m.le
  refine (sa.drop ia).app (sb.drop ib) fun x hx y hy=>?_
  rcases h with h | h
  · rw [h,List.drop_length] at hy; exact absurd hy List.not_mem_nil
  · rw [h,List.drop_length] at hx; exact absurd hx List.not_mem_nil
theorem MI.lastA {a b out:List α} {ia ib:Nat} (m:MI κ a b out ia ib) (sa:Rise κ a) (sb:Rise κ b) (h:∀ x∈b,∀ y∈a.drop ia,κ x≤κ y):Rise κ (out++b.drop ib++a.drop ia)∧(out++b.drop ib++a.drop ia).Perm (a++b):=by
  refine ⟨?_,?_⟩
  · rw [List.append_assoc]
    refine m.so.app ((sb.drop ib).app (sa.drop ia) fun x hx y hy=>h x (List.mem_of_mem_drop hx) y hy) fun x hx y hy=>m.le x hx y ?_
    rcases List.mem_append.mp hy with hy | hy
    · exact List.mem_append_right _ hy
    · exact List.mem_append_left _ hy
  · refine List.Perm.trans ?_ m.pm
    rw [List.append_assoc]
    exact List.Perm.append_left out List.perm_append_comm
end
end L2
namespace L2
open PySem PySem.Spec PyProof.Rows
section
variable {M:Model} {A:Around} {E:Value→Shared→Prop} {s:Shared}
def mergeLoG:Array Keyed→Array Keyed→StateT SortSt Sem (Array Keyed):=sortPriv% PySem.Builtin.mergeLo
theorem ext_all {α:Type} (a:Array α) (i:Nat):(a.extract i a.size).toList=a.toList.drop i:=by
  rw [Array.toList_extract,List.extract_eq_drop_take]
  exact List.take_of_length_le (by rw [List.length_drop,Array.length_toList]; omega)
theorem ext_k {α:Type} (a:Array α) (i k:Nat):(a.extract i (i+k)).toList=(a.toList.drop i).take k:=by
  rw [Array.toList_extract,List.extract_eq_drop_take]
  congr 1; omega
theorem getG {α:Type} {a:Array α} {i:Nat} (h:i < a.size):∃ x,a[i]?=some x∧x∈a.toList∧a.toList.drop i=x :: a.toList.drop (i+1):=by
  refine ⟨a[i],by simp [h],by simp,?_⟩
  have h':i < a.toList.length:=by rw [Array.length_toList]; exact h
  rw [List.drop_eq_getElem_cons h']; simp
theorem rise_head {α:Type} {κ:α→Int} {xs:List α} (h:Rise κ xs) {i:Nat} {x:α} (e:xs.drop i=x :: xs.drop (i+1)):∀ y∈xs.drop i,κ x≤κ y:=fun y hy=>by
  have hd:=h.drop i
  rw [e] at hd hy
  rcases List.mem_cons.mp hy with rfl | hy
  · exact Int.le_refl _
  · exact (List.pairwise_cons.mp hd).1 y hy
theorem rise_get {α:Type} [Inhabited α] {κ:α→Int} {a:Array α} (h:Rise κ a.toList) {i j:Nat} (hij:i≤j) (hj:j < a.size):κ (a.getD i default)≤κ (a.getD j default):=by
  have hi:i < a.size:=by omega
  have ei:a.getD i default=a.toList[i]'(by simpa using hi):=by simp [Array.getD,hi]
  have ej:a.getD j default=a.toList[j]'(by simpa using hj):=by simp [Array.getD,hj]
  rw [ei,ej]
  rcases Nat.lt_or_ge i j with h' | h'
  · exact List.pairwise_iff_getElem.mp h i j _ _ h'
  · have:i=j:=by omega
    subst this; exact Int.le_refl _
structure Like (st st':SortSt):Prop where
  kd:kindOf st'=kindOf st
  ar:arrOf st'=arrOf st
  pe:pendingOf st'=pendingOf st
  fa:failedOf st'=failedOf st
structure GoL (κ:Keyed→Int) (a b out:Array Keyed) (ia ib:Nat):Prop where
  mi:MI κ a.toList b.toList out.toList ia ib
  la:ia+1 < a.size
  lb:ib < b.size
def MergedG (κ:Keyed→Int) (a b r:Array Keyed):Prop:=Rise κ r.toList∧r.toList.Perm (a.toList++b.toList)
theorem merged_done {κ:Keyed→Int} {a b out:Array Keyed} {ia ib:Nat} (m:MI κ a.toList b.toList out.toList ia ib) (sa:Rise κ a.toList) (sb:Rise κ b.toList) (h:ib=b.size∨ia=a.size):MergedG κ a b (out++a.extract ia a.size++b.extract ib b.size):=by
  have:=m.done sa sb (by rw [Array.length_toList,Array.length_toList]; exact h)
  unfold MergedG
  rw [Array.toList_append,Array.toList_append,ext_all,ext_all]
  exact this
theorem merged_last {κ:Keyed→Int} {a b out:Array Keyed} {ia ib:Nat} (m:MI κ a.toList b.toList out.toList ia ib) (sa:Rise κ a.toList) (sb:Rise κ b.toList) (h:∀ x∈b.toList,∀ y∈a.toList.drop ia,κ x≤κ y):MergedG κ a b (out++b.extract ib b.size++a.extract ia a.size):=by
  have:=m.lastA sa sb h
  unfold MergedG
  rw [Array.toList_append,Array.toList_append,ext_all,ext_all]
  exact this
theorem GoL.stepB {κ:Keyed→Int} {a b out:Array Keyed} {ia ib:Nat} {x y:Keyed} (g:GoL κ a b out ia ib) (sa:Rise κ a.toList) (sb:Rise κ b.toList) (db:b.toList.drop ib=x :: b.toList.drop (ib+1)) (da:a.toList.drop ia=y :: a.toList.drop (ia+1)) (h:κ x≤κ y):MI κ a.toList b.toList (out.push x).toList ia (ib+1):=by
  have:=g.mi.takeB sb (k:=1) (by rw [Array.length_toList]; have:=g.lb; omega) (fun z hz w hw=>?_)
  · rw [db] at this
    rw [Array.toList_push]
    simpa using this
  · rw [db] at hz
    have:z=x:=by simpa using hz
    rw [this]
    exact Int.le_trans h (rise_head sa da w hw)
theorem GoL.stepA {κ:Keyed→Int} {a b out:Array Keyed} {ia ib:Nat} {x y:Keyed} (g:GoL κ a b out ia ib) (sa:Rise κ a.toList) (sb:Rise κ b.toList) (db:b.toList.drop ib=x :: b.toList.drop (ib+1)) (da:a.toList.drop ia=y :: a.toList.drop (ia+1)) (h:κ y≤κ x):MI κ a.toList b.toList (out.push y).toList (ia+1) ib:=by
  have:=g.mi.takeA sa (k:=1) (by rw [Array.length_toList]; have:=g.la; omega) (fun z hz w hw=>?_)
  · rw [da] at this
    rw [Array.toList_push]
    simpa using this
  · rw [da] at hz
    have:z=y:=by simpa using hz
    rw [this]
    exact Int.le_trans h (rise_head sb db w hw)
theorem MI.pushB {κ:Keyed→Int} {a b out:Array Keyed} {ia ib:Nat} {x:Keyed} (m:MI κ a.toList b.toList out.toList ia ib) (sb:Rise κ b.toList) (lb:ib < b.size) (db:b.toList.drop ib=x :: b.toList.drop (ib+1)) (h:∀ w∈a.toList.drop ia,κ x≤κ w):MI κ a.toList b.toList (out.push x).toList ia (ib+1):=by
  have:=m.takeB sb (k:=1) (by rw [Array.length_toList]; omega) (fun z hz w hw=>?_)
  · rw [db] at this
    rw [Array.toList_push]
    simpa using this
  · rw [db] at hz
    have:z=x:=by simpa using hz
    rw [this]; exact h w hw
theorem MI.pushA {κ:Keyed→Int} {a b out:Array Keyed} {ia ib:Nat} {x:Keyed} (m:MI κ a.toList b.toList out.toList ia ib) (sa:Rise κ a.toList) (la:ia < a.size) (da:a.toList.drop ia=x :: a.toList.drop (ia+1)) (h:∀ w∈b.toList.drop ib,κ x≤κ w):MI κ a.toList b.toList (out.push x).toList (ia+1) ib:=by
  have:=m.takeA sa (k:=1) (by rw [Array.length_toList]; omega) (fun z hz w hw=>?_)
  · rw [da] at this
    rw [Array.toList_push]
    simpa using this
  · rw [da] at hz
    have:z=x:=by simpa using hz
    rw [this]; exact h w hw
theorem MI.extA {κ:Keyed→Int} {a b out:Array Keyed} {ia ib k:Nat} (m:MI κ a.toList b.toList out.toList ia ib) (sa:Rise κ a.toList) (hk:ia+k≤a.size) (h:∀ x∈(a.toList.drop ia).take k,∀ y∈b.toList.drop ib,κ x≤κ y):MI κ a.toList b.toList (out++a.extract ia (ia+k)).toList (ia+k) ib:=by
  rw [Array.toList_append,ext_k]
  exact m.takeA sa (by rw [Array.length_toList]; exact hk) h
theorem MI.extB {κ:Keyed→Int} {a b out:Array Keyed} {ia ib k:Nat} (m:MI κ a.toList b.toList out.toList ia ib) (sb:Rise κ b.toList) (hk:ib+k≤b.size) (h:∀ x∈(b.toList.drop ib).take k,∀ y∈a.toList.drop ia,κ x≤κ y):MI κ a.toList b.toList (out++b.extract ib (ib+k)).toList ia (ib+k):=by
  rw [Array.toList_append,ext_k]
  exact m.takeB sb (by rw [Array.length_toList]; exact hk) h
theorem mem_dropG {a:Array Keyed} {i:Nat} {x:Keyed} (h:x∈a.toList.drop i):∃ j,i+j < a.size∧x=a.getD (i+j) default:=by
  obtain ⟨j,hj,e⟩:=List.getElem_of_mem h
  rw [List.length_drop,Array.length_toList] at hj
  refine ⟨j,by omega,?_⟩
  rw [List.getElem_drop] at e
  rw [← e]
  have:i+j < a.size:=by omega
  simp [Array.getD,this]
theorem mem_takeG {a:Array Keyed} {i k:Nat} {x:Keyed} (h:x∈(a.toList.drop i).take k):∃ j,j < k∧i+j < a.size∧x=a.getD (i+j) default:=by
  obtain ⟨j,hj,e⟩:=List.getElem_of_mem h
  rw [List.length_take,List.length_drop,Array.length_toList] at hj
  refine ⟨j,by omega,by omega,?_⟩
  rw [List.getElem_take,List.getElem_drop] at e
  rw [← e]
  have:i+j < a.size:=by omega
  simp [Array.getD,this]
theorem getD_of {a:Array Keyed} {i:Nat} {x:Keyed} (h:a[i]?=some x):a.getD i default=x:=by rw [Array.getD_eq_getD_getElem?,h]; rfl
theorem wpS_mergeLo {kd:SortKind} {κ:Keyed→Int} {S:Keyed→Prop} {a b:Array Keyed} {st:SortSt} {Q:Array Keyed→SortSt→Prop} (L:LtG M A E s kd κ S) (hk:kindOf st=kd) (ha:0 < a.size) (hb:0 < b.size) (hSa:∀ x∈a.toList,S x) (hSb:∀ x∈b.toList,S x)
    (sa:Rise κ a.toList) (sb:Rise κ b.toList) (hf:∀ x∈b.toList.take 1,∀ y∈a.toList,κ x≤κ y) (hl:∀ x∈b.toList,∀ y∈a.toList.drop (a.size - 1),κ x≤κ y)
    (h:∀ r st',MergedG κ a b r→Like st st'→Q r st'):wpS M A E s (mergeLoG a b) Q st:=by
  refine wpS_bind (wpS_lift (wpAny_rule ⟨rfl,?_⟩))
  obtain ⟨b0,eb0,mb0,db0⟩:=getG hb
  have lk0:Like st st:=⟨rfl,rfl,rfl,rfl⟩
  have m0:MI κ a.toList b.toList (#[b0]:Array Keyed).toList 0 1:=by
    have:=(MI.start (κ:=κ) a.toList b.toList).takeB sb (k:=1) (by rw [Array.length_toList]; omega) (fun x hx y hy=>hf x (by simpa using hx) y (by simpa using hy))
    rw [db0] at this
    simpa using this
  refine wpS_bind (wpS_elemG eb0 ?_)
  dsimp only
  by_cases h1:1=b.size
  · rw [if_pos (beq_iff_eq.mpr h1)]
    exact wpS_pure (h _ _ (merged_done m0 sa sb (.inl h1)) lk0)
  rw [if_neg (fun z=>h1 (beq_iff_eq.mp z))]
  by_cases h2:0+1=a.size
  · rw [if_pos (beq_iff_eq.mpr h2)]
    exact wpS_pure (h _ _ (merged_last m0 sa sb (by rw [show (0:Nat)=a.size - 1 by omega]; exact hl)) lk0)
  rw [if_neg (fun z=>h2 (beq_iff_eq.mp z))]
  refine wpS_bind (wpS_get ?_)
  refine wpS_bind (wpS_mono (wpS_forRange (I:=fun x (c:Option (Array Keyed) × Array Keyed × Nat × Nat × Nat) st'=>c.1=none∧GoL κ a b c.2.1 c.2.2.1 c.2.2.2.1∧x+1≤c.2.2.1+c.2.2.2.1∧Like st st')
    (Q:=fun (c:Option (Array Keyed) × Array Keyed × Nat × Nat × Nat) st'=>Like st st'∧∃ r,c.1=some r∧MergedG κ a b r) ?ostep ?ofin (And.intro rfl ⟨⟨m0,by show 0+1 < a.size; omega,by show 1 < b.size; omega⟩,by show 0+1≤0+1; omega,lk0⟩)) ?opost)
  case ofin =>
    rintro ⟨r,out,ia,ib,mg⟩ st1 ⟨e1,go,hge,lk⟩
    have hge:max 0 (a.size+b.size)+1≤ia+ib:=hge
    have l1:ia+1 < a.size:=go.la
    have l2:ib < b.size:=go.lb
    omega
  case opost =>
    rintro ⟨r,out,ia,ib,mg⟩ st1 ⟨lk,r',e1,mr⟩
    have e1:r=some r':=e1
    subst e1
    exact wpS_pure (h _ _ mr lk)
  case ostep =>
    rintro x ⟨r,out,ia,ib,mg⟩ st1 _ hx ⟨e1,go,hge,lk⟩
    have e1:r=none:=e1
    subst e1
    have hge:x+1≤ia+ib:=hge
    dsimp only
    refine wpS_bind (wpS_mono (wpS_forRange (I:=fun y (c:Option (Array Keyed) × Array Keyed × Nat × Nat × Nat × Nat) st'=>c.1=none∧GoL κ a b c.2.1 c.2.2.1 c.2.2.2.1∧c.2.2.1+c.2.2.2.1=ia+ib+y∧Like st st')
      (Q:=fun (c:Option (Array Keyed) × Array Keyed × Nat × Nat × Nat × Nat) st'=>Like st st'∧((∃ r,c.1=some r∧MergedG κ a b r)∨(c.1=none∧GoL κ a b c.2.1 c.2.2.1 c.2.2.2.1∧ia+ib+1≤c.2.2.1+c.2.2.2.1))) ?istep ?ifin (And.intro rfl ⟨go,rfl,lk⟩)) ?ipost)
    case ifin =>
      rintro ⟨r,out,ia',ib',ac,bc⟩ st2 ⟨e1,go',hs,lk'⟩
      have hs:ia'+ib'=ia+ib+max 0 (a.size+b.size):=hs
      exact And.intro lk' (.inr ⟨e1,go',by show ia+ib+1≤ia'+ib'; omega⟩)
    case istep =>
      rintro y ⟨r,out',ia',ib',ac,bc⟩ st2 _ hy ⟨e1,go',hs,lk'⟩
      have e1:r=none:=e1
      subst e1
      have go':GoL κ a b out' ia' ib':=go'
      have hs:ia'+ib'=ia+ib+y:=hs
      have l1:=go'.la
      have l2:=go'.lb
      dsimp only
      obtain ⟨xb,exb,mb,db⟩:=getG l2
      obtain ⟨xa,exa,ma,da⟩:=getG (show ia' < a.size by omega)
      refine wpS_bind (wpS_elemG exb (wpS_bind (wpS_elemG exa (wpS_bind (L xb xa (hSb _ mb) (hSa _ ma) st2 _ (lk'.kd.trans hk) ?_)))))
      dsimp only
      by_cases hlt:κ xb < κ xa
      · rw [decide_eq_true hlt,if_pos rfl]
        refine wpS_bind (wpS_elemG exb ?_)
        have mi':=go'.stepB sa sb db da (Int.le_of_lt hlt)
        by_cases q1:ib'+1=b.size
        · rw [if_pos (beq_iff_eq.mpr q1)]
          exact wpS_pure (And.intro lk' (.inl ⟨_,rfl,merged_done mi' sa sb (.inl q1)⟩))
        · rw [if_neg (fun z=>q1 (beq_iff_eq.mp z))]
          have gn:GoL κ a b (out'.push xb) ia' (ib'+1):=⟨mi',l1,by omega⟩
          split
          · exact wpS_pure (And.intro lk' (.inr ⟨rfl,gn,by show ia+ib+1≤ia'+(ib'+1); omega⟩))
          · exact wpS_pure (And.intro rfl ⟨gn,by show ia'+(ib'+1)=ia+ib+(y+1); omega,lk'⟩)
      · rw [decide_eq_false hlt,if_neg Bool.false_ne_true]
        refine wpS_bind (wpS_elemG exa ?_)
        have mi':=go'.stepA sa sb db da (by omega)
        by_cases q1:ia'+1+1=a.size
        · rw [if_pos (beq_iff_eq.mpr q1)]
          exact wpS_pure (And.intro lk' (.inl ⟨_,rfl,merged_last mi' sa sb (by rw [show ia'+1=a.size - 1 by omega]; exact hl)⟩))
        · rw [if_neg (fun z=>q1 (beq_iff_eq.mp z))]
          have gn:GoL κ a b (out'.push xa) (ia'+1) ib':=⟨mi',by omega,l2⟩
          split
          · exact wpS_pure (And.intro lk' (.inr ⟨rfl,gn,by show ia+ib+1≤ia'+1+ib'; omega⟩))
          · exact wpS_pure (And.intro rfl ⟨gn,by show ia'+1+ib'=ia+ib+(y+1); omega,lk'⟩)
    case ipost =>
      rintro ⟨r,out',ia',ib',ac,bc⟩ st2 ⟨lk',hh⟩
      rcases hh with ⟨r',e1,mr⟩ | ⟨e1,go',hs⟩
      · have e1:r=some r':=e1
        subst e1
        exact wpS_pure (And.intro lk' ⟨_,rfl,mr⟩)
      · have e1:r=none:=e1
        subst e1
        have go':GoL κ a b out' ia' ib':=go'
        have hs:ia+ib+1≤ia'+ib':=hs
        dsimp only
        refine wpS_bind (wpS_lift (wpAny_rule ⟨rfl,?_⟩))
        refine wpS_bind (wpS_mono (wpS_forRange (I:=fun y (c:Option (Array Keyed) × Array Keyed × Nat × Nat × Nat × Nat × Nat) st'=>c.1=none∧GoL κ a b c.2.1 c.2.2.1 c.2.2.2.1∧ia+ib+1≤c.2.2.1+c.2.2.2.1∧Like st st')
          (Q:=fun (c:Option (Array Keyed) × Array Keyed × Nat × Nat × Nat × Nat × Nat) st'=>Like st st'∧((∃ r,c.1=some r∧MergedG κ a b r)∨(c.1=none∧GoL κ a b c.2.1 c.2.2.1 c.2.2.2.1∧ia+ib+1≤c.2.2.1+c.2.2.2.1))) ?gstep ?gfin (And.intro rfl ⟨go',hs,lk'⟩)) ?gpost)
        case gfin =>
          rintro ⟨r,out,ia2,ib2,mg2,ac,bc⟩ st3 ⟨e1,go2,hs2,lk2⟩
          exact And.intro lk2 (.inr ⟨e1,go2,hs2⟩)
        case gpost =>
          rintro ⟨r,out,ia2,ib2,mg2,ac,bc⟩ st3 ⟨lk2,hh2⟩
          rcases hh2 with ⟨r',e1,mr⟩ | ⟨e1,go2,hs2⟩
          · have e1:r=some r':=e1
            subst e1
            exact wpS_pure (And.intro lk2 ⟨_,rfl,mr⟩)
          · have e1:r=none:=e1
            subst e1
            have hs2:ia+ib+1≤ia2+ib2:=hs2
            refine wpS_bind (wpS_modify ?_)
            exact wpS_pure (And.intro rfl ⟨go2,by show x+1+1≤ia2+ib2; omega,⟨lk2.kd,lk2.ar,lk2.pe,lk2.fa⟩⟩)
        case gstep =>
          rintro y ⟨r,out2,ia2,ib2,mg2,ac,bc⟩ st3 _ hy ⟨e1,go2,hs2,lk2⟩
          have e1:r=none:=e1
          subst e1
          have go2:GoL κ a b out2 ia2 ib2:=go2
          have hs2:ia+ib+1≤ia2+ib2:=hs2
          dsimp only
          have l1:=go2.la
          have l2:=go2.lb
          have inA:∀ i,i < a.size→∃ x,a[i]?=some x∧S x:=fun i hi=>by
            obtain ⟨x,e,m,_⟩:=getG hi
            exact ⟨x,e,hSa x m⟩
          have inB:∀ i,i < b.size→∃ x,b[i]?=some x∧S x:=fun i hi=>by
            obtain ⟨x,e,m,_⟩:=getG hi
            exact ⟨x,e,hSb x m⟩
          by_cases hm:mg2 > 1
          · rw [if_pos hm]
            refine wpS_bind (wpS_modify ?_)
            have lkN:Like st (SortSt.mk' (kindOf st3) (arrOf st3) (pendingOf st3) (mg2 - 1) (failedOf st3)):=⟨lk2.kd,lk2.ar,lk2.pe,lk2.fa⟩
            obtain ⟨xb,exb,mb,db⟩:=getG l2
            refine wpS_bind (wpS_elemG exb (wpS_bind (wpS_gallop (B:=fun i=>!decide (κ xb < κ (a.getD (ia2+i) default))) (lkN.kd.trans hk) (askG_r L (hSb _ mb) (fun i hi=>inA _ (by omega))) (fun i j hij hj hB=>?_) (by omega) fun k hk' f1 f2=>?_)))
            · have h3:=rise_get sa (i:=ia2+i) (j:=ia2+j) (by omega) (by omega)
              simp only [Bool.not_eq_true',decide_eq_false_iff_not] at hB ⊢
              omega
            have u1:∀ z∈(a.toList.drop ia2).take k,∀ w∈b.toList.drop ib2,κ z≤κ w:=fun z hz w hw=>by
              obtain ⟨j,j1,j2,rfl⟩:=mem_takeG hz
              have h3:=f1 j j1
              simp only [Bool.not_eq_true',decide_eq_false_iff_not] at h3
              have h4:=rise_head sb db w hw
              omega
            have u2:∀ w∈a.toList.drop (ia2+k),κ xb≤κ w:=fun w hw=>by
              obtain ⟨j,j1,rfl⟩:=mem_dropG hw
              have h3:=f2 (k+j) (by omega) (by omega)
              simp only [Bool.not_eq_false',decide_eq_true_eq] at h3
              rw [← Nat.add_assoc] at h3
              omega
            dsimp only
            by_cases p0:k > 0
            · rw [if_pos p0]
              have m2:=go2.mi.extA sa (k:=k) (by omega) u1
              by_cases q1:ia2+k+1=a.size
              · rw [if_pos (beq_iff_eq.mpr q1)]
                exact wpS_pure (And.intro lkN (.inl ⟨_,rfl,merged_last m2 sa sb (by rw [show ia2+k=a.size - 1 by omega]; exact hl)⟩))
              · rw [if_neg (fun z=>q1 (beq_iff_eq.mp z))]
                by_cases q2:ia2+k=a.size
                · rw [if_pos (beq_iff_eq.mpr q2)]
                  exact wpS_pure (And.intro lkN (.inl ⟨_,rfl,merged_done m2 sa sb (.inr q2)⟩))
                · rw [if_neg (fun z=>q2 (beq_iff_eq.mp z))]
                  have kB:=u2
                  refine wpS_bind (wpS_elemG exb ?_)
                  have m3:=m2.pushB sb l2 db kB
                  by_cases q3:ib2+1=b.size
                  · rw [if_pos (beq_iff_eq.mpr q3)]
                    exact wpS_pure (And.intro lkN (.inl ⟨_,rfl,merged_done m3 sa sb (.inl q3)⟩))
                  · rw [if_neg (fun z=>q3 (beq_iff_eq.mp z))]
                    obtain ⟨xa,exa,ma,da⟩:=getG (show ia2+k < a.size by omega)
                    refine wpS_bind (wpS_elemG exa (wpS_bind (wpS_gallop (B:=fun i=>decide (κ (b.getD (ib2+1+i) default) < κ xa)) (lkN.kd.trans hk) (askG_l L (hSa _ ma) (fun i hi=>inB _ (by omega))) (fun i j hij hj hB=>decide_eq_true (Int.lt_of_le_of_lt (rise_get sb (by omega) (by omega)) (of_decide_eq_true hB))) (by omega) fun k1 hk1 g1 g2=>?_)))
                    have t1:∀ z∈(b.toList.drop (ib2+1)).take k1,∀ w∈a.toList.drop (ia2+k),κ z≤κ w:=fun z hz w hw=>by
                      obtain ⟨j,j1,j2,rfl⟩:=mem_takeG hz
                      exact Int.le_trans (Int.le_of_lt (of_decide_eq_true (g1 j j1))) (rise_head sa da w hw)
                    have t2:∀ w∈b.toList.drop (ib2+1+k1),κ xa≤κ w:=fun w hw=>by
                      obtain ⟨j,j1,rfl⟩:=mem_dropG hw
                      have:=of_decide_eq_false (g2 (k1+j) (by omega) (by omega))
                      rw [← Nat.add_assoc] at this
                      omega
                    dsimp only
                    by_cases p1:k1 > 0
                    · rw [if_pos p1]
                      have m4:=m3.extB sb (k:=k1) (by omega) t1
                      by_cases q4:ib2+1+k1=b.size
                      · rw [if_pos (beq_iff_eq.mpr q4)]
                        exact wpS_pure (And.intro lkN (.inl ⟨_,rfl,merged_done m4 sa sb (.inl q4)⟩))
                      · rw [if_neg (fun z=>q4 (beq_iff_eq.mp z))]
                        have kA:=t2
                        refine wpS_bind (wpS_elemG exa ?_)
                        have m5:=m4.pushA sa (by omega) da kA
                        by_cases q5:ia2+k+1+1=a.size
                        · rw [if_pos (beq_iff_eq.mpr q5)]
                          exact wpS_pure (And.intro lkN (.inl ⟨_,rfl,merged_last m5 sa sb (by rw [show ia2+k+1=a.size - 1 by omega]; exact hl)⟩))
                        · rw [if_neg (fun z=>q5 (beq_iff_eq.mp z))]
                          have gn:GoL κ a b _ (ia2+k+1) (ib2+1+k1):=⟨m5,by omega,by omega⟩
                          split
                          · exact wpS_pure (And.intro lkN (.inr ⟨rfl,gn,by show ia+ib+1≤ia2+k+1+(ib2+1+k1); omega⟩))
                          · exact wpS_pure (And.intro rfl ⟨gn,by show ia+ib+1≤ia2+k+1+(ib2+1+k1); omega,lkN⟩)
                    · rw [if_neg p1]
                      have k10:k1=0:=by omega
                      subst k10
                      have kA:∀ w∈b.toList.drop (ib2+1),κ xa≤κ w:=t2
                      refine wpS_bind (wpS_elemG exa ?_)
                      have m5:=m3.pushA sa (by omega) da kA
                      by_cases q5:ia2+k+1+1=a.size
                      · rw [if_pos (beq_iff_eq.mpr q5)]
                        exact wpS_pure (And.intro lkN (.inl ⟨_,rfl,merged_last m5 sa sb (by rw [show ia2+k+1=a.size - 1 by omega]; exact hl)⟩))
                      · rw [if_neg (fun z=>q5 (beq_iff_eq.mp z))]
                        have gn:GoL κ a b _ (ia2+k+1) (ib2+1):=⟨m5,by omega,by omega⟩
                        split
                        · exact wpS_pure (And.intro lkN (.inr ⟨rfl,gn,by show ia+ib+1≤ia2+k+1+(ib2+1); omega⟩))
                        · exact wpS_pure (And.intro rfl ⟨gn,by show ia+ib+1≤ia2+k+1+(ib2+1); omega,lkN⟩)
            · rw [if_neg p0]
              have k00:k=0:=by omega
              subst k00
              have kB:∀ w∈a.toList.drop ia2,κ xb≤κ w:=u2
              have mi2:=go2.mi
              refine wpS_bind (wpS_elemG exb ?_)
              have m3:=mi2.pushB sb l2 db kB
              by_cases q3:ib2+1=b.size
              · rw [if_pos (beq_iff_eq.mpr q3)]
                exact wpS_pure (And.intro lkN (.inl ⟨_,rfl,merged_done m3 sa sb (.inl q3)⟩))
              · rw [if_neg (fun z=>q3 (beq_iff_eq.mp z))]
                obtain ⟨xa,exa,ma,da⟩:=getG (show ia2 < a.size by omega)
                refine wpS_bind (wpS_elemG exa (wpS_bind (wpS_gallop (B:=fun i=>decide (κ (b.getD (ib2+1+i) default) < κ xa)) (lkN.kd.trans hk) (askG_l L (hSa _ ma) (fun i hi=>inB _ (by omega))) (fun i j hij hj hB=>decide_eq_true (Int.lt_of_le_of_lt (rise_get sb (by omega) (by omega)) (of_decide_eq_true hB))) (by omega) fun k1 hk1 g1 g2=>?_)))
                have t1:∀ z∈(b.toList.drop (ib2+1)).take k1,∀ w∈a.toList.drop (ia2),κ z≤κ w:=fun z hz w hw=>by
                  obtain ⟨j,j1,j2,rfl⟩:=mem_takeG hz
                  exact Int.le_trans (Int.le_of_lt (of_decide_eq_true (g1 j j1))) (rise_head sa da w hw)
                have t2:∀ w∈b.toList.drop (ib2+1+k1),κ xa≤κ w:=fun w hw=>by
                  obtain ⟨j,j1,rfl⟩:=mem_dropG hw
                  have:=of_decide_eq_false (g2 (k1+j) (by omega) (by omega))
                  rw [← Nat.add_assoc] at this
                  omega
                dsimp only
                by_cases p1:k1 > 0
                · rw [if_pos p1]
                  have m4:=m3.extB sb (k:=k1) (by omega) t1
                  by_cases q4:ib2+1+k1=b.size
                  · rw [if_pos (beq_iff_eq.mpr q4)]
                    exact wpS_pure (And.intro lkN (.inl ⟨_,rfl,merged_done m4 sa sb (.inl q4)⟩))
                  · rw [if_neg (fun z=>q4 (beq_iff_eq.mp z))]
                    have kA:=t2
                    refine wpS_bind (wpS_elemG exa ?_)
                    have m5:=m4.pushA sa (by omega) da kA
                    by_cases q5:ia2+1+1=a.size
                    · rw [if_pos (beq_iff_eq.mpr q5)]
                      exact wpS_pure (And.intro lkN (.inl ⟨_,rfl,merged_last m5 sa sb (by rw [show ia2+1=a.size - 1 by omega]; exact hl)⟩))
                    · rw [if_neg (fun z=>q5 (beq_iff_eq.mp z))]
                      have gn:GoL κ a b _ (ia2+1) (ib2+1+k1):=⟨m5,by omega,by omega⟩
                      split
                      · exact wpS_pure (And.intro lkN (.inr ⟨rfl,gn,by show ia+ib+1≤ia2+1+(ib2+1+k1); omega⟩))
                      · exact wpS_pure (And.intro rfl ⟨gn,by show ia+ib+1≤ia2+1+(ib2+1+k1); omega,lkN⟩)
                · rw [if_neg p1]
                  have k10:k1=0:=by omega
                  subst k10
                  have kA:∀ w∈b.toList.drop (ib2+1),κ xa≤κ w:=t2
                  refine wpS_bind (wpS_elemG exa ?_)
                  have m5:=m3.pushA sa (by omega) da kA
                  by_cases q5:ia2+1+1=a.size
                  · rw [if_pos (beq_iff_eq.mpr q5)]
                    exact wpS_pure (And.intro lkN (.inl ⟨_,rfl,merged_last m5 sa sb (by rw [show ia2+1=a.size - 1 by omega]; exact hl)⟩))
                  · rw [if_neg (fun z=>q5 (beq_iff_eq.mp z))]
                    have gn:GoL κ a b _ (ia2+1) (ib2+1):=⟨m5,by omega,by omega⟩
                    split
                    · exact wpS_pure (And.intro lkN (.inr ⟨rfl,gn,by show ia+ib+1≤ia2+1+(ib2+1); omega⟩))
                    · exact wpS_pure (And.intro rfl ⟨gn,by show ia+ib+1≤ia2+1+(ib2+1); omega,lkN⟩)
          · rw [if_neg hm]
            refine wpS_bind (wpS_modify ?_)
            have lkN:Like st (SortSt.mk' (kindOf st3) (arrOf st3) (pendingOf st3) mg2 (failedOf st3)):=⟨lk2.kd,lk2.ar,lk2.pe,lk2.fa⟩
            obtain ⟨xb,exb,mb,db⟩:=getG l2
            refine wpS_bind (wpS_elemG exb (wpS_bind (wpS_gallop (B:=fun i=>!decide (κ xb < κ (a.getD (ia2+i) default))) (lkN.kd.trans hk) (askG_r L (hSb _ mb) (fun i hi=>inA _ (by omega))) (fun i j hij hj hB=>?_) (by omega) fun k hk' f1 f2=>?_)))
            · have h3:=rise_get sa (i:=ia2+i) (j:=ia2+j) (by omega) (by omega)
              simp only [Bool.not_eq_true',decide_eq_false_iff_not] at hB ⊢
              omega
            have u1:∀ z∈(a.toList.drop ia2).take k,∀ w∈b.toList.drop ib2,κ z≤κ w:=fun z hz w hw=>by
              obtain ⟨j,j1,j2,rfl⟩:=mem_takeG hz
              have h3:=f1 j j1
              simp only [Bool.not_eq_true',decide_eq_false_iff_not] at h3
              have h4:=rise_head sb db w hw
              omega
            have u2:∀ w∈a.toList.drop (ia2+k),κ xb≤κ w:=fun w hw=>by
              obtain ⟨j,j1,rfl⟩:=mem_dropG hw
              have h3:=f2 (k+j) (by omega) (by omega)
              simp only [Bool.not_eq_false',decide_eq_true_eq] at h3
              rw [← Nat.add_assoc] at h3
              omega
            dsimp only
            by_cases p0:k > 0
            · rw [if_pos p0]
              have m2:=go2.mi.extA sa (k:=k) (by omega) u1
              by_cases q1:ia2+k+1=a.size
              · rw [if_pos (beq_iff_eq.mpr q1)]
                exact wpS_pure (And.intro lkN (.inl ⟨_,rfl,merged_last m2 sa sb (by rw [show ia2+k=a.size - 1 by omega]; exact hl)⟩))
              · rw [if_neg (fun z=>q1 (beq_iff_eq.mp z))]
                by_cases q2:ia2+k=a.size
                · rw [if_pos (beq_iff_eq.mpr q2)]
                  exact wpS_pure (And.intro lkN (.inl ⟨_,rfl,merged_done m2 sa sb (.inr q2)⟩))
                · rw [if_neg (fun z=>q2 (beq_iff_eq.mp z))]
                  have kB:=u2
                  refine wpS_bind (wpS_elemG exb ?_)
                  have m3:=m2.pushB sb l2 db kB
                  by_cases q3:ib2+1=b.size
                  · rw [if_pos (beq_iff_eq.mpr q3)]
                    exact wpS_pure (And.intro lkN (.inl ⟨_,rfl,merged_done m3 sa sb (.inl q3)⟩))
                  · rw [if_neg (fun z=>q3 (beq_iff_eq.mp z))]
                    obtain ⟨xa,exa,ma,da⟩:=getG (show ia2+k < a.size by omega)
                    refine wpS_bind (wpS_elemG exa (wpS_bind (wpS_gallop (B:=fun i=>decide (κ (b.getD (ib2+1+i) default) < κ xa)) (lkN.kd.trans hk) (askG_l L (hSa _ ma) (fun i hi=>inB _ (by omega))) (fun i j hij hj hB=>decide_eq_true (Int.lt_of_le_of_lt (rise_get sb (by omega) (by omega)) (of_decide_eq_true hB))) (by omega) fun k1 hk1 g1 g2=>?_)))
                    have t1:∀ z∈(b.toList.drop (ib2+1)).take k1,∀ w∈a.toList.drop (ia2+k),κ z≤κ w:=fun z hz w hw=>by
                      obtain ⟨j,j1,j2,rfl⟩:=mem_takeG hz
                      exact Int.le_trans (Int.le_of_lt (of_decide_eq_true (g1 j j1))) (rise_head sa da w hw)
                    have t2:∀ w∈b.toList.drop (ib2+1+k1),κ xa≤κ w:=fun w hw=>by
                      obtain ⟨j,j1,rfl⟩:=mem_dropG hw
                      have:=of_decide_eq_false (g2 (k1+j) (by omega) (by omega))
                      rw [← Nat.add_assoc] at this
                      omega
                    dsimp only
                    by_cases p1:k1 > 0
                    · rw [if_pos p1]
                      have m4:=m3.extB sb (k:=k1) (by omega) t1
                      by_cases q4:ib2+1+k1=b.size
                      · rw [if_pos (beq_iff_eq.mpr q4)]
                        exact wpS_pure (And.intro lkN (.inl ⟨_,rfl,merged_done m4 sa sb (.inl q4)⟩))
                      · rw [if_neg (fun z=>q4 (beq_iff_eq.mp z))]
                        have kA:=t2
                        refine wpS_bind (wpS_elemG exa ?_)
                        have m5:=m4.pushA sa (by omega) da kA
                        by_cases q5:ia2+k+1+1=a.size
                        · rw [if_pos (beq_iff_eq.mpr q5)]
                          exact wpS_pure (And.intro lkN (.inl ⟨_,rfl,merged_last m5 sa sb (by rw [show ia2+k+1=a.size - 1 by omega]; exact hl)⟩))
                        · rw [if_neg (fun z=>q5 (beq_iff_eq.mp z))]
                          have gn:GoL κ a b _ (ia2+k+1) (ib2+1+k1):=⟨m5,by omega,by omega⟩
                          split
                          · exact wpS_pure (And.intro lkN (.inr ⟨rfl,gn,by show ia+ib+1≤ia2+k+1+(ib2+1+k1); omega⟩))
                          · exact wpS_pure (And.intro rfl ⟨gn,by show ia+ib+1≤ia2+k+1+(ib2+1+k1); omega,lkN⟩)
                    · rw [if_neg p1]
                      have k10:k1=0:=by omega
                      subst k10
                      have kA:∀ w∈b.toList.drop (ib2+1),κ xa≤κ w:=t2
                      refine wpS_bind (wpS_elemG exa ?_)
                      have m5:=m3.pushA sa (by omega) da kA
                      by_cases q5:ia2+k+1+1=a.size
                      · rw [if_pos (beq_iff_eq.mpr q5)]
                        exact wpS_pure (And.intro lkN (.inl ⟨_,rfl,merged_last m5 sa sb (by rw [show ia2+k+1=a.size - 1 by omega]; exact hl)⟩))
                      · rw [if_neg (fun z=>q5 (beq_iff_eq.mp z))]
                        have gn:GoL κ a b _ (ia2+k+1) (ib2+1):=⟨m5,by omega,by omega⟩
                        split
                        · exact wpS_pure (And.intro lkN (.inr ⟨rfl,gn,by show ia+ib+1≤ia2+k+1+(ib2+1); omega⟩))
                        · exact wpS_pure (And.intro rfl ⟨gn,by show ia+ib+1≤ia2+k+1+(ib2+1); omega,lkN⟩)
            · rw [if_neg p0]
              have k00:k=0:=by omega
              subst k00
              have kB:∀ w∈a.toList.drop ia2,κ xb≤κ w:=u2
              have mi2:=go2.mi
              refine wpS_bind (wpS_elemG exb ?_)
              have m3:=mi2.pushB sb l2 db kB
              by_cases q3:ib2+1=b.size
              · rw [if_pos (beq_iff_eq.mpr q3)]
                exact wpS_pure (And.intro lkN (.inl ⟨_,rfl,merged_done m3 sa sb (.inl q3)⟩))
              · rw [if_neg (fun z=>q3 (beq_iff_eq.mp z))]
                obtain ⟨xa,exa,ma,da⟩:=getG (show ia2 < a.size by omega)
                refine wpS_bind (wpS_elemG exa (wpS_bind (wpS_gallop (B:=fun i=>decide (κ (b.getD (ib2+1+i) default) < κ xa)) (lkN.kd.trans hk) (askG_l L (hSa _ ma) (fun i hi=>inB _ (by omega))) (fun i j hij hj hB=>decide_eq_true (Int.lt_of_le_of_lt (rise_get sb (by omega) (by omega)) (of_decide_eq_true hB))) (by omega) fun k1 hk1 g1 g2=>?_)))
                have t1:∀ z∈(b.toList.drop (ib2+1)).take k1,∀ w∈a.toList.drop (ia2),κ z≤κ w:=fun z hz w hw=>by
                  obtain ⟨j,j1,j2,rfl⟩:=mem_takeG hz
                  exact Int.le_trans (Int.le_of_lt (of_decide_eq_true (g1 j j1))) (rise_head sa da w hw)
                have t2:∀ w∈b.toList.drop (ib2+1+k1),κ xa≤κ w:=fun w hw=>by
                  obtain ⟨j,j1,rfl⟩:=mem_dropG hw
                  have:=of_decide_eq_false (g2 (k1+j) (by omega) (by omega))
                  rw [← Nat.add_assoc] at this
                  omega
                dsimp only
                by_cases p1:k1 > 0
                · rw [if_pos p1]
                  have m4:=m3.extB sb (k:=k1) (by omega) t1
                  by_cases q4:ib2+1+k1=b.size
                  · rw [if_pos (beq_iff_eq.mpr q4)]
                    exact wpS_pure (And.intro lkN (.inl ⟨_,rfl,merged_done m4 sa sb (.inl q4)⟩))
                  · rw [if_neg (fun z=>q4 (beq_iff_eq.mp z))]
                    have kA:=t2
                    refine wpS_bind (wpS_elemG exa ?_)
                    have m5:=m4.pushA sa (by omega) da kA
                    by_cases q5:ia2+1+1=a.size
                    · rw [if_pos (beq_iff_eq.mpr q5)]
                      exact wpS_pure (And.intro lkN (.inl ⟨_,rfl,merged_last m5 sa sb (by rw [show ia2+1=a.size - 1 by omega]; exact hl)⟩))
                    · rw [if_neg (fun z=>q5 (beq_iff_eq.mp z))]
                      have gn:GoL κ a b _ (ia2+1) (ib2+1+k1):=⟨m5,by omega,by omega⟩
                      split
                      · exact wpS_pure (And.intro lkN (.inr ⟨rfl,gn,by show ia+ib+1≤ia2+1+(ib2+1+k1); omega⟩))
                      · exact wpS_pure (And.intro rfl ⟨gn,by show ia+ib+1≤ia2+1+(ib2+1+k1); omega,lkN⟩)
                · rw [if_neg p1]
                  have k10:k1=0:=by omega
                  subst k10
                  have kA:∀ w∈b.toList.drop (ib2+1),κ xa≤κ w:=t2
                  refine wpS_bind (wpS_elemG exa ?_)
                  have m5:=m3.pushA sa (by omega) da kA
                  by_cases q5:ia2+1+1=a.size
                  · rw [if_pos (beq_iff_eq.mpr q5)]
                    exact wpS_pure (And.intro lkN (.inl ⟨_,rfl,merged_last m5 sa sb (by rw [show ia2+1=a.size - 1 by omega]; exact hl)⟩))
                  · rw [if_neg (fun z=>q5 (beq_iff_eq.mp z))]
                    have gn:GoL κ a b _ (ia2+1) (ib2+1):=⟨m5,by omega,by omega⟩
                    split
                    · exact wpS_pure (And.intro lkN (.inr ⟨rfl,gn,by show ia+ib+1≤ia2+1+(ib2+1); omega⟩))
                    · exact wpS_pure (And.intro rfl ⟨gn,by show ia+ib+1≤ia2+1+(ib2+1); omega,lkN⟩)
end
end L2
namespace L2
open PySem PySem.Spec PyProof.Rows
section
variable {α:Type} {κ:α→Int}
structure MH (κ:α→Int) (a b out:List α) (na nb:Nat):Prop where
  pm:(a.take na++b.take nb++out).Perm (a++b)
  so:Rise κ out
  le:∀ x∈a.take na++b.take nb,∀ y∈out,κ x≤κ y
  la:na≤a.length
  lb:nb≤b.length
theorem Rise.take {xs:List α} (h:Rise κ xs) (n:Nat):Rise κ (xs.take n):=List.Pairwise.sublist (List.take_sublist n xs) h
theorem take_split (xs:List α) {m n:Nat} (h:m≤n):xs.take n=xs.take m++(xs.take n).drop m:=by
  have:=(List.take_append_drop m (xs.take n)).symm
  rw [List.take_take,Nat.min_eq_left h] at this
  exact this
theorem MH.start (a b:List α):MH κ a b [] a.length b.length:=⟨by simp,List.Pairwise.nil,fun x _ y h=>absurd h List.not_mem_nil,Nat.le_refl _,Nat.le_refl _⟩
theorem MH.takeA {a b out:List α} {na nb m:Nat} (q:MH κ a b out na nb) (sa:Rise κ a) (hm:m≤na) (h:∀ x∈b.take nb,∀ y∈(a.take na).drop m,κ x≤κ y):MH κ a b ((a.take na).drop m++out) m nb:=by
  have e:=take_split a hm
  have sd:=sa.take na
  rw [e] at sd
  obtain ⟨s1,s2,s3⟩:=List.pairwise_append.mp sd
  have inn:∀ y∈(a.take na).drop m,y∈a.take na:=fun y hy=>List.mem_of_mem_drop hy
  have in1:∀ y∈a.take m,y∈a.take na:=fun y hy=>by rw [e]; exact List.mem_append_left _ hy
  refine ⟨?_,Rise.app s2 q.so fun x hx y hy=>q.le x (List.mem_append_left _ (inn x hx)) y hy,fun x hx y hy=>?_,by have:=q.la; omega,q.lb⟩
  · refine List.Perm.trans ?_ q.pm
    rw [← List.append_assoc]
    refine List.Perm.append_right out ?_
    have e2:a.take na++b.take nb=a.take m++(a.take na).drop m++b.take nb:=by rw [← e]
    rw [e2,List.append_assoc,List.append_assoc]
    exact List.Perm.append_left _ List.perm_append_comm
  · rcases List.mem_append.mp hy with hy | hy
    · rcases List.mem_append.mp hx with hx | hx
      · exact s3 x hx y hy
      · exact h x hx y hy
    · rcases List.mem_append.mp hx with hx | hx
      · exact q.le x (List.mem_append_left _ (in1 x hx)) y hy
      · exact q.le x (List.mem_append_right _ hx) y hy
theorem MH.takeB {a b out:List α} {na nb m:Nat} (q:MH κ a b out na nb) (sb:Rise κ b) (hm:m≤nb) (h:∀ x∈a.take na,∀ y∈(b.take nb).drop m,κ x≤κ y):MH κ a b ((b.take nb).drop m++out) na m:=by
  have e:=take_split b hm
  have sd:=sb.take nb
  rw [e] at sd
  obtain ⟨s1,s2,s3⟩:=List.pairwise_append.mp sd
  have inn:∀ y∈(b.take nb).drop m,y∈b.take nb:=fun y hy=>List.mem_of_mem_drop hy
  have in1:∀ y∈b.take m,y∈b.take nb:=fun y hy=>by rw [e]; exact List.mem_append_left _ hy
  refine ⟨?_,Rise.app s2 q.so fun x hx y hy=>q.le x (List.mem_append_right _ (inn x hx)) y hy,fun x hx y hy=>?_,q.la,by have:=q.lb; omega⟩
  · refine List.Perm.trans ?_ q.pm
    rw [← List.append_assoc]
    refine List.Perm.append_right out ?_
    rw [List.append_assoc,← e]
  · rcases List.mem_append.mp hy with hy | hy
    · rcases List.mem_append.mp hx with hx | hx
      · exact h x hx y hy
      · exact s3 x hx y hy
    · rcases List.mem_append.mp hx with hx | hx
      · exact q.le x (List.mem_append_left _ hx) y hy
      · exact q.le x (List.mem_append_right _ (in1 x hx)) y hy
theorem MH.done {a b out:List α} {na nb:Nat} (q:MH κ a b out na nb) (sa:Rise κ a) (sb:Rise κ b) (h:na=0∨nb=0):Rise κ (a.take na++b.take nb++out)∧(a.take na++b.take nb++out).Perm (a++b):=by
  refine ⟨?_,q.pm⟩
  refine Rise.app ((sa.take na).app (sb.take nb) fun x hx y hy=>?_) q.so q.le
  rcases h with h | h
  · rw [h,List.take_zero] at hx; exact absurd hx List.not_mem_nil
  · rw [h,List.take_zero] at hy; exact absurd hy List.not_mem_nil
theorem MH.firstB {a b out:List α} {na nb:Nat} (q:MH κ a b out na nb) (sa:Rise κ a) (sb:Rise κ b) (h:∀ x∈b.take nb,∀ y∈a,κ x≤κ y):Rise κ (b.take nb++a.take na++out)∧(b.take nb++a.take na++out).Perm (a++b):=by
  refine ⟨?_,?_⟩
  · refine Rise.app ((sb.take nb).app (sa.take na) fun x hx y hy=>h x hx y (List.mem_of_mem_take hy)) q.so fun x hx y hy=>q.le x ?_ y hy
    rcases List.mem_append.mp hx with hx | hx
    · exact List.mem_append_right _ hx
    · exact List.mem_append_left _ hx
  · exact (List.Perm.append_right out List.perm_append_comm).trans q.pm
end
section
variable {M:Model} {A:Around} {E:Value→Shared→Prop} {s:Shared}
def mergeHiG:Array Keyed→Array Keyed→StateT SortSt Sem (Array Keyed):=sortPriv% PySem.Builtin.mergeHi
theorem ext_to {α:Type} (a:Array α) (m n:Nat):(a.extract m n).toList=(a.toList.take n).drop m:=by
  rw [Array.toList_extract,List.extract_eq_drop_take,List.drop_take]
theorem getH {κ:Keyed→Int} {a:Array Keyed} (sa:Rise κ a.toList) {n:Nat} (h0:0 < n) (h:n≤a.size):∃ x,a[n - 1]?=some x∧x∈a.toList∧(a.toList.take n).drop (n - 1)=[x]∧∀ y∈a.toList.take n,κ y≤κ x:=by
  obtain ⟨x,e,m,d⟩:=getG (show n - 1 < a.size by omega)
  have e2:(a.toList.take n).drop (n - 1)=[x]:=by
    rw [List.drop_take,d,show n - (n - 1)=1 by omega]; rfl
  refine ⟨x,e,m,e2,fun y hy=>?_⟩
  have e3:=take_split a.toList (show n - 1≤n by omega)
  have sd:=sa.take n
  rw [e3] at sd hy
  rw [e2] at sd hy
  rcases List.mem_append.mp hy with hy | hy
  · exact (List.pairwise_append.mp sd).2.2 y hy x (by simp)
  · rw [List.mem_singleton.mp hy]; exact Int.le_refl _
theorem MH.pushA {κ:Keyed→Int} {a b out:Array Keyed} {na nb:Nat} {x:Keyed} (m:MH κ a.toList b.toList out.toList.reverse na nb) (sa:Rise κ a.toList) (da:(a.toList.take na).drop (na - 1)=[x]) (h:∀ w∈b.toList.take nb,κ w≤κ x):MH κ a.toList b.toList (out.push x).toList.reverse (na - 1) nb:=by
  have:=m.takeA sa (m:=na - 1) (by omega) (fun z hz w hw=>?_)
  · rw [da] at this
    rw [Array.toList_push,List.reverse_append]
    exact this
  · rw [da] at hw
    rw [List.mem_singleton.mp hw]; exact h z hz
theorem MH.pushB {κ:Keyed→Int} {a b out:Array Keyed} {na nb:Nat} {x:Keyed} (m:MH κ a.toList b.toList out.toList.reverse na nb) (sb:Rise κ b.toList) (db:(b.toList.take nb).drop (nb - 1)=[x]) (h:∀ w∈a.toList.take na,κ w≤κ x):MH κ a.toList b.toList (out.push x).toList.reverse na (nb - 1):=by
  have:=m.takeB sb (m:=nb - 1) (by omega) (fun z hz w hw=>?_)
  · rw [db] at this
    rw [Array.toList_push,List.reverse_append]
    exact this
  · rw [db] at hw
    rw [List.mem_singleton.mp hw]; exact h z hz
theorem MH.extA {κ:Keyed→Int} {a b out:Array Keyed} {na nb m:Nat} (q:MH κ a.toList b.toList out.toList.reverse na nb) (sa:Rise κ a.toList) (hm:m≤na) (h:∀ x∈b.toList.take nb,∀ y∈(a.toList.take na).drop m,κ x≤κ y):MH κ a.toList b.toList (out++(a.extract m na).reverse).toList.reverse m nb:=by
  have:=q.takeA sa hm h
  rw [Array.toList_append,List.reverse_append,Array.toList_reverse,List.reverse_reverse,ext_to]
  exact this
theorem MH.extB {κ:Keyed→Int} {a b out:Array Keyed} {na nb m:Nat} (q:MH κ a.toList b.toList out.toList.reverse na nb) (sb:Rise κ b.toList) (hm:m≤nb) (h:∀ x∈a.toList.take na,∀ y∈(b.toList.take nb).drop m,κ x≤κ y):MH κ a.toList b.toList (out++(b.extract m nb).reverse).toList.reverse na m:=by
  have:=q.takeB sb hm h
  rw [Array.toList_append,List.reverse_append,Array.toList_reverse,List.reverse_reverse,ext_to]
  exact this
theorem mem_takeH {a:Array Keyed} {n:Nat} {x:Keyed} (h:x∈a.toList.take n):∃ j,j < n∧j < a.size∧x=a.getD (0+j) default:=by
  have h':x∈(a.toList.drop 0).take n:=by simpa using h
  obtain ⟨j,h1,h2,h3⟩:=mem_takeG h'
  exact ⟨j,h1,by omega,h3⟩
theorem mem_seg {a:Array Keyed} {m n:Nat} {x:Keyed} (hmn:m≤n) (h:x∈(a.toList.take n).drop m):∃ j,m≤j∧j < n∧j < a.size∧x=a.getD (0+j) default:=by
  rw [List.drop_take] at h
  obtain ⟨j,h1,h2,h3⟩:=mem_takeG h
  exact ⟨m+j,by omega,by omega,h2,by rw [Nat.zero_add]; exact h3⟩
structure GoH (κ:Keyed→Int) (a b out:Array Keyed) (na nb:Nat):Prop where
  mi:MH κ a.toList b.toList out.toList.reverse na nb
  la:0 < na
  lb:1 < nb
theorem mergedH_done {κ:Keyed→Int} {a b out:Array Keyed} {na nb:Nat} (m:MH κ a.toList b.toList out.toList.reverse na nb) (sa:Rise κ a.toList) (sb:Rise κ b.toList) (h:na=0∨nb=0):MergedG κ a b (a.extract 0 na++b.extract 0 nb++out.reverse):=by
  have:=m.done sa sb h
  unfold MergedG
  rw [Array.toList_append,Array.toList_append,ext_to,ext_to,Array.toList_reverse,List.drop_zero,List.drop_zero]
  exact this
theorem mergedH_first {κ:Keyed→Int} {a b out:Array Keyed} {na nb:Nat} (m:MH κ a.toList b.toList out.toList.reverse na nb) (sa:Rise κ a.toList) (sb:Rise κ b.toList) (h1:nb=1) (h:∀ x∈b.toList.take 1,∀ y∈a.toList,κ x≤κ y):MergedG κ a b (b.extract 0 nb++a.extract 0 na++out.reverse):=by
  have:=m.firstB sa sb (by rw [h1]; exact h)
  unfold MergedG
  rw [Array.toList_append,Array.toList_append,ext_to,ext_to,Array.toList_reverse,List.drop_zero,List.drop_zero]
  exact this
theorem wpS_mergeHi {kd:SortKind} {κ:Keyed→Int} {S:Keyed→Prop} {a b:Array Keyed} {st:SortSt} {Q:Array Keyed→SortSt→Prop} (L:LtG M A E s kd κ S) (hk:kindOf st=kd) (ha:0 < a.size) (hb:0 < b.size) (hSa:∀ x∈a.toList,S x) (hSb:∀ x∈b.toList,S x)
    (sa:Rise κ a.toList) (sb:Rise κ b.toList) (hf:∀ x∈b.toList.take 1,∀ y∈a.toList,κ x≤κ y) (hl:∀ x∈b.toList,∀ y∈a.toList.drop (a.size - 1),κ x≤κ y)
    (h:∀ r st',MergedG κ a b r→Like st st'→Q r st'):wpS M A E s (mergeHiG a b) Q st:=by
  refine wpS_bind (wpS_lift (wpAny_rule ⟨rfl,?_⟩))
  obtain ⟨a0,ea0,ma0,da0,ra0⟩:=getH sa ha (Nat.le_refl _)
  have lk0:Like st st:=⟨rfl,rfl,rfl,rfl⟩
  have m0:MH κ a.toList b.toList (#[a0]:Array Keyed).toList.reverse (a.size - 1) b.size:=by
    have:=(MH.start (κ:=κ) a.toList b.toList).takeA sa (m:=a.size - 1) (by rw [Array.length_toList]; omega) (fun x hx y hy=>hl x (List.mem_of_mem_take hx) y (by rw [List.take_length] at hy; exact hy))
    rw [Array.length_toList,Array.length_toList,da0] at this
    exact this
  refine wpS_bind (wpS_elemG ea0 ?_)
  dsimp only
  by_cases h1:a.size - 1=0
  · rw [if_pos (beq_iff_eq.mpr h1)]
    exact wpS_pure (h _ _ (mergedH_done m0 sa sb (.inl h1)) lk0)
  rw [if_neg (fun z=>h1 (beq_iff_eq.mp z))]
  by_cases h2:b.size=1
  · rw [if_pos (beq_iff_eq.mpr h2)]
    exact wpS_pure (h _ _ (mergedH_first m0 sa sb h2 hf) lk0)
  rw [if_neg (fun z=>h2 (beq_iff_eq.mp z))]
  refine wpS_bind (wpS_get ?_)
  refine wpS_bind (wpS_mono (wpS_forRange (I:=fun x (c:Option (Array Keyed) × Nat × Nat × Array Keyed × Nat) st'=>c.1=none∧GoH κ a b c.2.2.2.1 c.2.1 c.2.2.1∧c.2.1+c.2.2.1+x+1≤a.size+b.size∧Like st st')
    (Q:=fun (c:Option (Array Keyed) × Nat × Nat × Array Keyed × Nat) st'=>Like st st'∧∃ r,c.1=some r∧MergedG κ a b r) ?ostep ?ofin (And.intro rfl ⟨⟨m0,by show 0 < a.size - 1; omega,by show 1 < b.size; omega⟩,by show a.size - 1+b.size+0+1≤a.size+b.size; omega,lk0⟩)) ?opost)
  case ofin =>
    rintro ⟨r,na,nb,out,mg⟩ st1 ⟨e1,go,hge,lk⟩
    have hge:na+nb+max 0 (a.size+b.size)+1≤a.size+b.size:=hge
    omega
  case opost =>
    rintro ⟨r,na,nb,out,mg⟩ st1 ⟨lk,r',e1,mr⟩
    have e1:r=some r':=e1
    subst e1
    exact wpS_pure (h _ _ mr lk)
  case ostep =>
    rintro x ⟨r,na,nb,out,mg⟩ st1 _ hx ⟨e1,go,hge,lk⟩
    have e1:r=none:=e1
    subst e1
    have hge:na+nb+x+1≤a.size+b.size:=hge
    dsimp only
    refine wpS_bind (wpS_mono (wpS_forRange (I:=fun y (c:Option (Array Keyed) × Nat × Nat × Array Keyed × Nat × Nat) st'=>c.1=none∧GoH κ a b c.2.2.2.1 c.2.1 c.2.2.1∧c.2.1+c.2.2.1+y=na+nb∧Like st st')
      (Q:=fun (c:Option (Array Keyed) × Nat × Nat × Array Keyed × Nat × Nat) st'=>Like st st'∧((∃ r,c.1=some r∧MergedG κ a b r)∨(c.1=none∧GoH κ a b c.2.2.2.1 c.2.1 c.2.2.1∧c.2.1+c.2.2.1+1≤na+nb))) ?istep ?ifin (And.intro rfl ⟨go,rfl,lk⟩)) ?ipost)
    case ifin =>
      rintro ⟨r,na',nb',out,ac,bc⟩ st2 ⟨e1,go',hs,lk'⟩
      have hs:na'+nb'+max 0 (a.size+b.size)=na+nb:=hs
      exact And.intro lk' (.inr ⟨e1,go',by show na'+nb'+1≤na+nb; omega⟩)
    case istep =>
      rintro y ⟨r,na',nb',out',ac,bc⟩ st2 _ hy ⟨e1,go',hs,lk'⟩
      have e1:r=none:=e1
      subst e1
      have go':GoH κ a b out' na' nb':=go'
      have hs:na'+nb'+y=na+nb:=hs
      have l1:=go'.la
      have l2:=go'.lb
      have l3:na'≤a.size:=by have:=go'.mi.la; rwa [Array.length_toList] at this
      have l4:nb'≤b.size:=by have:=go'.mi.lb; rwa [Array.length_toList] at this
      dsimp only
      obtain ⟨xb,exb,mb,db,rb⟩:=getH sb (show 0 < nb' by omega) l4
      obtain ⟨xa,exa,ma,da,ra⟩:=getH sa l1 l3
      refine wpS_bind (wpS_elemG exb (wpS_bind (wpS_elemG exa (wpS_bind (L xb xa (hSb _ mb) (hSa _ ma) st2 _ (lk'.kd.trans hk) ?_)))))
      dsimp only
      by_cases hlt:κ xb < κ xa
      · rw [decide_eq_true hlt,if_pos rfl]
        refine wpS_bind (wpS_elemG exa ?_)
        have mi':=go'.mi.pushA sa da (fun w hw=>by have:=rb w hw; omega)
        by_cases q1:na' - 1=0
        · rw [if_pos (beq_iff_eq.mpr q1)]
          exact wpS_pure (And.intro lk' (.inl ⟨_,rfl,mergedH_done mi' sa sb (.inl q1)⟩))
        · rw [if_neg (fun z=>q1 (beq_iff_eq.mp z))]
          have gn:GoH κ a b (out'.push xa) (na' - 1) nb':=⟨mi',by omega,l2⟩
          split
          · exact wpS_pure (And.intro lk' (.inr ⟨rfl,gn,by show na' - 1+nb'+1≤na+nb; omega⟩))
          · exact wpS_pure (And.intro rfl ⟨gn,by show na' - 1+nb'+(y+1)=na+nb; omega,lk'⟩)
      · rw [decide_eq_false hlt,if_neg Bool.false_ne_true]
        refine wpS_bind (wpS_elemG exb ?_)
        have mi':=go'.mi.pushB sb db (fun w hw=>by have:=ra w hw; omega)
        by_cases q1:nb' - 1=1
        · rw [if_pos (beq_iff_eq.mpr q1)]
          exact wpS_pure (And.intro lk' (.inl ⟨_,rfl,mergedH_first mi' sa sb q1 hf⟩))
        · rw [if_neg (fun z=>q1 (beq_iff_eq.mp z))]
          have gn:GoH κ a b (out'.push xb) na' (nb' - 1):=⟨mi',l1,by omega⟩
          split
          · exact wpS_pure (And.intro lk' (.inr ⟨rfl,gn,by show na'+(nb' - 1)+1≤na+nb; omega⟩))
          · exact wpS_pure (And.intro rfl ⟨gn,by show na'+(nb' - 1)+(y+1)=na+nb; omega,lk'⟩)
    case ipost =>
      rintro ⟨r,na',nb',out',ac,bc⟩ st2 ⟨lk',hh⟩
      rcases hh with ⟨r',e1,mr⟩ | ⟨e1,go',hs⟩
      · have e1:r=some r':=e1
        subst e1
        exact wpS_pure (And.intro lk' ⟨_,rfl,mr⟩)
      · have e1:r=none:=e1
        subst e1
        have go':GoH κ a b out' na' nb':=go'
        have hs:na'+nb'+1≤na+nb:=hs
        dsimp only
        refine wpS_bind (wpS_lift (wpAny_rule ⟨rfl,?_⟩))
        refine wpS_bind (wpS_mono (wpS_forRange (I:=fun y (c:Option (Array Keyed) × Nat × Nat × Array Keyed × Nat × Nat × Nat) st'=>c.1=none∧GoH κ a b c.2.2.2.1 c.2.1 c.2.2.1∧c.2.1+c.2.2.1+1≤na+nb∧Like st st')
          (Q:=fun (c:Option (Array Keyed) × Nat × Nat × Array Keyed × Nat × Nat × Nat) st'=>Like st st'∧((∃ r,c.1=some r∧MergedG κ a b r)∨(c.1=none∧GoH κ a b c.2.2.2.1 c.2.1 c.2.2.1∧c.2.1+c.2.2.1+1≤na+nb))) ?gstep ?gfin (And.intro rfl ⟨go',hs,lk'⟩)) ?gpost)
        case gfin =>
          rintro ⟨r,na2,nb2,out,mg2,ac,bc⟩ st3 ⟨e1,go2,hs2,lk2⟩
          exact And.intro lk2 (.inr ⟨e1,go2,hs2⟩)
        case gpost =>
          rintro ⟨r,na2,nb2,out,mg2,ac,bc⟩ st3 ⟨lk2,hh2⟩
          rcases hh2 with ⟨r',e1,mr⟩ | ⟨e1,go2,hs2⟩
          · have e1:r=some r':=e1
            subst e1
            exact wpS_pure (And.intro lk2 ⟨_,rfl,mr⟩)
          · have e1:r=none:=e1
            subst e1
            have hs2:na2+nb2+1≤na+nb:=hs2
            refine wpS_bind (wpS_modify ?_)
            exact wpS_pure (And.intro rfl ⟨go2,by show na2+nb2+(x+1)+1≤a.size+b.size; omega,⟨lk2.kd,lk2.ar,lk2.pe,lk2.fa⟩⟩)
        case gstep =>
          rintro y ⟨r,na2,nb2,out2,mg2,ac,bc⟩ st3 _ hy ⟨e1,go2,hs2,lk2⟩
          have e1:r=none:=e1
          subst e1
          have go2:GoH κ a b out2 na2 nb2:=go2
          have hs2:na2+nb2+1≤na+nb:=hs2
          dsimp only
          have l1:=go2.la
          have l2:=go2.lb
          have l3:na2≤a.size:=by have:=go2.mi.la; rwa [Array.length_toList] at this
          have l4:nb2≤b.size:=by have:=go2.mi.lb; rwa [Array.length_toList] at this
          have inA:∀ i,i < a.size→∃ x,a[i]?=some x∧S x:=fun i hi=>by
            obtain ⟨x,e,m,_⟩:=getG hi
            exact ⟨x,e,hSa x m⟩
          have inB:∀ i,i < b.size→∃ x,b[i]?=some x∧S x:=fun i hi=>by
            obtain ⟨x,e,m,_⟩:=getG hi
            exact ⟨x,e,hSb x m⟩
          by_cases hm:mg2 > 1
          · rw [if_pos hm]
            refine wpS_bind (wpS_modify ?_)
            have lkN:Like st (SortSt.mk' (kindOf st3) (arrOf st3) (pendingOf st3) (mg2 - 1) (failedOf st3)):=⟨lk2.kd,lk2.ar,lk2.pe,lk2.fa⟩
            obtain ⟨xb,exb,mb,db,rb⟩:=getH sb (show 0 < nb2 by omega) l4
            refine wpS_bind (wpS_elemG exb (wpS_bind (wpS_gallop (B:=fun i=>!decide (κ xb < κ (a.getD (0+i) default))) (lkN.kd.trans hk) (askG_r L (hSb _ mb) (fun i hi=>inA _ (by omega))) (fun i j hij hj hB=>?_) (by omega) fun k hk' f1 f2=>?_)))
            · have h3:=rise_get sa (i:=0+i) (j:=0+j) (by omega) (by omega)
              simp only [Bool.not_eq_true',decide_eq_false_iff_not] at hB ⊢
              omega
            have u1:∀ z∈b.toList.take nb2,∀ w∈(a.toList.take na2).drop k,κ z≤κ w:=fun z hz w hw=>by
              obtain ⟨j,j1,j2,j3,rfl⟩:=mem_seg hk' hw
              have h3:=f2 j j1 j2
              simp only [Bool.not_eq_false',decide_eq_true_eq] at h3
              have h4:=rb z hz
              omega
            have u2:∀ w∈a.toList.take k,κ w≤κ xb:=fun w hw=>by
              obtain ⟨j,j1,j2,rfl⟩:=mem_takeH hw
              have h3:=f1 j j1
              simp only [Bool.not_eq_true',decide_eq_false_iff_not] at h3
              omega
            dsimp only
            by_cases p0:na2 - k > 0
            · rw [if_pos p0]
              have m2:=go2.mi.extA sa (m:=k) hk' u1
              by_cases q1:k=0
              · rw [if_pos (beq_iff_eq.mpr q1)]
                exact wpS_pure (And.intro lkN (.inl ⟨_,rfl,mergedH_done m2 sa sb (.inl q1)⟩))
              · rw [if_neg (fun z=>q1 (beq_iff_eq.mp z))]
                have kB:=u2
                refine wpS_bind (wpS_elemG exb ?_)
                have m3:=m2.pushB sb db kB
                by_cases q3:nb2 - 1=1
                · rw [if_pos (beq_iff_eq.mpr q3)]
                  exact wpS_pure (And.intro lkN (.inl ⟨_,rfl,mergedH_first m3 sa sb q3 hf⟩))
                · rw [if_neg (fun z=>q3 (beq_iff_eq.mp z))]
                  obtain ⟨xa,exa,ma,da,ra⟩:=getH sa (show 0 < k by omega) (by omega)
                  refine wpS_bind (wpS_elemG exa (wpS_bind (wpS_gallop (B:=fun i=>decide (κ (b.getD (0+i) default) < κ xa)) (lkN.kd.trans hk) (askG_l L (hSa _ ma) (fun i hi=>inB _ (by omega))) (fun i j hij hj hB=>decide_eq_true (Int.lt_of_le_of_lt (rise_get sb (by omega) (by omega)) (of_decide_eq_true hB))) (by omega) fun k1 hk1 g1 g2=>?_)))
                  have t1:∀ z∈a.toList.take (k),∀ w∈(b.toList.take (nb2 - 1)).drop k1,κ z≤κ w:=fun z hz w hw=>by
                    obtain ⟨j,j1,j2,j3,rfl⟩:=mem_seg hk1 hw
                    have h3:=of_decide_eq_false (g2 j j1 j2)
                    have h4:=ra z hz
                    omega
                  have t2:∀ w∈b.toList.take k1,κ w≤κ xa:=fun w hw=>by
                    obtain ⟨j,j1,j2,rfl⟩:=mem_takeH hw
                    exact Int.le_of_lt (of_decide_eq_true (g1 j j1))
                  dsimp only
                  by_cases p1:nb2 - 1 - k1 > 0
                  · rw [if_pos p1]
                    have m4:=m3.extB sb (m:=k1) hk1 t1
                    by_cases q4:k1=1
                    · rw [if_pos (beq_iff_eq.mpr q4)]
                      exact wpS_pure (And.intro lkN (.inl ⟨_,rfl,mergedH_first m4 sa sb q4 hf⟩))
                    · rw [if_neg (fun z=>q4 (beq_iff_eq.mp z))]
                      by_cases q6:k1=0
                      · rw [if_pos (beq_iff_eq.mpr q6)]
                        exact wpS_pure (And.intro lkN (.inl ⟨_,rfl,mergedH_done m4 sa sb (.inr q6)⟩))
                      · rw [if_neg (fun z=>q6 (beq_iff_eq.mp z))]
                        have kA:=t2
                        refine wpS_bind (wpS_elemG exa ?_)
                        have m5:=m4.pushA sa da kA
                        by_cases q5:k - 1=0
                        · rw [if_pos (beq_iff_eq.mpr q5)]
                          exact wpS_pure (And.intro lkN (.inl ⟨_,rfl,mergedH_done m5 sa sb (.inl q5)⟩))
                        · rw [if_neg (fun z=>q5 (beq_iff_eq.mp z))]
                          have gn:GoH κ a b _ (k - 1) (k1):=⟨m5,by omega,by omega⟩
                          split
                          · exact wpS_pure (And.intro lkN (.inr ⟨rfl,gn,by show k - 1+(k1)+1≤na+nb; omega⟩))
                          · exact wpS_pure (And.intro rfl ⟨gn,by show k - 1+(k1)+1≤na+nb; omega,lkN⟩)
                  · rw [if_neg p1]
                    have k10:k1=nb2 - 1:=by omega
                    subst k10
                    have kA:=t2
                    refine wpS_bind (wpS_elemG exa ?_)
                    have m5:=m3.pushA sa da kA
                    by_cases q5:k - 1=0
                    · rw [if_pos (beq_iff_eq.mpr q5)]
                      exact wpS_pure (And.intro lkN (.inl ⟨_,rfl,mergedH_done m5 sa sb (.inl q5)⟩))
                    · rw [if_neg (fun z=>q5 (beq_iff_eq.mp z))]
                      have gn:GoH κ a b _ (k - 1) (nb2 - 1):=⟨m5,by omega,by omega⟩
                      split
                      · exact wpS_pure (And.intro lkN (.inr ⟨rfl,gn,by show k - 1+(nb2 - 1)+1≤na+nb; omega⟩))
                      · exact wpS_pure (And.intro rfl ⟨gn,by show k - 1+(nb2 - 1)+1≤na+nb; omega,lkN⟩)
            · rw [if_neg p0]
              have k00:k=na2:=by omega
              subst k00
              have kB:=u2
              have mi2:=go2.mi
              refine wpS_bind (wpS_elemG exb ?_)
              have m3:=mi2.pushB sb db kB
              by_cases q3:nb2 - 1=1
              · rw [if_pos (beq_iff_eq.mpr q3)]
                exact wpS_pure (And.intro lkN (.inl ⟨_,rfl,mergedH_first m3 sa sb q3 hf⟩))
              · rw [if_neg (fun z=>q3 (beq_iff_eq.mp z))]
                obtain ⟨xa,exa,ma,da,ra⟩:=getH sa (show 0 < k by omega) (by omega)
                refine wpS_bind (wpS_elemG exa (wpS_bind (wpS_gallop (B:=fun i=>decide (κ (b.getD (0+i) default) < κ xa)) (lkN.kd.trans hk) (askG_l L (hSa _ ma) (fun i hi=>inB _ (by omega))) (fun i j hij hj hB=>decide_eq_true (Int.lt_of_le_of_lt (rise_get sb (by omega) (by omega)) (of_decide_eq_true hB))) (by omega) fun k1 hk1 g1 g2=>?_)))
                have t1:∀ z∈a.toList.take (k),∀ w∈(b.toList.take (nb2 - 1)).drop k1,κ z≤κ w:=fun z hz w hw=>by
                  obtain ⟨j,j1,j2,j3,rfl⟩:=mem_seg hk1 hw
                  have h3:=of_decide_eq_false (g2 j j1 j2)
                  have h4:=ra z hz
                  omega
                have t2:∀ w∈b.toList.take k1,κ w≤κ xa:=fun w hw=>by
                  obtain ⟨j,j1,j2,rfl⟩:=mem_takeH hw
                  exact Int.le_of_lt (of_decide_eq_true (g1 j j1))
                dsimp only
                by_cases p1:nb2 - 1 - k1 > 0
                · rw [if_pos p1]
                  have m4:=m3.extB sb (m:=k1) hk1 t1
                  by_cases q4:k1=1
                  · rw [if_pos (beq_iff_eq.mpr q4)]
                    exact wpS_pure (And.intro lkN (.inl ⟨_,rfl,mergedH_first m4 sa sb q4 hf⟩))
                  · rw [if_neg (fun z=>q4 (beq_iff_eq.mp z))]
                    by_cases q6:k1=0
                    · rw [if_pos (beq_iff_eq.mpr q6)]
                      exact wpS_pure (And.intro lkN (.inl ⟨_,rfl,mergedH_done m4 sa sb (.inr q6)⟩))
                    · rw [if_neg (fun z=>q6 (beq_iff_eq.mp z))]
                      have kA:=t2
                      refine wpS_bind (wpS_elemG exa ?_)
                      have m5:=m4.pushA sa da kA
                      by_cases q5:k - 1=0
                      · rw [if_pos (beq_iff_eq.mpr q5)]
                        exact wpS_pure (And.intro lkN (.inl ⟨_,rfl,mergedH_done m5 sa sb (.inl q5)⟩))
                      · rw [if_neg (fun z=>q5 (beq_iff_eq.mp z))]
                        have gn:GoH κ a b _ (k - 1) (k1):=⟨m5,by omega,by omega⟩
                        split
                        · exact wpS_pure (And.intro lkN (.inr ⟨rfl,gn,by show k - 1+(k1)+1≤na+nb; omega⟩))
                        · exact wpS_pure (And.intro rfl ⟨gn,by show k - 1+(k1)+1≤na+nb; omega,lkN⟩)
                · rw [if_neg p1]
                  have k10:k1=nb2 - 1:=by omega
                  subst k10
                  have kA:=t2
                  refine wpS_bind (wpS_elemG exa ?_)
                  have m5:=m3.pushA sa da kA
                  by_cases q5:k - 1=0
                  · rw [if_pos (beq_iff_eq.mpr q5)]
                    exact wpS_pure (And.intro lkN (.inl ⟨_,rfl,mergedH_done m5 sa sb (.inl q5)⟩))
                  · rw [if_neg (fun z=>q5 (beq_iff_eq.mp z))]
                    have gn:GoH κ a b _ (k - 1) (nb2 - 1):=⟨m5,by omega,by omega⟩
                    split
                    · exact wpS_pure (And.intro lkN (.inr ⟨rfl,gn,by show k - 1+(nb2 - 1)+1≤na+nb; omega⟩))
                    · exact wpS_pure (And.intro rfl ⟨gn,by show k - 1+(nb2 - 1)+1≤na+nb; omega,lkN⟩)
          · rw [if_neg hm]
            refine wpS_bind (wpS_modify ?_)
            have lkN:Like st (SortSt.mk' (kindOf st3) (arrOf st3) (pendingOf st3) mg2 (failedOf st3)):=⟨lk2.kd,lk2.ar,lk2.pe,lk2.fa⟩
            obtain ⟨xb,exb,mb,db,rb⟩:=getH sb (show 0 < nb2 by omega) l4
            refine wpS_bind (wpS_elemG exb (wpS_bind (wpS_gallop (B:=fun i=>!decide (κ xb < κ (a.getD (0+i) default))) (lkN.kd.trans hk) (askG_r L (hSb _ mb) (fun i hi=>inA _ (by omega))) (fun i j hij hj hB=>?_) (by omega) fun k hk' f1 f2=>?_)))
            · have h3:=rise_get sa (i:=0+i) (j:=0+j) (by omega) (by omega)
              simp only [Bool.not_eq_true',decide_eq_false_iff_not] at hB ⊢
              omega
            have u1:∀ z∈b.toList.take nb2,∀ w∈(a.toList.take na2).drop k,κ z≤κ w:=fun z hz w hw=>by
              obtain ⟨j,j1,j2,j3,rfl⟩:=mem_seg hk' hw
              have h3:=f2 j j1 j2
              simp only [Bool.not_eq_false',decide_eq_true_eq] at h3
              have h4:=rb z hz
              omega
            have u2:∀ w∈a.toList.take k,κ w≤κ xb:=fun w hw=>by
              obtain ⟨j,j1,j2,rfl⟩:=mem_takeH hw
              have h3:=f1 j j1
              simp only [Bool.not_eq_true',decide_eq_false_iff_not] at h3
              omega
            dsimp only
            by_cases p0:na2 - k > 0
            · rw [if_pos p0]
              have m2:=go2.mi.extA sa (m:=k) hk' u1
              by_cases q1:k=0
              · rw [if_pos (beq_iff_eq.mpr q1)]
                exact wpS_pure (And.intro lkN (.inl ⟨_,rfl,mergedH_done m2 sa sb (.inl q1)⟩))
              · rw [if_neg (fun z=>q1 (beq_iff_eq.mp z))]
                have kB:=u2
                refine wpS_bind (wpS_elemG exb ?_)
                have m3:=m2.pushB sb db kB
                by_cases q3:nb2 - 1=1
                · rw [if_pos (beq_iff_eq.mpr q3)]
                  exact wpS_pure (And.intro lkN (.inl ⟨_,rfl,mergedH_first m3 sa sb q3 hf⟩))
                · rw [if_neg (fun z=>q3 (beq_iff_eq.mp z))]
                  obtain ⟨xa,exa,ma,da,ra⟩:=getH sa (show 0 < k by omega) (by omega)
                  refine wpS_bind (wpS_elemG exa (wpS_bind (wpS_gallop (B:=fun i=>decide (κ (b.getD (0+i) default) < κ xa)) (lkN.kd.trans hk) (askG_l L (hSa _ ma) (fun i hi=>inB _ (by omega))) (fun i j hij hj hB=>decide_eq_true (Int.lt_of_le_of_lt (rise_get sb (by omega) (by omega)) (of_decide_eq_true hB))) (by omega) fun k1 hk1 g1 g2=>?_)))
                  have t1:∀ z∈a.toList.take (k),∀ w∈(b.toList.take (nb2 - 1)).drop k1,κ z≤κ w:=fun z hz w hw=>by
                    obtain ⟨j,j1,j2,j3,rfl⟩:=mem_seg hk1 hw
                    have h3:=of_decide_eq_false (g2 j j1 j2)
                    have h4:=ra z hz
                    omega
                  have t2:∀ w∈b.toList.take k1,κ w≤κ xa:=fun w hw=>by
                    obtain ⟨j,j1,j2,rfl⟩:=mem_takeH hw
                    exact Int.le_of_lt (of_decide_eq_true (g1 j j1))
                  dsimp only
                  by_cases p1:nb2 - 1 - k1 > 0
                  · rw [if_pos p1]
                    have m4:=m3.extB sb (m:=k1) hk1 t1
                    by_cases q4:k1=1
                    · rw [if_pos (beq_iff_eq.mpr q4)]
                      exact wpS_pure (And.intro lkN (.inl ⟨_,rfl,mergedH_first m4 sa sb q4 hf⟩))
                    · rw [if_neg (fun z=>q4 (beq_iff_eq.mp z))]
                      by_cases q6:k1=0
                      · rw [if_pos (beq_iff_eq.mpr q6)]
                        exact wpS_pure (And.intro lkN (.inl ⟨_,rfl,mergedH_done m4 sa sb (.inr q6)⟩))
                      · rw [if_neg (fun z=>q6 (beq_iff_eq.mp z))]
                        have kA:=t2
                        refine wpS_bind (wpS_elemG exa ?_)
                        have m5:=m4.pushA sa da kA
                        by_cases q5:k - 1=0
                        · rw [if_pos (beq_iff_eq.mpr q5)]
                          exact wpS_pure (And.intro lkN (.inl ⟨_,rfl,mergedH_done m5 sa sb (.inl q5)⟩))
                        · rw [if_neg (fun z=>q5 (beq_iff_eq.mp z))]
                          have gn:GoH κ a b _ (k - 1) (k1):=⟨m5,by omega,by omega⟩
                          split
                          · exact wpS_pure (And.intro lkN (.inr ⟨rfl,gn,by show k - 1+(k1)+1≤na+nb; omega⟩))
                          · exact wpS_pure (And.intro rfl ⟨gn,by show k - 1+(k1)+1≤na+nb; omega,lkN⟩)
                  · rw [if_neg p1]
                    have k10:k1=nb2 - 1:=by omega
                    subst k10
                    have kA:=t2
                    refine wpS_bind (wpS_elemG exa ?_)
                    have m5:=m3.pushA sa da kA
                    by_cases q5:k - 1=0
                    · rw [if_pos (beq_iff_eq.mpr q5)]
                      exact wpS_pure (And.intro lkN (.inl ⟨_,rfl,mergedH_done m5 sa sb (.inl q5)⟩))
                    · rw [if_neg (fun z=>q5 (beq_iff_eq.mp z))]
                      have gn:GoH κ a b _ (k - 1) (nb2 - 1):=⟨m5,by omega,by omega⟩
                      split
                      · exact wpS_pure (And.intro lkN (.inr ⟨rfl,gn,by show k - 1+(nb2 - 1)+1≤na+nb; omega⟩))
                      · exact wpS_pure (And.intro rfl ⟨gn,by show k - 1+(nb2 - 1)+1≤na+nb; omega,lkN⟩)
            · rw [if_neg p0]
              have k00:k=na2:=by omega
              subst k00
              have kB:=u2
              have mi2:=go2.mi
              refine wpS_bind (wpS_elemG exb ?_)
              have m3:=mi2.pushB sb db kB
              by_cases q3:nb2 - 1=1
              · rw [if_pos (beq_iff_eq.mpr q3)]
                exact wpS_pure (And.intro lkN (.inl ⟨_,rfl,mergedH_first m3 sa sb q3 hf⟩))
              · rw [if_neg (fun z=>q3 (beq_iff_eq.mp z))]
                obtain ⟨xa,exa,ma,da,ra⟩:=getH sa (show 0 < k by omega) (by omega)
                refine wpS_bind (wpS_elemG exa (wpS_bind (wpS_gallop (B:=fun i=>decide (κ (b.getD (0+i) default) < κ xa)) (lkN.kd.trans hk) (askG_l L (hSa _ ma) (fun i hi=>inB _ (by omega))) (fun i j hij hj hB=>decide_eq_true (Int.lt_of_le_of_lt (rise_get sb (by omega) (by omega)) (of_decide_eq_true hB))) (by omega) fun k1 hk1 g1 g2=>?_)))
                have t1:∀ z∈a.toList.take (k),∀ w∈(b.toList.take (nb2 - 1)).drop k1,κ z≤κ w:=fun z hz w hw=>by
                  obtain ⟨j,j1,j2,j3,rfl⟩:=mem_seg hk1 hw
                  have h3:=of_decide_eq_false (g2 j j1 j2)
                  have h4:=ra z hz
                  omega
                have t2:∀ w∈b.toList.take k1,κ w≤κ xa:=fun w hw=>by
                  obtain ⟨j,j1,j2,rfl⟩:=mem_takeH hw
                  exact Int.le_of_lt (of_decide_eq_true (g1 j j1))
                dsimp only
                by_cases p1:nb2 - 1 - k1 > 0
                · rw [if_pos p1]
                  have m4:=m3.extB sb (m:=k1) hk1 t1
                  by_cases q4:k1=1
                  · rw [if_pos (beq_iff_eq.mpr q4)]
                    exact wpS_pure (And.intro lkN (.inl ⟨_,rfl,mergedH_first m4 sa sb q4 hf⟩))
                  · rw [if_neg (fun z=>q4 (beq_iff_eq.mp z))]
                    by_cases q6:k1=0
                    · rw [if_pos (beq_iff_eq.mpr q6)]
                      exact wpS_pure (And.intro lkN (.inl ⟨_,rfl,mergedH_done m4 sa sb (.inr q6)⟩))
                    · rw [if_neg (fun z=>q6 (beq_iff_eq.mp z))]
                      have kA:=t2
                      refine wpS_bind (wpS_elemG exa ?_)
                      have m5:=m4.pushA sa da kA
                      by_cases q5:k - 1=0
                      · rw [if_pos (beq_iff_eq.mpr q5)]
                        exact wpS_pure (And.intro lkN (.inl ⟨_,rfl,mergedH_done m5 sa sb (.inl q5)⟩))
                      · rw [if_neg (fun z=>q5 (beq_iff_eq.mp z))]
                        have gn:GoH κ a b _ (k - 1) (k1):=⟨m5,by omega,by omega⟩
                        split
                        · exact wpS_pure (And.intro lkN (.inr ⟨rfl,gn,by show k - 1+(k1)+1≤na+nb; omega⟩))
                        · exact wpS_pure (And.intro rfl ⟨gn,by show k - 1+(k1)+1≤na+nb; omega,lkN⟩)
                · rw [if_neg p1]
                  have k10:k1=nb2 - 1:=by omega
                  subst k10
                  have kA:=t2
                  refine wpS_bind (wpS_elemG exa ?_)
                  have m5:=m3.pushA sa da kA
                  by_cases q5:k - 1=0
                  · rw [if_pos (beq_iff_eq.mpr q5)]
                    exact wpS_pure (And.intro lkN (.inl ⟨_,rfl,mergedH_done m5 sa sb (.inl q5)⟩))
                  · rw [if_neg (fun z=>q5 (beq_iff_eq.mp z))]
                    have gn:GoH κ a b _ (k - 1) (nb2 - 1):=⟨m5,by omega,by omega⟩
                    split
                    · exact wpS_pure (And.intro lkN (.inr ⟨rfl,gn,by show k - 1+(nb2 - 1)+1≤na+nb; omega⟩))
                    · exact wpS_pure (And.intro rfl ⟨gn,by show k - 1+(nb2 - 1)+1≤na+nb; omega,lkN⟩)
end
end L2
namespace L2
open PySem PySem.Spec PyProof.Rows
section
variable {M:Model} {A:Around} {E:Value→Shared→Prop} {s:Shared}
def mergeAtG:Nat→StateT SortSt Sem Bool:=sortPriv% PySem.Builtin.mergeAt
theorem written {α:Type}:∀ (ms:List α) (n base:Nat) (xs:Array α),base+n+ms.length≤xs.size →
    ((ms.zipIdx n).foldl (fun a p=>a.setIfInBounds (base+p.2) p.1) xs).toList=xs.toList.take (base+n)++ms++xs.toList.drop (base+n+ms.length)
  | [],n,base,xs,h=>by simp
  | m :: ms,n,base,xs,h=>by
    rw [List.zipIdx_cons,List.foldl_cons]
    have hl:base+n+(ms.length+1)≤xs.size:=h
    rw [written ms (n+1) base (xs.setIfInBounds (base+n) m) (by rw [Array.size_setIfInBounds]; omega)]
    rw [Array.toList_setIfInBounds]
    have h1:base+n < xs.toList.length:=by rw [Array.length_toList]; omega
    rw [show base+(n+1)=base+n+1 by omega]
    rw [List.take_set,List.drop_set,if_pos (by omega)]
    have e1:(xs.toList.take (base+n+1)).set (base+n) m=xs.toList.take (base+n)++[m]:=by
      rw [List.take_succ_eq_append_getElem h1,List.set_append_right _ _ (by rw [List.length_take]; omega)]
      rw [List.length_take,Nat.min_eq_left (by omega),Nat.sub_self]
      rfl
    rw [e1,show base+n+1+ms.length=base+n+(m :: ms).length by simp; omega]
    simp
theorem wpS_set {σ:Type} {st st':σ} {Q:PUnit→σ→Prop} (h:Q ⟨⟩ st'):wpS M A E s (set st':StateT σ Sem PUnit) Q st:=by
  unfold wpS; rw [StateT.run_set]; exact wpAny_pure ⟨rfl,h⟩
theorem seg_get {κ:Keyed→Int} {a:Array Keyed} {lo n:Nat} (h:Rise κ ((a.toList.drop lo).take n)) (hn:lo+n≤a.size) {i j:Nat} (hij:i≤j) (hj:j < n):κ (a.getD (lo+i) default)≤κ (a.getD (lo+j) default):=by
  have ei:a.getD (lo+i) default=a.toList[lo+i]'(by simp; omega):=by
    have:lo+i < a.size:=by omega
    simp [Array.getD,this]
  have ej:a.getD (lo+j) default=a.toList[lo+j]'(by simp; omega):=by
    have:lo+j < a.size:=by omega
    simp [Array.getD,this]
  rw [ei,ej]
  rcases Nat.lt_or_ge i j with h' | h'
  · have:=List.pairwise_iff_getElem.mp h i j (by simp; omega) (by simp; omega) h'
    rwa [List.getElem_take,List.getElem_take,List.getElem_drop,List.getElem_drop] at this
  · have:i=j:=by omega
    subst this; exact Int.le_refl _
theorem three {α:Type} {κ:α→Int} {A1 A2 B1 B2 ms:List α} (sA:Rise κ (A1++A2)) (sB:Rise κ (B1++B2)) (hm:Rise κ ms) (pm:ms.Perm (A2++B1)) (h1:∀ x∈A1,∀ y∈B1++B2,κ x≤κ y) (h2:∀ x∈A1++A2,∀ y∈B2,κ x≤κ y):Rise κ (A1++ms++B2):=by
  obtain ⟨a1,a2,a3⟩:=List.pairwise_append.mp sA
  obtain ⟨b1,b2,b3⟩:=List.pairwise_append.mp sB
  refine Rise.app (Rise.app a1 hm fun x hx y hy=>?_) b2 fun x hx y hy=>?_
  · rcases List.mem_append.mp (pm.mem_iff.mp hy) with hy | hy
    · exact a3 x hx y hy
    · exact h1 x hx y (List.mem_append_left _ hy)
  · rcases List.mem_append.mp hx with hx | hx
    · exact h2 x (List.mem_append_left _ hx) y hy
    · rcases List.mem_append.mp (pm.mem_iff.mp hx) with hx | hx
      · exact h2 x (List.mem_append_right _ hx) y hy
      · exact b3 x hx y hy
theorem wpS_mergeAt {kd:SortKind} {κ:Keyed→Int} {S:Keyed→Prop} {st:SortSt} {i sa na pw nb pw':Nat} {Q:Bool→SortSt→Prop} (L:LtG M A E s kd κ S) (hk:kindOf st=kd) (hfa:failedOf st=none) (p1:(pendingOf st)[i]?=some (sa,na,pw)) (p2:(pendingOf st)[i+1]?=some (sa+na,nb,pw'))
    (hS:∀ x∈(arrOf st).toList,S x) (ha:0 < na) (hb:0 < nb) (hn:sa+na+nb≤(arrOf st).size) (r1:Rise κ (((arrOf st).toList.drop sa).take na)) (r2:Rise κ (((arrOf st).toList.drop (sa+na)).take nb))
    (h:∀ (arr':Array Keyed) (g:Nat) (seg:List Keyed),arr'.toList=(arrOf st).toList.take sa++seg++(arrOf st).toList.drop (sa+na+nb)→Rise κ seg→seg.Perm (((arrOf st).toList.drop sa).take na++((arrOf st).toList.drop (sa+na)).take nb) →
      Q true (SortSt.mk' kd arr' (((pendingOf st).setIfInBounds i (sa,na+nb,pw)).eraseIdxIfInBounds (i+1)) g none)):wpS M A E s (mergeAtG i) Q st:=by
  refine wpS_bind (wpS_get ?_)
  have inn:∀ i,i < (arrOf st).size→∃ x,(arrOf st)[i]?=some x∧S x:=fun i hi=>by
    obtain ⟨x,e,m,_⟩:=getG hi
    exact ⟨x,e,hS x m⟩
  have split:(arrOf st).toList=(arrOf st).toList.take sa++(((arrOf st).toList.drop sa).take na++((arrOf st).toList.drop (sa+na)).take nb)++(arrOf st).toList.drop (sa+na+nb):=by
    rw [List.append_assoc,List.append_assoc,← drop_split _ (sa+na) nb,← drop_split _ sa na,List.take_append_drop]
  rw [p1,p2]
  dsimp only
  refine wpS_bind (wpS_set ?_)
  subst hk
  obtain ⟨x0,ex0,mx0,dx0⟩:=getG (show sa+na < (arrOf st).size by omega)
  have x0B:∀ y∈((arrOf st).toList.drop (sa+na)).take nb,κ x0≤κ y:=fun y hy=>by
    obtain ⟨j,j1,j2,rfl⟩:=mem_takeG hy
    have:=seg_get r2 hn (i:=0) (j:=j) (by omega) j1
    rwa [Nat.add_zero,getD_of ex0] at this
  have same:∀ g:Nat,∀ f:Option Value,f=none→∀ (arr':Array Keyed) (seg:List Keyed),arr'.toList=(arrOf st).toList.take sa++seg++(arrOf st).toList.drop (sa+na+nb)→Rise κ seg→seg.Perm (((arrOf st).toList.drop sa).take na++((arrOf st).toList.drop (sa+na)).take nb)→Q true (SortSt.mk' (kindOf st) arr' (((pendingOf st).setIfInBounds i (sa,na+nb,pw)).eraseIdxIfInBounds (i+1)) g f):=fun g f hf arr' seg e1 e2 e3=>by
    rw [hf]; exact h arr' g seg e1 e2 e3
  refine wpS_bind (wpS_elemG ex0 (wpS_bind (wpS_gallop (B:=fun i=>!decide (κ x0 < κ ((arrOf st).getD (sa+i) default))) rfl (askG_r L (hS _ mx0) (fun i hi=>inn _ (by omega))) (fun i j hij hj hB=>?_) (by omega) fun k hk' f1 f2=>?_)))
  · have h3:=seg_get r1 (by omega) hij hj
    simp only [Bool.not_eq_true',decide_eq_false_iff_not] at hB ⊢
    omega
  have u1:∀ z∈((arrOf st).toList.drop sa).take k,κ z≤κ x0:=fun z hz=>by
    obtain ⟨j,j1,j2,rfl⟩:=mem_takeG hz
    have h3:=f1 j j1
    simp only [Bool.not_eq_true',decide_eq_false_iff_not] at h3
    omega
  dsimp only
  by_cases q1:na - k=0
  · rw [if_pos (beq_iff_eq.mpr q1)]
    have:k=na:=by omega
    subst this
    exact wpS_pure (same _ _ hfa _ _ split (Rise.app r1 r2 fun x hx y hy=>Int.le_trans (u1 x hx) (x0B y hy)) (List.Perm.refl _))
  rw [if_neg (fun z=>q1 (beq_iff_eq.mp z))]
  have eA:((arrOf st).toList.drop sa).take na=((arrOf st).toList.drop sa).take k++((arrOf st).toList.drop (sa+k)).take (na - k):=by
    conv=>lhs; rw [show na=k+(na - k) by omega]
    rw [List.take_add,List.drop_drop]
  obtain ⟨x1,ex1,mx1,dx1⟩:=getG (show sa+k+(na - k) - 1 < (arrOf st).size by omega)
  have x1A:∀ y∈((arrOf st).toList.drop sa).take na,κ y≤κ x1:=fun y hy=>by
    obtain ⟨j,j1,j2,rfl⟩:=mem_takeG hy
    have:=seg_get r1 (by omega) (i:=j) (j:=na - 1) (by omega) (by omega)
    rwa [show sa+(na - 1)=sa+k+(na - k) - 1 by omega,getD_of ex1] at this
  refine wpS_bind (wpS_elemG ex1 (wpS_bind (wpS_gallop (B:=fun i=>decide (κ ((arrOf st).getD (sa+na+i) default) < κ x1)) rfl (askG_l L (hS _ mx1) (fun i hi=>inn _ (by omega))) (fun i j hij hj hB=>decide_eq_true (Int.lt_of_le_of_lt (seg_get r2 hn hij hj) (of_decide_eq_true hB))) (by omega) fun k1 hk1 g1 g2=>?_)))
  have eB:((arrOf st).toList.drop (sa+na)).take nb=((arrOf st).toList.drop (sa+na)).take k1++((arrOf st).toList.drop (sa+na+k1)).take (nb - k1):=by
    conv=>lhs; rw [show nb=k1+(nb - k1) by omega]
    rw [List.take_add,List.drop_drop]
  have v1:∀ z∈((arrOf st).toList.drop (sa+na)).take k1,κ z≤κ x1:=fun z hz=>by
    obtain ⟨j,j1,j2,rfl⟩:=mem_takeG hz
    exact Int.le_of_lt (of_decide_eq_true (g1 j j1))
  have v2:∀ z∈((arrOf st).toList.drop (sa+na+k1)).take (nb - k1),κ x1≤κ z:=fun z hz=>by
    obtain ⟨j,j1,j2,rfl⟩:=mem_takeG hz
    have:=of_decide_eq_false (g2 (k1+j) (by omega) (by omega))
    rw [← Nat.add_assoc] at this
    omega
  dsimp only
  by_cases q2:k1=0
  · rw [if_pos (beq_iff_eq.mpr q2)]
    subst q2
    exact wpS_pure (same _ _ hfa _ _ split (Rise.app r1 r2 fun x hx y hy=>Int.le_trans (x1A x hx) (v2 y (by simpa using hy))) (List.Perm.refl _))
  rw [if_neg (fun z=>q2 (beq_iff_eq.mp z))]
  have ex:((arrOf st).extract (sa+k) (sa+na)).toList=((arrOf st).toList.drop (sa+k)).take (na - k):=by
    rw [ext_to,List.drop_take,show sa+na - (sa+k)=na - k by omega]
  have ey:((arrOf st).extract (sa+na) (sa+na+k1)).toList=((arrOf st).toList.drop (sa+na)).take k1:=ext_k _ _ _
  have subx:∀ x∈((arrOf st).extract (sa+k) (sa+na)).toList,x∈(arrOf st).toList:=fun x hx=>by rw [ex] at hx; exact List.mem_of_mem_drop (List.mem_of_mem_take hx)
  have suby:∀ x∈((arrOf st).extract (sa+na) (sa+na+k1)).toList,x∈(arrOf st).toList:=fun x hx=>by rw [ey] at hx; exact List.mem_of_mem_drop (List.mem_of_mem_take hx)
  have rA:=r1
  rw [eA] at rA
  have rB:=r2
  rw [eB] at rB
  have rx:Rise κ ((arrOf st).extract (sa+k) (sa+na)).toList:=by rw [ex]; exact (List.pairwise_append.mp rA).2.1
  have ry:Rise κ ((arrOf st).extract (sa+na) (sa+na+k1)).toList:=by rw [ey]; exact (List.pairwise_append.mp rB).1
  have hfx:∀ x∈((arrOf st).extract (sa+na) (sa+na+k1)).toList.take 1,∀ y∈((arrOf st).extract (sa+k) (sa+na)).toList,κ x≤κ y:=fun x hx y hy=>by
    rw [ey,List.take_take,Nat.min_eq_left (by omega),dx0] at hx
    have:x=x0:=by simpa using hx
    rw [this]
    rw [ex] at hy
    obtain ⟨j,j1,j2,rfl⟩:=mem_takeG hy
    have h3:=f2 (k+j) (by omega) (by omega)
    simp only [Bool.not_eq_false',decide_eq_true_eq] at h3
    rw [← Nat.add_assoc] at h3
    omega
  have hlx:∀ x∈((arrOf st).extract (sa+na) (sa+na+k1)).toList,∀ y∈((arrOf st).extract (sa+k) (sa+na)).toList.drop (((arrOf st).extract (sa+k) (sa+na)).size - 1),κ x≤κ y:=fun x hx y hy=>by
    rw [ey] at hx
    have sz:((arrOf st).extract (sa+k) (sa+na)).size=na - k:=by rw [Array.size_extract]; omega
    rw [sz,ex,List.drop_take,List.drop_drop,show sa+k+(na - k - 1)=sa+k+(na - k) - 1 by omega,dx1,show na - k - (na - k - 1)=1 by omega] at hy
    have:y=x1:=by simpa using hy
    rw [this]
    exact v1 x hx
  have fin:∀ (r:Array Keyed) (st2:SortSt),MergedG κ ((arrOf st).extract (sa+k) (sa+na)) ((arrOf st).extract (sa+na) (sa+na+k1)) r→Like (SortSt.mk' (kindOf st) (arrOf st) (((pendingOf st).setIfInBounds i (sa,na+nb,pw)).eraseIdxIfInBounds (i+1)) (gallopOf st) (failedOf st)) st2 →
      ∀ arr':Array Keyed,arr'=(r.toList.zipIdx 0).foldl (fun a p=>a.setIfInBounds (sa+k+p.2) p.1) (arrOf st2)→Q true (SortSt.mk' (kindOf st2) arr' (pendingOf st2) (gallopOf st2) (failedOf st2)):=fun r st2 mr lk arr' earr=>by
    have rl:r.toList.length=na - k+k1:=by
      rw [mr.2.length_eq,List.length_append,ex,ey,List.length_take,List.length_take,List.length_drop,List.length_drop,Array.length_toList]; omega
    rw [lk.kd,lk.pe]
    have la:arrOf st2=arrOf st:=lk.ar
    have w:=written r.toList 0 (sa+k) (arrOf st) (by omega)
    refine same _ _ (lk.fa.trans hfa) arr' (((arrOf st).toList.drop sa).take k++r.toList++((arrOf st).toList.drop (sa+na+k1)).take (nb - k1)) ?_ ?_ ?_
    · rw [earr,la,w,rl,Nat.add_zero,show sa+k+(na - k+k1)=sa+na+k1 by omega]
      have e1:(arrOf st).toList.take (sa+k)=(arrOf st).toList.take sa++((arrOf st).toList.drop sa).take k:=List.take_add
      have e2:=drop_split (arrOf st).toList (sa+na+k1) (nb - k1)
      rw [show sa+na+k1+(nb - k1)=sa+na+nb by omega] at e2
      rw [e1]
      conv=>lhs; rw [e2]
      simp only [List.append_assoc]
    · refine three rA rB mr.1 (by rw [← ex,← ey]; exact mr.2) (fun x hx y hy=>Int.le_trans (u1 x hx) (x0B y (by rw [eB]; exact hy))) fun x hx y hy=>Int.le_trans (x1A x (by rw [eA]; exact hx)) (v2 y hy)
    · have pm:=mr.2
      rw [ex,ey] at pm
      rw [eA,eB]
      refine (List.Perm.append_right _ (List.Perm.append_left _ pm)).trans ?_
      simp only [List.append_assoc]
      exact List.Perm.refl _
  have sx:0 < ((arrOf st).extract (sa+k) (sa+na)).size:=by rw [Array.size_extract]; omega
  have sy:0 < ((arrOf st).extract (sa+na) (sa+na+k1)).size:=by rw [Array.size_extract]; omega
  by_cases q3:na - k≤k1
  · rw [if_pos q3]
    refine wpS_bind (wpS_mergeLo L rfl sx sy (fun x hx=>hS x (subx x hx)) (fun x hx=>hS x (suby x hx)) rx ry hfx hlx fun r st2 mr lk=>?_)
    refine wpS_bind (wpS_modify (wpS_bind (wpS_get ?_)))
    have fl:failedOf st2=none:=lk.fa.trans hfa
    have:=fin r st2 mr lk _ rfl
    refine wpS_pure ?_
    have e:(failedOf st2).isNone=true:=by rw [fl]; rfl
    show Q (failedOf st2).isNone _
    rw [e]
    exact this
  · rw [if_neg q3]
    refine wpS_bind (wpS_mergeHi L rfl sx sy (fun x hx=>hS x (subx x hx)) (fun x hx=>hS x (suby x hx)) rx ry hfx hlx fun r st2 mr lk=>?_)
    refine wpS_bind (wpS_modify (wpS_bind (wpS_get ?_)))
    have fl:failedOf st2=none:=lk.fa.trans hfa
    have:=fin r st2 mr lk _ rfl
    refine wpS_pure ?_
    have e:(failedOf st2).isNone=true:=by rw [fl]; rfl
    show Q (failedOf st2).isNone _
    rw [e]
    exact this
end
end L2
namespace L2
open PySem PySem.Spec PyProof.Rows
section
variable {M:Model} {A:Around} {E:Value→Shared→Prop} {s:Shared}
def binarySortG:Nat→Nat→Nat→StateT SortSt Sem Bool:=sortPriv% PySem.Builtin.binarySort
theorem wpS_ltAtG {kd:SortKind} {κ:Keyed→Int} {S:Keyed→Prop} (L:LtG M A E s kd κ S) {st:SortSt} {i j:Nat} {x y:Keyed} {Q:Option Bool→SortSt→Prop} (hk:kindOf st=kd) (hx:(arrOf st)[i]?=some x) (hy:(arrOf st)[j]?=some y) (sx:S x) (sy:S y) (h:Q (some (decide (κ x < κ y))) st):wpS M A E s (ltAt' i j) Q st:=by
  rw [ltAt'_eq]
  refine wpS_bind (wpS_get ?_)
  exact wpS_bind (wpS_elemG hx (wpS_bind (wpS_elemG hy (L x y sx sy st Q hk h))))
end
end L2
namespace L2
open PySem PySem.Spec PyProof.Rows
end L2
namespace L2
open PySem PySem.Spec PyProof.Rows
section
variable {M:Model} {A:Around} {E:Value→Shared→Prop} {s:Shared} {κ:Keyed→Int} {S:Keyed→Prop} {kd:SortKind}
def KG (κ:Keyed→Int) (xs:Array Keyed) (i:Nat):Int:=κ (xs.getD i default)
theorem KG_same {xs ys:Array Keyed} {i j:Nat} (h:xs[i]?=ys[j]?):KG κ xs i=KG κ ys j:=by
  unfold KG; rw [Array.getD_eq_getD_getElem?,Array.getD_eq_getD_getElem?,h]
structure Amid (st0:SortSt) (lo n:Nat) (st:SortSt):Prop where
  kd:kindOf st=kindOf st0
  fa:failedOf st=failedOf st0
  pe:pendingOf st=pendingOf st0
  pm:(arrOf st).Perm (arrOf st0)
  out:∀ i,i < lo∨lo+n≤i→(arrOf st)[i]?=(arrOf st0)[i]?
theorem Amid.refl (st:SortSt) (lo n:Nat):Amid st lo n st:=⟨rfl,rfl,rfl,Array.Perm.refl _,fun _ _=>rfl⟩
theorem Amid.sz {st0 st:SortSt} {lo n:Nat} (h:Amid st0 lo n st):(arrOf st).size=(arrOf st0).size:=h.pm.size_eq
theorem Amid.mem {st0 st:SortSt} {lo n:Nat} (h:Amid st0 lo n st) {x:Keyed} (m:x∈(arrOf st).toList):x∈(arrOf st0).toList:=(Array.perm_iff_toList_perm.mp h.pm).mem_iff.mp m
theorem Amid.set {st0 st:SortSt} {lo n:Nat} (h:Amid st0 lo n st) {xs:Array Keyed} (hp:xs.Perm (arrOf st)) (ho:∀ i,i < lo∨lo+n≤i→xs[i]?=(arrOf st)[i]?):Amid st0 lo n (setArr st xs) :=
  ⟨h.kd,h.fa,h.pe,hp.trans h.pm,fun i hi=>(ho i hi).trans (h.out i hi)⟩
def UpG (κ:Keyed→Int) (xs:Array Keyed) (lo k:Nat):Prop:=∀ i j,i≤j→j < k→KG κ xs (lo+i)≤KG κ xs (lo+j)
def DownG (κ:Keyed→Int) (xs:Array Keyed) (lo k:Nat):Prop:=∀ i j,i≤j→j < k→KG κ xs (lo+j)≤KG κ xs (lo+i)
theorem wpS_ltG (L:LtG M A E s kd κ S) {st0 st:SortSt} {lo n i j:Nat} {Q:Option Bool→SortSt→Prop} (hk:kindOf st0=kd) (hS:∀ x∈(arrOf st0).toList,S x) (B:Amid st0 lo n st) (hi:i < (arrOf st0).size) (hj:j < (arrOf st0).size)
    (h:Q (some (decide (KG κ (arrOf st) i < KG κ (arrOf st) j))) st):wpS M A E s (ltAt' i j) Q st:=by
  obtain ⟨x,ex,mx,_⟩:=getG (show i < (arrOf st).size by rw [B.sz]; exact hi)
  obtain ⟨y,ey,my,_⟩:=getG (show j < (arrOf st).size by rw [B.sz]; exact hj)
  refine wpS_ltAtG L (B.kd.trans hk) ex ey (hS x (B.mem mx)) (hS y (B.mem my)) ?_
  unfold KG at h
  rwa [getD_of ex,getD_of ey] at h
theorem KG_bubble {xs:Array Keyed} {src d:Nat} (hs:src < xs.size) (hd:d≤src) (k:Nat) :
    KG κ (bubble xs src d) k=if k=src - d then KG κ xs src else if src - d < k∧k≤src then KG κ xs (k - 1) else KG κ xs k:=by
  have e:=getElem?_bubble hs d hd k
  split
  · next h1=>rw [if_pos h1] at e; exact KG_same e
  · next h1 =>
    rw [if_neg h1] at e
    split
    · next h2=>rw [if_pos h2] at e; exact KG_same e
    · next h2=>rw [if_neg h2] at e; exact KG_same e
theorem KG_mirror {xs:Array Keyed} {i j:Nat} (hj:j≤xs.size) (k:Nat):KG κ (mirror xs i j ((j - i) / 2)) k=if i≤k∧k < j then KG κ xs (i+j - 1 - k) else KG κ xs k:=by
  have e:=getElem?_mirror_all (i:=i) hj k
  split
  · next h1=>rw [if_pos h1] at e; exact KG_same e
  · next h1=>rw [if_neg h1] at e; exact KG_same e
theorem KG_level {xs:Array Keyed} {i j:Nat} (hj:j≤xs.size) (heq:∀ k,i≤k→k < j→KG κ xs k=KG κ xs (j - 1)) (k:Nat):KG κ (mirror xs i j ((j - i) / 2)) k=KG κ xs k:=by
  rw [KG_mirror hj]
  split
  · rw [heq _ (by omega) (by omega),heq k (by omega) (by omega)]
  · rfl
theorem Amid.mir {st0 st:SortSt} {lo n:Nat} (h:Amid st0 lo n st) {i j:Nat} (hi:lo≤i) (hj:j≤lo+n) (hn:lo+n≤(arrOf st0).size):Amid st0 lo n (setArr st (mirror (arrOf st) i j ((j - i) / 2))) :=
  h.set (mirror_perm _ _ _ _) fun k hk=>by rw [getElem?_mirror_all (by rw [h.sz]; omega),if_neg (by omega)]
theorem Amid.bub {st0 st:SortSt} {lo n:Nat} (h:Amid st0 lo n st) {k l:Nat} (hk:k < n) (hl:l≤k) (hn:lo+n≤(arrOf st0).size):Amid st0 lo n (setArr st (bubble (arrOf st) (lo+k) (k - l))) :=
  h.set (bubble_perm _ _ _) fun i hi=>by
    rw [getElem?_bubble (by rw [h.sz]; omega) _ (by omega)]
    rw [if_neg (by omega),if_neg (by omega)]
theorem wpS_rev {st:SortSt} {i j:Nat} {Q:Unit→SortSt→Prop} (h:Q () (setArr st (mirror (arrOf st) i j ((j - i) / 2)))):wpS M A E s (reverseSlice' i j) Q st:=by
  rw [reverseSlice'_eq]; exact wpS_modify h
theorem wpS_down {st:SortSt} {i j:Nat} {Q:Unit→SortSt→Prop} (h:Q () (setArr st (bubble (arrOf st) i (i - j)))):wpS M A E s (moveDown' i j) Q st:=by
  rw [moveDown'_eq]; exact wpS_modify h
theorem wpS_binarySortG (L:LtG M A E s kd κ S) {st0 st:SortSt} {lo n ok:Nat} {Q:Bool→SortSt→Prop} (hk:kindOf st0=kd) (hS:∀ x∈(arrOf st0).toList,S x) (hn:lo+n≤(arrOf st0).size) (hok:ok≤n) (B:Amid st0 lo n st) (up:UpG κ (arrOf st) lo ok)
    (h:∀ u,Amid st0 lo n u→UpG κ (arrOf u) lo n→Q true u):wpS M A E s (binarySortG lo n ok) Q st:=by
  refine wpS_bind (wpS_mono (wpS_forRange (I:=fun k (c:Option Bool × Unit) u=>c=(none,())∧Amid st0 lo n u∧UpG κ (arrOf u) lo (min k n))
    (Q:=fun (c:Option Bool × Unit) u=>c=(none,())∧Amid st0 lo n u∧UpG κ (arrOf u) lo n) ?step ?fin ?init) ?post)
  case post =>
    rintro c u ⟨rfl,B1,up1⟩
    exact wpS_pure (h u B1 up1)
  case init =>
    refine ⟨rfl,B,fun i j hij hj=>?_⟩
    rcases Nat.eq_zero_or_pos ok with h1 | h1
    · have:i=j:=by omega
      subst this; exact Int.le_refl _
    · exact up i j hij (by omega)
  case fin =>
    rintro c u ⟨hc,B1,up1⟩
    refine ⟨hc,B1,?_⟩
    rwa [show min (max (max ok 1) n) n=n by omega] at up1
  case step =>
    rintro k c u hak hkn ⟨rfl,B1,up1⟩
    rw [show min k n=k by omega] at up1
    refine wpS_bind (wpS_mono (wpS_forRange (I:=fun x (c:Option Bool × Nat × Nat) v=>v=u∧∃ l r,c=(none,l,r)∧l≤r∧r≤k∧r - l≤k - x ∧
        (∀ i,i < l→KG κ (arrOf u) (lo+i)≤KG κ (arrOf u) (lo+k))∧(∀ i,r≤i→i < k→KG κ (arrOf u) (lo+k) < KG κ (arrOf u) (lo+i)))
      (Q:=fun (c:Option Bool × Nat × Nat) v=>v=u∧∃ l r,c=(none,l,r)∧l≤k ∧
        (∀ i,i < l→KG κ (arrOf u) (lo+i)≤KG κ (arrOf u) (lo+k))∧(∀ i,l≤i→i < k→KG κ (arrOf u) (lo+k) < KG κ (arrOf u) (lo+i))) ?istep ?ifin ?iinit) ?ipost)
    case iinit=>exact ⟨rfl,0,k,rfl,Nat.zero_le _,Nat.le_refl _,Nat.le_refl _,fun i hi=>absurd hi (Nat.not_lt_zero i),fun i g1 g2=>by omega⟩
    case ifin =>
      rintro c v ⟨rfl,l,r,rfl,hlr,hrk,hm,g1,g2⟩
      have:l=r:=by omega
      subst this
      exact ⟨rfl,l,l,rfl,hrk,g1,g2⟩
    case istep =>
      rintro x c v _ hxk ⟨rfl,l,r,rfl,hlr,hrk,hm,g1,g2⟩
      dsimp only
      rcases Nat.lt_or_ge l r with hge | hge
      · rw [if_neg (by omega)]
        refine wpS_bind (wpS_ltG L hk hS B1 (by omega) (by omega) ?_)
        by_cases hless:KG κ (arrOf v) (lo+k) < KG κ (arrOf v) (lo+(l+r) / 2)
        · simp only [hless,decide_true,if_true]
          refine wpS_pure ⟨rfl,l,(l+r) / 2,rfl,by omega,by omega,by omega,g1,fun i i1 i2=>?_⟩
          exact Int.lt_of_lt_of_le hless (up1 _ _ i1 i2)
        · simp only [hless,decide_false,Bool.false_eq_true,if_false]
          refine wpS_pure ⟨rfl,(l+r) / 2+1,r,rfl,by omega,by omega,by omega,fun i i1=>?_,g2⟩
          exact Int.le_trans (up1 i ((l+r) / 2) (by omega) (by omega)) (Int.not_lt.mp hless)
      · rw [if_pos hge]
        have:l=r:=by omega
        subst this
        exact wpS_pure ⟨rfl,l,l,rfl,hrk,g1,g2⟩
    case ipost =>
      rintro c v ⟨rfl,l,r,rfl,hlk,g1,g2⟩
      have hks:lo+k < (arrOf v).size:=by rw [B1.sz]; omega
      refine wpS_bind (wpS_down (wpS_pure ⟨rfl,?_,?_⟩))
      · rw [show lo+k - (lo+l)=k - l by omega]
        exact B1.bub hkn hlk hn
      rw [show min (k+1) n=k+1 by omega]
      intro i j hij hj
      show KG κ (bubble (arrOf v) (lo+k) (lo+k - (lo+l))) (lo+i)≤KG κ (bubble (arrOf v) (lo+k) (lo+k - (lo+l))) (lo+j)
      rw [show lo+k - (lo+l)=k - l by omega]
      rw [KG_bubble hks (by omega),KG_bubble hks (by omega),show lo+k - (k - l)=lo+l by omega]
      have at1:∀ i,i≠0→lo+i - 1=lo+(i - 1):=fun i hi=>by omega
      repeat' split
      all_goals first
        | (exfalso; omega)
        | exact Int.le_refl _
        | (rw [at1 _ (by omega)]; exact Int.le_of_lt (g2 _ (by omega) (by omega)))
        | (rw [at1 i (by omega),at1 j (by omega)]; exact up1 _ _ (by omega) (by omega))
        | (rw [at1 j (by omega)]; exact up1 _ _ (by omega) (by omega))
        | exact g1 _ (by omega)
        | exact up1 _ _ (by omega) (by omega)
end
end L2
namespace L2
open PySem PySem.Spec PyProof.Rows
section
variable {M:Model} {A:Around} {E:Value→Shared→Prop} {s:Shared} {κ:Keyed→Int} {S:Keyed→Prop} {kd:SortKind}
def countRunG:Nat→Nat→StateT SortSt Sem (Option Nat):=sortPriv% PySem.Builtin.countRun
def AscF (M:Model) (A:Around) (E:Value→Shared→Prop) (s:Shared) (lo:Nat) (f:Nat→Option (Option Nat) × Nat→StateT SortSt Sem (ForInStep (Option (Option Nat) × Nat))):Prop :=
  ∀ x n u (R:ForInStep (Option (Option Nat) × Nat)→SortSt→Prop),wpS M A E s (ltAt' (lo+n) (lo+n - 1)) (fun r v=>∃ b,r=some b∧(b=true→R (.done (none,n)) v)∧(b=false→R (.yield (none,n+1)) v)) u→wpS M A E s (f x (none,n)) R u
theorem UpG.more {xs:Array Keyed} {lo x:Nat} (up:UpG κ xs lo x) (hx:1≤x) (g:¬ KG κ xs (lo+x) < KG κ xs (lo+x - 1)):UpG κ xs lo (x+1):=fun i j hij hj=>by
  rcases Nat.lt_or_ge j x with hjx | hjx
  · exact up i j hij hjx
  · have e:j=x:=by omega
    subst e
    rcases Nat.lt_or_ge i j with hi | hi
    · have:=up i (j - 1) (by omega) (by omega)
      rw [show lo+(j - 1)=lo+j - 1 by omega] at this
      omega
    · rw [show i=j by omega]; exact Int.le_refl _
theorem DownG.more {xs:Array Keyed} {lo x:Nat} (up:DownG κ xs lo x) (hx:1≤x) (g:KG κ xs (lo+x)≤KG κ xs (lo+x - 1)):DownG κ xs lo (x+1):=fun i j hij hj=>by
  rcases Nat.lt_or_ge j x with hjx | hjx
  · exact up i j hij hjx
  · have e:j=x:=by omega
    subst e
    rcases Nat.lt_or_ge i j with hi | hi
    · have:=up i (j - 1) (by omega) (by omega)
      rw [show lo+(j - 1)=lo+j - 1 by omega] at this
      omega
    · rw [show i=j by omega]; exact Int.le_refl _
theorem ascG (L:LtG M A E s kd κ S) {st0 st:SortSt} {lo a nrem:Nat} {f:Nat→Option (Option Nat) × Nat→StateT SortSt Sem (ForInStep (Option (Option Nat) × Nat))} {Q:Option (Option Nat) × Nat→SortSt→Prop} (hk:kindOf st0=kd) (hS:∀ x∈(arrOf st0).toList,S x) (hn:lo+nrem≤(arrOf st0).size) (B:Amid st0 lo nrem st)
    (hf:AscF M A E s lo f) (ha:1≤a) (han:a≤nrem) (up:UpG κ (arrOf st) lo a)
    (h:∀ n,a≤n→n≤nrem→UpG κ (arrOf st) lo n→(n=nrem∨KG κ (arrOf st) (lo+n) < KG κ (arrOf st) (lo+n - 1))→Q (none,n) st):wpS M A E s (forIn [a:nrem] (none,a) f) Q st:=by
  refine wpS_forRange (I:=fun x c u=>u=st∧c=(none,x)∧UpG κ (arrOf st) lo x) ?_ ?_ ⟨rfl,rfl,up⟩
  · rintro x c u hax hxn ⟨rfl,rfl,up1⟩
    refine hf _ _ _ _ (wpS_ltG L hk hS B (by omega) (by omega) ⟨_,rfl,fun e=>?_,fun e=>?_⟩)
    · exact h x hax (by omega) up1 (.inr (of_decide_eq_true e))
    · exact ⟨rfl,rfl,up1.more (by omega) (of_decide_eq_false e)⟩
  · rintro c u ⟨rfl,rfl,up1⟩
    rw [show max a nrem=nrem by omega] at up1 ⊢
    exact h nrem han (Nat.le_refl _) up1 (.inl rfl)
theorem tailG (L:LtG M A E s kd κ S) {st0 st:SortSt} {lo m nrem:Nat} {f:Nat→Option (Option Nat) × Nat→StateT SortSt Sem (ForInStep (Option (Option Nat) × Nat))} {g:Option (Option Nat) × Nat→StateT SortSt Sem (Option Nat)} {Q:Option Nat→SortSt→Prop} (hk:kindOf st0=kd) (hS:∀ x∈(arrOf st0).toList,S x) (hn:lo+nrem≤(arrOf st0).size) (B:Amid st0 lo nrem st)
    (hf:AscF M A E s lo f) (hg:∀ n,g (none,n)=pure (some n)) (ha:1≤m) (han:m≤nrem) (dn:DownG κ (arrOf st) lo m)
    (h:∀ n u,Amid st0 lo nrem u→1≤n→n≤nrem→UpG κ (arrOf u) lo n→Q (some n) u):wpS M A E s (reverseSlice' lo (lo+m) >>= fun _=>(forIn [m:nrem] (none,m) f >>= g)) Q st:=by
  refine wpS_bind (wpS_rev ?_)
  have B1:=B.mir (i:=lo) (j:=lo+m) (Nat.le_refl _) (by omega) hn
  have sz:lo+m≤(arrOf st).size:=by rw [B.sz]; omega
  refine wpS_bind (ascG L hk hS hn B1 hf ha han (fun i j hij hj=>?_) fun n h1 h2 h3 _=>?_)
  · show KG κ (mirror (arrOf st) lo (lo+m) _) (lo+i)≤KG κ (mirror (arrOf st) lo (lo+m) _) (lo+j)
    rw [KG_mirror sz,KG_mirror sz,if_pos (by omega),if_pos (by omega)]
    rw [show lo+(lo+m) - 1 - (lo+i)=lo+(m - 1 - i) by omega,show lo+(lo+m) - 1 - (lo+j)=lo+(m - 1 - j) by omega]
    exact dn _ _ (by omega) (by omega)
  · rw [hg]
    exact wpS_pure (h n _ B1 (by omega) h2 h3)
def DscF (M:Model) (A:Around) (E:Value→Shared→Prop) (s:Shared) (lo:Nat) (f:Nat→Option (Option Nat) × Nat × Nat→StateT SortSt Sem (ForInStep (Option (Option Nat) × Nat × Nat))):Prop :=
  ∀ x n q u (R:ForInStep (Option (Option Nat) × Nat × Nat)→SortSt→Prop),wpS M A E s (ltAt' (lo+n) (lo+n - 1)) (fun r v=>∃ b,r=some b∧(b=true→q > 0→R (.yield (none,n+1,0)) (setArr v (mirror (arrOf v) (lo+n - (q+1)) (lo+n) ((lo+n - (lo+n - (q+1))) / 2))))∧(b=true→q=0→R (.yield (none,n+1,0)) v) ∧
    (b=false→wpS M A E s (ltAt' (lo+n - 1) (lo+n)) (fun r w=>∃ b,r=some b∧(b=true→R (.done (none,n,q)) w)∧(b=false→R (.yield (none,n+1,q+1)) w)) v)) u→wpS M A E s (f x (none,n,q)) R u
theorem descG (L:LtG M A E s kd κ S) {st0 st:SortSt} {lo n nrem:Nat} {f:Nat→Option (Option Nat) × Nat × Nat→StateT SortSt Sem (ForInStep (Option (Option Nat) × Nat × Nat))} {Q:Option (Option Nat) × Nat × Nat→SortSt→Prop} (hk:kindOf st0=kd) (hS:∀ x∈(arrOf st0).toList,S x) (hn:lo+nrem≤(arrOf st0).size) (B:Amid st0 lo nrem st)
    (hf:DscF M A E s lo f) (ha:1≤n) (han:n≤nrem) (dn:DownG κ (arrOf st) lo n)
    (h:∀ m q u,Amid st0 lo nrem u→n≤m→m≤nrem→DownG κ (arrOf u) lo m→q+1≤m→(∀ i,lo+m - (q+1)≤i→i < lo+m→KG κ (arrOf u) i=KG κ (arrOf u) (lo+m - 1))→Q (none,m,q) u):wpS M A E s (forIn [n:nrem] (none,n,0) f) Q st:=by
  refine wpS_forRange (I:=fun x c u=>∃ q,c=(none,x,q)∧Amid st0 lo nrem u∧DownG κ (arrOf u) lo x∧q+1≤x∧(∀ i,lo+x - (q+1)≤i→i < lo+x→KG κ (arrOf u) i=KG κ (arrOf u) (lo+x - 1))) ?_ ?_ ⟨0,rfl,B,dn,ha,fun i h1 h2=>by rw [show i=lo+n - 1 by omega]⟩
  · rintro x c u hax hxn ⟨q,rfl,B1,dn1,hq,he⟩
    have sz:lo+x≤(arrOf u).size:=by rw [B1.sz]; omega
    refine hf _ _ _ _ _ (wpS_ltG L hk hS B1 (by omega) (by omega) ⟨_,rfl,fun e q0=>?_,fun e q0=>?_,fun e=>?_⟩)
    · have e:=of_decide_eq_true e
      have lv:=KG_level sz he
      refine ⟨0,rfl,B1.mir (by omega) (by omega) hn,?_,by omega,fun i h1 h2=>by rw [show i=lo+(x+1) - 1 by omega]⟩
      have d2:DownG κ (mirror (arrOf u) (lo+x - (q+1)) (lo+x) ((lo+x - (lo+x - (q+1))) / 2)) lo x:=fun i j hij hj=>by
        rw [lv,lv]; exact dn1 i j hij hj
      exact d2.more (by omega) (by rw [lv,lv]; exact Int.le_of_lt e)
    · have e:=of_decide_eq_true e
      exact ⟨0,rfl,B1,dn1.more (by omega) (Int.le_of_lt e),by omega,fun i h1 h2=>by rw [show i=lo+(x+1) - 1 by omega]⟩
    · have e:=of_decide_eq_false e
      refine wpS_ltG L hk hS B1 (by omega) (by omega) ⟨_,rfl,fun e2=>?_,fun e2=>?_⟩
      · exact h x q u B1 hax (by omega) dn1 hq he
      · have e2:=of_decide_eq_false e2
        refine ⟨q+1,rfl,B1,dn1.more (by omega) (by omega),by omega,fun i h1 h2=>?_⟩
        rcases Nat.lt_or_ge i (lo+x) with hi | hi
        · rw [he i (by omega) hi,show lo+(x+1) - 1=lo+x by omega]; omega
        · rw [show i=lo+(x+1) - 1 by omega]
  · rintro c u ⟨q,rfl,B1,dn1,hq,he⟩
    rw [show max n nrem=nrem by omega] at dn1 hq he ⊢
    exact h nrem q u B1 han (Nat.le_refl _) dn1 hq he
theorem wpS_countRunG (L:LtG M A E s kd κ S) {st:SortSt} {lo nrem:Nat} {Q:Option Nat→SortSt→Prop} (hk:kindOf st=kd) (hS:∀ x∈(arrOf st).toList,S x) (hn:lo+nrem≤(arrOf st).size) (h1:1≤nrem)
    (h:∀ m u,Amid st lo nrem u→1≤m→m≤nrem→UpG κ (arrOf u) lo m→Q (some m) u):wpS M A E s (countRunG lo nrem) Q st:=by
  have B:=Amid.refl st lo nrem
  have sure:∀ (f:Nat→Option (Option Nat) × Nat→StateT SortSt Sem (ForInStep (Option (Option Nat) × Nat))),(∀ x n u (R:ForInStep (Option (Option Nat) × Nat)→SortSt→Prop),wpS M A E s (ltAt' (lo+n) (lo+n - 1)) (fun r v=>∃ b,r=some b∧(b=true→R (.done (none,n)) v)∧(b=false→R (.yield (none,n+1)) v)) u→wpS M A E s (f x (none,n)) R u)→AscF M A E s lo f:=fun f h=>h
  refine wpS_bind (ascG L hk hS hn B (fun x n u R g=>wpS_bind (wpS_mono g ?_)) (Nat.le_refl 1) h1 (fun i j hij hj=>by rw [show i=j by omega]; exact Int.le_refl _) fun n hn1 hn2 up hor=>?_)
  · rintro r v ⟨b,rfl,g1,g2⟩
    cases b with
    | true=>exact wpS_pure (g1 rfl)
    | false=>exact wpS_pure (g2 rfl)
  dsimp only
  by_cases hnn:n=nrem
  · rw [if_pos (beq_iff_eq.mpr hnn)]
    exact wpS_pure (h n st B hn1 hn2 up)
  rw [if_neg (fun z=>hnn (beq_iff_eq.mp z))]
  have hlt:=hor.resolve_left hnn
  have sz:lo+n≤(arrOf st).size:=by omega
  rcases Nat.lt_or_ge 1 n with hgt | hgt
  · rw [if_pos hgt]
    refine wpS_bind (wpS_ltG L hk hS B (by omega) (by omega) ?_)
    by_cases rose:KG κ (arrOf st) lo < KG κ (arrOf st) (lo+n - 1)
    · rw [decide_eq_true rose]
      exact wpS_pure (h n st B hn1 hn2 up)
    rw [decide_eq_false rose]
    have all:∀ k,lo≤k→k < lo+n→KG κ (arrOf st) k=KG κ (arrOf st) (lo+n - 1):=fun k k1 k2=>by
      have a1:=up 0 (k - lo) (by omega) (by omega)
      have a2:=up (k - lo) (n - 1) (by omega) (by omega)
      rw [Nat.add_zero] at a1
      rw [show lo+(k - lo)=k by omega] at a1 a2
      rw [show lo+(n - 1)=lo+n - 1 by omega] at a2
      omega
    refine wpS_bind (wpS_rev ?_)
    have lv:=KG_level sz all
    have B1:=B.mir (i:=lo) (j:=lo+n) (Nat.le_refl _) (by omega) hn
    have dn:DownG κ (mirror (arrOf st) lo (lo+n) ((lo+n - lo) / 2)) lo (n+1):=by
      refine DownG.more (fun i j hij hj=>?_) hn1 (by rw [lv,lv]; exact Int.le_of_lt hlt)
      rw [lv,lv,all _ (by omega) (by omega),all (lo+i) (by omega) (by omega)]
      exact Int.le_refl _
    replace dn:DownG κ (arrOf (setArr st (mirror (arrOf st) lo (lo+n) ((lo+n - lo) / 2)))) lo (n+1):=dn
    generalize setArr st (mirror (arrOf st) lo (lo+n) ((lo+n - lo) / 2))=w at B1 dn ⊢
    clear rose all lv
    refine wpS_bind (wpS_lift (wpAny_rule ⟨rfl,?_⟩))
    refine wpS_bind (descG L hk hS hn B1 (fun x n q u R g=>wpS_bind (wpS_mono g ?_)) (by omega) (by omega) dn fun m q u B2 m1 m2 dn2 q1 he=>?_)
    · rintro r v ⟨b,rfl,g1,g2,g3⟩
      cases b with
      | true =>
        rcases Nat.eq_zero_or_pos q with q0 | q0
        · subst q0; exact wpS_pure (g2 rfl rfl)
        · dsimp only
          rw [if_pos rfl,if_pos q0]
          exact wpS_bind (wpS_rev (wpS_pure (g1 rfl q0)))
      | false =>
        refine wpS_bind (wpS_mono (g3 rfl) ?_)
        rintro r v ⟨b,rfl,g1,g2⟩
        cases b with
        | true=>exact wpS_pure (g1 rfl)
        | false=>exact wpS_pure (g2 rfl)
    dsimp only
    have sz2:lo+m≤(arrOf u).size:=by rw [B2.sz]; omega
    rcases Nat.eq_zero_or_pos q with q0 | q0
    · rw [if_neg (by omega)]
      refine tailG L hk hS hn B2 (fun x n u R g=>wpS_bind (wpS_mono g ?_)) (fun n=>rfl) (by omega) m2 dn2 h
      rintro r v ⟨b,rfl,g1,g2⟩
      cases b with
      | true=>exact wpS_pure (g1 rfl)
      | false=>exact wpS_pure (g2 rfl)
    · rw [if_pos q0]
      refine wpS_bind (wpS_rev ?_)
      have lv:=KG_level sz2 he
      refine tailG L hk hS hn (B2.mir (by omega) (by omega) hn) (fun x n u R g=>wpS_bind (wpS_mono g ?_)) (fun n=>rfl) (by omega) m2 (fun i j hij hj=>?_) h
      · rintro r v ⟨b,rfl,g1,g2⟩
        cases b with
        | true=>exact wpS_pure (g1 rfl)
        | false=>exact wpS_pure (g2 rfl)
      · show KG κ (mirror _ _ _ _) _≤KG κ (mirror _ _ _ _) _
        rw [lv,lv]; exact dn2 i j hij hj
  · rw [if_neg (by omega)]
    have e1:n=1:=by omega
    have dn:DownG κ (arrOf st) lo (n+1):=DownG.more (fun i j hij hj=>by rw [show i=j by omega]; exact Int.le_refl _) hn1 (Int.le_of_lt hlt)
    refine wpS_bind (wpS_lift (wpAny_rule ⟨rfl,?_⟩))
    refine wpS_bind (descG L hk hS hn B (fun x n q u R g=>wpS_bind (wpS_mono g ?_)) (by omega) (by omega) dn fun m q u B2 m1 m2 dn2 q1 he=>?_)
    · rintro r v ⟨b,rfl,g1,g2,g3⟩
      cases b with
      | true =>
        rcases Nat.eq_zero_or_pos q with q0 | q0
        · subst q0; exact wpS_pure (g2 rfl rfl)
        · dsimp only
          rw [if_pos rfl,if_pos q0]
          exact wpS_bind (wpS_rev (wpS_pure (g1 rfl q0)))
      | false =>
        refine wpS_bind (wpS_mono (g3 rfl) ?_)
        rintro r v ⟨b,rfl,g1,g2⟩
        cases b with
        | true=>exact wpS_pure (g1 rfl)
        | false=>exact wpS_pure (g2 rfl)
    dsimp only
    have sz2:lo+m≤(arrOf u).size:=by rw [B2.sz]; omega
    rcases Nat.eq_zero_or_pos q with q0 | q0
    · rw [if_neg (by omega)]
      refine tailG L hk hS hn B2 (fun x n u R g=>wpS_bind (wpS_mono g ?_)) (fun n=>rfl) (by omega) m2 dn2 h
      rintro r v ⟨b,rfl,g1,g2⟩
      cases b with
      | true=>exact wpS_pure (g1 rfl)
      | false=>exact wpS_pure (g2 rfl)
    · rw [if_pos q0]
      refine wpS_bind (wpS_rev ?_)
      have lv:=KG_level sz2 he
      refine tailG L hk hS hn (B2.mir (by omega) (by omega) hn) (fun x n u R g=>wpS_bind (wpS_mono g ?_)) (fun n=>rfl) (by omega) m2 (fun i j hij hj=>?_) h
      · rintro r v ⟨b,rfl,g1,g2⟩
        cases b with
        | true=>exact wpS_pure (g1 rfl)
        | false=>exact wpS_pure (g2 rfl)
      · show KG κ (mirror _ _ _ _) _≤KG κ (mirror _ _ _ _) _
        rw [lv,lv]; exact dn2 i j hij hj
end
end L2
namespace L2
open PySem PySem.Spec PyProof.Rows
section
variable {M:Model} {A:Around} {E:Value→Shared→Prop} {s:Shared} {κ:Keyed→Int} {S:Keyed→Prop} {kd:SortKind}
def Tiles (κ:Keyed→Int) (xs:List Keyed):Nat→List (Nat × Nat × Nat)→Nat→Prop
  | a,[],b=>a=b
  | a,p :: ps,b=>p.1=a∧0 < p.2.1∧Rise κ ((xs.drop a).take p.2.1)∧Tiles κ xs (a+p.2.1) ps b
theorem Tiles.len {xs:List Keyed}:∀ {ps:List (Nat × Nat × Nat)} {a b:Nat},Tiles κ xs a ps b→a+ps.length≤b
  | [],a,b,h=>Nat.le_of_eq h
  | p :: ps,a,b,h=>by
    have:=Tiles.len h.2.2.2
    have:=h.2.1
    rw [List.length_cons]; omega
theorem Tiles.app {xs:List Keyed}:∀ {ps qs:List (Nat × Nat × Nat)} {a b:Nat},Tiles κ xs a (ps++qs) b↔∃ c,Tiles κ xs a ps c∧Tiles κ xs c qs b
  | [],qs,a,b=>⟨fun h=>⟨a,rfl,h⟩,fun ⟨c,h1,h2⟩=>by cases h1; exact h2⟩
  | p :: ps,qs,a,b=>by
    constructor
    · rintro ⟨h1,h2,h3,h4⟩
      obtain ⟨c,g1,g2⟩:=Tiles.app.mp h4
      exact ⟨c,⟨h1,h2,h3,g1⟩,g2⟩
    · rintro ⟨c,⟨h1,h2,h3,g1⟩,g2⟩
      exact ⟨h1,h2,h3,Tiles.app.mpr ⟨c,g1,g2⟩⟩
theorem seg_same {α:Type} {xs ys:List α} {a n:Nat} (h:∀ i,a≤i→i < a+n→ys[i]?=xs[i]?):(ys.drop a).take n=(xs.drop a).take n:=by
  apply List.ext_getElem?
  intro i
  rw [List.getElem?_take,List.getElem?_take]
  split
  · rw [List.getElem?_drop,List.getElem?_drop]; exact h _ (by omega) (by omega)
  · rfl
theorem Tiles.same {xs ys:List Keyed}:∀ {ps:List (Nat × Nat × Nat)} {a b:Nat},Tiles κ xs a ps b→(∀ i,a≤i→i < b→ys[i]?=xs[i]?)→Tiles κ ys a ps b
  | [],a,b,h,_=>h
  | p :: ps,a,b,h,g=>by
    have l:=Tiles.len h.2.2.2
    refine ⟨h.1,h.2.1,?_,Tiles.same h.2.2.2 fun i i1 i2=>g i (by omega) i2⟩
    rw [seg_same fun i i1 i2=>g i i1 (by omega)]
    exact h.2.2.1
theorem Tiles.words {xs:List Keyed}:∀ {ps qs:List (Nat × Nat × Nat)} {a b:Nat},Tiles κ xs a ps b→qs.map (fun p=>(p.1,p.2.1))=ps.map (fun p=>(p.1,p.2.1))→Tiles κ xs a qs b
  | [],[],a,b,h,_=>h
  | [],_ :: _,a,b,h,e=>by simp at e
  | _ :: _,[],a,b,h,e=>by simp at e
  | p :: ps,q :: qs,a,b,h,e=>by
    obtain ⟨e1,e2⟩:=List.cons.inj e
    obtain ⟨e3,e4⟩:=Prod.mk.inj e1
    have t:=Tiles.words h.2.2.2 e2
    rw [← e4] at t
    exact ⟨e3.trans h.1,by rw [e4]; exact h.2.1,by rw [e4]; exact h.2.2.1,t⟩
theorem two_in {α:Type} {p:Array α} {i:Nat} (h:i+1 < p.size):∃ P a b R,p.toList=P++a :: b :: R∧P.length=i∧p[i]?=some a∧p[i+1]?=some b:=by
  obtain ⟨a,e1,_,d1⟩:=getG (show i < p.size by omega)
  obtain ⟨b,e2,_,d2⟩:=getG h
  refine ⟨p.toList.take i,a,b,p.toList.drop (i+1+1),?_,by rw [List.length_take,Array.length_toList]; omega,e1,e2⟩
  rw [← d2,← d1,List.take_append_drop]
theorem two_out {α:Type} {p:Array α} {P R:List α} {a b v:α} (h:p.toList=P++a :: b :: R):((p.setIfInBounds P.length v).eraseIdxIfInBounds (P.length+1)).toList=P++v :: R:=by
  have hs:p.size=P.length+(R.length+2):=by rw [← Array.length_toList,h]; simp
  have h1:P.length+1 < (p.setIfInBounds P.length v).size:=by rw [Array.size_setIfInBounds]; omega
  rw [Array.eraseIdxIfInBounds,dif_pos h1,Array.toList_eraseIdx,Array.toList_setIfInBounds,h]
  rw [List.set_append_right _ _ (Nat.le_refl _),Nat.sub_self,List.set_cons_zero,List.eraseIdx_append_of_length_le (by omega),Nat.add_sub_cancel_left]
  rfl
structure RunI (κ:Keyed→Int) (kd:SortKind) (a0:Array Keyed) (b:Nat) (st:SortSt):Prop where
  kd:kindOf st=kd
  fa:failedOf st=none
  pm:(arrOf st).Perm a0
  tl:Tiles κ (arrOf st).toList 0 (pendingOf st).toList b
theorem mergeI (L:LtG M A E s kd κ S) {a0:Array Keyed} {b i:Nat} {st:SortSt} {Q:Bool→SortSt→Prop} (hS:∀ x∈a0.toList,S x) (hb:b≤a0.size) (I:RunI κ kd a0 b st) (hi:i+1 < (pendingOf st).size)
    (h:∀ u,RunI κ kd a0 b u→(pendingOf u).size+1=(pendingOf st).size→(∀ i,b≤i→(arrOf u).toList[i]?=(arrOf st).toList[i]?)→Q true u):wpS M A E s (mergeAtG i) Q st:=by
  obtain ⟨P,p,q,R,e,rfl,e1,e2⟩:=two_in hi
  have tl:=I.tl
  rw [e] at tl
  obtain ⟨c,t1,t2⟩:=Tiles.app.mp tl
  obtain ⟨sa,na,pw⟩:=p
  obtain ⟨sb,nb,pw'⟩:=q
  obtain ⟨x1,x2,x3,y1,y2,y3,t3⟩:=t2
  simp only at x1 x2 x3 y1 y2 y3 t3
  subst x1
  subst y1
  have l3:=Tiles.len t3
  have szz:(arrOf st).size=a0.size:=I.pm.size_eq
  refine wpS_mergeAt L I.kd I.fa e1 e2 (fun x hx=>hS x ((Array.perm_iff_toList_perm.mp I.pm).mem_iff.mp hx)) x2 y2 (by omega) x3 y3 fun arr' g seg ea r pm=>?_
  have two:=two_out (v:=(sa,na+nb,pw)) e
  have sl:seg.length=na+nb:=by
    rw [pm.length_eq,List.length_append,List.length_take,List.length_take,List.length_drop,List.length_drop,Array.length_toList]; omega
  have le:((arrOf st).toList.take sa).length=sa:=by rw [List.length_take,Array.length_toList]; omega
  have all:(arrOf st).toList=(arrOf st).toList.take sa++(((arrOf st).toList.drop sa).take na++((arrOf st).toList.drop (sa+na)).take nb)++(arrOf st).toList.drop (sa+na+nb):=by
    rw [List.append_assoc,List.append_assoc,← drop_split _ (sa+na) nb,← drop_split _ sa na,List.take_append_drop]
  refine h _ ⟨rfl,rfl,?_,?_⟩ ?_ (fun i hi=>?_)
  · refine Array.Perm.trans ?_ I.pm
    rw [Array.perm_iff_toList_perm]
    show arr'.toList.Perm _
    rw [ea]
    conv=>rhs; rw [all]
    exact List.Perm.append_right _ (List.Perm.append_left _ pm)
  · show Tiles κ arr'.toList 0 (((pendingOf st).setIfInBounds P.length (sa,na+nb,pw)).eraseIdxIfInBounds (P.length+1)).toList b
    rw [two]
    refine Tiles.app.mpr ⟨sa,t1.same fun i _ i2=>?_,rfl,by show 0 < na+nb; omega,?_,?_⟩
    · rw [ea,List.append_assoc,List.getElem?_append_left (by omega),List.getElem?_take,if_pos i2]
    · show Rise κ ((arr'.toList.drop sa).take (na+nb))
      rw [ea,List.append_assoc,List.drop_append_of_le_length (by omega),List.drop_of_length_le (by omega),List.nil_append,List.take_append_of_le_length (by omega),List.take_of_length_le (by omega)]
      exact r
    · show Tiles κ arr'.toList (sa+(na+nb)) R b
      rw [← Nat.add_assoc]
      refine t3.same fun i i1 i2=>?_
      rw [ea,List.getElem?_append_right (by rw [List.length_append]; omega),List.getElem?_drop,List.length_append,le,sl]
      congr 1; omega
  · show (((pendingOf st).setIfInBounds P.length (sa,na+nb,pw)).eraseIdxIfInBounds (P.length+1)).size+1=(pendingOf st).size
    rw [← Array.length_toList,two,← Array.length_toList,e]
    simp
    omega
  · show arr'.toList[i]?=_
    rw [ea,List.getElem?_append_right (by rw [List.length_append]; omega),List.getElem?_drop,List.length_append,le,sl]
    congr 1; omega
theorem rise_up {xs:Array Keyed} {lo n:Nat} (h:UpG κ xs lo n) (hn:lo+n≤xs.size):Rise κ ((xs.toList.drop lo).take n):=by
  refine List.pairwise_iff_getElem.mpr fun i j hi hj hij=>?_
  rw [List.length_take,List.length_drop,Array.length_toList] at hi hj
  rw [List.getElem_take,List.getElem_take,List.getElem_drop,List.getElem_drop]
  have:=h i j (by omega) (by omega)
  unfold KG at this
  rw [Array.getD_eq_getD_getElem?,Array.getD_eq_getD_getElem?,getElem?_pos xs (lo+i) (by omega),getElem?_pos xs (lo+j) (by omega)] at this
  simpa using this
theorem RunI.amid {a0:Array Keyed} {lo n:Nat} {st u:SortSt} (I:RunI κ kd a0 lo st) (B:Amid st lo n u):RunI κ kd a0 lo u :=
  ⟨B.kd.trans I.kd,B.fa.trans I.fa,B.pm.trans I.pm,by
    rw [B.pe]
    exact I.tl.same fun i _ i2=>by rw [Array.getElem?_toList,Array.getElem?_toList]; exact B.out i (.inl i2)⟩
def sortRunsG:StateT SortSt Sem Unit:=sortPriv% PySem.Builtin.sortRuns
def minRunG:Nat→Nat→Nat→Nat:=sortPriv% PySem.Builtin.minRun
theorem minRunG_pos:∀ f n r,1≤n→1≤minRunG f n r
  | 0,n,r,h=>by show 1≤n+r; omega
  | f+1,n,r,h=>by
    show 1≤if n < 64 then n+r else minRunG f (n / 2) (max r (n % 2))
    split
    · omega
    · exact minRunG_pos f _ _ (by omega)
theorem RunI.add {a0:Array Keyed} {lo n pw:Nat} {st:SortSt} {p:Array (Nat × Nat × Nat)} {g:Nat} (I:RunI κ kd a0 lo st) (hp:p.toList.map (fun p=>(p.1,p.2.1))=(pendingOf st).toList.map (fun p=>(p.1,p.2.1))) (hn:0 < n) (r:Rise κ (((arrOf st).toList.drop lo).take n)):RunI κ kd a0 (lo+n) (SortSt.mk' (kindOf st) (arrOf st) (p.push (lo,n,pw)) g (failedOf st)) :=
  ⟨I.kd,I.fa,I.pm,by
    show Tiles κ (arrOf st).toList 0 (p.push (lo,n,pw)).toList (lo+n)
    rw [Array.toList_push]
    exact Tiles.app.mpr ⟨lo,I.tl.words hp,rfl,hn,r,rfl⟩⟩
theorem words_mod {p:Array (Nat × Nat × Nat)} {i pw:Nat}:(p.modify i fun x=>(x.1,x.2.1,pw)).toList.map (fun p=>(p.1,p.2.1))=p.toList.map (fun p=>(p.1,p.2.1)):=by
  apply List.ext_getElem?
  intro j
  simp only [List.getElem?_map,Array.getElem?_toList,Array.getElem?_modify]
  split
  · next h=>subst h; cases p[i]? <;> rfl
  · rfl
theorem wpS_sortRunsG (L:LtG M A E s kd κ S) {st:SortSt} {Q:Unit→SortSt→Prop} (hk:kindOf st=kd) (hfa:failedOf st=none) (hpe:pendingOf st=#[]) (hS:∀ x∈(arrOf st).toList,S x)
    (h:∀ u,(arrOf u).Perm (arrOf st)→failedOf u=none→Rise κ (arrOf u).toList→Q () u):wpS M A E s sortRunsG Q st:=by
  have I0:RunI κ kd (arrOf st) 0 st:=⟨hk,hfa,Array.Perm.refl _,by rw [hpe]; rfl⟩
  refine wpS_bind (wpS_get ?_)
  dsimp only
  generalize hsz:(arrOf st).size=N
  refine wpS_bind (wpS_mono (wpS_forRange
    (I:=fun x (c:Option Unit × Nat) u=>c.1=none∧x≤c.2∧c.2≤N∧RunI κ kd (arrOf st) c.2 u)
    (Q:=fun (c:Option Unit × Nat) u=>c=(none,N)∧RunI κ kd (arrOf st) N u) ?step ?fin ⟨rfl,Nat.le_refl _,Nat.zero_le _,I0⟩) ?post)
  case fin =>
    rintro ⟨r,lo⟩ u ⟨e,h1,h2,I⟩
    have h1:max 0 N≤lo:=h1
    have h2:lo≤N:=h2
    have:lo=N:=by omega
    subst this
    have e:r=none:=e
    subst e
    exact ⟨rfl,I⟩
  case step =>
    rintro x ⟨r,lo⟩ u _ hx ⟨e,h1,h2,I⟩
    have h1:x≤lo:=h1
    have h2:lo≤N:=h2
    have e:r=none:=e
    subst e
    dsimp only at I ⊢
    have us:(arrOf u).size=N:=I.pm.size_eq.trans hsz
    have uS:∀ x∈(arrOf u).toList,S x:=fun x hx=>hS x ((Array.perm_iff_toList_perm.mp I.pm).mem_iff.mp hx)
    rcases Nat.lt_or_ge lo N with hlo | hlo
    · rw [if_neg (by omega)]
      refine wpS_bind (wpS_countRunG L I.kd uS (by omega) (by omega) fun m u1 B1 m1 m2 up1=>?_)
      dsimp only
      have mr:1≤minRunG N N 0:=minRunG_pos _ _ _ (by omega)
      have back:∀ (n:Nat) (v:SortSt),RunI κ kd (arrOf st) lo v→0 < n→lo+n≤N→Rise κ (((arrOf v).toList.drop lo).take n) →
          RunI κ kd (arrOf st) lo v∧0 < n∧lo+n≤N∧Rise κ (((arrOf v).toList.drop lo).take n):=fun n v a b c d=>⟨a,b,c,d⟩
      have I1:=I.amid B1
      rcases Nat.lt_or_ge m (minRunG N N 0) with hm | hm
      · rw [if_pos (show m < (sortPriv% PySem.Builtin.minRun) N N 0 from hm)]
        refine wpS_bind (wpS_lift (wpAny_rule ⟨rfl,?_⟩))
        have hf1:min (N - lo) (minRunG N N 0)≤N - lo:=Nat.min_le_left _ _
        have hf2:m≤min (N - lo) (minRunG N N 0):=Nat.le_min.mpr ⟨m2,Nat.le_of_lt hm⟩
        replace hf1:min (N - lo) ((sortPriv% PySem.Builtin.minRun) N N 0)≤N - lo:=hf1
        replace hf2:m≤min (N - lo) ((sortPriv% PySem.Builtin.minRun) N N 0):=hf2
        generalize min (N - lo) ((sortPriv% PySem.Builtin.minRun) N N 0)=n at hf1 hf2 ⊢
        have u1S:∀ x∈(arrOf u1).toList,S x:=fun x hx=>uS x (B1.mem hx)
        refine wpS_bind (wpS_binarySortG L I1.kd u1S (by rw [B1.sz]; omega) hf2 (Amid.refl u1 lo n) up1 fun v B2 up2=>?_)
        have ff:∀ {α:Type} (a b:α),(if (!true)=true then a else b)=b:=fun a b=>rfl
        rw [ff]
        have Iv:=I1.amid B2
        have rv:=rise_up up2 (by rw [B2.sz,B1.sz]; omega)
        refine wpS_bind (wpS_get ?_)
        cases hb:(pendingOf v).back? with
        | none =>
          dsimp only
          exact wpS_bind (wpS_modify (wpS_pure ⟨rfl,by show x+1≤lo+n; omega,by show lo+n≤N; omega,Iv.add rfl (by omega) rv⟩))
        | some p =>
          obtain ⟨s1,n1,q⟩:=p
          dsimp only
          refine wpS_bind (wpS_mono (wpS_forRange (I:=fun _ (c:Option Unit × Unit) w=>c=(none,())∧RunI κ kd (arrOf st) lo w∧Rise κ (((arrOf w).toList.drop lo).take n)) (Q:=fun (c:Option Unit × Unit) w=>c=(none,())∧RunI κ kd (arrOf st) lo w∧Rise κ (((arrOf w).toList.drop lo).take n)) ?_ (fun _ _ z=>z) ⟨rfl,Iv,rv⟩) ?_)
          · rintro y c w _ _ ⟨rfl,Iw,rw'⟩
            refine wpS_bind (wpS_get ?_)
            split
            · next fst fst1 older hq =>
              split
              · exact wpS_pure ⟨rfl,Iw,rw'⟩
              · refine wpS_bind (mergeI L hS (by omega) Iw ?_ fun v2 I2 _ ou=>?_)
                · split at hq
                  · next h2 =>
                    have h2:1 < (pendingOf w).size:=h2
                    show (pendingOf w).size - 2+1 < (pendingOf w).size
                    omega
                  · nomatch hq
                · refine wpS_pure ⟨rfl,I2,?_⟩
                  rw [seg_same fun i i1 _=>ou i i1]
                  exact rw'
            · exact wpS_pure ⟨rfl,Iw,rw'⟩
          · rintro c w ⟨rfl,Iw,rw'⟩
            dsimp only
            exact wpS_bind (wpS_modify (wpS_bind (wpS_modify (wpS_pure ⟨rfl,by show x+1≤lo+n; omega,by show lo+n≤N; omega,Iw.add words_mod (by omega) rw'⟩))))
      · rw [if_neg (show ¬ m < (sortPriv% PySem.Builtin.minRun) N N 0 from Nat.not_lt.mpr hm)]
        have Iv:=I1
        have rv:=rise_up up1 (by rw [B1.sz]; omega)
        refine wpS_bind (wpS_get ?_)
        cases hb:(pendingOf u1).back? with
        | none =>
          dsimp only
          exact wpS_bind (wpS_modify (wpS_pure ⟨rfl,by show x+1≤lo+m; omega,by show lo+m≤N; omega,Iv.add rfl (by omega) rv⟩))
        | some p =>
          obtain ⟨s1,n1,q⟩:=p
          dsimp only
          refine wpS_bind (wpS_mono (wpS_forRange (I:=fun _ (c:Option Unit × Unit) w=>c=(none,())∧RunI κ kd (arrOf st) lo w∧Rise κ (((arrOf w).toList.drop lo).take m)) (Q:=fun (c:Option Unit × Unit) w=>c=(none,())∧RunI κ kd (arrOf st) lo w∧Rise κ (((arrOf w).toList.drop lo).take m)) ?_ (fun _ _ z=>z) ⟨rfl,Iv,rv⟩) ?_)
          · rintro y c w _ _ ⟨rfl,Iw,rw'⟩
            refine wpS_bind (wpS_get ?_)
            split
            · next fst fst1 older hq =>
              split
              · exact wpS_pure ⟨rfl,Iw,rw'⟩
              · refine wpS_bind (mergeI L hS (by omega) Iw ?_ fun v2 I2 _ ou=>?_)
                · split at hq
                  · next h2 =>
                    have h2:1 < (pendingOf w).size:=h2
                    show (pendingOf w).size - 2+1 < (pendingOf w).size
                    omega
                  · nomatch hq
                · refine wpS_pure ⟨rfl,I2,?_⟩
                  rw [seg_same fun i i1 _=>ou i i1]
                  exact rw'
            · exact wpS_pure ⟨rfl,Iw,rw'⟩
          · rintro c w ⟨rfl,Iw,rw'⟩
            dsimp only
            exact wpS_bind (wpS_modify (wpS_bind (wpS_modify (wpS_pure ⟨rfl,by show x+1≤lo+m; omega,by show lo+m≤N; omega,Iw.add words_mod (by omega) rw'⟩))))
    · rw [if_pos hlo]
      have:lo=N:=by omega
      subst this
      exact wpS_pure ⟨rfl,I⟩
  case post =>
    rintro c u ⟨rfl,I⟩
    dsimp only
    refine wpS_bind (wpS_mono (wpS_forRange (I:=fun x (c:Option Unit × Unit) v=>c=(none,())∧RunI κ kd (arrOf st) N v∧((pendingOf v).size+x≤N∨(pendingOf v).size≤1)) (Q:=fun (c:Option Unit × Unit) v=>c=(none,())∧RunI κ kd (arrOf st) N v∧(pendingOf v).size≤1) ?_ ?_ ⟨rfl,I,?_⟩) ?_)
    · rintro x c v _ hx ⟨rfl,Iv,hv⟩
      refine wpS_bind (wpS_get ?_)
      rcases Nat.lt_or_ge 1 (pendingOf v).size with h1 | h1
      · rw [if_neg (show ¬ (pendingOf v).size≤1 by omega)]
        have ix:∀ (b:Prop) [Decidable b],(if b then (pendingOf v).size - 2 - 1 else (pendingOf v).size - 2)+1 < (pendingOf v).size:=fun b _=>by
          split <;> omega
        refine wpS_bind (mergeI L hS (by omega) Iv (ix _) fun v2 I2 s2 _=>?_)
        exact wpS_pure ⟨rfl,I2,by rcases hv with hv | hv <;> omega⟩
      · rw [if_pos h1]
        exact wpS_pure ⟨rfl,Iv,h1⟩
    · rintro c v ⟨rfl,Iv,hv⟩
      exact ⟨rfl,Iv,by rcases hv with hv | hv <;> omega⟩
    · have:=Tiles.len I.tl
      rw [Array.length_toList] at this
      exact .inl (by omega)
    · rintro c v ⟨rfl,Iv,hv⟩
      dsimp only
      refine wpS_pure (h v Iv.pm Iv.fa ?_)
      have tl:=Iv.tl
      have le:(pendingOf v).toList.length≤1:=by rw [Array.length_toList]; exact hv
      have vs:(arrOf v).toList.length=N:=by rw [Array.length_toList]; exact Iv.pm.size_eq.trans hsz
      generalize (pendingOf v).toList=ps at tl le
      match ps,tl,le with
      | [],tl,_ =>
        have e:0=N:=tl
        rw [List.length_eq_zero_iff.mp (vs.trans e.symm)]
        exact List.Pairwise.nil
      | [p],tl,_ =>
        obtain ⟨_,_,r,e⟩:=tl
        have e:0+p.2.1=N:=e
        rwa [List.drop_zero,List.take_of_length_le (by omega)] at r
end
end L2
namespace L2
open PySem PySem.Spec PyProof.Rows
def isCF:Option NameKind→Bool
  | some .cell=>true
  | some .free=>true
  | _=>false
theorem isCF_of {o:Option NameKind} (h:isCF o=true):o=some .cell∨o=some .free:=by
  match o,h with
  | some .cell,_=>exact .inl rfl
  | some .free,_=>exact .inr rfl
theorem closure_go (env:Env):∀ (l:List (Str × NameKind)) (acc:List (Str × Addr)),(∀ y∈l,y.2=.free→∃ c,env.cells.lookup y.1=some c) →
    (∀ x c,acc.lookup x=some c→env.cells.lookup x=some c) →
    ∃ cl,(forIn l acc (fun (x:Str × NameKind) (r:List (Str × Addr))=>if (x.2 == .free)=true then (cellOf env x.1 >>= fun c=>pure (ForInStep.yield ((x.1,c) :: r))) else pure (ForInStep.yield r)):Sem (List (Str × Addr)))=pure cl ∧
      (∀ x c,cl.lookup x=some c→env.cells.lookup x=some c)∧(∀ x,((∃ c,acc.lookup x=some c)∨(x,NameKind.free)∈l)→∃ c,cl.lookup x=some c)
  | [],acc,_,ha=>⟨acc,by rfl,ha,fun x h=>h.elim id fun z=>nomatch z⟩
  | (n,k) :: l,acc,hl,ha=>by
    have hl':∀ y∈l,y.2=.free→∃ c,env.cells.lookup y.1=some c:=fun y hy=>hl y (List.mem_cons_of_mem _ hy)
    by_cases hk:k=.free
    · subst hk
      obtain ⟨c,hc⟩:=hl (n,.free) List.mem_cons_self rfl
      have hc':env.cells.lookup n=some c:=hc
      have look:∀ x,((n,c) :: acc).lookup x=if x=n then some c else acc.lookup x:=fun x=>by
        rw [List.lookup_cons]
        by_cases e:x=n
        · subst e; simp
        · rw [if_neg e,show (x == n)=false by simpa using e]
      have ha':∀ x d,((n,c) :: acc).lookup x=some d→env.cells.lookup x=some d:=fun x d e=>by
        rw [look] at e
        split at e
        · rename_i q; subst q; rw [hc']; exact e
        · exact ha x d e
      obtain ⟨cl,e,h1,h2⟩:=closure_go env l ((n,c) :: acc) hl' ha'
      refine ⟨cl,?_,h1,fun x h=>h2 x ?_⟩
      · rw [← e,List.forIn_cons]
        have ec:cellOf env n=pure c:=by unfold cellOf; rw [hc']
        show ((cellOf env n >>= fun c=>pure (ForInStep.yield ((n,c) :: acc))) >>= _:Sem (List (Str × Addr)))=_
        rw [ec]
        rfl
      · rcases h with ⟨d,q⟩ | h
        · left
          rw [look]
          by_cases z:x=n
          · exact ⟨c,by rw [if_pos z]⟩
          · exact ⟨d,by rw [if_neg z]; exact q⟩
        · rcases List.mem_cons.mp h with z | z
          · left
            rw [look]
            exact ⟨c,by rw [if_pos (congrArg Prod.fst z)]⟩
          · exact .inr z
    · obtain ⟨cl,e,h1,h2⟩:=closure_go env l acc hl' ha
      refine ⟨cl,?_,h1,fun x h=>h2 x ?_⟩
      · rw [← e,List.forIn_cons]
        have hb:(k == NameKind.free)=false:=by simpa using hk
        show ((if (k == NameKind.free)=true then _ else pure (ForInStep.yield acc)) >>= _:Sem (List (Str × Addr)))=_
        rw [hb]
        rfl
      · rcases h with h | h
        · exact .inl h
        · rcases List.mem_cons.mp h with z | z
          · exact absurd (congrArg Prod.snd z).symm hk
          · exact .inr z
theorem closure_of {scope:Scope} {env:Env} (h:∀ y∈scope.names,y.2=.free→∃ c,env.cells.lookup y.1=some c) :
    ∃ cl,closureFor scope env=pure cl∧(∀ x c,cl.lookup x=some c→env.cells.lookup x=some c)∧(∀ x,(x,NameKind.free)∈scope.names→∃ c,cl.lookup x=some c):=by
  obtain ⟨cl,e,h1,h2⟩:=closure_go env scope.names [] h (fun x c e=>by simp at e)
  refine ⟨cl,?_,h1,fun x hx=>h2 x (.inr hx)⟩
  have e2:closureFor scope env=(forIn scope.names [] (fun (x:Str × NameKind) (r:List (Str × Addr))=>if (x.2 == .free)=true then (cellOf env x.1 >>= fun c=>pure (ForInStep.yield ((x.1,c) :: r))) else pure (ForInStep.yield r)) >>= fun r=>pure r:Sem (List (Str × Addr))):=by
    rfl
  rw [e2,e]
  rfl
abbrev compCx (X:Cx) (scope:Scope) (cl:List (Str × Addr)) (N:List Str) (C:Addr) (s:Shared) (H:Hp) (ex:List Addr):Cx :=
  { X with N:=N,s₀:=s,H₀:=H,env:=compEnvC scope cl C X.env,outer:=X.stack,ex:=ex,fn:=fun _=>false,pn:=[],xe:=fun _ _=>False }
def compChk (osc:Scope) (oN:List Str) (sc:Scope) (N:List Str) (fr:List (Option Nat)):Bool :=
  decide (sc.kind=.function) && sc.names.all (fun y=>decide (y.2≠.cell)) && sc.names.all (fun y=>decide (y.2≠.free) || isCF (osc.names.lookup y.1)) &&
  sc.names.all (fun y=>decide (y.2≠.local) || decide (sc.names.lookup y.1=some .local)) &&
  (N.zip fr).all (fun y=>match y.2 with
    | none=>true
    | some i=>decide (oN[i]?=some y.1) && isCF (osc.names.lookup y.1) && decide (sc.names.lookup y.1=some .free)) && decide (N.length=fr.length)
structure CompChk (osc:Scope) (oN:List Str) (sc:Scope) (N:List Str) (fr:List (Option Nat)):Prop where
  kind:sc.kind=.function
  nocell:∀ y∈sc.names,y.2≠.cell
  free:∀ y∈sc.names,y.2=.free→isCF (osc.names.lookup y.1)=true
  loc:∀ y∈sc.names,y.2=.local→sc.names.lookup y.1=some .local
  slots:∀ (j:Nat) (x:Str) (i:Nat),N[j]?=some x→fr[j]?=some (some i)→oN[i]?=some x∧isCF (osc.names.lookup x)=true∧sc.names.lookup x=some .free
  len:N.length=fr.length
theorem compChk_of {osc:Scope} {oN:List Str} {sc:Scope} {N:List Str} {fr:List (Option Nat)} (h:compChk osc oN sc N fr=true):CompChk osc oN sc N fr:=by
  unfold compChk at h
  simp only [Bool.and_eq_true,List.all_eq_true,decide_eq_true_eq,Bool.or_eq_true] at h
  obtain ⟨⟨⟨⟨⟨h1,h2⟩,h3⟩,h4⟩,h5⟩,h6⟩:=h
  refine ⟨h1,h2,fun y hy e=>(h3 y hy).resolve_left fun z=>z e,fun y hy e=>(h4 y hy).resolve_left fun z=>z e,fun j x i e1 e2=>?_,h6⟩
  have hm:(x,some i)∈N.zip fr:=by
    have:(N.zip fr)[j]?=some (x,some i):=by rw [List.getElem?_zip_eq_some]; exact ⟨e1,e2⟩
    exact List.mem_of_getElem? this
  have:=h5 _ hm
  simp only [Bool.and_eq_true,decide_eq_true_eq] at this
  exact ⟨this.1.1,this.1.2,this.2⟩
def stC (fr:List (Option Nat)) (σ:St):St:=fr.map fun o=>o.bind fun i=>(σ[i]?).join
def tComp (wi:TI) (g:TG) (te:TE) (fr:List (Option Nat)):TE:=fun σ H Q=>wi σ H fun J H1=>∀ acc,H1 acc=none→∃ W:Nat→Nat→St→Hp→Prop,(∃ m,W 0 m (stC fr σ) (upd H1 acc (.lst [])))∧∀ i m σ1 H2,W i m σ1 H2 →
  (J.stop i H2∧Q (.ref acc) H2)∨(J.go i H2∧∀ x H3,J.yld i H2 x H3→g x σ1 H3 fun σ4 H4=>te σ4 H4 fun v H5=>∃ xs,H5 acc=some (.lst xs)∧xs.length < sizeLine∧∃ m',m' < m∧W (i+1) m' σ4 (upd H5 acc (.lst (xs++[v]))))
section
variable {prog:Program} {w:World} {A:Around} {R:Result→Shared→Prop} {s:Shared}
theorem compLoop_any {elt target iter:Expr} {scope:Scope} {pos:Pos} {it acc:Value} {env:Env} (I:Nat→Shared→Prop)
    (turn:∀ n s,I n s→wpAny (model prog w) A (pyNext it) (fun r s₁=>match r with
      | none=>R (.ok .next) s₁
      | some v=>wpAny (model prog w) A (letOwnedTupleGo target it v) (fun _ s₁=>wpAny (model prog w) A (assign target env v) (fun _ s₂=>wpAny (model prog w) A (eval elt env) (fun x s₃ =>
          wpAny (model prog w) A (call (.builtin "list.append") [acc,x]) (fun _ s₄=>∃ m,m < n∧I m s₄) (notedBy (model prog w) A env fun e s'=>R (.error e) s') s₃)
          (notedBy (model prog w) A env fun e s'=>R (.error e) s') s₂) (notedBy (model prog w) A env fun e s'=>R (.error e) s') s₁) (notedBy (model prog w) A env fun e s'=>R (.error e) s') s₁) (notedBy (model prog w) A env fun e s'=>R (.error e) s') s)
    (n:Nat) (h:I n s) :
    codeAny (model prog w) A (.compLoop (.ListComp elt [⟨target,iter,[],0⟩] scope pos) 0 it acc env) R s:=by
  refine codeAny_loop rfl I (fun n s hI=>?_) n h
  show wpAny _ _ ((compTurn (.ListComp elt [⟨target,iter,[],0⟩] scope pos) 0 it acc env).onRaise (fun x=>do noteFrame x env; theTreesLotGoes x)) _ _ s
  refine wpAny_noted ?_
  rw [compTurn_list1]
  refine wpAny_bind (wpAny_standAt (wpAny_bind (wpAny_mono (turn n s hI) (fun r s₁ h₁=>?_) fun _ _ h'=>h')))
  cases r with
  | none=>exact wpAny_pure h₁
  | some v =>
    refine wpAny_bind (wpAny_mono h₁ (fun _ s₁ h₁=>?_) fun _ _ h'=>h')
    exact wpAny_bind (wpAny_mono h₁ (fun _ s₂ h₂=>wpAny_bind (wpAny_bind (wpAny_mono h₂ (fun x s₃ h₃=>wpAny_bind (wpAny_mono h₃
      (fun _ s₄ h₄=>wpAny_pure (wpAny_pure ⟨rfl,h₄⟩)) fun _ _ h'=>h')) fun _ _ h'=>h'))) fun _ _ h'=>h')
end
theorem wpFalse {α:Type} {M:Model} {A:Around} {t:Sem α} {Q:α→Shared→Prop} {E:Value→Shared→Prop} {s:Shared} (h:wpAny M A t Q (fun _ _=>False) s):wpAny M A t Q E s :=
  wpAny_mono h (fun _ _ q=>q) fun _ _ z=>z.elim
theorem relabel_CF {scope:Scope} {env:Env} (hc:∀ y∈scope.names,y.2≠.cell) {x:Str} (h:(relabel scope env).names.lookup x=some .cell∨(relabel scope env).names.lookup x=some .free):(x,NameKind.free)∈scope.names:=by
  have key:∀ (l:List (Str × NameKind)),(∀ y∈l,y.2≠.cell)→((l.map fun (n,k)=>if (k == NameKind.free && env.scope.kind == .function && env.kindOf n == some .cell) then (n,NameKind.cell) else (n,k)).lookup x=some .cell ∨
      (l.map fun (n,k)=>if (k == NameKind.free && env.scope.kind == .function && env.kindOf n == some .cell) then (n,NameKind.cell) else (n,k)).lookup x=some .free)→(x,NameKind.free)∈l:=by
    intro l
    induction l with
    | nil=>intro _ h; simp at h
    | cons y r ih =>
      obtain ⟨n,k⟩:=y
      intro hc h
      have hr:∀ y∈r,y.2≠.cell:=fun y hy=>hc y (List.mem_cons_of_mem _ hy)
      have hk:k≠.cell:=hc (n,k) List.mem_cons_self
      rw [List.map_cons] at h
      by_cases hxn:x=n
      · subst hxn
        have hkf:k=.free:=by
          by_cases hb:(k == NameKind.free && env.scope.kind == .function && env.kindOf x == some .cell)=true
          · simp only [Bool.and_eq_true,beq_iff_eq] at hb
            exact hb.1.1
          · simp only [hb,if_neg,Bool.false_eq_true,if_false] at h
            simp only [List.lookup_cons,beq_self_eq_true] at h
            rcases h with h | h
            · exact absurd (Option.some.inj h) hk
            · exact Option.some.inj h
        rw [hkf]
        exact List.mem_cons_self
      · have hb:(x == n)=false:=by simpa using hxn
        refine List.mem_cons_of_mem _ (ih hr ?_)
        by_cases hq:(k == NameKind.free && env.scope.kind == .function && env.kindOf n == some .cell)=true
        · simp only [hq,if_true,List.lookup_cons,hb] at h
          exact h
        · simp only [hq,Bool.false_eq_true,if_false,List.lookup_cons,hb] at h
          exact h
  exact key scope.names hc h
theorem relabel_free {env:Env} {x:Str}:∀ {l:List (Str × NameKind)},l.lookup x=some .free →
    ((l.map fun (n,k)=>if (k == NameKind.free && env.scope.kind == .function && env.kindOf n == some .cell) then (n,NameKind.cell) else (n,k)).lookup x=some .cell ∨
     (l.map fun (n,k)=>if (k == NameKind.free && env.scope.kind == .function && env.kindOf n == some .cell) then (n,NameKind.cell) else (n,k)).lookup x=some .free)
  | [],h=>by simp at h
  | (n,k) :: r,h=>by
    rw [List.map_cons]
    by_cases hxn:x=n
    · subst hxn
      simp only [List.lookup_cons,beq_self_eq_true] at h
      have hk:=Option.some.inj h
      subst hk
      by_cases hq:(NameKind.free == NameKind.free && env.scope.kind == .function && env.kindOf x == some .cell)=true
      · left
        show List.lookup x ((if (NameKind.free == NameKind.free && env.scope.kind == .function && env.kindOf x == some .cell)=true then (x,NameKind.cell) else (x,NameKind.free)) :: _)=_
        rw [if_pos hq,List.lookup_cons,beq_self_eq_true]
      · right
        show List.lookup x ((if (NameKind.free == NameKind.free && env.scope.kind == .function && env.kindOf x == some .cell)=true then (x,NameKind.cell) else (x,NameKind.free)) :: _)=_
        rw [if_neg hq,List.lookup_cons,beq_self_eq_true]
    · have hb:(x == n)=false:=by simpa using hxn
      simp only [List.lookup_cons,hb] at h
      have ih:=relabel_free (env:=env) h
      by_cases hq:(k == NameKind.free && env.scope.kind == .function && env.kindOf n == some .cell)=true
      · simp only [hq,if_true,List.lookup_cons,hb]; exact ih
      · simp only [hq,Bool.false_eq_true,if_false,List.lookup_cons,hb]; exact ih
theorem mem_look {x:Str} {k:NameKind}:∀ {l:List (Str × NameKind)},l.lookup x=some k→(x,k)∈l
  | [],h=>by simp at h
  | (n,j) :: r,h=>by
    by_cases e:x=n
    · subst e
      simp only [List.lookup_cons,beq_self_eq_true] at h
      rw [← Option.some.inj h]
      exact List.mem_cons_self
    · have hb:(x == n)=false:=by simpa using e
      simp only [List.lookup_cons,hb] at h
      exact List.mem_cons_of_mem _ (mem_look h)
section
variable {X:Cx} {elt tg iter:Expr} {scope:Scope} {pos:Pos} {wi:TI} {g:TG} {te:TE} {N:List Str} {fr:List (Option Nat)}
theorem comp_entry {pins:List (Addr × Obj)} {σ:St} {H:Hp} {s s1:Shared} {cl:List (Str × Addr)} {ex:List Addr} {C:Addr} {m:Str→Option Value} (I:Inv X pins σ H s) (ck:CompChk X.env.scope X.N scope N fr)
    (c1:∀ x c,cl.lookup x=some c→X.env.cells.lookup x=some c) (c2:∀ x,(x,NameKind.free)∈scope.names→∃ c,cl.lookup x=some c) (hex:∀ b∈ex,FpOk X pins H b∧b < s.heap.objs.size) (hC:s.heap.objs.size≤C)
    (hn:s1.heap.Ns C m) (k:∀ b o,s.heap.get? b=some o→s1.heap.get? b=some o) (ho:s1.os=s.os) (hg:s1.gens=s.gens) :
    Inv (compCx X scope cl N C s H ex) [] (stC fr σ) H s1:=by
  have lt_ne:∀ {b:Addr} {o:Obj},s.heap.get? b=some o→b≠C:=fun e=>Nat.ne_of_lt (Nat.lt_of_lt_of_le (Heap.lt_size e) hC)
  have ok:(compCx X scope cl N C s H ex).Ok :=
    { mod:=I.ok.mod
      kind:=ck.kind
      glob:=I.ok.glob
      blt:=I.ok.blt
      above:=hC
      inj:=fun x y c e1 e2=>I.ok.inj x y c (c1 x c e1) (c1 y c e2)
      has:=fun x h=>c2 x (relabel_CF ck.nocell h)
      cab:=fun x c z=>by cases z
      hd:=I.ok.hd
      frames:=I.ok.frames
      stk:=.inl rfl
      exf:=fun b hb=>⟨Nat.ne_of_lt (Nat.lt_of_lt_of_le (hex b hb).2 hC),fun x c e=>(hex b hb).1.2.2.2.2.1 x c (c1 x c e)⟩
      bs:=I.bs
      bsz:=Nat.le_trans I.ok.bsz I.sz
      noex:=fun b o e hb=>by
        rcases (hex b hb).1.2.2.2.1 with z | z
        · exact I.ok.noex b o e z
        · exact absurd (Nat.lt_of_lt_of_le (Heap.lt_size e) (Nat.le_trans I.ok.bsz z)) (Nat.lt_irrefl _)
      exfs:=fun b hb hz=>by
        rcases List.mem_cons.mp (I.stkSub b hz) with z | z
        · exact (hex b hb).1.2.1 z
        · exact (hex b hb).1.2.2.1 z
      funs:=I.stack
      frf:=I.stkFree }
  refine ⟨ok,ho,by rw [hg]; exact I.bare,Un.kept k,⟨m,hn,fun j x v e1 e2 e3=>?_⟩,fun x c e=>?_,I.hok.fresh hC,fun x c e=>I.freeC x c (c1 x c e),fun p hp=>by simp at hp,I.hok.kept k,?_⟩
  · have e1':N[j]?=some x:=e1
    unfold stC at e2
    rw [List.getElem?_map] at e2
    cases q:fr[j]? with
    | none=>rw [q] at e2; cases e2
    | some o =>
      rw [q] at e2
      cases o with
      | none =>
        have:(none:Option V)=some v:=Option.some.inj e2
        cases this
      | some i =>
        have e2':(σ[i]?).join=some v:=Option.some.inj e2
        obtain ⟨s1',s2',s3'⟩:=ck.slots j x i e1' q
        have hσ:σ[i]?=some (some v):=by
          cases z:σ[i]? with
          | none=>rw [z] at e2'; cases e2'
          | some y=>rw [z] at e2'; exact congrArg some e2'
        have hcf:=isCF_of s2'
        obtain ⟨m0,hn0,hl⟩:=I.loc
        obtain ⟨u,r,lk⟩:=hl i x v s1' hσ (Or.inr hcf)
        refine ⟨u,r,Or.inr ⟨relabel_free s3',?_⟩⟩
        obtain ⟨c,hc⟩:=c2 x (mem_look s3')
        refine ⟨c,hc,?_⟩
        rcases lk with ⟨z,_⟩ | ⟨_,c',hc',hv⟩
        · rcases hcf with y | y
          · have z':X.env.scope.names.lookup x=some .local:=z
            rw [y] at z'; cases z'
          · have z':X.env.scope.names.lookup x=some .local:=z
            rw [y] at z'; cases z'
        · have:=c1 x c hc
          rw [hc'] at this
          cases this
          exact hv.keeps k
  · obtain ⟨v,z⟩:=I.cell x c (c1 x c e)
    exact ⟨v,z.keeps k⟩
  · unfold stC
    rw [List.length_map]
    exact ck.len.symm
theorem comp_core {pins:List (Addr × Obj)} {σ:St} {H:Hp} {s:Shared} {Q:VK} {cl:List (Str × Addr)} {R:Value→Addr→Result→Shared→Prop} (hc:X.calm=true) (I:Inv X pins σ H s) (hi:PI X tg iter wi)
    (hg:∀ cl C s H ex,PG (compCx X scope cl N C s H ex) tg g) (he:∀ cl C s H ex,PE (compCx X scope cl N C s H ex) elt te) (ck:CompChk X.env.scope X.N scope N fr)
    (c1:∀ x c,cl.lookup x=some c→X.env.cells.lookup x=some c) (c2:∀ x,(x,NameKind.free)∈scope.names→∃ c,cl.lookup x=some c)
    (h:tComp wi g te fr σ H Q)
    (hR:∀ acc C s' H' m,s'.heap.Ns C m→FpOk X pins H' C→Inv X pins σ H' s'→Q (.ref acc) H'→R (.ref acc) C (.ok .next) s') :
    wpAny (model X.prog X.w) X.A (eval iter X.env) (fun x s₁=>wpAny (model X.prog X.w) X.A (pyIter x) (fun it s₂=>wpAny (model X.prog X.w) X.A (newList []) (fun acc s₃ =>
      wpAny (model X.prog X.w) X.A (newFunctionEnv scope X.env.globals cl [] X.env.qual none .none (some X.env)) (fun cenv s₄ =>
        codeAny (model X.prog X.w) X.A (.compStart (.ListComp elt [⟨tg,iter,[],0⟩] scope pos) 0 it acc { cenv with scope:=relabel scope X.env }) (R acc cenv.locals) s₄) X.xe s₃) X.xe s₂) X.xe s₁) X.xe s:=by
  refine thn (hi pins s σ H _ I h) fun v s1 h1=>thn h1 fun itv s2 h2=>?_
  obtain ⟨it,fp,tn,J,H2,e,I2,T,st2,f2,q2⟩:=h2
  subst e
  refine wpAny_newObj_type (wpAny_newFunctionEnv ck.nocell (by intro y hy; simp at hy) (fun h₁ hns₁ hsb₁=>?_) ck.kind)
  dsimp only at hns₁ hsb₁ ⊢
  have I3:Inv X pins σ (upd H2 s2.heap.objs.size (.lst [])) { s2 with heap:=s2.heap.push { cls:=.type "list",dict:=none,data:=.seq ([]:List Value).toArray } }:=I2.lnew (t':=s2.toks) (its:=[]) .nil (Nat.zero_le _)
  have acc0:H2 s2.heap.objs.size=none:=I2.fresh
  obtain ⟨W,⟨m0,w0⟩,turn⟩:=q2 s2.heap.objs.size acc0
  generalize hH3:s2.heap.push { cls:=.type "list",dict:=none,data:=.seq ([]:List Value).toArray }=h3 at hns₁ hsb₁ I3 ⊢
  have hz3:h3.objs.size=s2.heap.objs.size+1:=by rw [← hH3,Heap.size_push]
  have k23:∀ b o,s2.heap.get? b=some o→h3.get? b=some o:=fun b o e=>by rw [← hH3]; exact Heap.get?_push_of_some _ e
  have k34:∀ b o,h3.get? b=some o→h₁.get? b=some o:=fun b o e=>hsb₁.extBut b o (Nat.ne_of_lt (Heap.lt_size e)) (Heap.get?_push_of_some _ e)
  have fpo:∀ b∈fp,∃ o,s2.heap.get? b=some o∧∀ v,o.data≠.cell v:=T.obj 0 _ st2
  have hex:∀ b∈fp,FpOk X pins (upd H2 s2.heap.objs.size (.lst [])) b∧b < h3.objs.size:=fun b hb=>by
    obtain ⟨o,eo,_⟩:=fpo b hb
    have lt:=Heap.lt_size eo
    obtain ⟨f0,fr'⟩:=f2 b hb
    exact ⟨⟨by rw [upd_ne (Nat.ne_of_lt lt)]; exact f0,fr'⟩,by rw [hz3]; exact Nat.lt_succ_of_lt lt⟩
  have I4:Inv (compCx X scope cl N h3.objs.size { s2 with heap:=h3 } (upd H2 s2.heap.objs.size (.lst [])) fp) [] (stC fr σ) (upd H2 s2.heap.objs.size (.lst [])) { s2 with heap:=h₁,toks:=s2.toks+([]:List (Str × Value)).length } :=
    comp_entry I3 ck c1 c2 hex (Nat.le_refl _) hns₁ k34 rfl rfl
  have stat:∀ {H':Hp},(∀ b∈fp,H' b=none)→∀ b∈fp,FpOk (compCx X scope cl N h3.objs.size { s2 with heap:=h3 } (upd H2 s2.heap.objs.size (.lst [])) fp) [] H' b:=fun hn b hb =>
    ⟨hn b hb,(I4.ok.exf b hb).1,I4.ok.exfs b hb,.inl hb,(I4.ok.exf b hb).2,fun p hp=>by simp at hp⟩
  have stn:∀ i h h',tn i h→(∀ b o,h.get? b=some o→h'.get? b=some o)→tn i h':=fun i h h' st kk=>T.keep i h h' st fun b _ o e=>kk b o e
  have loop:codeAny (model X.prog X.w) X.A (.compLoop (.ListComp elt [⟨tg,iter,[],0⟩] scope pos) 0 (.ref it) (.ref s2.heap.objs.size) (compEnvC scope cl h3.objs.size X.env)) (R (.ref s2.heap.objs.size) h3.objs.size)
      { s2 with heap:=h₁,toks:=s2.toks+([]:List (Str × Value)).length }:=by
    refine compLoop_any (fun n s'=>∃ i σ' H',Inv (compCx X scope cl N h3.objs.size { s2 with heap:=h3 } (upd H2 s2.heap.objs.size (.lst [])) fp) [] σ' H' s'∧tn i s'.heap∧(∀ b∈fp,H' b=none)∧W i n σ' H') ?_ m0
      ⟨0,_,_,I4,stn _ _ _ st2 fun b o e=>k34 b o (k23 b o e),fun b hb=>(hex b hb).1.1,w0⟩
    rintro n s3 ⟨i,σ3,H3,J3,st3,fr3,w3⟩
    rcases turn i n σ3 H3 w3 with ⟨stop,qn⟩ | ⟨go,step⟩
    · refine wpFalse (thn (T.done (compCx X scope cl N h3.objs.size { s2 with heap:=h3 } (upd H2 s2.heap.objs.size (.lst [])) fp) rfl rfl rfl hc i [] s3 σ3 H3 (fun _ _=>False) J3 (stat fr3) st3 stop) fun r s4 ⟨hr,J4⟩=>?_)
      subst hr
      obtain ⟨mc,hmc,_⟩:=J4.loc
      have I5:Inv X pins σ H3 s4:=I3.call' (ch:=fp) J4.os J4.base J4.hok J4.bare fun b hb=>⟨(hex b hb).1.2.2.2.1,(hex b hb).1.2.1,(hex b hb).1.2.2.2.2.1,(hex b hb).1.2.2.2.2.2⟩
      exact hR _ _ s4 H3 mc hmc (I3.fpOk (Nat.le_refl _) J4.free) I5 qn
    · refine wpFalse (thn (T.item (compCx X scope cl N h3.objs.size { s2 with heap:=h3 } (upd H2 s2.heap.objs.size (.lst [])) fp) rfl rfl rfl hc i [] s3 σ3 H3 (fun _ _=>False) J3 (stat fr3) st3 go) fun r s4 ⟨u,hr,h4⟩=>?_)
      subst hr
      refine wpFalse (thn h4 fun _ s5 ⟨x,H5,J5,r5,y5,st5,fr5⟩=>?_)
      have J5':=J5.pinned (stat fr5) (T.obj _ _ st5)
      refine wpFalse (thn (hg _ _ _ _ _ _ s5 σ3 H5 x u _ J5' r5 (step x H5 y5)) fun _ s6 ⟨σ6,H6,J6,q6⟩=>?_)
      refine wpFalse (thn (he _ _ _ _ _ _ s6 σ6 H6 _ J6 q6) fun y s7 ⟨v7,H7,J7,r7,xs,hx,hz,m',hm',w7⟩=>?_)
      refine wpFalse (thn (mt_append _ s7 σ6 H7 (.ref s2.heap.objs.size) [v7] (.ref s2.heap.objs.size) [y] (fun v H8=>H8=upd H7 s2.heap.objs.size (.lst (xs++[v7]))) J7 rfl (.cons r7 .nil) ⟨_,xs,v7,rfl,rfl,hx,hz,rfl⟩) fun _ s8 ⟨_,H8,J8,_,e8⟩=>?_)
      subst e8
      refine ⟨m',hm',i+1,σ6,_,J8.unpinned,T.keep _ _ _ st5 fun b hb o e=>(J8.pin (b,o) (List.mem_append_right _ (List.mem_append_right _ (mem_pinsAt hb e)))).1,fun b hb=>?_,w7⟩
      obtain ⟨o,e,d⟩:=T.obj _ _ st5 b hb
      exact (J8.pin (b,o) (List.mem_append_right _ (List.mem_append_right _ (mem_pinsAt hb e)))).2.1
  exact codeAny_compStart_list loop (T.self _ 0 _ _ _ (stn _ _ _ st2 fun b o e=>k34 b o (k23 b o e)) loop)
theorem comp_cl (I:X.Ok) (ck:CompChk X.env.scope X.N scope N fr):∃ cl,closureFor scope X.env=pure cl∧(∀ x c,cl.lookup x=some c→X.env.cells.lookup x=some c)∧(∀ x,(x,NameKind.free)∈scope.names→∃ c,cl.lookup x=some c) :=
  closure_of fun y hy e=>I.has y.1 (isCF_of (ck.free y hy e))
theorem pe_comp (hc:X.calm=true) (hi:PI X tg iter wi) (hg:∀ cl C s H ex,PG (compCx X scope cl N C s H ex) tg g) (he:∀ cl C s H ex,PE (compCx X scope cl N C s H ex) elt te)
    (hk:compChk X.env.scope X.N scope N fr=true:=by rfl) (hs:∀ x,foldedSetIterable iter X.env x=pure x:=by intro _; rfl):PE X (.ListComp elt [⟨tg,iter,[],0⟩] scope pos) (tComp wi g te fr):=by
  intro pins s σ H Q I h
  have ck:=compChk_of hk
  obtain ⟨cl,e1,c1,c2⟩:=comp_cl I.ok ck
  rw [eval_ListComp]
  refine wpAny_comprehension_free (use:=none) (Q:=EP X pins σ Q) rfl hs e1 ck.kind ck.loc (comp_core (R:=fun acc C=>compPost (model X.prog X.w) X.A X.xe none (EP X pins σ Q) acc C) hc I hi hg he ck c1 c2 h fun acc C s' H' m hn f I' q=>?_)
  obtain ⟨f0,f1,f2,f3,f4,f5⟩:=f
  exact ⟨m,hn,fun h' hs'=>⟨.ref acc,H',I'.turned (t':=s'.toks) (fun b o hb e=>hs'.extBut b o hb e) f0 f1 f3 f4 f5,rfl,q⟩⟩
theorem ps_setComp {y:Str} {py spos:Pos} {gy:TG} (hc:X.calm=true) (hy:PG X (.Name y py) gy) (hi:PI X tg iter wi) (hg:∀ cl C s H ex,PG (compCx X scope cl N C s H ex) tg g) (he:∀ cl C s H ex,PE (compCx X scope cl N C s H ex) elt te)
    (hk:compChk X.env.scope X.N scope N fr=true:=by rfl) (hsw:swapsWith (.ListComp elt [⟨tg,iter,[],0⟩] scope pos) (some (.Name y py)) spos.line X.env=pure true:=by rfl) (hs:∀ x,foldedSetIterable iter X.env x=pure x:=by intro _; rfl) :
    PS X (.Assign [.Name y py] (.ListComp elt [⟨tg,iter,[],0⟩] scope pos) spos) (tAsg (tComp wi g te fr) gy):=by
  intro pins s σ H D I h
  have ck:=compChk_of hk
  obtain ⟨cl,e1,c1,c2⟩:=comp_cl I.ok ck
  rw [exec_Assign_Name_used _ _ _ _ hsw]
  refine wpAny_bind (wpAny_standAt (wpAny_bind ?_))
  show wpAny _ X.A (do let _ ← comprehension (.ListComp elt [⟨tg,iter,[],0⟩] scope pos) scope X.env _ (newList []) false (eval iter X.env) (some (assign (.Name y py) X.env))) _ _ s
  refine wpAny_bind (wpAny_mono (wpAny_comprehension_free (use:=some (assign (.Name y py) X.env)) (Q:=fun _ s'=>SP X pins D .next s') rfl hs e1 ck.kind ck.loc
    (comp_core (R:=fun acc C=>compPost (model X.prog X.w) X.A X.xe (some (assign (.Name y py) X.env)) (fun _ s'=>SP X pins D .next s') acc C) hc I hi hg he ck c1 c2 h fun acc C s' H' m hn f I' q=>?_)) (fun _ s' hq=>wpAny_pure (wpAny_pure hq)) fun _ _ e=>e)
  show wpAny _ X.A (assign (.Name y py) X.env (.ref acc)) _ _ _
  obtain ⟨oC,es,ep,hoC,hdC,hrC⟩:=id hn
  have IP:=I'.pinned (fp:=[C]) (fun b hb=>by rw [List.mem_singleton.mp hb]; exact f) (fun b hb=>by rw [List.mem_singleton.mp hb]; exact ⟨oC,hoC,fun v z=>by rw [hdC] at z; cases z⟩)
  refine thn (hy _ s' σ H' (.ref acc) (.ref acc) _ IP rfl q) fun _ s'' ⟨σ6,H6,I6,q6⟩=>?_
  have pC:=I6.pin (C,oC) (List.mem_append_right _ (List.mem_append_right _ (mem_pinsAt (List.mem_singleton.mpr rfl) hoC)))
  obtain ⟨f0,f1,f2,f3,f4,f5⟩:=f
  exact ⟨m,⟨oC,es,ep,pC.1,hdC,hrC⟩,fun h' hs'=>⟨σ6,H6,I6.unpinned.turned (t':=s''.toks) (fun b o hb e=>hs'.extBut b o hb e) pC.2.1 f1 f3 f4 f5,q6⟩⟩
end
end L2
namespace L2
open PySem PySem.Spec PyProof.Rows
section
variable {X:Cx}
def CDivL (_ j:Int):Prop:=0 < j∧j.natAbs.log2 < 9000
theorem op_fdivL:OpR X (binaryOp .FloorDiv) (rI CDivL fun i j=>.int (i / j)):=opI fun i j _ _ _ _ _ hc q=>by
  have h1:(0:Int) < j:=hc.1
  exact floordiv_int (by omega) (by rw [Int.fdiv_eq_ediv_of_nonneg i (by omega)]; exact q) (.inl (PyProof.noPylong_of_log2 hc.2))
theorem op_mulL:OpR X (binaryOp .Mult) (rI IntMulOk fun i j=>.int (i * j)):=opI fun _ _ _ _ _ _ _ hc q=>mul_int q hc
theorem log2_lt_of {n k:Nat} (hk:0 < k) (h:n < 2^k):n.log2 < k:=by
  rcases Nat.eq_zero_or_pos n with h0 | hp
  · rw [h0]; simpa using hk
  · exact (Nat.log2_lt (Nat.ne_of_gt hp)).mpr h
theorem intBits_le {z:Int} {k:Nat} (hk:0 < k) (h:z.natAbs < 2^k):Builtin.Int.intBits z≤k:=by
  unfold Builtin.Int.intBits
  split
  · exact Nat.zero_le _
  · exact log2_lt_of hk h
theorem mulOk_of {a b:Int} (h1:a.natAbs < 2^128) (h2:b.natAbs < 2^128):IntMulOk a b:=by
  have e1:=intBits_le (by decide) h1
  have e2:=intBits_le (by decide) h2
  unfold IntMulOk Builtin.Int.intTooBig
  intro h
  simp only [Bool.and_eq_true,decide_eq_true_eq] at h
  have h3:=h.2
  have hb:(256:Int)≤(bitsLine:Int):=by decide +kernel
  omega
def tyO:Option HO→Option String
  | some (.lst _)=>some "list"
  | some (.frz _ (.lst _))=>some "list"
  | some (.tup _)=>some "tuple"
  | some (.dK _)=>some "dict"
  | some (.dT _)=>some "dict"
  | _=>none
def tyS (H:Hp):V→Option String
  | .non=>some "NoneType"
  | .bl _=>some "bool"
  | .int _=>some "int"
  | .str _=>some "str"
  | .ref a=>tyO (H a)
  | _=>none
theorem tyS_of {K:PySem.W.Frag} {H:Hp} {x:V} {T:String} (h:tyS H x=some T):TyOf K H x (.type T)∧(T="NoneType"∨T="bool"∨T="int"∨T="str"∨T="list"∨T="tuple"∨T="dict"):=by
  unfold tyS at h
  split at h
  · cases h; exact ⟨.non,by simp⟩
  · cases h; exact ⟨.bl _,by simp⟩
  · cases h; exact ⟨.int _,by simp⟩
  · cases h; exact ⟨.str _,by simp⟩
  · unfold tyO at h
    split at h
    · rename_i e; cases h; exact ⟨.lst e,by simp⟩
    · rename_i e; cases h; exact ⟨.frz e,by simp⟩
    · rename_i e; cases h; exact ⟨.tup e,by simp⟩
    · rename_i e; cases h; exact ⟨.dK e,by simp⟩
    · rename_i e; cases h; exact ⟨.dT e,by simp⟩
    · cases h
  · cases h
def isB (T c:String):Bool:=decide (T=c) || (decide (T="bool") && decide (c="int"))
theorem kit_isB {K:PySem.W.Frag} {T c:String} (h:T="NoneType"∨T="bool"∨T="int"∨T="str"∨T="list"∨T="tuple"∨T="dict") (hc:c="int"∨c="bool"∨c="tuple"∨c="list"∨c="str") :
    PySem.W.kitOne K (.type T) (.type c)=some (isB T c):=by
  rcases h with rfl | rfl | rfl | rfl | rfl | rfl | rfl <;> rcases hc with rfl | rfl | rfl | rfl | rfl <;> rfl
theorem call_isin:CallR X (.builtin "isinstance") (fun xs H Q=>∃ x T c,xs=[x,.ty c]∧tyS H x=some T∧(c="int"∨c="bool"∨c="tuple"∨c="list"∨c="str")∧Q (.bl (isB T c)) H):=by
  intro pins s σ H xs us Q I r h
  obtain ⟨x,T,c,rfl,hT,hc,q⟩:=h
  obtain ⟨u,w',rfl,rx,ry⟩:=vals2 r
  cases (show w'=Value.type c from ry)
  obtain ⟨ty,hl⟩:=tyS_of (K:=X.K) hT
  exact isinst_ok I rx ty (kit_isB hl hc) fun tk=>⟨.bl (isB T c),H,I.tok tk,rfl,q⟩
theorem bools_get {bs:List Bool} {its:List Value} (r:Vals (bs.map V.bl) its) {i:Nat} {v:Value} (h:its.toArray[i]?=some v):v=.bool (bs.getD i false):=by
  have hl:=r.length
  have hi:i < its.length:=by
    have:=(Array.getElem?_eq_some_iff.mp h).1
    simpa using this
  have hb:bs[i]?=some (bs.getD i false):=by
    have:i < bs.length:=by rw [List.length_map] at hl; omega
    rw [List.getD_eq_getElem?_getD,List.getElem?_eq_getElem this]; rfl
  obtain ⟨u,hu,ru⟩:=r.get (i:=i) (x:=.bl (bs.getD i false)) (by rw [List.getElem?_map,hb]; rfl)
  have h':its[i]?=some v:=by simpa using h
  rw [h'] at hu
  cases hu
  exact ru
theorem range_any {α:Type} (bs:List Bool):(List.range bs.length).any (fun i=>bs.getD i false)=bs.any id:=by
  have e:(List.range bs.length).map (fun i=>bs.getD i false)=bs:=by
    apply List.ext_getElem?
    intro i
    rw [List.getElem?_map]
    by_cases h:i < bs.length
    · rw [List.getElem?_range h,List.getElem?_eq_getElem h,Option.map_some,List.getD_eq_getElem?_getD,List.getElem?_eq_getElem h]; rfl
    · rw [List.getElem?_eq_none (by simpa using h),List.getElem?_eq_none (by omega)]; rfl
  conv=>rhs; rw [← e]
  rw [List.any_map]; rfl
theorem truth_bools {prog:Program} {w:World} {A:Around} {bs:List Bool} {its:List Value} (r:Vals (bs.map V.bl) its):TruthOf prog w A (fun i v=>its.toArray[i]?=some v) (fun i=>bs.getD i false):=by
  intro i v s Q E hv hq
  have e:=bools_get r hv
  subst e
  exact wpAny_truthy_bool hq
theorem call_any:CallR X (.builtin "any") (fun xs H Q=>∃ (p:Addr) (bs:List Bool),xs=[.ref p]∧SqL X.K H p (bs.map V.bl)∧X.calm=true∧Q (.bl (bs.any id)) H):=by
  intro pins s σ H xs us Q I r h
  obtain ⟨p,bs,rfl,hp,hc,q⟩:=h
  obtain ⟨u,rfl,ru⟩:=vals1 r
  cases ru
  obtain ⟨its,rv,pl,hz⟩:=I.list hp
  have hl:=rv.length
  rw [List.length_map] at hl
  refine call_any_walk (wpAny_pyIter_list pl.isList ?_)
  have hlt:p < s.heap.objs.size:=by obtain ⟨o,ho,_⟩:=pl.isList; exact Heap.lt_size ho
  refine ⟨s.heap.objs.size,_,_,_,_,_,_,rfl,Walks.list (show X.A.in1.handled=none from I.ok.hd hc) s.heap.objs.size p (Nat.ne_of_lt hlt) its.toArray,⟨⟨_,Heap.get?_push_size _ rfl,rfl,rfl⟩,let ⟨o,ho,r⟩:=pl.isList; ⟨o,Heap.get?_push_of_some _ ho,r⟩⟩,truth_bools rv,fun h' tk k=>?_⟩
  refine ⟨.bl (bs.any id),H,I.kept (t':=tk) fun b o e=>k b o (fun z=>?_) (Heap.get?_push_of_some _ e),?_,q⟩
  · have:b=s.heap.objs.size:=by simpa using z
    exact absurd (this ▸ Heap.lt_size e) (Nat.lt_irrefl _)
  · show Value.bool _=Value.bool _
    rw [List.size_toArray,← hl,range_any (α:=Nat)]
end
section
variable {X:Cx}
end
end L2
namespace L2
open PySem PySem.Spec PyProof.Rows
structure DefOk (P:Program) (w:World) (K:PySem.W.Frag) (mg:Str→Option Value) (base:Heap) (k:Nat) (x:Str) (ps:List Str) (sp:Sp):Prop where
  ex:∃ (f:Addr) (fd:FuncData),FnOk P w K mg base CX0 k f fd ps sp∧mg x=some (.ref f)∧PySem.W.keepIn K (.ref f)=true∧Binds K fd ps []
section
variable {X:Cx} {k j:Nat} {x:Str} {ps:List Str} {sp:Sp} {p pos:Pos} {e:Expr} {es:List Expr} {t:TA}
theorem pe_fn (D:DefOk X.prog X.w X.K X.mg X.base k x ps sp) (hr:Room j X.A) (ha:PA X (e :: es) t) (hj:k≤j:=by decide) (hg:Gl X x:=by rfl) (hdb:(x == ("__debug__":Str))=false:=by decide)
    (he:starEach (e :: es) X.env=(false,eval e X.env) :: starEach es X.env:=by rfl) (hpl:(backTo pos (starEach es X.env)).any (·.1)=false:=by rfl):PE X (.Call (.Name x p) (e :: es) [] pos) (tCall sp [] E0 t):=by
  obtain ⟨f,fd,F,hm,hk,hb⟩:=D.ex
  exact pe_call F (hr.mono hj) hg hm hk hb .nil pass0 ha hdb he hpl
end
theorem lenOk {xs:List V} (n:Nat) (h:xs.length=n:=by rfl) (h2:n≤1000:=by decide):xs.length≤sizeLine:=by rw [h]; exact Nat.le_of_lt (small1000 h2)
theorem iteP {c:Bool} {A B:Prop} (h:c=true) (a:A):if c=true then A else B:=by rw [if_pos h]; exact a
theorem iteN {c:Bool} {A B:Prop} (h:c=false) (b:B):if c=true then A else B:=by rw [if_neg (by rw [h]; exact Bool.false_ne_true)]; exact b
theorem ite3 {c:Bool} {A B:Prop} (h1:c=true→A) (h2:c=false→B):if c=true then A else B:=by
  cases c with
  | true=>exact iteT (h1 rfl)
  | false=>exact iteF (h2 rfl)
def SameX (p:Addr) (H H':Hp):Prop:=∀ b o,b≠p→H b=some o→H' b=some o
theorem SameX.trans {p:Addr} {H H1 H2:Hp} (a:SameX p H H1) (b:SameX p H1 H2):SameX p H H2:=fun c o n h=>b c o n (a c o n h)
theorem SameX.upd {p:Addr} {H:Hp} {o:HO}:SameX p H (upd H p o):=fun b u n h=>by rw [upd_ne n]; exact h
theorem Same.new {l:Addr} {H:Hp} {o:HO} (h:H l=none):Same H (L2.upd H l o):=fun b u e=>by rw [upd_ne (ne_of_none e h)]; exact e
theorem SameX.same {p:Addr} {H H0 H':Hp} (a:SameX p H H') (s:Same H0 H) (h:H0 p=none):Same H0 H':=fun b o e=>a b o (ne_of_none e h) (s b o e)
theorem Same.x {p:Addr} {H H':Hp} (a:Same H H'):SameX p H H':=fun b o _ e=>a b o e
def cW (acc:Addr) (n:Nat) (Pv:Nat→List V→St→Hp→Prop) (i m:Nat) (σ:St) (H:Hp):Prop:=i≤n∧m=n - i∧∃ xs,xs.length=i∧H acc=some (.lst xs)∧Pv i xs σ H
def cNx (acc:Addr) (n:Nat) (Pv:Nat→List V→St→Hp→Prop) (i:Nat) (σ:St) (v:V) (H:Hp):Prop:=∃ xs,H acc=some (.lst xs)∧xs.length < sizeLine∧∃ m',m' < n - i∧cW acc n Pv (i+1) m' σ (upd H acc (.lst (xs++[v])))
theorem cNx.mk {acc:Addr} {n:Nat} {Pv:Nat→List V→St→Hp→Prop} {i:Nat} {σ:St} {v:V} {H:Hp} {xs:List V} (hn:n≤sizeLine) (hi:i < n) (hl:xs.length=i) (ha:H acc=some (.lst xs)) (hp:Pv (i+1) (xs++[v]) σ (upd H acc (.lst (xs++[v])))) :
    cNx acc n Pv i σ v H:=⟨xs,ha,by omega,n - (i+1),by omega,hi,rfl,xs++[v],by rw [List.length_append,hl]; rfl,upd_same,hp⟩
theorem comp_list {K:PySem.W.Frag} {a:Addr} {ys:List V} {g:TG} {te:TE} {σ:St} {H1:Hp} {acc:Addr} {Qr:Hp→Prop} (Pv:Nat→List V→St→Hp→Prop) (h0:Pv 0 [] σ (upd H1 acc (.lst [])))
    (hq:∀ i xs σ H,i≤ys.length→H acc=some (.lst xs)→Pv i xs σ H→SqL K H a ys)
    (hs:∀ i x xs σ H,ys[i]?=some x→i < ys.length→xs.length=i→H acc=some (.lst xs)→Pv i xs σ H→g x σ H fun σ2 H2=>te σ2 H2 fun v H3=>cNx acc ys.length Pv i σ2 v H3)
    (hd:∀ xs σ H,xs.length=ys.length→H acc=some (.lst xs)→Pv ys.length xs σ H→Qr H) :
    ∃ W:Nat→Nat→St→Hp→Prop,(∃ m,W 0 m σ (upd H1 acc (.lst [])))∧∀ i m σ1 H2,W i m σ1 H2 →
      ((Itl K a).stop i H2∧Qr H2)∨((Itl K a).go i H2∧∀ x H3,(Itl K a).yld i H2 x H3→g x σ1 H3 fun σ4 H4=>te σ4 H4 fun v H5=>∃ xs,H5 acc=some (.lst xs)∧xs.length < sizeLine∧∃ m',m' < m∧W (i+1) m' σ4 (upd H5 acc (.lst (xs++[v])))):=by
  refine ⟨cW acc ys.length Pv,⟨ys.length,Nat.zero_le _,rfl,[],rfl,upd_same,h0⟩,?_⟩
  rintro i m σ1 H2 ⟨hi,rfl,xs,hl,ha,hp⟩
  have hsq:=hq i xs σ1 H2 hi ha hp
  rcases Nat.lt_or_ge i ys.length with h | h
  · refine .inr ⟨⟨ys,ys[i],hsq,List.getElem?_eq_getElem h⟩,?_⟩
    rintro x H3 ⟨rfl,hx⟩
    exact hs i x xs σ1 H3 (hx ys hsq) h hl ha hp
  · have e:i=ys.length:=Nat.le_antisymm hi h
    subst e
    exact .inl ⟨⟨ys,hsq,Nat.le_refl _⟩,hd xs σ1 H2 hl ha hp⟩
end L2
namespace L2
open PySem PySem.Spec PyProof.Rows PySem.W
section
variable {cmp:Nat→Nat→(Bool→Shared→Prop)→Shared→Prop} {key:Nat→Int} {N:Nat} {s:Shared}
variable (hcmp:∀ i j (C:Bool→Shared→Prop),i < N→j < N→C (decide (key i < key j)) s→cmp i j C s)
include hcmp
end
end L2
namespace L2
open PySem PySem.Spec PyProof.Rows PySem.W
section
variable {prog:Program} {w:World} {A:Around} {E:Value→Shared→Prop} {s:Shared}
def midHeap (h:Heap) (a:Addr) (vs:List Value):Heap:=((h.update a (Obj.mapSeq fun _=>#[])).push (seqObj "tuple" vs.toArray 0)).push (seqObj "list" #[] 0)
theorem midHeap_keep {h:Heap} {a b:Addr} {vs:List Value} {o:Obj} (hb:b≠a) (e:h.get? b=some o):(midHeap h a vs).get? b=some o:=by
  unfold midHeap
  exact Heap.get?_push_of_some _ (Heap.get?_push_of_some _ (by rw [Heap.get?_update_ne _ _ _ _ hb]; exact e))
theorem katLex_ints {fin:Bool} {Q:Bool→Shared→Prop} (hf:fin=false):∀ {vs ws:List Value} {ns ms:List Int} (i:Nat),IntsAre vs ns→IntsAre ws ms→ns.length=ms.length→Q (HT.lexLt ns ms) s→KatLex prog w A true fin Q (vs.zip ws) i s
  | _,_,_,_,i,.nil,.nil,_,hq=>by rw [HT.lexLt_nil_nil] at hq; rw [hf]; exact hq
  | _,_,_,_,i,.cons n t hn,.cons m u hm,hl,hq=>by
    rw [List.zip_cons_cons]
    rw [HT.lexLt_cons] at hq
    refine kat_cons (wpAny_eqBool_int (kat_go (fun e=>kat_yes ?_) fun e=>kat_no ?_))
    · have e':n=m:=by simpa using e
      rw [if_pos e'] at hq
      exact katLex_ints hf (i+1) hn hm (by simpa using hl) hq
    · have e':¬ n=m:=by simpa using e
      rw [if_neg e'] at hq
      by_cases hi:i=0
      · subst hi
        exact oneLt_int hq
      · have hb:(true && i == 0)=false:=by simp [hi]
        rw [hb]
        exact kat_one _ _ (lt_int hq)
end
section
variable {X:Cx}
theorem refs_vals:∀ {ts:List Addr} {its:List Value},Vals (ts.map V.ref) its→its=ts.map Value.ref
  | [],_,.nil=>rfl
  | a :: r,_,.cons h t=>by
    cases (show _=Value.ref a from h)
    rw [List.map_cons,refs_vals t]
theorem refs_vals':∀ (ts:List Addr),Vals (ts.map V.ref) (ts.map Value.ref)
  | []=>.nil
  | a :: r=>.cons rfl (refs_vals' r)
theorem katTups_of {h:Heap} {m:Nat}:∀ {ts:List (Addr × List Int)},(∀ t∈ts,t.2.length=m+1∧∃ items,IsTup h t.1 items∧IntsAre items.toList t.2)→∃ fs,KatTups h (ts.map fun t=>Value.ref t.1) fs∧fs.length=ts.length∧∀ v∈fs,∃ n tk,v=Value.int n tk
  | [],_=>⟨[],KatTups.nil,rfl,fun v hv=>nomatch hv⟩
  | t :: r,hh=>by
    obtain ⟨fs,h1,h2,h3⟩:=katTups_of (ts:=r) fun u hu=>hh u (List.mem_cons_of_mem _ hu)
    obtain ⟨hl,items,⟨o,ho,hc,n,hd⟩,hi⟩:=hh t List.mem_cons_self
    obtain ⟨x,tk,z,e⟩:∃ (n:Int) (tk:Tok) (zs:List Value),items.toList=Value.int n tk :: zs:=by
      generalize items.toList=vs at hi
      generalize t.2=ns at hi hl
      cases hi with
      | nil=>simp at hl
      | cons n tk hz=>exact ⟨n,tk,_,rfl⟩
    have hf:items[0]?=some (Value.int x tk):=by
      rw [← Array.getElem?_toList,e]; rfl
    exact ⟨_,KatTups.cons ho hc hd hf h1,by simp [h2],fun v hv=>by
      rcases List.mem_cons.mp hv with rfl | hv
      · exact ⟨x,tk,rfl⟩
      · exact h3 v hv⟩
end
end L2
namespace L2
open PySem PySem.Spec PyProof.Rows
section
variable {κ:Type} [DecidableEq κ]
def valV (kvs:List (κ × V)) (k:κ):Option V:=(kvs.find? fun kv=>decide (kv.1=k)).map (·.2)
def putK (kvs:List (κ × V)) (k:κ) (v:V):List (κ × V) :=
  if (kvs.any fun kv=>decide (kv.1=k))=true then kvs.map (fun kv=>if kv.1=k then (kv.1,v) else kv) else kvs++[(k,v)]
theorem valV_pos {p:κ × V} {r:List (κ × V)} {k:κ} (e:p.1=k):valV (p :: r) k=some p.2:=by simp [valV,List.find?_cons,e]
theorem valV_neg {p:κ × V} {r:List (κ × V)} {k:κ} (e:¬ p.1=k):valV (p :: r) k=valV r k:=by simp [valV,List.find?_cons,e]
theorem valV_any (k:κ):∀ kvs:List (κ × V),(kvs.any fun kv=>decide (kv.1=k))=(valV kvs k).isSome
  | []=>rfl
  | p :: r=>by
    rw [List.any_cons]
    by_cases e:p.1=k
    · simp only [valV_pos e,decide_eq_true e,Bool.true_or,Option.isSome_some]
    · rw [valV_neg e,decide_eq_false e,Bool.false_or]; exact valV_any k r
theorem length_putK (kvs:List (κ × V)) (k:κ) (v:V):(putK kvs k v).length≤kvs.length+1:=by
  unfold putK
  split
  · rw [List.length_map]; omega
  · rw [List.length_append,List.length_cons,List.length_nil]; omega
theorem RelO.isSome_eq {o:Option V} {u:Option Value} (r:RelO o u):o.isSome=u.isSome:=by
  cases o with
  | none=>cases u with
    | none=>rfl
    | some _=>exact (show False from r).elim
  | some _=>cases u with
    | none=>exact (show False from r).elim
    | some _=>rfl
theorem KV.val {kvs:List (κ × V)} {vs:List (κ × Value)} (r:KV kvs vs) (k:κ):RelO (valV kvs k) (valueAt vs k):=by
  unfold KV at r
  induction r with
  | nil=>exact True.intro
  | @cons p q ps qs h t ih =>
    obtain ⟨h1,h2⟩:=h
    by_cases e:p.1=k
    · have e':q.1=k:=h1.symm.trans e
      have b:valueAt (q :: qs) k=some q.2:=by simp [valueAt,List.find?_cons,e']
      rw [valV_pos e,b]; exact h2
    · have e':¬ q.1=k:=fun z=>e (h1.trans z)
      have b:valueAt (q :: qs) k=valueAt qs k:=by simp [valueAt,List.find?_cons,e']
      rw [valV_neg e,b]; exact ih
theorem KV.any {kvs:List (κ × V)} {vs:List (κ × Value)} (r:KV kvs vs) (k:κ):(kvs.any fun kv=>decide (kv.1=k))=vs.any fun kv=>decide (kv.1=k):=by
  unfold KV at r
  induction r with
  | nil=>rfl
  | cons h t ih=>rw [List.any_cons,List.any_cons,ih,h.1]
theorem KV.repl {kvs:List (κ × V)} {vs:List (κ × Value)} (r:KV kvs vs) (k:κ) {y:V} {u:Value} (ry:RelV y u) :
    KV (kvs.map fun kv=>if kv.1=k then (kv.1,y) else kv) (vs.map fun kv=>if kv.1=k then (kv.1,u) else kv):=by
  unfold KV at r ⊢
  induction r with
  | nil=>exact .nil
  | @cons p q ps qs h t ih =>
    rw [List.map_cons,List.map_cons]
    refine .cons ?_ ih
    obtain ⟨h1,h2⟩:=h
    by_cases e:p.1=k
    · rw [if_pos e,if_pos (h1.symm.trans e)]; exact ⟨h1,ry⟩
    · rw [if_neg e,if_neg (fun z=>e (h1.trans z))]; exact ⟨h1,h2⟩
theorem KV.put {kvs:List (κ × V)} {vs:List (κ × Value)} (r:KV kvs vs) (k:κ) {y:V} {u:Value} (ry:RelV y u):KV (putK kvs k y) (stored vs k u):=by
  unfold putK stored
  rw [r.any k]
  by_cases e:(vs.any fun kv=>decide (kv.1=k))=true
  · rw [if_pos e,if_pos e]; exact r.repl k ry
  · rw [if_neg e,if_neg e]; exact Paired.snoc r ⟨rfl,ry⟩
theorem KV.length {kvs:List (κ × V)} {vs:List (κ × Value)} (r:KV kvs vs):kvs.length=vs.length:=Paired.length r
end
theorem kV_is {P:Program} {w:World} {k:Key} {u:Value} (r:RelV (kV k) u):(mixKind P w).is k u=true:=by
  cases k with
  | inl i=>obtain ⟨t,e⟩:=(show ∃ t,u=Value.int i t from r); subst e; exact mixKind_int P w i t
  | inr x=>obtain ⟨t,e⟩:=(show ∃ t,u=Value.str x t from r); subst e; exact mixKind_str P w x t
theorem items_are {P:Program} {w:World}:∀ {ks:List Key} {us:List Value},Vals (ks.map kV) us→ItemsAre (mixKind P w) ks us
  | [],_,r=>by rw [List.map_nil] at r; cases r; exact .nil
  | k :: ks,_,r=>by
    rw [List.map_cons] at r
    cases r with
    | cons h t=>exact .cons (kV_is h) (items_are t)
abbrev KT (H:Hp):List (List Key × V)→List (List Key × Addr × Value)→Prop:=Paired fun p q=>p.1=q.1∧H q.2.1=some (.tup (p.1.map kV))∧RelV p.2 q.2.2
theorem KT.val {H:Hp} {kvs:List (List Key × V)} {xs:List (List Key × Addr × Value)} (r:KT H kvs xs) (k:List Key):RelO (valV kvs k) ((atKey xs k).map (·.2)):=by
  induction r with
  | nil=>exact True.intro
  | @cons p q ps qs h t ih =>
    obtain ⟨h1,_,h2⟩:=h
    by_cases e:p.1=k
    · have e':q.1=k:=h1.symm.trans e
      have b:atKey (q :: qs) k=some q.2:=by simp [atKey,List.find?_cons,e']
      rw [valV_pos e,b]; exact h2
    · have e':¬ q.1=k:=fun z=>e (h1.trans z)
      have b:atKey (q :: qs) k=atKey qs k:=by simp [atKey,List.find?_cons,e']
      rw [valV_neg e,b]; exact ih
theorem KT.repl {H:Hp} {kvs:List (List Key × V)} {xs:List (List Key × Addr × Value)} (r:KT H kvs xs) (k:List Key) {y:V} {u:Value} (ry:RelV y u) :
    KT H (kvs.map fun kv=>if kv.1=k then (kv.1,y) else kv) (xs.map (putAt k u)):=by
  induction r with
  | nil=>exact .nil
  | @cons p q ps qs h t ih =>
    rw [List.map_cons,List.map_cons]
    refine .cons ?_ ih
    obtain ⟨h1,h2,h3⟩:=h
    unfold putAt
    by_cases e:p.1=k
    · rw [if_pos e,if_pos (h1.symm.trans e)]; exact ⟨h1,h2,ry⟩
    · rw [if_neg e,if_neg (fun z=>e (h1.trans z))]; exact ⟨h1,h2,h3⟩
theorem KT.put {H:Hp} {kvs:List (List Key × V)} {xs:List (List Key × Addr × Value)} (r:KT H kvs xs) (k:List Key) {b:Addr} {y:V} {u:Value} (hb:H b=some (.tup (k.map kV))) (ry:RelV y u) :
    KT H (putK kvs k y) (storedH xs k b u):=by
  have e:(kvs.any fun kv=>decide (kv.1=k))=(atKey xs k).isSome:=by
    rw [valV_any,(r.val k).isSome_eq,Option.isSome_map]
  unfold putK storedH
  rw [e]
  by_cases q:(atKey xs k).isSome=true
  · rw [if_pos q,if_pos q]; exact r.repl k ry
  · rw [if_neg q,if_neg q]; exact Paired.snoc r ⟨rfl,hb,ry⟩
theorem KT.keeps {H H':Hp} {kvs:List (List Key × V)} {xs:List (List Key × Addr × Value)} (r:KT H kvs xs) (ht:∀ b ys,H b=some (.tup ys)→H' b=some (.tup ys)):KT H' kvs xs :=
  Paired.mapP r fun _ _ z=>⟨z.1,ht _ _ z.2.1,z.2.2⟩
section
variable {P:Program} {w:World} {H:Hp} {h:Heap} {a:Addr}
theorem rd_of {u:HO} (ok:HOk P w H h) (e:Rd H a u):ObjOk P w H h a u:=e.ok ok
theorem dk_rd {kvs:List (Key × V)} (ok:HOk P w H h) (e:Rd H a (.dK kvs)):kvs.length≤sizeLine∧(a == sysModules)=false∧∃ vs,KV kvs vs∧h.DictOf (mixKind P w) a vs :=
  show ObjOk P w H h a (.dK kvs) from rd_of ok e
theorem dk_of {kvs:List (Key × V)} (ok:HOk P w H h) (e:H a=some (.dK kvs)):kvs.length≤sizeLine∧(a == sysModules)=false∧∃ vs,KV kvs vs∧h.DictOf (mixKind P w) a vs:=dk_rd ok (.inl e)
theorem key_of {ks:List Key} (ok:HOk P w H h) (e:H a=some (.tup (ks.map kV))):(tupleKind (mixKind P w)).is h ks a:=by
  obtain ⟨_,its,r,o,h1,h2,n,h3⟩:=(show ObjOk P w H h a (.tup (ks.map kV)) from ok a _ e)
  exact ⟨o,its.toArray,n,h1,h2,h3,by simpa using items_are r⟩
theorem dt_rd {kvs:List (List Key × V)} (ok:HOk P w H h) (e:Rd H a (.dT kvs)):kvs.length≤sizeLine∧(a == sysModules)=false ∧
    ∃ xs,KT H kvs xs∧h.DictOfH (tupleKind (mixKind P w)) a xs:=by
  obtain ⟨z,y,xs,r,o,es,ep,h1,h2,h3,h4,h5⟩:=(show ObjOk P w H h a (.dT kvs) from rd_of ok e)
  refine ⟨z,y,xs,r,o,es,ep,h1,h2,h3,h4,fun x hx=>?_,h5⟩
  have all:∀ {l:List (List Key × V)} {m:List (List Key × Addr × Value)},KT H l m→∀ x∈m,(tupleKind (mixKind P w)).is h x.1 x.2.1:=by
    intro l m q
    induction q with
    | nil=>intro x hx; exact nomatch hx
    | @cons p q ps qs hq t ih =>
      intro x hx
      rcases List.mem_cons.mp hx with e | hx
      · subst e
        exact key_of ok (by rw [← hq.1]; exact hq.2.1)
      · exact ih x hx
  exact all r x hx
theorem dt_of {kvs:List (List Key × V)} (ok:HOk P w H h) (e:H a=some (.dT kvs)):kvs.length≤sizeLine∧(a == sysModules)=false ∧
    ∃ xs,KT H kvs xs∧h.DictOfH (tupleKind (mixKind P w)) a xs:=dt_rd ok (.inl e)
end
def DGet (H:Hp) (a:Addr) (y:V) (r:Option V):Prop :=
  (∃ kvs k,Rd H a (.dK kvs)∧y=kV k∧r=valV kvs k)∨∃ kvs k b,Rd H a (.dT kvs)∧y=.ref b∧H b=some (.tup (k.map kV))∧r=valV kvs k
def DPut (H:Hp) (a:Addr) (y v:V) (H':Hp):Prop :=
  (∃ kvs k,H a=some (.dK kvs)∧y=kV k∧kvs.length < sizeLine∧H'=upd H a (.dK (putK kvs k v))) ∨
  ∃ kvs k b,H a=some (.dT kvs)∧y=.ref b∧H b=some (.tup (k.map kV))∧kvs.length < sizeLine∧H'=upd H a (.dT (putK kvs k v))
theorem DGet.k {H:Hp} {a:Addr} {kvs:List (Key × V)} {k:Key} (e:H a=some (.dK kvs)):DGet H a (kV k) (valV kvs k):=.inl ⟨kvs,k,.inl e,rfl,rfl⟩
theorem DPut.k {H:Hp} {a:Addr} {kvs:List (Key × V)} {k:Key} {v:V} (e:H a=some (.dK kvs)) (hl:kvs.length < sizeLine):DPut H a (kV k) v (upd H a (.dK (putK kvs k v))):=.inl ⟨kvs,k,e,rfl,hl,rfl⟩
section
variable {X:Cx} {pins:List (Addr × Obj)} {σ:St} {H:Hp} {s:Shared} {a:Addr} {y v:V} {u r:Value} {o:Option V} {A:Around} {E:Value→Shared→Prop}
theorem Inv.big (I:Inv X pins σ H s):sysModules < s.heap.objs.size:=by
  have h:mainGlobals < s.heap.objs.size:=(I.mod.glob.keeps I.bk).lt
  exact Nat.lt_trans (by decide) h
theorem d_getItem {Q:Value→Shared→Prop} (hu:A.units+1 < cLine) (I:Inv X pins σ H s) (g:DGet H a y (some v)) (ry:RelV y u) (h:∀ w' s',Inv X pins σ H s'→RelV v w'→Q w' s') :
    wpAny (model X.prog X.w) A (getItem (.ref a) u) Q E s:=by
  rcases g with ⟨kvs,k,e,ey,l⟩ | ⟨kvs,k,b,e,ey,eb,l⟩
  · subst ey
    obtain ⟨z,hd,vs,rel,dd⟩:=dk_rd I.hok e
    obtain ⟨w',hw,rw'⟩:=RelO.some_of (v:=v) (o:=valueAt vs k) (by rw [l]; exact rel.val k)
    exact wpAny_getItem_of (kV_is ry) dd.mapOf hw (h w' _ (I.tok _) rw')
  · subst ey
    cases (show u=Value.ref b from ry)
    obtain ⟨z,hd,xs,rel,dd⟩:=dt_rd I.hok e
    obtain ⟨w',hw,rw'⟩:=RelO.some_of (v:=v) (o:=(atKey xs k).map (·.2)) (by rw [l]; exact rel.val k)
    obtain ⟨p,hp,hp2⟩:=Option.map_eq_some_iff.mp hw
    refine wpAny_getItem_heap (tupleKind_room_in1 hu) (key_of I.hok eb) dd hp ?_
    rw [hp2]
    exact h w' _ (I.tok _) rw'
theorem d_write {h':Heap} {t':Nat} {ob:HO} (I:Inv X pins σ H s) (mu:Mut (H a)) (hs:Heap.SameBut a s.heap h') (he:∃ q,h'.get? a=some q) (new:ObjOk X.prog X.w (upd H a ob) h' a ob) :
    Inv X pins σ (upd H a ob) { s with heap:=h',toks:=t' } :=
  I.write (x:=a) (e:=a) mu (.inl rfl) (fun b q hb z=>(hs.2 b hb).trans z) he new
theorem dk_new {P:Program} {w:World} {H':Hp} {h':Heap} {kvs:List (Key × V)} {vs:List (Key × Value)} (z:kvs.length≤sizeLine) (hd:(a == sysModules)=false) (rel:KV kvs vs) (dd:h'.DictOf (mixKind P w) a vs) :
    ObjOk P w H' h' a (.dK kvs):=⟨z,hd,vs,rel,dd⟩
theorem d_setItem {H':Hp} {Q:Unit→Shared→Prop} (hu:A.units+1 < cLine) (I:Inv X pins σ H s) (g:DPut H a y v H') (ry:RelV y u) (rv:RelV v r) (h:∀ s',Inv X pins σ H' s'→Q () s') :
    wpAny (model X.prog X.w) A (setItem (.ref a) u r) Q E s:=by
  rcases g with ⟨kvs,k,e,ey,l,eH⟩ | ⟨kvs,k,b,e,ey,eb,l,eH⟩
  · subst ey eH
    obtain ⟨z,hd,vs,rel,dd⟩:=dk_of I.hok e
    have hz:vs.length≤sizeLine:=by rw [← rel.length]; exact z
    have hl:(putK kvs k v).length≤sizeLine:=by have:=length_putK kvs k v; omega
    refine wpAny_setItem_pairs (hsz:=hz) (kV_is ry) dd fun h' dd' hs=>h _ ?_
    have he:∃ q,h'.get? a=some q:=let ⟨q,_,_,hq,_⟩:=dd'; ⟨q,hq⟩
    exact d_write I (by rw [e]; exact True.intro) hs he (dk_new hl hd (rel.put k rv) dd')
  · subst ey eH
    cases (show u=Value.ref b from ry)
    obtain ⟨z,hd,xs,rel,dd⟩:=dt_of I.hok e
    have hz:xs.length≤sizeLine:=by rw [← Paired.length rel]; exact z
    have hl:(putK kvs k v).length≤sizeLine:=by have:=length_putK kvs k v; omega
    refine wpAny_setItem_heap (hsz:=hz) (tupleKind_room_in1 hu) (key_of I.hok eb) dd fun h' dd' hs=>h _ ?_
    obtain ⟨q,es,ep,hq,h2,h3,h4,_,h5⟩:=dd'
    refine d_write I (by rw [e]; exact True.intro) hs ⟨q,hq⟩ ⟨hl,hd,_,(rel.put k eb rv).keeps fun c ys ec=>?_,q,es,ep,hq,h2,h3,h4,h5⟩
    rw [upd_ne (ne_of ec e (fun z=>nomatch z))]
    exact ec
end
section
variable {X:Cx} {pins:List (Addr × Obj)} {σ:St} {H:Hp} {s:Shared} {a:Addr} {kvs:List (Key × V)} {k:Key} {u:Value} {A:Around} {E:Value→Shared→Prop}
end
def NoSl (i:Expr):Prop:=∀ ov iv,subscripted i false ov iv=operate [ov,iv] (getItem ov iv)
theorem subD_of {prog:Program} {w:World} {A:Around} {E:Value→Shared→Prop} {s:Shared} {env:Env} {value slice:Expr} {pos:Pos} {T id:String} {Q:Value→Shared→Prop}
    (hl:typeLookup (.type T) "__getitem__"=pure (some (.builtin id))) (hs:NoSl slice)
    (h:wpAny (model prog w) A (eval value env) (fun o s₁=>wpAny (model prog w) A (eval slice env) (fun i s₂=>s₂.TypeIs o T∧wpAny (model prog w) A (getItem o i) Q E s₂) E s₁) E s) :
    wpAny (model prog w) A (eval (.Subscript value slice pos) env) Q E s:=by
  refine Subscript_ (wpAny_mono h (fun o s₁ h₁=>wpAny_mono h₁ (fun i s₂ h₂=>?_) fun _ _ x=>x) fun _ _ x=>x)
  obtain ⟨hT,h₂⟩:=h₂
  unfold subscriptTail
  refine wpAny_bind ?_
  rw [getitemInPython_of_ne hT.not_modules]
  refine wpAny_bind (wpAny_specialOf hT hl ?_)
  have fin:wpAny (model prog w) A (subscripted slice false o i) (fun r s₃=>wpAny (model prog w) A (letTemporaryGo value o r >>= fun _=>pure r) Q E s₃) E s₂:=by
    rw [hs o i]
    exact wpAny_operating (wpAny_mono h₂ (fun r s₃ h₃=>wpAny_bind (wpAny_letTemporaryGo (wpAny_pure h₃))) fun _ _ x=>x)
  first
    | exact wpAny_pure (wpAny_bind fin)
    | exact wpAny_bind (wpAny_pure (wpAny_bind fin))
    | exact wpAny_bind fin
theorem dict_typeIs {X:Cx} {pins:List (Addr × Obj)} {σ:St} {H:Hp} {s:Shared} {a:Addr} {y:V} {o:Option V} (I:Inv X pins σ H s) (g:DGet H a y o):s.TypeIs (.ref a) "dict":=by
  rcases g with ⟨kvs,k,e,_,_⟩ | ⟨kvs,k,b,e,_,_,_⟩
  · obtain ⟨_,_,vs,_,dd⟩:=dk_rd I.hok e
    exact dd.typeIs
  · obtain ⟨_,_,xs,_,dd⟩:=dt_rd I.hok e
    exact dd.typeIs
def tDGet (td ty:TE):TE:=fun σ H Q=>td σ H fun x H1=>ty σ H1 fun y H2=>∃ a v,x=.ref a∧DGet H2 a y (some v)∧Q v H2
def sDPut (td ty tv:TE):TS:=fun D σ H=>tv σ H fun v H1=>td σ H1 fun x H2=>ty σ H2 fun y H3=>∃ a H4,x=.ref a∧DPut H3 a y v H4∧D.nx σ H4
section
variable {X:Cx} {o i e value:Expr} {pos pos' tpos:Pos} {td ty tv:TE}
theorem pe_dget (hu:X.A.units+1 < cLine) (ho:PE X o td) (hi:PE X i ty) (hs:NoSl i):PE X (.Subscript o i pos) (tDGet td ty):=by
  intro pins s σ H Q I h
  refine subD_of PySem.F.slot_dict_getitem.lookup hs (thn (ho pins s σ H _ I h) fun u s1 ⟨x,H1,I1,rx,q1⟩=>thn (hi pins s1 σ H1 _ I1 q1) fun iv s2 ⟨y,H2,I2,ry,a,v,ex,g,q2⟩=>?_)
  subst ex
  obtain rfl:u=Value.ref a:=rx
  exact ⟨dict_typeIs I2 g,d_getItem hu I2 g ry fun w' s3 I3 rw'=>⟨v,H2,I3,rw',q2⟩⟩
theorem ps_dput (hu:X.A.units+1 < cLine) (ho:PE X o td) (hi:PE X i ty) (hv:PE X value tv) (hs:swapsWith value (some (.Subscript o i pos')) pos.line X.env=pure false) :
    PS X (.Assign [.Subscript o i pos'] value pos) (sDPut td ty tv):=by
  intro pins s σ H D I h
  refine wpAny_Assign_Subscript (thn (hv pins s σ H _ I h) fun r s1 ⟨v,H1,I1,rv,q1⟩=>thn (ho pins s1 σ H1 _ I1 q1) fun u s2 ⟨x,H2,I2,rx,q2⟩=>thn (hi pins s2 σ H2 _ I2 q2) fun iv s3 ⟨y,H3,I3,ry,a,H4,ex,g,q3⟩=>?_) hs
  subst ex
  obtain rfl:u=Value.ref a:=rx
  exact d_setItem hu I3 g ry rv fun s4 I4=>⟨σ,H4,I4,q3⟩
end
theorem dk_empty {P:Program} {w:World} {H:Hp} (h:Heap) (hb:sysModules < h.objs.size):ObjOk P w H (h.push { cls:=.type "dict",data:=.dict #[] }) h.objs.size (.dK []) :=
  ⟨Nat.zero_le _,beq_eq_false_iff_ne.mpr (Ne.symm (Nat.ne_of_lt hb)),[],.nil,Heap.DictOf.new h⟩
section
variable {X:Cx} {pos:Pos}
end
def tPairs:List (TE × TE)→St→Hp→(List (V × V)→Hp→Prop)→Prop
  | [],_,H,Q=>Q [] H
  | (tk,tv) :: r,σ,H,Q=>tk σ H fun x H1=>tv σ H1 fun y H2=>tPairs r σ H2 fun ps H3=>Q ((x,y) :: ps) H3
abbrev VV:List (V × V)→List (Value × Value)→Prop:=Paired fun p q=>RelV p.1 q.1∧RelV p.2 q.2
def PPs (X:Cx) (pos:Pos) (keys:List (Option Expr)) (values:List Expr) (trs:List (TE × TE)):Prop :=
  ∀ (pins:List (Addr × Obj)) (s:Shared) (σ:St) (H:Hp) (Q:List (V × V)→Hp→Prop),Inv X pins σ H s→tPairs trs σ H Q →
    wpAny (model X.prog X.w) X.A (evalPairs (pairTrees keys values X.env pos)) (fun vs s'=>∃ ps H',Inv X pins σ H' s'∧VV ps vs∧Q ps H') X.xe s
theorem pps_nil {X:Cx} {pos:Pos}:PPs X pos [] [] []:=fun pins s σ H Q I h=>pairTrees_nil_walk ⟨[],H,I,.nil,h⟩
theorem pps_cons {X:Cx} {pos:Pos} {k v:Expr} {ks:List (Option Expr)} {vs:List Expr} {tk tv:TE} {trs:List (TE × TE)} (hk:PE X k tk) (hv:PE X v tv) (hr:PPs X pos ks vs trs) :
    PPs X pos (some k :: ks) (v :: vs) ((tk,tv) :: trs):=fun pins s σ H Q I h =>
  pairTrees_cons_walk (thn (hk pins s σ H _ I h) fun u s1 ⟨x,H1,I1,rx,q1⟩=>thn (hv pins s1 σ H1 _ I1 q1) fun w2 s2 ⟨y,H2,I2,ry,q2⟩ =>
    thn (hr pins s2 σ H2 _ I2 q2) fun ws s3 ⟨ps,H3,I3,rel,q3⟩=>⟨(x,y) :: ps,H3,I3,.cons ⟨rx,ry⟩ rel,q3⟩)
def mergeK (kvs more:List (Key × V)):List (Key × V):=more.foldl (fun acc kv=>putK acc kv.1 kv.2) kvs
theorem KV.merge:∀ {more:List (Key × V)} {rs:List (Key × Value)} {kvs:List (Key × V)} {vs:List (Key × Value)},KV more rs→KV kvs vs→KV (mergeK kvs more) (merged vs rs):=by
  intro more rs kvs vs r
  unfold KV at r
  induction r generalizing kvs vs with
  | nil=>intro q; exact q
  | @cons p q ps qs h t ih =>
    intro r0
    have e:KV (putK kvs p.1 p.2) (stored vs q.1 q.2):=by
      have:=r0.put p.1 h.2
      rw [← h.1]; exact this
    exact ih e
theorem length_mergeK:∀ (more kvs:List (Key × V)),(mergeK kvs more).length≤kvs.length+more.length
  | [],kvs=>by show kvs.length≤kvs.length+0; omega
  | p :: r,kvs=>by
    have h1:=length_mergeK r (putK kvs p.1 p.2)
    have h2:=length_putK kvs p.1 p.2
    show (mergeK (putK kvs p.1 p.2) r).length≤_
    rw [List.length_cons]; omega
theorem carries_of {P:Program} {w:World}:∀ {kvs:List (Key × V)} {ws:List (Value × Value)},VV (kvs.map fun kv=>(kV kv.1,kv.2)) ws→∃ rs,Carries (mixKind P w) ws rs∧KV kvs rs
  | [],_,r=>by rw [List.map_nil] at r; cases r; exact ⟨[],True.intro,.nil⟩
  | p :: kvs,_,r=>by
    rw [List.map_cons] at r
    cases r with
    | @cons a b as bs h t =>
      obtain ⟨rs,c,q⟩:=carries_of (P:=P) (w:=w) t
      obtain ⟨b1,b2⟩:=b
      exact ⟨(p.1,b2) :: rs,⟨kV_is h.1,rfl,c⟩,.cons ⟨rfl,h.2⟩ q⟩
def tDisp (trs:List (TE × TE)):TE:=fun σ H Q=>∀ p,H p=none→tPairs trs σ (upd H p (.dK [])) fun ps H2=>H2 p=some (.dK [])∧∃ kvs:List (Key × V),ps=kvs.map (fun kv=>(kV kv.1,kv.2))∧kvs.length≤15∧Q (.ref p) (upd H2 p (.dK (mergeK [] kvs)))
theorem pe_disp {X:Cx} {pos:Pos} {keys:List (Option Expr)} {values:List Expr} {trs:List (TE × TE)} (h:PPs X pos keys values trs) (hall:keys.all (·.isSome)=true) (hl:keys.length=values.length) (h0:keys≠[])
    (h15:keys.length≤15):PE X (.Dict keys values pos) (tDisp trs):=by
  intro pins s σ H Q I q
  have hn:=I.hok.fresh (Nat.le_refl s.heap.objs.size)
  have I1:=I.laid (a:=s.heap.objs.size) (o:=.dK []) (h':=s.heap.push { cls:=.type "dict",data:=.dict #[] }) (t':=s.toks) (fun _ _ q=>Heap.get?_push_of_some _ q) (Nat.le_refl _) (dk_empty s.heap I.big)
  refine wpAny_Dict_walk (knd:=mixKind X.prog X.w) hall hl h0 h15 (thn (h pins _ σ _ _ I1 (q _ hn)) fun ws s2 ⟨ps,H2,I2,rel,e,kvs,ep,lk,q2⟩=>?_)
  subst ep
  obtain ⟨rs,c,rk⟩:=carries_of (P:=X.prog) (w:=X.w) rel
  obtain ⟨z,hd,vs0,r0,dd⟩:=dk_of I2.hok e
  cases r0
  refine ⟨rs,c,dd,fun h' dd' hs=>⟨.ref s.heap.objs.size,_,?_,rfl,q2⟩⟩
  have hz:(mergeK [] kvs).length≤sizeLine:=by
    have h1:=length_mergeK kvs []
    rw [List.length_nil] at h1
    rw [sizeLine_eq]; omega
  have he:∃ q,h'.get? s.heap.objs.size=some q:=let ⟨q,_,_,hq,_⟩:=dd'; ⟨q,hq⟩
  exact d_write I2 (by rw [e]; exact True.intro) hs he (dk_new hz hd (rk.merge .nil) dd')
section
variable {X:Cx} {pins:List (Addr × Obj)} {σ:St} {H:Hp} {s:Shared} {a:Addr} {y d:V} {u r:Value} {o:Option V} {A:Around} {E:Value→Shared→Prop}
end
section
variable {X:Cx} {o e f:Expr} {apos cpos:Pos} {td ty tx:TE}
end
section
variable {X:Cx} {pins:List (Addr × Obj)} {σ:St} {H:Hp} {s:Shared} {a:Addr} {kvs:List (Key × V)} {A:Around} {E:Value→Shared→Prop}
end
section
variable {X:Cx} {pins:List (Addr × Obj)} {σ:St} {H:Hp} {s:Shared} {a:Addr} {y:V} {u:Value} {A:Around} {E:Value→Shared→Prop}
end
section
variable {κ:Type} [DecidableEq κ]
end
section
variable {X:Cx}
end
end L2
namespace L2
open PySem PySem.Spec PyProof.Rows
section
variable {X:Cx}
end
end L2
namespace L2
open PySem PySem.Spec PyProof.Rows PySem.SeqAt
mutual
inductive D where
  | at (v:V)
  | tup (xs:Ds)
  | lst (xs:Ds)
inductive Ds where
  | nil
  | cons (d:D) (r:Ds)
end
mutual
def DIs (K:PySem.W.Frag) (H:Hp):D→V→Prop
  | .at u,v=>v=u∧flatV u=true
  | .tup ds,v=>∃ a xs,v=.ref a∧SqT K H a xs∧DIss K H ds xs
  | .lst ds,v=>∃ a xs,v=.ref a∧SqL K H a xs∧DIss K H ds xs
def DIss (K:PySem.W.Frag) (H:Hp):Ds→List V→Prop
  | .nil,xs=>xs=[]
  | .cons d r,xs=>∃ x ys,xs=x :: ys∧DIs K H d x∧DIss K H r ys
end
mutual
def dep:D→Nat
  | .at _=>0
  | .tup ds=>deps ds+1
  | .lst ds=>deps ds+1
def deps:Ds→Nat
  | .nil=>0
  | .cons d r=>max (dep d) (deps r)
end
mutual
def deq:D→D→Bool
  | .at u,.at v=>eqV u v
  | .tup xs,.tup ys=>deqs xs ys
  | .lst xs,.lst ys=>deqs xs ys
  | _,_=>false
def deqs:Ds→Ds→Bool
  | .nil,.nil=>true
  | .cons d r,.cons e q=>deq d e && deqs r q
  | _,_=>false
end
def Ds.len:Ds→Nat
  | .nil=>0
  | .cons _ r=>r.len+1
def Ds.get:Ds→Nat→D
  | .nil,_=>.at .non
  | .cons d _,0=>d
  | .cons _ r,i+1=>r.get i
theorem deqs_all:∀ (ds es:Ds),((List.range (min ds.len es.len)).all (fun j=>deq (ds.get j) (es.get j)) && ds.len == es.len)=deqs ds es
  | .nil,.nil=>rfl
  | .nil,.cons e q=>by simp [Ds.len,deqs]
  | .cons d r,.nil=>by simp [Ds.len,deqs]
  | .cons d r,.cons e q=>by
    have ih:=deqs_all r q
    rw [show deqs (.cons d r) (.cons e q)=(deq d e && deqs r q) from by rw [deqs],← ih]
    show ((List.range (min (r.len+1) (q.len+1))).all _ && (r.len+1 == q.len+1))=_
    rw [show min (r.len+1) (q.len+1)=min r.len q.len+1 by omega,List.range_succ_eq_map,List.all_cons,List.all_map,Bool.and_assoc]
    congr 1
    rw [show (r.len+1 == q.len+1)=(r.len == q.len) by simp]
    rfl
mutual
theorem deq_refl:∀ {K:PySem.W.Frag} {H:Hp} (d:D) {v:V},DIs K H d v→deq d d=true
  | _,_,.at u,v,h=>by
    obtain ⟨_,hf⟩:=(show v=u∧flatV u=true by simpa [DIs] using h)
    rw [deq]
    cases u <;> simp_all [flatV,eqV]
  | _,_,.tup ds,v,h=>by
    rw [DIs] at h
    obtain ⟨a,xs,_,_,q⟩:=h
    rw [deq]; exact deqs_refl ds q
  | _,_,.lst ds,v,h=>by
    rw [DIs] at h
    obtain ⟨a,xs,_,_,q⟩:=h
    rw [deq]; exact deqs_refl ds q
theorem deqs_refl:∀ {K:PySem.W.Frag} {H:Hp} (ds:Ds) {xs:List V},DIss K H ds xs→deqs ds ds=true
  | _,_,.nil,_,_=>by rw [deqs]
  | _,_,.cons d r,xs,h=>by
    rw [DIss] at h
    obtain ⟨x,ys,_,h1,h2⟩:=h
    rw [deqs,deq_refl d h1,deqs_refl r h2]; rfl
end
theorem DIss.len {K:PySem.W.Frag} {H:Hp}:∀ {ds:Ds} {xs:List V},DIss K H ds xs→ds.len=xs.length
  | .nil,xs,h=>by rw [DIss] at h; rw [h]; rfl
  | .cons d r,xs,h=>by
    rw [DIss] at h
    obtain ⟨x,ys,rfl,_,h2⟩:=h
    show r.len+1=ys.length+1
    rw [DIss.len h2]
theorem DIss.get {K:PySem.W.Frag} {H:Hp}:∀ {ds:Ds} {xs:List V} {i:Nat} {x:V},DIss K H ds xs→xs[i]?=some x→DIs K H (ds.get i) x
  | .nil,xs,i,x,h,e=>by rw [DIss] at h; rw [h] at e; simp at e
  | .cons d r,xs,i,x,h,e=>by
    rw [DIss] at h
    obtain ⟨y,ys,rfl,h1,h2⟩:=h
    cases i with
    | zero=>simp at e; subst e; exact h1
    | succ i =>
      show DIs K H (r.get i) x
      exact DIss.get h2 (by simpa using e)
theorem dep_get:∀ (ds:Ds) (i:Nat),i < ds.len→dep (ds.get i)≤deps ds
  | .nil,i,h=>absurd h (by simp [Ds.len])
  | .cons d r,0,_=>by show dep d≤_; rw [deps]; omega
  | .cons d r,i+1,h=>by
    have:=dep_get r i (by simpa [Ds.len] using h)
    show dep (r.get i)≤_
    rw [deps]; omega
section
variable {X:Cx} {pins:List (Addr × Obj)} {σ:St} {H:Hp} {s:Shared}
mutual
theorem DIs.inj (I:Inv X pins σ H s):∀ {d e:D} {v:V},DIs X.K H d v→DIs X.K H e v→d=e
  | .at u,.at w',v,h,h'=>by
    rw [DIs] at h
    rw [DIs] at h'
    rw [← h.1,← h'.1]
  | .at u,.tup ds,v,h,h'=>by
    rw [DIs] at h
    rw [DIs] at h'
    obtain ⟨a,xs,e,_⟩:=h'
    have:=h.2
    rw [← h.1,e] at this
    cases this
  | .at u,.lst ds,v,h,h'=>by
    rw [DIs] at h
    rw [DIs] at h'
    obtain ⟨a,xs,e,_⟩:=h'
    have:=h.2
    rw [← h.1,e] at this
    cases this
  | .tup ds,.at u,v,h',h=>by
    rw [DIs] at h
    rw [DIs] at h'
    obtain ⟨a,xs,e,_⟩:=h'
    have:=h.2
    rw [← h.1,e] at this
    cases this
  | .lst ds,.at u,v,h',h=>by
    rw [DIs] at h
    rw [DIs] at h'
    obtain ⟨a,xs,e,_⟩:=h'
    have:=h.2
    rw [← h.1,e] at this
    cases this
  | .tup ds,.tup es,v,h,h'=>by
    rw [DIs] at h
    rw [DIs] at h'
    obtain ⟨a,xs,rfl,h1,h2⟩:=h
    obtain ⟨b,ys,e,k1,k2⟩:=h'
    cases e
    have e:=I.tuple_inj h1 k1
    subst e
    rw [DIss.inj I h2 k2]
  | .lst ds,.lst es,v,h,h'=>by
    rw [DIs] at h
    rw [DIs] at h'
    obtain ⟨a,xs,rfl,h1,h2⟩:=h
    obtain ⟨b,ys,e,k1,k2⟩:=h'
    cases e
    have e:=I.list_inj h1 k1
    subst e
    rw [DIss.inj I h2 k2]
  | .tup ds,.lst es,v,h,h'=>by
    rw [DIs] at h
    rw [DIs] at h'
    obtain ⟨a,xs,rfl,h1,h2⟩:=h
    obtain ⟨b,ys,e,k1,k2⟩:=h'
    cases e
    obtain ⟨_,_,t1,_⟩:=I.tuple h1
    obtain ⟨_,_,t2,_⟩:=I.list k1
    exact absurd rfl (ne_of_list_tuple t2.isList (show s.heap.IsTuple a _ from t1))
  | .lst ds,.tup es,v,h,h'=>by
    rw [DIs] at h
    rw [DIs] at h'
    obtain ⟨a,xs,rfl,h1,h2⟩:=h
    obtain ⟨b,ys,e,k1,k2⟩:=h'
    cases e
    obtain ⟨_,_,t1,_⟩:=I.tuple k1
    obtain ⟨_,_,t2,_⟩:=I.list h1
    exact absurd rfl (ne_of_list_tuple t2.isList (show s.heap.IsTuple a _ from t1))
theorem DIss.inj (I:Inv X pins σ H s):∀ {ds es:Ds} {xs:List V},DIss X.K H ds xs→DIss X.K H es xs→ds=es
  | .nil,.nil,xs,h,h'=>rfl
  | .nil,.cons d r,xs,h,h'=>by
    rw [DIss] at h
    rw [DIss] at h'
    obtain ⟨x,ys,e,_⟩:=h'
    rw [h] at e; cases e
  | .cons d r,.nil,xs,h',h=>by
    rw [DIss] at h
    rw [DIss] at h'
    obtain ⟨x,ys,e,_⟩:=h'
    rw [h] at e; cases e
  | .cons d r,.cons e q,xs,h,h'=>by
    rw [DIss] at h
    rw [DIss] at h'
    obtain ⟨x,ys,rfl,h1,h2⟩:=h
    obtain ⟨y,zs,e',k1,k2⟩:=h'
    cases e'
    rw [DIs.inj I h1 k1,DIss.inj I h2 k2]
end
theorem flat_tup {A:Around} {u:V} {x:Value} {l:Addr} {items:Array Value} (r:RelV u x) (f:flatV u=true) (hl:s.heap.IsTuple l items) (hu:A.units < cLine):EqAt A s x (.ref l) false∧EqAt A s (.ref l) x false:=by
  cases u with
  | non=>cases r; exact ⟨.none_tuple hl hu,.tuple_none hl hu⟩
  | bl b=>cases r; exact ⟨.bool_tuple b hl hu,.tuple_bool b hl hu⟩
  | int b=>obtain ⟨t,rfl⟩:=r; exact ⟨.int_tuple b t hl hu,.tuple_int b t hl hu⟩
  | str b=>obtain ⟨t,rfl⟩:=r; exact ⟨.str_tuple b t hl hu,.tuple_str b t hl hu⟩
  | _=>exact absurd (show false=true from f) Bool.false_ne_true
theorem flat_lst {A:Around} {u:V} {x:Value} {l:Addr} {items:Array Value} (r:RelV u x) (f:flatV u=true) (hl:s.heap.IsList l items) (hu:A.units < cLine):EqAt A s x (.ref l) false∧EqAt A s (.ref l) x false:=by
  cases u with
  | non=>cases r; exact ⟨.none_list hl hu,.list_none hl hu⟩
  | bl b=>cases r; exact ⟨.bool_list b hl hu,.list_bool b hl hu⟩
  | int b=>obtain ⟨t,rfl⟩:=r; exact ⟨.int_list b t hl hu,.list_int b t hl hu⟩
  | str b=>obtain ⟨t,rfl⟩:=r; exact ⟨.str_list b t hl hu,.list_str b t hl hu⟩
  | _=>exact absurd (show false=true from f) Bool.false_ne_true
theorem eqAt_D (I:Inv X pins σ H s):∀ (n:Nat) (A:Around) (d e:D) (x y:V) (u v:Value),dep d≤n→DIs X.K H d x→DIs X.K H e y→RelV x u→RelV y v→A.units+n < cLine→EqAt A s u v (deq d e):=by
  intro n
  induction n with
  | zero =>
    intro A d e x y u v hn hd he rx ry hu
    cases d with
    | tup ds=>rw [dep] at hn; omega
    | lst ds=>rw [dep] at hn; omega
    | «at» p =>
      rw [DIs] at hd
      obtain ⟨rfl,hf⟩:=hd
      cases e with
      | «at» q =>
        rw [DIs] at he
        obtain ⟨rfl,hg⟩:=he
        rw [deq]; exact eqAt_V rx ry hf hg
      | tup es =>
        rw [DIs] at he
        obtain ⟨b,ys,rfl,h1,_⟩:=he
        obtain ⟨_,_,t,_⟩:=I.tuple h1
        cases ry
        rw [deq]
        · exact (flat_tup rx hf (show s.heap.IsTuple b _ from t) hu).1
        all_goals (intros; simp_all)
      | lst es =>
        rw [DIs] at he
        obtain ⟨b,ys,rfl,h1,_⟩:=he
        obtain ⟨_,_,t,_⟩:=I.list h1
        cases ry
        rw [deq]
        · exact (flat_lst rx hf t.isList hu).1
        all_goals (intros; simp_all)
  | succ n ih =>
    intro A d e x y u v hn hd he rx ry hu
    have hu1:A.in1.units+n < cLine:=by show A.units+1+n < cLine; omega
    cases d with
    | «at» p =>
      rw [DIs] at hd
      obtain ⟨rfl,hf⟩:=hd
      cases e with
      | «at» q =>
        rw [DIs] at he
        obtain ⟨rfl,hg⟩:=he
        rw [deq]; exact eqAt_V rx ry hf hg
      | tup es =>
        rw [DIs] at he
        obtain ⟨b,ys,rfl,h1,_⟩:=he
        obtain ⟨_,_,t,_⟩:=I.tuple h1
        cases ry
        rw [deq]
        · exact (flat_tup rx hf (show s.heap.IsTuple b _ from t) (by omega)).1
        all_goals (intros; simp_all)
      | lst es =>
        rw [DIs] at he
        obtain ⟨b,ys,rfl,h1,_⟩:=he
        obtain ⟨_,_,t,_⟩:=I.list h1
        cases ry
        rw [deq]
        · exact (flat_lst rx hf t.isList (by omega)).1
        all_goals (intros; simp_all)
    | tup ds =>
      have hd0:=hd
      rw [dep] at hn
      rw [DIs] at hd
      obtain ⟨a,xs,rfl,h1,h2⟩:=hd
      obtain ⟨i1,r1,t1,_⟩:=I.tuple h1
      cases rx
      cases e with
      | «at» q =>
        rw [DIs] at he
        obtain ⟨rfl,hg⟩:=he
        rw [deq]
        · exact (flat_tup ry hg (show s.heap.IsTuple a _ from t1) (by omega)).2
        all_goals (intros; simp_all)
      | lst es =>
        rw [DIs] at he
        obtain ⟨b,ys,rfl,k1,_⟩:=he
        obtain ⟨_,_,t2,_⟩:=I.list k1
        cases ry
        rw [deq]
        · exact EqAt.tuple_list (show s.heap.IsTuple a _ from t1) t2.isList (by omega)
        all_goals (intros; simp_all)
      | tup es =>
        have he0:=he
        rw [DIs] at he
        obtain ⟨b,ys,rfl,k1,k2⟩:=he
        obtain ⟨i2,r2,t2,_⟩:=I.tuple k1
        cases ry
        by_cases hab:a=b
        · subst hab
          rw [DIs.inj I he0 hd0,deq_refl _ hd0]
          exact EqAt.same _
        · refine EqAt.of_refs hab ?_
          have:=RcAt.tuples (A:=A) (e:=fun j=>deq (ds.get j) (es.get j)) (show s.heap.IsTuple a i1.toArray from t1) (show s.heap.IsTuple b i2.toArray from t2) (by omega) fun j g1 g2=>?_
          · have l1:=r1.length
            have l2:=r2.length
            have m1:=h2.len
            have m2:=k2.len
            rw [List.size_toArray,List.size_toArray,← l1,← l2,← m1,← m2,deqs_all] at this
            rw [deq]; exact this
          · have l1:=r1.length
            have l2:=r2.length
            have m1:=h2.len
            have g1':j < xs.length:=by simp at g1; omega
            have g2':j < ys.length:=by simp at g2; omega
            obtain ⟨u1,e1,q1⟩:=r1.get (List.getElem?_eq_getElem g1')
            obtain ⟨u2,e2,q2⟩:=r2.get (List.getElem?_eq_getElem g2')
            have d1:i1.toArray[j]=u1:=by
              have:i1[j]?=some i1.toArray[j]:=by simp
              rw [e1] at this; exact (Option.some.inj this).symm
            have d2:i2.toArray[j]=u2:=by
              have:i2[j]?=some i2.toArray[j]:=by simp
              rw [e2] at this; exact (Option.some.inj this).symm
            rw [d1,d2]
            exact ih _ _ _ _ _ _ _ (Nat.le_trans (dep_get ds j (by omega)) (by omega)) (h2.get (List.getElem?_eq_getElem g1')) (k2.get (List.getElem?_eq_getElem g2')) q1 q2 hu1
    | lst ds =>
      have hd0:=hd
      rw [dep] at hn
      rw [DIs] at hd
      obtain ⟨a,xs,rfl,h1,h2⟩:=hd
      obtain ⟨i1,r1,t1,_⟩:=I.list h1
      cases rx
      cases e with
      | «at» q =>
        rw [DIs] at he
        obtain ⟨rfl,hg⟩:=he
        rw [deq]
        · exact (flat_lst ry hg t1.isList (by omega)).2
        all_goals (intros; simp_all)
      | tup es =>
        rw [DIs] at he
        obtain ⟨b,ys,rfl,k1,_⟩:=he
        obtain ⟨_,_,t2,_⟩:=I.tuple k1
        cases ry
        rw [deq]
        · exact EqAt.list_tuple t1.isList (show s.heap.IsTuple b _ from t2) (by omega)
        all_goals (intros; simp_all)
      | lst es =>
        have he0:=he
        rw [DIs] at he
        obtain ⟨b,ys,rfl,k1,k2⟩:=he
        obtain ⟨i2,r2,t2,_⟩:=I.list k1
        cases ry
        by_cases hab:a=b
        · subst hab
          rw [DIs.inj I he0 hd0,deq_refl _ hd0]
          exact EqAt.same _
        · refine EqAt.of_refs hab ?_
          have l1:=r1.length
          have l2:=r2.length
          have m1:=h2.len
          have m2:=k2.len
          rw [deq]
          rw [← deqs_all]
          by_cases hz:ds.len=es.len
          · have:=RcAt.lists (A:=A) (e:=fun j=>deq (ds.get j) (es.get j)) t1.isList t2.isList (by simp; omega) (by omega) fun j g1 g2=>?_
            · rw [List.size_toArray,← l1,← m1] at this
              rw [hz,Nat.min_self,beq_self_eq_true,Bool.and_true,← hz]
              exact this
            · have g1':j < xs.length:=by simp at g1; omega
              have g2':j < ys.length:=by simp at g2; omega
              obtain ⟨u1,e1,q1⟩:=r1.get (List.getElem?_eq_getElem g1')
              obtain ⟨u2,e2,q2⟩:=r2.get (List.getElem?_eq_getElem g2')
              have d1:i1.toArray[j]=u1:=by
                have:i1[j]?=some i1.toArray[j]:=by simp
                rw [e1] at this; exact (Option.some.inj this).symm
              have d2:i2.toArray[j]=u2:=by
                have:i2[j]?=some i2.toArray[j]:=by simp
                rw [e2] at this; exact (Option.some.inj this).symm
              rw [d1,d2]
              exact ih _ _ _ _ _ _ _ (Nat.le_trans (dep_get ds j (by omega)) (by omega)) (h2.get (List.getElem?_eq_getElem g1')) (k2.get (List.getElem?_eq_getElem g2')) q1 q2 hu1
          · have e0:(ds.len == es.len)=false:=by simpa using hz
            rw [e0,Bool.and_false]
            exact RcAt.lists_lengths t1.isList t2.isList (by simp; omega) (by omega)
end
section
variable {X:Cx}
theorem eqItems {pins:List (Addr × Obj)} {σ:St} {H:Hp} {s:Shared} (I:Inv X pins σ H s) {A:Around} {ds es:Ds} {xs ys:List V} {i1 i2:List Value} (h2:DIss X.K H ds xs) (k2:DIss X.K H es ys) (r1:Vals xs i1) (r2:Vals ys i2)
    (hu:A.units+60 < cLine) (hd:deps ds≤50):∀ j (g1:j < i1.toArray.size) (g2:j < i2.toArray.size),EqAt A.in1 s i1.toArray[j] i2.toArray[j] (deq (ds.get j) (es.get j)):=fun j g1 g2=>by
  have l1:=r1.length
  have l2:=r2.length
  have m1:=h2.len
  have g1':j < xs.length:=by simp at g1; omega
  have g2':j < ys.length:=by simp at g2; omega
  obtain ⟨u1,e1,q1⟩:=r1.get (List.getElem?_eq_getElem g1')
  obtain ⟨u2,e2,q2⟩:=r2.get (List.getElem?_eq_getElem g2')
  have d1:i1.toArray[j]=u1:=by
    have:i1[j]?=some i1.toArray[j]:=by simp
    rw [e1] at this; exact (Option.some.inj this).symm
  have d2:i2.toArray[j]=u2:=by
    have:i2[j]?=some i2.toArray[j]:=by simp
    rw [e2] at this; exact (Option.some.inj this).symm
  rw [d1,d2]
  exact eqAt_D I 50 _ _ _ _ _ _ _ (Nat.le_trans (dep_get ds j (by omega)) hd) (h2.get (List.getElem?_eq_getElem g1')) (k2.get (List.getElem?_eq_getElem g2')) q1 q2 (by show A.units+1+50 < cLine; omega)
def rEqD (K:PySem.W.Frag) (neg:Bool):R2:=fun x y H Q=>∃ d e,DIs K H d x∧DIs K H e y∧(∃ a,x=.ref a)∧(∃ b,y=.ref b)∧dep d≤50∧Q (.bl (if neg then !deq d e else deq d e)) H
theorem op_eqD {k:Nat} (hr:Room k X.A):OpR X (compareOp .Eq) (rEqD X.K false):=by
  intro pins s σ H x y v u Q I rx ry h
  obtain ⟨d,e,hd,he,⟨a,rfl⟩,⟨b,rfl⟩,hn,q⟩:=h
  cases rx
  cases ry
  have hu:=hr.units
  cases d with
  | «at» p=>rw [DIs] at hd; obtain ⟨rfl,hf⟩:=hd; cases hf
  | tup ds =>
    rw [dep] at hn
    rw [DIs] at hd
    obtain ⟨a',xs,e',h1,h2⟩:=hd
    cases e'
    obtain ⟨i1,r1,t1,_⟩:=I.tuple h1
    cases e with
    | «at» p=>rw [DIs] at he; obtain ⟨rfl,hf⟩:=he; cases hf
    | tup es =>
      rw [DIs] at he
      obtain ⟨b',ys,e',k1,k2⟩:=he
      cases e'
      obtain ⟨i2,r2,t2,_⟩:=I.tuple k1
      refine RcAt.tuples (show s.heap.IsTuple a i1.toArray from t1) (show s.heap.IsTuple b i2.toArray from t2) (by omega) (eqItems I h2 k2 r1 r2 (by omega) (by omega)) _ _ _ _ ⟨.bl _,H,I,?_,q⟩
      show Value.bool _=Value.bool _
      rw [List.size_toArray,List.size_toArray,← r1.length,← r2.length,← h2.len,← k2.len,deqs_all]
      simp only [Bool.false_eq_true,if_false]
      rw [deq]
    | lst es =>
      rw [DIs] at he
      obtain ⟨b',ys,e',k1,k2⟩:=he
      cases e'
      obtain ⟨i2,r2,t2,_⟩:=I.list k1
      refine RcAt.tuple_list (show s.heap.IsTuple a _ from t1) t2.isList (by omega) _ _ _ _ ⟨.bl _,H,I,?_,q⟩
      show Value.bool _=Value.bool _
      simp only [Bool.false_eq_true,if_false]
      rw [deq] <;> (intros; simp_all)
  | lst ds =>
    rw [dep] at hn
    rw [DIs] at hd
    obtain ⟨a',xs,e',h1,h2⟩:=hd
    cases e'
    obtain ⟨i1,r1,t1,_⟩:=I.list h1
    cases e with
    | «at» p=>rw [DIs] at he; obtain ⟨rfl,hf⟩:=he; cases hf
    | tup es =>
      rw [DIs] at he
      obtain ⟨b',ys,e',k1,k2⟩:=he
      cases e'
      obtain ⟨i2,r2,t2,_⟩:=I.tuple k1
      refine RcAt.list_tuple t1.isList (show s.heap.IsTuple b _ from t2) (by omega) _ _ _ _ ⟨.bl _,H,I,?_,q⟩
      show Value.bool _=Value.bool _
      simp only [Bool.false_eq_true,if_false]
      rw [deq] <;> (intros; simp_all)
    | lst es =>
      rw [DIs] at he
      obtain ⟨b',ys,e',k1,k2⟩:=he
      cases e'
      obtain ⟨i2,r2,t2,_⟩:=I.list k1
      have l1:=r1.length
      have l2:=r2.length
      have m1:=h2.len
      have m2:=k2.len
      by_cases hz:ds.len=es.len
      · refine RcAt.lists t1.isList t2.isList (by simp; omega) (by omega) (eqItems I h2 k2 r1 r2 (by omega) (by omega)) _ _ _ _ ⟨.bl _,H,I,?_,q⟩
        show Value.bool _=Value.bool _
        simp only [Bool.false_eq_true,if_false]
        rw [deq,← deqs_all,List.size_toArray,← l1,← m1,hz,Nat.min_self,beq_self_eq_true,Bool.and_true]
      · refine RcAt.lists_lengths t1.isList t2.isList (by simp; omega) (by omega) _ _ _ _ ⟨.bl _,H,I,?_,q⟩
        show Value.bool _=Value.bool _
        have e0:(ds.len == es.len)=false:=by simpa using hz
        simp only [Bool.false_eq_true,if_false]
        rw [deq,← deqs_all,e0,Bool.and_false]
end
end L2
namespace L2
open PySem PySem.Spec PyProof.Rows
section
variable {X:Cx} {e st:Expr} {te ts:TE} {pos p2:Pos}
def tRev (K:PySem.W.Frag) (te ts:TE):TE:=fun σ H Q=>te σ H fun x H1=>ts σ H1 fun y H2=>∃ a xs,x=.ref a∧y=.int (-1)∧SqL K H2 a xs∧∀ p,H2 p=none→Q (.ref p) (upd H2 p (.lst xs.reverse))
theorem pe_rev (he:PE X e te) (hs:PE X st ts):PE X (.Subscript e (.Slice none none (some st) p2) pos) (tRev X.K te ts):=by
  intro pins s σ H Q I h
  refine Subscript_ (thn (he pins s σ H _ I h) fun v s1 ⟨x,H1,I1,r1,q1⟩=>?_)
  refine wpAny_Slice ?_
  rw [evalPart_none]
  refine wpAny_pure ?_
  refine wpAny_pure ?_
  rw [evalPart_some]
  refine thn (hs pins s1 σ H1 _ I1 q1) fun u s2 ⟨y,H2,I2,r2,q2⟩=>?_
  obtain ⟨a,xs,rfl,rfl,hx,q⟩:=q2
  obtain ⟨t,rfl⟩:=r2
  cases r1
  have I4:Inv X pins σ H2 { s2 with heap:=s2.heap.push { cls:=.type "slice",data:=.fields #[.none,.none,.int (-1) t] } }:=I2.kept (t':=s2.toks) fun b ob q=>Heap.get?_push_of_some _ q
  obtain ⟨its,r,ht,hz⟩:=I4.list hx
  have hlen:=r.length
  refine tail_any (ops:=[.ref a,.ref s2.heap.objs.size]) (id:="list.__getitem__") ht.isList.typeIs slot_list_getitem.lookup ?_ (by with_unfolding_all rfl)
  refine wpAny_getItem_list_slice ht.isList (Heap.IsSliceOf.new ..) .none .none (.int (-1) t) (by simp) ?_ (by rw [List.size_toArray] <;> omega)
  rw [PySem.W.krv_pick]
  show EP X pins σ Q (.ref _) _
  refine ⟨.ref _,_,I4.laid (t':=s2.toks) (o:=.lst xs.reverse) (fun b ob q=>Heap.get?_push_of_some _ q) (Nat.le_refl _) ?_,rfl,q _ (I4.hok.fresh (Nat.le_refl _))⟩
  exact ⟨by rw [List.length_reverse]; exact hz,_,0,r.reverse,Heap.get?_push_size _ rfl⟩
end
end L2
namespace L2
open PySem PySem.Spec PyProof.Rows
structure MkOk (P:Program) (w:World) (K:PySem.W.Frag) (mg:Str→Option Value) (base:Heap) (k:Nat) (x:Str) (C:Addr) (ps:List Str) (sp:Sp):Prop where
  ex:∃ (f:Addr) (fd:FuncData),Mk K C f∧FnOk P w K mg base CX0 k f fd ps sp∧mg x=some (.ref C)∧Binds K fd ps []
structure MdOk (P:Program) (w:World) (K:PySem.W.Frag) (mg:Str→Option Value) (base:Heap) (k:Nat) (C:Addr) (m:Str) (ps:List Str) (sp:Sp):Prop where
  cl:Cls K C
  ex:∃ (f:Addr) (fd:FuncData),Meth K C m f∧FnOk P w K mg base CX0 k f fd ps sp∧Binds K fd ps []
section
variable {X:Cx} {k j:Nat} {x m:Str} {C:Addr} {ps:List Str} {sp:Sp} {p pos apos:Pos} {e o:Expr} {es:List Expr} {t:TA} {ta:TE}
theorem pe_mk (D:MkOk X.prog X.w X.K X.mg X.base k x C ps sp) (hr:Room j X.A) (ha:PA X (e :: es) t) (hj:k+1≤j:=by decide) (hg:Gl X x:=by rfl) (hdb:(x == ("__debug__":Str))=false:=by decide)
    (he:starEach (e :: es) X.env=(false,eval e X.env) :: starEach es X.env:=by rfl) (hpl:(backTo pos (starEach es X.env)).any (·.1)=false:=by rfl):PE X (.Call (.Name x p) (e :: es) [] pos) (tMake C sp [] E0 t):=by
  obtain ⟨f,fd,M,F,hm,hb⟩:=D.ex
  exact pe_make M F (hr.mono hj) hg hm hb .nil pass0 ha hdb he hpl
end
section
variable {X:Cx} {K:PySem.W.Frag} {pos:Pos}
theorem pg_tupK {es:List Expr} {k:Nat} {t:TGs} {n:Nat} (hc:X.calm=true) (h:PGs X es t) (hK:X.K=K:=by rfl)
    (hn:(assignEach es X.env).length=n:=by rfl) (hst:(assignEach es X.env).findIdx? (·.1)=none:=by rfl):PG X (.Tuple es k pos) (gTup K n t):=by
  subst hK; exact pg_tup hc h hn hst
end
end L2
namespace GB
open PySem L2
structure Rc where
  t:Int
  l:Int
  b:Int
  r:Int
  deriving DecidableEq
def Rc.ls (p:Rc):List Int:=[p.t,p.l,p.b,p.r]
def Rc.has (p:Rc) (r c:Int):Prop:=p.t≤r∧r < p.b∧p.l≤c∧c < p.r
def Rc.In (w h:Int) (p:Rc):Prop:=0≤p.t∧p.t < p.b∧p.b≤h∧0≤p.l∧p.l < p.r∧p.r≤w
def Apart (p q:Rc):Prop:=∀ r c,p.has r c→q.has r c→False
structure Tiles (w h:Int) (ps:List Rc):Prop where
  ins:∀ p∈ps,p.In w h
  dis:ps.Pairwise Apart
  cov:∀ r c,0≤r→r < h→0≤c→c < w→∃ p∈ps,p.has r c
def key:List Int→Int
  | [a,b,c,d]=>((a * 13+b) * 13+c) * 13+d
  | _=>0
theorem key_ls (p:Rc):key p.ls=((p.t * 13+p.l) * 13+p.b) * 13+p.r:=rfl
theorem key_lt {p q:Rc} {w h w' h':Int} (hp:p.In w h) (hq:q.In w' h') (b1:w≤12) (b2:h≤12) (b3:w'≤12) (b4:h'≤12):HT.lexLt p.ls q.ls=decide (key p.ls < key q.ls):=by
  obtain ⟨a1,a2,a3,a4,a5,a6⟩:=hp
  obtain ⟨c1,c2,c3,c4,c5,c6⟩:=hq
  rw [key_ls,key_ls]
  show (if p.t=q.t then (if p.l=q.l then (if p.b=q.b then (if p.r=q.r then false else decide (p.r < q.r)) else decide (p.b < q.b)) else decide (p.l < q.l)) else decide (p.t < q.t))=_
  repeat' split
  all_goals (first | (apply Eq.symm; rw [decide_eq_false_iff_not]; omega) | (rw [decide_eq_decide]; omega))
theorem key_inj {p q:Rc} {w h w' h':Int} (hp:p.In w h) (hq:q.In w' h') (b1:w≤12) (b2:h≤12) (b3:w'≤12) (b4:h'≤12) (e:key p.ls=key q.ls):p=q:=by
  obtain ⟨a1,a2,a3,a4,a5,a6⟩:=hp
  obtain ⟨c1,c2,c3,c4,c5,c6⟩:=hq
  rw [key_ls,key_ls] at e
  obtain ⟨pt,pl,pb,pr⟩:=p
  obtain ⟨qt,ql,qb,qr⟩:=q
  simp only at *
  have e1:pt=qt:=by omega
  subst e1
  have e2:pl=ql:=by omega
  subst e2
  have e3:pb=qb:=by omega
  subst e3
  have e4:pr=qr:=by omega
  subst e4
  rfl
def Srt (ps:List Rc):Prop:=(ps.map fun p=>key p.ls).Pairwise (·≤·)
theorem sorted_same {ps qs:List Rc} {w h:Int} (hp:∀ p∈ps,p.In w h) (b1:w≤12) (b2:h≤12) (e:ps.Perm qs) (s1:Srt ps) (s2:Srt qs):ps=qs:=by
  have hq:∀ p∈qs,p.In w h:=fun p x=>hp p (e.mem_iff.mpr x)
  have hm:=PySem.W.ksm_same (List.Perm.map (fun p:Rc=>key p.ls) e) s1 s2
  have len:=e.length_eq
  apply List.ext_getElem len
  intro i h1 h2
  have:=congrArg (fun l=>l[i]?) hm
  simp only [List.getElem?_map,List.getElem?_eq_getElem h1,List.getElem?_eq_getElem h2,Option.map_some,Option.some.injEq] at this
  exact key_inj (hp _ (List.getElem_mem h1)) (hq _ (List.getElem_mem h2)) b1 b2 b1 b2 this
end GB
namespace L2
open PySem PySem.Spec PyProof.Rows
section
variable {prog:Program} {w:World} {A:Around} {E:Value→Shared→Prop} {h:Heap} {g:Array GenState} {d:Drawn} {t:Nat} {os:OsState}
  {nm qn:Str} {C N:Addr} {bs bm bmB:List Value} {hdct:Bool} {sn:List Str} {sub:List Value} {ab:Bool} {col:Option Bool} {dd:Option Addr} {k0 k1 k2 k3 k5:Option Value} {B newId initId:String}
end
end L2
namespace L2
open PySem PySem.Spec PyProof.Rows PySem.W PySem.Builtin PySem.Builtin.ObjectAttr
def vErr:List Value:=[.type "ValueError",.type "Exception",.type "BaseException",.type "object"]
def excMro:List Value→Bool
  | []=>false
  | x :: r=>(match x with | .ref _=>excMro r | _=>false) || (x :: r == vErr)
def excIn (K:Frag) (C:Addr):Bool:=(clsIn K C).any fun cd=>excMro cd.mro
section
variable {prog:Program} {w:World} {A:Around} {E:Value→Shared→Prop} {R:Result→Shared→Prop} {s:Shared} {K:Frag} {x C:Addr} {ox:Obj} {od:Option Obj} {name:Str} {tk:Tok} {v:Value}
end
end L2
namespace L2
open PySem PySem.Spec PyProof.Rows PySem.W PySem.Builtin PySem.Builtin.ObjectAttr
section
variable {prog:Program} {w:World} {A:Around} {E:Value→Shared→Prop} {R:Result→Shared→Prop} {s:Shared} {K:Frag} {x C:Addr} {ox:Obj} {od:Option Obj} {name:Str} {tk:Tok} {v:Value} {expr:Bool}
end
end L2
namespace L2
open PySem PySem.Spec PyProof.Rows PySem.W
section
variable {P:Program} {w:World} {H:Hp} {h:Heap} {x C dx:Addr} {fs:List (Str × V)}
end
section
variable {X:Cx} {pins:List (Addr × Obj)} {σ:St} {H:Hp} {s:Shared} {a C dx:Addr} {fs:List (Str × V)} {f:Str} {v:V} {A:Around} {E:Value→Shared→Prop}
end
section
variable {X:Cx}
end
section
variable {X:Cx} {o e value:Expr} {f:Str} {pos pos':Pos} {ta tv:TE}
end
end L2
namespace L2
open PySem PySem.Spec PyProof.Rows PySem.W
section
variable {X:Cx} {CX:CXT} {k j:Nat} {f C:Addr} {fd:FuncData} {ps names:List Str} {sp:Sp} {E:XK} {x m:Str} {p pos apos:Pos} {e o:Expr} {es:List Expr} {ta:TE} {t:TA}
end
end L2
namespace L2
open PySem PySem.Spec PyProof.Rows PySem.W
section
variable {M:Model} {A:Around} {E:Value→Shared→Prop} {s:Shared} {base:Heap} {env:Env} {outer:List Env} {L e:Addr} {cls:Value} {d:Option Addr} {vs:Array Value} {sl:Array (Option Value)} {Q:Unit→Shared→Prop}
end
end L2
namespace L2
open PySem PySem.Spec PyProof.Rows PySem.W
section
variable {prog:Program} {w:World} {A:Around} {E:Value→Shared→Prop} {s:Shared} {K:Frag} {C fI e:Addr} {d:Option Addr} {env:Env}
end
end L2
namespace L2
open PySem PySem.Spec PyProof.Rows PySem.W
section
variable {X:Cx} {pins:List (Addr × Obj)} {σ:St} {H:Hp} {s:Shared} {x C T:Addr} {d:Option Addr} {h1 h2:Heap} {fl:Value} {tt:List Addr}
end
end L2
namespace L2
open PySem PySem.Spec PyProof.Rows PySem.W
section
variable {P:Program} {w:World} {K:PySem.W.Frag} {mg:Str→Option Value} {base:Heap} {N:List Str} {qual:Str} {scope:Scope} {f:Addr} {cd:Value} {A:Around} {outer:List Env} {s:Shared} {H:Hp} {E E₁:XK}
end
section
variable {X:Cx} {E E₁:XK}
end
section
variable {X:Cx} {k j:Nat} {x:Str} {C:Addr} {ps names:List Str} {sp:Sp} {p pos cpos:Pos} {e:Expr} {es:List Expr} {t:TA} {E E₁:XK}
end
end L2
namespace L2
open PySem PySem.Spec PyProof.Rows PySem.W
section
variable {X:Cx} {pins:List (Addr × Obj)} {σ:St} {H:Hp} {s:Shared}
end
end L2
namespace L2
open PySem PySem.Spec PyProof.Rows PySem.W
section
variable {X:Cx} {k j:Nat} {x:Str} {C:Addr} {ps:List Str} {sp:Sp} {p pos:Pos} {e:Expr} {es:List Expr} {t:TA} {E:XK}
end
section
variable {X:Cx} {i im:Nat} {n m g:Str} {G:Addr} {value:Expr} {b₀:Stmt} {suite:List Stmt} {np apos gp hpos pos:Pos} {te:XK→TE} {ts:TS}
end
end L2
namespace L2
open PySem PySem.Spec PyProof.Rows
def tCompF (wi:TI) (g:TG) (tc:TT) (te:TE) (fr:List (Option Nat)):TE:=fun σ H Q=>wi σ H fun J H1=>∀ acc,H1 acc=none→∃ W:Nat→Nat→St→Hp→Prop,(∃ m,W 0 m (stC fr σ) (upd H1 acc (.lst [])))∧∀ i m σ1 H2,W i m σ1 H2 →
  (J.stop i H2∧Q (.ref acc) H2)∨(J.go i H2∧∀ x H3,J.yld i H2 x H3→g x σ1 H3 fun σ4 H4=>tc σ4 H4 fun b Hb=>match b with
    | true=>te σ4 Hb fun v H5=>∃ xs,H5 acc=some (.lst xs)∧xs.length < sizeLine∧∃ m',m' < m∧W (i+1) m' σ4 (upd H5 acc (.lst (xs++[v])))
    | false=>∃ m',m' < m∧W (i+1) m' σ4 Hb)
section
variable {prog:Program} {w:World} {A:Around} {R:Result→Shared→Prop} {s:Shared}
theorem compLoop_anyF {elt target iter cnd:Expr} {scope:Scope} {pos:Pos} {it acc:Value} {env:Env} (I:Nat→Shared→Prop)
    (turn:∀ n s,I n s→wpAny (model prog w) A (pyNext it) (fun r s₁=>match r with
      | none=>R (.ok .next) s₁
      | some v=>wpAny (model prog w) A (letOwnedTupleGo target it v) (fun _ s₁=>wpAny (model prog w) A (assign target env v) (fun _ s₂ =>
          wpAny (model prog w) A (forIn [cnd] true fun c r=>if r=true then do let ok ← isTrue c env (eval c env); pure (ForInStep.yield ok) else pure (ForInStep.yield r)) (fun ok s₃ =>
            if ok=true then wpAny (model prog w) A (eval elt env) (fun x s₄=>wpAny (model prog w) A (call (.builtin "list.append") [acc,x]) (fun _ s₅=>∃ m,m < n∧I m s₅) (notedBy (model prog w) A env fun e s'=>R (.error e) s') s₄)
              (notedBy (model prog w) A env fun e s'=>R (.error e) s') s₃
            else ∃ m,m < n∧I m s₃) (notedBy (model prog w) A env fun e s'=>R (.error e) s') s₂)
          (notedBy (model prog w) A env fun e s'=>R (.error e) s') s₁) (notedBy (model prog w) A env fun e s'=>R (.error e) s') s₁) (notedBy (model prog w) A env fun e s'=>R (.error e) s') s)
    (n:Nat) (h:I n s) :
    codeAny (model prog w) A (.compLoop (.ListComp elt [⟨target,iter,[cnd],0⟩] scope pos) 0 it acc env) R s:=by
  refine codeAny_loop rfl I (fun n s hI=>?_) n h
  show wpAny _ _ ((compTurn (.ListComp elt [⟨target,iter,[cnd],0⟩] scope pos) 0 it acc env).onRaise (fun x=>do noteFrame x env; theTreesLotGoes x)) _ _ s
  refine wpAny_noted ?_
  rw [compTurn_list]
  refine wpAny_bind (wpAny_standAt (wpAny_bind (wpAny_mono (turn n s hI) (fun r s₁ h₁=>?_) fun _ _ h'=>h')))
  cases r with
  | none=>exact wpAny_pure h₁
  | some v =>
    refine wpAny_bind (wpAny_mono h₁ (fun _ s₁ h₁=>?_) fun _ _ h'=>h')
    refine wpAny_bind (wpAny_mono h₁ (fun _ s₂ h₂=>wpAny_bind (wpAny_mono h₂ (fun ok s₃ h₃=>?_) fun _ _ h'=>h')) fun _ _ h'=>h')
    cases ok with
    | false=>exact wpAny_pure ⟨rfl,h₃⟩
    | true=>exact wpAny_bind (wpAny_bind (wpAny_mono h₃ (fun x s₄ h₄=>wpAny_bind (wpAny_mono h₄ (fun _ s₅ h₅=>wpAny_pure (wpAny_pure ⟨rfl,h₅⟩)) fun _ _ h'=>h')) fun _ _ h'=>h'))
end
section
variable {X:Cx} {elt tg iter:Expr} {scope:Scope} {pos:Pos} {wi:TI} {g:TG} {te:TE} {N:List Str} {fr:List (Option Nat)}
variable {cnd:Expr} {tc:TT}
theorem comp_coreF {pins:List (Addr × Obj)} {σ:St} {H:Hp} {s:Shared} {Q:VK} {cl:List (Str × Addr)} {R:Value→Addr→Result→Shared→Prop} (hc:X.calm=true) (I:Inv X pins σ H s) (hi:PI X tg iter wi)
    (hg:∀ cl C s H ex,PG (compCx X scope cl N C s H ex) tg g) (hcn:∀ cl C s H ex,PT (compCx X scope cl N C s H ex) cnd tc) (he:∀ cl C s H ex,PE (compCx X scope cl N C s H ex) elt te) (ck:CompChk X.env.scope X.N scope N fr)
    (c1:∀ x c,cl.lookup x=some c→X.env.cells.lookup x=some c) (c2:∀ x,(x,NameKind.free)∈scope.names→∃ c,cl.lookup x=some c)
    (h:tCompF wi g tc te fr σ H Q)
    (hR:∀ acc C s' H' m,s'.heap.Ns C m→FpOk X pins H' C→Inv X pins σ H' s'→Q (.ref acc) H'→R (.ref acc) C (.ok .next) s') :
    wpAny (model X.prog X.w) X.A (eval iter X.env) (fun x s₁=>wpAny (model X.prog X.w) X.A (pyIter x) (fun it s₂=>wpAny (model X.prog X.w) X.A (newList []) (fun acc s₃ =>
      wpAny (model X.prog X.w) X.A (newFunctionEnv scope X.env.globals cl [] X.env.qual none .none (some X.env)) (fun cenv s₄ =>
        codeAny (model X.prog X.w) X.A (.compStart (.ListComp elt [⟨tg,iter,[cnd],0⟩] scope pos) 0 it acc { cenv with scope:=relabel scope X.env }) (R acc cenv.locals) s₄) X.xe s₃) X.xe s₂) X.xe s₁) X.xe s:=by
  refine thn (hi pins s σ H _ I h) fun v s1 h1=>thn h1 fun itv s2 h2=>?_
  obtain ⟨it,fp,tn,J,H2,e,I2,T,st2,f2,q2⟩:=h2
  subst e
  refine wpAny_newObj_type (wpAny_newFunctionEnv ck.nocell (by intro y hy; simp at hy) (fun h₁ hns₁ hsb₁=>?_) ck.kind)
  dsimp only at hns₁ hsb₁ ⊢
  have I3:Inv X pins σ (upd H2 s2.heap.objs.size (.lst [])) { s2 with heap:=s2.heap.push { cls:=.type "list",dict:=none,data:=.seq ([]:List Value).toArray } }:=I2.lnew (t':=s2.toks) (its:=[]) .nil (Nat.zero_le _)
  have acc0:H2 s2.heap.objs.size=none:=I2.fresh
  obtain ⟨W,⟨m0,w0⟩,turn⟩:=q2 s2.heap.objs.size acc0
  generalize hH3:s2.heap.push { cls:=.type "list",dict:=none,data:=.seq ([]:List Value).toArray }=h3 at hns₁ hsb₁ I3 ⊢
  have hz3:h3.objs.size=s2.heap.objs.size+1:=by rw [← hH3,Heap.size_push]
  have k23:∀ b o,s2.heap.get? b=some o→h3.get? b=some o:=fun b o e=>by rw [← hH3]; exact Heap.get?_push_of_some _ e
  have k34:∀ b o,h3.get? b=some o→h₁.get? b=some o:=fun b o e=>hsb₁.extBut b o (Nat.ne_of_lt (Heap.lt_size e)) (Heap.get?_push_of_some _ e)
  have fpo:∀ b∈fp,∃ o,s2.heap.get? b=some o∧∀ v,o.data≠.cell v:=T.obj 0 _ st2
  have hex:∀ b∈fp,FpOk X pins (upd H2 s2.heap.objs.size (.lst [])) b∧b < h3.objs.size:=fun b hb=>by
    obtain ⟨o,eo,_⟩:=fpo b hb
    have lt:=Heap.lt_size eo
    obtain ⟨f0,fr'⟩:=f2 b hb
    exact ⟨⟨by rw [upd_ne (Nat.ne_of_lt lt)]; exact f0,fr'⟩,by rw [hz3]; exact Nat.lt_succ_of_lt lt⟩
  have I4:Inv (compCx X scope cl N h3.objs.size { s2 with heap:=h3 } (upd H2 s2.heap.objs.size (.lst [])) fp) [] (stC fr σ) (upd H2 s2.heap.objs.size (.lst [])) { s2 with heap:=h₁,toks:=s2.toks+([]:List (Str × Value)).length } :=
    comp_entry I3 ck c1 c2 hex (Nat.le_refl _) hns₁ k34 rfl rfl
  have stat:∀ {H':Hp},(∀ b∈fp,H' b=none)→∀ b∈fp,FpOk (compCx X scope cl N h3.objs.size { s2 with heap:=h3 } (upd H2 s2.heap.objs.size (.lst [])) fp) [] H' b:=fun hn b hb =>
    ⟨hn b hb,(I4.ok.exf b hb).1,I4.ok.exfs b hb,.inl hb,(I4.ok.exf b hb).2,fun p hp=>by simp at hp⟩
  have stn:∀ i h h',tn i h→(∀ b o,h.get? b=some o→h'.get? b=some o)→tn i h':=fun i h h' st kk=>T.keep i h h' st fun b _ o e=>kk b o e
  have loop:codeAny (model X.prog X.w) X.A (.compLoop (.ListComp elt [⟨tg,iter,[cnd],0⟩] scope pos) 0 (.ref it) (.ref s2.heap.objs.size) (compEnvC scope cl h3.objs.size X.env)) (R (.ref s2.heap.objs.size) h3.objs.size)
      { s2 with heap:=h₁,toks:=s2.toks+([]:List (Str × Value)).length }:=by
    refine compLoop_anyF (fun n s'=>∃ i σ' H',Inv (compCx X scope cl N h3.objs.size { s2 with heap:=h3 } (upd H2 s2.heap.objs.size (.lst [])) fp) [] σ' H' s'∧tn i s'.heap∧(∀ b∈fp,H' b=none)∧W i n σ' H') ?_ m0
      ⟨0,_,_,I4,stn _ _ _ st2 fun b o e=>k34 b o (k23 b o e),fun b hb=>(hex b hb).1.1,w0⟩
    rintro n s3 ⟨i,σ3,H3,J3,st3,fr3,w3⟩
    rcases turn i n σ3 H3 w3 with ⟨stop,qn⟩ | ⟨go,step⟩
    · refine wpFalse (thn (T.done (compCx X scope cl N h3.objs.size { s2 with heap:=h3 } (upd H2 s2.heap.objs.size (.lst [])) fp) rfl rfl rfl hc i [] s3 σ3 H3 (fun _ _=>False) J3 (stat fr3) st3 stop) fun r s4 ⟨hr,J4⟩=>?_)
      subst hr
      obtain ⟨mc,hmc,_⟩:=J4.loc
      have I5:Inv X pins σ H3 s4:=I3.call' (ch:=fp) J4.os J4.base J4.hok J4.bare fun b hb=>⟨(hex b hb).1.2.2.2.1,(hex b hb).1.2.1,(hex b hb).1.2.2.2.2.1,(hex b hb).1.2.2.2.2.2⟩
      exact hR _ _ s4 H3 mc hmc (I3.fpOk (Nat.le_refl _) J4.free) I5 qn
    · refine wpFalse (thn (T.item (compCx X scope cl N h3.objs.size { s2 with heap:=h3 } (upd H2 s2.heap.objs.size (.lst [])) fp) rfl rfl rfl hc i [] s3 σ3 H3 (fun _ _=>False) J3 (stat fr3) st3 go) fun r s4 ⟨u,hr,h4⟩=>?_)
      subst hr
      refine wpFalse (thn h4 fun _ s5 ⟨x,H5,J5,r5,y5,st5,fr5⟩=>?_)
      have J5':=J5.pinned (stat fr5) (T.obj _ _ st5)
      refine wpFalse (thn (hg _ _ _ _ _ _ s5 σ3 H5 x u _ J5' r5 (step x H5 y5)) fun _ s6 ⟨σ6,H6,J6,q6⟩=>?_)
      refine wpAny_tests_one (wpFalse (thn (hcn _ _ _ _ _ _ s6 σ6 H6 _ J6 q6) fun b sb ⟨Hb,Jb,qb⟩=>?_))
      cases b with
      | false =>
        obtain ⟨m',hm',w7⟩:=qb
        refine ite_ff ⟨m',hm',i+1,σ6,_,Jb.unpinned,T.keep _ _ _ st5 fun b hb o e=>(Jb.pin (b,o) (List.mem_append_right _ (List.mem_append_right _ (mem_pinsAt hb e)))).1,fun b hb=>?_,w7⟩
        obtain ⟨o,e,d⟩:=T.obj _ _ st5 b hb
        exact (Jb.pin (b,o) (List.mem_append_right _ (List.mem_append_right _ (mem_pinsAt hb e)))).2.1
      | true =>
        refine ite_tt ?_
        refine wpFalse (thn (he _ _ _ _ _ _ sb σ6 Hb _ Jb qb) fun y s7 ⟨v7,H7,J7,r7,xs,hx,hz,m',hm',w7⟩=>?_)
        refine wpFalse (thn (mt_append _ s7 σ6 H7 (.ref s2.heap.objs.size) [v7] (.ref s2.heap.objs.size) [y] (fun v H8=>H8=upd H7 s2.heap.objs.size (.lst (xs++[v7]))) J7 rfl (.cons r7 .nil) ⟨_,xs,v7,rfl,rfl,hx,hz,rfl⟩) fun _ s8 ⟨_,H8,J8,_,e8⟩=>?_)
        subst e8
        refine ⟨m',hm',i+1,σ6,_,J8.unpinned,T.keep _ _ _ st5 fun b hb o e=>(J8.pin (b,o) (List.mem_append_right _ (List.mem_append_right _ (mem_pinsAt hb e)))).1,fun b hb=>?_,w7⟩
        obtain ⟨o,e,d⟩:=T.obj _ _ st5 b hb
        exact (J8.pin (b,o) (List.mem_append_right _ (List.mem_append_right _ (mem_pinsAt hb e)))).2.1
  exact codeAny_compStart_list loop (T.self _ 0 _ _ _ (stn _ _ _ st2 fun b o e=>k34 b o (k23 b o e)) loop)
theorem pe_compF (hc:X.calm=true) (hi:PI X tg iter wi) (hg:∀ cl C s H ex,PG (compCx X scope cl N C s H ex) tg g) (hcn:∀ cl C s H ex,PT (compCx X scope cl N C s H ex) cnd tc) (he:∀ cl C s H ex,PE (compCx X scope cl N C s H ex) elt te)
    (hk:compChk X.env.scope X.N scope N fr=true:=by rfl) (hs:∀ x,foldedSetIterable iter X.env x=pure x:=by intro _; rfl):PE X (.ListComp elt [⟨tg,iter,[cnd],0⟩] scope pos) (tCompF wi g tc te fr):=by
  intro pins s σ H Q I h
  have ck:=compChk_of hk
  obtain ⟨cl,e1,c1,c2⟩:=comp_cl I.ok ck
  rw [eval_ListComp]
  refine wpAny_comprehension_free (use:=none) (Q:=EP X pins σ Q) rfl hs e1 ck.kind ck.loc (comp_coreF (R:=fun acc C=>compPost (model X.prog X.w) X.A X.xe none (EP X pins σ Q) acc C) hc I hi hg hcn he ck c1 c2 h fun acc C s' H' m hn f I' q=>?_)
  obtain ⟨f0,f1,f2,f3,f4,f5⟩:=f
  exact ⟨m,hn,fun h' hs'=>⟨.ref acc,H',I'.turned (t':=s'.toks) (fun b o hb e=>hs'.extBut b o hb e) f0 f1 f3 f4 f5,rfl,q⟩⟩
theorem ps_setCompF {y:Str} {py spos:Pos} {gy:TG} (hc:X.calm=true) (hy:PG X (.Name y py) gy) (hi:PI X tg iter wi) (hg:∀ cl C s H ex,PG (compCx X scope cl N C s H ex) tg g) (hcn:∀ cl C s H ex,PT (compCx X scope cl N C s H ex) cnd tc) (he:∀ cl C s H ex,PE (compCx X scope cl N C s H ex) elt te)
    (hk:compChk X.env.scope X.N scope N fr=true:=by rfl) (hsw:swapsWith (.ListComp elt [⟨tg,iter,[cnd],0⟩] scope pos) (some (.Name y py)) spos.line X.env=pure true:=by rfl) (hs:∀ x,foldedSetIterable iter X.env x=pure x:=by intro _; rfl) :
    PS X (.Assign [.Name y py] (.ListComp elt [⟨tg,iter,[cnd],0⟩] scope pos) spos) (tAsg (tCompF wi g tc te fr) gy):=by
  intro pins s σ H D I h
  have ck:=compChk_of hk
  obtain ⟨cl,e1,c1,c2⟩:=comp_cl I.ok ck
  rw [exec_Assign_Name_used _ _ _ _ hsw]
  refine wpAny_bind (wpAny_standAt (wpAny_bind ?_))
  show wpAny _ X.A (do let _ ← comprehension (.ListComp elt [⟨tg,iter,[cnd],0⟩] scope pos) scope X.env _ (newList []) false (eval iter X.env) (some (assign (.Name y py) X.env))) _ _ s
  refine wpAny_bind (wpAny_mono (wpAny_comprehension_free (use:=some (assign (.Name y py) X.env)) (Q:=fun _ s'=>SP X pins D .next s') rfl hs e1 ck.kind ck.loc
    (comp_coreF (R:=fun acc C=>compPost (model X.prog X.w) X.A X.xe (some (assign (.Name y py) X.env)) (fun _ s'=>SP X pins D .next s') acc C) hc I hi hg hcn he ck c1 c2 h fun acc C s' H' m hn f I' q=>?_)) (fun _ s' hq=>wpAny_pure (wpAny_pure hq)) fun _ _ e=>e)
  show wpAny _ X.A (assign (.Name y py) X.env (.ref acc)) _ _ _
  obtain ⟨oC,es,ep,hoC,hdC,hrC⟩:=id hn
  have IP:=I'.pinned (fp:=[C]) (fun b hb=>by rw [List.mem_singleton.mp hb]; exact f) (fun b hb=>by rw [List.mem_singleton.mp hb]; exact ⟨oC,hoC,fun v z=>by rw [hdC] at z; cases z⟩)
  refine thn (hy _ s' σ H' (.ref acc) (.ref acc) _ IP rfl q) fun _ s'' ⟨σ6,H6,I6,q6⟩=>?_
  have pC:=I6.pin (C,oC) (List.mem_append_right _ (List.mem_append_right _ (mem_pinsAt (List.mem_singleton.mpr rfl) hoC)))
  obtain ⟨f0,f1,f2,f3,f4,f5⟩:=f
  exact ⟨m,⟨oC,es,ep,pC.1,hdC,hrC⟩,fun h' hs'=>⟨σ6,H6,I6.unpinned.turned (t':=s''.toks) (fun b o hb e=>hs'.extBut b o hb e) pC.2.1 f1 f3 f4 f5,q6⟩⟩
end
end L2
namespace L2
open PySem PySem.Spec PyProof.Rows
section
variable {X:Cx} {a b c d:Expr} {ta tb tc td:TE} {pos:Pos}
theorem ix_tupK {K:PySem.W.Frag} (hK:X.K=K:=by rfl):IxR X (rIxT K):=by subst hK; exact ix_tup
end
def fW (acc:Addr) (n:Nat) (Pv:Nat→List V→St→Hp→Prop) (i m:Nat) (σ:St) (H:Hp):Prop:=i≤n∧m=n - i∧∃ xs,xs.length≤i∧H acc=some (.lst xs)∧Pv i xs σ H
def fNx (acc:Addr) (n:Nat) (Pv:Nat→List V→St→Hp→Prop) (i:Nat) (σ:St) (v:V) (H:Hp):Prop:=∃ xs,H acc=some (.lst xs)∧xs.length < sizeLine∧∃ m',m' < n - i∧fW acc n Pv (i+1) m' σ (upd H acc (.lst (xs++[v])))
def fSk (acc:Addr) (n:Nat) (Pv:Nat→List V→St→Hp→Prop) (i:Nat) (σ:St) (H:Hp):Prop:=∃ m',m' < n - i∧fW acc n Pv (i+1) m' σ H
theorem fNx.mk {acc:Addr} {n:Nat} {Pv:Nat→List V→St→Hp→Prop} {i:Nat} {σ:St} {v:V} {H:Hp} {xs:List V} (hn:n≤sizeLine) (hi:i < n) (hl:xs.length≤i) (ha:H acc=some (.lst xs)) (hp:Pv (i+1) (xs++[v]) σ (upd H acc (.lst (xs++[v])))) :
    fNx acc n Pv i σ v H:=⟨xs,ha,by omega,n - (i+1),by omega,hi,rfl,xs++[v],by rw [List.length_append,List.length_singleton]; omega,upd_same,hp⟩
theorem fSk.mk {acc:Addr} {n:Nat} {Pv:Nat→List V→St→Hp→Prop} {i:Nat} {σ:St} {H:Hp} {xs:List V} (hi:i < n) (hl:xs.length≤i) (ha:H acc=some (.lst xs)) (hp:Pv (i+1) xs σ H):fSk acc n Pv i σ H:=⟨n - (i+1),by omega,hi,rfl,xs,by omega,ha,hp⟩
theorem comp_listF {K:PySem.W.Frag} {a:Addr} {ys:List V} {g:TG} {tc:TT} {te:TE} {σ:St} {H1:Hp} {acc:Addr} {Qr:Hp→Prop} (Pv:Nat→List V→St→Hp→Prop) (h0:Pv 0 [] σ (upd H1 acc (.lst [])))
    (hq:∀ i xs σ H,i≤ys.length→H acc=some (.lst xs)→Pv i xs σ H→SqL K H a ys)
    (hs:∀ i x xs σ H,ys[i]?=some x→i < ys.length→xs.length≤i→H acc=some (.lst xs)→Pv i xs σ H→g x σ H fun σ2 H2=>tc σ2 H2 fun b Hb=>match b with
      | true=>te σ2 Hb fun v H3=>fNx acc ys.length Pv i σ2 v H3
      | false=>fSk acc ys.length Pv i σ2 Hb)
    (hd:∀ xs σ H,xs.length≤ys.length→H acc=some (.lst xs)→Pv ys.length xs σ H→Qr H) :
    ∃ W:Nat→Nat→St→Hp→Prop,(∃ m,W 0 m σ (upd H1 acc (.lst [])))∧∀ i m σ1 H2,W i m σ1 H2 →
      ((Itl K a).stop i H2∧Qr H2)∨((Itl K a).go i H2∧∀ x H3,(Itl K a).yld i H2 x H3→g x σ1 H3 fun σ4 H4=>tc σ4 H4 fun b Hb=>match b with
        | true=>te σ4 Hb fun v H5=>∃ xs,H5 acc=some (.lst xs)∧xs.length < sizeLine∧∃ m',m' < m∧W (i+1) m' σ4 (upd H5 acc (.lst (xs++[v])))
        | false=>∃ m',m' < m∧W (i+1) m' σ4 Hb):=by
  refine ⟨fW acc ys.length Pv,⟨ys.length,Nat.zero_le _,rfl,[],Nat.le_refl _,upd_same,h0⟩,?_⟩
  rintro i m σ1 H2 ⟨hi,rfl,xs,hl,ha,hp⟩
  have hsq:=hq i xs σ1 H2 hi ha hp
  rcases Nat.lt_or_ge i ys.length with h | h
  · refine .inr ⟨⟨ys,ys[i],hsq,List.getElem?_eq_getElem h⟩,?_⟩
    rintro x H3 ⟨rfl,hx⟩
    exact hs i x xs σ1 H3 (hx ys hsq) h hl ha hp
  · have e:i=ys.length:=Nat.le_antisymm hi h
    subst e
    exact .inl ⟨⟨ys,hsq,Nat.le_refl _⟩,hd xs σ1 H2 hl ha hp⟩
end L2
namespace L2
open PySem PySem.Spec PyProof.Rows PySem.W
section
variable {X:Cx}
end
end L2
namespace L2
open PySem PySem.Spec PyProof.Rows
section
variable {X:Cx}
end
section
variable {X:Cx}
end
section
variable {prog:Program} {w:World} {A:Around} {E:Value→Shared→Prop} {s:Shared}
end
section
variable {X:Cx}
end
section
variable {prog:Program} {w:World} {A:Around} {E:Value→Shared→Prop} {s:Shared} {R:Result→Shared→Prop} {I:Addr} {fp wr:List Addr} {n:Nat} {P:Nat→Value→Prop} {St:Nat→Heap→Prop}
end
section
variable {X:Cx}
end
section
variable {X:Cx} {a:Expr} {ta:TE}
end
theorem comp_rangeF {lo:Int} {n:Nat} {g:TG} {tc:TT} {te:TE} {σ:St} {H1:Hp} {acc:Addr} {Qr:Hp→Prop} (Pv:Nat→List V→St→Hp→Prop) (h0:Pv 0 [] σ (upd H1 acc (.lst [])))
    (hs:∀ i xs σ H,i < n→xs.length≤i→H acc=some (.lst xs)→Pv i xs σ H→g (.int (lo+i)) σ H fun σ2 H2=>tc σ2 H2 fun b Hb=>match b with
      | true=>te σ2 Hb fun v H3=>fNx acc n Pv i σ2 v H3
      | false=>fSk acc n Pv i σ2 Hb)
    (hd:∀ xs σ H,xs.length≤n→H acc=some (.lst xs)→Pv n xs σ H→Qr H) :
    ∃ W:Nat→Nat→St→Hp→Prop,(∃ m,W 0 m σ (upd H1 acc (.lst [])))∧∀ i m σ1 H2,W i m σ1 H2 →
      ((Itr lo n).stop i H2∧Qr H2)∨((Itr lo n).go i H2∧∀ x H3,(Itr lo n).yld i H2 x H3→g x σ1 H3 fun σ4 H4=>tc σ4 H4 fun b Hb=>match b with
        | true=>te σ4 Hb fun v H5=>∃ xs,H5 acc=some (.lst xs)∧xs.length < sizeLine∧∃ m',m' < m∧W (i+1) m' σ4 (upd H5 acc (.lst (xs++[v])))
        | false=>∃ m',m' < m∧W (i+1) m' σ4 Hb):=by
  refine ⟨fW acc n Pv,⟨n,Nat.zero_le _,rfl,[],Nat.le_refl _,upd_same,h0⟩,?_⟩
  rintro i m σ1 H2 ⟨hi,rfl,xs,hl,ha,hp⟩
  rcases Nat.lt_or_ge i n with h | h
  · refine .inr ⟨h,?_⟩
    rintro x H3 ⟨rfl,rfl⟩
    exact hs i xs σ1 H3 h hl ha hp
  · have e:i=n:=Nat.le_antisymm hi h
    subst e
    exact .inl ⟨Nat.le_refl _,hd xs σ1 H2 hl ha hp⟩
end L2
namespace L2
open PySem PySem.Spec PyProof.Rows
section
variable {X:Cx}
end
end L2
namespace L2
open PySem PySem.Spec PyProof.Rows
section
variable {X:Cx} {k j:Nat} {x y:Str} {ps:List Str} {sp:Sp} {p pos:Pos} {e:Expr} {es:List Expr} {tv:TE} {t:TA}
end
section
variable {prog:Program} {w:World} {A:Around} {E:Value→Shared→Prop} {s:Shared} {it d v:Addr} {i n ep:Nat} {od:Obj} {es:Array DictEntry} {k0 v0:Value}
end
section
variable {X:Cx}
end
end L2
namespace L2
open PySem PySem.Spec PyProof.Rows
section
variable {prog:Program} {w:World} {A:Around} {E:Value→Shared→Prop} {s:Shared} {d:Addr} {od:Obj} {es:Array DictEntry} {ep:Nat}
end
section
variable {X:Cx}
end
section
variable {X:Cx}
end
end L2
namespace L2
open PySem PySem.Spec PyProof.Rows
section
variable {prog:Program} {w:World} {A:Around} {E:Value→Shared→Prop} {s:Shared} {it d:Addr} {i ep:Nat} {od:Obj} {es:Array DictEntry}
end
section
variable {X:Cx}
end
end L2
namespace L2
open PySem PySem.Spec PyProof.Rows
section
variable {X:Cx}
end
end L2
namespace L2
open PySem PySem.Spec PyProof.Rows
section
variable {X:Cx}
end
section
variable {X:Cx}
end
end L2
namespace L2
open PySem PySem.Spec PyProof.Rows
section
open HT
variable {prog:Program} {w:World} {A:Around} {E:Value→Shared→Prop} {s:Shared}
end
section
variable {X:Cx} {e st:Expr} {te ts:TE} {pos p2:Pos}
end
end L2
namespace L2
open PySem PySem.Spec PyProof.Rows
section
variable {prog:Program} {w:World} {A:Around} {E:Value→Shared→Prop} {s:Shared} {R:Result→Shared→Prop} {I:Addr} {fp wr:List Addr} {n:Nat} {P:Nat→Value→Prop} {St:Nat→Heap→Prop}
end
section
variable {X:Cx}
end
end L2
namespace L2
open PySem PySem.Spec PyProof.Rows
end L2
namespace L2
open PySem PySem.Spec PyProof.Rows
section
variable {X:Cx}
end
end L2
namespace L2
open PySem PySem.Spec PyProof.Rows
section
open PySem.SeqAt
open PySem.AutoSeq1 (wpAny_loadPart')
open PySem.MeetsSeq PySem.MeetsSeq2 PySem.MeetsSeq3
variable {prog:Program} {w:World} {A:Around} {E:Value→Shared→Prop} {s:Shared}
end
section
variable {X:Cx}
end
end L2
namespace L2
open PySem PySem.Spec PyProof.Rows
structure ICls (K:PySem.W.Frag) (C:Addr):Prop where
  cl:Cls K C
  ha:PySem.W.findIn K (.ref C) "__class__"=some (some (.builtin "object.__class__"))
  hn:PySem.W.specialIn K (.builtin "object.__class__") "__get__"=some (some (.builtin "getset_descriptor.__get__"))
  htk:PySem.W.takesIn K (.builtin "object.__class__")=some true
  hm:PySem.W.mroIn K C (.type "object")=some true
section
variable {X:Cx}
theorem call_isinI:CallR X (.builtin "isinstance") (fun xs H Q=>∃ a C dx fs c u b,xs=[.ref a,c]∧H a=some (.ins C dx fs)∧ICls X.K C∧RelV c u∧(∀ u',RelV c u'→u'=u)∧PySem.W.kitOne X.K (.ref C) u=some b∧Q (.bl b) H):=by
  intro pins s σ H xs us Q I r h
  obtain ⟨a,C,dx,fs,c,u,b,rfl,he,hc,ru,uq,hk,q⟩:=h
  obtain ⟨v1,v2,rfl,r1,r2⟩:=vals2 r
  have:=uq v2 r2
  subst this
  exact isinst_ok I r1 (.ins he hc.cl hc.ha hc.hn hc.htk hc.hm) hk fun tk=>⟨.bl b,H,I.tok tk,rfl,q⟩
end
def Itv (K:PySem.W.Frag) (a:Addr) (n:Nat):It :=
  ⟨fun i H=>∃ xs,SqL K H a xs∧xs.length=n∧i < n,fun i H x H'=>H'=H∧∀ xs,SqL K H a xs→xs[n - 1 - i]?=some x,fun i H=>n≤i⟩
theorem turn_rev {P:Program} {w:World} {K:PySem.W.Frag} {tg:Expr} (a it:Addr) (n:Nat):Turn P w K tg (Itv K a n) [it] it (fun i h=>i≤n∧h.IsRevIter it a ((n:Int) - 1 - i)) where
  mem:=by simp
  obj:=fun i h st b hb=>by
    have e:b=it:=by simpa using hb
    subst e
    obtain ⟨_,o,e,c,d⟩:=st
    exact ⟨o,e,fun v z=>by rw [d] at z; cases z⟩
  keep:=fun i h h' st k=>⟨st.1,st.2.at fun o e=>k it (by simp) o e⟩
  item:=by
    intro X hP hw hK hc i pins s σ H E I hf st hg
    subst hP hw hK
    obtain ⟨xs,hq,hn,hi⟩:=hg
    obtain ⟨hin,st⟩:=st
    obtain ⟨its,rv,p,hz⟩:=I.list hq
    have hx:xs[n - 1 - i]?=some (xs[n - 1 - i]'(by omega)):=List.getElem?_eq_getElem (by omega)
    obtain ⟨u,hu,ru⟩:=rv.get hx
    obtain ⟨f0,f1,f2,f3,f4,f5⟩:=hf it (by simp)
    have st':s.heap.IsRevIter it a (((n - 1 - i:Nat):Int)):=by
      rw [show (((n - 1 - i:Nat):Int))=(n:Int) - 1 - i by omega]; exact st
    refine wpAny_pyNext_rev_item st' p.isList (x:=u) (by simpa using hu) fun h' st' sb=>?_
    have I1:Inv X pins σ H { s with heap:=h' }:=I.turned (t':=s.toks) (fun b o hb e=>(sb.2 b hb).trans e) f0 f1 f3 f4 f5
    obtain ⟨o,e,c,d⟩:=id st'
    refine ⟨u,rfl,go_of (s:={ s with heap:=h' }) e c d (by decide) ⟨_,H,I1,ru,⟨rfl,fun ys hy=>by rw [I.list_inj hy hq]; exact hx⟩,⟨by omega,?_⟩,fun b hb=>(hf b hb).1⟩⟩
    rw [show (n:Int) - 1 - ((i+1:Nat):Int)=((n - 1 - i:Nat):Int) - 1 by omega]; exact st'
  done:=by
    intro X hP hw hK hc i pins s σ H E I hf st hg
    subst hP hw hK
    obtain ⟨hin,st⟩:=st
    obtain ⟨f0,f1,f2,f3,f4,f5⟩:=hf it (by simp)
    have e:i=n:=Nat.le_antisymm hin hg
    subst e
    rw [show (i:Int) - 1 - (i:Int)=-1 by omega] at st
    exact wpAny_pyNext_rev_end (I.ok.hd hc) st fun h' eb=>⟨rfl,I.turned (t':=s.toks) (fun b o hb e=>eb b o hb e) f0 f1 f3 f4 f5⟩
  self:=fun _ _ _ _ _ st h=>wpAny_pyIter_revIter st.2 h
def iRev (K:PySem.W.Frag) (ta:TA):TI:=fun σ H R=>ta σ H fun vs H1=>∃ a xs,vs=[.ref a]∧SqL K H1 a xs∧R (Itv K a xs.length) H1
theorem boot_reversed:bootBuiltins "reversed"=some (.type "reversed"):=rfl
section
variable {X:Cx} {tg:Expr}
theorem pi_revd {a:Expr} {ta:TA} {p pos:Pos} (hg:Gl X "reversed") (hm:X.mg "reversed"=none) (ha:PA X [a] ta) (hs:starEach [a] X.env=[(false,eval a X.env)]:=by rfl) :
    PI X tg (.Call (.Name "reversed" p) [a] [] pos) (iRev X.K ta):=by
  intro pins s σ H R I h
  refine Call_ (ld_blt I hg hm boot_reversed (PyProof.Rows.callWith_type1 (thn (ha pos pins s σ H _ I h) fun us s1 ⟨vs,H1,I1,r1,q1⟩=>?_) hs rfl))
  obtain ⟨b,xs,e,hq,q⟩:=q1
  subst e
  cases r1 with
  | cons r rr =>
    cases rr
    cases r
    obtain ⟨its,rv,pl,hz⟩:=I1.list hq
    have hl:=rv.length
    refine call_reversed_list pl.isList ?_
    have I2:Inv X pins σ H1 { s1 with heap:=s1.heap.push (revObj b ((its.toArray.size:Int) - 1)) }:=I1.kept (t':=s1.toks) fun c o e=>Heap.get?_push_of_some _ e
    refine wpAny_pyIter_revIter (s:={ s1 with heap:=s1.heap.push (revObj b ((its.toArray.size:Int) - 1)) }) ⟨_,Heap.get?_push_size _ rfl,rfl,rfl⟩ ?_
    refine ⟨s1.heap.objs.size,[s1.heap.objs.size],_,_,H1,rfl,I2,turn_rev b _ xs.length,⟨Nat.zero_le _,⟨_,Heap.get?_push_size _ rfl,rfl,?_⟩⟩,fun c hc=>?_,q⟩
    · show Data.fields _=Data.fields _
      rw [show ((its.toArray.size:Int) - 1)=(xs.length:Int) - 1 - ((0:Nat):Int) by rw [List.size_toArray,← hl]; omega]
    · have e:c=s1.heap.objs.size:=by simpa using hc
      subst e
      exact I1.fpOk (Nat.le_refl _) (I1.hok.fresh (Nat.le_refl _))
end
theorem for_rev {K:PySem.W.Frag} {a:Addr} {xs:List V} {g:TG} {tb:TS} {D:Ends} {σ:St} {H:Hp} (Pv:Nat→St→Hp→Prop) (h0:Pv 0 σ H) (hl:∀ i σ H,i≤xs.length→Pv i σ H→SqL K H a xs)
    (hs:∀ i x σ H,xs[xs.length - 1 - i]?=some x→i < xs.length→Pv i σ H→g x σ H fun σ2 H2=>tb { D with nx:=Pv (i+1),ct:=Pv (i+1),bk:=D.nx } σ2 H2) (hd:∀ σ H,Pv xs.length σ H→D.nx σ H) :
    ∃ W:Nat→Nat→St→Hp→Prop,(∃ m,W 0 m σ H)∧∀ i m σ H,W i m σ H →
      ((Itv K a xs.length).stop i H∧D.nx σ H)∨((Itv K a xs.length).go i H∧∃ N:St→Hp→Prop,(∀ σ' H',N σ' H'→∃ m',m' < m∧W (i+1) m' σ' H')∧∀ x H',(Itv K a xs.length).yld i H x H'→g x σ H' fun σ2 H2=>tb { D with nx:=N,ct:=N,bk:=D.nx } σ2 H2):=by
  refine ⟨fun i m σ H=>m=xs.length - i∧i≤xs.length∧Pv i σ H,⟨xs.length,by simp,Nat.zero_le _,h0⟩,?_⟩
  rintro i m σ H ⟨rfl,hi,p⟩
  have q:=hl i σ H hi p
  by_cases hlt:i < xs.length
  · refine .inr ⟨⟨xs,q,rfl,hlt⟩,Pv (i+1),fun σ' H' p'=>⟨xs.length - (i+1),by omega,rfl,hlt,p'⟩,fun x H' y=>?_⟩
    obtain ⟨e,y⟩:=y
    subst e
    exact hs i x σ _ (y xs q) hlt p
  · have e:i=xs.length:=by omega
    subst e
    exact .inl ⟨Nat.le_refl _,hd σ H p⟩
end L2
namespace L2
open PySem PySem.Spec PyProof.Rows PySem.W
def tMethS (S:Addr→Prop) (m:Str) (sp:Sp) (E:XK) (ta:TE) (t:TA):TE:=fun σ H Q=>ta σ H fun x H1=>∃ C a dx fs,S C∧x=.ref a∧H1 a=some (.ins C dx fs)∧fs.lookup m=none∧t σ H1 fun vs H2=>sp (x :: vs) H2 Q E
section
variable {X:Cx} {k j:Nat} {m:Str} {ps:List Str} {sp:Sp} {pos apos:Pos} {e o:Expr} {es:List Expr} {t:TA} {ta:TE} {S:Addr→Prop}
theorem pe_mdS {pl:Sem Bool} (D:∀ C,S C→MdOk X.prog X.w X.K X.mg X.base k C m ps sp) (hr:Room j X.A) (he:PE X o ta) (ha:PA X (e :: es) t) (hj:k≤j:=by decide)
    (hst:starEach (e :: es) X.env=(false,eval e X.env) :: starEach es X.env:=by rfl) (hpl:(backTo pos (starEach es X.env)).any (·.1)=false:=by rfl)
    (ht:eval (.Call (.Attribute o m apos) (e :: es) [] pos) X.env=(do
      let ov ← eval o X.env
      standAt apos.atName
      let (f,first) ← holding [ov] (getMethod ov m pl)
      callWith pos f first (backTo pos (starEach (e :: es) X.env)) (backToKw pos (keywordEach [] X.env))):=by rfl):PE X (.Call (.Attribute o m apos) (e :: es) [] pos) (tMethS S m sp E0 ta t):=by
  intro pins s σ H Q I h
  refine PySem.W.methodCall_KW (pl:=pl) (thn (he pins s σ H _ I h) fun u s1 hz=>?_) ht
  obtain ⟨x,H1,I1,rx,C,a,dx,fs,hS,ex,ea,l,q⟩:=hz
  obtain ⟨cl,f,fd,hm,F,hb⟩:=D C hS
  subst ex
  obtain rfl:u=Value.ref a:=rx
  refine getmeth_ok I1 ea cl hm l ?_
  refine PySem.W.callWith_K (first:=[.ref a]) (h₀:=X.base) I.ok.mod.kin hm.kp (thn (ha pos pins s1 σ H1 _ I1 q) fun us s2 ⟨vs,H2,I2,r,q2⟩=>⟨I2.kIn,?_⟩) hst hpl
  exact run_fn (us:=.ref a :: us) (vs:=.ref a :: vs) F (hr.mono hj) hb .nil pass0 I2 (.cons rfl r) (by rw [List.append_nil]; exact q2)
end
section
variable {X:Cx} {g:Str} {G:Addr} {value:Expr} {b₀:Stmt} {suite:List Stmt} {apos gp hpos pos:Pos} {te:XK→TE} {ts:TS}
end
end L2
namespace L2
open PySem PySem.Spec PyProof.Rows PySem.W
structure FunD (K:PySem.W.Frag) (x qual:Str) (st:Stmt) (f:Addr) (fd:FuncData):Prop where
  ex:∃ (oc:Value) (od:Option Addr) (T:Addr) (kV doc pm:Value) (an:Option Addr) (cdv ct:Value) (osl:Array (Option Value)) (o:Obj) (n:Nat),
    fd=PySem.W.fnOf x qual (defArgs st) (defBody st) (defScope st) (.ref T) kV doc pm an cdv ct∧K.lookup f=some ⟨oc,od,.func fd,osl⟩∧PySem.W.codeIn K cdv qual=true∧K.lookup T=some o∧o.data=.seq #[.none] n
  kp:PySem.W.keepIn K (.ref f)=true
section
variable {P:Program} {w:World} {K:PySem.W.Frag} {mg:Str→Option Value} {base:Heap}
theorem FunD.ok {x qual:Str} {st:Stmt} {f:Addr} {fd:FuncData} {N ps:List Str} {k:Nat} {sp:Sp} (F:FunD K x qual st f fd) (S:FnScope N ps (defScope st)) (len:∀ vs H Q E,sp vs H Q E→vs.length=ps.length)
    (hbody:∀ (cdv:Value) (A:Around) (outer:List Env) (s:Shared) (H:Hp) (vs:List V) (Q:VK) (E:XK),Room k (A.deeper (envOfC qual (defScope st) s.heap.objs.size f cdv))→sp vs H Q E →
      ∃ t,PSs (cxOf CX0 P w K mg base N qual (defScope st) f cdv A outer s H E).nox (defBody st) t∧t { nx:=fun _ H'=>Q .non H',rt:=Q } (start N vs) H):FnOk P w K mg base CX0 (k+1) f fd ps sp:=by
  obtain ⟨oc,od,T,kV,doc,pm,an,cdv,ct,osl,o,n,rfl,lk,hcd,lT,dT⟩:=F.ex
  refine fn_of lk hcd S len fun A outer s H vs Q E hr hsp=>?_
  obtain ⟨t,h,q⟩:=hbody cdv A outer s H vs Q E hr hsp
  exact ⟨t,h.nox,q⟩
theorem FunD.binds {x qual:Str} {st:Stmt} {f:Addr} {fd:FuncData} {ps:List Str} {ds:List Value} (F:FunD K x qual st f fd)
    (h:∀ (T:Addr) (kV doc pm:Value) (an:Option Addr) (cdv ct:Value) (us:List Value),(us++ds).length=ps.length→∃ k:Option (Array Value)→Sem (List (Str × Value)),
      bindArgs (PySem.W.fnOf x qual (defArgs st) (defBody st) (defScope st) (.ref T) kV doc pm an cdv ct) ⟨us,[]⟩=seqItems? (.ref T) >>= k∧k (some #[.none])=pure (ps.zip (us++ds))):Binds K fd ps ds:=by
  obtain ⟨oc,od,T,kV,doc,pm,an,cdv,ct,osl,o,n,rfl,lk,hcd,lT,dT⟩:=F.ex
  intro s us X hl
  obtain ⟨k,h1,h2⟩:=h T kV doc pm an cdv ct us hl
  exact .of_defaults rfl (X _ _ lT) dT h1 h2
end
end L2
namespace L2
open PySem PySem.Spec PyProof.Rows PySem.W
end L2
namespace L2
open PySem PySem.Spec PyProof.Rows
section
variable {X:Cx} {elt tg iter:Expr} {scope:Scope} {pos:Pos} {wi:TI} {g:TG} {te:TE} {N:List Str} {fr:List (Option Nat)}
end
end L2
namespace L2
open PySem PySem.Spec PyProof.Rows PySem.W
section
variable {M:Model} {A:Around} {E:Value→Shared→Prop} {s:Shared} {e:Addr} {cls:Value} {d:Option Addr} {vs:Array Value} {sl:Array (Option Value)}
end
section
variable {M:Model} {A:Around} {E:Value→Shared→Prop} {s:Shared} {base:Heap} {env:Env} {outer:List Env} {L e:Addr} {cls:Value} {d:Option Addr} {vs:Array Value} {sl:Array (Option Value)} {Q:Unit→Shared→Prop}
end
end L2
namespace L2
open PySem PySem.Spec PyProof.Rows PySem.W
section
variable {X:Cx} {pins:List (Addr × Obj)} {σ:St} {H:Hp} {s:Shared} {x C T:Addr} {d:Option Addr} {h1 h2:Heap} {fl:Value} {tt:List Addr} {nw:HO}
end
end L2
namespace L2
open PySem PySem.Spec PyProof.Rows PySem.W
section
variable {X:Cx} {elt tg iter:Expr} {scope:Scope} {pos:Pos} {wi:TI} {g:TG} {te:TE} {N:List Str} {fr:List (Option Nat)}
end
section
variable {P:Program} {w:World} {K:PySem.W.Frag} {mg:Str→Option Value} {base:Heap} {N:List Str} {qual:Str} {scope:Scope} {f:Addr} {cd:Value} {A:Around} {outer:List Env} {s:Shared} {H:Hp} {E:XK} {Hs:Hp}
end
end L2
namespace L2
open PySem PySem.Spec PyProof.Rows PySem.W
section
variable {X:Cx} {i im:Nat} {n m g:Str} {G:Addr} {value c:Expr} {b₀ st su:Stmt} {suite:List Stmt} {np apos gp hpos pos:Pos} {te:XK→TE} {ts:TS} {t u:XK→TS} {tc:TT}
end
end L2
namespace L2
open PySem PySem.Spec PyProof.Rows PySem.W
section
variable {X:Cx}
end
end L2
namespace L2
open PySem PySem.Spec PyProof.Rows PySem.W
section
variable {X:Cx}
end
end L2
namespace L2
open PySem PySem.Spec PyProof.Rows PySem.W
mutual
def DAt (H:Hp):D→V→Prop
  | .at u,v=>v=u∧flatV u=true
  | .tup ds,v=>∃ a xs,v=.ref a∧H a=some (.tup xs)∧DAts H ds xs
  | .lst ds,v=>∃ a xs,v=.ref a∧H a=some (.lst xs)∧DAts H ds xs
def DAts (H:Hp):Ds→List V→Prop
  | .nil,xs=>xs=[]
  | .cons d r,xs=>∃ x ys,xs=x :: ys∧DAt H d x∧DAts H r ys
end
mutual
theorem dat_same {H H':Hp} (s:Same H H'):∀ (d:D) {v:V},DAt H d v→DAt H' d v
  | .at u,v,h=>by rw [DAt] at h ⊢; exact h
  | .tup ds,v,h=>by
    rw [DAt] at h ⊢
    obtain ⟨a,xs,e,q,r⟩:=h
    exact ⟨a,xs,e,s _ _ q,dats_same s ds r⟩
  | .lst ds,v,h=>by
    rw [DAt] at h ⊢
    obtain ⟨a,xs,e,q,r⟩:=h
    exact ⟨a,xs,e,s _ _ q,dats_same s ds r⟩
theorem dats_same {H H':Hp} (s:Same H H'):∀ (ds:Ds) {xs:List V},DAts H ds xs→DAts H' ds xs
  | .nil,xs,h=>by rw [DAts] at h ⊢; exact h
  | .cons d r,xs,h=>by
    rw [DAts] at h ⊢
    obtain ⟨x,ys,e,p,q⟩:=h
    exact ⟨x,ys,e,dat_same s d p,dats_same s r q⟩
end
mutual
theorem dat_is {K:PySem.W.Frag} {H:Hp}:∀ (d:D) {v:V},DAt H d v→DIs K H d v
  | .at u,v,h=>by rw [DAt] at h; rw [DIs]; exact h
  | .tup ds,v,h=>by
    rw [DAt] at h
    rw [DIs]
    obtain ⟨a,xs,e,q,r⟩:=h
    exact ⟨a,xs,e,SqT.of q,dats_is ds r⟩
  | .lst ds,v,h=>by
    rw [DAt] at h
    rw [DIs]
    obtain ⟨a,xs,e,q,r⟩:=h
    exact ⟨a,xs,e,SqL.of q,dats_is ds r⟩
theorem dats_is {K:PySem.W.Frag} {H:Hp}:∀ (ds:Ds) {xs:List V},DAts H ds xs→DIss K H ds xs
  | .nil,xs,h=>by rw [DAts] at h; rw [DIss]; exact h
  | .cons d r,xs,h=>by
    rw [DAts] at h
    rw [DIss]
    obtain ⟨x,ys,e,p,q⟩:=h
    exact ⟨x,ys,e,dat_is d p,dats_is r q⟩
end
section
variable {X:Cx}
end
end L2
namespace L2
open PySem PySem.Spec PyProof.Rows PySem.W
def CodeO (c:Addr) (q:Str):HO:=.ext fun h=>∃ o vs t,h.get? c=some o∧o.data=.fields vs∧vs[1]?=some (.str q t)
def ObjO (f:Addr) (o:Obj):HO:=.ext fun h=>h.get? f=some o
theorem codeO_rec {P:Program} {w:World} {H:Hp} {h:Heap} {c:Addr} {q:Str} (x:ObjOk P w H h c (CodeO c q)):h.CodeRec (.ref c) q:=by
  obtain ⟨⟨o,vs,t,e,d,v⟩,_⟩:=x
  exact ⟨c,o,vs,t,rfl,e,d,v⟩
theorem codeO_ok {P:Program} {w:World} {H:Hp} {h:Heap} {c:Addr} {q:Str} (x:h.CodeRec (.ref c) q):ObjOk P w H h c (CodeO c q):=by
  obtain ⟨c',o,vs,t,e,g,d,v⟩:=x
  cases e
  exact ⟨⟨o,vs,t,g,d,v⟩,⟨o,g⟩,fun h1 h2 ⟨o,vs,t,e,d,v⟩ k=>⟨o,vs,t,k o e,d,v⟩⟩
theorem objO_ok {P:Program} {w:World} {H:Hp} {h:Heap} {f:Addr} {o:Obj} (x:h.get? f=some o):ObjOk P w H h f (ObjO f o):=⟨x,⟨o,x⟩,fun h1 h2 e k=>k o e⟩
section
variable {X:Cx} {pins:List (Addr × Obj)} {σ:St} {H:Hp} {s:Shared} {h1:Heap}
theorem Inv.grow {T c':Addr} {ps more:Array Value} {o:HO} {t':Nat} (I:Inv X pins σ H s) (hT:H T=some (.tbl ps)) (k:∀ b u,b≠T→s.heap.get? b=some u→h1.get? b=some u) (eT:h1.get? T=some (tabObj (ps++more)))
    (hc:s.heap.objs.size≤c') (new:ObjOk X.prog X.w (upd (upd H T (.tbl (ps++more))) c' o) h1 c' o):Inv X pins σ (upd (upd H T (.tbl (ps++more))) c' o) { s with heap:=h1,toks:=t' }:=by
  have hn:H c'=none:=I.hok.fresh hc
  have nT:T≠c':=ne_of_none hT hn
  have ne:∀ {b:Addr} {u:HO},H b=some u→(∀ ps,u≠.tbl ps)→b≠T:=fun {b u} e nu z=>by rw [z,hT] at e; cases e; exact nu _ rfl
  have to:∀ {b:Addr} {u:HO},H b=some u→(∀ ps,u≠.tbl ps)→(upd (upd H T (.tbl (ps++more))) c' o) b=some u:=fun {b u} e nu=>by rw [upd_ne (ne_of_none e hn),upd_ne (ne e nu)]; exact e
  refine I.un ⟨fun b u q n _ _=>k b u (fun z=>by rw [z,hT] at n; cases n) q,fun b u q n _ _=>⟨u.slots,k b u (fun z=>by rw [z,hT] at n; cases n) q⟩,fun b u q n _=>?_,fun b u q _=>?_,
    fun b xs q=>to q (fun _ z=>nomatch z),fun b u xs q=>to q (fun _ z=>nomatch z),fun b ps' q=>?_⟩ fun b u e=>?_
  · rw [upd_ne (Nat.ne_of_lt (Nat.lt_of_lt_of_le (Heap.lt_size q) hc)),upd_ne (fun z=>by rw [z,hT] at n; cases n)]; exact n
  · by_cases z:b=T
    · exact ⟨_,by rw [z]; exact eT⟩
    · exact ⟨u,k b u z q⟩
  · by_cases z:b=T
    · subst z
      rw [hT] at q; cases q
      exact ⟨more,by rw [upd_ne nT,upd_same]⟩
    · exact ⟨#[],by rw [upd_ne (ne_of_none q hn),upd_ne z,q]; simp⟩
  · by_cases z:b=c'
    · subst z; rw [upd_same] at e; cases e; exact new
    · rw [upd_ne z] at e
      by_cases zT:b=T
      · subst zT; rw [upd_same] at e; cases e; exact eT
      · rw [upd_ne zT] at e
        refine (I.hok b u e).stay (fun c v hcb r=>k c v ?_ r) (fun c r=>to r (fun _ z=>nomatch z)) fun c xs r=>to r (fun _ z=>nomatch z)
        rcases hcb with rfl | hcb
        · exact zT
        · exact ne hcb (fun _ z=>nomatch z)
end
structure BmIn (K:Frag) (mg:Str→Option Value):Prop where
  ex:∃ bm sl,mg "__builtins__"=some (.ref bm)∧bm≠builtinsNs∧bm≠mainGlobals∧K.lookup bm=some ⟨.type "module",some builtinsNs,.plain,sl⟩
abbrev lamObj (mg:Str→Option Value) (qual:Str) (params:Arguments) (body:Expr) (scope:Scope) (clos:List (Str × Addr)) (c':Addr) (ctv:Value):Obj:=kla_obj "<lambda>" qual params body scope clos ((mg "__name__").getD .none) c' ctv
def tLam (mg:Str→Option Value) (T:Addr) (pos:Pos) (params:Arguments) (body:Expr) (scope:Scope) (clos:List (Str × Addr)) (qual:Str):TE:=fun σ H Q=>∃ ps,H T=some (.tbl ps)∧TriplesOk ps.toList ∧
  ((codeAmong pos ps.toList=none∧∀ c' f ctv,H c'=none→H f=none→c'≠f→c'≠T→f≠T→Q (.ref f) (upd (upd (upd H T (.tbl (ps++#[rawInt pos.line,rawInt pos.col,.ref c']))) c' (CodeO c' qual)) f (ObjO f (lamObj mg qual params body scope clos c' ctv)))) ∨
    ∃ c',codeAmong pos ps.toList=some (.ref c')∧H c'=some (CodeO c' qual)∧∀ f ctv,H f=none→Q (.ref f) (upd H f (ObjO f (lamObj mg qual params body scope clos c' ctv))))
section
variable {X:Cx}
theorem pe_lam {params:Arguments} {body:Expr} {scope:Scope} {pos:Pos} {c T:Addr} {clos:List (Str × Addr)} {qual:Str} (hcode:X.env.code=.ref c) (hC:∀ h,X.K.In h→CodeHd h c T) (hB:BmIn X.K X.mg) (hdef:defaultsOf params X.env=([],[]))
    (hcl:closureFor scope X.env=pure clos) (hq:X.env.qual++"<lambda>"=qual):PE X (.Lambda params body scope pos) (tLam X.mg T pos params body scope clos qual):=by
  intro pins s σ H Q I h
  obtain ⟨ps,hT,ht,alt⟩:=h
  have hP:s.heap.get? T=some (tabObj ps):=I.hok T _ hT
  have hg:s.heap.Ns mainGlobals X.mg:=I.mod.glob.keeps I.bk
  obtain ⟨bm,sl,b1,b2,b3,b4⟩:=hB.ex
  have hbm:X.base.get? bm=some ⟨.type "module",some builtinsNs,.plain,sl⟩:=I.mod.kin bm _ b4
  have hbT:bm≠T:=fun z=>by
    have:=(I.bs bm _ hbm).2
    rw [z,hT] at this; cases this
  have hgT:mainGlobals≠T:=fun z=>by
    obtain ⟨o,es,ep,e,_⟩:=I.mod.glob
    have:=(I.bs _ _ e).2
    rw [z,hT] at this; cases this
  have hb:s.heap.BuiltinsAt X.mg T:=⟨bm,_,b1,b2,b3,hbT,I.bk bm _ hbm,rfl,rfl,rfl⟩
  refine kla_eval hdef ?_
  rw [hq]
  rcases alt with ⟨hnf,q⟩ | ⟨c',hf,hc',q⟩
  · refine kla_makeFunction hcl I.ok.glob hg hcode (hC _ I.kIn) hP ht hnf hgT hb fun c' ctv h' tk hx hge hlt hrec htb=>?_
    have I1:=I.grow (t':=tk) (h1:=h') (c':=c') (o:=CodeO c' qual) (more:=#[rawInt pos.line,rawInt pos.col,.ref c']) hT (fun b u nb e=>hx b u nb e) htb hge (codeO_ok hrec)
    have hn:H c'=none:=I.hok.fresh hge
    have hnf':H h'.objs.size=none:=I.hok.fresh (Nat.le_trans hge (Nat.le_of_lt hlt))
    have I2:=I1.laid (a:=h'.objs.size) (o:=ObjO h'.objs.size (lamObj X.mg qual params body scope clos c' ctv)) (t':=tk) (h':=h'.push (lamObj X.mg qual params body scope clos c' ctv)) (fun b u e=>Heap.get?_push_of_some _ e) (Nat.le_refl _) (objO_ok (Heap.get?_push_size _ rfl))
    exact ⟨.ref h'.objs.size,_,I2,rfl,q c' h'.objs.size ctv hn hnf' (Nat.ne_of_lt hlt) (Ne.symm (ne_of_none hT hn)) (Ne.symm (ne_of_none hT hnf'))⟩
  · refine kla_makeFunctionHit hcl I.ok.glob hg hcode (hC _ I.kIn) hP ht hf hb fun ctv h' tk hk hsz=>?_
    have hnf':H h'.objs.size=none:=I.hok.fresh hsz
    have I1:=I.kept (t':=tk) hk
    have I2:=I1.laid (a:=h'.objs.size) (o:=ObjO h'.objs.size (lamObj X.mg qual params body scope clos c' ctv)) (t':=tk) (h':=h'.push (lamObj X.mg qual params body scope clos c' ctv)) (fun b u e=>Heap.get?_push_of_some _ e) (Nat.le_refl _) (objO_ok (Heap.get?_push_size _ rfl))
    exact ⟨.ref h'.objs.size,_,I2,rfl,q h'.objs.size ctv hnf'⟩
end
theorem lam_call {P:Program} {w:World} {K:Frag} {mg:Str→Option Value} {base:Heap} {A:Around} {outer:List Env} {s:Shared} {H:Hp} {f c':Addr} {params:Arguments} {body:Expr} {scope:Scope} {qual:Str} {ctv:Value} {N ps:List Str} {vs:List V} {us:List Value} {Q:VK} {E:XK} {k:Nat} {te:TE} {CX:CXT}
    (hf:H f=some (ObjO f (lamObj mg qual params body scope [] c' ctv))) (hc:H c'=some (CodeO c' qual)) (S:FnScope N ps scope) (hr:Room (k+1) A) (e0:Env0 P w K mg base A outer s H) (hl:vs.length=ps.length) (r:Vals vs us)
    (hb:BindsTo s (kla_fn "<lambda>" qual params body scope [] ((mg "__name__").getD .none) (.ref c') ctv) ⟨us,[]⟩ (ps.zip us)) (hbody:PE (cxOf CX P w K mg base N qual scope f (.ref c') A outer s H E) body te) (hq:te (start N vs) H Q) :
    codeAny (model P w) A (.call (.ref f) ⟨us,[]⟩) (CR CX outer P w H s Q E) s:=by
  have lim:s.heap.NoLimit:=e0.mod.nolimit.keeps fun b o e=>(e0.bs b o e).1
  have hkind:∀ y∈ps.zip us,scope.names.lookup y.1=some .local∨(scope.names.lookup y.1=some .cell∧((cellsFrom (s.heap.objs.size+1) scope.names []).lookup y.1).isSome=true):=fun ⟨n,v⟩ hy=>by
    rcases S.par n (List.of_mem_zip hy).1 with q | q
    · exact .inl q
    · exact .inr ⟨q,PySem.W.cellsFrom_some _ _ _ (.inl q)⟩
  have ho:s.heap.get? f=some (lamObj mg qual params body scope [] c' ctv):=(show ObjOk P w H s.heap f (ObjO f _) from e0.hok f _ hf).1
  refine kla_callFunE hr.depth ho rfl S.co S.gen rfl (codeO_rec (e0.hok c' _ hc)) (hb _ _ _ _ ?_)
  refine wpAny_newFunctionEnv_cells S.kind hkind fun env he s1 x=>?_
  subst he
  refine ⟨lim.keeps x.toInCall.keep,kla_codeExpr ?_⟩
  have I:Inv (cxOf CX P w K mg base N qual scope f (.ref c') A outer s H E) [] (start N vs) H s1:=inv_start S hr.hd e0 hl r x
  exact wpAny_mono (hbody [] s1 (start N vs) H Q I hq) (fun u s' ⟨v,H',J,rv,q⟩=>⟨v,H',J.os,J.bare,J.base,J.hok,rv,q⟩) fun e s' h=>h
end L2
namespace L2
open PySem PySem.Spec PyProof.Rows PySem.W
section
variable {X:Cx} {pins:List (Addr × Obj)} {σ:St} {H:Hp} {s:Shared}
theorem Inv.track {D:Addr} {o:HO} (I:Inv X pins σ H s) (hn:H D=none) (h1:X.s₀.heap.objs.size≤D) (hL:D≠X.env.locals) (h2:∀ x c,X.env.cells.lookup x=some c→c≠D) (h3:∀ p∈X.pn++pins,p.1≠D)
    (new:ObjOk X.prog X.w (upd H D o) s.heap D o):Inv X pins σ (upd H D o) s:=by
  have to:∀ {b:Addr} {u:HO},H b=some u→(upd H D o) b=some u:=fun {b u} e=>by rw [upd_ne (ne_of_none e hn)]; exact e
  have J:=I.step (h':=s.heap) (H':=upd H D o) (g':=s.gens) (d':=s.drawn) (t':=s.toks) (ch:=[D]) (fun b hb=>?_) (fun b u _ _ _ e _=>e) (fun b u _ _ _ e _=>⟨u.slots,e⟩) (fun b u hc e n=>?_) (fun b u _ e=>⟨u,e⟩)
    (fun b xs e=>to e) (fun b u xs e=>to e) (fun b ps e=>⟨#[],by rw [to e]; simp⟩) (fun m hm=>hm) (fun b u e=>?_) I.bare
  · exact J
  · have e:b=D:=by simpa using hb
    subst e
    exact ⟨.inr h1,hL,h2,h3⟩
  · rw [upd_ne (fun z=>hc (by simp [z]))]; exact n
  · by_cases hb:b=D
    · subst hb; rw [upd_same] at e; cases e; exact new
    · rw [upd_ne hb] at e
      exact (I.hok b u e).stay (fun c v _ r=>r) (fun c r=>to r) fun c xs r=>to r
theorem Inv.apart (I:Inv X pins σ H s) {D:Addr} (h:s.heap.objs.size≤D):H D=none∧X.s₀.heap.objs.size≤D∧D≠X.env.locals∧D ∉ X.fs∧(∀ x c,X.env.cells.lookup x=some c→c≠D)∧∀ p∈X.pn++pins,p.1≠D:=by
  have no:¬ D < s.heap.objs.size:=Nat.not_lt.mpr h
  refine ⟨I.hok.fresh h,Nat.le_trans I.sz h,fun z=>no (by rw [z]; exact I.lt),fun hb=>?_,fun x c e z=>?_,fun p hp z=>?_⟩
  · obtain ⟨_,o,ho,_⟩:=I.ok.funs.mem hb
    exact no (Nat.lt_of_lt_of_le (Heap.lt_size ho) I.sz)
  · obtain ⟨v,o,ho,_⟩:=I.cell x c e
    exact no (by rw [← z]; exact Heap.lt_size ho)
  · exact no (by rw [← z]; exact Heap.lt_size (I.pin p hp).1)
theorem Inv.unpin {p:Addr × Obj} (I:Inv X (p :: pins) σ H s):Inv X pins σ H s:=I.pins_of fun q hq=>I.pin q (List.mem_append_right _ (List.mem_cons_of_mem _ hq))
end
section
variable {X:Cx} {pins:List (Addr × Obj)} {σ:St} {H:Hp} {s:Shared} {A:Around} {D kS:Addr} {vs ks:List Value} {e e1:Nat}
theorem pin_seq {p:Addr × Obj} (I:Inv X pins σ H s) (hp:p∈pins):s.heap.get? p.1=some p.2:=(I.pin p (List.mem_append_right _ hp)).1
theorem Inv.repin {D:Addr} {n:Nat} {items:Array Value} {g:Array Value→Array Value} {pins:List (Addr × Obj)} (I:Inv X ((D,seqObj "list" items n) :: pins) σ H s) (h1:X.s₀.heap.objs.size≤D) (h2:∀ x c,X.env.cells.lookup x=some c→c≠D) (h3:∀ p∈X.pn++pins,p.1≠D) :
    ∃ c,Inv X ((D,seqObj "list" (g items) c) :: pins) σ H { s with heap:=s.heap.update D (Obj.mapSeq g) }:=by
  obtain ⟨e,hn,hL,hf,_⟩:=I.pin (D,seqObj "list" items n) (List.mem_append_right _ List.mem_cons_self)
  obtain ⟨c,hc⟩:∃ c,(s.heap.update D (Obj.mapSeq g)).get? D=some (seqObj "list" (g items) c):=⟨_,get?_update_seq e g⟩
  have J:Inv X pins σ H { s with heap:=s.heap.update D (Obj.mapSeq g),toks:=s.toks }:=I.unpin.turned (it:=D) (t':=s.toks) (fun b o nb q=>by rw [Heap.get?_update_ne _ _ _ _ nb]; exact q) hn hL (.inr h1) h2 h3
  refine ⟨c,J.pins_of fun p hp=>?_⟩
  rcases List.mem_cons.mp hp with rfl | hp
  · exact ⟨hc,hn,hL,hf,fun v z=>nomatch z⟩
  · exact J.pin p (List.mem_append_right _ hp)
end
theorem kind_of_keys {X:Cx} {pins:List (Addr × Obj)} {σ:St} {H:Hp} {s:Shared} {A:Around} {kts:List (Addr × List Int)} {m:Nat} (I:Inv X pins σ H s) (ht:∀ t∈kts,t.2.length=m+1∧H t.1=some (.tup (t.2.map V.int))) :
    ∀ t∈kts,t.2.length=m+1∧∃ items,IsTup s.heap t.1 items∧IntsAre items.toList t.2:=fun t htm=>by
  obtain ⟨h1,h2⟩:=ht t htm
  obtain ⟨_,zs,rz,tz⟩:=(show ObjOk X.prog X.w H s.heap t.1 (.tup (t.2.map V.int)) from I.hok _ _ h2)
  exact ⟨h1,_,tz,by simpa using intsAre_of rz⟩
section
variable {X:Cx} {pins:List (Addr × Obj)} {σ:St} {H:Hp} {s:Shared} {A:Around} {D kS f:Addr} {vs:List Value} {e1:Nat} {kts:List (Addr × List Int)} {m:Nat} {key:List Int→Int} {P:PySem.Fin→Shared→Prop} {E:Value→Shared→Prop}
end
theorem lam_in {X:Cx} {pins:List (Addr × Obj)} {σ:St} {H:Hp} {s:Shared} {A:Around} {f c' a:Addr} {params:Arguments} {body:Expr} {scope:Scope} {qual:Str} {ctv u:Value} {v:V} {N ps:List Str} {k:Nat} {te:TE} (I:Inv X pins σ H s) (e0:Env0 X.prog X.w X.K X.mg X.base A X.stack s H)
    (hf:H f=some (ObjO f (lamObj X.mg qual params body scope [] c' ctv))) (hc:H c'=some (CodeO c' qual)) (S:FnScope N ps scope) (hr:Room (k+1) A) (hl:ps.length=1) (r:RelV v u)
    (hb:BindsTo s (kla_fn "<lambda>" qual params body scope [] ((X.mg "__name__").getD .none) (.ref c') ctv) ⟨[u],[]⟩ (ps.zip [u]))
    (hbody:PE (cxOf CX0 X.prog X.w X.K X.mg X.base N qual scope f (.ref c') A X.stack s H E0) body te) (hq:te (start N [v]) H fun y H'=>y=.ref a∧H'=H) :
    wpAny (model X.prog X.w) A (call (.ref f) [u]) (fun y s'=>y=.ref a∧Inv X pins σ H s') (fun _ _=>False) s:=by
  refine wpAny_call (codeAny_mono (lam_call (Q:=fun y H'=>y=.ref a∧H'=H) hf hc S hr e0 (by rw [hl]; rfl) (.cons r .nil) hb hbody hq) fun r s' hq'=>?_)
  cases r with
  | error e=>exact False.elim hq'
  | ok fl =>
    cases fl with
    | ret y =>
      obtain ⟨z,H',J,rz,ez,eH⟩:=I.after hq'
      subst ez eH
      cases rz
      exact ⟨rfl,J⟩
    | next=>exact False.elim hq'
    | brk=>exact False.elim hq'
    | cont=>exact False.elim hq'
section
variable {X:Cx}
end
end L2
namespace L2
open PySem PySem.Spec PyProof.Rows PySem.W
theorem ltG_of {M:Model} {A:Around} {E:Value→Shared→Prop} {s:Shared} {kd:SortKind} {κ:Value→Int} {S:Keyed→Prop} (h:∀ x y,S x→S y→∀ C:Bool→Shared→Prop,C (decide (κ x.1 < κ y.1)) s→wpAny M A (keyLt' kd x.1 y.1) C (fun _ _=>False) s):LtG M A E s kd (fun p=>κ p.1) S:=fun x y hx hy st Q hk hq=>by
  rw [lt'_eq]
  refine wpS_bind (wpS_get ?_)
  rw [hk]
  refine wpS_bind (wpS_lift (wpAny_attempt (wpAny_mono (h x y hx hy (fun b s'=>b=decide (κ x.1 < κ y.1)∧s'=s) ⟨rfl,rfl⟩) (fun b s' hb=>?_) fun _ _ z=>z.elim)))
  obtain ⟨rfl,rfl⟩:=hb
  exact ⟨rfl,wpS_pure hq⟩
theorem perm_pre {α β:Type} {f:α→β} {l m:List β} (h:l.Perm m):∀ ts:List α,m=ts.map f→∃ ts':List α,ts'.Perm ts∧l=ts'.map f:=by
  induction h with
  | nil =>
    intro ts e
    rw [List.map_eq_nil_iff.mp e.symm]
    exact ⟨[],.nil,rfl⟩
  | cons x p ih =>
    intro ts e
    obtain ⟨t,r,rfl,e1,e2⟩:=List.map_eq_cons_iff.mp e.symm
    obtain ⟨r',p',e'⟩:=ih r e2.symm
    exact ⟨t :: r',p'.cons t,by rw [e',List.map_cons,e1]⟩
  | swap x y l =>
    intro ts e
    obtain ⟨t,r,rfl,e1,e2⟩:=List.map_eq_cons_iff.mp e.symm
    obtain ⟨u,q,rfl,e3,e4⟩:=List.map_eq_cons_iff.mp e2
    exact ⟨u :: t :: q,List.Perm.swap _ _ _,by rw [List.map_cons,List.map_cons,e1,e3,e4]⟩
  | trans p q ih1 ih2 =>
    intro ts e
    obtain ⟨t2,p2,e2⟩:=ih2 ts e
    obtain ⟨t1,p1,e1⟩:=ih1 t2 e2
    exact ⟨t1,p1.trans p2,e1⟩
def KeyOk (X:Cx) (σ:St) (H:Hp) (kvs:List V) (kd:SortKind) (κ:Value→Int):Prop:=∀ (A:Around) (ks:List Value) (pins:List (Addr × Obj)) (s:Shared),Vals kvs ks→Inv X pins σ H s →
  (∀ (C:SortKind→Shared→Prop) (E:Value→Shared→Prop),2≤ks.length→C kd s→wpAny (model X.prog X.w) A (keyKind' ks.toArray) C E s) ∧
  ∀ x∈ks,∀ y∈ks,∀ C:Bool→Shared→Prop,C (decide (κ x < κ y)) s→wpAny (model X.prog X.w) A (keyLt' kd x y) C (fun _ _=>False) s
section
variable {X:Cx} {pins:List (Addr × Obj)} {σ:St} {H:Hp} {s:Shared} {A:Around} {D kS f:Addr} {vs:List Value} {e1:Nat} {kvs:List V} {kd:SortKind} {κ:Value→Int} {P:PySem.Fin→Shared→Prop} {E:Value→Shared→Prop}
theorem gsk_tail {e:Nat} {st:SortSt} {ks out:List Value} (I:Inv X ((kS,seqObj "list" ks.toArray e) :: (D,seqObj "list" #[] e1) :: pins) σ H s) (hk1:X.s₀.heap.objs.size≤kS) (hkc:∀ x c,X.env.cells.lookup x=some c→c≠kS) (hkp:∀ p∈X.pn++((D,seqObj "list" #[] e1) :: pins),p.1≠kS)
    (hD1:X.s₀.heap.objs.size≤D) (hDc:∀ x c,X.env.cells.lookup x=some c→c≠D) (hDp:∀ p∈X.pn++pins,p.1≠D) (hout:(arrOf st).map (·.2)=List.toArray out) (hz:out.length≤sizeLine) (hkz:ks.length≤sizeLine) (hf:failedOf st=none)
    (h:∀ (c:Nat) (s':Shared),Inv X pins σ H s'→s'.heap.get? D=some (seqObj "list" (List.toArray out) c)→P (.done (.ret .none)) s'):wpAny (model X.prog X.w) A (ksk_tail D false e1 (.ref kS) st) P E s:=by
  have ek:=pin_seq I List.mem_cons_self
  obtain ⟨ck,I1⟩:=I.repin (g:=fun _=>(#[]:Array Value)) hk1 hkc hkp
  have eD:=pin_seq I1 (List.mem_cons_of_mem _ List.mem_cons_self)
  obtain ⟨cD,I2⟩:=(I1.unpin).repin (g:=fun _=>List.toArray out) hD1 hDc hDp
  unfold ksk_tail
  try dsimp only
  rw [hout]
  refine wpAny_bind (listUpdate_at ek rfl ?_ (by rw [List.size_toArray]; exact hkz) (Nat.zero_le _))
  refine wpAny_bind (wpAny_letGo ?_)
  refine wpAny_bind (seqEpoch_at eD rfl ?_)
  refine wpAny_bind (listUpdate_at eD rfl ?_ (Nat.zero_le _) (by show out.toArray.size≤_; rw [List.size_toArray]; omega))
  rw [hf]
  simp only [bne_self_eq_false,Bool.false_eq_true,if_false]
  exact wpAny_pure (h cD _ I2.unpin (pin_seq I2 List.mem_cons_self))
theorem gsk_end {e:Nat} {ks:List Value} (G:KeyOk X σ H kvs kd κ) (hks:Vals kvs ks) (I:Inv X ((kS,seqObj "list" ks.toArray e) :: (D,seqObj "list" #[] e1) :: pins) σ H s) (hk1:X.s₀.heap.objs.size≤kS) (hkc:∀ x c,X.env.cells.lookup x=some c→c≠kS) (hkp:∀ p∈X.pn++((D,seqObj "list" #[] e1) :: pins),p.1≠kS)
    (hD1:X.s₀.heap.objs.size≤D) (hDc:∀ x c,X.env.cells.lookup x=some c→c≠D) (hDp:∀ p∈X.pn++pins,p.1≠D) (hl:ks.length=vs.length) (hz:vs.length≤sizeLine)
    (h:∀ (zs:List Keyed) (c:Nat) (s':Shared),zs.Perm (ks.zip vs)→(zs.map fun p=>κ p.1).Pairwise (·≤·)→Inv X pins σ H s'→s'.heap.get? D=some (seqObj "list" (List.toArray (zs.map (·.2))) c)→P (.done (.ret .none)) s') :
    wpAny (model X.prog X.w) A (ksk_end D false vs.toArray e1 (.ref kS) ks.toArray) P E s:=by
  obtain ⟨g1,g2⟩:=G A ks _ s hks I
  unfold ksk_end
  try dsimp only
  simp only [Bool.false_eq_true,if_false]
  have hsz:vs.toArray.size=vs.length:=by simp
  have zl:((ks.toArray.zip vs.toArray).toList:List Keyed)=ks.zip vs:=by simp
  by_cases h2:vs.toArray.size < 2
  · rw [if_pos h2,if_pos h2]
    refine wpAny_bind (wpAny_pure ?_)
    rw [StateT.run_pure]
    refine wpAny_bind (wpAny_pure ?_)
    dsimp only
    have e2:(arrOf (SortSt.mk' general' (ks.toArray.zip vs.toArray) #[] 7 none)).map (·.2)=List.toArray ((ks.zip vs).map (·.2)):=by
      show (ks.toArray.zip vs.toArray).map (·.2)=_
      apply Array.ext'
      rw [Array.toList_map,zl]
    refine gsk_tail I hk1 hkc hkp hD1 hDc hDp e2 (by rw [List.length_map,List.length_zip,hl,Nat.min_self]; exact hz) (by omega) rfl fun c s' I' e'=>h _ c s' (List.Perm.refl _) ?_ I' e'
    rw [hsz] at h2
    have l1:((ks.zip vs).map fun p=>κ p.1).length≤1:=by rw [List.length_map,List.length_zip]; omega
    generalize (ks.zip vs).map (fun p=>κ p.1)=l at l1
    match l,l1 with
    | [],_=>exact List.Pairwise.nil
    | [x],_=>exact List.pairwise_singleton _ _
  · rw [if_neg h2,if_neg h2]
    refine wpAny_bind (g1 _ _ (by omega) ?_)
    refine wpAny_bind (wpAny_mono (wpS_sortRunsG (A:=A) (E:=E) (s:=s) (M:=model X.prog X.w) (kd:=kd) (κ:=fun p=>κ p.1) (S:=fun p=>p∈ks.zip vs) (st:=SortSt.mk' kd (ks.toArray.zip vs.toArray) #[] 7 none)
      (Q:=fun _ st'=>(arrOf st').toList.Perm (ks.zip vs)∧failedOf st'=none∧Rise (fun p:Keyed=>κ p.1) (arrOf st').toList) (ltG_of fun x y hx hy C hc=>g2 _ (List.of_mem_zip hx).1 _ (List.of_mem_zip hy).1 C hc) rfl rfl rfl
      (fun x hx=>by rw [← zl]; exact hx) fun u p f r=>⟨by rw [← zl]; exact Array.perm_iff_toList_perm.mp p,f,r⟩) ?_ fun _ _ e=>e)
    rintro ⟨⟨⟩,st'⟩ s' ⟨rfl,hp,hf,hr⟩
    dsimp only
    have e2:(arrOf st').map (·.2)=List.toArray ((arrOf st').toList.map (·.2)):=by
      apply Array.ext'
      rw [Array.toList_map]
    refine gsk_tail I hk1 hkc hkp hD1 hDc hDp e2 (by rw [List.length_map,hp.length_eq,List.length_zip,hl,Nat.min_self]; exact hz) (by omega) hf fun c s' I' e'=>h _ c s' hp ?_ I' e'
    exact List.pairwise_map.mpr hr
theorem gsk_rest (G:KeyOk X σ H kvs kd κ) (I:Inv X ((kS,seqObj "list" #[] 0) :: (D,seqObj "list" #[] e1) :: pins) σ H s) (hk1:X.s₀.heap.objs.size≤kS) (hkc:∀ x c,X.env.cells.lookup x=some c→c≠kS) (hkp:∀ p∈X.pn++((D,seqObj "list" #[] e1) :: pins),p.1≠kS)
    (hD1:X.s₀.heap.objs.size≤D) (hDc:∀ x c,X.env.cells.lookup x=some c→c≠D) (hDp:∀ p∈X.pn++pins,p.1≠D) (hl:kvs.length=vs.length) (hz:vs.length≤sizeLine)
    (hcall:∀ (i:Nat) (v:Value) (k:V) (pins':List (Addr × Obj)) (s':Shared),vs[i]?=some v→kvs[i]?=some k→Inv X pins' σ H s'→wpAny (model X.prog X.w) A (call (.ref f) [v]) (fun u s''=>RelV k u∧Inv X pins' σ H s'') (fun _ _=>False) s')
    (h:∀ (ks:List Value) (zs:List Keyed) (c:Nat) (s':Shared),Vals kvs ks→zs.Perm (ks.zip vs)→(zs.map fun p=>κ p.1).Pairwise (·≤·)→Inv X pins σ H s'→s'.heap.get? D=some (seqObj "list" (List.toArray (zs.map (·.2))) c)→P (.done (.ret .none)) s') :
    wpAny (model X.prog X.w) A (ksk_rest D (.ref f) false vs.toArray e1 (.ref kS)) P E s:=by
  unfold ksk_rest
  refine wpAny_bind (wpAny_rule ?_)
  first
    | rw [List.forIn_toArray]
    | (rw [← Array.forIn_toList]; simp only [List.toList_toArray])
    | rw [← Array.forIn_toList]
  refine wpAny_bind (ksk_fold (fun i s'=>∃ (ks:List Value) (e:Nat),Vals (kvs.take i) ks∧Inv X ((kS,seqObj "list" ks.toArray e) :: (D,seqObj "list" #[] e1) :: pins) σ H s') vs 0 s ⟨[],0,by rw [List.take_zero]; exact .nil,I⟩ (fun j x s' hx hJ=>?_) fun s' hJ=>?_)
  · obtain ⟨ks,e,hv,J⟩:=hJ
    rw [Nat.zero_add] at hv ⊢
    have hj:j < kvs.length:=by rw [hl]; exact (List.getElem?_eq_some_iff.mp hx).1
    have htj:kvs[j]?=some kvs[j]:=List.getElem?_eq_getElem hj
    refine wpAny_bind (wpAny_attempt (wpAny_mono (hcall j x kvs[j] _ s' hx htj J) (fun u s'' hu=>?_) fun _ _ hF=>hF.elim))
    obtain ⟨ru,J'⟩:=hu
    have ek:=pin_seq J' List.mem_cons_self
    obtain ⟨c,J2⟩:=J'.repin (g:=(·.push u)) hk1 hkc hkp
    have ea:(ks.toArray).push u=(ks++[u]).toArray:=by simp
    rw [ea] at J2
    have lk:ks.length=j:=by rw [← hv.length,List.length_take]; omega
    try dsimp only
    refine wpAny_bind (listUpdate_at ek rfl ?_ (by rw [List.size_toArray]; omega) (Nat.le_trans (Nat.le_of_eq (Array.size_push ..)) (by rw [List.size_toArray]; omega)))
    exact wpAny_pure ⟨rfl,ks++[u],c,by rw [List.take_succ,htj]; exact hv.append (.cons ru .nil),J2⟩
  · obtain ⟨ks,e,hv,J⟩:=hJ
    rw [Nat.zero_add,← hl,List.take_length] at hv
    try dsimp only
    refine wpAny_bind (listItems_at (pin_seq J List.mem_cons_self) rfl ?_)
    exact gsk_end G hv J hk1 hkc hkp hD1 hDc hDp (by rw [← hv.length]; exact hl) hz fun zs c s'=>h ks zs c s' hv
end
theorem list_sortG {X:Cx} {pins:List (Addr × Obj)} {σ:St} {H:Hp} {s:Shared} {A:Around} {D f:Addr} {vs:List Value} {n:Nat} {kvs:List V} {kd:SortKind} {κ:Value→Int} {P:PySem.Fin→Shared→Prop} {E:Value→Shared→Prop} (G:KeyOk X σ H kvs kd κ)
    (I:Inv X pins σ H s) (ho:s.heap.get? D=some (seqObj "list" vs.toArray n)) (hD:H D=none) (hD1:X.s₀.heap.objs.size≤D) (hDL:D≠X.env.locals) (hDf:D ∉ X.fs) (hDc:∀ x c,X.env.cells.lookup x=some c→c≠D) (hDp:∀ p∈X.pn++pins,p.1≠D)
    (hl:kvs.length=vs.length) (hz:vs.length≤sizeLine)
    (hcall:∀ (i:Nat) (v:Value) (k:V) (pins':List (Addr × Obj)) (s':Shared),vs[i]?=some v→kvs[i]?=some k→Inv X pins' σ H s'→wpAny (model X.prog X.w) A (call (.ref f) [v]) (fun u s''=>RelV k u∧Inv X pins' σ H s'') (fun _ _=>False) s')
    (h:∀ (ks:List Value) (zs:List Keyed) (c:Nat) (s':Shared),Vals kvs ks→zs.Perm (ks.zip vs)→(zs.map fun p=>κ p.1).Pairwise (·≤·)→Inv X pins σ H s'→s'.heap.get? D=some (seqObj "list" (List.toArray (zs.map (·.2))) c)→P (.done (.ret .none)) s') :
    wpAny (model X.prog X.w) A (Builtin.«list.sort» ⟨[.ref D],[(Str.ofString "key",.ref f)]⟩) P E s:=by
  rw [ksk_t1]
  unfold ksk_tree
  refine wpAny_bind (listItems_at ho rfl ?_)
  refine wpAny_bind (listUpdate_at ho rfl ?_ (by rw [List.size_toArray]; exact hz) (Nat.zero_le _))
  obtain ⟨e1,ho1⟩:∃ e1,(s.heap.update D (Obj.mapSeq fun _=>(#[]:Array Value))).get? D=some (seqObj "list" #[] e1):=⟨_,get?_update_seq ho fun _=>#[]⟩
  have I1:Inv X pins σ H { s with heap:=s.heap.update D (Obj.mapSeq fun _=>(#[]:Array Value)),toks:=s.toks }:=I.turned (it:=D) (fun b o nb q=>by rw [Heap.get?_update_ne _ _ _ _ nb]; exact q) hD hDL (.inr hD1) hDc hDp
  have I1:Inv X ((D,seqObj "list" #[] e1) :: pins) σ H { s with heap:=s.heap.update D (Obj.mapSeq fun _=>(#[]:Array Value)) }:=I1.pins_of fun p hp=>by
    rcases List.mem_cons.mp hp with rfl | hp
    · exact ⟨ho1,hD,hDL,hDf,fun v z=>nomatch z⟩
    · exact I1.pin p (List.mem_append_right _ hp)
  refine wpAny_bind (seqEpoch_at ho1 rfl ?_)
  refine wpAny_bind (wpAny_newTuple ?_ hz)
  refine wpAny_bind (wpAny_newList ?_ (Nat.zero_le _))
  refine wpAny_holding ?_
  have I2:=(I1.kept (t':=s.toks) (h':=(s.heap.update D (Obj.mapSeq fun _=>(#[]:Array Value))).push (seqObj "tuple" vs.toArray 0)) fun b u q=>Heap.get?_push_of_some _ q)
  have ap:=I2.apart (D:=((s.heap.update D (Obj.mapSeq fun _=>(#[]:Array Value))).push (seqObj "tuple" vs.toArray 0)).objs.size) (Nat.le_refl _)
  have I3:=I2.kept (t':=s.toks) (h':=((s.heap.update D (Obj.mapSeq fun _=>(#[]:Array Value))).push (seqObj "tuple" vs.toArray 0)).push (seqObj "list" #[] 0)) fun b u q=>Heap.get?_push_of_some _ q
  have hk0:(((s.heap.update D (Obj.mapSeq fun _=>(#[]:Array Value))).push (seqObj "tuple" vs.toArray 0)).push (seqObj "list" #[] 0)).get? ((s.heap.update D (Obj.mapSeq fun _=>(#[]:Array Value))).push (seqObj "tuple" vs.toArray 0)).objs.size=some (seqObj "list" #[] 0):=Heap.get?_push_size _ rfl
  show wpAny (model X.prog X.w) A (ksk_rest D (.ref f) false vs.toArray e1 (.ref ((s.heap.update D (Obj.mapSeq fun _=>(#[]:Array Value))).push (seqObj "tuple" vs.toArray 0)).objs.size)) P E { s with heap:=((s.heap.update D (Obj.mapSeq fun _=>(#[]:Array Value))).push (seqObj "tuple" vs.toArray 0)).push (seqObj "list" #[] 0) }
  obtain ⟨a1,a2,a3,a4,a5,a6⟩:=ap
  refine gsk_rest G (I3.pins_of fun p hp=>?_) a2 a5 a6 hD1 hDc hDp hl hz hcall h
  rcases List.mem_cons.mp hp with rfl | hp
  · exact ⟨hk0,a1,a3,a4,fun v z=>nomatch z⟩
  · exact I3.pin p (List.mem_append_right _ hp)
theorem run_sortedG {X:Cx} {pins:List (Addr × Obj)} {σ:St} {H:Hp} {s:Shared} {f p:Addr} {β:Type} {ts:List (Addr × β)} {kv:Addr × β→V} {K:Addr × β→Int} {kd:SortKind} {κ:Value→Int} {Q:VK} (I:Inv X pins σ H s) (hp:SqL X.K H p (ts.map fun t=>V.ref t.1)) (G:KeyOk X σ H (ts.map kv) kd κ)
    (hκ:∀ t∈ts,∀ u,RelV (kv t) u→κ u=K t)
    (hcall:∀ t∈ts,∀ (pins':List (Addr × Obj)) (s':Shared),Inv X pins' σ H s'→wpAny (model X.prog X.w) X.A.in1.in1 (call (.ref f) [.ref t.1]) (fun u s''=>RelV (kv t) u∧Inv X pins' σ H s'') (fun _ _=>False) s')
    (h:∀ l (ts':List (Addr × β)),H l=none→ts'.Perm ts→(ts'.map K).Pairwise (·≤·)→Q (.ref l) (upd H l (.lst (ts'.map fun t=>V.ref t.1)))) :
    wpAny (model X.prog X.w) X.A (call (.builtin "sorted") [.ref p] [(Str.ofString "key",.ref f)]) (EP X pins σ Q) X.xe s:=by
  obtain ⟨its,rv,pl,hz⟩:=I.list hp
  have hits:its=ts.map fun t=>Value.ref t.1:=by
    have:=refs_vals (ts:=ts.map (·.1)) (its:=its) (by rw [List.map_map]; exact rv)
    rw [this,List.map_map]; rfl
  have hlen:its.length=ts.length:=by rw [hits,List.length_map]
  rw [List.length_map] at hz
  refine call_function_entry_kw kind_sorted plain_sorted entry_sorted (ksk_s1 _ _) ?_
  unfold Builtin.«sorted»
  refine wpAny_bind (m:=checkCount "sorted" 1 1 _) (wpAny_pure ?_)
  refine wpAny_bind (collect_list pl.isList ?_ (by rw [hlen]; exact hz))
  refine wpAny_bind (wpAny_newList ?_ (by rw [hlen]; exact hz))
  have hsz:((s.heap.push (seqObj "list" #[] 0)).update s.heap.objs.size (Obj.mapSeq (·++its.toArray))).objs.size=s.heap.objs.size+1:=by
    rw [Heap.size_update,size_push']
  have hoL:(((s.heap.push (seqObj "list" #[] 0)).update s.heap.objs.size (Obj.mapSeq (·++its.toArray))).push (seqObj "list" its.toArray 0)).get? (s.heap.objs.size+1)=some (seqObj "list" its.toArray 0):=by
    rw [← hsz]; exact Heap.get?_push_size _ rfl
  have keep:∀ b o,s.heap.get? b=some o→(((s.heap.push (seqObj "list" #[] 0)).update s.heap.objs.size (Obj.mapSeq (·++its.toArray))).push (seqObj "list" its.toArray 0)).get? b=some o:=fun b o q=>by
    have hlt:b < s.heap.objs.size:=Heap.lt_size q
    rw [Heap.get?_push_ne _ _ _ (by rw [hsz]; exact Nat.ne_of_lt (Nat.lt_succ_of_lt hlt)),Heap.get?_update_ne _ _ _ _ (Nat.ne_of_lt hlt),Heap.get?_push_ne _ _ _ (Nat.ne_of_lt hlt)]
    exact q
  obtain ⟨a1,a2,a3,a4,a5,a6⟩:=I.apart (D:=s.heap.objs.size+1) (Nat.le_succ _)
  have I3:Inv X pins σ H { s with heap:=((s.heap.push (seqObj "list" #[] 0)).update s.heap.objs.size (Obj.mapSeq (·++its.toArray))).push (seqObj "list" its.toArray 0) }:=I.kept (t':=s.toks) keep
  show wpAny _ _ _ _ _ { s with heap:=((s.heap.push (seqObj "list" #[] 0)).update s.heap.objs.size (Obj.mapSeq (·++its.toArray))).push (seqObj "list" its.toArray 0) }
  rw [hsz]
  refine wpAny_bind (wpAny_holding (wpAny_call_entry_kw slot_list_sort ⟨_,hoL,rfl⟩ entry_list_sort ?body (ksk_l1 _ _)))
  case body =>
    refine list_sortG G I3 hoL a1 a2 a3 a4 a5 a6 (by rw [List.length_map,hlen]) (by rw [hlen]; exact hz) (fun i v k pins' s' hv hk J=>?_) fun ks zs c s' rk pz sz J eD=>?_
    · rw [List.getElem?_map] at hk
      obtain ⟨t0,ht0,rfl⟩:=Option.map_eq_some_iff.mp hk
      rw [hits,List.getElem?_map,ht0] at hv
      cases hv
      exact hcall t0 (List.mem_of_getElem? ht0) pins' s' J
    · refine ⟨_,rfl,wpAny_pure ⟨_,rfl,?_⟩⟩
      have lk:ks.length=ts.length:=by rw [← rk.length,List.length_map]
      have ez:ks.zip its=(ts.zip ks).map fun p=>(p.2,Value.ref p.1.1):=by
        rw [hits]
        clear rk sz pz hp G hκ hcall h hits rv pl hlen hz I3 hoL keep hsz J
        induction ts generalizing ks with
        | nil=>simp
        | cons t r ih =>
          match ks,lk with
          | k :: ks,lk =>
            have:=ih ks (by simpa using lk)
            simpa using this
      obtain ⟨ys,py,ey⟩:=perm_pre pz (ts.zip ks) ez
      have memK:∀ y∈ts.zip ks,κ y.2=K y.1:=fun y hy=>by
        refine hκ y.1 (List.of_mem_zip hy).1 y.2 ?_
        clear ez py ey pz sz hits rv pl hlen hz I3 hoL keep hsz J hp G hκ hcall h
        induction ts generalizing ks with
        | nil=>simp at hy
        | cons t r ih =>
          match ks,rk,lk with
          | k :: ks,.cons r1 r2,lk =>
            rw [List.zip_cons_cons] at hy
            rcases List.mem_cons.mp hy with rfl | hy
            · exact r1
            · exact ih ks r2 (by simpa using lk) hy
      have eO:zs.map (·.2)=(ys.map (·.1)).map fun t=>Value.ref t.1:=by
        rw [ey,List.map_map,List.map_map]; rfl
      have pT:(ys.map (·.1)).Perm ts:=by
        have:=py.map (·.1)
        rwa [List.map_fst_zip (by omega)] at this
      rw [eO] at eD
      refine ⟨.ref (s.heap.objs.size+1),_,J.track (o:=.lst ((ys.map (·.1)).map fun t=>V.ref t.1)) a1 a2 a3 a5 a6 ⟨?_,_,c,?_,eD⟩,rfl,h _ _ a1 pT ?_⟩
      · rw [List.length_map,pT.length_eq]; exact hz
      · have:=refs_vals' ((ys.map (·.1)).map (·.1))
        rw [List.map_map,List.map_map (l:=ys.map (·.1))] at this
        exact this
      · rw [ey,List.map_map] at sz
        rw [List.map_map]
        have:ys.map (K∘fun y=>y.1)=ys.map ((fun p:Keyed=>κ p.1)∘fun p=>(p.2,Value.ref p.1.1)):=List.map_congr_left fun y hy=>(memK y (py.mem_iff.mp hy)).symm
        rw [this]; exact sz
end L2
namespace L2
open PySem PySem.Spec PyProof.Rows PySem.W
def keyAt (H:Hp) (key:List Int→Int):Value→Int
  | .ref a=>match H a with
    | some (.tup l)=>key (l.map fun v=>match v with | .int i=>i | _=>0)
    | _=>0
  | _=>0
theorem keyAt_tup {H:Hp} {key:List Int→Int} {a:Addr} {ns:List Int} (h:H a=some (.tup (ns.map V.int))):keyAt H key (.ref a)=key ns:=by
  show (match H a with | some (.tup l)=>key (l.map fun v=>match v with | .int i=>i | _=>0) | _=>0)=key ns
  rw [h]
  show key ((ns.map V.int).map _)=key ns
  rw [List.map_map]
  congr 1
  exact List.map_id _
theorem keyOk_tup {X:Cx} {σ:St} {H:Hp} {kts:List (Addr × List Int)} {m:Nat} {key:List Int→Int} (ht:∀ t∈kts,t.2.length=m+1∧H t.1=some (.tup (t.2.map V.int))) (hkey:∀ t∈kts,∀ u∈kts,HT.lexLt t.2 u.2=decide (key t.2 < key u.2)) :
    KeyOk X σ H (kts.map fun t=>V.ref t.1) (tuples' true) (keyAt H key):=fun A ks pins s rk I=>by
  have hks:ks=kts.map fun t=>Value.ref t.1:=by
    have:=refs_vals (ts:=kts.map (·.1)) (its:=ks) (by rw [List.map_map]; exact rk)
    rw [this,List.map_map]; rfl
  subst hks
  have tup:=kind_of_keys (A:=A) I ht
  refine ⟨fun C E h2 hc=>?_,fun x hx y hy C hc=>?_⟩
  · obtain ⟨fs,f1,f2,f3⟩:=katTups_of tup
    rw [List.length_map] at h2
    exact kat_kind (T:=Value.type "int") f1 (by omega) (fun v hv=>by obtain ⟨n,tk,rfl⟩:=f3 v hv; exact .now) (by decide) hc
  · obtain ⟨t,mt,rfl⟩:=List.mem_map.mp hx
    obtain ⟨u,mu,rfl⟩:=List.mem_map.mp hy
    obtain ⟨l1,x1,⟨o1,g1,c1,n1,d1⟩,z1⟩:=tup t mt
    obtain ⟨l2,x2,⟨o2,g2,c2,n2,d2⟩,z2⟩:=tup u mu
    rw [keyAt_tup (ht t mt).2,keyAt_tup (ht u mu).2,← hkey t mt u mu] at hc
    have s1:=z1.length
    have s2:=z2.length
    exact kat_lt g1 d1 g2 d2 (katLex_ints (by rw [decide_eq_false]; simp at s1 s2; omega) 0 z1 z2 (by omega) hc)
def tSortLT (K:Frag) (mg:Str→Option Value) (N:List Str) (qual:Str) (params:Arguments) (body:Expr) (scope:Scope) (te:TE) (ta:TA) (tl:TE):TE:=fun σ H Q=>ta σ H fun xs H1=>tl σ H1 fun fv H2=>∃ (f c' p:Addr) (ctv:Value) (β:Type) (ts:List (Addr × β)) (kt:Addr × β→Addr × List Int) (m:Nat) (key:List Int→Int),
  fv=.ref f∧H2 f=some (ObjO f (lamObj mg qual params body scope [] c' ctv))∧H2 c'=some (CodeO c' qual)∧xs=[.ref p]∧SqL K H2 p (ts.map fun t=>V.ref t.1)∧(∀ t∈ts,(kt t).2.length=m+1∧H2 (kt t).1=some (.tup ((kt t).2.map V.int))) ∧
  (∀ t∈ts,te (start N [.ref t.1]) H2 fun y H'=>y=.ref (kt t).1∧H'=H2)∧(∀ t∈ts,∀ u∈ts,HT.lexLt (kt t).2 (kt u).2=decide (key (kt t).2 < key (kt u).2)) ∧
  ∀ l (ts':List (Addr × β)),H2 l=none→ts'.Perm ts→(ts'.map fun t=>key (kt t).2).Pairwise (·≤·)→Q (.ref l) (upd H2 l (.lst (ts'.map fun t=>V.ref t.1)))
section
variable {X:Cx} {k j:Nat} {y:Str} {ps:List Str} {sp:Sp} {e:Expr} {p q kp pos:Pos} {ta:TA}
theorem pe_sortLT {params:Arguments} {body:Expr} {scope:Scope} {qual:Str} {lp:Pos} {N ps:List Str} {te tl:TE} (hg:Gl X "sorted") (hm:X.mg "sorted"=none) (ha:PA X [e] ta) (hl:PE X (.Lambda params body scope lp) tl) (S:FnScope N ps scope) (hps:ps.length=1) (hr:Room (k+3) X.A)
    (hb:∀ (s:Shared) (pm ctv u:Value) (c':Addr),BindsTo s (kla_fn "<lambda>" qual params body scope [] pm (.ref c') ctv) ⟨[u],[]⟩ (ps.zip [u]))
    (hbody:∀ (A:Around) (outer:List Env) (s:Shared) (H:Hp) (f c':Addr),PE (cxOf CX0 X.prog X.w X.K X.mg X.base N qual scope f (.ref c') A outer s H E0) body te)
    (he:backTo pos (starEach [e] X.env)=(false,eval e X.env) :: backTo pos (starEach [] X.env):=by rfl) (hn:(backTo pos (starEach [e] X.env)).any (·.1)=false:=by rfl) :
    PE X (.Call (.Name "sorted" p) [e] [⟨some "key",.Lambda params body scope lp,kp⟩] pos) (tSortLT X.K X.mg N qual params body scope te ta tl):=by
  intro pins s σ H Q I h
  refine wpAny_Call_Name_kw (ld_blt I hg hm (by rfl) ?_)
  refine PyProof.Rows.callWith_kw (thn (ha pos pins s σ H _ I h) fun us s1 ⟨vs,H1,I1,r1,q1⟩=>?_) he hn
  refine PyProof.Rows.kws_cons (thn (hl pins s1 σ H1 _ I1 q1) fun fv s2 ⟨y,H2,I2,ry,q2⟩=>PyProof.Rows.kws_nil ?_)
  obtain ⟨f,c',l,ctv,β,ts,kt,m,key,rfl,hf,hc,rfl,hp,hk,hte,hkey,q⟩:=q2
  obtain ⟨u,rfl,ru⟩:=vals1 r1
  cases ru
  cases ry
  have G:=keyOk_tup (X:=X) (σ:=σ) (H:=H2) (kts:=ts.map kt) (m:=m) (key:=key) (fun t ht=>by obtain ⟨t0,m0,rfl⟩:=List.mem_map.mp ht; exact hk t0 m0) fun t ht u hu=>by
    obtain ⟨t0,m0,rfl⟩:=List.mem_map.mp ht
    obtain ⟨u0,m1,rfl⟩:=List.mem_map.mp hu
    exact hkey t0 m0 u0 m1
  rw [List.map_map] at G
  refine run_sortedG (K:=fun t=>key (kt t).2) (kv:=fun t=>V.ref (kt t).1) I2 hp G (fun t ht u hu=>by cases hu; exact keyAt_tup (hk t ht).2) (fun t ht pins' s' J=>?_) q
  exact wpAny_mono (lam_in (te:=te) (v:=.ref t.1) (u:=.ref t.1) J (J.env0.in1.in1) hf hc S ((hr.in1).in1) hps rfl (hb _ _ _ _ _) (hbody _ _ _ _ _ _) (hte t ht)) (fun u s'' ⟨e,J'⟩=>⟨by rw [e]; rfl,J'⟩) fun _ _ z=>z
end
end L2
namespace L2
open PySem PySem.Spec PyProof.Rows PySem.W
def OnlyT (Ts:List Addr) (H:Hp):Prop:=(∀ b,H b=none∨(∃ o xs,H b=some (.frz o (.lst xs)))∨(b∈Ts∧H b=some (.tbl #[])))∧∀ T∈Ts,H T=some (.tbl #[])
theorem codeTable_of {h:Heap} {c T:Addr} (x:CodeHd h c T):isCodeTable h T:=by
  obtain ⟨o,vs,file,tf,flags,tg,inF,text,tt,e1,e2,e3,e4,_⟩:=x
  exact ⟨c,o,vs,e1,e2,e3,e4⟩
theorem law_callT {P:Program} {w:World} {K:PySem.W.Frag} {mg mb:Str→Option Value} {CX:CXT} {k:Nat} {fa a:Addr} {fd:FuncData} {x:Str} {sp:Sp} {s₁:Shared} {vs:List Value} {ns:List Int} {Ts:List Addr}
    (KX:K.In s₁.heap) (hns:s₁.heap.Ns mainGlobals mg) (hb:s₁.heap.Ns builtinsNs mb) (hbb:∀ x:Str,x≠"__name__"→mb x=bootBuiltins x) (hlim:s₁.heap.NoLimit) (hg:s₁.gens=#[])
    (ha:s₁.heap.get? a=some { cls:=.type "list",data:=.seq vs.toArray }) (hi:IntsAre vs ns) (hl:ns.length≤sizeLine) (hr:Room k callerA)
    (hT:∀ T∈Ts,s₁.heap.get? T=some (tabObj #[])∧K.lookup T=none∧∃ c,CodeHd s₁.heap c T)
    (F:∀ base:Heap,K.In base→base.Ns mainGlobals mg→FnOk P w K mg base CX k fa fd [x] sp) (hbind:∀ (s:Shared) (u:Value),BindsTo s fd ⟨[u],[]⟩ [(x,u)])
    (hsp:∀ H:Hp,OnlyT Ts H→SqL K H a (ns.map V.int)→sp [.ref a] H (fun v _=>v=.bl true) fun _ _ _=>False)
    (hCX:∀ H e s',CX [] H s₁ (fun _ _ _=>False) e s'→False) :
    codeAny (model P w) callerA (.call (.ref fa) ⟨[.ref a],[]⟩) (fun r s'=>r=.ok (.ret (.bool true))∧OldK s₁.heap s'.heap∧s'.os=s₁.os∧AllBare s'.gens) s₁:=by
  have rv:=vals_ints hi
  have lenV:=hi.length
  have core:∀ H:Hp,OnlyT Ts H→SqL K H a (ns.map V.int)→HOk P w H s₁.heap→(∀ b,H b≠none→b=a∨b∈Ts)→(H a≠none→K.lookup a=none) →
      codeAny (model P w) callerA (.call (.ref fa) ⟨[.ref a],[]⟩) (fun r s'=>r=.ok (.ret (.bool true))∧OldK s₁.heap s'.heap∧s'.os=s₁.os∧AllBare s'.gens) s₁:=by
    intro H hO hS hok hA hK
    have base_of:∀ {b:Addr} {o:Obj},s₁.heap.get? b=some o→H b=none→(hidT s₁.heap H).get? b=some o:=fun e n=>hidT_get e n
    have noA:∀ {b:Addr} {o:Obj} {es:Array DictEntry} {ep:Nat},s₁.heap.get? b=some o→o.data=.dict es ep→H b=none:=fun {b o es ep} e d=>by
      cases q:H b with
      | none=>rfl
      | some u =>
        rcases hA b (by rw [q]; simp) with e' | e'
        · subst e'
          rw [ha] at e; cases e
          have d':Data.seq vs.toArray _=Data.dict es ep:=d
          cases d'
        · rw [(hT b e').1] at e; cases e
          cases d
    have nsK:∀ {b:Addr} {m:Str→Option Value},s₁.heap.Ns b m→(hidT s₁.heap H).Ns b m:=fun {b m} ⟨o,es,ep,e,d,r⟩=>⟨o,es,ep,base_of e (noA e d),d,r⟩
    have hKb:K.In (hidT s₁.heap H):=fun b o e=>base_of (KX b o e) (by
      cases q:H b with
      | none=>rfl
      | some u =>
        rcases hA b (by rw [q]; simp) with e' | e'
        · subst e'
          rw [hK (by rw [q]; simp)] at e; cases e
        · rw [(hT b e').2.1] at e; cases e)
    have hM:Mod K mg (hidT s₁.heap H):=⟨hKb,nsK hns,⟨mb,nsK hb,hbb⟩,let ⟨mc,h1,h2⟩:=hlim; ⟨mc,nsK h1,h2⟩⟩
    have e0:Env0 P w K mg (hidT s₁.heap H) callerA [] s₁ H:=⟨rfl,hM,fun b o e=>of_hidT e,Nat.le_of_eq (hidT_size _ _),trivial,fun b hb=>absurd (show b∈([]:List Addr) from hb) (by simp),hok,.of_eq hg⟩
    refine codeAny_mono ((F _ hKb (nsK hns)).run callerA [] s₁ H ⟨[.ref a],[]⟩ [.ref a] [.ref a] _ _ hr e0 (hbind s₁ (.ref a)) (.cons rfl .nil) (hsp H hO hS)) fun r s' h=>?_
    cases r with
    | error e=>exact (hCX H e s' h).elim
    | ok fl =>
      cases fl with
      | next=>exact False.elim h
      | brk=>exact False.elim h
      | cont=>exact False.elim h
      | ret u =>
        obtain ⟨v,H',os,bare,un,hok',r',q⟩:=h
        have q':v=.bl true:=q
        subst q'
        obtain rfl:u=Value.bool true:=r'
        have old:∀ b o,s₁.heap.get? b=some o→asItWas s₁.heap s'.heap b o∧∃ o',s'.heap.get? b=some o':=fun b o e=>by
          cases q:H b with
          | none =>
            have:=un.keep b o e q (by intro z; exact absurd (show b∈([]:List Addr) from z) (by simp)) (by simp)
            exact ⟨.inl this,_,this⟩
          | some u =>
            rcases hO.1 b with z | ⟨ob,xs,z⟩ | ⟨hb',z⟩
            · rw [q] at z; cases z
            · have z2:=un.frzs b ob _ z
              obtain ⟨e1,_⟩:=hok b _ z
              obtain ⟨e2,_⟩:=hok' b _ z2
              rw [e] at e1; cases e1
              exact ⟨.inl e2,_,e2⟩
            · obtain ⟨more,z2⟩:=un.tbls b #[] z
              have e2:s'.heap.get? b=some (tabObj (#[]++more)):=hok' b _ z2
              obtain ⟨e1,_,c,hc⟩:=hT b hb'
              rw [e] at e1; cases e1
              exact ⟨.inr (.inl ⟨codeTable_of hc,rfl,#[],more,rfl,e2⟩),_,e2⟩
        exact ⟨rfl,⟨fun b o e=>(old b o e).1,fun b o e=>(old b o e).2⟩,os,bare⟩
  have aT:a ∉ Ts:=fun z=>by
    have e:=(hT a z).1
    rw [ha] at e; cases e
  have tblT:∀ T∈Ts,∀ H:Hp,ObjOk P w H s₁.heap T (.tbl #[]):=fun T z H=>(hT T z).1
  cases hk:K.lookup a with
  | some o =>
    have e:=KX a o hk
    rw [ha] at e
    cases e
    refine core (fun b=>if b∈Ts then some (.tbl #[]) else none) ⟨fun b=>?_,fun T z=>if_pos z⟩ (.inr ⟨_,vs.toArray,_,hk,rfl,rfl,rfl,by rw [List.size_toArray,lenV]; exact hl,by simpa using rv⟩) (fun b u z=>?_) (fun b z=>?_) fun z=>absurd (if_neg aT) z
    · by_cases hb:b∈Ts
      · exact .inr (.inr ⟨hb,if_pos hb⟩)
      · exact .inl (if_neg hb)
    · by_cases hb:b∈Ts
      · have z':=(if_pos hb).symm.trans z
        cases z'
        exact tblT b hb _
      · have z':=(if_neg hb).symm.trans z
        cases z'
    · by_cases hb:b∈Ts
      · exact .inr hb
      · exact absurd (if_neg hb) z
  | none =>
    refine core (fun b=>if b=a then some (.frz { cls:=.type "list",data:=.seq vs.toArray } (.lst (ns.map V.int))) else if b∈Ts then some (.tbl #[]) else none) ⟨fun b=>?_,fun T z=>?_⟩ (.inl (.inr ⟨{ cls:=.type "list",data:=.seq vs.toArray },if_pos rfl⟩)) (fun b u z=>?_) (fun b z=>?_) fun _=>hk
    · by_cases hb:b=a
      · exact .inr (.inl ⟨_,_,if_pos hb⟩)
      · by_cases hb2:b∈Ts
        · exact .inr (.inr ⟨hb2,(if_neg hb).trans (if_pos hb2)⟩)
        · exact .inl ((if_neg hb).trans (if_neg hb2))
    · have ne:¬ T=a:=fun e=>aT (by rw [← e]; exact z)
      exact (if_neg ne).trans (if_pos z)
    · by_cases hb:b=a
      · have z':=(if_pos hb).symm.trans z
        cases z'
        subst hb
        exact ⟨ha,by rw [List.length_map]; exact hl,vs,_,rv,ha⟩
      · by_cases hb2:b∈Ts
        · have z':=((if_neg hb).trans (if_pos hb2)).symm.trans z
          cases z'
          exact tblT b hb2 _
        · have z':=((if_neg hb).trans (if_neg hb2)).symm.trans z
          cases z'
    · by_cases hb:b=a
      · exact .inl hb
      · by_cases hb2:b∈Ts
        · exact .inr hb2
        · exact absurd ((if_neg hb).trans (if_neg hb2)) z
theorem walk_ofT {l:PySem.W.OpenLaw} {n k:Nat} {q:Program} {loose:List Str} {XP:(Str→Option Value)→Heap→Prop} {YP:World→Heap→Prop} {d:DefRec} {K:Params→PySem.W.Frag} {CX:World→CXT} {sp:World→Sp} {x:Str} {Ts:List Addr}
    (hn:l.most=some n) (hn2:n≤sizeLine) (hdf:d.params.defaults=[]) (hr:Room k callerA)
    (hY:∀ (w:World) (h:Heap),YP w h→(K w.params).In h) (hT:∀ (w:World) (h:Heap),YP w h→∀ T∈Ts,h.get? T=some (tabObj #[])∧(K w.params).lookup T=none∧∃ c,CodeHd h c T)
    (F:∀ (w:World) (mg:Str→Option Value) (fa:Addr) (h:Heap),(K w.params).In h→h.Ns mainGlobals mg→mg d.name=some (.ref fa) →
      ∃ fd:FuncData,(∀ (s:Shared) (u:Value),BindsTo s fd ⟨[u],[]⟩ [(x,u)]) ∧
        ∀ base:Heap,(K w.params).In base→base.Ns mainGlobals mg→FnOk l.prog w (K w.params) mg base (CX w) k fa fd [x] (sp w))
    (hsp:∀ (w:World) (H:Hp) (a:Addr) (ns:List Int),ns.length≤n→OnlyT Ts H→SqL (K w.params) H a (ns.map V.int)→sp w [.ref a] H (fun v _=>v=.bl true) fun _ _ _=>False)
    (hCX:∀ (w:World) (H:Hp) (s:Shared) (e:Value) (s':Shared),CX w [] H s (fun _ _ _=>False) e s'→False) :
    PySem.W.WalkO q loose XP YP l.row.toRowW d [] (fun f vs=>PySem.call f vs):=by
  refine Att.attach_call hn hdf fun w s₀ s₁ mg mb fa o pm cd doc a vs ns G Y ho hd hcd hmg hobj hints hlen hg=>?_
  have KX:=hY w _ Y
  obtain ⟨fd,hb,hF⟩:=F w mg fa _ KX G.T.g hmg
  exact law_callT KX G.T.g G.T.b G.T.builtins G.T.nolimit hg hobj hints (Nat.le_trans hlen hn2) hr (hT w _ Y) hF hb (fun H hO hS=>hsp w H a ns hlen hO hS) fun H e s'=>hCX w H s₁ e s'
end L2
namespace L2
open PySem PySem.Spec PyProof.Rows PySem.W
structure FunC (K:PySem.W.Frag) (x qual:Str) (st:Stmt) (f:Addr) (fd:FuncData) (c:Addr):Prop where
  ex:∃ (oc:Value) (od:Option Addr) (kV doc pm:Value) (an:Option Addr) (ct:Value) (osl:Array (Option Value)),
    fd=PySem.W.fnOf x qual (defArgs st) (defBody st) (defScope st) .none kV doc pm an (.ref c) ct∧K.lookup f=some ⟨oc,od,.func fd,osl⟩∧PySem.W.codeIn K (.ref c) qual=true
  kp:PySem.W.keepIn K (.ref f)=true
section
variable {P:Program} {w:World} {K:PySem.W.Frag} {mg:Str→Option Value} {base:Heap} {x qual:Str} {st:Stmt} {f c:Addr} {fd:FuncData} {N ps:List Str} {k:Nat} {sp:Sp}
theorem FunC.fn (F:FunC K x qual st f fd c):Fun K x qual st f fd:=by
  obtain ⟨oc,od,kV,doc,pm,an,ct,osl,e,lk,hcd⟩:=F.ex
  exact ⟨⟨oc,od,kV,doc,pm,an,.ref c,ct,osl,e,lk,hcd⟩,F.kp⟩
theorem func_mk {oc:Value} {od an:Option Addr} {osl:Array (Option Value)} {kV doc pm cdv ct:Value} (l:K.lookup f=some ⟨oc,od,.func (PySem.W.fnOf x qual (defArgs st) (defBody st) (defScope st) .none kV doc pm an cdv ct),osl⟩)
    (cc:PySem.W.codeIn K cdv qual=true) (kp:PySem.W.keepIn K (.ref f)=true) (e:cdv=.ref c):FunC K x qual st f (PySem.W.fnOf x qual (defArgs st) (defBody st) (defScope st) .none kV doc pm an cdv ct) c:=by
  subst e
  exact ⟨⟨oc,od,kV,doc,pm,an,ct,osl,rfl,l,cc⟩,kp⟩
end
def codeTB (K:PySem.W.Frag) (c T:Addr):Bool:=match K.lookup c with
  | some o=>match o.data with
    | .fields vs=>(o.cls == .type "code") && (vs[11]? == some (.ref T)) && (match vs.getD 18 .none with | .str _ _=>true | _=>false) && (match vs.getD 7 .none with | .int _ _=>true | _=>false) && (match vs.getD 9 .none with | .bool _=>true | _=>false) && (match vs.getD 10 .none with | .int _ _=>true | _=>false) && (c != T)
    | _=>false
  | none=>false
theorem codeTB_of {K:PySem.W.Frag} {c T:Addr} (h:codeTB K c T=true):∀ hp:Heap,K.In hp→CodeHd hp c T:=fun hp KX=>by
  unfold codeTB at h
  cases e:K.lookup c with
  | none=>rw [e] at h; cases h
  | some o =>
    rw [e] at h
    cases d:o.data with
    | fields vs =>
      simp only [d,Bool.and_eq_true] at h
      obtain ⟨⟨⟨⟨⟨⟨h1,h2⟩,h3⟩,h4⟩,h5⟩,h6⟩,h7⟩:=h
      have h2:vs[11]?=some (.ref T):=eq_of_beq h2
      have e18:∃ a b,vs.getD 18 .none=.str a b:=by
        generalize vs.getD 18 .none=v at h3
        cases v with
        | str a b=>exact ⟨a,b,rfl⟩
        | _=>cases h3
      have e7:∃ a b,vs.getD 7 .none=.int a b:=by
        generalize vs.getD 7 .none=v at h4
        cases v with
        | int a b=>exact ⟨a,b,rfl⟩
        | _=>cases h4
      have e9:∃ a,vs.getD 9 .none=.bool a:=by
        generalize vs.getD 9 .none=v at h5
        cases v with
        | bool a=>exact ⟨a,rfl⟩
        | _=>cases h5
      have e10:∃ a b,vs.getD 10 .none=.int a b:=by
        generalize vs.getD 10 .none=v at h6
        cases v with
        | int a b=>exact ⟨a,b,rfl⟩
        | _=>cases h6
      obtain ⟨f1,f2,e18⟩:=e18
      obtain ⟨g1,g2,e7⟩:=e7
      obtain ⟨i1,e9⟩:=e9
      obtain ⟨t1,t2,e10⟩:=e10
      refine ⟨o,vs,f1,f2,g1,g2,i1,t1,t2,KX c o e,eq_of_beq h1,d,h2,?_,e18,e7,e9,e10,?_⟩
      · rw [Array.getD_eq_getD_getElem?,h2]; rfl
      · intro z; rw [z] at h7; simp at h7
    | _=>simp only [d] at h; cases h
def SameN (H H':Hp):Prop:=∀ a o,H a=some o→(∀ ps,o≠.tbl ps)→H' a=some o
theorem SameN.refl (H:Hp):SameN H H:=fun _ _ e _=>e
theorem SameN.trans {H H1 H2:Hp} (a:SameN H H1) (b:SameN H1 H2):SameN H H2:=fun x o e n=>b x o (a x o e n) n
theorem Same.n {H H':Hp} (s:Same H H'):SameN H H':=fun a o e _=>s a o e
theorem SameN.tup {H H':Hp} (s:SameN H H') {a:Addr} {xs:List V} (e:H a=some (.tup xs)):H' a=some (.tup xs):=s a _ e fun _ z=>nomatch z
theorem SameN.lst {H H':Hp} (s:SameN H H') {a:Addr} {xs:List V} (e:H a=some (.lst xs)):H' a=some (.lst xs):=s a _ e fun _ z=>nomatch z
def TabOk (pos:Pos) (qual:Str) (T:Addr) (H:Hp):Prop:=∃ ps,H T=some (.tbl ps)∧TriplesOk ps.toList∧(codeAmong pos ps.toList=none∨∃ c',codeAmong pos ps.toList=some (.ref c')∧H c'=some (CodeO c' qual))
theorem TabOk.same {pos:Pos} {qual:Str} {T:Addr} {H H':Hp} (h:TabOk pos qual T H) (s:Same H H'):TabOk pos qual T H':=by
  obtain ⟨ps,e,t,c⟩:=h
  refine ⟨ps,s _ _ e,t,?_⟩
  rcases c with c | ⟨c',c1,c2⟩
  · exact .inl c
  · exact .inr ⟨c',c1,s _ _ c2⟩
theorem TabOk.new {pos:Pos} {qual:Str} {T:Addr} {H:Hp} (h:H T=some (.tbl #[])):TabOk pos qual T H:=⟨#[],h,trivial,.inl rfl⟩
theorem triples_snoc {a b c:Int} {t u:Tok} {v:Value}:∀ (l:List Value),TriplesOk l→TriplesOk (l++[.int a t,.int b u,v])
  | [],_=>trivial
  | .int _ _ :: .int _ _ :: _ :: rest,h=>triples_snoc (c:=c) rest h
end L2
namespace L2
open PySem PySem.Spec PyProof.Rows PySem.W
section
variable {prog:Program} {w:World} {A:Around} {E:Value→Shared→Prop} {s:Shared}
theorem zip_self {vs:List Value} {p:Keyed} (h:p∈vs.zip vs):p.1=p.2∧p.2∈vs:=by
  induction vs with
  | nil=>simp at h
  | cons v r ih =>
    rw [List.zip_cons_cons] at h
    rcases List.mem_cons.mp h with rfl | h
    · exact ⟨rfl,List.mem_cons_self⟩
    · exact ⟨(ih h).1,List.mem_cons_of_mem _ (ih h).2⟩
theorem list_sort_treeN {a:Addr} {vs:List Value} {n:Nat} {P:PySem.Fin→Shared→Prop} {kd:SortKind} {κ:Value→Int} (ho:s.heap.get? a=some (seqObj "list" vs.toArray n)) (hz:vs.length≤sizeLine)
    (hK:∀ (Q:SortKind→Shared→Prop) (E:Value→Shared→Prop),2≤vs.length→Q kd { s with heap:=midHeap s.heap a vs }→wpAny (model prog w) A (keyKind' vs.toArray) Q E { s with heap:=midHeap s.heap a vs })
    (hL:∀ x∈vs,∀ y∈vs,∀ (C:Bool→Shared→Prop),C (decide (κ x < κ y)) { s with heap:=midHeap s.heap a vs }→wpAny (model prog w) A (keyLt' kd x y) C (fun _ _=>False) { s with heap:=midHeap s.heap a vs })
    (h:∀ zs:List Value,zs.Perm vs→(zs.map κ).Pairwise (·≤·)→P (.done (.ret .none)) { s with heap:=sortedHeap s.heap a vs zs.toArray }) :
    wpAny (model prog w) A (Builtin.«list.sort» ⟨[.ref a],[]⟩) P E s:=by
  rw [list_sort_plain]
  have ha:a < s.heap.objs.size:=Heap.lt_size ho
  refine wpAny_bind (listItems_at ho rfl ?_)
  refine wpAny_bind (listUpdate_at ho rfl ?_ (by rw [List.size_toArray]; exact hz) (Nat.zero_le _))
  obtain ⟨e1,ho1⟩:∃ e1,(s.heap.update a (Obj.mapSeq fun _=>#[])).get? a=some (seqObj "list" #[] e1):=⟨_,get?_update_seq ho (fun _=>#[])⟩
  refine wpAny_bind (seqEpoch_at ho1 rfl ?_)
  refine wpAny_bind (wpAny_newTuple ?_ hz)
  refine wpAny_bind (wpAny_newList ?_ (Nat.zero_le _))
  refine wpAny_holding ?_
  have ho6:(midHeap s.heap a vs).get? a=some (seqObj "list" #[] e1):=by
    unfold midHeap
    rw [Heap.get?_push_ne _ _ _ (by rw [size_push',Heap.size_update]; exact Nat.ne_of_lt (Nat.lt_succ_of_lt ha)),Heap.get?_push_ne _ _ _ (by rw [Heap.size_update]; exact Nat.ne_of_lt ha)]
    exact ho1
  show wpAny (model prog w) A _ P E { s with heap:=midHeap s.heap a vs }
  dsimp only
  have hsz:vs.toArray.size=vs.length:=by simp
  have zl:((vs.toArray.zip vs.toArray).toList:List Keyed)=vs.zip vs:=by simp
  by_cases h2:vs.toArray.size < 2
  · rw [if_pos h2,if_pos h2]
    refine wpAny_bind (wpAny_pure ?_)
    rw [StateT.run_pure]
    refine wpAny_bind (wpAny_pure ?_)
    dsimp only
    refine wpAny_bind (seqEpoch_at ho6 rfl ?_)
    refine wpAny_bind (listUpdate_at ho6 rfl ?_ (Nat.zero_le _) (by rw [Array.size_map]; show (pairsOf vs).size≤_; rw [pairsOf_size]; omega))
    simp only [bne_self_eq_false,Bool.false_eq_true,if_false]
    have hh:=h vs (List.Perm.refl _) (by
      rw [hsz] at h2
      clear hL hK h ho ho1 ho6 hz zl hsz
      match vs,h2 with
      | [],_=>exact List.Pairwise.nil
      | [x],_=>exact List.pairwise_singleton _ _)
    have e2:(arrOf (SortSt.mk' general' (vs.toArray.zip vs.toArray) #[] 7 none)).map (·.2)=vs.toArray:=by
      show (vs.toArray.zip vs.toArray).map (·.2)=vs.toArray
      apply Array.ext'
      simp [List.map_snd_zip]
    refine wpAny_pure ?_
    rw [e2]
    exact hh
  · rw [if_neg h2,if_neg h2]
    have h2':2≤vs.length:=by omega
    refine wpAny_bind (hK _ _ h2' ?_)
    refine wpAny_bind (wpAny_mono (wpS_sortRunsG (A:=A) (E:=E) (s:={ s with heap:=midHeap s.heap a vs }) (M:=model prog w) (kd:=kd) (κ:=fun p=>κ p.1) (S:=fun p=>p∈vs.zip vs) (st:=SortSt.mk' kd (vs.toArray.zip vs.toArray) #[] 7 none)
      (Q:=fun _ st'=>(arrOf st').toList.Perm (vs.zip vs)∧failedOf st'=none∧Rise (fun p:Keyed=>κ p.1) (arrOf st').toList) (ltG_of fun x y hx hy C hc=>hL _ (List.of_mem_zip hx).1 _ (List.of_mem_zip hy).1 C hc) rfl rfl rfl
      (fun x hx=>by rw [← zl]; exact hx) fun u p f r=>⟨by rw [← zl]; exact Array.perm_iff_toList_perm.mp p,f,r⟩) ?_ fun _ _ e=>e)
    rintro ⟨⟨⟩,st'⟩ s' ⟨rfl,hp,hf,hr⟩
    dsimp only
    have hout:(arrOf st').map (·.2)=List.toArray ((arrOf st').toList.map (·.2)):=by
      apply Array.ext'
      rw [Array.toList_map]
    have pz:((arrOf st').toList.map (·.2)).Perm vs:=by
      have:=hp.map (·.2)
      rwa [show (vs.zip vs).map (·.2)=vs from by simp [List.map_snd_zip]] at this
    have sz:(((arrOf st').toList.map (·.2)).map κ).Pairwise (·≤·):=by
      rw [List.map_map]
      have e:(arrOf st').toList.map (κ∘fun x=>x.2)=(arrOf st').toList.map fun p=>κ p.1:=List.map_congr_left fun p hp'=>by
        show κ p.2=κ p.1
        rw [(zip_self (hp.mem_iff.mp hp')).1]
      rw [e]
      exact List.pairwise_map.mpr hr
    rw [hout]
    refine wpAny_bind (seqEpoch_at ho6 rfl ?_)
    refine wpAny_bind (listUpdate_at ho6 rfl ?_ (Nat.zero_le _) (by show (List.toArray _).size≤_; rw [List.size_toArray,pz.length_eq]; omega))
    rw [hf]
    simp only [bne_self_eq_false,Bool.false_eq_true,if_false]
    exact wpAny_pure (h _ pz sz)
theorem sortedN {l:Addr} {vs:List Value} {kd:SortKind} {κ:Value→Int} {Q:Value→Shared→Prop} (hl:s.heap.IsList l vs.toArray) (hz:vs.length≤sizeLine)
    (hK:∀ (h':Heap),(∀ b o,s.heap.get? b=some o→h'.get? b=some o)→∀ (Q:SortKind→Shared→Prop) (E:Value→Shared→Prop),2≤vs.length→Q kd { s with heap:=h' }→wpAny (model prog w) A.in1.in1 (keyKind' vs.toArray) Q E { s with heap:=h' })
    (hL:∀ (h':Heap),(∀ b o,s.heap.get? b=some o→h'.get? b=some o)→∀ x∈vs,∀ y∈vs,∀ (C:Bool→Shared→Prop),C (decide (κ x < κ y)) { s with heap:=h' }→wpAny (model prog w) A.in1.in1 (keyLt' kd x y) C (fun _ _=>False) { s with heap:=h' })
    (h:∀ zs:List Value,zs.Perm vs→(zs.map κ).Pairwise (·≤·)→Q (.ref (s.heap.objs.size+1)) { s with heap:=sortedAll s.heap vs zs.toArray }) :
    wpAny (model prog w) A (call (.builtin "sorted") [.ref l]) Q E s:=by
  refine Calls.call_function_entry kind_sorted plain_sorted entry_sorted (args_sorted1 _) ?_
  unfold Builtin.«sorted»
  refine wpAny_bind (m:=checkCount "sorted" 1 1 _) (wpAny_pure ?_)
  refine wpAny_bind (collect_list hl ?_ hz)
  refine wpAny_bind (wpAny_newList ?_ hz)
  have hsz:((s.heap.push (seqObj "list" #[] 0)).update s.heap.objs.size (Obj.mapSeq (·++vs.toArray))).objs.size=s.heap.objs.size+1:=by
    rw [Heap.size_update,size_push']
  have hoL:(((s.heap.push (seqObj "list" #[] 0)).update s.heap.objs.size (Obj.mapSeq (·++vs.toArray))).push (seqObj "list" vs.toArray 0)).get? (s.heap.objs.size+1)=some (seqObj "list" vs.toArray 0):=by
    rw [← hsz]; exact Heap.get?_push_size _ rfl
  have keep:∀ b o,s.heap.get? b=some o→(((s.heap.push (seqObj "list" #[] 0)).update s.heap.objs.size (Obj.mapSeq (·++vs.toArray))).push (seqObj "list" vs.toArray 0)).get? b=some o:=fun b o q=>by
    have hlt:b < s.heap.objs.size:=Heap.lt_size q
    rw [Heap.get?_push_ne _ _ _ (by rw [hsz]; exact Nat.ne_of_lt (Nat.lt_succ_of_lt hlt)),Heap.get?_update_ne _ _ _ _ (Nat.ne_of_lt hlt),Heap.get?_push_ne _ _ _ (Nat.ne_of_lt hlt)]
    exact q
  show wpAny _ _ _ _ _ { s with heap:=((s.heap.push (seqObj "list" #[] 0)).update s.heap.objs.size (Obj.mapSeq (·++vs.toArray))).push (seqObj "list" vs.toArray 0) }
  rw [hsz]
  have mid:∀ b o,s.heap.get? b=some o→(midHeap (((s.heap.push (seqObj "list" #[] 0)).update s.heap.objs.size (Obj.mapSeq (·++vs.toArray))).push (seqObj "list" vs.toArray 0)) (s.heap.objs.size+1) vs).get? b=some o:=fun b o q =>
    midHeap_keep (Nat.ne_of_lt (Nat.lt_succ_of_lt (Heap.lt_size q))) (keep b o q)
  refine wpAny_bind (wpAny_holding (wpAny_call_entry slot_list_sort ⟨_,hoL,rfl⟩ entry_list_sort (list_sort_treeN (kd:=kd) (κ:=κ) (s:={ s with heap:=((s.heap.push (seqObj "list" #[] 0)).update s.heap.objs.size (Obj.mapSeq (·++vs.toArray))).push (seqObj "list" vs.toArray 0) }) hoL hz (fun Q E h2 hq=>hK _ mid Q E h2 hq) (fun x hx y hy C hc=>hL _ mid x hx y hy C hc) fun zs a1 a2=>⟨_,rfl,?_⟩) (args_list_sort _)))
  exact wpAny_pure ⟨_,rfl,h zs a1 a2⟩
end
section
variable {X:Cx}
def KeyAtA (X:Cx) (A:Around) (σ:St) (H:Hp) (kvs:List V) (kd:SortKind) (κ:Value→Int):Prop:=∀ (ks:List Value) (pins:List (Addr × Obj)) (s:Shared),Vals kvs ks→Inv X pins σ H s →
  (∀ (C:SortKind→Shared→Prop) (E:Value→Shared→Prop),2≤ks.length→C kd s→wpAny (model X.prog X.w) A (keyKind' ks.toArray) C E s) ∧
  ∀ x∈ks,∀ y∈ks,∀ C:Bool→Shared→Prop,C (decide (κ x < κ y)) s→wpAny (model X.prog X.w) A (keyLt' kd x y) C (fun _ _=>False) s
theorem sorted_run {pins:List (Addr × Obj)} {σ:St} {H:Hp} {s:Shared} {p:Addr} {β:Type} {ts:List (Addr × β)} {K:Addr × β→Int} {kd:SortKind} {κ:Value→Int} {Q:VK} (I:Inv X pins σ H s) (hp:SqL X.K H p (ts.map fun t=>V.ref t.1)) (G:KeyAtA X X.A.in1.in1 σ H (ts.map fun t=>V.ref t.1) kd κ) (hκ:∀ t∈ts,κ (.ref t.1)=K t)
    (q:∀ l (ts':List (Addr × β)),H l=none→ts'.Perm ts→(ts'.map K).Pairwise (·≤·)→Q (.ref l) (upd H l (.lst (ts'.map fun t=>V.ref t.1)))):wpAny (model X.prog X.w) X.A (call (.builtin "sorted") [.ref p]) (EP X pins σ Q) X.xe s:=by
  obtain ⟨its,rv,pl,hz⟩:=I.list hp
  have hits:its=ts.map fun t=>Value.ref t.1:=by
    have:=refs_vals (ts:=ts.map (·.1)) (its:=its) (by rw [List.map_map]; exact rv)
    rw [this,List.map_map]; rfl
  rw [List.length_map] at hz
  have hlen:its.length=ts.length:=by rw [hits,List.length_map]
  refine sortedN (kd:=kd) (κ:=κ) pl.isList (by rw [hlen]; exact hz) (fun h' k Q' E' h2 hq=>?_) (fun h' k x hx y hy C hc=>?_) fun zs pz sz=>?_
  · exact (G its pins { s with heap:=h' } rv (I.kept (t':=s.toks) k)).1 Q' E' h2 hq
  · exact (G its pins { s with heap:=h' } rv (I.kept (t':=s.toks) k)).2 x hx y hy C hc
  · obtain ⟨ts',pt,ez⟩:=perm_pre (f:=fun t:Addr × β=>Value.ref t.1) (l:=zs) (m:=its) pz ts hits
    subst ez
    obtain ⟨e,he⟩:=sortedAll_at s.heap its (List.toArray (ts'.map fun t=>Value.ref t.1))
    have hn:H (s.heap.objs.size+1)=none:=I.hok.fresh (Nat.le_succ _)
    refine ⟨.ref (s.heap.objs.size+1),_,I.laid (o:=.lst (ts'.map fun t=>V.ref t.1)) (t':=s.toks) (fun b o z=>sortedAll_old z) (Nat.le_succ _) ⟨?_,_,e,?_,he⟩,rfl,q _ _ hn pt ?_⟩
    · rw [List.length_map,pt.length_eq]; exact hz
    · have:=refs_vals' (ts'.map (·.1))
      rw [List.map_map,List.map_map] at this
      exact this
    · rw [List.map_map] at sz
      rw [show ts'.map K=ts'.map (κ∘fun t=>Value.ref t.1) from List.map_congr_left fun t ht=>(hκ t (pt.mem_iff.mp ht)).symm]
      exact sz
end
end L2
namespace L2
open PySem PySem.Spec PyProof.Rows PySem.W
abbrev PR:=Addr × Addr × List Int × V
def keyAtP (H:Hp) (key:List Int→Int):Value→Int
  | .ref a=>match H a with
    | some (.tup (.ref p :: _))=>keyAt H key (.ref p)
    | _=>0
  | _=>0
theorem keyAtP_of {H:Hp} {key:List Int→Int} {a p:Addr} {ns:List Int} {v:V} (h:H a=some (.tup [.ref p,v])) (h2:H p=some (.tup (ns.map V.int))):keyAtP H key (.ref a)=key ns:=by
  show (match H a with | some (.tup (.ref p :: _))=>keyAt H key (.ref p) | _=>0)=key ns
  rw [h]
  exact keyAt_tup h2
def intsD':List Int→Ds
  | []=>.nil
  | i :: r=>.cons (.at (.int i)) (intsD' r)
theorem intsD'_is {K:PySem.W.Frag} {H:Hp}:∀ (ns:List Int),DIss K H (intsD' ns) (ns.map V.int)
  | []=>by
    show DIss K H .nil []
    rw [DIss]
  | i :: r=>by
    show DIss K H (.cons (.at (.int i)) (intsD' r)) (.int i :: r.map V.int)
    rw [DIss]
    exact ⟨_,_,rfl,by rw [DIs]; exact ⟨rfl,rfl⟩,intsD'_is r⟩
theorem intsD'_dep:∀ (ns:List Int),deps (intsD' ns)=0
  | []=>by rw [intsD',deps]
  | i :: r=>by rw [intsD',deps,dep,intsD'_dep r]; rfl
theorem intsD'_eq:∀ (ns ms:List Int),deqs (intsD' ns) (intsD' ms)=decide (ns=ms)
  | [],[]=>by rw [intsD',deqs,decide_eq_true rfl]
  | [],j :: q=>by rw [intsD',intsD',deqs,decide_eq_false (by intro z; cases z)] <;> (intros; contradiction)
  | i :: r,[]=>by rw [intsD',intsD',deqs,decide_eq_false (by intro z; cases z)] <;> (intros; contradiction)
  | i :: r,j :: q=>by
    rw [intsD',intsD',deqs,intsD'_eq r q,deq]
    by_cases h:i=j
    · subst h
      by_cases h2:r=q
      · subst h2; simp [eqV]
      · rw [decide_eq_false h2,decide_eq_false (fun z=>h2 (List.cons.inj z).2),Bool.and_false]
    · rw [decide_eq_false (fun z=>h (List.cons.inj z).1)]
      have:eqV (.int i) (.int j)=false:=by simp [eqV,h]
      rw [this]; rfl
theorem katTups_refs {h:Heap}:∀ {ts:List PR},(∀ t∈ts,∃ m,IsTup h t.1 #[.ref t.2.1,m])→KatTups h (ts.map fun t=>Value.ref t.1) (ts.map fun t=>Value.ref t.2.1)
  | [],_=>KatTups.nil
  | t :: r,hh=>by
    obtain ⟨m,o,ho,hc,n,hd⟩:=hh t List.mem_cons_self
    exact KatTups.cons ho hc hd rfl (katTups_refs fun u hu=>hh u (List.mem_cons_of_mem _ hu))
theorem keyAt_pairs {X:Cx} {A:Around} {σ:St} {H:Hp} {ts:List PR} {m:Nat} {key:List Int→Int} (hu:A.units+8 < cLine) (ht:∀ t∈ts,H t.1=some (.tup [.ref t.2.1,t.2.2.2])∧H t.2.1=some (.tup (t.2.2.1.map V.int))∧t.2.2.1.length=m+1∧flatV t.2.2.2=true)
    (hkey:∀ t∈ts,∀ u∈ts,HT.lexLt t.2.2.1 u.2.2.1=decide (key t.2.2.1 < key u.2.2.1)) (huq:∀ t∈ts,∀ u∈ts,t.2.2.1=u.2.2.1→t=u):KeyAtA X A σ H (ts.map fun t=>V.ref t.1) (tuples' false) (keyAtP H key):=fun ks pins s rk I=>by
  have hks:ks=ts.map fun t=>Value.ref t.1:=by
    have:=refs_vals (ts:=ts.map (·.1)) (its:=ks) (by rw [List.map_map]; exact rk)
    rw [this,List.map_map]; rfl
  subst hks
  have tup:∀ t∈ts,(∃ mv,RelV t.2.2.2 mv∧IsTup s.heap t.1 #[.ref t.2.1,mv])∧∃ items,IsTup s.heap t.2.1 items∧IntsAre items.toList t.2.2.1:=fun t htm=>by
    obtain ⟨h1,h2,_,_⟩:=ht t htm
    obtain ⟨_,zs,rz,tz⟩:=(show ObjOk X.prog X.w H s.heap t.1 (.tup [.ref t.2.1,t.2.2.2]) from I.hok _ _ h1)
    obtain ⟨_,zs2,rz2,tz2⟩:=(show ObjOk X.prog X.w H s.heap t.2.1 (.tup (t.2.2.1.map V.int)) from I.hok _ _ h2)
    obtain ⟨u1,u2,rfl,r1,r2⟩:=vals2 rz
    cases r1
    exact ⟨⟨u2,r2,tz⟩,_,tz2,by simpa using intsAre_of rz2⟩
  refine ⟨fun C E h2 hc=>?_,fun x hx y hy C hc=>?_⟩
  · rw [List.length_map] at h2
    refine kat_kind (T:=Value.type "tuple") (katTups_refs fun t htm=>let ⟨⟨mv,_,z⟩,_⟩:=tup t htm; ⟨mv,z⟩) (by rw [List.length_map]; omega) (fun v hv=>?_) (by decide) hc
    obtain ⟨t,htm,rfl⟩:=List.mem_map.mp hv
    obtain ⟨_,items,⟨o,ho,hcl,_⟩,_⟩:=tup t htm
    rw [← hcl]
    exact (Looks.ld ho).andThen .now
  · obtain ⟨t,mt,rfl⟩:=List.mem_map.mp hx
    obtain ⟨u,mu,rfl⟩:=List.mem_map.mp hy
    obtain ⟨⟨m1,q1,o1,g1,c1,n1,d1⟩,i1,tp1,z1⟩:=tup t mt
    obtain ⟨⟨m2,q2,o2,g2,c2,n2,d2⟩,i2,tp2,z2⟩:=tup u mu
    obtain ⟨a1,a2,a3,a4⟩:=ht t mt
    obtain ⟨b1,b2,b3,b4⟩:=ht u mu
    rw [keyAtP_of a1 a2,keyAtP_of b1 b2,← hkey t mt u mu] at hc
    refine kat_lt g1 d1 g2 d2 ?_
    have D1:∀ ns,H t.2.1=some (.tup (ns.map V.int))→DIs X.K H (.tup (intsD' ns)) (.ref t.2.1):=fun ns h=>by
      rw [DIs]; exact ⟨_,_,rfl,SqT.of h,intsD'_is ns⟩
    have D2:DIs X.K H (.tup (intsD' u.2.2.1)) (.ref u.2.1):=by
      rw [DIs]; exact ⟨_,_,rfl,SqT.of b2,intsD'_is _⟩
    have dp:dep (.tup (intsD' t.2.2.1))≤1:=by rw [dep,intsD'_dep]; omega
    have eqp:SeqAt.EqAt A s (.ref t.2.1) (.ref u.2.1) (decide (t.2.2.1=u.2.2.1)):=by
      have:=eqAt_D I 1 A (.tup (intsD' t.2.2.1)) (.tup (intsD' u.2.2.1)) (.ref t.2.1) (.ref u.2.1) (.ref t.2.1) (.ref u.2.1) dp (D1 _ a2) D2 rfl rfl (by omega)
      rwa [deq,intsD'_eq] at this
    show KatLex X.prog X.w A false (decide ((#[Value.ref t.2.1,m1]:Array Value).size < (#[Value.ref u.2.1,m2]:Array Value).size)) C [(Value.ref t.2.1,Value.ref u.2.1),(m1,m2)] 0 s
    refine kat_cons (eqp _ _ _ _ (kat_go (fun e=>kat_yes ?_) fun e=>kat_no ?_))
    · obtain rfl:=huq t mt u mu (of_decide_eq_true e)
      have eqm:SeqAt.EqAt A s m1 m2 true:=by
        have dm:DIs X.K H (.at t.2.2.2) t.2.2.2:=by rw [DIs]; exact ⟨rfl,a4⟩
        have:=eqAt_D I 0 A (.at t.2.2.2) (.at t.2.2.2) t.2.2.2 t.2.2.2 m1 m2 (by rw [dep]; omega) dm dm q1 q2 (by omega)
        rwa [deq_refl _ dm] at this
      refine kat_cons (eqm _ _ _ _ (kat_yes (kat_nil ?_)))
      have:HT.lexLt t.2.2.1 t.2.2.1=false:=by rw [hkey t mt t mt]; exact decide_eq_false (by omega)
      rw [this] at hc
      exact hc
    · rw [show (false && (0 == 0))=false from rfl]
      exact kat_one _ _ (HT.lt_tupInts tp1 tp2 z1 z2 (by omega) hc)
section
variable {X:Cx}
theorem call_sortedP {k:Nat} (hr:Room k X.A):CallR X (.builtin "sorted") (fun xs H Q=>∃ (p:Addr) (ts:List PR) (m:Nat) (key:List Int→Int),xs=[.ref p]∧SqL X.K H p (ts.map fun t=>V.ref t.1) ∧
    (∀ t∈ts,H t.1=some (.tup [.ref t.2.1,t.2.2.2])∧H t.2.1=some (.tup (t.2.2.1.map V.int))∧t.2.2.1.length=m+1∧flatV t.2.2.2=true)∧(∀ t∈ts,∀ u∈ts,HT.lexLt t.2.2.1 u.2.2.1=decide (key t.2.2.1 < key u.2.2.1))∧(∀ t∈ts,∀ u∈ts,t.2.2.1=u.2.2.1→t=u) ∧
    ∀ l (ts':List PR),H l=none→ts'.Perm ts→(ts'.map fun t=>key t.2.2.1).Pairwise (·≤·)→Q (.ref l) (upd H l (.lst (ts'.map fun t=>V.ref t.1)))):=by
  intro pins s σ H xs us Q I r h
  obtain ⟨p,ts,m,key,rfl,hp,ht,hkey,huq,q⟩:=h
  obtain ⟨u,rfl,ru⟩:=vals1 r
  cases ru
  exact sorted_run I hp (keyAt_pairs (by have:=hr.units; show X.A.units+1+1+8 < _; omega) ht hkey huq) (fun t hm=>keyAtP_of (ht t hm).1 (ht t hm).2.1) q
end
end L2
namespace L2
open PySem PySem.Spec PyProof.Rows
section
variable {X:Cx}
end
section
variable {X:Cx}
end
end L2
namespace L2
open PySem PySem.Spec PyProof.Rows
section
variable {X:Cx}
end
end L2
namespace L2
end L2
namespace HT
open PySem PySem.Spec PyProof.Rows
section
variable {prog:Program} {w:World} {A:Around} {s:Shared} {E:Value→Shared→Prop}
end
end HT
namespace L2
open PySem PySem.Spec PyProof.Rows
section
variable {X:Cx}
end
section
variable {P:Program} {w:World} {K:PySem.W.Frag} {mg:Str→Option Value} {base:Heap} {x qual:Str} {st:Stmt} {f c:Addr} {fd:FuncData} {N ps:List Str} {k:Nat} {sp:Sp}
theorem FunC.ok (F:FunC K x qual st f fd c) (S:FnScope N ps (defScope st)) (len:∀ vs H Q E,sp vs H Q E→vs.length=ps.length)
    (hbody:∀ (A:Around) (outer:List Env) (s:Shared) (H:Hp) (vs:List V) (Q:VK) (E:XK),Room k (A.deeper (envOfC qual (defScope st) s.heap.objs.size f (.ref c)))→sp vs H Q E →
      ∃ t,PSs (cxOf CX0 P w K mg base N qual (defScope st) f (.ref c) A outer s H E).nox (defBody st) t∧t { nx:=fun _ H'=>Q .non H',rt:=Q } (start N vs) H):FnOk P w K mg base CX0 (k+1) f fd ps sp:=by
  obtain ⟨oc,od,kV,doc,pm,an,ct,osl,rfl,lk,hcd⟩:=F.ex
  refine fn_of lk hcd S len fun A outer s H vs Q E hr hsp=>?_
  obtain ⟨t,h,q⟩:=hbody A outer s H vs Q E hr hsp
  exact ⟨t,h.nox,q⟩
end
end L2
namespace L2
open PySem PySem.Spec PyProof.Rows PySem.W
def tkd (H:Hp) (L:List (Addr × Obj)):Hp:=fun a=>match L.lookup a with | some o=>some (ObjO a o) | none=>H a
def utk (H:Hp) (L:List (Addr × Obj)):Hp:=fun a=>match L.lookup a with | some _=>none | none=>H a
section
variable {P:Program} {w:World} {H H':Hp} {h h':Heap} {a:Addr} {o:Obj} {L:List (Addr × Obj)} {fs:List Addr}
theorem tkd_in (e:L.lookup a=some o):tkd H L a=some (ObjO a o):=by unfold tkd; rw [e]
theorem tkd_out (e:L.lookup a=none):tkd H L a=H a:=by unfold tkd; rw [e]
theorem utk_in (e:L.lookup a=some o):utk H L a=none:=by unfold utk; rw [e]
theorem utk_out (e:L.lookup a=none):utk H L a=H a:=by unfold utk; rw [e]
theorem utk_none (e:H a=none):utk H L a=none:=by
  cases q:L.lookup a with
  | none=>rw [utk_out q]; exact e
  | some o=>exact utk_in q
theorem out_of {u:HO} (hL:∀ a o,L.lookup a=some o→H a=none) (e:H a=some u):L.lookup a=none:=by
  cases q:L.lookup a with
  | none=>rfl
  | some o=>rw [hL a o q] at e; cases e
theorem out_of' {u:HO} (hL:∀ a o,L.lookup a=some o→H a=some (ObjO a o)) (e:H a=some u) (n:∀ o,u≠ObjO a o):L.lookup a=none:=by
  cases q:L.lookup a with
  | none=>rfl
  | some o=>rw [hL a o q] at e; cases e; exact absurd rfl (n o)
theorem HOk.tkd (hok:HOk P w H h) (hL:∀ a o,L.lookup a=some o→H a=none) (hc:∀ a o,L.lookup a=some o→h.get? a=some o):HOk P w (tkd H L) h:=fun a u e=>by
  cases q:L.lookup a with
  | some o =>
    rw [tkd_in q] at e; cases e
    exact objO_ok (hc a o q)
  | none =>
    rw [tkd_out q] at e
    exact (hok a u e).stay (fun _ _ _ z=>z) (fun b z=>by rw [tkd_out (out_of hL z)]; exact z) (fun b xs z=>by rw [tkd_out (out_of hL z)]; exact z)
theorem HOk.utk (hok:HOk P w H h) (hL:∀ a o,L.lookup a=some o→H a=some (ObjO a o)):HOk P w (utk H L) h:=fun a u e=>by
  cases q:L.lookup a with
  | some o=>rw [utk_in q] at e; cases e
  | none =>
    rw [utk_out q] at e
    exact (hok a u e).stay (fun _ _ _ z=>z) (fun b z=>by rw [utk_out (out_of' hL z (fun _ z=>nomatch z))]; exact z) (fun b xs z=>by rw [utk_out (out_of' hL z (fun _ z=>nomatch z))]; exact z)
theorem Un.utk (u:Un fs [] (L2.tkd H L) H' h h') (hok:HOk P w H' h') (hL:∀ a o,L.lookup a=some o→H a=none) (hc:∀ a o,L.lookup a=some o→h.get? a=some o) (hf:∀ a o,L.lookup a=some o→a ∉ fs) (hk:∀ a o,L.lookup a=some o→H' a=some (ObjO a o)):Un fs [] H (L2.utk H' L) h h' where
  keep b o q n nf nx:=by
    cases e:L.lookup b with
    | some o' =>
      rw [hc b o' e] at q; cases q
      exact (hok b _ (hk b o e)).1
    | none=>exact u.keep b o q (by rw [tkd_out e]; exact n) nf nx
  slot b o q n hb nx:=by
    cases e:L.lookup b with
    | some o'=>exact absurd hb (hf b o' e)
    | none=>exact u.slot b o q (by rw [tkd_out e]; exact n) hb nx
  free b o q n nx:=by
    cases e:L.lookup b with
    | some o'=>exact utk_in e
    | none=>rw [utk_out e]; exact u.free b o q (by rw [tkd_out e]; exact n) nx
  there b o q nx:=u.there b o q nx
  tups b xs e:=by
    have n:=out_of hL e
    rw [utk_out n]; exact u.tups b xs (by rw [tkd_out n]; exact e)
  frzs b o v e:=by
    have n:=out_of hL e
    rw [utk_out n]; exact u.frzs b o v (by rw [tkd_out n]; exact e)
  tbls b ps e:=by
    have n:=out_of hL e
    rw [utk_out n]; exact u.tbls b ps (by rw [tkd_out n]; exact e)
theorem Un.tkd (u:Un fs [] (L2.utk H L) H' h h') (hL:∀ a o,L.lookup a=some o→H a=some (ObjO a o)):Un fs [] H (L2.tkd H' L) h h':=by
  have out:∀ {b},H b=none→L.lookup b=none:=fun {b} n=>by
    cases e:L.lookup b with
    | none=>rfl
    | some o=>rw [hL b o e] at n; cases n
  exact {
    keep:=fun b o q n nf nx=>u.keep b o q (utk_none n) nf nx
    slot:=fun b o q n hb nx=>u.slot b o q (utk_none n) hb nx
    free:=fun b o q n nx=>by rw [tkd_out (out n)]; exact u.free b o q (utk_none n) nx
    there:=fun b o q nx=>u.there b o q nx
    tups:=fun b xs e=>by
      have n:=out_of' hL e (fun _ z=>nomatch z)
      rw [tkd_out n]; exact u.tups b xs (by rw [utk_out n]; exact e)
    frzs:=fun b o v e=>by
      have n:=out_of' hL e (fun _ z=>nomatch z)
      rw [tkd_out n]; exact u.frzs b o v (by rw [utk_out n]; exact e)
    tbls:=fun b ps e=>by
      have n:=out_of' hL e (fun _ z=>nomatch z)
      rw [tkd_out n]; exact u.tbls b ps (by rw [utk_out n]; exact e) }
end
def FvOk (P:Program) (w:World) (K:Frag) (mg:Str→Option Value) (base:Heap) (k:Nat) (H:Hp) (f:Addr) (sp:Sp):Prop :=
  (∃ o fd,H f=some (ObjO f o)∧o.data=.func fd)∧∀ (A:Around) (outer:List Env) (s:Shared) (H':Hp) (us:List Value) (vs:List V) (Q:VK) (E:XK),Same H H'→Room k A→Env0 P w K mg base A outer s H'→Vals vs us→sp vs H' Q E →
    codeAny (model P w) A (.call (.ref f) ⟨us,[]⟩) (CR CX0 outer P w H' s Q E) s
theorem FvOk.same {P:Program} {w:World} {K:Frag} {mg:Str→Option Value} {base:Heap} {k:Nat} {H H':Hp} {f:Addr} {sp:Sp} (h:FvOk P w K mg base k H f sp) (s:Same H H'):FvOk P w K mg base k H' f sp :=
  ⟨let ⟨o,fd,e,d⟩:=h.1; ⟨o,fd,s _ _ e,d⟩,fun A outer sh H2 us vs Q E s2=>h.2 A outer sh H2 us vs Q E (s.trans s2)⟩
def tFv (P:Program) (w:World) (K:Frag) (mg:Str→Option Value) (base:Heap) (k:Nat) (tv:TE) (t:TA):TE:=fun σ H Q=>tv σ H fun v H1=>∃ f sp,v=.ref f∧FvOk P w K mg base k H1 f sp∧t σ H1 fun vs H2=>Same H1 H2∧sp vs H2 Q E0
section
variable {X:Cx} {k j:Nat} {y:Str} {p pos:Pos} {e:Expr} {es:List Expr} {tv:TE} {t:TA}
theorem pe_fv (hr:Room j X.A) (hv:PE X (.Name y p) tv) (ha:PA X (e :: es) t) (hj:k≤j:=by decide)
    (he:starEach (e :: es) X.env=(false,eval e X.env) :: starEach es X.env:=by rfl) (hpl:(backTo pos (starEach es X.env)).any (·.1)=false:=by rfl):PE X (.Call (.Name y p) (e :: es) [] pos) (tFv X.prog X.w X.K X.mg X.base k tv t):=by
  intro pins s σ H Q I h
  refine wpAny_Call_Name_kw (thn (hv pins s σ H _ I h) fun u s1 ⟨v,H1,I1,r1,f,sp,e1,F,q1⟩=>?_)
  subst e1
  cases r1
  have fnat:∀ {H2:Hp} {s2:Shared},Same H1 H2→Inv X pins σ H2 s2→FnAt f s2.heap:=fun {H2 s2} sm I2=>by
    obtain ⟨o,fd,e,d⟩:=F.1
    have:=(show ObjOk X.prog X.w H2 s2.heap f (ObjO f o) from I2.hok f _ (sm _ _ e)).1
    obtain ⟨oc,od,dt,sl⟩:=o
    cases d
    exact ⟨_,_,_,_,this⟩
  refine callWith_F (fnat (Same.refl _) I1) (thn (ha pos pins s1 σ H1 _ I1 q1) fun us s2 ⟨vs,H2,I2,r,sm,q⟩=>⟨fnat sm I2,?_⟩) he hpl
  refine wpAny_call (codeAny_mono (F.2 X.A X.stack s2 H2 us vs Q E0 sm (hr.mono hj) I2.env0 r q) fun r s' hq=>?_)
  cases r with
  | error e=>exact pass0 pins σ H2 s2 e s' I2 hq
  | ok fl =>
    cases fl with
    | ret u=>exact I2.after hq
    | next=>exact False.elim hq
    | brk=>exact False.elim hq
    | cont=>exact False.elim hq
end
theorem lookup_by {g:Addr→Obj}:∀ {l:List Addr} {a:Addr},(l.map fun c=>(c,g c)).lookup a=if a∈l then some (g a) else none
  | [],a=>by simp
  | c :: r,a=>by
    rw [List.map_cons,List.lookup_cons]
    by_cases e:a=c
    · subst e; simp
    · have:(a == c)=false:=by simpa using e
      rw [this]
      show List.lookup a (r.map fun c=>(c,g c))=_
      rw [lookup_by]
      simp [e]
structure CellsAt (N:List Str) (clos:List (Str × Addr)) (σ:St) (H:Hp) (L:List (Addr × Obj)):Prop where
  new:∀ a o,L.lookup a=some o→H a=none
  has:∀ p∈clos,∃ o v,L.lookup p.2=some o∧o.data=.cell v
  val:∀ p∈clos,∀ (i:Nat) (v:V),N[i]?=some p.1→σ[i]?=some (some v)→∃ o u,L.lookup p.2=some o∧o.data=.cell (some u)∧RelV v u
def tCallC (N:List Str) (clos:List (Str × Addr)) (sp:Sp) (t:TA):TE:=fun σ H Q=>t σ H fun vs H1=>∀ L,CellsAt N clos σ H1 L→sp vs (tkd H1 L) (fun v H2=>(∀ a o,L.lookup a=some o→H2 a=some (ObjO a o))∧Q v (utk H2 L)) E0
section
variable {X:Cx} {k j:Nat} {x:Str} {ps:List Str} {sp:Sp} {p pos:Pos} {e:Expr} {es:List Expr} {t:TA} {clos:List (Str × Addr)}
theorem pe_fnC (D:DefOk X.prog X.w X.K X.mg X.base k x ps sp) (hr:Room j X.A) (ha:PA X (e :: es) t) (hcl:∀ p∈clos,X.env.cells.lookup p.1=some p.2∧X.env.kindOf p.1=some .cell) (hfn:∀ y,X.fn y=true) (hex:X.ex=[]) (hj:k≤j:=by decide) (hg:Gl X x:=by rfl) (hdb:(x == ("__debug__":Str))=false:=by decide)
    (he:starEach (e :: es) X.env=(false,eval e X.env) :: starEach es X.env:=by rfl) (hpl:(backTo pos (starEach es X.env)).any (·.1)=false:=by rfl):PE X (.Call (.Name x p) (e :: es) [] pos) (tCallC X.N clos sp t):=by
  obtain ⟨f,fd,F,hm,hk,hb⟩:=D.ex
  intro pins s σ H Q I h
  refine wpAny_Call_Name_kw (ld_glob I hg hm ?_ hdb)
  refine PySem.W.callWith_K (h₀:=X.base) I.ok.mod.kin hk (thn (ha pos pins s σ H _ I h) fun us s1 ⟨vs,H1,I1,r,q⟩=>⟨I1.kIn,?_⟩) he hpl
  let g:Addr→Obj:=fun c=>(s1.heap.get? c).getD ⟨.none,none,.plain,#[]⟩
  let L:List (Addr × Obj):=(clos.map (·.2)).map fun c=>(c,g c)
  have hLk:∀ a,L.lookup a=if a∈clos.map (·.2) then some (g a) else none:=fun a=>lookup_by
  have hcell:∀ p∈clos,∃ v,s1.heap.IsCell p.2 v:=fun p hp=>I1.cell p.1 p.2 (hcl p hp).1
  have hin:∀ a o,L.lookup a=some o→∃ p∈clos,p.2=a∧s1.heap.get? a=some o:=fun a o e=>by
    rw [hLk] at e
    split at e
    · rename_i hm
      obtain ⟨p,hp,rfl⟩:=List.mem_map.mp hm
      refine ⟨p,hp,rfl,?_⟩
      obtain ⟨v,o',ho',_⟩:=hcell p hp
      cases e
      show _=some ((s1.heap.get? p.2).getD _)
      rw [ho']; rfl
    · cases e
  have hof:∀ p∈clos,∀ o,s1.heap.get? p.2=some o→L.lookup p.2=some o:=fun p hp o e=>by
    rw [hLk,if_pos (List.mem_map.mpr ⟨p,hp,rfl⟩)]
    show some ((s1.heap.get? p.2).getD _)=_
    rw [e]; rfl
  have hnew:∀ a o,L.lookup a=some o→H1 a=none:=fun a o e=>by
    obtain ⟨p,hp,rfl,_⟩:=hin a o e
    exact I1.freeC p.1 p.2 (hcl p hp).1
  have hget:∀ a o,L.lookup a=some o→s1.heap.get? a=some o:=fun a o e=>let ⟨_,_,_,z⟩:=hin a o e; z
  have habove:∀ a o,L.lookup a=some o→X.s₀.heap.objs.size≤a:=fun a o e=>by
    obtain ⟨p,hp,rfl,_⟩:=hin a o e
    exact I1.ok.cab p.1 p.2 (hfn _) (hcl p hp).1
  have hnf:∀ a o,L.lookup a=some o→a ∉ frs X.stack:=fun a o e hb=>by
    have ab:=habove a o e
    obtain ⟨p,hp,rfl,_⟩:=hin a o e
    rcases List.mem_cons.mp (I1.stkSub _ hb) with z | z
    · exact I1.cne p.1 p.2 (hcl p hp).1 z
    · obtain ⟨_,o',ho',_⟩:=I1.ok.funs.mem z
      exact absurd (Nat.lt_of_lt_of_le (Heap.lt_size ho') ab) (Nat.lt_irrefl _)
  have CA:CellsAt X.N clos σ H1 L:=by
    refine ⟨hnew,fun p hp=>?_,fun p hp i v hi hv=>?_⟩
    · obtain ⟨v,o,ho,hd⟩:=hcell p hp
      exact ⟨o,v,hof p hp o ho,hd⟩
    · obtain ⟨m,hns,hloc⟩:=I1.loc
      obtain ⟨u,ru,hlook⟩:=hloc i p.1 v hi hv (.inr (.inl (hcl p hp).2))
      rcases hlook with ⟨k1,_⟩ | ⟨_,c,hc,o,ho,hd⟩
      · rw [(hcl p hp).2] at k1; cases k1
      · rw [(hcl p hp).1] at hc; cases hc
        exact ⟨o,u,hof p hp o ho,hd,ru⟩
  have hsp:=q L CA
  have e0:Env0 X.prog X.w X.K X.mg X.base X.A X.stack s1 (tkd H1 L):=by
    have z:=I1.env0
    refine ⟨z.frames,z.mod,fun b o e=>?_,z.bsz,z.funs,fun b hb=>?_,z.hok.tkd hnew hget,z.bare⟩
    · refine ⟨(z.bs b o e).1,?_⟩
      cases q:L.lookup b with
      | none=>rw [tkd_out q]; exact (z.bs b o e).2
      | some o'=>exact absurd (Nat.lt_of_lt_of_le (Heap.lt_size e) (Nat.le_trans I1.ok.bsz (habove b o' q))) (Nat.lt_irrefl _)
    · cases q:L.lookup b with
      | none=>rw [tkd_out q]; exact z.frf b hb
      | some o'=>exact absurd hb (hnf b o' q)
  have hl:us.length=ps.length:=by rw [← r.length]; exact F.len _ _ _ _ hsp
  have hbd:=hb s1 us I1.kIn (by rw [List.append_nil]; exact hl)
  rw [List.append_nil] at hbd
  refine wpAny_call (codeAny_mono (F.run X.A X.stack s1 (tkd H1 L) ⟨us,[]⟩ us vs _ E0 (hr.mono hj) e0 hbd r hsp) fun rs s' hq=>?_)
  cases rs with
  | error e=>exact pass0 pins σ H1 s1 e s' I1 (by exact hq)
  | ok fl =>
    cases fl with
    | ret u =>
      obtain ⟨v,H2,os,bare,un,hok,rv,hkp,q2⟩:=hq
      exact I1.after ⟨v,utk H2 L,os,bare,un.utk hok hnew hget hnf hkp,hok.utk hkp,rv,q2⟩
    | next=>exact False.elim hq
    | brk=>exact False.elim hq
    | cont=>exact False.elim hq
end
def cxCl (P:Program) (w:World) (K:Frag) (mg:Str→Option Value) (base:Heap) (N:List Str) (qual:Str) (scope:Scope) (f:Addr) (cd:Value) (clos:List (Str × Addr)) (A:Around) (outer:List Env) (s:Shared) (H Hx:Hp) (E:XK):Cx where
  prog:=P
  w:=w
  K:=K
  mg:=mg
  base:=base
  A:=A.deeper (envX qual scope s.heap.objs.size f cd clos)
  N:=N
  s₀:=s
  H₀:=H
  env:=envX qual scope s.heap.objs.size f cd clos
  outer:=outer
  stack:=envX qual scope s.heap.objs.size f cd clos :: outer
  ex:=[]
  calm:=true
  fn:=fun _=>false
  pn:=[]
  xe:=fun e s'=>wpAny (model P w) (A.deeper (envX qual scope s.heap.objs.size f cd clos)) (leaving (envX qual scope s.heap.objs.size f cd clos) e) (fun _ s''=>CX0 outer Hx s E e s'') (fun e' s''=>CX0 outer Hx s E e' s'') s'
theorem TabOk.lamC {clos:List (Str × Addr)} {mg:Str→Option Value} {pos:Pos} {qual:Str} {T:Addr} {params:Arguments} {body:Expr} {scope:Scope} {σ:St} {H:Hp} {Q:VK} (h:TabOk pos qual T H)
    (q:∀ c' f ctv H',SameX T H H'→TabOk pos qual T H'→H' f=some (ObjO f (lamObj mg qual params body scope clos c' ctv))→H' c'=some (CodeO c' qual)→(∀ b,H b=none→H' b=none∨b=c'∨b=f)→Q (.ref f) H'):tLam mg T pos params body scope clos qual σ H Q:=by
  obtain ⟨ps,e,t,c⟩:=h
  refine ⟨ps,e,t,?_⟩
  rcases c with c | ⟨c',c1,c2⟩
  · refine .inl ⟨c,fun c' f ctv hc hf n1 n2 n3=>?_⟩
    have eT:(upd (upd (upd H T (.tbl (ps++#[rawInt pos.line,rawInt pos.col,.ref c']))) c' (CodeO c' qual)) f (ObjO f (lamObj mg qual params body scope clos c' ctv))) T=some (.tbl (ps++#[rawInt pos.line,rawInt pos.col,.ref c'])):=by
      rw [upd_ne (Ne.symm n3),upd_ne (Ne.symm n2),upd_same]
    have eC:(upd (upd (upd H T (.tbl (ps++#[rawInt pos.line,rawInt pos.col,.ref c']))) c' (CodeO c' qual)) f (ObjO f (lamObj mg qual params body scope clos c' ctv))) c'=some (CodeO c' qual):=by
      rw [upd_ne n1,upd_same]
    refine q c' f ctv _ (fun a o ea no=>?_) ⟨_,eT,?_,.inr ⟨c',?_,eC⟩⟩ upd_same eC fun b hb=>?_
    · rw [upd_ne (ne_of_none no hf),upd_ne (ne_of_none no hc),upd_ne ea]
      exact no
    · rw [Array.toList_append]
      exact triples_snoc (c:=0) _ t
    · rw [Array.toList_append]
      exact codeAmong_snoc _ t c
    · by_cases h1:b=f
      · exact .inr (.inr h1)
      · by_cases h2:b=c'
        · exact .inr (.inl h2)
        · refine .inl ?_
          rw [upd_ne h1,upd_ne h2,upd_ne (fun z=>by rw [z,e] at hb; cases hb)]
          exact hb
  · refine .inr ⟨c',c1,c2,fun f ctv hf=>?_⟩
    have s:Same H (upd H f (ObjO f (lamObj mg qual params body scope clos c' ctv))):=Same.new hf
    refine q c' f ctv _ s.x (TabOk.same ⟨ps,e,t,.inr ⟨c',c1,c2⟩⟩ s) upd_same (s _ _ c2) fun b hb=>?_
    by_cases h1:b=f
    · exact .inr (.inr h1)
    · exact .inl (by rw [upd_ne h1]; exact hb)
theorem TabOk.tb {pos:Pos} {qual:Str} {T T':Addr} {H H':Hp} (h:TabOk pos qual T H) (s:SameX T' H H') (n:T≠T') (hT:∃ ps,H T'=some (.tbl ps)):TabOk pos qual T H':=by
  obtain ⟨ps,e,t,c⟩:=h
  refine ⟨ps,s _ _ n e,t,?_⟩
  rcases c with c | ⟨c',c1,c2⟩
  · exact .inl c
  · refine .inr ⟨c',c1,s _ _ (fun z=>?_) c2⟩
    obtain ⟨ps',e'⟩:=hT
    rw [z,e'] at c2; cases c2
theorem TabOk.tbl {pos:Pos} {qual:Str} {T:Addr} {H:Hp} (h:TabOk pos qual T H):∃ ps,H T=some (.tbl ps):=let ⟨ps,e,_⟩:=h; ⟨ps,e⟩
theorem SameX.toN {T:Addr} {H H':Hp} (s:SameX T H H') (hT:∃ ps,H T=some (.tbl ps)):SameN H H':=fun a o e n=>s a o (fun z=>by obtain ⟨ps,e'⟩:=hT; rw [z,e'] at e; cases e; exact n _ rfl) e
theorem same_utk {H H':Hp} {L:List (Addr × Obj)} (hL:∀ a o,L.lookup a=some o→H a=none) (s:Same (tkd H L) H'):Same H (utk H' L)∧∀ a o,L.lookup a=some o→H' a=some (ObjO a o) :=
  ⟨fun a o e=>by
    have n:=out_of hL e
    rw [utk_out n]; exact s _ _ (by rw [tkd_out n]; exact e),fun a o e=>s _ _ (tkd_in e)⟩
theorem utk_at {H:Hp} {L:List (Addr × Obj)} {a:Addr} {u:HO} (hL:∀ a o,L.lookup a=some o→H a=some (ObjO a o)) (e:H a=some u) (n:∀ o,u≠ObjO a o):utk H L a=some u:=by rw [utk_out (out_of' hL e n)]; exact e
end L2
namespace L2
open PySem PySem.Spec PyProof.Rows PySem.W
theorem newEnv_cell {M:Model} {A:Around} {E:Value→Shared→Prop} {s:Shared} {scope:Scope} {globals:Addr} {clos:List (Str × Addr)} {pn:Str} {u:Value} {qual:Str} {func:Option Addr} {code:Value} {builtins:Addr} {Q:Env→Shared→Prop}
    (hk:scope.kind=.function) (hp:scope.names.lookup pn=some .cell) (hc:∀ n acc,cellsFrom n scope.names acc=(pn,n) :: acc) (hpu:∀ h,pushCells h scope.names=h.push { cls:=.type "cell",data:=.cell none })
    (hQ:∀ h' tk,h'.Ns s.heap.objs.size (fun _=>none)→h'.IsCell (s.heap.objs.size+1) (some u)→(∀ b o,s.heap.get? b=some o→h'.get? b=some o)→Q (newEnv scope s.heap.objs.size globals ((pn,s.heap.objs.size+1) :: clos) qual func code none builtins) { s with heap:=h',toks:=tk }) :
    wpAny M A (newFunctionEnv scope globals clos [(pn,u)] qual func code none builtins) Q E s:=by
  simp only [newFunctionEnv,Option.isSome_none,Bool.false_eq_true,if_false]
  refine wpAny_bind (wpAny_alloc ?_)
  refine wpAny_bind (wpAny_layCells _ (fun name kind cells=>by cases hkc:kind == NameKind.cell <;> simp [hkc]) _ _ _ _ ?_)
  rw [hc,hpu,show ({ s with heap:=s.heap.push { cls:=.type "frame",data:=.dict #[] } }:Shared).heap.objs.size=s.heap.objs.size+1 from Heap.size_push ..]
  have hcell:((s.heap.push { cls:=.type "frame",data:=.dict #[] }).push { cls:=.type "cell",data:=.cell none }).IsCell (s.heap.objs.size+1) none:=⟨{ cls:=.type "cell",data:=.cell none },Heap.get?_push_at (Heap.size_push ..).symm rfl,rfl⟩
  have hns:=(Heap.Ns.new s.heap (.type "frame")).keeps (h':=(s.heap.push { cls:=.type "frame",data:=.dict #[] }).push { cls:=.type "cell",data:=.cell none }) fun b o e=>Heap.get?_push_of_some _ e
  refine wpAny_bind ?_
  rw [List.forIn_cons]
  refine wpAny_bind (wpAny_bind (wpAny_storeName_cell (env:=newEnv scope s.heap.objs.size globals ((pn,s.heap.objs.size+1) :: clos) qual func code none builtins) hk hp (by simp [newEnv]) hcell fun h' hc' hs'=>?_))
  refine wpAny_pure ?_
  show wpAny M A (forIn ([]:List (Str × Value)) PUnit.unit _) _ _ _
  rw [List.forIn_nil]
  refine wpAny_pure (wpAny_pure (hQ h' _ (hns.sameBut hs' (Nat.ne_of_lt (Nat.lt_succ_self _))) hc' fun b o e=>hs'.extBut b o (Nat.ne_of_lt (Nat.lt_succ_of_lt (Heap.lt_size e))) (Heap.get?_push_of_some _ (Heap.get?_push_of_some _ e))))
structure LamScopeC (pn:Str) (fs:List Str) (sc:Scope):Prop where
  kind:sc.kind=.function
  co:sc.isCoroutine=false
  gen:sc.isGenerator=false
  par:sc.names.lookup pn=some .cell
  cells:∀ n acc,cellsFrom n sc.names acc=(pn,n) :: acc
  push:∀ h,pushCells h sc.names=h.push { cls:=.type "cell",data:=.cell none }
  own:∀ y,sc.names.lookup y=some .cell→y=pn
  free:∀ y,sc.names.lookup y=some .free→y∈fs
  isfree:∀ y∈fs,sc.names.lookup y=some .free
theorem fv_lamX {P:Program} {w:World} {K:Frag} {mg:Str→Option Value} {base:Heap} {k:Nat} {H:Hp} {f c':Addr} {params:Arguments} {body:Expr} {scope:Scope} {qual pn:Str} {ctv:Value} {fs:List Str} {clos:List (Str × Addr)} {cv:List V} {L:List (Addr × Obj)} {sp:Sp}
    (hf:H f=some (ObjO f (lamObj mg qual params body scope clos c' ctv))) (hc:H c'=some (CodeO c' qual)) (S:LamScopeC pn fs scope) (hlen:cv.length=fs.length) (hkeys:∀ y,(∃ c,clos.lookup y=some c)↔y∈fs) (hinj:∀ x y c,clos.lookup x=some c→clos.lookup y=some c→x=y)
    (hL:∀ a o,L.lookup a=some o→H a=some (ObjO a o)) (hcell:∀ p∈clos,∃ o v,L.lookup p.2=some o∧o.data=.cell v) (hval:∀ p∈clos,∀ (i:Nat) (v:V),fs[i]?=some p.1→cv[i]?=some v→∃ o u,L.lookup p.2=some o∧o.data=.cell (some u)∧RelV v u)
    (hb:∀ (s:Shared) (u:Value),BindsTo s (kla_fn "<lambda>" qual params body scope clos ((mg "__name__").getD .none) (.ref c') ctv) ⟨[u],[]⟩ [(pn,u)])
    (hone:∀ vs H' Q E,sp vs H' Q E→∃ v,vs=[v])
    (hbody:∀ (A:Around) (outer:List Env) (s:Shared) (H':Hp) (E:XK) (v:V) (Q:VK),Same H H'→Room k (A.deeper (envX qual scope s.heap.objs.size f (.ref c') ((pn,s.heap.objs.size+1) :: clos)))→sp [v] H' Q E →
      ∃ te,PE (cxCl P w K mg base (pn :: fs) qual scope f (.ref c') ((pn,s.heap.objs.size+1) :: clos) A outer s (utk H' L) H' E) body te∧te (some v :: cv.map some) (utk H' L) (fun v' H2=>(∀ a o,L.lookup a=some o→H2 a=none)→Q v' (tkd H2 L))) :
    FvOk P w K mg base (k+1) H f sp:=by
  refine ⟨⟨_,_,hf,rfl⟩,fun A outer s H' us vs Q E sm hr e0 r h=>?_⟩
  obtain ⟨v,rfl⟩:=hone _ _ _ _ h
  obtain ⟨u,rfl,ru⟩:=vals1 r
  obtain ⟨te,hpe,h⟩:=hbody A outer s H' E v Q sm (hr.deeper _) h
  have hL':∀ a o,L.lookup a=some o→H' a=some (ObjO a o):=fun a o e=>sm _ _ (hL a o e)
  have hget:∀ a o,L.lookup a=some o→s.heap.get? a=some o:=fun a o e=>(show ObjOk P w H' s.heap a (ObjO a o) from e0.hok a _ (hL' a o e)).1
  have lim:s.heap.NoLimit:=e0.mod.nolimit.keeps fun b o e=>(e0.bs b o e).1
  have ho:s.heap.get? f=some (lamObj mg qual params body scope clos c' ctv):=(show ObjOk P w H' s.heap f (ObjO f _) from e0.hok f _ (sm _ _ hf)).1
  refine kla_callFunE hr.depth ho rfl S.co S.gen rfl (codeO_rec (e0.hok c' _ (sm _ _ hc))) (hb s u _ _ _ _ ?_)
  refine newEnv_cell S.kind S.par S.cells S.push fun h1 tk hns hcl hk=>?_
  refine ⟨lim.keeps hk,?_⟩
  show codeAny _ _ (.expr body (envX qual scope s.heap.objs.size f (.ref c') ((pn,s.heap.objs.size+1) :: clos))) _ _
  refine kla_codeExpr ?_
  have noA:∀ b:Addr,b ∉ (cxCl P w K mg base (pn :: fs) qual scope f (.ref c') ((pn,s.heap.objs.size+1) :: clos) A outer s (utk H' L) H' E).ex:=fun b z=>absurd (show b∈([]:List Addr) from z) (by simp)
  have mem:∀ y c,clos.lookup y=some c→(y,c)∈clos:=fun y c e=>PySem.mem_of_lookup e
  have npf:pn ∉ fs:=fun z=>by have:=S.isfree pn z; rw [S.par] at this; cases this
  have look:∀ y c,((pn,s.heap.objs.size+1) :: clos).lookup y=some c→(y=pn∧c=s.heap.objs.size+1)∨(y≠pn∧clos.lookup y=some c):=fun y c e=>by
    rw [List.lookup_cons] at e
    by_cases q:y=pn
    · subst q
      rw [beq_self_eq_true] at e
      exact .inl ⟨rfl,(Option.some.inj e).symm⟩
    · rw [show (y == pn)=false from beq_false_of_ne q] at e
      exact .inr ⟨q,e⟩
  have lookF:∀ y c,y≠pn→clos.lookup y=some c→((pn,s.heap.objs.size+1) :: clos).lookup y=some c:=fun y c n e=>by rw [List.lookup_cons,show (y == pn)=false from beq_false_of_ne n]; exact e
  have lookP:((pn,s.heap.objs.size+1) :: clos).lookup pn=some (s.heap.objs.size+1):=by rw [List.lookup_cons,beq_self_eq_true]
  have lt:∀ y c,clos.lookup y=some c→c < s.heap.objs.size:=fun y c e=>by
    obtain ⟨o,vv,ho',_⟩:=hcell (y,c) (mem y c e)
    exact Heap.lt_size (hget _ _ ho')
  have I:Inv (cxCl P w K mg base (pn :: fs) qual scope f (.ref c') ((pn,s.heap.objs.size+1) :: clos) A outer s (utk H' L) H' E) [] (some v :: cv.map some) (utk H' L) { s with heap:=h1,toks:=tk }:=by
    refine ⟨⟨e0.mod,S.kind,rfl,rfl,Nat.le_refl _,fun x y c h1' h2'=>?_,fun y hy=>?_,fun y c z=>absurd z (by simp [cxCl]),fun _=>hr.hd,Around.frames_deeper e0.frames,.inr ⟨rfl,rfl⟩,fun b z=>absurd z (noA b),fun b o e=>⟨(e0.bs b o e).1,utk_none (e0.bs b o e).2⟩,e0.bsz,fun b _ _=>noA b,fun b z=>absurd z (noA b),e0.funs,fun b hb=>utk_none (e0.frf b hb)⟩,
      rfl,e0.bare,Un.kept hk,⟨_,hns,fun i y vv h1' h2 h3=>?_⟩,fun y c e=>?_,utk_none (e0.hok.fresh (Nat.le_refl _)),fun y c e=>?_,fun p hp=>absurd (show p∈([]:List (Addr × Obj)) from hp) (by simp),(e0.hok.utk hL').kept hk,?_⟩
    · rcases look x c h1' with ⟨rfl,rfl⟩ | ⟨_,q1⟩
      · rcases look y _ h2' with ⟨rfl,_⟩ | ⟨_,q2⟩
        · rfl
        · exact absurd (lt y _ q2) (Nat.not_lt.mpr (Nat.le_succ _))
      · rcases look y _ h2' with ⟨rfl,rfl⟩ | ⟨_,q2⟩
        · exact absurd (lt x _ q1) (Nat.not_lt.mpr (Nat.le_succ _))
        · exact hinj x y c q1 q2
    · have hy:scope.names.lookup y=some .cell∨scope.names.lookup y=some .free:=hy
      rcases hy with hy | hy
      · rw [S.own y hy]; exact ⟨_,lookP⟩
      · have m:=S.free y hy
        obtain ⟨c,e⟩:=(hkeys y).mpr m
        exact ⟨c,lookF y c (fun z=>npf (z ▸ m)) e⟩
    · have h1':(pn :: fs)[i]?=some y:=h1'
      cases i with
      | zero =>
        cases h1'
        cases h2
        exact ⟨u,ru,.inr ⟨.inl S.par,_,lookP,hcl⟩⟩
      | succ i =>
        have h1':fs[i]?=some y:=h1'
        have h2:(cv.map some)[i]?=some (some vv):=h2
        rw [List.getElem?_map] at h2
        obtain ⟨z,hz,e⟩:=Option.map_eq_some_iff.mp h2
        cases e
        have m:=List.mem_of_getElem? h1'
        obtain ⟨c,hc'⟩:=(hkeys y).mpr m
        obtain ⟨o,u',ho',hd,rv⟩:=hval (y,c) (mem y c hc') i vv h1' hz
        exact ⟨u',rv,.inr ⟨.inr (S.isfree y m),c,lookF y c (fun z=>npf (z ▸ m)) hc',o,hk _ _ (hget _ _ ho'),hd⟩⟩
    · rcases look y c e with ⟨rfl,rfl⟩ | ⟨_,e⟩
      · exact ⟨_,hcl⟩
      · obtain ⟨o,vv,ho',hd⟩:=hcell (y,c) (mem y c e)
        exact ⟨vv,o,hk _ _ (hget _ _ ho'),hd⟩
    · rcases look y c e with ⟨rfl,rfl⟩ | ⟨_,e⟩
      · exact utk_none (e0.hok.fresh (Nat.le_succ _))
      · obtain ⟨o,vv,ho',hd⟩:=hcell (y,c) (mem y c e)
        exact utk_in ho'
    · show (some v :: cv.map some).length=(pn :: fs).length
      rw [List.length_cons,List.length_cons,List.length_map,hlen]
  refine wpAny_mono (hpe [] _ _ _ _ I h) (fun u2 s' ⟨v2,H2,J,rv,q⟩=>?_) fun e s' z=>z
  have un:Un (frs outer) [] (utk H' L) H2 s.heap s'.heap:=J.base
  have hnf:∀ a o,L.lookup a=some o→a ∉ frs outer:=fun a o e hb=>by
    have:=e0.frf a hb
    rw [hL' a o e] at this; cases this
  have hno:∀ a o,L.lookup a=some o→H2 a=none:=fun a o e=>un.free a o (hget a o e) (utk_in e) (by simp)
  exact ⟨v2,tkd H2 L,J.os,J.bare,un.tkd hL',J.hok.tkd hno (fun a o e=>un.keep a o (hget a o e) (utk_in e) (hnf a o e) (by simp)),rv,q hno⟩
section
variable {X:Cx}
end
end L2
namespace K31
open PySem L2
def top (i:Nat):Stmt:=PySem.Challenge.pw_glazebench_k31_one_form.main.body.getD i (.Pass ⟨0,0,0,0⟩)
abbrev s_is_whole:Stmt:=top 7
abbrev s_is_side:Stmt:=top 8
abbrev s_inside:Stmt:=top 9
abbrev s_check_sides:Stmt:=top 10
abbrev s_Tree_same:Stmt:=inClass (top 15) 4
abbrev s_Whole_init:Stmt:=inClass (top 16) 0
abbrev s_Upright_init:Stmt:=inClass (top 17) 0
abbrev s_Level_init:Stmt:=inClass (top 18) 0
abbrev s_kind_of:Stmt:=top 19
abbrev s_entry_of:Stmt:=top 20
abbrev s_entries_of:Stmt:=top 21
abbrev s_cut_from:Stmt:=top 22
abbrev s_tree_from:Stmt:=top 23
abbrev s_entries_by:Stmt:=top 24
abbrev s_check_cut:Stmt:=top 25
abbrev s_first_piece:Stmt:=top 26
abbrev s_other_piece:Stmt:=top 27
abbrev s_cut_out:Stmt:=top 28
abbrev s_pieces:Stmt:=top 29
abbrev s_line_breaks:Stmt:=top 33
abbrev s_goes_through:Stmt:=top 34
abbrev s_lines_through:Stmt:=top 35
abbrev s_entry_for:Stmt:=top 38
abbrev s_cut_up:Stmt:=top 39
abbrev s_form:Stmt:=top 41
abbrev s_alike:Stmt:=top 42
abbrev s__law_cell:Stmt:=top 44
abbrev s__law_draw:Stmt:=top 45
abbrev s__law_state:Stmt:=top 46
abbrev s__law_pick:Stmt:=top 47
abbrev s__law_tree:Stmt:=top 48
abbrev s__law_made:Stmt:=top 49
abbrev s__law_whole:Stmt:=top 50
abbrev s__law_told:Stmt:=top 51
abbrev s__law_pieces:Stmt:=top 52
abbrev s__law_through:Stmt:=top 53
abbrev s__law_parted:Stmt:=top 54
abbrev s__law_recut:Stmt:=top 55
abbrev s__law_spoiled:Stmt:=top 56
abbrev s__law_swapped:Stmt:=top 57
abbrev s_law:Stmt:=top 58
def refs {α:Type} (ts:List (Addr × α)):List V:=ts.map fun t=>V.ref t.1
theorem refs_get {α:Type} {ts:List (Addr × α)} {i:Nat} {x:V} (h:(refs ts)[i]?=some x):∃ u,ts[i]?=some u∧x=.ref u.1:=by
 rw [refs,List.getElem?_map] at h
 cases e:ts[i]? with
 | none=>rw [e] at h; cases h
 | some u=>rw [e] at h; exact ⟨u,rfl,(Option.some.inj h).symm⟩
theorem refs_len {α:Type} (ts:List (Addr × α)):(refs ts).length=ts.length:=List.length_map ..
theorem wasNone {H H':Hp} (s:Same H H') {a:Addr} (h:H' a=none):H a=none:=by
 cases q:H a with
 | none=>rfl
 | some o=>rw [s a o q] at h; cases h
def wd (u:Bool):Str:=if u=true then "upright" else "level"
theorem wd_eq (u:Bool):decide (V.str (wd u)=V.str "upright")=u:=by cases u <;> decide
theorem wd_dec (u v:Bool):decide (V.str (wd u)=V.str (wd v))=(u == v):=by cases u <;> cases v <;> decide +kernel
theorem wd_whole (u:Bool):decide (V.str (wd u)=V.str "whole")=false:=by cases u <;> decide +kernel
inductive Tr where
 | whole (m:Option Int)
 | cut (u:Bool) (k:Int) (x y:Tr)
def Tr.dp:Tr→Nat
 | .whole _=>0
 | .cut _ _ x y=>max x.dp y.dp+1
def Tr.sz:Tr→Nat
 | .whole _=>1
 | .cut _ _ x y=>x.sz+y.sz
def markV:Option Int→V
 | none=>.non
 | some i=>.int i
def Told (H:Hp):Tr→V→Prop
 | .whole m,v=>∃ a,v=.ref a∧H a=some (.tup [.str "whole",markV m])
 | .cut u k x y,v=>∃ a vx vy,v=.ref a∧H a=some (.tup [.str (wd u),.int k,vx,vy])∧Told H x vx∧Told H y vy
theorem Told.same {H H':Hp} (s:Same H H'):∀ {t:Tr} {v:V},Told H t v→Told H' t v
 | .whole m,v,h=>by
  rw [Told] at h ⊢
  obtain ⟨a,e,h⟩:=h
  exact ⟨a,e,s _ _ h⟩
 | .cut u k x y,v,h=>by
  rw [Told] at h ⊢
  obtain ⟨a,vx,vy,e,h,h1,h2⟩:=h
  exact ⟨a,vx,vy,e,s _ _ h,Told.same s h1,Told.same s h2⟩
theorem Told.samex {l:Addr} {xs:List V} {H H':Hp} (s:SameX l H H') (hl:H l=some (.lst xs)):∀ {t:Tr} {v:V},Told H t v→Told H' t v
 | .whole m,v,h=>by
  rw [Told] at h ⊢
  obtain ⟨a,e,h⟩:=h
  exact ⟨a,e,s _ _ (ne_of h hl (by intro z; cases z)) h⟩
 | .cut u k x y,v,h=>by
  rw [Told] at h ⊢
  obtain ⟨a,vx,vy,e,h,h1,h2⟩:=h
  exact ⟨a,vx,vy,e,s _ _ (ne_of h hl (by intro z; cases z)) h,Told.samex s hl h1,Told.samex s hl h2⟩
def Fit:Tr→Int→Int→Prop
 | .whole _,_,_=>True
 | .cut u k x y,w,h=>if u=true then (1≤k∧k < w∧Fit x k h∧Fit y (w - k) h) else (1≤k∧k < h∧Fit x w k∧Fit y w (h - k))
theorem fit_dp:∀ {t:Tr} {w h:Int},1≤w→1≤h→Fit t w h→(t.dp:Int)+2≤w+h
 | .whole _,w,h,hw,hh,_=>by show ((0:Nat):Int)+2≤_; omega
 | .cut u k x y,w,h,hw,hh,f=>by
  rw [Fit] at f
  show ((max x.dp y.dp+1:Nat):Int)+2≤_
  cases u with
  | true =>
   obtain ⟨a,b,c,d⟩:=f
   have:=fit_dp a hh c
   have:=fit_dp (by omega) hh d
   omega
  | false =>
   obtain ⟨a,b,c,d⟩:=f
   have:=fit_dp hw a c
   have:=fit_dp hw (by omega) d
   omega
theorem fit_sz:∀ {t:Tr} {w h:Int},1≤w→1≤h→Fit t w h→(t.sz:Int)≤w * h
 | .whole _,w,h,hw,hh,_=>by
  show ((1:Nat):Int)≤_
  have:=Int.mul_le_mul hw hh (by omega) (by omega)
  omega
 | .cut u k x y,w,h,hw,hh,f=>by
  rw [Fit] at f
  show ((x.sz+y.sz:Nat):Int)≤_
  cases u with
  | true =>
   obtain ⟨a,b,c,d⟩:=f
   have h1:=fit_sz a hh c
   have h2:=fit_sz (by omega) hh d
   rw [Int.sub_mul] at h2
   omega
  | false =>
   obtain ⟨a,b,c,d⟩:=f
   have h1:=fit_sz hw a c
   have h2:=fit_sz hw (by omega) d
   rw [Int.mul_sub] at h2
   omega
def intsD:List Int→Ds
 | []=>.nil
 | i :: r=>.cons (.at (.int i)) (intsD r)
theorem intsD_is {K:PySem.W.Frag} {H:Hp}:∀ (ns:List Int),DIss K H (intsD ns) (ns.map V.int)
 | []=>by
  show DIss K H .nil []
  rw [DIss]
 | i :: r=>by
  show DIss K H (.cons (.at (.int i)) (intsD r)) (.int i :: r.map V.int)
  rw [DIss]
  exact ⟨_,_,rfl,by rw [DIs]; exact ⟨rfl,rfl⟩,intsD_is r⟩
theorem intsD_dep:∀ (ns:List Int),deps (intsD ns)=0
 | []=>by rw [intsD,deps]
 | i :: r=>by rw [intsD,deps,dep,intsD_dep r]; rfl
theorem intsD_nil:∀ (ns:List Int),deqs (intsD ns) .nil=decide (ns=[])
 | []=>by rw [intsD,deqs]; rfl
 | i :: r=>by rw [intsD,deqs] <;> simp
theorem intsL {K:PySem.W.Frag} {H:Hp} {a:Addr} {ns:List Int} (h:SqL K H a (ns.map V.int)):DIs K H (.lst (intsD ns)) (.ref a):=by
 rw [DIs]
 exact ⟨a,_,rfl,h,intsD_is _⟩
theorem nilL {K:PySem.W.Frag} {H:Hp} {a:Addr} (h:H a=some (.lst [])):DIs K H (.lst .nil) (.ref a):=by
 rw [DIs]
 exact ⟨a,[],rfl,SqL.of h,by rw [DIss]⟩
theorem intsL_dep (ns:List Int):dep (.lst (intsD ns))≤50:=by rw [dep,intsD_dep]; omega
theorem at2_0 {x0 x1:V}:atI [x0,x1] 0=some x0:=rfl
theorem at2_1 {x0 x1:V}:atI [x0,x1] 1=some x1:=rfl
theorem divL {j:Int} (z:Int) (h:0 < j) (h2:j < 18446744073709551616):CDivL z j:=⟨h,Nat.lt_trans (log2_lt_of (k:=64) (by decide) (by omega)) (by decide)⟩
theorem mul64 {a b:Int} (h1:-18446744073709551616 < a) (h2:a < 18446744073709551616) (h3:-18446744073709551616 < b) (h4:b < 18446744073709551616):IntMulOk a b:=by
 have c:(2:Nat)^128=340282366920938463463374607431768211456:=by decide +kernel
 refine mulOk_of ?_ ?_ <;> rw [c] <;> omega
theorem atI_in {L:List V} {i:Int} (h0:0≤i) (h1:i < L.length):∃ v,atI L i=some v∧v∈L:=by
 have h:i.toNat < L.length:=by omega
 have e:=atI_nat (List.getElem?_eq_getElem h)
 rw [Int.toNat_of_nonneg h0] at e
 exact ⟨_,e,List.getElem_mem h⟩
theorem at_ints {ns:List Int} {k:Int} (h0:0≤k) (h1:k < (ns.length:Int)):∃ z,atI (ns.map V.int) k=some (.int z):=by
 have hk:k.toNat < ns.length:=by omega
 have hz:(ns.map V.int)[k.toNat]?=some (.int ns[k.toNat]):=by rw [List.getElem?_map,List.getElem?_eq_getElem hk]; rfl
 have e:=atI_nat hz
 rw [Int.toNat_of_nonneg h0] at e
 exact ⟨_,e⟩
theorem at0 {x0 x1 x2 x3:V}:atI [x0,x1,x2,x3] 0=some x0:=rfl
theorem at1 {x0 x1 x2 x3:V}:atI [x0,x1,x2,x3] 1=some x1:=rfl
theorem at2 {x0 x1 x2 x3:V}:atI [x0,x1,x2,x3] 2=some x2:=rfl
theorem at3 {x0 x1 x2 x3:V}:atI [x0,x1,x2,x3] 3=some x3:=rfl
def sp_whole:Sp:=fun vs H Q _=>∃ i:Int,vs=[.int i]∧Q (.bl true) H
def sp_side:Sp:=fun vs H Q _=>∃ i:Int,vs=[.int i]∧1≤i∧i≤12∧Q (.bl true) H
def sp_sides:Sp:=fun vs H Q _=>∃ w h:Int,vs=[.int w,.int h]∧1≤w∧w≤12∧1≤h∧h≤12∧∀ H',Same H H'→Q .non H'
def sp_cell (K:PySem.W.Frag):Sp:=fun vs H Q _=>∃ (a:Addr) (ns:List Int) (k:Int),vs=[.ref a,.int k]∧SqL K H a (ns.map V.int)∧0≤k∧∀ z,Q (.int z) H
def sp_draw:Sp:=fun vs H Q _=>∃ (c n m:Int),vs=[.int c,.int n,.int m]∧0≤n∧n≤1000∧0 < m∧∀ r,0≤r→r < m→Q (.int r) H
def St8 (H:Hp) (a:Addr) (t:Int):Prop:=∃ c r:Int,0≤r∧H a=some (.dK [(Sum.inr "cell",.int c),(Sum.inr "rest",.int r),(Sum.inr "times",.int t)])
theorem St8.same {H H':Hp} {a:Addr} {t:Int} (h:St8 H a t) (s:Same H H'):St8 H' a t:=let ⟨c,r,r0,e⟩:=h; ⟨c,r,r0,s _ _ e⟩
theorem Told.samed {l:Addr} {tm:Int} {H H':Hp} (s:SameX l H H') (hl:St8 H l tm):∀ {t:Tr} {v:V},Told H t v→Told H' t v
 | .whole m,v,h=>by
  rw [Told] at h ⊢
  obtain ⟨a,e,h⟩:=h
  obtain ⟨_,_,_,q⟩:=hl
  exact ⟨a,e,s _ _ (ne_of h q (by intro z; cases z)) h⟩
 | .cut u k x y,v,h=>by
  rw [Told] at h ⊢
  obtain ⟨a,vx,vy,e,h,h1,h2⟩:=h
  obtain ⟨_,_,_,q⟩:=id hl
  exact ⟨a,vx,vy,e,s _ _ (ne_of h q (by intro z; cases z)) h,Told.samed s hl h1,Told.samed s hl h2⟩
def sp_state:Sp:=fun vs H Q _=>∃ c:Int,vs=[.int c]∧∀ a H',Same H H'→H a=none→St8 H' a 0→Q (.ref a) H'
def sp_pick:Sp:=fun vs H Q _=>∃ (a:Addr) (t m:Int),vs=[.ref a,.int m]∧St8 H a t∧0≤t∧t < 1000∧0 < m∧m≤1000∧∀ z H',0≤z→z < m→SameX a H H'→St8 H' a (t+1)→Q (.int z) H'
def sp_tree (n:Nat):Sp:=fun vs H Q _=>∃ (l:Addr) (ms:List Int) (w h:Int),vs=[.ref l,.int w,.int h]∧H l=some (.lst (ms.map V.int))∧1≤w∧1≤h∧w+h < n∧w≤12∧h≤12 ∧
 ∀ v t H' ms',SameX l H H'→H' l=some (.lst ((ms':List Int).map V.int))→Told H' t v→Fit t w h→Q v H'
structure Txt (mg:Str→Option Value) (tk:Tok × Tok × Tok × Tok × Tok × Tok × Tok):Prop where
 z_isinstance:mg "isinstance"=none
 z_int:mg "int"=none
 z_bool:mg "bool"=none
 z_tuple:mg "tuple"=none
 z_list:mg "list"=none
 z_len:mg "len"=none
 z_range:mg "range"=none
 z_abs:mg "abs"=none
 z_all:mg "all"=none
 z_any:mg "any"=none
 z_sorted:mg "sorted"=none
 z_str:mg "str"=none
 z_reversed:mg "reversed"=none
 g_LONGEST_SIDE:mg "LONGEST_SIDE"=some (.int 12 tk.1)
 g_WHOLE:mg "WHOLE"=some (.str "whole" tk.2.1)
 g_UPRIGHT:mg "UPRIGHT"=some (.str "upright" tk.2.2.1)
 g_LEVEL:mg "LEVEL"=some (.str "level" tk.2.2.2.1)
 g_TOP:mg "TOP"=some (.int 0 tk.2.2.2.2.1)
 g_LEFT:mg "LEFT"=some (.int 1 tk.2.2.2.2.2.1)
 g_ROOM:mg "ROOM"=some (.str "room" tk.2.2.2.2.2.2)
section
variable {P:Program} {w:World} {K:PySem.W.Frag} {mg:Str→Option Value} {base:Heap} {tk:Tok × Tok × Tok × Tok × Tok × Tok × Tok} {cT cW cU cL:Addr}
theorem S_is_whole:FnScope ["thing"] ["thing"] (defScope s_is_whole):=⟨rfl,rfl,rfl,by decide +kernel,rfl,by decide +kernel,by decide +kernel⟩
theorem ok_is_whole {f:Addr} {fd:FuncData} (F:Fun K "is_whole" "is_whole" s_is_whole f fd) (T:Txt mg tk):FnOk P w K mg base CX0 1 f fd ["thing"] sp_whole:=by
 have S:=S_is_whole
 refine F.ok S (fun vs H Q E h=>?_) (fun cdv A outer s H vs Q E hr h=>?_)
 ·obtain ⟨i,rfl,_⟩:=h; rfl
 ·obtain ⟨i,rfl,q⟩:=h
  refine ⟨_,(pss_one (ps_ret (pe_and (pe_callB call_isin rfl T.z_isinstance rfl (pa_cons (pv 0) (pa_cons (pe_bltn (v:=.ty "int") rfl T.z_int rfl rfl) pa_nil))) (pe_one (pe_not (pe_callB call_isin rfl T.z_isinstance rfl (pa_cons (pv 0) (pa_cons (pe_bltn (v:=.ty "bool") rfl T.z_bool rfl rfl) pa_nil)))))))),?_⟩
  refine ⟨_,rfl,.int i,"int","int",rfl,rfl,.inl rfl,_,rfl,ite3 (fun h=>?_) (fun h=>absurd h (by decide))⟩
  refine ⟨_,rfl,.int i,"int","bool",rfl,rfl,.inr (.inl rfl),_,rfl,?_⟩
  have e:(!isB "int" "bool")=true:=by decide
  rw [e]
  exact q
theorem S_is_side:FnScope ["thing"] ["thing"] (defScope s_is_side):=⟨rfl,rfl,rfl,by decide +kernel,rfl,by decide +kernel,by decide +kernel⟩
theorem ok_is_side {f:Addr} {fd:FuncData} (F:Fun K "is_side" "is_side" s_is_side f fd) (T:Txt mg tk) (D_is_whole:DefOk P w K mg base 1 "is_whole" ["thing"] sp_whole):FnOk P w K mg base CX0 2 f fd ["thing"] sp_side:=by
 have S:=S_is_side
 refine F.ok S (fun vs H Q E h=>?_) (fun cdv A outer s H vs Q E hr h=>?_)
 ·obtain ⟨i,rfl,_⟩:=h; rfl
 ·obtain ⟨i,rfl,i1,i2,q⟩:=h
  refine ⟨_,(pss_one (ps_ret (pe_and (pe_fn D_is_whole hr (pa_cons (pv 0) pa_nil)) (pe_one (pe_chain op_le op_le pe_int (pv 0) (pe_glob (v:=.int 12) rfl T.g_LONGEST_SIDE ⟨_,rfl⟩)))))),?_⟩
  refine ⟨_,rfl,i,rfl,_,rfl,iteT ⟨_,rfl,_,_,rfl,rfl,_,rfl,ite3 (fun h=>?_) (fun h=>absurd i1 (of_decide_eq_false h))⟩⟩
  refine ⟨_,_,rfl,rfl,?_⟩
  show Q (.bl (decide (i≤12))) H
  rw [decide_eq_true i2]
  exact q
theorem S_check_sides:FnScope ["width","height","side"] ["width","height"] (defScope s_check_sides):=⟨rfl,rfl,rfl,by decide +kernel,rfl,by decide +kernel,by decide +kernel⟩
theorem ok_check_sides {f:Addr} {fd:FuncData} (F:Fun K "check_sides" "check_sides" s_check_sides f fd) (D_is_side:DefOk P w K mg base 2 "is_side" ["thing"] sp_side):FnOk P w K mg base CX0 3 f fd ["width","height"] sp_sides:=by
 have S:=S_check_sides
 refine F.ok S (fun vs H Q E h=>?_) (fun cdv A outer s H vs Q E hr h=>?_)
 ·obtain ⟨w,h,rfl,_⟩:=h; rfl
 ·obtain ⟨w,h,rfl,w1,w2,h1,h2,q⟩:=h
  refine ⟨_,(pss_one (ps_for PassesOwn.never rfl (pi_tup (pe_tup (pa_cons (pv 0) (pa_cons (pv 1) pa_nil)))) (pg_name (i:=2) S.nd rfl (Or.inl rfl)) (pss_one (ps_if (pt_not (pt_val (pe_fn D_is_side hr (pa_cons (pv 2) pa_nil)))) (pss_one ps_never) pss_nil)))),?_⟩
  refine ⟨_,rfl,_,rfl,lenOk 2,fun t nt=>⟨t,rfl,⟨_,SqT.of upd_same⟩,for_tup (K:=K) (a:=t) (xs:=[.int w,.int h]) (fun i σ H'=>(∃ y,σ=[some (.int w),some (.int h),y])∧H'=upd H t (.tup [.int w,.int h])) ⟨⟨none,rfl⟩,rfl⟩ (fun i σ H' _ hp=>by rw [hp.2]; exact SqT.of upd_same) ?_ ?_⟩⟩
  ·rintro i x σ H' hx ⟨⟨y,rfl⟩,rfl⟩
   obtain ⟨z,rfl,z1,z2⟩:∃ z:Int,x=.int z∧1≤z∧z≤12:=by
    match i,hx with
    | 0,hx=>cases hx; exact ⟨_,rfl,w1,w2⟩
    | 1,hx=>cases hx; exact ⟨_,rfl,h1,h2⟩
    | i+2,hx=>cases hx
   exact ⟨_,rfl,z,rfl,z1,z2,_,rfl,iteF ⟨⟨_,rfl⟩,rfl⟩⟩
  ·rintro σ H' ⟨_,rfl⟩
   exact q _ (Same.new nt)
theorem S_law_cell:FnScope ["_law_script","_law_k"] ["_law_script","_law_k"] (defScope s__law_cell):=⟨rfl,rfl,rfl,by decide +kernel,rfl,by decide +kernel,by decide +kernel⟩
theorem ok_law_cell {f:Addr} {fd:FuncData} (F:Fun K "_law_cell" "_law_cell" s__law_cell f fd) (T:Txt mg tk):FnOk P w K mg base CX0 1 f fd ["_law_script","_law_k"] (sp_cell K):=by
 have S:=S_law_cell
 refine F.ok S (fun vs H Q E h=>?_) (fun cdv A outer s H vs Q E hr h=>?_)
 ·obtain ⟨a,ns,k,rfl,_⟩:=h; rfl
 ·obtain ⟨a,ns,k,rfl,hS,k0,q⟩:=h
  refine ⟨_,(pss_cons (ps_if (pt_cmpR op_lt (pv 1) (pe_callB call_len_seq rfl T.z_len rfl (pa_cons (pv 0) pa_nil)) (nomark _)) (pss_one (ps_ret (pe_ix ix_list (pv 0) (pv 1) (fun _ _=>rfl)))) pss_nil)
   (pss_one (ps_ret pe_int))),?_⟩
  refine ⟨_,rfl,_,rfl,a,_,rfl,.inl hS,_,_,rfl,rfl,_,rfl,ite3 (fun c=>?_) (fun c=>q 0)⟩
  have c:=of_decide_eq_true c
  rw [List.length_map] at c
  obtain ⟨z,hz⟩:=at_ints k0 c
  exact ⟨_,rfl,_,rfl,a,_,_,_,rfl,rfl,hS,hz,q _⟩
theorem S_law_draw:FnScope ["_law_cell_here","_law_nth","_law_many","_law_number"] ["_law_cell_here","_law_nth","_law_many"] (defScope s__law_draw):=⟨rfl,rfl,rfl,by decide +kernel,rfl,by decide +kernel,by decide +kernel⟩
theorem ok_law_draw {f:Addr} {fd:FuncData} (F:Fun K "_law_draw" "_law_draw" s__law_draw f fd):FnOk P w K mg base CX0 1 f fd ["_law_cell_here","_law_nth","_law_many"] sp_draw:=by
 have S:=S_law_draw
 refine F.ok S (fun vs H Q E h=>?_) (fun cdv A outer s H vs Q E hr h=>?_)
 ·obtain ⟨c,n,m,rfl,_⟩:=h; rfl
 ·obtain ⟨c,n,m,rfl,n0,n1,m0,q⟩:=h
  refine ⟨_,(pss_cons (ps_set (i:=3) S.nd rfl (Or.inl rfl) (pe_op op_mod (pe_op op_mulL (pe_op op_add (pe_op op_add (pe_op op_mod (pv 0) pe_int) pe_int) (pe_op op_mulL (pv 1) (pv 1))) pe_int) pe_int))
   (pss_one (ps_ret (pe_op op_mod (pe_op op_add (pe_op op_fdivL (pv 3) pe_int) (pe_op op_mulL (pe_op op_mod (pv 3) pe_int) (pv 1))) (pv 2))))),?_⟩
  have a:=Int.emod_nonneg c (b:=899809363) (by decide)
  have b:=Int.emod_lt_of_pos c (b:=899809363) (by decide)
  have nn:0≤n * n∧n * n≤1000000:=⟨Int.mul_nonneg n0 n0,Int.le_trans (Int.mul_le_mul n1 n1 n0 (by decide)) (by decide)⟩
  refine ⟨_,rfl,_,_,rfl,rfl,(show (0:Int) < 899809363 from by decide),_,_,rfl,rfl,_,rfl,_,rfl,_,_,rfl,rfl,mul64 (by omega) (by omega) (by omega) (by omega),_,_,rfl,rfl,_,_,rfl,rfl,mul64 (by omega) (by omega) (by decide) (by decide),_,_,rfl,rfl,(show (0:Int) < 899809363 from by decide),?_⟩
  have g0:=Int.emod_nonneg ((c % 899809363+3+n * n) * 60919 % 899809363) (b:=1013) (by decide)
  have g1:=Int.emod_lt_of_pos ((c % 899809363+3+n * n) * 60919 % 899809363) (b:=1013) (by decide)
  exact ⟨_,rfl,_,_,rfl,rfl,divL _ (by decide) (by decide),_,rfl,_,_,rfl,rfl,(show (0:Int) < 1013 from by decide),_,rfl,_,_,rfl,rfl,mul64 (by omega) (by omega) (by omega) (by omega),_,_,rfl,rfl,_,rfl,_,_,rfl,rfl,m0,q _ (Int.emod_nonneg _ (by omega)) (Int.emod_lt_of_pos _ m0)⟩
abbrev stK (c r t:Int):List (Key × V):=[(Sum.inr "cell",.int c),(Sum.inr "rest",.int r),(Sum.inr "times",.int t)]
theorem st_cell {c r t:Int}:valV (stK c r t) (Sum.inr "cell")=some (.int c):=by rw [valV_pos rfl]
theorem ne_ck:¬ (Sum.inr (Str.ofString "cell"):Key)=Sum.inr (Str.ofString "rest"):=by decide
theorem ne_ct:¬ (Sum.inr (Str.ofString "cell"):Key)=Sum.inr (Str.ofString "times"):=by decide
theorem ne_rt:¬ (Sum.inr (Str.ofString "rest"):Key)=Sum.inr (Str.ofString "times"):=by decide
theorem st_rest {c r t:Int}:valV (stK c r t) (Sum.inr "rest")=some (.int r):=by rw [valV_neg ne_ck,valV_pos rfl]
theorem st_times {c r t:Int}:valV (stK c r t) (Sum.inr "times")=some (.int t):=by rw [valV_neg ne_ct,valV_neg ne_rt,valV_pos rfl]
theorem put_times {c r t z:Int}:putK (stK c r t) (Sum.inr "times") (.int z)=stK c r z:=rfl
theorem put_rest {c r t z:Int}:putK (stK c r t) (Sum.inr "rest") (.int z)=stK c z t:=rfl
theorem get_cell {H:Hp} {a:Addr} {c r t:Int} (e:H a=some (.dK (stK c r t))):DGet H a (.str "cell") (some (.int c)):=by have:=DGet.k (k:=Sum.inr "cell") e; rw [st_cell] at this; exact this
theorem get_rest {H:Hp} {a:Addr} {c r t:Int} (e:H a=some (.dK (stK c r t))):DGet H a (.str "rest") (some (.int r)):=by have:=DGet.k (k:=Sum.inr "rest") e; rw [st_rest] at this; exact this
theorem get_times {H:Hp} {a:Addr} {c r t:Int} (e:H a=some (.dK (stK c r t))):DGet H a (.str "times") (some (.int t)):=by have:=DGet.k (k:=Sum.inr "times") e; rw [st_times] at this; exact this
theorem dput_times {H:Hp} {a:Addr} {c r t z:Int} (e:H a=some (.dK (stK c r t))):DPut H a (.str "times") (.int z) (upd H a (.dK (stK c r z))):=by have:=DPut.k (k:=Sum.inr "times") (v:=.int z) e (small1000 (by show 3≤1000; decide)); rw [put_times] at this; exact this
theorem dput_rest {H:Hp} {a:Addr} {c r t z:Int} (e:H a=some (.dK (stK c r t))):DPut H a (.str "rest") (.int z) (upd H a (.dK (stK c z t))):=by have:=DPut.k (k:=Sum.inr "rest") (v:=.int z) e (small1000 (by show 3≤1000; decide)); rw [put_rest] at this; exact this
theorem S_law_state:FnScope ["_law_cell_here","_law_rest"] ["_law_cell_here"] (defScope s__law_state):=⟨rfl,rfl,rfl,by decide +kernel,rfl,by decide +kernel,by decide +kernel⟩
theorem ok_law_state {f:Addr} {fd:FuncData} (F:Fun K "_law_state" "_law_state" s__law_state f fd) (T:Txt mg tk):FnOk P w K mg base CX0 1 f fd ["_law_cell_here"] sp_state:=by
 have S:=S_law_state
 refine F.ok S (fun vs H Q E h=>?_) (fun cdv A outer s H vs Q E hr h=>?_)
 ·obtain ⟨c,rfl,_⟩:=h; rfl
 ·obtain ⟨c,rfl,q⟩:=h
  obtain ⟨tt,htt,fin⟩:∃ rd,PSs (cxOf CX0 P w K mg base ["_law_cell_here","_law_rest"] "_law_state" (defScope s__law_state) f cdv A outer s H E).nox ((defBody s__law_state).drop 2) rd ∧
    ∀ (r:Int),0≤r→rd { nx:=fun _ H'=>Q .non H',rt:=Q } [some (.int c),some (.int r)] H:=by
   refine ⟨_,(pss_one (ps_ret (pe_disp (pps_cons pe_str (pv 0) (pps_cons pe_str (pv 1) (pps_cons pe_str pe_int pps_nil))) rfl rfl (by decide) (by decide)))),?_⟩
   intro r r0
   refine fun p np=>⟨_,rfl,_,rfl,⟨upd_same,stK c r 0,rfl,by show 3≤15; decide,q p _ ?_ np ⟨c,r,r0,upd_same⟩⟩⟩
   intro x o e
   rw [upd_ne (ne_of_none e np),upd_ne (ne_of_none e np)]
   exact e
  refine ⟨_,(pss_cons (ps_set (i:=1) S.nd rfl (Or.inl rfl) pe_int)
   (pss_cons (ps_if (PW.pt (pw_or (pt_cmpR op_lt (pv 0) pe_int (nomark _)) (pw_or1 (pt_cmpR op_ge (pv 0) (pe_op op_pow pe_int pe_int) (nomark _))))) (pss_one (ps_set (i:=1) S.nd rfl (Or.inl rfl) (pe_callB call_abs rfl T.z_abs rfl (pa_cons (pv 0) pa_nil)))) pss_nil)
   htt)),?_⟩
  refine ⟨_,rfl,_,_,rfl,rfl,_,rfl,ite3 (fun h=>?_) (fun h=>?_)⟩
  ·refine iteT ⟨_,rfl,_,rfl,?_⟩
   exact fin _ (by split <;> omega)
  ·refine ⟨_,rfl,_,_,rfl,rfl,⟨by decide,by decide,by decide⟩,_,_,rfl,rfl,_,rfl,ite3 (fun h2=>?_) (fun h2=>fin 0 (Int.le_refl _))⟩
   refine ⟨_,rfl,_,rfl,?_⟩
   exact fin _ (by split <;> omega)
theorem S_law_pick:FnScope ["_law_state_here","_law_many","_law_rest"] ["_law_state_here","_law_many"] (defScope s__law_pick):=⟨rfl,rfl,rfl,by decide +kernel,rfl,by decide +kernel,by decide +kernel⟩
theorem ok_law_pick {f:Addr} {fd:FuncData} (F:Fun K "_law_pick" "_law_pick" s__law_pick f fd) (D__law_draw:DefOk P w K mg base 1 "_law_draw" ["_law_cell_here","_law_nth","_law_many"] sp_draw):FnOk P w K mg base CX0 2 f fd ["_law_state_here","_law_many"] sp_pick:=by
 have S:=S_law_pick
 refine F.ok S (fun vs H Q E h=>?_) (fun cdv A outer s H vs Q E hr h=>?_)
 ·obtain ⟨a,t,m,rfl,_⟩:=h; rfl
 ·obtain ⟨a,t,m,rfl,⟨c,r,r0,e⟩,t0,t1,m0,m1,q⟩:=h
  have hu:=hu_of hr
  refine ⟨_,(pss_cons (ps_set (i:=2) S.nd rfl (Or.inl rfl) (pe_dget hu (pv 0) pe_str (fun _ _=>rfl)))
   (pss_cons (ps_dput hu (pv 0) pe_str (pe_op op_add (pe_dget hu (pv 0) pe_str (fun _ _=>rfl)) pe_int) rfl)
   (pss_cons (ps_if (pt_cmpR op_eq (pv 2) pe_int (nomark _)) (pss_one (ps_ret (pe_fn D__law_draw hr (pa_cons (pe_dget hu (pv 0) pe_str (fun _ _=>rfl)) (pa_cons (pe_dget hu (pv 0) pe_str (fun _ _=>rfl)) (pa_cons (pv 1) pa_nil)))))) pss_nil)
   (pss_cons (ps_dput hu (pv 0) pe_str (pe_op op_fdivL (pv 2) (pv 1)) rfl)
   (pss_one (ps_ret (pe_op op_mod (pv 2) (pv 1)))))))),?_⟩
  refine ⟨_,rfl,a,_,rfl,get_rest e,?_⟩
  refine ⟨_,rfl,a,_,rfl,get_times e,_,_,rfl,rfl,_,rfl,a,_,rfl,dput_times e,?_⟩
  have e1:(upd H a (.dK (stK c r (t+1)))) a=some (.dK (stK c r (t+1))):=upd_same
  have s1:SameX a H (upd H a (.dK (stK c r (t+1)))):=SameX.upd
  generalize upd H a (.dK (stK c r (t+1)))=H1 at e1 s1 ⊢
  refine ⟨_,rfl,rfl,_,rfl,ite3 (fun z=>?_) (fun z=>?_)⟩
  ·exact ⟨_,rfl,a,_,rfl,get_cell e1,_,rfl,a,_,rfl,get_times e1,_,rfl,c,t+1,m,rfl,by omega,by omega,m0,fun z z0 z1=>q z _ z0 z1 s1 ⟨c,r,r0,e1⟩⟩
  ·exact ⟨_,rfl,_,rfl,_,_,rfl,rfl,divL _ m0 (by omega),_,rfl,a,_,rfl,dput_rest e1,_,rfl,_,rfl,_,_,rfl,rfl,m0,q _ _ (Int.emod_nonneg _ (by omega)) (Int.emod_lt_of_pos _ m0) (s1.trans SameX.upd) ⟨c,r / m,Int.ediv_nonneg r0 (by omega),upd_same⟩⟩
theorem fn_none {f:Addr} {fd:FuncData} {x qual:Str} {st:Stmt} {N ps:List Str} {k:Nat} {sp:Sp} (F:Fun K x qual st f fd) (S:FnScope N ps (defScope st)) (h:∀ vs H Q E,¬ sp vs H Q E):FnOk P w K mg base CX0 (k+1) f fd ps sp :=
 F.ok S (fun vs H Q E z=>absurd z (h vs H Q E)) (fun cdv A outer s H vs Q E hr z=>absurd z (h vs H Q E))
theorem iteP {c:Bool} {A B:Prop} (h:c=true) (a:A):if c=true then A else B:=by rw [if_pos h]; exact a
abbrev N_tree:List Str:=["_law_cells","_law_width","_law_height","_law_state_here","_law_way","_law_at","_law_first"]
theorem S_law_tree:FnScope N_tree ["_law_cells","_law_width","_law_height"] (defScope s__law_tree):=⟨rfl,rfl,rfl,by decide +kernel,rfl,by decide +kernel,by decide +kernel⟩
theorem tree0 {vs:List V} {H:Hp} {Q:VK} {E:XK}:¬ sp_tree 0 vs H Q E:=by
 rintro ⟨l,ms,w,h,_,_,h1,h2,h3,_⟩
 omega
theorem mark_of {v:V} {a b:Int} (h:v∈([.non,.int a,.int b]:List V)):∃ m,v=markV m:=by
 simp only [List.mem_cons,List.not_mem_nil,or_false] at h
 rcases h with rfl | rfl | rfl
 ·exact ⟨none,rfl⟩
 ·exact ⟨some a,rfl⟩
 ·exact ⟨some b,rfl⟩
theorem ok_law_tree {f:Addr} {fd:FuncData} {n:Nat} (F:Fun K "_law_tree" "_law_tree" s__law_tree f fd) (D__law_state:DefOk P w K mg base 1 "_law_state" ["_law_cell_here"] sp_state) (D__law_pick:DefOk P w K mg base 2 "_law_pick" ["_law_state_here","_law_many"] sp_pick)
  (D__law_tree:DefOk P w K mg base (n+3) "_law_tree" ["_law_cells","_law_width","_law_height"] (sp_tree n)):FnOk P w K mg base CX0 (n+4) f fd ["_law_cells","_law_width","_law_height"] (sp_tree (n+1)):=by
 have S:=S_law_tree
 refine F.ok S (fun vs H Q E h=>?_) (fun cdv A outer s H vs Q E hr h=>?_)
 ·obtain ⟨l,ms,ww,hh,rfl,_⟩:=h; rfl
 ·obtain ⟨l,ms,ww,hh,rfl,hl,w1,h1,wh,w12,h12,q⟩:=h
  obtain ⟨t5,h5,k5⟩:∃ rd,PSs (cxOf CX0 P w K mg base N_tree "_law_tree" (defScope s__law_tree) f cdv A outer s H E).nox ((defBody s__law_tree).drop 5) rd∧∀ (st:Addr) (x4 x5 x6:Option V) (ms2:List Int) (H4:Hp),St8 H4 st 1→SameX l H H4→H4 l=some (.lst (ms2.map V.int))→H st=none→rd { nx:=fun _ H'=>Q .non H',rt:=Q } [some (.ref l),some (.int ww),some (.int hh),some (.ref st),x4,x5,x6] H4:=by
   refine ⟨_,(pss_one (ps_ret (pe_tup (pa_cons pe_str (pa_cons (pe_ix ix_list (pe_lst (pa_cons pe_non (pa_cons (pe_fn D__law_pick hr (pa_cons (pv 3) (pa_cons pe_int pa_nil)) (by omega)) (pa_cons (pe_fn D__law_pick hr (pa_cons (pv 3) (pa_cons pe_int pa_nil)) (by omega)) pa_nil)))) (pe_fn D__law_pick hr (pa_cons (pv 3) (pa_cons pe_int pa_nil)) (by omega)) (fun _ _=>rfl)) pa_nil))))),?_⟩
   intro st x4 x5 x6 ms2 H4 s4 T4 C4 ns
   have sl:st≠l:=fun z=>by rw [z,hl] at ns; cases ns
   refine ⟨_,rfl,st,1,1000,rfl,s4,by decide,by decide,by decide,by decide,fun z1 H5 _ _ y5 s5=>?_⟩
   refine ⟨_,rfl,st,1+1,3,rfl,s5,by decide,by decide,by decide,by decide,fun z2 H6 _ _ y6 s6=>?_⟩
   refine ⟨lenOk 3,fun L nL=>?_⟩
   have y7:Same H6 (upd H6 L (.lst [.non,.int z1,.int z2])):=Same.new nL
   have eL:(upd H6 L (.lst [.non,.int z1,.int z2])) L=some (.lst [.non,.int z1,.int z2]):=upd_same
   generalize upd H6 L (.lst [.non,.int z1,.int z2])=H7 at y7 eL ⊢
   refine ⟨_,rfl,st,1+1+1,3,rfl,s6.same y7,by decide,by decide,by decide,by decide,fun z3 H8 b0 b1 y8 s8=>?_⟩
   have Lst:L≠st:=fun z=>by obtain ⟨_,_,_,e⟩:=s6; rw [z,e] at nL; cases nL
   obtain ⟨v,hv,hm⟩:=atI_in (L:=[.non,.int z1,.int z2]) (i:=z3) b0 b1
   refine ⟨L,_,_,v,rfl,rfl,SqL.of (y8 _ _ Lst eL),hv,?_⟩
   obtain ⟨m,rfl⟩:=mark_of hm
   have y48:SameX st H4 H8:=(y5.trans y6).trans (y7.x.trans y8)
   refine ⟨lenOk 2,fun t ht=>q (.ref t) (.whole m) _ ms2 (fun x o nx ex=>?_) ?_ (by rw [Told]; exact ⟨t,rfl,upd_same⟩) (by rw [Fit]; trivial)⟩
   ·exact (Same.new ht) _ _ (y48 x o (ne_of_none ex ns) (T4 x o nx ex))
   ·exact (Same.new ht) _ _ (y48 _ _ (Ne.symm sl) C4)
  obtain ⟨t4,h4,k4⟩:∃ rd,PSs (cxOf CX0 P w K mg base N_tree "_law_tree" (defScope s__law_tree) f cdv A outer s H E).nox ((defBody s__law_tree).drop 4) rd∧∀ (st:Addr) (way:Int) (x5 x6:Option V) (ms2:List Int) (H4:Hp),St8 H4 st 1→SameX l H H4→H4 l=some (.lst (ms2.map V.int))→H st=none→rd { nx:=fun _ H'=>Q .non H',rt:=Q } [some (.ref l),some (.int ww),some (.int hh),some (.ref st),some (.int way),x5,x6] H4:=by
   refine ⟨_,(pss_cons (ps_if (PW.pt (pw_and (pt_chain op_lt op_lt pe_int (pv 4) pe_int) (pw_and1 (pt_cmpR op_gt (pv 2) pe_int (nomark _))))) (pss_cons (ps_set (i:=5) S.nd rfl (Or.inl rfl) (pe_op op_add pe_int (pe_fn D__law_pick hr (pa_cons (pv 3) (pa_cons (pe_op op_sub (pv 2) pe_int) pa_nil)) (by omega))))
   (pss_cons (ps_set (i:=6) S.nd rfl (Or.inl rfl) (pe_fn D__law_tree hr (pa_cons (pv 0) (pa_cons (pv 1) (pa_cons (pv 5) pa_nil))) (by omega)))
   (pss_one (ps_ret (pe_tup (pa_cons pe_str (pa_cons (pv 5) (pa_cons (pv 6) (pa_cons (pe_fn D__law_tree hr (pa_cons (pv 0) (pa_cons (pv 1) (pa_cons (pe_op op_sub (pv 2) (pv 5)) pa_nil))) (by omega)) pa_nil))))))))) pss_nil)
   h5),?_⟩
   intro st way x5 x6 ms2 H4 s4 T4 C4 ns
   have sl:st≠l:=fun z=>by rw [z,hl] at ns; cases ns
   have back:=k5 st (some (.int way)) x5 x6 ms2 H4 s4 T4 C4 ns
   refine ⟨_,rfl,_,_,rfl,rfl,_,rfl,ite3 (fun c0=>⟨_,_,rfl,rfl,_,rfl,ite3 (fun c1=>⟨_,rfl,_,_,rfl,rfl,_,rfl,ite3 (fun c2=>?_) (fun c2=>back)⟩) (fun c1=>iteF back)⟩) (fun c0=>⟨_,rfl,iteF back⟩)⟩
   have c2:=of_decide_eq_true c2
   refine ⟨_,rfl,_,rfl,_,_,rfl,rfl,st,1,hh - 1,rfl,s4,by decide,by decide,by omega,by omega,fun x H5 a0 a1 y5 s5=>⟨_,_,rfl,rfl,?_⟩⟩
   have C5:=y5 _ _ (Ne.symm sl) C4
   refine ⟨_,rfl,_,rfl,_,rfl,l,ms2,ww,1+x,rfl,C5,by omega,by omega,by omega,by omega,by omega,fun v1 y1 H6 ms3 s6 e6 told1 fit1=>?_⟩
   refine ⟨_,rfl,_,rfl,_,rfl,_,rfl,_,rfl,_,rfl,_,_,rfl,rfl,l,ms3,ww,hh - (1+x),rfl,e6,by omega,by omega,by omega,by omega,by omega,fun v2 y2 H7 ms4 s7 e7 told2 fit2=>⟨lenOk 4,fun t' ht'=>?_⟩⟩
   have s8:Same H7 (upd H7 t' (.tup [.str (wd false),.int (1+x),v1,v2])):=Same.new ht'
   refine q (.ref t') (.cut false (1+x) y1 y2) _ ms4 (fun c o nx ex=>?_) (s8 _ _ e7) ?_ ?_
   ·exact s8 _ _ (s7 _ _ nx (s6 _ _ nx (y5 _ _ (ne_of_none ex ns) (T4 c o nx ex))))
   ·rw [Told]; exact ⟨t',v1,v2,rfl,upd_same,(told1.samex s7 e6).same s8,told2.same s8⟩
   ·rw [Fit]; exact ⟨by omega,by omega,fit1,fit2⟩
  obtain ⟨t3,h3,k3⟩:∃ rd,PSs (cxOf CX0 P w K mg base N_tree "_law_tree" (defScope s__law_tree) f cdv A outer s H E).nox ((defBody s__law_tree).drop 3) rd∧∀ (st:Addr) (way:Int) (x5 x6:Option V) (ms2:List Int) (H4:Hp),St8 H4 st 1→SameX l H H4→H4 l=some (.lst (ms2.map V.int))→H st=none→rd { nx:=fun _ H'=>Q .non H',rt:=Q } [some (.ref l),some (.int ww),some (.int hh),some (.ref st),some (.int way),x5,x6] H4:=by
   refine ⟨_,(pss_cons (ps_if (PW.pt (pw_and (pt_cmpR op_lt (pv 4) pe_int (nomark _)) (pw_and1 (pt_cmpR op_gt (pv 1) pe_int (nomark _))))) (pss_cons (ps_set (i:=5) S.nd rfl (Or.inl rfl) (pe_op op_add pe_int (pe_fn D__law_pick hr (pa_cons (pv 3) (pa_cons (pe_op op_sub (pv 1) pe_int) pa_nil)) (by omega))))
   (pss_cons (ps_set (i:=6) S.nd rfl (Or.inl rfl) (pe_fn D__law_tree hr (pa_cons (pv 0) (pa_cons (pv 5) (pa_cons (pv 2) pa_nil))) (by omega)))
   (pss_one (ps_ret (pe_tup (pa_cons pe_str (pa_cons (pv 5) (pa_cons (pv 6) (pa_cons (pe_fn D__law_tree hr (pa_cons (pv 0) (pa_cons (pe_op op_sub (pv 1) (pv 5)) (pa_cons (pv 2) pa_nil))) (by omega)) pa_nil))))))))) pss_nil)
   h4),?_⟩
   intro st way x5 x6 ms2 H4 s4 T4 C4 ns
   have sl:st≠l:=fun z=>by rw [z,hl] at ns; cases ns
   have back:=k4 st way x5 x6 ms2 H4 s4 T4 C4 ns
   refine ⟨_,rfl,_,_,rfl,rfl,_,rfl,ite3 (fun c1=>?_) (fun c1=>iteF back)⟩
   refine ⟨_,rfl,_,_,rfl,rfl,_,rfl,ite3 (fun c2=>?_) (fun c2=>back)⟩
   have c2:=of_decide_eq_true c2
   refine ⟨_,rfl,_,rfl,_,_,rfl,rfl,st,1,ww - 1,rfl,s4,by decide,by decide,by omega,by omega,fun x H5 a0 a1 y5 s5=>⟨_,_,rfl,rfl,?_⟩⟩
   have C5:=y5 _ _ (Ne.symm sl) C4
   refine ⟨_,rfl,_,rfl,_,rfl,l,ms2,1+x,hh,rfl,C5,by omega,by omega,by omega,by omega,by omega,fun v1 y1 H6 ms3 s6 e6 told1 fit1=>?_⟩
   refine ⟨_,rfl,_,rfl,_,rfl,_,rfl,_,rfl,_,_,rfl,rfl,_,rfl,l,ms3,ww - (1+x),hh,rfl,e6,by omega,by omega,by omega,by omega,by omega,fun v2 y2 H7 ms4 s7 e7 told2 fit2=>⟨lenOk 4,fun t' ht'=>?_⟩⟩
   have s8:Same H7 (upd H7 t' (.tup [.str (wd true),.int (1+x),v1,v2])):=Same.new ht'
   refine q (.ref t') (.cut true (1+x) y1 y2) _ ms4 (fun c o nx ex=>?_) (s8 _ _ e7) ?_ ?_
   ·exact s8 _ _ (s7 _ _ nx (s6 _ _ nx (y5 _ _ (ne_of_none ex ns) (T4 c o nx ex))))
   ·rw [Told]; exact ⟨t',v1,v2,rfl,upd_same,(told1.samex s7 e6).same s8,told2.same s8⟩
   ·rw [Fit]; exact ⟨by omega,by omega,fit1,fit2⟩
  refine ⟨_,(pss_cons (ps_if (pt_cmpR (op_eqD hr) (pv 0) (pe_lst pa_nil) (nomark _)) (pss_one (ps_ret (pe_tup (pa_cons pe_str (pa_cons pe_non pa_nil))))) pss_nil)
   (pss_cons (ps_set (i:=3) S.nd rfl (Or.inl rfl) (pe_fn D__law_state hr (pa_cons (pe_bm0 PySem.F.plainAttrs_list PySem.F.slot_list_pop PySem.F.type_list_pop mt_pop (pv 0)) pa_nil) (by omega)))
   (pss_cons (ps_set (i:=4) S.nd rfl (Or.inl rfl) (pe_fn D__law_pick hr (pa_cons (pv 3) (pa_cons pe_int pa_nil)) (by omega)))
   h3))),?_⟩
  refine ⟨_,rfl,lenOk 0,fun e2 he2=>?_⟩
  have s2:Same H (upd H e2 (.lst [])):=Same.new he2
  refine ⟨_,_,intsL (SqL.of (s2 _ _ hl)),nilL upd_same,⟨_,rfl⟩,⟨_,rfl⟩,intsL_dep _,_,rfl,ite3 (fun c=>?_) (fun c=>?_)⟩
  ·exact ⟨lenOk 2,fun t ht=>q (.ref t) (.whole none) _ ms (s2.trans (Same.new ht)).x ((s2.trans (Same.new ht)) _ _ hl) (by rw [Told]; exact ⟨t,rfl,upd_same⟩) (by rw [Fit]; trivial)⟩
  have hne:ms≠[]:=fun z=>by rw [if_neg Bool.false_ne_true,deq,intsD_nil,decide_eq_true z] at c; cases c
  obtain ⟨ms2,z,rfl⟩:∃ ms2 z,ms=ms2++[z]:=⟨ms.dropLast,ms.getLast hne,(List.dropLast_concat_getLast hne).symm⟩
  have hlast:((ms2++[z]).map V.int)[((ms2++[z]).map V.int).length - 1]?=some (.int z):=by
   rw [List.length_map,List.length_append,List.length_singleton,Nat.add_sub_cancel,List.getElem?_map,List.getElem?_append_right (Nat.le_refl _),Nat.sub_self]; rfl
  have hdl:((ms2++[z]).map V.int).dropLast=ms2.map V.int:=by rw [List.map_append,List.map_singleton,List.dropLast_concat]
  have hl1:=s2 _ _ hl
  have S1:SameX l H (upd H e2 (.lst [])):=s2.x
  generalize upd H e2 (.lst [])=H1 at hl1 S1 ⊢
  refine ⟨_,rfl,.inl ⟨rfl,_,SqL.of hl1⟩,l,_,_,rfl,rfl,hl1,hlast,z,rfl,fun st H3 s3 n3 st3=>?_⟩
  rw [hdl] at s3 n3
  have nl:st≠l:=fun y=>by rw [y,upd_same] at n3; cases n3
  have n1:H1 st=none:=by rw [upd_ne nl] at n3; exact n3
  have n0:H st=none:=by
   cases qq:H st with
   | none=>rfl
   | some o=>rw [S1 st o nl qq] at n1; cases n1
  refine ⟨_,rfl,st,0,7,rfl,st3,by decide,by decide,by decide,by decide,fun way H4 _ _ y4 s4=>?_⟩
  refine k3 st way none none ms2 H4 s4 (fun x o nx ex=>?_) ?_ n0
  ·exact y4 _ _ (ne_of_none ex n0) (s3 _ _ (by rw [upd_ne nx]; exact S1 x o nx ex))
  ·exact y4 _ _ (Ne.symm nl) (s3 _ _ upd_same)
def cutC (cU cL:Addr) (u:Bool):Addr:=if u then cU else cL
abbrev wF (m:V):List (Str × V):=putF "mark" m []
abbrev cF (k:Int) (vx vy:V):List (Str × V):=putF "other" vy (putF "first" vx (putF "at" (.int k) []))
def Obj (cW cU cL:Addr) (H:Hp):Tr→V→Prop
 | .whole m,v=>∃ a dx,v=.ref a∧H a=some (.ins cW dx (wF (markV m)))
 | .cut u k x y,v=>∃ a dx vx vy,v=.ref a∧H a=some (.ins (cutC cU cL u) dx (cF k vx vy))∧Obj cW cU cL H x vx∧Obj cW cU cL H y vy
theorem Obj.same {H H':Hp} (s:Same H H'):∀ {t:Tr} {v:V},Obj cW cU cL H t v→Obj cW cU cL H' t v
 | .whole m,v,h=>by
  rw [Obj] at h ⊢
  obtain ⟨a,dx,e,h⟩:=h
  exact ⟨a,dx,e,s _ _ h⟩
 | .cut u k x y,v,h=>by
  rw [Obj] at h ⊢
  obtain ⟨a,dx,vx,vy,e,h,h1,h2⟩:=h
  exact ⟨a,dx,vx,vy,e,s _ _ h,Obj.same s h1,Obj.same s h2⟩
structure RT (mg:Str→Option Value) (K:PySem.W.Frag) (cT cW cU cL:Addr):Prop where
 g_Tree:mg "Tree"=some (.ref cT)
 g_Whole:mg "Whole"=some (.ref cW)
 g_Upright:mg "Upright"=some (.ref cU)
 g_Level:mg "Level"=some (.ref cL)
 iW:ICls K cW
 iC:∀ u,ICls K (cutC cU cL u)
 n_mark:NoAttr K cW "mark"
 n_at:∀ u,NoAttr K (cutC cU cL u) "at"
 n_first:∀ u,NoAttr K (cutC cU cL u) "first"
 n_other:∀ u,NoAttr K (cutC cU cL u) "other"
 kWW:PySem.W.kitOne K (.ref cW) (.ref cW)=some true
 kWC:∀ u,PySem.W.kitOne K (.ref cW) (.ref (cutC cU cL u))=some false
 kCW:∀ u,PySem.W.kitOne K (.ref (cutC cU cL u)) (.ref cW)=some false
 kCC:∀ u v,PySem.W.kitOne K (.ref (cutC cU cL u)) (.ref (cutC cU cL v))=some (u == v)
 kWT:PySem.W.kitOne K (.ref cW) (.ref cT)=some true
 kCT:∀ u,PySem.W.kitOne K (.ref (cutC cU cL u)) (.ref cT)=some true
def sp_iW (C:Addr):Sp:=fun vs H Q _=>∃ (a dx:Addr) (m:V),vs=[.ref a,m]∧H a=some (.ins C dx [])∧Q .non (upd H a (.ins C dx (wF m)))
def sp_iC (C:Addr):Sp:=fun vs H Q _=>∃ (a dx:Addr) (k:Int) (vx vy:V),vs=[.ref a,.int k,vx,vy]∧H a=some (.ins C dx [])∧∀ H',SameX a H H'→H' a=some (.ins C dx (cF k vx vy))→Q .non H'
theorem S_Whole_init:FnScope ["self","mark"] ["self","mark"] (defScope s_Whole_init):=⟨rfl,rfl,rfl,by decide +kernel,rfl,by decide +kernel,by decide +kernel⟩
theorem ok_Whole_init {f:Addr} {fd:FuncData} (F:FunD K "__init__" "Whole.__init__" s_Whole_init f fd) (R:RT mg K cT cW cU cL):FnOk P w K mg base CX0 1 f fd ["self","mark"] (sp_iW cW):=by
 have S:=S_Whole_init
 refine F.ok S (fun vs H Q E h=>?_) (fun cdv A outer s H vs Q E hr h=>?_)
 ·obtain ⟨a,dx,m,rfl,_⟩:=h; rfl
 ·obtain ⟨a,dx,m,rfl,ha,q⟩:=h
  refine ⟨_,(pss_one (ps_fld (pv 0) (pv 1) rfl)),?_⟩
  exact ⟨_,rfl,_,rfl,a,cW,dx,_,rfl,ha,R.iW.cl,R.n_mark,(by show 0 < 1000; decide),q⟩
theorem S_Upright_init:FnScope ["self","at","first","other"] ["self","at","first","other"] (defScope s_Upright_init):=⟨rfl,rfl,rfl,by decide +kernel,rfl,by decide +kernel,by decide +kernel⟩
theorem ok_Upright_init {f:Addr} {fd:FuncData} (F:Fun K "__init__" "Upright.__init__" s_Upright_init f fd) (R:RT mg K cT cW cU cL):FnOk P w K mg base CX0 1 f fd ["self","at","first","other"] (sp_iC cU):=by
 have S:=S_Upright_init
 refine F.ok S (fun vs H Q E h=>?_) (fun cdv A outer s H vs Q E hr h=>?_)
 ·obtain ⟨a,dx,k,vx,vy,rfl,_⟩:=h; rfl
 ·obtain ⟨a,dx,k,vx,vy,rfl,ha,q⟩:=h
  refine ⟨_,(pss_cons (ps_fld (pv 0) (pv 1) rfl)
   (pss_cons (ps_fld (pv 0) (pv 2) rfl)
   (pss_one (ps_fld (pv 0) (pv 3) rfl)))),?_⟩
  refine ⟨_,rfl,_,rfl,a,cU,dx,_,rfl,ha,(R.iC true).cl,R.n_at true,(by show 0 < 1000; decide),?_⟩
  refine ⟨_,rfl,_,rfl,a,cU,dx,_,rfl,upd_same,(R.iC true).cl,R.n_first true,(by show 1 < 1000; decide),?_⟩
  refine ⟨_,rfl,_,rfl,a,cU,dx,_,rfl,upd_same,(R.iC true).cl,R.n_other true,(by show 2 < 1000; decide),?_⟩
  exact q _ ((SameX.upd.trans SameX.upd).trans SameX.upd) upd_same
theorem S_Level_init:FnScope ["self","at","first","other"] ["self","at","first","other"] (defScope s_Level_init):=⟨rfl,rfl,rfl,by decide +kernel,rfl,by decide +kernel,by decide +kernel⟩
theorem ok_Level_init {f:Addr} {fd:FuncData} (F:Fun K "__init__" "Level.__init__" s_Level_init f fd) (R:RT mg K cT cW cU cL):FnOk P w K mg base CX0 1 f fd ["self","at","first","other"] (sp_iC cL):=by
 have S:=S_Level_init
 refine F.ok S (fun vs H Q E h=>?_) (fun cdv A outer s H vs Q E hr h=>?_)
 ·obtain ⟨a,dx,k,vx,vy,rfl,_⟩:=h; rfl
 ·obtain ⟨a,dx,k,vx,vy,rfl,ha,q⟩:=h
  refine ⟨_,(pss_cons (ps_fld (pv 0) (pv 1) rfl)
   (pss_cons (ps_fld (pv 0) (pv 2) rfl)
   (pss_one (ps_fld (pv 0) (pv 3) rfl)))),?_⟩
  refine ⟨_,rfl,_,rfl,a,cL,dx,_,rfl,ha,(R.iC false).cl,R.n_at false,(by show 0 < 1000; decide),?_⟩
  refine ⟨_,rfl,_,rfl,a,cL,dx,_,rfl,upd_same,(R.iC false).cl,R.n_first false,(by show 1 < 1000; decide),?_⟩
  refine ⟨_,rfl,_,rfl,a,cL,dx,_,rfl,upd_same,(R.iC false).cl,R.n_other false,(by show 2 < 1000; decide),?_⟩
  exact q _ ((SameX.upd.trans SameX.upd).trans SameX.upd) upd_same
theorem made_same {H:Hp} {x dx:Addr} {o1 o2:HO} (hx:H x=none) (hd:H dx=none):Same H (upd (upd H dx o1) x o2):=fun b o e=>by
 rw [upd_ne (ne_of_none e hx),upd_ne (ne_of_none e hd)]; exact e
def sp_made (cW cU cL:Addr) (n:Nat):Sp:=fun vs H Q _=>∃ (v:V) (t:Tr),vs=[v]∧Told H t v∧t.dp < n∧∀ v' H',Same H H'→Obj cW cU cL H' t v'→Q v' H'
theorem made0 {vs:List V} {H:Hp} {Q:VK} {E:XK}:¬ sp_made cW cU cL 0 vs H Q E:=by
 rintro ⟨v,t,_,_,h,_⟩
 omega
theorem S_law_made:FnScope ["_law_told_here"] ["_law_told_here"] (defScope s__law_made):=⟨rfl,rfl,rfl,by decide +kernel,rfl,by decide +kernel,by decide +kernel⟩
theorem ok_law_made {f:Addr} {fd:FuncData} {n:Nat} (F:Fun K "_law_made" "_law_made" s__law_made f fd) (K_Whole:MkOk P w K mg base 1 "Whole" cW ["self","mark"] (sp_iW cW)) (K_Upright:MkOk P w K mg base 1 "Upright" cU ["self","at","first","other"] (sp_iC cU))
  (K_Level:MkOk P w K mg base 1 "Level" cL ["self","at","first","other"] (sp_iC cL)) (D__law_made:DefOk P w K mg base (n+3) "_law_made" ["_law_told_here"] (sp_made cW cU cL n)):FnOk P w K mg base CX0 (n+4) f fd ["_law_told_here"] (sp_made cW cU cL (n+1)):=by
 have S:=S_law_made
 refine F.ok S (fun vs H Q E h=>?_) (fun cdv A outer s H vs Q E hr h=>?_)
 ·obtain ⟨v,t,rfl,_⟩:=h; rfl
 ·obtain ⟨v,t,rfl,ht,hd,q⟩:=h
  refine ⟨_,(pss_cons (ps_if (pt_cmpR op_eq (pe_ix ix_tup (pv 0) pe_int (fun _ _=>rfl)) pe_str (nomark _)) (pss_one (ps_ret (pe_mk K_Whole hr (pa_cons (pe_ix ix_tup (pv 0) pe_int (fun _ _=>rfl)) pa_nil) (by omega)))) pss_nil)
   (pss_cons (ps_if (pt_cmpR op_eq (pe_ix ix_tup (pv 0) pe_int (fun _ _=>rfl)) pe_str (nomark _)) (pss_one (ps_ret (pe_mk K_Upright hr (pa_cons (pe_ix ix_tup (pv 0) pe_int (fun _ _=>rfl)) (pa_cons (pe_fn D__law_made hr (pa_cons (pe_ix ix_tup (pv 0) pe_int (fun _ _=>rfl)) pa_nil) (by omega)) (pa_cons (pe_fn D__law_made hr (pa_cons (pe_ix ix_tup (pv 0) pe_int (fun _ _=>rfl)) pa_nil) (by omega)) pa_nil))) (by omega)))) pss_nil)
   (pss_one (ps_ret (pe_mk K_Level hr (pa_cons (pe_ix ix_tup (pv 0) pe_int (fun _ _=>rfl)) (pa_cons (pe_fn D__law_made hr (pa_cons (pe_ix ix_tup (pv 0) pe_int (fun _ _=>rfl)) pa_nil) (by omega)) (pa_cons (pe_fn D__law_made hr (pa_cons (pe_ix ix_tup (pv 0) pe_int (fun _ _=>rfl)) pa_nil) (by omega)) pa_nil))) (by omega)))))),?_⟩
  cases t with
  | whole m =>
   rw [Told] at ht
   obtain ⟨a,rfl,ha⟩:=ht
   refine ⟨_,rfl,a,_,_,_,rfl,rfl,SqT.of ha,at2_0,rfl,_,rfl,iteP (decide_eq_true rfl) ?_⟩
   refine ⟨_,rfl,a,_,_,_,rfl,rfl,SqT.of ha,at2_1,fun x dx nx ndx nex=>⟨x,dx,_,rfl,upd_same,rfl,?_⟩⟩
   refine q _ _ (fun b o e=>?_) (by rw [Obj]; exact ⟨x,dx,rfl,upd_same⟩)
   rw [upd_ne (ne_of_none e nx)]; exact made_same nx ndx b o e
  | cut u k y1 y2 =>
   rw [Told] at ht
   obtain ⟨a,v1,v2,rfl,ha,t1,t2⟩:=ht
   have hd:max y1.dp y2.dp+1 < n+1:=hd
   refine ⟨_,rfl,a,_,_,_,rfl,rfl,SqT.of ha,at0,rfl,_,rfl,iteN (wd_whole u) ?_⟩
   cases u with
   | true =>
    refine ⟨_,rfl,a,_,_,_,rfl,rfl,SqT.of ha,at0,rfl,_,rfl,iteP (wd_dec true true) ?_⟩
    refine ⟨_,rfl,a,_,_,_,rfl,rfl,SqT.of ha,at1,_,rfl,a,_,_,_,rfl,rfl,SqT.of ha,at2,v1,y1,rfl,t1,by omega,fun w1 H1 s1 o1=>?_⟩
    refine ⟨_,rfl,a,_,_,_,rfl,rfl,SqT.of (s1 _ _ ha),at3,v2,y2,rfl,t2.same s1,by omega,fun w2 H2 s2 o2=>?_⟩
    refine fun x dx nx ndx nex=>⟨x,dx,k,w1,w2,rfl,upd_same,fun H3 s3 e3=>⟨rfl,?_⟩⟩
    have s4:Same H2 H3:=fun b o e=>s3 b o (ne_of_none e nx) (made_same nx ndx b o e)
    exact q _ _ ((s1.trans s2).trans s4) (by rw [Obj]; exact ⟨x,dx,w1,w2,rfl,e3,(o1.same s2).same s4,o2.same s4⟩)
   | false =>
    refine ⟨_,rfl,a,_,_,_,rfl,rfl,SqT.of ha,at0,rfl,_,rfl,iteN (wd_dec false true) ?_⟩
    refine ⟨_,rfl,a,_,_,_,rfl,rfl,SqT.of ha,at1,_,rfl,a,_,_,_,rfl,rfl,SqT.of ha,at2,v1,y1,rfl,t1,by omega,fun w1 H1 s1 o1=>?_⟩
    refine ⟨_,rfl,a,_,_,_,rfl,rfl,SqT.of (s1 _ _ ha),at3,v2,y2,rfl,t2.same s1,by omega,fun w2 H2 s2 o2=>?_⟩
    refine fun x dx nx ndx nex=>⟨x,dx,k,w1,w2,rfl,upd_same,fun H3 s3 e3=>⟨rfl,?_⟩⟩
    have s4:Same H2 H3:=fun b o e=>s3 b o (ne_of_none e nx) (made_same nx ndx b o e)
    exact q _ _ ((s1.trans s2).trans s4) (by rw [Obj]; exact ⟨x,dx,w1,w2,rfl,e3,(o1.same s2).same s4,o2.same s4⟩)
theorem fW (m:V):(wF m).lookup ("mark":Str)=some m:=by rw [lookup_putF,if_pos rfl]
theorem fC_at (k:Int) (vx vy:V):(cF k vx vy).lookup ("at":Str)=some (.int k):=by rw [lookup_putF,if_neg (by decide +kernel),lookup_putF,if_neg (by decide +kernel),lookup_putF,if_pos rfl]
theorem fC_first (k:Int) (vx vy:V):(cF k vx vy).lookup ("first":Str)=some vx:=by rw [lookup_putF,if_neg (by decide +kernel),lookup_putF,if_pos rfl]
theorem fC_other (k:Int) (vx vy:V):(cF k vx vy).lookup ("other":Str)=some vy:=by rw [lookup_putF,if_pos rfl]
theorem refU {C:Addr}:∀ u',RelV (.ref C) u'→u'=.ref C:=fun _ z=>z
inductive En where
 | w (m:Option Int)
 | c (u:Bool) (k:Int)
def ents:Tr→List En
 | .whole m=>[.w m]
 | .cut u k x y=>.c u k :: (ents x++ents y)
def Tr.nd:Tr→Nat
 | .whole _=>1
 | .cut _ _ x y=>x.nd+y.nd+1
theorem ents_len:∀ t:Tr,(ents t).length=t.nd
 | .whole _=>rfl
 | .cut _ _ x y=>by rw [ents,List.length_cons,List.length_append,ents_len x,ents_len y]; rfl
theorem nd_pos:∀ t:Tr,0 < t.nd
 | .whole _=>Nat.one_pos
 | .cut _ _ x y=>Nat.succ_pos _
def enV:En→List V
 | .w m=>[.str "whole",markV m]
 | .c u k=>[.str (wd u),.int k]
def hdE:Tr→En
 | .whole m=>.w m
 | .cut u k _ _=>.c u k
def Kp (H H':Hp):Prop:=∀ b o,H b=some o→(∀ xs,o≠.lst xs)→H' b=some o
theorem kp_of {H H':Hp} (s:Same H H'):Kp H H':=fun b o e _=>s b o e
theorem Kp.trans {H H1 H2:Hp} (a:Kp H H1) (b:Kp H1 H2):Kp H H2:=fun c o e n=>b c o (a c o e n) n
theorem Kp.put {H:Hp} {l:Addr} {xs ys:List V} (h:H l=some (.lst xs)):Kp H (upd H l (.lst ys)):=fun b o e n=>by
 rw [upd_ne (ne_of e h (n xs))]; exact e
theorem Obj.kp {H H':Hp} (s:Kp H H'):∀ {t:Tr} {v:V},Obj cW cU cL H t v→Obj cW cU cL H' t v
 | .whole m,v,h=>by
  rw [Obj] at h ⊢
  obtain ⟨a,dx,e,h⟩:=h
  exact ⟨a,dx,e,s _ _ h (by intro xs z; cases z)⟩
 | .cut u k x y,v,h=>by
  rw [Obj] at h ⊢
  obtain ⟨a,dx,vx,vy,e,h,h1,h2⟩:=h
  exact ⟨a,dx,vx,vy,e,s _ _ h (by intro xs z; cases z),Obj.kp s h1,Obj.kp s h2⟩
def EnsAt (H:Hp):List V→List En→Prop
 | [],[]=>True
 | v :: r,e :: q=>(∃ a,v=.ref a∧H a=some (.tup (enV e)))∧EnsAt H r q
 | _,_=>False
theorem EnsAt.kp {H H':Hp} (s:Kp H H'):∀ {vs:List V} {es:List En},EnsAt H vs es→EnsAt H' vs es
 | [],[],_=>trivial
 | v :: r,e :: q,h=>⟨let ⟨a,b,c⟩:=h.1; ⟨a,b,s _ _ c (by intro xs z; cases z)⟩,EnsAt.kp s h.2⟩
 | [],_ :: _,h=>h
 | _ :: _,[],h=>h
theorem EnsAt.snoc {H:Hp} {a:Addr} {e:En} (ha:H a=some (.tup (enV e))):∀ {vs:List V} {es:List En},EnsAt H vs es→EnsAt H (vs++[.ref a]) (es++[e])
 | [],[],_=>⟨⟨a,rfl,ha⟩,trivial⟩
 | v :: r,e' :: q,h=>⟨h.1,EnsAt.snoc ha h.2⟩
 | [],_ :: _,h=>h.elim
 | _ :: _,[],h=>h.elim
theorem EnsAt.len {H:Hp}:∀ {vs:List V} {es:List En},EnsAt H vs es→vs.length=es.length
 | [],[],_=>rfl
 | v :: r,e' :: q,h=>by rw [List.length_cons,List.length_cons,EnsAt.len h.2]
 | [],_ :: _,h=>h.elim
 | _ :: _,[],h=>h.elim
theorem EnsAt.get {H:Hp}:∀ {vs:List V} {es:List En} {i:Nat} {v:V},EnsAt H vs es→vs[i]?=some v→∃ e a,es[i]?=some e∧v=.ref a∧H a=some (.tup (enV e))
 | v :: r,e :: q,0,_,h,hv=>by
  cases hv
  obtain ⟨a,b,c⟩:=h.1
  exact ⟨e,a,rfl,b,c⟩
 | v :: r,e :: q,i+1,_,h,hv=>EnsAt.get (i:=i) h.2 hv
 | [],[],_,_,_,hv=>by cases hv
 | [],_ :: _,_,_,h,_=>h.elim
 | _ :: _,[],_,_,h,_=>h.elim
def sp_entry (cW cU cL:Addr):Sp:=fun vs H Q _=>∃ (v:V) (t:Tr),vs=[v]∧Obj cW cU cL H t v∧∀ a,H a=none→Q (.ref a) (upd H a (.tup (enV (hdE t))))
def sp_kindof (cW cU cL:Addr):Sp:=fun vs H Q _=>∃ (v:V) (t:Tr),vs=[v]∧Obj cW cU cL H t v∧Q ((enV (hdE t)).headD .non) H
theorem S_kind_of:FnScope ["tree"] ["tree"] (defScope s_kind_of):=⟨rfl,rfl,rfl,by decide +kernel,rfl,by decide +kernel,by decide +kernel⟩
theorem ok_kind_of {f:Addr} {fd:FuncData} (F:Fun K "kind_of" "kind_of" s_kind_of f fd) (T:Txt mg tk) (R:RT mg K cT cW cU cL):FnOk P w K mg base CX0 1 f fd ["tree"] (sp_kindof cW cU cL):=by
 have S:=S_kind_of
 refine F.ok S (fun vs H Q E h=>?_) (fun cdv A outer s H vs Q E hr h=>?_)
 ·obtain ⟨v,t,rfl,_⟩:=h; rfl
 ·obtain ⟨v,t,rfl,ho,q⟩:=h
  refine ⟨_,(pss_cons (ps_if (pt_val (pe_callB call_isinI rfl T.z_isinstance rfl (pa_cons (pv 0) (pa_cons (pe_glob (v:=.ref (cW)) rfl R.g_Whole rfl) pa_nil)))) (pss_one (ps_ret (pe_glob (v:=.str "whole") rfl T.g_WHOLE ⟨_,rfl⟩))) pss_nil)
   (pss_one (ps_ret (pe_ifExp (pt_val (pe_callB call_isinI rfl T.z_isinstance rfl (pa_cons (pv 0) (pa_cons (pe_glob (v:=.ref (cU)) rfl R.g_Upright rfl) pa_nil)))) (pe_glob (v:=.str "upright") rfl T.g_UPRIGHT ⟨_,rfl⟩) (pe_glob (v:=.str "level") rfl T.g_LEVEL ⟨_,rfl⟩))))),?_⟩
  cases t with
  | whole m =>
   rw [Obj] at ho
   obtain ⟨x,dx,rfl,hx⟩:=ho
   exact ⟨_,rfl,x,cW,dx,_,_,.ref cW,true,rfl,hx,R.iW,rfl,refU,R.kWW,_,rfl,iteP rfl q⟩
  | cut u k y1 y2 =>
   rw [Obj] at ho
   obtain ⟨x,dx,w1,w2,rfl,hx,o1,o2⟩:=ho
   refine ⟨_,rfl,x,_,dx,_,_,.ref cW,false,rfl,hx,R.iC u,rfl,refU,R.kCW u,_,rfl,iteN rfl ?_⟩
   refine ⟨_,rfl,x,_,dx,_,_,.ref cU,_,rfl,hx,R.iC u,rfl,refU,R.kCC u true,_,rfl,?_⟩
   cases u with
   | true=>exact iteP rfl q
   | false=>exact iteN rfl q
theorem S_entry_of:FnScope ["tree","kind"] ["tree"] (defScope s_entry_of):=⟨rfl,rfl,rfl,by decide +kernel,rfl,by decide +kernel,by decide +kernel⟩
theorem ok_entry_of {f:Addr} {fd:FuncData} (F:Fun K "entry_of" "entry_of" s_entry_of f fd) (T:Txt mg tk) (R:RT mg K cT cW cU cL) (D_kind_of:DefOk P w K mg base 1 "kind_of" ["tree"] (sp_kindof cW cU cL)):FnOk P w K mg base CX0 2 f fd ["tree"] (sp_entry cW cU cL):=by
 have S:=S_entry_of
 refine F.ok S (fun vs H Q E h=>?_) (fun cdv A outer s H vs Q E hr h=>?_)
 ·obtain ⟨v,t,rfl,_⟩:=h; rfl
 ·obtain ⟨v,t,rfl,ho,q⟩:=h
  refine ⟨_,(pss_cons (ps_set (i:=1) S.nd rfl (Or.inl rfl) (pe_fn D_kind_of hr (pa_cons (pv 0) pa_nil)))
   (pss_one (ps_ret (pe_tup (pa_cons (pv 1) (pa_cons (pe_ifExp (pt_cmpR op_eq (pv 1) (pe_glob (v:=.str "whole") rfl T.g_WHOLE ⟨_,rfl⟩) (nomark _)) (pe_fld (pv 0) rfl) (pe_fld (pv 0) rfl)) pa_nil)))))),?_⟩
  refine ⟨_,rfl,_,t,rfl,ho,?_⟩
  cases t with
  | whole m =>
   rw [Obj] at ho
   obtain ⟨x,dx,rfl,hx⟩:=ho
   exact ⟨_,rfl,_,rfl,rfl,_,rfl,iteP (decide_eq_true rfl) ⟨_,rfl,x,cW,dx,_,_,rfl,hx,R.iW.cl,R.n_mark,fW _,lenOk 2,fun a ha=>q a ha⟩⟩
  | cut u k y1 y2 =>
   rw [Obj] at ho
   obtain ⟨x,dx,w1,w2,rfl,hx,o1,o2⟩:=ho
   exact ⟨_,rfl,_,rfl,rfl,_,rfl,iteN (wd_whole u) ⟨_,rfl,x,_,dx,_,_,rfl,hx,(R.iC u).cl,R.n_at u,fC_at _ _ _,lenOk 2,fun a ha=>q a ha⟩⟩
def flat (ws:List (V × Tr)):List En:=ws.reverse.flatMap fun p=>ents p.2
theorem flat_snoc (ws:List (V × Tr)) (p:V × Tr):flat (ws++[p])=ents p.2++flat ws:=by
 unfold flat
 rw [List.reverse_append,List.reverse_singleton,List.singleton_append,List.flatMap_cons]
def cnt (ws:List (V × Tr)):Nat:=(ws.map fun p=>p.2.nd).sum
theorem cnt_snoc (ws:List (V × Tr)) (p:V × Tr):cnt (ws++[p])=cnt ws+p.2.nd:=by
 unfold cnt
 rw [List.map_append,List.sum_append,List.map_singleton,List.sum_singleton]
theorem cnt_len:∀ ws:List (V × Tr),ws.length≤cnt ws
 | []=>Nat.le_refl 0
 | p :: r=>by
  have:=cnt_len r
  have:=nd_pos p.2
  show r.length+1≤p.2.nd+cnt r
  omega
theorem flat_cons (p:V × Tr) (r:List (V × Tr)):flat (p :: r)=flat r++ents p.2:=by
 unfold flat
 rw [List.reverse_cons,List.flatMap_append,List.flatMap_cons,List.flatMap_nil,List.append_nil]
theorem flat_len:∀ ws:List (V × Tr),(flat ws).length=cnt ws
 | []=>rfl
 | p :: r=>by
  rw [flat_cons,List.length_append,ents_len,flat_len r]
  show _=p.2.nd+cnt r
  omega
theorem snoc_cases {α:Type} (ws:List α):ws=[]∨∃ ws0 p,ws=ws0++[p]:=by
 by_cases h:ws=[]
 ·exact .inl h
 ·exact .inr ⟨ws.dropLast,ws.getLast h,(List.dropLast_concat_getLast h).symm⟩
theorem last_map {ws0:List (V × Tr)} {p:V × Tr}:((ws0++[p]).map (·.1))[((ws0++[p]).map (·.1)).length - 1]?=some p.1:=by
 rw [List.length_map,List.length_append,List.length_singleton,Nat.add_sub_cancel,List.getElem?_map,List.getElem?_append_right (Nat.le_refl _),Nat.sub_self]; rfl
theorem drop_map {ws0:List (V × Tr)} {p:V × Tr}:((ws0++[p]).map (·.1)).dropLast=ws0.map (·.1):=by rw [List.map_append,List.map_singleton,List.dropLast_concat]
def sp_entries (cW cU cL:Addr):Sp:=fun vs H Q _=>∃ (v:V) (t:Tr),vs=[v]∧Obj cW cU cL H t v∧t.nd≤400∧∀ l xs H',Same H H'→H l=none→H' l=some (.lst xs)→EnsAt H' xs (ents t)→Q (.ref l) H'
abbrev EInv (cW cU cL:Addr) (H:Hp) (v:V) (t:Tr) (le lw:Addr) (m:Nat) (σ:St) (H':Hp):Prop:=∃ (xs:List V) (es:List En) (ws:List (V × Tr)) (x3:Option V),σ=[some v,some (.ref le),some (.ref lw),x3]∧Same H H'∧H' le=some (.lst xs)∧EnsAt H' xs es∧H' lw=some (.lst (ws.map (·.1)))∧(∀ p∈ws,Obj cW cU cL H' p.2 p.1)∧es++flat ws=ents t∧m=cnt ws
theorem S_entries_of:FnScope ["tree","entries","waiting","part"] ["tree"] (defScope s_entries_of):=⟨rfl,rfl,rfl,by decide +kernel,rfl,by decide +kernel,by decide +kernel⟩
theorem ok_entries_of {f:Addr} {fd:FuncData} (F:Fun K "entries_of" "entries_of" s_entries_of f fd) (T:Txt mg tk) (R:RT mg K cT cW cU cL) (D_entry_of:DefOk P w K mg base 2 "entry_of" ["tree"] (sp_entry cW cU cL)):FnOk P w K mg base CX0 3 f fd ["tree"] (sp_entries cW cU cL):=by
 have S:=S_entries_of
 refine F.ok S (fun vs H Q E h=>?_) (fun cdv A outer s H vs Q E hr h=>?_)
 ·obtain ⟨v,t,rfl,_⟩:=h; rfl
 ·obtain ⟨v,t,rfl,ho,hn,q⟩:=h
  refine ⟨_,(pss_cons (ps_set (i:=1) S.nd rfl (Or.inl rfl) (pe_lst pa_nil))
   (pss_cons (ps_set (i:=2) S.nd rfl (Or.inl rfl) (pe_lst (pa_cons (pv 0) pa_nil)))
   (pss_cons (ps_while PassesOwn.never (pt_truth (pv 2) (fun _=>rfl)) (pss_cons (ps_set (i:=3) S.nd rfl (Or.inl rfl) (pe_bm0 PySem.F.plainAttrs_list PySem.F.slot_list_pop PySem.F.type_list_pop mt_pop (pv 2)))
   (pss_cons (ps_expr (pe_bm PySem.F.plainAttrs_list PySem.F.slot_list_append PySem.F.type_list_append mt_append (pv 1) (pa_cons (pe_fn D_entry_of hr (pa_cons (pv 3) pa_nil)) pa_nil)))
   (pss_one (ps_if (pt_not (pt_val (pe_callB call_isinI rfl T.z_isinstance rfl (pa_cons (pv 3) (pa_cons (pe_glob (v:=.ref (cW)) rfl R.g_Whole rfl) pa_nil))))) (pss_one (ps_expr (pe_bm PySem.F.plainAttrs_list PySem.F.slot_list_extend PySem.F.type_list_extend mt_extend (pv 2) (pa_cons (pe_lst (pa_cons (pe_fld (pv 3) rfl) (pa_cons (pe_fld (pv 3) rfl) pa_nil))) pa_nil)))) pss_nil)))))
   (pss_one (ps_ret (pv 1)))))),?_⟩
  refine ⟨lenOk 0,fun le hle=>⟨_,rfl,lenOk 1,fun lw hlw=>?_⟩⟩
  have nel:le≠lw:=ne_of_none upd_same hlw
  have s0:Same H (upd (upd H le (.lst [])) lw (.lst [v])):=(Same.new hle).trans (Same.new hlw)
  have hlw0:H lw=none:=by
   cases e:H lw with
   | none=>rfl
   | some o=>rw [Same.new hle _ _ e] at hlw; cases hlw
  refine ⟨EInv cW cU cL H v t le lw,
   ⟨_,[],[],[(v,t)],none,rfl,s0,by rw [upd_ne nel]; exact upd_same,trivial,upd_same,fun p hp=>?_,?_,rfl⟩,?_⟩
  ·rw [List.mem_singleton.mp hp]; exact ho.same s0
  ·show ents t++[]=ents t
   exact List.append_nil _
  rintro m σ H' ⟨xs,es,ws,x3,rfl,s1,hl,hen,hw,hob,heq,rfl⟩
  have tot:es.length+cnt ws=t.nd:=by rw [← ents_len,← heq,List.length_append,flat_len]
  rcases snoc_cases ws with rfl | ⟨ws0,p,rfl⟩
  ·refine ⟨_,rfl,_,.inl ⟨_,SqL.of hw,rfl⟩,iteN rfl ⟨_,rfl,q le xs H' s1 hle hl ?_⟩⟩
   rw [← heq]
   show EnsAt H' xs (es++[])
   rw [List.append_nil]; exact hen
  ·refine ⟨_,rfl,_,.inl ⟨_,SqL.of hw,rfl⟩,iteP (by simp) ⟨fun σ' H''=>∃ m',m' < cnt (ws0++[p])∧EInv cW cU cL H v t le lw m' σ' H'',fun σ' H'' z=>z,?_⟩⟩
   refine ⟨_,rfl,.inl ⟨rfl,_,SqL.of hw⟩,lw,_,p.1,rfl,rfl,hw,last_map,?_⟩
   rw [drop_map]
   have k2:Kp H' (upd H' lw (.lst (ws0.map (·.1)))):=Kp.put hw
   have s2:Same H (upd H' lw (.lst (ws0.map (·.1)))):=fun b o e=>by rw [upd_ne (ne_of_none e hlw0)]; exact s1 b o e
   have l2:(upd H' lw (.lst (ws0.map (·.1)))) le=some (.lst xs):=by rw [upd_ne nel]; exact hl
   have w2:(upd H' lw (.lst (ws0.map (·.1)))) lw=some (.lst (ws0.map (·.1))):=upd_same
   generalize upd H' lw (.lst (ws0.map (·.1)))=H2 at k2 s2 l2 w2 ⊢
   have op:=(hob p (by simp)).kp k2
   have ob0:∀ r∈ws0,Obj cW cU cL H2 r.2 r.1:=fun r hr=>(hob r (List.mem_append_left _ hr)).kp k2
   have hen2:=hen.kp k2
   rw [flat_snoc] at heq
   rw [cnt_snoc] at tot
   have hxl:=hen.len
   have np:=nd_pos p.2
   refine ⟨_,rfl,.inl ⟨rfl,_,SqL.of l2⟩,_,rfl,p.1,p.2,rfl,op,fun a ha=>?_⟩
   have s3:Same H2 (upd H2 a (.tup (enV (hdE p.2)))):=Same.new ha
   have a3:(upd H2 a (.tup (enV (hdE p.2)))) a=some (.tup (enV (hdE p.2))):=upd_same
   generalize upd H2 a (.tup (enV (hdE p.2)))=H3 at s3 a3 ⊢
   have l3:=s3 _ _ l2
   refine ⟨le,xs,.ref a,rfl,rfl,l3,small1000 (by omega),?_⟩
   have k4:Kp H3 (upd H3 le (.lst (xs++[.ref a]))):=Kp.put l3
   have s4:Same H (upd H3 le (.lst (xs++[.ref a]))):=fun b o e=>by rw [upd_ne (ne_of_none e hle)]; exact s3 b o (s2 b o e)
   have l4:(upd H3 le (.lst (xs++[.ref a]))) le=some (.lst (xs++[.ref a])):=upd_same
   have w4:(upd H3 le (.lst (xs++[.ref a]))) lw=some (.lst (ws0.map (·.1))):=by rw [upd_ne (Ne.symm nel)]; exact s3 _ _ w2
   have en4:EnsAt (upd H3 le (.lst (xs++[.ref a]))) (xs++[.ref a]) (es++[hdE p.2]):=((hen2.kp (kp_of s3)).kp k4).snoc (k4 _ _ a3 (by intro xs z; cases z))
   have kk:=(kp_of s3).trans k4
   generalize upd H3 le (.lst (xs++[.ref a]))=H4 at k4 s4 l4 w4 en4 kk ⊢
   have op4:=op.kp kk
   have ob4:∀ r∈ws0,Obj cW cU cL H4 r.2 r.1:=fun r hr=>(ob0 r hr).kp kk
   obtain ⟨pv,pt⟩:=p
   cases pt with
   | whole m =>
    rw [Obj] at op4
    obtain ⟨x,dx,rfl,hx⟩:=op4
    refine ⟨_,rfl,x,cW,dx,_,_,.ref cW,true,rfl,hx,R.iW,rfl,refU,R.kWW,_,rfl,iteN rfl ?_⟩
    refine ⟨cnt ws0,by rw [cnt_snoc]; exact Nat.lt_succ_self _,_,_,ws0,_,rfl,s4,l4,en4,w4,ob4,?_,rfl⟩
    rw [← heq,List.append_assoc]; rfl
   | cut u k y1 y2 =>
    rw [Obj] at op4
    obtain ⟨x,dx,v1,v2,rfl,hx,o1,o2⟩:=op4
    refine ⟨_,rfl,x,_,dx,_,_,.ref cW,false,rfl,hx,R.iC u,rfl,refU,R.kCW u,_,rfl,iteP rfl ?_⟩
    refine ⟨_,rfl,.inl ⟨rfl,_,SqL.of w4⟩,_,rfl,x,_,dx,_,_,rfl,hx,(R.iC u).cl,R.n_other u,fC_other _ _ _,_,rfl,x,_,dx,_,_,rfl,hx,(R.iC u).cl,R.n_first u,fC_first _ _ _,lenOk 2,fun l5 hl5=>?_⟩
    have s5:Same H4 (upd H4 l5 (.lst [v2,v1])):=Same.new hl5
    have e5:(upd H4 l5 (.lst [v2,v1])) l5=some (.lst [v2,v1]):=upd_same
    generalize upd H4 l5 (.lst [v2,v1])=H5 at s5 e5 ⊢
    have cl:=cnt_len ws0
    have ndp:(Tr.cut u k y1 y2).nd=y1.nd+y2.nd+1:=rfl
    refine ⟨lw,l5,_,_,rfl,rfl,s5 _ _ w4,e5,Nat.le_of_lt (small1000 (by show (ws0.map (·.1)).length+2≤1000; rw [List.length_map]; omega)),?_⟩
    have k6:Kp H5 (upd H5 lw (.lst (ws0.map (·.1)++[v2,v1]))):=Kp.put (s5 _ _ w4)
    have kk6:=(kp_of s5).trans k6
    refine ⟨cnt (ws0++[(v2,y2)]++[(v1,y1)]),?_,xs++[.ref a],es++[.c u k],ws0++[(v2,y2)]++[(v1,y1)],_,rfl,fun b o e=>?_,?_,en4.kp kk6,?_,fun r hr=>?_,?_,rfl⟩
    ·rw [cnt_snoc,cnt_snoc,cnt_snoc]
     show cnt ws0+y2.nd+y1.nd < cnt ws0+(y1.nd+y2.nd+1)
     omega
    ·rw [upd_ne (ne_of_none e hlw0)]; exact s5 b o (s4 b o e)
    ·rw [upd_ne nel]; exact s5 _ _ l4
    ·rw [upd_same,List.map_append,List.map_append,List.append_assoc]; rfl
    ·rcases List.mem_append.mp hr with hr | hr
     ·rcases List.mem_append.mp hr with hr | hr
      ·exact (ob4 r hr).kp kk6
      ·rw [List.mem_singleton.mp hr]; exact o2.kp kk6
     ·rw [List.mem_singleton.mp hr]; exact o1.kp kk6
    ·rw [flat_snoc,flat_snoc,← heq]
     show es++[.c u k]++(ents y1++(ents y2++flat ws0))=es++(.c u k :: (ents y1++ents y2)++flat ws0)
     simp [List.append_assoc]
def wt:En→Int
 | .w _=>1
 | .c _ _=>-1
def wts (es:List En):Int:=(es.map wt).sum
theorem wts_app (a b:List En):wts (a++b)=wts a+wts b:=by
 unfold wts
 rw [List.map_append,List.sum_append]
theorem wts_cons (e:En) (b:List En):wts (e :: b)=wt e+wts b:=by
 unfold wts
 rw [List.map_cons,List.sum_cons]
theorem wts_ents:∀ t:Tr,wts (ents t)=1
 | .whole _=>rfl
 | .cut u k x y=>by
  rw [ents,wts_cons,wts_app,wts_ents x,wts_ents y]; rfl
theorem wts_flat:∀ ws:List (V × Tr),wts (flat ws)=ws.length
 | []=>rfl
 | p :: r=>by rw [flat_cons,wts_app,wts_ents,wts_flat r,List.length_cons]; omega
theorem wts_suf:∀ (t:Tr) (a b:List En),ents t=a++b→b≠[]→1≤wts b
 | .whole m,a,b,h,hb=>by
  have h:[En.w m]=a++b:=h
  cases a with
  | nil=>rw [List.nil_append] at h; rw [← h]; exact Int.le_refl 1
  | cons e r =>
   have:=congrArg List.length h
   simp only [List.length_append,List.length_cons,List.length_nil] at this
   exact absurd (List.length_eq_zero_iff.mp (by omega)) hb
 | .cut u k x y,a,b,h,hb=>by
  cases a with
  | nil =>
   rw [List.nil_append] at h
   rw [← h,wts_ents]
   decide
  | cons e r =>
   rw [ents,List.cons_append] at h
   have h2:=List.cons.inj h |>.2
   rcases List.append_eq_append_iff.mp h2 with ⟨c,hc,hd⟩ | ⟨c,hc,hd⟩
   ·exact wts_suf y c b hd hb
   ·rw [hd,wts_app,wts_ents]
    by_cases e:c=[]
    ·rw [e]; decide
    ·have:=wts_suf x r c hc e
     omega
theorem ents_inj:∀ (t t':Tr) (r r':List En),ents t++r=ents t'++r'→t=t'∧r=r'
 | .whole m,.whole m',r,r',h=>by
  have h:En.w m :: r=En.w m' :: r':=h
  injection h with h1 h2
  injection h1 with h1
  exact ⟨by rw [h1],h2⟩
 | .whole m,.cut u k x y,r,r',h=>by
  have h:En.w m :: r=En.c u k :: (ents x++ents y++r'):=h
  injection h with h1 _
  cases h1
 | .cut u k x y,.whole m,r,r',h=>by
  have h:En.c u k :: (ents x++ents y++r)=En.w m :: r':=h
  injection h with h1 _
  cases h1
 | .cut u k x y,.cut u' k' x' y',r,r',h=>by
  have h:En.c u k :: (ents x++ents y++r)=En.c u' k' :: (ents x'++ents y'++r'):=h
  injection h with h1 h2
  injection h1 with h3 h4
  rw [List.append_assoc,List.append_assoc] at h2
  obtain ⟨e1,h5⟩:=ents_inj x x' _ _ h2
  obtain ⟨e2,h6⟩:=ents_inj y y' _ _ h5
  exact ⟨by rw [h3,h4,e1,e2],h6⟩
def sp_cutfrom (cW cU cL:Addr):Sp:=fun vs H Q _=>∃ (u:Bool) (k:Int) (v1 v2:V) (y1 y2:Tr),vs=[.str (wd u),.int k,v1,v2]∧Obj cW cU cL H y1 v1∧Obj cW cU cL H y2 v2∧∀ v' H',Same H H'→Obj cW cU cL H' (.cut u k y1 y2) v'→Q v' H'
theorem S_cut_from:FnScope ["word","at","first","other"] ["word","at","first","other"] (defScope s_cut_from):=⟨rfl,rfl,rfl,by decide +kernel,rfl,by decide +kernel,by decide +kernel⟩
theorem ok_cut_from {f:Addr} {fd:FuncData} (F:Fun K "cut_from" "cut_from" s_cut_from f fd) (T:Txt mg tk) (K_Upright:MkOk P w K mg base 1 "Upright" cU ["self","at","first","other"] (sp_iC cU)) (K_Level:MkOk P w K mg base 1 "Level" cL ["self","at","first","other"] (sp_iC cL)) :
  FnOk P w K mg base CX0 3 f fd ["word","at","first","other"] (sp_cutfrom cW cU cL):=by
 have S:=S_cut_from
 refine F.ok S (fun vs H Q E h=>?_) (fun cdv A outer s H vs Q E hr h=>?_)
 ·obtain ⟨u,k,v1,v2,y1,y2,rfl,_⟩:=h; rfl
 ·obtain ⟨u,k,v1,v2,y1,y2,rfl,o1,o2,q⟩:=h
  refine ⟨_,(pss_cons (ps_if (pt_cmpR op_eq (pv 0) (pe_glob (v:=.str "upright") rfl T.g_UPRIGHT ⟨_,rfl⟩) (nomark _)) (pss_one (ps_ret (pe_mk K_Upright hr (pa_cons (pv 1) (pa_cons (pv 2) (pa_cons (pv 3) pa_nil)))))) pss_nil)
   (pss_one (ps_ret (pe_mk K_Level hr (pa_cons (pv 1) (pa_cons (pv 2) (pa_cons (pv 3) pa_nil))))))),?_⟩
  cases u with
  | true =>
   refine ⟨_,rfl,rfl,_,rfl,iteP (wd_dec true true) ⟨_,rfl,_,rfl,_,rfl,fun x dx nx ndx nex=>⟨x,dx,k,v1,v2,rfl,upd_same,fun H3 s3 e3=>⟨rfl,?_⟩⟩⟩⟩
   have s4:Same H H3:=fun b o e=>s3 b o (ne_of_none e nx) (made_same nx ndx b o e)
   exact q _ _ s4 (by rw [Obj]; exact ⟨x,dx,v1,v2,rfl,e3,o1.same s4,o2.same s4⟩)
  | false =>
   refine ⟨_,rfl,rfl,_,rfl,iteN (wd_dec false true) ⟨_,rfl,_,rfl,_,rfl,fun x dx nx ndx nex=>⟨x,dx,k,v1,v2,rfl,upd_same,fun H3 s3 e3=>⟨rfl,?_⟩⟩⟩⟩
   have s4:Same H H3:=fun b o e=>s3 b o (ne_of_none e nx) (made_same nx ndx b o e)
   exact q _ _ s4 (by rw [Obj]; exact ⟨x,dx,v1,v2,rfl,e3,o1.same s4,o2.same s4⟩)
def sp_from (K:PySem.W.Frag) (cW cU cL:Addr):Sp:=fun vs H Q _=>∃ (l:Addr) (xs:List V) (t:Tr),vs=[.ref l]∧SqL K H l xs∧EnsAt H xs (ents t)∧t.nd≤400∧∀ v' H',Same H H'→Obj cW cU cL H' t v'→Q v' H'
theorem S_tree_from:FnScope ["entries","done","word","number","first","other"] ["entries"] (defScope s_tree_from):=⟨rfl,rfl,rfl,by decide +kernel,rfl,by decide +kernel,by decide +kernel⟩
theorem drop_last {es:List En} {i:Nat} {e:En} (hi:i < es.length) (h:es[es.length - 1 - i]?=some e):es.drop (es.length - (i+1))=e :: es.drop (es.length - i):=by
 have hk:es.length - 1 - i < es.length:=by omega
 rw [show es.length - (i+1)=es.length - 1 - i by omega,List.drop_eq_getElem_cons hk]
 rw [List.getElem?_eq_getElem hk] at h
 rw [Option.some.inj h,show es.length - 1 - i+1=es.length - i by omega]
theorem ok_tree_from {f:Addr} {fd:FuncData} (F:Fun K "tree_from" "tree_from" s_tree_from f fd) (T:Txt mg tk) (R:RT mg K cT cW cU cL) (K_Whole:MkOk P w K mg base 1 "Whole" cW ["self","mark"] (sp_iW cW)) (D_cut_from:DefOk P w K mg base 3 "cut_from" ["word","at","first","other"] (sp_cutfrom cW cU cL)) :
  FnOk P w K mg base CX0 4 f fd ["entries"] (sp_from K cW cU cL):=by
 have S:=S_tree_from
 refine F.ok S (fun vs H Q E h=>?_) (fun cdv A outer s H vs Q E hr h=>?_)
 ·obtain ⟨l,xs,t,rfl,_⟩:=h; rfl
 ·obtain ⟨l,xs,t,rfl,hl,hen,hn,q⟩:=h
  refine ⟨_,(pss_cons (ps_set (i:=1) S.nd rfl (Or.inl rfl) (pe_lst pa_nil))
   (pss_cons (ps_for PassesOwn.never rfl (pi_revd rfl T.z_reversed (pa_cons (pv 0) pa_nil)) (pg_tup rfl (pgs_cons (pg_name (i:=2) S.nd rfl (Or.inl rfl)) (pgs_cons (pg_name (i:=3) S.nd rfl (Or.inl rfl)) pgs_nil))) (pss_one (ps_if (pt_cmpR op_eq (pv 2) (pe_glob (v:=.str "whole") rfl T.g_WHOLE ⟨_,rfl⟩) (nomark _)) (pss_one (ps_expr (pe_bm PySem.F.plainAttrs_list PySem.F.slot_list_append PySem.F.type_list_append mt_append (pv 1) (pa_cons (pe_mk K_Whole hr (pa_cons (pv 3) pa_nil)) pa_nil)))) (pss_cons (ps_set (i:=4) S.nd rfl (Or.inl rfl) (pe_bm0 PySem.F.plainAttrs_list PySem.F.slot_list_pop PySem.F.type_list_pop mt_pop (pv 1)))
   (pss_cons (ps_set (i:=5) S.nd rfl (Or.inl rfl) (pe_bm0 PySem.F.plainAttrs_list PySem.F.slot_list_pop PySem.F.type_list_pop mt_pop (pv 1)))
   (pss_one (ps_expr (pe_bm PySem.F.plainAttrs_list PySem.F.slot_list_append PySem.F.type_list_append mt_append (pv 1) (pa_cons (pe_fn D_cut_from hr (pa_cons (pv 2) (pa_cons (pv 3) (pa_cons (pv 4) (pa_cons (pv 5) pa_nil))))) pa_nil)))))))))
   (pss_one (ps_ret (pe_bm0 PySem.F.plainAttrs_list PySem.F.slot_list_pop PySem.F.type_list_pop mt_pop (pv 1)))))),?_⟩
  refine ⟨lenOk 0,fun ld hld=>⟨_,rfl,l,xs,rfl,(Same.new hld).seq hl,?_⟩⟩
  have hxl:=hen.len
  have hel:=ents_len t
  refine for_rev (K:=K) (a:=l) (xs:=xs) (fun i σ H'=>∃ (ws:List (V × Tr)) (x2 x3 x4 x5:Option V),σ=[some (.ref l),some (.ref ld),x2,x3,x4,x5]∧Same H H'∧H' ld=some (.lst (ws.map (·.1)))∧(∀ p∈ws,Obj cW cU cL H' p.2 p.1)∧(ents t).drop ((ents t).length - i)=flat ws)
   ⟨[],_,_,_,_,rfl,Same.new hld,upd_same,(fun p hp=>(nomatch hp)),by rw [Nat.sub_zero,List.drop_length]; rfl⟩ (fun i σ H' _ hp=>let ⟨_,_,_,_,_,_,s,_⟩:=hp; s.seq hl) ?_ ?_
  ·rintro i v σ H' hv hi ⟨ws,x2,x3,x4,x5,rfl,s1,hd,hob,heq⟩
   obtain ⟨e,a,he,rfl,ha⟩:=hen.get hv
   have ha':=s1 _ _ ha
   rw [hxl] at he hi
   have hdr:=drop_last hi he
   have wl:ws.length≤400:=by
    have h1:=cnt_len ws
    have h2:=flat_len ws
    rw [← heq,List.length_drop] at h2
    omega
   cases e with
   | w m =>
    refine ⟨a,_,rfl,SqT.of ha',rfl,_,_,rfl,_,_,rfl,rfl,?_⟩
    refine ⟨_,rfl,rfl,_,rfl,iteP (decide_eq_true rfl) ?_⟩
    refine ⟨_,rfl,.inl ⟨rfl,_,SqL.of hd⟩,_,rfl,fun x dx nx ndx nex=>⟨x,dx,_,rfl,upd_same,rfl,?_⟩⟩
    have s2:Same H' (upd (upd (upd H' dx (.own x)) x (.ins cW dx [])) x (.ins cW dx (wF (markV m)))):=fun b o e=>by
     rw [upd_ne (ne_of_none e nx)]; exact made_same nx ndx b o e
    have e2:(upd (upd (upd H' dx (.own x)) x (.ins cW dx [])) x (.ins cW dx (wF (markV m)))) x=some (.ins cW dx (wF (markV m))):=upd_same
    generalize upd (upd (upd H' dx (.own x)) x (.ins cW dx [])) x (.ins cW dx (wF (markV m)))=H2 at s2 e2 ⊢
    have d2:=s2 _ _ hd
    refine ⟨ld,_,.ref x,rfl,rfl,d2,small1000 (by rw [List.length_map]; omega),?_⟩
    have k3:Kp H2 (upd H2 ld (.lst (ws.map (·.1)++[.ref x]))):=Kp.put d2
    refine ⟨ws++[(.ref x,.whole m)],_,_,_,_,rfl,fun b o e=>?_,?_,fun p hp=>?_,?_⟩
    ·rw [upd_ne (ne_of_none e hld)]; exact s2 b o (s1 b o e)
    ·rw [upd_same,List.map_append]; rfl
    ·rcases List.mem_append.mp hp with hp | hp
     ·exact ((hob p hp).same s2).kp k3
     ·rw [List.mem_singleton.mp hp,Obj]; exact ⟨x,dx,rfl,k3 _ _ e2 (by intro xs z; cases z)⟩
    ·rw [hdr,heq,flat_snoc]; rfl
   | c u k =>
    have big:2≤ws.length:=by
     have h1:=wts_suf t ((ents t).take ((ents t).length - (i+1))) ((ents t).drop ((ents t).length - (i+1))) (List.take_append_drop _ _).symm (by rw [hdr]; intro z; cases z)
     rw [hdr,heq,wts_cons,wts_flat] at h1
     have:wt (.c u k)=-1:=rfl
     omega
    obtain rfl | ⟨ws1,p1,rfl⟩:=snoc_cases ws
    ·exact absurd big (by decide)
    obtain rfl | ⟨ws2,p2,rfl⟩:=snoc_cases ws1
    ·exact absurd big (by simp)
    refine ⟨a,_,rfl,SqT.of ha',rfl,_,_,rfl,_,_,rfl,rfl,?_⟩
    refine ⟨_,rfl,rfl,_,rfl,iteN (wd_whole u) ?_⟩
    refine ⟨_,rfl,.inl ⟨rfl,_,SqL.of hd⟩,ld,_,p1.1,rfl,rfl,hd,last_map,?_⟩
    rw [drop_map]
    have k2:Kp H' (upd H' ld (.lst ((ws2++[p2]).map (·.1)))):=Kp.put hd
    have s2:Same H (upd H' ld (.lst ((ws2++[p2]).map (·.1)))):=fun b o e=>by rw [upd_ne (ne_of_none e hld)]; exact s1 b o e
    have d2:(upd H' ld (.lst ((ws2++[p2]).map (·.1)))) ld=some (.lst ((ws2++[p2]).map (·.1))):=upd_same
    generalize upd H' ld (.lst ((ws2++[p2]).map (·.1)))=H2 at k2 s2 d2 ⊢
    refine ⟨_,rfl,.inl ⟨rfl,_,SqL.of d2⟩,ld,_,p2.1,rfl,rfl,d2,last_map,?_⟩
    rw [drop_map]
    have k3:Kp H2 (upd H2 ld (.lst (ws2.map (·.1)))):=Kp.put d2
    have s3:Same H (upd H2 ld (.lst (ws2.map (·.1)))):=fun b o e=>by rw [upd_ne (ne_of_none e hld)]; exact s2 b o e
    have d3:(upd H2 ld (.lst (ws2.map (·.1)))) ld=some (.lst (ws2.map (·.1))):=upd_same
    generalize upd H2 ld (.lst (ws2.map (·.1)))=H3 at k3 s3 d3 ⊢
    have kk:=k2.trans k3
    refine ⟨_,rfl,.inl ⟨rfl,_,SqL.of d3⟩,_,rfl,_,rfl,_,rfl,_,rfl,u,k,p1.1,p2.1,p1.2,p2.2,rfl,(hob p1 (by simp)).kp kk,(hob p2 (by simp)).kp kk,fun v' H4 s4 o4=>?_⟩
    have d4:=s4 _ _ d3
    rw [List.length_append,List.length_append] at wl
    refine ⟨ld,_,v',rfl,rfl,d4,small1000 (by rw [List.length_map]; omega),?_⟩
    have k5:Kp H4 (upd H4 ld (.lst (ws2.map (·.1)++[v']))):=Kp.put d4
    refine ⟨ws2++[(v',.cut u k p1.2 p2.2)],_,_,_,_,rfl,fun b o e=>?_,?_,fun p hp=>?_,?_⟩
    ·rw [upd_ne (ne_of_none e hld)]; exact s4 b o (s3 b o e)
    ·rw [upd_same,List.map_append]; rfl
    ·rcases List.mem_append.mp hp with hp | hp
     ·exact ((((hob p (by simp [hp])).kp kk).same s4)).kp k5
     ·rw [List.mem_singleton.mp hp]; exact o4.kp k5
    ·rw [hdr,heq,flat_snoc,flat_snoc,flat_snoc]
     show .c u k :: (ents p1.2++(ents p2.2++flat ws2))=.c u k :: (ents p1.2++ents p2.2)++flat ws2
     rw [List.cons_append,List.append_assoc]
  ·rintro σ H' ⟨ws,x2,x3,x4,x5,rfl,s1,hd,hob,heq⟩
   rw [hxl,Nat.sub_self,List.drop_zero] at heq
   have one:ws.length=1:=by
    have h1:=wts_ents t
    rw [heq,wts_flat] at h1
    omega
   obtain ⟨p,rfl⟩:∃ p,ws=[p]:=by
    match ws,one with
    | [p],_=>exact ⟨p,rfl⟩
   have hp:=hob p (by simp)
   have et:p.2=t:=by
    have h1:ents t++[]=ents p.2++[]:=by
     rw [List.append_nil,heq]; rfl
    exact (ents_inj _ _ _ _ h1).1.symm
   refine ⟨_,rfl,.inl ⟨rfl,_,SqL.of hd⟩,ld,_,p.1,rfl,rfl,hd,rfl,?_⟩
   rw [et] at hp
   exact q _ _ (fun b o e=>by rw [upd_ne (ne_of_none e hld)]; exact s1 b o e) (hp.kp (Kp.put hd))
abbrev Rk:=GB.Rc
abbrev Rk.vs (p:Rk):List V:=[.int p.t,.int p.l,.int p.b,.int p.r]
def Rk.len (p:Rk) (u:Bool):Int:=if u then p.r - p.l else p.b - p.t
def Rk.fst (p:Rk) (u:Bool) (k:Int):Rk:=if u then ⟨p.t,p.l,p.b,p.l+k⟩ else ⟨p.t,p.l,p.t+k,p.r⟩
def Rk.oth (p:Rk) (u:Bool) (k:Int):Rk:=if u then ⟨p.t,p.l+k,p.b,p.r⟩ else ⟨p.t+k,p.l,p.b,p.r⟩
def FitR (p:Rk) (t:Tr):Prop:=Fit t (p.r - p.l) (p.b - p.t)
theorem fitR_cut {p:Rk} {u:Bool} {k:Int} {x y:Tr}:FitR p (.cut u k x y)↔(1≤k∧k < p.len u)∧FitR (p.fst u k) x∧FitR (p.oth u k) y:=by
 unfold FitR Rk.len Rk.fst Rk.oth
 rw [Fit]
 cases u with
 | true =>
  show (1≤k∧k < p.r - p.l∧Fit x k (p.b - p.t)∧Fit y (p.r - p.l - k) (p.b - p.t))↔((1≤k∧k < p.r - p.l)∧Fit x (p.l+k - p.l) (p.b - p.t)∧Fit y (p.r - (p.l+k)) (p.b - p.t))
  rw [show p.l+k - p.l=k by omega,show p.r - (p.l+k)=p.r - p.l - k by omega]
  exact ⟨fun ⟨a,b,c,d⟩=>⟨⟨a,b⟩,c,d⟩,fun ⟨⟨a,b⟩,c,d⟩=>⟨a,b,c,d⟩⟩
 | false =>
  show (1≤k∧k < p.b - p.t∧Fit x (p.r - p.l) k∧Fit y (p.r - p.l) (p.b - p.t - k))↔((1≤k∧k < p.b - p.t)∧Fit x (p.r - p.l) (p.t+k - p.t)∧Fit y (p.r - p.l) (p.b - (p.t+k)))
  rw [show p.t+k - p.t=k by omega,show p.b - (p.t+k)=p.b - p.t - k by omega]
  exact ⟨fun ⟨a,b,c,d⟩=>⟨⟨a,b⟩,c,d⟩,fun ⟨⟨a,b⟩,c,d⟩=>⟨a,b,c,d⟩⟩
def gath:Tr→Rk→List (Rk × Option Int)
 | .whole m,p=>[(p,m)]
 | .cut u k x y,p=>gath x (p.fst u k)++gath y (p.oth u k)
theorem gath_len:∀ (t:Tr) (p:Rk),(gath t p).length=t.sz
 | .whole _,_=>rfl
 | .cut u k x y,p=>by rw [gath,List.length_append,gath_len x,gath_len y]; rfl
theorem sz_nd:∀ t:Tr,t.sz≤t.nd
 | .whole _=>Nat.le_refl _
 | .cut _ _ x y=>by
  have:=sz_nd x
  have:=sz_nd y
  rw [Tr.sz,Tr.nd]; omega
theorem gath_in:∀ {t:Tr} {p:Rk},p.t < p.b→p.l < p.r→FitR p t→∀ g∈gath t p,p.t≤g.1.t∧g.1.t < g.1.b∧g.1.b≤p.b∧p.l≤g.1.l∧g.1.l < g.1.r∧g.1.r≤p.r
 | .whole m,p,h1,h2,_,g,hg=>by
  rw [gath] at hg
  rw [List.mem_singleton.mp hg]
  exact ⟨Int.le_refl _,h1,Int.le_refl _,Int.le_refl _,h2,Int.le_refl _⟩
 | .cut u k x y,p,h1,h2,f,g,hg=>by
  rw [fitR_cut] at f
  obtain ⟨⟨a,b⟩,fx,fy⟩:=f
  rw [gath,List.mem_append] at hg
  cases u with
  | true =>
   have b:k < p.r - p.l:=b
   rcases hg with hg | hg
   ·have:=gath_in (p:=p.fst true k) h1 (show p.l < p.l+k by omega) fx g hg
    have:p.t≤g.1.t∧g.1.t < g.1.b∧g.1.b≤p.b∧p.l≤g.1.l∧g.1.l < g.1.r∧g.1.r≤p.l+k:=this
    omega
   ·have:=gath_in (p:=p.oth true k) h1 (show p.l+k < p.r by omega) fy g hg
    have:p.t≤g.1.t∧g.1.t < g.1.b∧g.1.b≤p.b∧p.l+k≤g.1.l∧g.1.l < g.1.r∧g.1.r≤p.r:=this
    omega
  | false =>
   have b:k < p.b - p.t:=b
   rcases hg with hg | hg
   ·have:=gath_in (p:=p.fst false k) (show p.t < p.t+k by omega) h2 fx g hg
    have:p.t≤g.1.t∧g.1.t < g.1.b∧g.1.b≤p.t+k∧p.l≤g.1.l∧g.1.l < g.1.r∧g.1.r≤p.r:=this
    omega
   ·have:=gath_in (p:=p.oth false k) (show p.t+k < p.b by omega) h2 fy g hg
    have:p.t+k≤g.1.t∧g.1.t < g.1.b∧g.1.b≤p.b∧p.l≤g.1.l∧g.1.l < g.1.r∧g.1.r≤p.r:=this
    omega
theorem gath_uniq:∀ {t:Tr} {p:Rk},p.t < p.b→p.l < p.r→FitR p t→∀ g∈gath t p,∀ h∈gath t p,g.1=h.1→g=h
 | .whole m,p,_,_,_,g,hg,h,hh,_=>by
  rw [gath] at hg hh
  rw [List.mem_singleton.mp hg,List.mem_singleton.mp hh]
 | .cut u k x y,p,h1,h2,f,g,hg,h,hh,e=>by
  rw [fitR_cut] at f
  obtain ⟨⟨a,b⟩,fx,fy⟩:=f
  rw [gath,List.mem_append] at hg hh
  obtain ⟨⟨a1,a2⟩,b1,b2⟩:((p.fst u k).t < (p.fst u k).b∧(p.fst u k).l < (p.fst u k).r)∧(p.oth u k).t < (p.oth u k).b∧(p.oth u k).l < (p.oth u k).r:=by
   cases u with
   | true =>
    have b:k < p.r - p.l:=b
    exact ⟨⟨h1,show p.l < p.l+k by omega⟩,h1,show p.l+k < p.r by omega⟩
   | false =>
    have b:k < p.b - p.t:=b
    exact ⟨⟨show p.t < p.t+k by omega,h2⟩,show p.t+k < p.b by omega,h2⟩
  have mix:∀ g∈gath x (p.fst u k),∀ h∈gath y (p.oth u k),g.1=h.1→False:=fun g hg h hh e=>by
   have i1:=gath_in a1 a2 fx g hg
   have i2:=gath_in b1 b2 fy h hh
   rw [← e] at i2
   cases u with
   | true =>
    have i1:p.t≤g.1.t∧g.1.t < g.1.b∧g.1.b≤p.b∧p.l≤g.1.l∧g.1.l < g.1.r∧g.1.r≤p.l+k:=i1
    have i2:p.t≤g.1.t∧g.1.t < g.1.b∧g.1.b≤p.b∧p.l+k≤g.1.l∧g.1.l < g.1.r∧g.1.r≤p.r:=i2
    omega
   | false =>
    have i1:p.t≤g.1.t∧g.1.t < g.1.b∧g.1.b≤p.t+k∧p.l≤g.1.l∧g.1.l < g.1.r∧g.1.r≤p.r:=i1
    have i2:p.t+k≤g.1.t∧g.1.t < g.1.b∧g.1.b≤p.b∧p.l≤g.1.l∧g.1.l < g.1.r∧g.1.r≤p.r:=i2
    omega
  rcases hg with hg | hg
  ·rcases hh with hh | hh
   ·exact gath_uniq a1 a2 fx g hg h hh e
   ·exact (mix g hg h hh e).elim
  ·rcases hh with hh | hh
   ·exact (mix h hh g hg e.symm).elim
   ·exact gath_uniq b1 b2 fy g hg h hh e
def Due (t:Tr) (ww hh:Int) (L:List (Rk × Option Int)):Prop:=L.Perm (gath t ⟨0,0,hh,ww⟩)∧(L.map fun g=>GB.key g.1.ls).Pairwise (·≤·)
theorem fit0 {t:Tr} {ww hh:Int} (f:Fit t ww hh):FitR ⟨0,0,hh,ww⟩ t:=by
 show Fit t (ww - 0) (hh - 0)
 rw [Int.sub_zero,Int.sub_zero]; exact f
theorem gath_In {t:Tr} {ww hh:Int} (w1:1≤ww) (h1:1≤hh) (f:Fit t ww hh):∀ g∈gath t ⟨0,0,hh,ww⟩,GB.Rc.In ww hh g.1:=fun g hg=>by
 have:0≤g.1.t∧g.1.t < g.1.b∧g.1.b≤hh∧0≤g.1.l∧g.1.l < g.1.r∧g.1.r≤ww:=gath_in (p:=⟨0,0,hh,ww⟩) (show (0:Int) < hh by omega) (show (0:Int) < ww by omega) (fit0 f) g hg
 exact ⟨this.1,this.2.1,this.2.2.1,this.2.2.2.1,this.2.2.2.2.1,this.2.2.2.2.2⟩
theorem due_same {t:Tr} {ww hh:Int} (w1:1≤ww) (w2:ww≤12) (h1:1≤hh) (h2:hh≤12) (f:Fit t ww hh) {L M:List (Rk × Option Int)} (a:Due t ww hh L) (b:Due t ww hh M):L=M:=by
 have inn:=gath_In w1 h1 f
 have e:L.Perm M:=a.1.trans b.1.symm
 have hm:=GB.sorted_same (ps:=L.map (·.1)) (qs:=M.map (·.1)) (w:=ww) (h:=hh) (fun p hp=>by obtain ⟨g,hg,rfl⟩:=List.mem_map.mp hp; exact inn g (a.1.mem_iff.mp hg)) w2 h2 (e.map _) (by unfold GB.Srt; rw [List.map_map]; exact a.2) (by unfold GB.Srt; rw [List.map_map]; exact b.2)
 apply List.ext_getElem e.length_eq
 intro i h1' h2'
 have:=congrArg (fun l=>l[i]?) hm
 simp only [List.getElem?_map,List.getElem?_eq_getElem h1',List.getElem?_eq_getElem h2',Option.map_some,Option.some.injEq] at this
 exact gath_uniq (p:=⟨0,0,hh,ww⟩) (show (0:Int) < hh by omega) (show (0:Int) < ww by omega) (fit0 f) _ (a.1.mem_iff.mp (List.getElem_mem h1')) _ (b.1.mem_iff.mp (List.getElem_mem h2')) this
theorem Due.len {t:Tr} {ww hh:Int} {L:List (Rk × Option Int)} (h:Due t ww hh L):L.length=t.sz:=by rw [h.1.length_eq,gath_len]
abbrev PT:=Addr × Addr × Rk × Option Int
abbrev pcs (ts:List PT):List V:=ts.map fun t=>V.ref t.1
abbrev cons (ts:List PT):List (Rk × Option Int):=ts.map fun t=>t.2.2
def PcO (H:Hp) (ts:List PT):Prop:=∀ t∈ts,H t.1=some (.tup [.ref t.2.1,markV t.2.2.2])∧H t.2.1=some (.tup t.2.2.1.vs)
theorem PcO.same {H H':Hp} {ts:List PT} (s:Same H H') (h:PcO H ts):PcO H' ts:=fun t ht=>⟨s _ _ (h t ht).1,s _ _ (h t ht).2⟩
theorem PcO.n {H H':Hp} {ts:List PT} (s:SameN H H') (h:PcO H ts):PcO H' ts:=fun t ht=>⟨s.tup (h t ht).1,s.tup (h t ht).2⟩
theorem PcO.perm {H:Hp} {ts us:List PT} (h:PcO H ts) (e:us.Perm ts):PcO H us:=fun t ht=>h t (e.mem_iff.mp ht)
theorem len1 {α:Type} {us:List α} (h:us.length=1):∃ a,us=[a]:=List.length_eq_one_iff.mp h
theorem len2 {α:Type} {us:List α} (h:us.length=2):∃ a b,us=[a,b]:=by
 cases us with
 | nil=>cases h
 | cons a r=>obtain ⟨b,rfl⟩:=len1 (Nat.succ.inj h); exact ⟨a,b,rfl⟩
theorem len3 {α:Type} {us:List α} (h:us.length=3):∃ a b c,us=[a,b,c]:=by
 cases us with
 | nil=>cases h
 | cons a r=>obtain ⟨b,c,rfl⟩:=len2 (Nat.succ.inj h); exact ⟨a,b,c,rfl⟩
theorem len4 {α:Type} {us:List α} (h:us.length=4):∃ a b c d,us=[a,b,c,d]:=by
 cases us with
 | nil=>cases h
 | cons a r=>obtain ⟨b,c,d,rfl⟩:=len3 (Nat.succ.inj h); exact ⟨a,b,c,d,rfl⟩
def sp_fst:Sp:=fun vs H Q _=>∃ (a:Addr) (p:Rk) (u:Bool) (k:Int),vs=[.ref a,.str (wd u),.int k]∧H a=some (.tup p.vs)∧∀ x,H x=none→Q (.ref x) (upd H x (.tup (p.fst u k).vs))
def sp_oth:Sp:=fun vs H Q _=>∃ (a:Addr) (p:Rk) (u:Bool) (k:Int),vs=[.ref a,.str (wd u),.int k]∧H a=some (.tup p.vs)∧∀ x,H x=none→Q (.ref x) (upd H x (.tup (p.oth u k).vs))
theorem S_first_piece:FnScope ["piece","word","at"] ["piece","word","at"] (defScope s_first_piece):=⟨rfl,rfl,rfl,by decide +kernel,rfl,by decide +kernel,by decide +kernel⟩
theorem ok_first_piece {f:Addr} {fd:FuncData} (F:Fun K "first_piece" "first_piece" s_first_piece f fd) (T:Txt mg tk):FnOk P w K mg base CX0 1 f fd ["piece","word","at"] sp_fst:=by
 have S:=S_first_piece
 refine F.ok S (fun vs H Q E h=>?_) (fun cdv A outer s H vs Q E hr h=>?_)
 ·obtain ⟨a,p,u,k,rfl,_⟩:=h; rfl
 ·obtain ⟨a,p,u,k,rfl,ha,q⟩:=h
  refine ⟨_,(pss_cons (ps_if (pt_cmpR op_eq (pv 1) (pe_glob (v:=.str "upright") rfl T.g_UPRIGHT ⟨_,rfl⟩) (nomark _)) (pss_one (ps_ret (pe_tup (pa_cons (pe_ix ix_tup (pv 0) pe_int (fun _ _=>rfl)) (pa_cons (pe_ix ix_tup (pv 0) pe_int (fun _ _=>rfl)) (pa_cons (pe_ix ix_tup (pv 0) pe_int (fun _ _=>rfl)) (pa_cons (pe_op op_add (pe_ix ix_tup (pv 0) pe_int (fun _ _=>rfl)) (pv 2)) pa_nil))))))) pss_nil)
   (pss_one (ps_ret (pe_tup (pa_cons (pe_ix ix_tup (pv 0) pe_int (fun _ _=>rfl)) (pa_cons (pe_ix ix_tup (pv 0) pe_int (fun _ _=>rfl)) (pa_cons (pe_op op_add (pe_ix ix_tup (pv 0) pe_int (fun _ _=>rfl)) (pv 2)) (pa_cons (pe_ix ix_tup (pv 0) pe_int (fun _ _=>rfl)) pa_nil)))))))),?_⟩
  cases u with
  | true=>exact ⟨_,rfl,rfl,_,rfl,iteP (wd_dec true true) ⟨_,rfl,a,_,_,_,rfl,rfl,SqT.of ha,at0,_,rfl,a,_,_,_,rfl,rfl,SqT.of ha,at1,_,rfl,a,_,_,_,rfl,rfl,SqT.of ha,at2,_,rfl,a,_,_,_,rfl,rfl,SqT.of ha,at1,_,rfl,_,_,rfl,rfl,lenOk 4,q⟩⟩
  | false=>exact ⟨_,rfl,rfl,_,rfl,iteN (wd_dec false true) ⟨_,rfl,a,_,_,_,rfl,rfl,SqT.of ha,at0,_,rfl,a,_,_,_,rfl,rfl,SqT.of ha,at1,_,rfl,a,_,_,_,rfl,rfl,SqT.of ha,at0,_,rfl,_,_,rfl,rfl,_,rfl,a,_,_,_,rfl,rfl,SqT.of ha,at3,lenOk 4,q⟩⟩
theorem S_other_piece:FnScope ["piece","word","at"] ["piece","word","at"] (defScope s_other_piece):=⟨rfl,rfl,rfl,by decide +kernel,rfl,by decide +kernel,by decide +kernel⟩
theorem ok_other_piece {f:Addr} {fd:FuncData} (F:Fun K "other_piece" "other_piece" s_other_piece f fd) (T:Txt mg tk):FnOk P w K mg base CX0 1 f fd ["piece","word","at"] sp_oth:=by
 have S:=S_other_piece
 refine F.ok S (fun vs H Q E h=>?_) (fun cdv A outer s H vs Q E hr h=>?_)
 ·obtain ⟨a,p,u,k,rfl,_⟩:=h; rfl
 ·obtain ⟨a,p,u,k,rfl,ha,q⟩:=h
  refine ⟨_,(pss_cons (ps_if (pt_cmpR op_eq (pv 1) (pe_glob (v:=.str "upright") rfl T.g_UPRIGHT ⟨_,rfl⟩) (nomark _)) (pss_one (ps_ret (pe_tup (pa_cons (pe_ix ix_tup (pv 0) pe_int (fun _ _=>rfl)) (pa_cons (pe_op op_add (pe_ix ix_tup (pv 0) pe_int (fun _ _=>rfl)) (pv 2)) (pa_cons (pe_ix ix_tup (pv 0) pe_int (fun _ _=>rfl)) (pa_cons (pe_ix ix_tup (pv 0) pe_int (fun _ _=>rfl)) pa_nil))))))) pss_nil)
   (pss_one (ps_ret (pe_tup (pa_cons (pe_op op_add (pe_ix ix_tup (pv 0) pe_int (fun _ _=>rfl)) (pv 2)) (pa_cons (pe_ix ix_tup (pv 0) pe_int (fun _ _=>rfl)) (pa_cons (pe_ix ix_tup (pv 0) pe_int (fun _ _=>rfl)) (pa_cons (pe_ix ix_tup (pv 0) pe_int (fun _ _=>rfl)) pa_nil)))))))),?_⟩
  cases u with
  | true=>exact ⟨_,rfl,rfl,_,rfl,iteP (wd_dec true true) ⟨_,rfl,a,_,_,_,rfl,rfl,SqT.of ha,at0,_,rfl,a,_,_,_,rfl,rfl,SqT.of ha,at1,_,rfl,_,_,rfl,rfl,_,rfl,a,_,_,_,rfl,rfl,SqT.of ha,at2,_,rfl,a,_,_,_,rfl,rfl,SqT.of ha,at3,lenOk 4,q⟩⟩
  | false=>exact ⟨_,rfl,rfl,_,rfl,iteN (wd_dec false true) ⟨_,rfl,a,_,_,_,rfl,rfl,SqT.of ha,at0,_,rfl,_,_,rfl,rfl,_,rfl,a,_,_,_,rfl,rfl,SqT.of ha,at1,_,rfl,a,_,_,_,rfl,rfl,SqT.of ha,at2,_,rfl,a,_,_,_,rfl,rfl,SqT.of ha,at3,lenOk 4,q⟩⟩
def PsAt (H:Hp) (ws:List (Addr × Rk × Tr)):Prop:=∀ p∈ws,H p.1=some (.tup p.2.1.vs)
abbrev trs (ws:List (Addr × Rk × Tr)):List (V × Tr):=ws.map fun p=>(V.ref p.1,p.2.2)
abbrev prefs (ws:List (Addr × Rk × Tr)):List V:=ws.map fun p=>V.ref p.1
theorem PsAt.kp {H H':Hp} {ws:List (Addr × Rk × Tr)} (h:PsAt H ws) (k:Kp H H'):PsAt H' ws:=fun p hp=>k _ _ (h p hp) (by intro xs z; cases z)
theorem last_pref {ws0:List (Addr × Rk × Tr)} {p:Addr × Rk × Tr}:(prefs (ws0++[p]))[(prefs (ws0++[p])).length - 1]?=some (.ref p.1):=by
 rw [List.length_map,List.length_append,List.length_singleton,Nat.add_sub_cancel,List.getElem?_map,List.getElem?_append_right (Nat.le_refl _),Nat.sub_self]; rfl
theorem drop_pref {ws0:List (Addr × Rk × Tr)} {p:Addr × Rk × Tr}:(prefs (ws0++[p])).dropLast=prefs ws0:=by
 show (List.map (fun p=>V.ref p.1) (ws0++[p])).dropLast=_
 rw [List.map_append,List.map_singleton,List.dropLast_concat]
theorem trs_snoc (ws:List (Addr × Rk × Tr)) (p:Addr × Rk × Tr):trs (ws++[p])=trs ws++[(V.ref p.1,p.2.2)]:=by
 show List.map (fun p=>(V.ref p.1,p.2.2)) (ws++[p])=_
 rw [List.map_append]; rfl
theorem pref_snoc (ws:List (Addr × Rk × Tr)) (p:Addr × Rk × Tr):prefs (ws++[p])=prefs ws++[V.ref p.1]:=by
 show List.map (fun p=>V.ref p.1) (ws++[p])=_
 rw [List.map_append]; rfl
theorem PcO.kp {H H':Hp} {ts:List PT} (h:PcO H ts) (k:Kp H H'):PcO H' ts:=fun t ht=>⟨k _ _ (h t ht).1 (by intro xs z; cases z),k _ _ (h t ht).2 (by intro xs z; cases z)⟩
theorem pcs_snoc (ts:List PT) (t:PT):pcs (ts++[t])=pcs ts++[V.ref t.1]:=by
 show List.map (fun p=>V.ref p.1) (ts++[t])=_
 rw [List.map_append]; rfl
theorem cons_snoc (ts:List PT) (t:PT):cons (ts++[t])=cons ts++[t.2.2]:=by
 show List.map (fun p=>p.2.2) (ts++[t])=_
 rw [List.map_append]; rfl
def gall (ws:List (Addr × Rk × Tr)):List (Rk × Option Int):=ws.reverse.flatMap fun p=>gath p.2.2 p.2.1
theorem gall_snoc (ws:List (Addr × Rk × Tr)) (p:Addr × Rk × Tr):gall (ws++[p])=gath p.2.2 p.2.1++gall ws:=by
 unfold gall
 rw [List.reverse_append,List.reverse_singleton,List.singleton_append,List.flatMap_cons]
def lamE:Expr:=match (defBody s_pieces).getD 1 (.Pass ⟨0,0,0,0⟩) with
 | .Return (some (.Call _ _ [k] _)) _=>k.value
 | _=>.Constant .none 0 ⟨0,0,0,0⟩
def lamP:Arguments:=match lamE with | .Lambda p _ _ _=>p | _=>defArgs s_pieces
def lamB:Expr:=match lamE with | .Lambda _ b _ _=>b | e=>e
def lamS:Scope:=match lamE with | .Lambda _ _ s _=>s | _=>defScope s_pieces
def lamQ:Pos:=match lamE with | .Lambda _ _ _ q=>q | _=>⟨0,0,0,0⟩
def lamN:Str:="pieces.<locals>.<lambda>"
theorem S_lam:FnScope ["piece"] ["piece"] lamS:=⟨rfl,rfl,rfl,by decide +kernel,rfl,by decide +kernel,by decide +kernel⟩
def NewN (H:Hp) (l:Addr):Prop:=∀ o,H l=some o→∃ ps,o=.tbl ps
theorem newN {H H':Hp} {l:Addr} (s:SameN H H') (h:H' l=none):NewN H l:=fun o e=>Classical.byContradiction fun z=>by
 have:=s l o e (fun ps e'=>z ⟨ps,e'⟩)
 rw [h] at this; cases this
theorem SameN.put {H H':Hp} {l:Addr} {o':HO} (s:SameN H H') (n:NewN H l):SameN H (upd H' l o'):=fun a o e no=>by
 rw [upd_ne (fun z=>by subst z; obtain ⟨ps,rfl⟩:=n o e; exact no ps rfl)]; exact s a o e no
theorem TabOk.upd {pos:Pos} {qual:Str} {T l:Addr} {H:Hp} {xs ys:List V} (h:TabOk pos qual T H) (hl:H l=some (.lst xs)):TabOk pos qual T (upd H l (.lst ys)):=by
 obtain ⟨ps,e,t,c⟩:=h
 refine ⟨ps,by rw [upd_ne (fun z=>by rw [z,hl] at e; cases e)]; exact e,t,?_⟩
 rcases c with c | ⟨c',c1,c2⟩
 ·exact .inl c
 ·exact .inr ⟨c',c1,by rw [upd_ne (fun z=>by rw [z,hl] at c2; cases c2)]; exact c2⟩
theorem Told.n {H H':Hp} (s:SameN H H'):∀ {t:Tr} {v:V},Told H t v→Told H' t v
 | .whole m,v,h=>by
  rw [Told] at h ⊢
  obtain ⟨a,e,h⟩:=h
  exact ⟨a,e,s.tup h⟩
 | .cut u k x y,v,h=>by
  rw [Told] at h ⊢
  obtain ⟨a,vx,vy,e,h,h1,h2⟩:=h
  exact ⟨a,vx,vy,e,s.tup h,Told.n s h1,Told.n s h2⟩
theorem Obj.n {H H':Hp} (s:SameN H H'):∀ {t:Tr} {v:V},Obj cW cU cL H t v→Obj cW cU cL H' t v
 | .whole m,v,h=>by
  rw [Obj] at h ⊢
  obtain ⟨a,dx,e,h⟩:=h
  exact ⟨a,dx,e,s _ _ h fun _ z=>nomatch z⟩
 | .cut u k x y,v,h=>by
  rw [Obj] at h ⊢
  obtain ⟨a,dx,vx,vy,e,h,h1,h2⟩:=h
  exact ⟨a,dx,vx,vy,e,s _ _ h (fun _ z=>nomatch z),Obj.n s h1,Obj.n s h2⟩
def Rk.lo (p:Rk) (u:Bool):Int:=if u then p.l else p.t
def Rk.hi (p:Rk) (u:Bool):Int:=if u then p.r else p.b
theorem rk_len {p:Rk} {u:Bool}:p.len u=p.hi u - p.lo u:=by cases u <;> rfl
theorem rk_ff {p:Rk} {u:Bool} {k a:Int}:(p.fst u k).fst u a=p.fst u a:=by cases u <;> rfl
theorem rk_fo {p:Rk} {u:Bool} {k a:Int}:(p.fst u k).oth u a=(p.oth u a).fst u (k - a):=by
 cases u
 ·show (⟨p.t+a,p.l,p.t+k,p.r⟩:Rk)=⟨p.t+a,p.l,p.t+a+(k - a),p.r⟩
  rw [show p.t+a+(k - a)=p.t+k by omega]
 ·show (⟨p.t,p.l+a,p.b,p.l+k⟩:Rk)=⟨p.t,p.l+a,p.b,p.l+a+(k - a)⟩
  rw [show p.l+a+(k - a)=p.l+k by omega]
theorem rk_oo {p:Rk} {u:Bool} {k a:Int}:(p.oth u a).oth u (k - a)=p.oth u k:=by
 cases u
 ·show (⟨p.t+a+(k - a),p.l,p.b,p.r⟩:Rk)=⟨p.t+k,p.l,p.b,p.r⟩
  rw [show p.t+a+(k - a)=p.t+k by omega]
 ·show (⟨p.t,p.l+a+(k - a),p.b,p.r⟩:Rk)=⟨p.t,p.l+k,p.b,p.r⟩
  rw [show p.l+a+(k - a)=p.l+k by omega]
theorem rk_x {p:Rk} {u v:Bool} {k a:Int} (h:¬ v=u):(p.fst v k).fst u a=(p.fst u a).fst v k∧(p.fst v k).oth u a=(p.oth u a).fst v k∧(p.oth v k).fst u a=(p.fst u a).oth v k∧(p.oth v k).oth u a=(p.oth u a).oth v k∧(p.fst v k).len u=p.len u∧(p.oth v k).len u=p.len u∧(p.fst v k).lo u=p.lo u∧(p.oth v k).lo u=p.lo u∧(p.fst u a).len v=p.len v∧(p.oth u a).len v=p.len v:=by
 cases u <;> cases v <;> first | exact absurd rfl h | exact ⟨rfl,rfl,rfl,rfl,rfl,rfl,rfl,rfl,rfl,rfl⟩
theorem rk_s {p:Rk} {u:Bool} {k:Int}:(p.fst u k).len u=k∧(p.oth u k).len u=p.len u - k∧(p.fst u k).lo u=p.lo u∧(p.oth u k).lo u=p.lo u+k∧(p.fst u k).hi u=p.lo u+k:=by
 cases u
 ·exact ⟨show p.t+k - p.t=k by omega,show p.b - (p.t+k)=p.b - p.t - k by omega,rfl,rfl,rfl⟩
 ·exact ⟨show p.l+k - p.l=k by omega,show p.r - (p.l+k)=p.r - p.l - k by omega,rfl,rfl,rfl⟩
abbrev Rk.ok (p:Rk):Prop:=p.t < p.b∧p.l < p.r
theorem rk_parts {p:Rk} {u:Bool} {k:Int} (h:p.ok) (a:1≤k) (b:k < p.len u):(p.fst u k).ok∧(p.oth u k).ok:=by
 cases u with
 | true =>
  have b:k < p.r - p.l:=b
  exact ⟨⟨h.1,show p.l < p.l+k by omega⟩,h.1,show p.l+k < p.r by omega⟩
 | false =>
  have b:k < p.b - p.t:=b
  exact ⟨⟨show p.t < p.t+k by omega,h.2⟩,show p.t+k < p.b by omega,h.2⟩
def Thr:Tr→Bool→Int→Prop
 | .whole _,_,_=>False
 | .cut v k x y,u,a=>if v=u then (if a < k then Thr x u a else if k < a then Thr y u (a - k) else True) else Thr x u a∧Thr y u a
def ahd:Tr→Bool→Int→Tr
 | .whole m,_,_=>.whole m
 | .cut v k x y,u,a=>if v=u then (if a < k then ahd x u a else if k < a then .cut v k x (ahd y u (a - k)) else x) else .cut v k (ahd x u a) (ahd y u a)
def bhd:Tr→Bool→Int→Tr
 | .whole m,_,_=>.whole m
 | .cut v k x y,u,a=>if v=u then (if a < k then .cut v (k - a) (bhd x u a) y else if k < a then bhd y u (a - k) else y) else .cut v k (bhd x u a) (bhd y u a)
theorem sz_pos:∀ t:Tr,1≤t.sz
 | .whole _=>Nat.le_refl _
 | .cut _ _ x y=>by
  have:=sz_pos x
  rw [Tr.sz]; omega
theorem fit_parts:∀ {t:Tr} {p:Rk} {u:Bool} {a:Int},FitR p t→Thr t u a→(1≤a∧a < p.len u)→FitR (p.fst u a) (ahd t u a)∧FitR (p.oth u a) (bhd t u a)
 | .whole _,p,u,a,_,h,_=>h.elim
 | .cut v k x y,p,u,a,f,h,⟨a1,a2⟩=>by
  rw [fitR_cut] at f
  obtain ⟨⟨k1,k2⟩,fx,fy⟩:=f
  rw [Thr] at h
  rw [ahd,bhd]
  by_cases e:v=u
  ·subst e
   rw [if_pos rfl] at h
   rw [if_pos rfl,if_pos rfl]
   obtain ⟨s1,s2,_,_,_⟩:=rk_s (p:=p) (u:=v) (k:=k)
   by_cases c:a < k
   ·rw [if_pos c] at h
    rw [if_pos c,if_pos c,fitR_cut]
    obtain ⟨i1,i2⟩:=fit_parts fx h ⟨a1,by rw [s1]; exact c⟩
    rw [rk_ff] at i1
    rw [rk_fo] at i2
    refine ⟨i1,⟨by omega,?_⟩,i2,by rw [rk_oo]; exact fy⟩
    have:=(rk_s (p:=p) (u:=v) (k:=a)).2.1
    omega
   ·rw [if_neg c] at h
    rw [if_neg c,if_neg c]
    by_cases c2:k < a
    ·rw [if_pos c2] at h
     rw [if_pos c2,if_pos c2,fitR_cut]
     obtain ⟨i1,i2⟩:=fit_parts fy h ⟨by omega,by rw [s2]; omega⟩
     rw [← rk_fo] at i1
     rw [rk_oo] at i2
     refine ⟨⟨⟨k1,?_⟩,by rw [rk_ff]; exact fx,i1⟩,i2⟩
     have:=(rk_s (p:=p) (u:=v) (k:=a)).1
     omega
    ·rw [if_neg c2,if_neg c2]
     have:a=k:=by omega
     rw [this]; exact ⟨fx,fy⟩
  ·rw [if_neg e] at h
   rw [if_neg e,if_neg e,fitR_cut,fitR_cut]
   obtain ⟨e1,e2,e3,e4,e5,e6,_,_,e9,e10⟩:=rk_x (p:=p) (u:=u) (v:=v) (k:=k) (a:=a) e
   obtain ⟨i1,i2⟩:=fit_parts fx h.1 ⟨a1,by rw [e5]; exact a2⟩
   obtain ⟨j1,j2⟩:=fit_parts fy h.2 ⟨a1,by rw [e6]; exact a2⟩
   rw [e1] at i1; rw [e2] at i2; rw [e3] at j1; rw [e4] at j2
   exact ⟨⟨⟨k1,by rw [e9]; exact k2⟩,i1,j1⟩,⟨k1,by rw [e10]; exact k2⟩,i2,j2⟩
theorem perm4 {α:Type} {A B C D:List α}:((A++B)++(C++D)).Perm ((A++C)++(B++D)):=by
 rw [List.append_assoc,List.append_assoc]
 refine List.Perm.append_left A ?_
 rw [← List.append_assoc,← List.append_assoc]
 exact List.Perm.append_right D List.perm_append_comm
theorem gath_thr:∀ {t:Tr} {p:Rk} {u:Bool} {a:Int},Thr t u a→(gath t p).Perm (gath (ahd t u a) (p.fst u a)++gath (bhd t u a) (p.oth u a))
 | .whole _,p,u,a,h=>h.elim
 | .cut v k x y,p,u,a,h=>by
  rw [Thr] at h
  rw [ahd,bhd]
  by_cases e:v=u
  ·subst e
   rw [if_pos rfl] at h
   rw [if_pos rfl,if_pos rfl]
   by_cases c:a < k
   ·rw [if_pos c] at h
    rw [if_pos c,if_pos c,gath,gath,rk_oo,← rk_fo,← List.append_assoc]
    have:=gath_thr (p:=p.fst v k) h
    rw [rk_ff] at this
    exact this.append_right _
   ·rw [if_neg c] at h
    rw [if_neg c,if_neg c]
    by_cases c2:k < a
    ·rw [if_pos c2] at h
     rw [if_pos c2,if_pos c2,gath,gath,rk_ff,rk_fo,List.append_assoc]
     have:=gath_thr (p:=p.oth v k) h
     rw [rk_oo] at this
     exact this.append_left _
    ·rw [if_neg c2,if_neg c2]
     have:a=k:=by omega
     rw [this,gath]
  ·rw [if_neg e] at h
   rw [if_neg e,if_neg e,gath,gath,gath]
   obtain ⟨e1,e2,e3,e4,_⟩:=rk_x (p:=p) (u:=u) (v:=v) (k:=k) (a:=a) e
   have i:=gath_thr (p:=p.fst v k) h.1
   have j:=gath_thr (p:=p.oth v k) h.2
   rw [e1,e2] at i
   rw [e3,e4] at j
   exact (i.append j).trans perm4
def brk (u:Bool) (line:Int) (g:Rk × Option Int):Prop:=g.1.lo u < line∧line < g.1.hi u
theorem thr_of:∀ {t:Tr} {p:Rk} {u:Bool} {a:Int},FitR p t→1≤a→a < p.len u→(∀ g∈gath t p,¬ brk u (p.lo u+a) g)→Thr t u a
 | .whole m,p,u,a,_,h1,h2,h=>by
  rw [gath] at h
  rw [rk_len] at h2
  exact absurd (show p.lo u < p.lo u+a∧p.lo u+a < p.hi u by omega) (h (p,m) (List.mem_singleton.mpr rfl))
 | .cut v k x y,p,u,a,f,h1,h2,h=>by
  rw [fitR_cut] at f
  obtain ⟨⟨k1,k2⟩,fx,fy⟩:=f
  rw [gath] at h
  rw [Thr]
  by_cases e:v=u
  ·subst e
   rw [if_pos rfl]
   obtain ⟨s1,s2,s3,s4,_⟩:=rk_s (p:=p) (u:=v) (k:=k)
   by_cases c:a < k
   ·rw [if_pos c]
    exact thr_of fx h1 (by rw [s1]; exact c) fun g hg=>by rw [s3]; exact h g (List.mem_append.mpr (.inl hg))
   ·rw [if_neg c]
    by_cases c2:k < a
    ·rw [if_pos c2]
     exact thr_of fy (by omega) (by rw [s2]; omega) fun g hg=>by rw [s4,show p.lo v+k+(a - k)=p.lo v+a by omega]; exact h g (List.mem_append.mpr (.inr hg))
    ·rw [if_neg c2]; trivial
  ·rw [if_neg e]
   obtain ⟨_,_,_,_,e5,e6,e7,e8,_⟩:=rk_x (p:=p) (u:=u) (v:=v) (k:=k) (a:=a) e
   exact ⟨thr_of fx h1 (by rw [e5]; exact h2) fun g hg=>by rw [e7]; exact h g (List.mem_append.mpr (.inl hg)),thr_of fy h1 (by rw [e6]; exact h2) fun g hg=>by rw [e8]; exact h g (List.mem_append.mpr (.inr hg))⟩
theorem gath_lohi {t:Tr} {p:Rk} (h:p.ok) (f:FitR p t) {g:Rk × Option Int} (hg:g∈gath t p) (u:Bool):p.lo u≤g.1.lo u∧g.1.lo u < g.1.hi u∧g.1.hi u≤p.hi u:=by
 have:=gath_in h.1 h.2 f g hg
 cases u
 ·exact ⟨this.1,this.2.1,this.2.2.1⟩
 ·exact ⟨this.2.2.2.1,this.2.2.2.2.1,this.2.2.2.2.2⟩
theorem filt_parts {x y:Tr} {p:Rk} {u:Bool} {k:Int} (h:p.ok) (k1:1≤k) (k2:k < p.len u) (fx:FitR (p.fst u k) x) (fy:FitR (p.oth u k) y) :
  ((gath x (p.fst u k)++gath y (p.oth u k)).filter fun g=>decide (g.1.lo u < p.lo u+k))=gath x (p.fst u k)∧((gath x (p.fst u k)++gath y (p.oth u k)).filter fun g=>decide (p.lo u+k≤g.1.lo u))=gath y (p.oth u k)∧∀ g∈gath x (p.fst u k)++gath y (p.oth u k),¬ brk u (p.lo u+k) g:=by
 obtain ⟨o1,o2⟩:=rk_parts h k1 k2
 obtain ⟨_,_,s3,s4,s5⟩:=rk_s (p:=p) (u:=u) (k:=k)
 have i1:∀ g∈gath x (p.fst u k),g.1.lo u < p.lo u+k∧g.1.hi u≤p.lo u+k:=fun g hg=>by
  have:=gath_lohi o1 fx hg u
  rw [s5] at this; omega
 have i2:∀ g∈gath y (p.oth u k),p.lo u+k≤g.1.lo u:=fun g hg=>by
  have:=gath_lohi o2 fy hg u
  rw [s4] at this; omega
 refine ⟨?_,?_,fun g hg z=>?_⟩
 ·rw [List.filter_append,List.filter_eq_self.mpr (fun g hg=>decide_eq_true (i1 g hg).1),List.filter_eq_nil_iff.mpr (fun g hg z=>by have:=of_decide_eq_true z; have:=i2 g hg; omega),List.append_nil]
 ·rw [List.filter_append,List.filter_eq_self.mpr (fun g hg=>decide_eq_true (i2 g hg)),List.filter_eq_nil_iff.mpr (fun g hg z=>by have:=of_decide_eq_true z; have:=i1 g hg; omega),List.nil_append]
 ·obtain ⟨z1,z2⟩:=z
  rcases List.mem_append.mp hg with hg | hg
  ·have:=i1 g hg; omega
  ·have:=i2 g hg; omega
theorem part_perm {t:Tr} {p:Rk} {u:Bool} {a:Int} {L:List (Rk × Option Int)} (h:p.ok) (f:FitR p t) (e:L.Perm (gath t p)) (a1:1≤a) (a2:a < p.len u) (hb:∀ g∈L,¬ brk u (p.lo u+a) g) :
  Thr t u a∧FitR (p.fst u a) (ahd t u a)∧FitR (p.oth u a) (bhd t u a)∧(L.filter fun g=>decide (g.1.lo u < p.lo u+a)).Perm (gath (ahd t u a) (p.fst u a))∧(L.filter fun g=>decide (p.lo u+a≤g.1.lo u)).Perm (gath (bhd t u a) (p.oth u a)):=by
 have th:=thr_of f a1 a2 fun g hg=>hb g (e.mem_iff.mpr hg)
 obtain ⟨f1,f2⟩:=fit_parts f th ⟨a1,a2⟩
 obtain ⟨q1,q2,_⟩:=filt_parts h a1 a2 f1 f2
 have:=e.trans (gath_thr (p:=p) th)
 refine ⟨th,f1,f2,?_,?_⟩
 ·have:=this.filter (fun g=>decide (g.1.lo u < p.lo u+a))
  rw [q1] at this; exact this
 ·have:=this.filter (fun g=>decide (p.lo u+a≤g.1.lo u))
  rw [q2] at this; exact this
theorem sz_one:∀ {t:Tr},t.sz=1→∃ m,t=.whole m
 | .whole m,_=>⟨m,rfl⟩
 | .cut _ _ x y,h=>by
  have:=sz_pos x
  have:=sz_pos y
  rw [Tr.sz] at h; omega
def trD:Tr→D
 | .whole m=>.tup (.cons (.at (.str "whole")) (.cons (.at (markV m)) .nil))
 | .cut u k x y=>.tup (.cons (.at (.str (wd u))) (.cons (.at (.int k)) (.cons (trD x) (.cons (trD y) .nil))))
theorem mark_flat (m:Option Int):flatV (markV m)=true:=by cases m <;> rfl
theorem trD_is {K:PySem.W.Frag} {H:Hp}:∀ {t:Tr} {v:V},Told H t v→DIs K H (trD t) v
 | .whole m,v,h=>by
  rw [Told] at h
  obtain ⟨a,rfl,h⟩:=h
  rw [trD,DIs]
  refine ⟨a,_,rfl,SqT.of h,?_⟩
  rw [DIss]
  refine ⟨_,_,rfl,by rw [DIs]; exact ⟨rfl,rfl⟩,?_⟩
  rw [DIss]
  exact ⟨_,_,rfl,by rw [DIs]; exact ⟨rfl,mark_flat m⟩,by rw [DIss]⟩
 | .cut u k x y,v,h=>by
  rw [Told] at h
  obtain ⟨a,vx,vy,rfl,h,h1,h2⟩:=h
  rw [trD,DIs]
  refine ⟨a,_,rfl,SqT.of h,?_⟩
  rw [DIss]
  refine ⟨_,_,rfl,by rw [DIs]; exact ⟨rfl,rfl⟩,?_⟩
  rw [DIss]
  refine ⟨_,_,rfl,by rw [DIs]; exact ⟨rfl,rfl⟩,?_⟩
  rw [DIss]
  refine ⟨_,_,rfl,trD_is h1,?_⟩
  rw [DIss]
  exact ⟨_,_,rfl,trD_is h2,by rw [DIss]⟩
theorem trD_dep:∀ t:Tr,dep (trD t)≤t.dp+1
 | .whole m=>by rw [trD,dep,deps,deps,deps,dep,dep]; omega
 | .cut u k x y=>by
  have:=trD_dep x
  have:=trD_dep y
  rw [trD,dep,deps,deps,deps,deps,deps,dep,dep,Tr.dp]; omega
theorem strE (x y:Str):eqV (.str x) (.str y)=decide (V.str x=V.str y):=by
 show (x == y)=_
 rw [dec_str]
theorem markE:∀ m m':Option Int,eqV (markV m) (markV m')=true↔m=m'
 | none,none=>by simp [markV,eqV]
 | none,some i=>by simp [markV,eqV]
 | some i,none=>by simp [markV,eqV]
 | some i,some j=>by simp [markV,eqV]
theorem intE (i j:Int) (h:eqV (.int i) (.int j)=true):i=j:=by
 have:=(markE (some i) (some j)).mp h
 cases this; rfl
theorem trD_eq:∀ {t s:Tr},deq (trD t) (trD s)=true→t=s
 | .whole m,.whole m',h=>by
  rw [trD,trD,deq,deqs,deqs,deqs,deq,deq] at h
  simp only [Bool.and_eq_true,and_true] at h
  rw [(markE m m').mp h.2]
 | .whole m,.cut u k x y,h=>by
  rw [trD,trD,deq,deqs,deq,strE] at h
  simp only [Bool.and_eq_true] at h
  have:=wd_whole u
  rw [decide_eq_false_iff_not] at this
  exact absurd (of_decide_eq_true h.1).symm this
 | .cut u k x y,.whole m,h=>by
  rw [trD,trD,deq,deqs,deq,strE] at h
  simp only [Bool.and_eq_true] at h
  have:=wd_whole u
  rw [decide_eq_false_iff_not] at this
  exact absurd (of_decide_eq_true h.1) this
 | .cut u k x y,.cut u' k' x' y',h=>by
  rw [trD,trD,deq,deqs,deqs,deqs,deqs,deqs,deq,deq,strE,wd_dec] at h
  simp only [Bool.and_eq_true,and_true] at h
  obtain ⟨h1,h2,h3,h4⟩:=h
  rw [eq_of_beq h1,intE _ _ h2,trD_eq h3,trD_eq h4]
def gD (g:Rk × Option Int):D:=.tup (.cons (.tup (.cons (.at (.int g.1.t)) (.cons (.at (.int g.1.l)) (.cons (.at (.int g.1.b)) (.cons (.at (.int g.1.r)) .nil))))) (.cons (.at (markV g.2)) .nil))
def gsD:List (Rk × Option Int)→Ds
 | []=>.nil
 | g :: r=>.cons (gD g) (gsD r)
theorem gsD_dep:∀ gs,deps (gsD gs)≤2
 | []=>by rw [gsD,deps]; omega
 | g :: r=>by
  have:=gsD_dep r
  rw [gsD,deps,gD,dep,deps,dep,deps,deps,deps,deps,deps,deps,deps,dep,dep,dep,dep,dep]; omega
theorem gsD_is {K:PySem.W.Frag} {H:Hp}:∀ {ts:List PT},PcO H ts→DIss K H (gsD (cons ts)) (pcs ts)
 | [],_=>by show DIss K H .nil []; rw [DIss]
 | t :: r,h=>by
  show DIss K H (.cons (gD t.2.2) (gsD (cons r))) (.ref t.1 :: pcs r)
  rw [DIss]
  refine ⟨_,_,rfl,?_,gsD_is fun u hu=>h u (List.mem_cons_of_mem _ hu)⟩
  obtain ⟨h1,h2⟩:=h t List.mem_cons_self
  rw [gD,DIs]
  refine ⟨_,_,rfl,SqT.of h1,?_⟩
  rw [DIss]
  refine ⟨_,_,rfl,?_,?_⟩
  ·rw [DIs]
   refine ⟨_,_,rfl,SqT.of h2,?_⟩
   rw [DIss]
   refine ⟨_,_,rfl,by rw [DIs]; exact ⟨rfl,rfl⟩,?_⟩
   rw [DIss]
   refine ⟨_,_,rfl,by rw [DIs]; exact ⟨rfl,rfl⟩,?_⟩
   rw [DIss]
   refine ⟨_,_,rfl,by rw [DIs]; exact ⟨rfl,rfl⟩,?_⟩
   rw [DIss]
   exact ⟨_,_,rfl,by rw [DIs]; exact ⟨rfl,rfl⟩,by rw [DIss]⟩
  ·rw [DIss]
   exact ⟨_,_,rfl,by rw [DIs]; exact ⟨rfl,mark_flat _⟩,by rw [DIss]⟩
theorem gsL {K:PySem.W.Frag} {H:Hp} {a:Addr} {ts:List PT} (h:H a=some (.lst (pcs ts))) (p:PcO H ts):DIs K H (.lst (gsD (cons ts))) (.ref a):=by
 rw [DIs]
 exact ⟨a,_,rfl,SqL.of h,gsD_is p⟩
theorem gath_dis:∀ {t:Tr} {p:Rk},p.t < p.b→p.l < p.r→FitR p t→((gath t p).map (·.1)).Pairwise GB.Apart
 | .whole m,p,_,_,_=>by rw [gath]; exact List.pairwise_singleton _ _
 | .cut u k x y,p,h1,h2,f=>by
  rw [fitR_cut] at f
  obtain ⟨⟨a,b⟩,fx,fy⟩:=f
  obtain ⟨⟨a1,a2⟩,b1,b2⟩:((p.fst u k).t < (p.fst u k).b∧(p.fst u k).l < (p.fst u k).r)∧(p.oth u k).t < (p.oth u k).b∧(p.oth u k).l < (p.oth u k).r:=by
   cases u with
   | true =>
    have b:k < p.r - p.l:=b
    exact ⟨⟨h1,show p.l < p.l+k by omega⟩,h1,show p.l+k < p.r by omega⟩
   | false =>
    have b:k < p.b - p.t:=b
    exact ⟨⟨show p.t < p.t+k by omega,h2⟩,show p.t+k < p.b by omega,h2⟩
  rw [gath,List.map_append,List.pairwise_append]
  refine ⟨gath_dis a1 a2 fx,gath_dis b1 b2 fy,fun q hq q' hq' r c z z'=>?_⟩
  obtain ⟨g,hg,rfl⟩:=List.mem_map.mp hq
  obtain ⟨g',hg',rfl⟩:=List.mem_map.mp hq'
  have i1:=gath_in a1 a2 fx g hg
  have i2:=gath_in b1 b2 fy g' hg'
  obtain ⟨z1,z2,z3,z4⟩:=z
  obtain ⟨z5,z6,z7,z8⟩:=z'
  cases u with
  | true =>
   have i1:p.t≤g.1.t∧g.1.t < g.1.b∧g.1.b≤p.b∧p.l≤g.1.l∧g.1.l < g.1.r∧g.1.r≤p.l+k:=i1
   have i2:p.t≤g'.1.t∧g'.1.t < g'.1.b∧g'.1.b≤p.b∧p.l+k≤g'.1.l∧g'.1.l < g'.1.r∧g'.1.r≤p.r:=i2
   omega
  | false =>
   have i1:p.t≤g.1.t∧g.1.t < g.1.b∧g.1.b≤p.t+k∧p.l≤g.1.l∧g.1.l < g.1.r∧g.1.r≤p.r:=i1
   have i2:p.t+k≤g'.1.t∧g'.1.t < g'.1.b∧g'.1.b≤p.b∧p.l≤g'.1.l∧g'.1.l < g'.1.r∧g'.1.r≤p.r:=i2
   omega
theorem inj_of {α β:Type} {g:α→β}:∀ {l:List α},(l.map g).Nodup→∀ {p q:α},p∈l→q∈l→g p=g q→p=q
 | [],_,_,_,h,_,_=>nomatch h
 | x :: l,n,p,q,hp,hq,e=>by
  rw [List.map_cons,List.nodup_cons] at n
  rcases List.mem_cons.mp hp with a | a <;> rcases List.mem_cons.mp hq with b | b
  ·rw [a,b]
  ·exact absurd (List.mem_map.mpr ⟨q,b,by rw [← a]; exact e.symm⟩) n.1
  ·exact absurd (List.mem_map.mpr ⟨p,a,by rw [← b]; exact e⟩) n.1
  ·exact inj_of n.2 a b e
theorem nd_sz:∀ t:Tr,t.nd+1=2 * t.sz
 | .whole _=>by rw [Tr.nd,Tr.sz]
 | .cut _ _ x y=>by have:=nd_sz x; have:=nd_sz y; rw [Tr.nd,Tr.sz]; omega
theorem gath_nd {t:Tr} {ww hh:Int} (w1:1≤ww) (h1:1≤hh) (f:Fit t ww hh):((gath t ⟨0,0,hh,ww⟩).map (·.1)).Nodup:=by
 refine List.Pairwise.imp_of_mem (fun {p q} hp _ ap e=>?_) (gath_dis (p:=⟨0,0,hh,ww⟩) (show (0:Int) < hh by omega) (show (0:Int) < ww by omega) (fit0 f))
 obtain ⟨g,hg,rfl⟩:=List.mem_map.mp hp
 obtain ⟨_,i2,_,_,i5,_⟩:=gath_In w1 h1 f g hg
 subst e
 have hh':GB.Rc.has g.1 g.1.t g.1.l:=⟨Int.le_refl _,i2,Int.le_refl _,i5⟩
 exact ap _ _ hh' hh'
abbrev toPR (t:PT):PR:=(t.1,t.2.1,t.2.2.1.ls,markV t.2.2.2)
theorem pr_refs (ts:List PT):(ts.map toPR).map (fun t=>V.ref t.1)=pcs ts:=by rw [List.map_map]; rfl
theorem srt_pcs {H:Hp} {ts:List PT} {t:Tr} {ww hh:Int} (w1:1≤ww) (w2:ww≤12) (h1:1≤hh) (h2:hh≤12) (f:Fit t ww hh) (pc:PcO H ts) (ec:cons ts=gath t ⟨0,0,hh,ww⟩) :
  (∀ u∈ts.map toPR,H u.1=some (.tup [.ref u.2.1,u.2.2.2])∧H u.2.1=some (.tup (u.2.2.1.map V.int))∧u.2.2.1.length=3+1∧flatV u.2.2.2=true)∧(∀ u∈ts.map toPR,∀ z∈ts.map toPR,HT.lexLt u.2.2.1 z.2.2.1=decide (GB.key u.2.2.1 < GB.key z.2.2.1))∧(∀ u∈ts.map toPR,∀ z∈ts.map toPR,u.2.2.1=z.2.2.1→u=z) ∧
  ∀ us:List PR,us.Perm (ts.map toPR)→(us.map fun u=>GB.key u.2.2.1).Pairwise (·≤·)→∃ zs:List PT,us=zs.map toPR∧zs.Perm ts∧Due t ww hh (cons zs):=by
 have inn:∀ u∈ts,GB.Rc.In ww hh u.2.2.1:=fun u hu=>gath_In w1 h1 f u.2.2 (ec ▸ List.mem_map.mpr ⟨u,hu,rfl⟩)
 have nd:(ts.map fun u=>u.2.2.1).Nodup:=by
  have:=gath_nd w1 h1 f
  rw [← ec,List.map_map] at this; exact this
 refine ⟨fun u hu=>?_,fun u hu z hz=>?_,fun u hu z hz e=>?_,fun us pm sr=>?_⟩
 ·obtain ⟨x,hx,rfl⟩:=List.mem_map.mp hu
  exact ⟨(pc x hx).1,(pc x hx).2,rfl,mark_flat _⟩
 ·obtain ⟨x,hx,rfl⟩:=List.mem_map.mp hu
  obtain ⟨y,hy,rfl⟩:=List.mem_map.mp hz
  exact GB.key_lt (inn x hx) (inn y hy) w2 h2 w2 h2
 ·obtain ⟨x,hx,rfl⟩:=List.mem_map.mp hu
  obtain ⟨y,hy,rfl⟩:=List.mem_map.mp hz
  have e:x.2.2.1.ls=y.2.2.1.ls:=e
  have e':x.2.2.1=y.2.2.1:=GB.key_inj (inn x hx) (inn y hy) w2 h2 w2 h2 (by rw [e])
  rw [inj_of nd hx hy e']
 ·obtain ⟨zs,p1,rfl⟩:=perm_pre (f:=toPR) pm ts rfl
  refine ⟨zs,rfl,p1,?_,?_⟩
  ·rw [← ec]; exact p1.map _
  ·rw [List.map_map] at sr ⊢
   exact sr
theorem told_ref {H:Hp} {t:Tr} {v:V} (h:Told H t v):∃ a,v=.ref a:=by
 cases t <;> rw [Told] at h
 ·obtain ⟨a,rfl,_⟩:=h; exact ⟨a,rfl⟩
 ·obtain ⟨a,_,_,rfl,_⟩:=h; exact ⟨a,rfl⟩
def sp_cutok:Sp:=fun vs H Q _=>∃ (a:Addr) (p:Rk) (u:Bool) (k:Int),vs=[.ref a,.str (wd u),.int k]∧H a=some (.tup p.vs)∧1≤k∧k < p.len u∧Q .non H
theorem S_check_cut:FnScope ["piece","word","at","length"] ["piece","word","at"] (defScope s_check_cut):=⟨rfl,rfl,rfl,by decide +kernel,rfl,by decide +kernel,by decide +kernel⟩
theorem ok_check_cut {f:Addr} {fd:FuncData} (F:Fun K "check_cut" "check_cut" s_check_cut f fd) (T:Txt mg tk) (D_is_whole:DefOk P w K mg base 1 "is_whole" ["thing"] sp_whole):FnOk P w K mg base CX0 2 f fd ["piece","word","at"] sp_cutok:=by
 have S:=S_check_cut
 refine F.ok S (fun vs H Q E h=>?_) (fun cdv A outer s H vs Q E hr h=>?_)
 ·obtain ⟨a,p,u,k,rfl,_⟩:=h; rfl
 ·obtain ⟨a,p,u,k,rfl,ha,k1,k2,q⟩:=h
  obtain ⟨tt,htt,fin⟩:∃ rd,PSs (cxOf CX0 P w K mg base ["piece","word","at","length"] "check_cut" (defScope s_check_cut) f cdv A outer s H E).nox ((defBody s_check_cut).drop 1) rd ∧
    rd { nx:=fun _ H'=>Q .non H',rt:=Q } [some (.ref a),some (.str (wd u)),some (.int k),some (.int (p.len u))] H:=by
   refine ⟨_,(pss_one (ps_if (PW.pt (pw_or (pt_not (pt_val (pe_fn D_is_whole hr (pa_cons (pv 2) pa_nil)))) (pw_or1 (pt_not (pt_chain op_le op_lt pe_int (pv 2) (pv 3)))))) (pss_one ps_never) pss_nil)),?_⟩
   refine ⟨_,rfl,k,rfl,_,rfl,iteN rfl ?_⟩
   exact ⟨_,rfl,_,_,rfl,rfl,_,rfl,iteP (decide_eq_true k1) ⟨_,rfl,_,_,rfl,rfl,_,rfl,iteN (by rw [decide_eq_true k2]; rfl) q⟩⟩
  refine ⟨_,(pss_cons (ps_set (i:=3) S.nd rfl (Or.inl rfl) (pe_ifExp (pt_cmpR op_eq (pv 1) (pe_glob (v:=.str "upright") rfl T.g_UPRIGHT ⟨_,rfl⟩) (nomark _)) (pe_op op_sub (pe_ix ix_tup (pv 0) pe_int (fun _ _=>rfl)) (pe_ix ix_tup (pv 0) pe_int (fun _ _=>rfl))) (pe_op op_sub (pe_ix ix_tup (pv 0) pe_int (fun _ _=>rfl)) (pe_ix ix_tup (pv 0) pe_int (fun _ _=>rfl)))))
   htt),?_⟩
  cases u with
  | true=>exact ⟨_,rfl,rfl,_,rfl,iteP (wd_dec true true) ⟨_,rfl,a,_,_,_,rfl,rfl,SqT.of ha,at3,_,rfl,a,_,_,_,rfl,rfl,SqT.of ha,at1,_,_,rfl,rfl,fin⟩⟩
  | false=>exact ⟨_,rfl,rfl,_,rfl,iteN (wd_dec false true) ⟨_,rfl,a,_,_,_,rfl,rfl,SqT.of ha,at2,_,rfl,a,_,_,_,rfl,rfl,SqT.of ha,at0,_,_,rfl,rfl,fin⟩⟩
def sp_out (cW cU cL:Addr):Sp:=fun vs H Q E=>∃ (v:V) (t:Tr) (ww hh:Int),vs=[v,.int ww,.int hh]∧Obj cW cU cL H t v∧t.nd≤400∧Fit t ww hh∧∀ l ts H',Same H H'→H l=none→H' l=some (.lst (pcs ts))→PcO H' ts→cons ts=gath t ⟨0,0,hh,ww⟩→Q (.ref l) H'
theorem S_cut_out:FnScope ["tree","width","height","found","waiting","word","number","piece"] ["tree","width","height"] (defScope s_cut_out):=⟨rfl,rfl,rfl,by decide +kernel,rfl,by decide +kernel,by decide +kernel⟩
theorem ok_cut_out {f:Addr} {fd:FuncData} (F:Fun K "cut_out" "cut_out" s_cut_out f fd) (T:Txt mg tk) (D_entries_of:DefOk P w K mg base 3 "entries_of" ["tree"] (sp_entries cW cU cL)) (D_check_cut:DefOk P w K mg base 2 "check_cut" ["piece","word","at"] sp_cutok)
  (D_first_piece:DefOk P w K mg base 1 "first_piece" ["piece","word","at"] sp_fst) (D_other_piece:DefOk P w K mg base 1 "other_piece" ["piece","word","at"] sp_oth):FnOk P w K mg base CX0 4 f fd ["tree","width","height"] (sp_out cW cU cL):=by
 have S:=S_cut_out
 refine F.ok S (fun vs H Q E h=>?_) (fun cdv A outer s H vs Q E hr h=>?_)
 ·obtain ⟨v,t,ww,hh,rfl,_⟩:=h; rfl
 ·obtain ⟨v,t,ww,hh,rfl,ho,hn,fit,q⟩:=h
  refine ⟨_,(pss_cons (ps_set (i:=3) S.nd rfl (Or.inl rfl) (pe_lst pa_nil))
   (pss_cons (ps_set (i:=4) S.nd rfl (Or.inl rfl) (pe_lst (pa_cons (pe_tup (pa_cons pe_int (pa_cons pe_int (pa_cons (pv 2) (pa_cons (pv 1) pa_nil))))) pa_nil)))
   (pss_cons (ps_for PassesOwn.never rfl (pi_list (pe_fn D_entries_of hr (pa_cons (pv 0) pa_nil))) (pg_tup rfl (pgs_cons (pg_name (i:=5) S.nd rfl (Or.inl rfl)) (pgs_cons (pg_name (i:=6) S.nd rfl (Or.inl rfl)) pgs_nil))) (pss_cons (ps_set (i:=7) S.nd rfl (Or.inl rfl) (pe_bm0 PySem.F.plainAttrs_list PySem.F.slot_list_pop PySem.F.type_list_pop mt_pop (pv 4)))
   (pss_one (ps_if (pt_cmpR op_eq (pv 5) (pe_glob (v:=.str "whole") rfl T.g_WHOLE ⟨_,rfl⟩) (nomark _)) (pss_one (ps_expr (pe_bm PySem.F.plainAttrs_list PySem.F.slot_list_append PySem.F.type_list_append mt_append (pv 3) (pa_cons (pe_tup (pa_cons (pv 7) (pa_cons (pv 6) pa_nil))) pa_nil)))) (pss_cons (ps_expr (pe_fn D_check_cut hr (pa_cons (pv 7) (pa_cons (pv 5) (pa_cons (pv 6) pa_nil)))))
   (pss_cons (ps_expr (pe_bm PySem.F.plainAttrs_list PySem.F.slot_list_append PySem.F.type_list_append mt_append (pv 4) (pa_cons (pe_fn D_other_piece hr (pa_cons (pv 7) (pa_cons (pv 5) (pa_cons (pv 6) pa_nil)))) pa_nil)))
   (pss_one (ps_expr (pe_bm PySem.F.plainAttrs_list PySem.F.slot_list_append PySem.F.type_list_append mt_append (pv 4) (pa_cons (pe_fn D_first_piece hr (pa_cons (pv 7) (pa_cons (pv 5) (pa_cons (pv 6) pa_nil)))) pa_nil))))))))))
   (pss_one (ps_ret (pv 3)))))),?_⟩
  refine ⟨lenOk 0,fun lf hlf=>⟨_,rfl,_,rfl,lenOk 4,fun t0 ht0=>⟨lenOk 1,fun lw hlw=>?_⟩⟩⟩
  have sA:Same H (upd H lf (.lst [])):=Same.new hlf
  have eA:(upd H lf (.lst [])) lf=some (.lst []):=upd_same
  generalize upd H lf (.lst [])=HA at sA eA ht0 hlw ⊢
  have sB:Same HA (upd HA t0 (.tup [.int 0,.int 0,.int hh,.int ww])):=Same.new ht0
  have eB:(upd HA t0 (.tup [.int 0,.int 0,.int hh,.int ww])) t0=some (.tup [.int 0,.int 0,.int hh,.int ww]):=upd_same
  generalize upd HA t0 (.tup [.int 0,.int 0,.int hh,.int ww])=HB at sB eB hlw ⊢
  have sC:Same HB (upd HB lw (.lst [.ref t0])):=Same.new hlw
  have eC:(upd HB lw (.lst [.ref t0])) lw=some (.lst [.ref t0]):=upd_same
  have nfw:lf≠lw:=ne_of_none (sB _ _ eA) hlw
  have hlw0:H lw=none:=by
   cases e:H lw with
   | none=>rfl
   | some o=>rw [sB _ _ (sA _ _ e)] at hlw; cases hlw
  generalize upd HB lw (.lst [.ref t0])=HC at sC eC ⊢
  have SC:=(sA.trans sB).trans sC
  refine ⟨_,rfl,v,t,rfl,ho.same SC,hn,fun le xs HD sD nle hle hen=>?_⟩
  have hxl:=hen.len
  have hel:=ents_len t
  have nlf:le≠lf:=Ne.symm (ne_of_none ((sB.trans sC) _ _ eA) nle)
  have nlw:le≠lw:=Ne.symm (ne_of_none eC nle)
  refine ⟨le,rfl,⟨_,SqL.of hle⟩,for_list (K:=K) (a:=le) (xs:=xs) (fun i σ H'=>∃ (ts:List PT) (ws:List (Addr × Rk × Tr)) (x5 x6 x7:Option V),σ=[some v,some (.int ww),some (.int hh),some (.ref lf),some (.ref lw),x5,x6,x7]∧Same H H'∧H' le=some (.lst xs)∧EnsAt H' xs (ents t) ∧
    H' lf=some (.lst (pcs ts))∧PcO H' ts∧ts.length≤i∧H' lw=some (.lst (prefs ws))∧PsAt H' ws∧(ents t).drop i=flat (trs ws)∧(∀ p∈ws,FitR p.2.1 p.2.2)∧gath t ⟨0,0,hh,ww⟩=cons ts++gall ws)
   ⟨[],[(t0,⟨0,0,hh,ww⟩,t)],_,_,_,rfl,SC.trans sD,hle,hen,(sD _ _ ((sB.trans sC) _ _ eA)),(fun t ht=>(nomatch ht)),Nat.le_refl _,sD _ _ eC,(fun p hp=>by rw [List.mem_singleton.mp hp]; exact sD _ _ (sC _ _ eB)),?_,?_,?_⟩ (fun i σ H' _ hp=>by obtain ⟨_,_,_,_,_,_,_,h,_⟩:=hp; exact SqL.of h) ?_ ?_⟩
  ·show ents t=flat [(V.ref t0,t)]
   rw [flat_cons]; rfl
  ·intro p hp
   rw [List.mem_singleton.mp hp]; exact fit0 fit
  ·have:=gall_snoc [] (t0,(⟨0,0,hh,ww⟩:Rk),t)
   show gath t ⟨0,0,hh,ww⟩=gall ([]++[(t0,(⟨0,0,hh,ww⟩:Rk),t)])
   rw [this]
   exact (List.append_nil _).symm
  ·rintro i x σ H' hx ⟨ts,ws,x5,x6,x7,rfl,s1,l1,en1,f1,pc,fl1,w1,p1,heq,hbad,hg⟩
   obtain ⟨e,a,he,rfl,ha⟩:=en1.get hx
   obtain ⟨hi,hei⟩:=List.getElem?_eq_some_iff.mp he
   have hdr:(ents t).drop i=e :: (ents t).drop (i+1):=by rw [List.drop_eq_getElem_cons hi,hei]
   rw [hdr] at heq
   have wl:ws.length≤400:=by
    have h1:=cnt_len (trs ws)
    have h2:=flat_len (trs ws)
    rw [← heq,← hdr,List.length_drop] at h2
    rw [List.length_map] at h1
    omega
   obtain rfl | ⟨ws0,p,rfl⟩:=snoc_cases ws
   ·cases heq
   have hp0:=p1 p (by simp)
   rw [trs_snoc,flat_snoc] at heq
   rw [gall_snoc] at hg
   obtain ⟨pa,pk,pt⟩:=p
   have body:∀ w0:V,(enV e)=[w0,(enV e).getD 1 .non]→True:=fun _ _=>trivial
   have k2:Kp H' (upd H' lw (.lst (prefs ws0))):=Kp.put w1
   have s2:Same H (upd H' lw (.lst (prefs ws0))):=fun b o e=>by rw [upd_ne (ne_of_none e hlw0)]; exact s1 b o e
   have l2:(upd H' lw (.lst (prefs ws0))) le=some (.lst xs):=by rw [upd_ne nlw]; exact l1
   have f2:(upd H' lw (.lst (prefs ws0))) lf=some (.lst (pcs ts)):=by rw [upd_ne nfw]; exact f1
   have w2:(upd H' lw (.lst (prefs ws0))) lw=some (.lst (prefs ws0)):=upd_same
   have ps0:PsAt H' ws0:=fun r hr=>p1 r (List.mem_append_left _ hr)
   cases pt with
   | whole m =>
    have heq:e :: (ents t).drop (i+1)=.w m :: flat (trs ws0):=heq
    injection heq with he1 he2
    subst he1
    refine ⟨a,_,rfl,SqT.of ha,rfl,_,_,rfl,_,_,rfl,rfl,?_⟩
    refine ⟨_,rfl,.inl ⟨rfl,_,SqL.of w1⟩,lw,_,_,rfl,rfl,w1,last_pref,?_⟩
    rw [drop_pref]
    generalize upd H' lw (.lst (prefs ws0))=H2 at k2 s2 l2 f2 w2 ⊢
    refine ⟨_,rfl,rfl,_,rfl,iteP (decide_eq_true rfl) ?_⟩
    refine ⟨_,rfl,.inl ⟨rfl,_,SqL.of f2⟩,_,rfl,_,rfl,lenOk 2,fun t3 ht3=>?_⟩
    have s3:Same H2 (upd H2 t3 (.tup [.ref pa,markV m])):=Same.new ht3
    have e3:(upd H2 t3 (.tup [.ref pa,markV m])) t3=some (.tup [.ref pa,markV m]):=upd_same
    generalize upd H2 t3 (.tup [.ref pa,markV m])=H3 at s3 e3 ⊢
    have f3:=s3 _ _ f2
    refine ⟨lf,pcs ts,_,rfl,rfl,f3,small1000 (by rw [List.length_map]; omega),?_⟩
    have k4:Kp H3 (upd H3 lf (.lst (pcs ts++[.ref t3]))):=Kp.put f3
    have kk:=(k2.trans (kp_of s3)).trans k4
    have hpa:=kk _ _ hp0 (by intro xs z; cases z)
    refine ⟨ts++[(t3,pa,pk,m)],ws0,_,_,_,rfl,fun b o e=>?_,?_,en1.kp kk,by rw [upd_same,pcs_snoc],?_,by rw [List.length_append,List.length_singleton]; omega,?_,ps0.kp kk,he2,?_,?_⟩
    ·rw [upd_ne (ne_of_none e hlf)]; exact s3 b o (s2 b o e)
    ·rw [upd_ne nlf]; exact s3 _ _ l2
    ·intro t ht
     rcases List.mem_append.mp ht with ht | ht
     ·exact pc.kp kk t ht
     ·rw [List.mem_singleton.mp ht]
      exact ⟨k4 _ _ e3 (by intro xs z; cases z),hpa⟩
    ·rw [upd_ne (Ne.symm nfw)]; exact s3 _ _ w2
    ·exact fun r hr=>hbad r (List.mem_append_left _ hr)
    ·rw [hg,cons_snoc,List.append_assoc]; rfl
   | cut u k y1 y2 =>
    have heq:e :: (ents t).drop (i+1)=.c u k :: (ents y1++ents y2)++flat (trs ws0):=heq
    rw [List.cons_append] at heq
    injection heq with he1 he2
    subst he1
    refine ⟨a,_,rfl,SqT.of ha,rfl,_,_,rfl,_,_,rfl,rfl,?_⟩
    refine ⟨_,rfl,.inl ⟨rfl,_,SqL.of w1⟩,lw,_,_,rfl,rfl,w1,last_pref,?_⟩
    rw [drop_pref]
    have hp2:=k2 _ _ hp0 (by intro xs z; cases z)
    generalize upd H' lw (.lst (prefs ws0))=H2 at k2 s2 l2 f2 w2 hp2 ⊢
    refine ⟨_,rfl,rfl,_,rfl,iteN (wd_whole u) ?_⟩
    obtain ⟨ok,fy1,fy2⟩:=fitR_cut.mp (hbad (pa,pk,.cut u k y1 y2) (by simp))
    refine ⟨_,rfl,_,rfl,_,rfl,pa,pk,u,k,rfl,hp2,ok.1,ok.2,?_⟩
    refine ⟨_,rfl,.inl ⟨rfl,_,SqL.of w2⟩,_,rfl,_,rfl,_,rfl,pa,pk,u,k,rfl,hp2,fun t3 ht3=>?_⟩
    have s3:Same H2 (upd H2 t3 (.tup (pk.oth u k).vs)):=Same.new ht3
    have e3:(upd H2 t3 (.tup (pk.oth u k).vs)) t3=some (.tup (pk.oth u k).vs):=upd_same
    generalize upd H2 t3 (.tup (pk.oth u k).vs)=H3 at s3 e3 ⊢
    have w3:=s3 _ _ w2
    rw [List.length_append,List.length_singleton] at wl
    refine ⟨lw,_,_,rfl,rfl,w3,small1000 (by rw [List.length_map]; omega),?_⟩
    have k4:Kp H3 (upd H3 lw (.lst (prefs ws0++[.ref t3]))):=Kp.put w3
    have s4:Same H (upd H3 lw (.lst (prefs ws0++[.ref t3]))):=fun b o e=>by rw [upd_ne (ne_of_none e hlw0)]; exact s3 b o (s2 b o e)
    have l4:(upd H3 lw (.lst (prefs ws0++[.ref t3]))) le=some (.lst xs):=by rw [upd_ne nlw]; exact s3 _ _ l2
    have f4:(upd H3 lw (.lst (prefs ws0++[.ref t3]))) lf=some (.lst (pcs ts)):=by rw [upd_ne nfw]; exact s3 _ _ f2
    have w4:(upd H3 lw (.lst (prefs ws0++[.ref t3]))) lw=some (.lst (prefs ws0++[.ref t3])):=upd_same
    have kk4:=(kp_of s3).trans k4
    generalize upd H3 lw (.lst (prefs ws0++[.ref t3]))=H4 at k4 s4 l4 f4 w4 kk4 ⊢
    have hp4:=kk4 _ _ hp2 (by intro xs z; cases z)
    have e4:=k4 _ _ e3 (by intro xs z; cases z)
    refine ⟨_,rfl,.inl ⟨rfl,_,SqL.of w4⟩,_,rfl,_,rfl,_,rfl,pa,pk,u,k,rfl,hp4,fun t5 ht5=>?_⟩
    have s5:Same H4 (upd H4 t5 (.tup (pk.fst u k).vs)):=Same.new ht5
    have e5:(upd H4 t5 (.tup (pk.fst u k).vs)) t5=some (.tup (pk.fst u k).vs):=upd_same
    generalize upd H4 t5 (.tup (pk.fst u k).vs)=H5 at s5 e5 ⊢
    have w5:=s5 _ _ w4
    refine ⟨lw,_,_,rfl,rfl,w5,small1000 (by rw [List.length_append,List.length_map,List.length_singleton]; omega),?_⟩
    have k6:Kp H5 (upd H5 lw (.lst (prefs ws0++[.ref t3]++[.ref t5]))):=Kp.put w5
    have kk6:=(kp_of s5).trans k6
    have kall:=(k2.trans kk4).trans kk6
    refine ⟨ts,ws0++[(t3,pk.oth u k,y2)]++[(t5,pk.fst u k,y1)],_,_,_,rfl,fun b o e=>?_,?_,en1.kp kall,?_,pc.kp kall,by omega,?_,fun r hr=>?_,?_,?_,?_⟩
    ·rw [upd_ne (ne_of_none e hlw0)]; exact s5 b o (s4 b o e)
    ·rw [upd_ne nlw]; exact s5 _ _ l4
    ·rw [upd_ne nfw]; exact s5 _ _ f4
    ·rw [upd_same,pref_snoc,pref_snoc]
    ·rcases List.mem_append.mp hr with hr | hr
     ·rcases List.mem_append.mp hr with hr | hr
      ·exact kall _ _ (ps0 r hr) (by intro xs z; cases z)
      ·rw [List.mem_singleton.mp hr]; exact kk6 _ _ e4 (by intro xs z; cases z)
     ·rw [List.mem_singleton.mp hr]; exact k6 _ _ e5 (by intro xs z; cases z)
    ·rw [he2,trs_snoc,trs_snoc,flat_snoc,flat_snoc,List.append_assoc]
    ·intro r hr
     rcases List.mem_append.mp hr with hr | hr
     ·rcases List.mem_append.mp hr with hr | hr
      ·exact hbad r (List.mem_append_left _ hr)
      ·rw [List.mem_singleton.mp hr]; exact fy2
     ·rw [List.mem_singleton.mp hr]; exact fy1
    ·rw [hg,gath,gall_snoc,gall_snoc,List.append_assoc]
  ·rintro σ H' ⟨ts,ws,x5,x6,x7,rfl,s1,l1,en1,f1,pc,fl1,w1,p1,heq,hbad,hg⟩
   rw [hxl,List.drop_length] at heq
   have wn:ws=[]:=by
    have h1:=cnt_len (trs ws)
    have h2:=flat_len (trs ws)
    rw [← heq] at h2
    rw [List.length_map] at h1
    exact List.length_eq_zero_iff.mp (by simp at h2; omega)
   subst wn
   exact ⟨_,rfl,q lf ts H' s1 hlf f1 pc (by rw [hg]; exact (List.append_nil _).symm)⟩
def sp_pieces (tb cW cU cL:Addr):Sp:=fun vs H Q E=>∃ (v:V) (t:Tr) (ww hh:Int),vs=[v,.int ww,.int hh]∧Obj cW cU cL H t v∧t.nd≤400∧TabOk lamQ lamN tb H∧1≤ww∧ww≤12∧1≤hh∧hh≤12∧Fit t ww hh ∧
 ∀ l ts H',SameX tb H H'→TabOk lamQ lamN tb H'→NewN H l→H' l=some (.lst (pcs ts))→PcO H' ts→Due t ww hh (cons ts)→Q (.ref l) H'
theorem S_pieces:FnScope ["tree","width","height"] ["tree","width","height"] (defScope s_pieces):=⟨rfl,rfl,rfl,by decide +kernel,rfl,by decide +kernel,by decide +kernel⟩
theorem ok_pieces {f:Addr} {fd:FuncData} {c tb:Addr} (F:FunC K "pieces" "pieces" s_pieces f fd c) (T:Txt mg tk) (hC:codeTB K c tb=true) (hB:BmIn K mg) (D_check_sides:DefOk P w K mg base 3 "check_sides" ["width","height"] sp_sides) (D_cut_out:DefOk P w K mg base 4 "cut_out" ["tree","width","height"] (sp_out cW cU cL)) :
  FnOk P w K mg base CX0 5 f fd ["tree","width","height"] (sp_pieces tb cW cU cL):=by
 have S:=S_pieces
 refine F.ok S (fun vs H Q E h=>?_) (fun A outer s H vs Q E hr h=>?_)
 ·obtain ⟨v,t,ww,hh,rfl,_⟩:=h; rfl
 ·obtain ⟨v,t,ww,hh,rfl,ho,hn,tab,w1,w2,h1,h2,fit,q⟩:=h
  have hlam:=pe_lam (X:=(cxOf CX0 P w K mg base ["tree","width","height"] "pieces" (defScope s_pieces) f (.ref c) A outer s H E).nox) (params:=lamP) (body:=lamB) (scope:=lamS) (pos:=lamQ) (qual:=lamN) (clos:=[]) rfl (codeTB_of hC) hB rfl rfl rfl
  have hbind:∀ (s:Shared) (pm ctv u:Value) (c':Addr),BindsTo s (PySem.W.kla_fn "<lambda>" lamN lamP lamB lamS [] pm (.ref c') ctv) ⟨[u],[]⟩ ((["piece"]:List Str).zip [u]):=fun _ _ _ _ _=>.of_eq rfl
  have hbody:∀ (A:Around) (outer:List Env) (s:Shared) (H:Hp) (f c':Addr),PE (cxOf CX0 P w K mg base ["piece"] lamN lamS f (.ref c') A outer s H E0) lamB (tOp (rIxT K) (tVar 0) (tC (.int 0))):=fun _ _ _ _ _ _=>pe_ix ix_tup (pv 0) pe_int (fun _ _=>rfl)
  have hrl:Room (1+3) (A.deeper (PyProof.Rows.envOfC "pieces" (defScope s_pieces) s.heap.objs.size f (.ref c))):=hr
  refine ⟨_,(pss_cons (ps_expr (pe_fn D_check_sides hr (pa_cons (pv 1) (pa_cons (pv 2) pa_nil))))
   (pss_one (ps_ret (pe_sortLT rfl T.z_sorted (pa_cons (pe_fn D_cut_out hr (pa_cons (pv 0) (pa_cons (pv 1) (pa_cons (pv 2) pa_nil)))) pa_nil) hlam S_lam rfl hrl hbind hbody)))),?_⟩
  refine ⟨_,rfl,_,rfl,ww,hh,rfl,w1,w2,h1,h2,fun H1 s1=>?_⟩
  refine ⟨_,rfl,_,rfl,_,rfl,v,t,ww,hh,rfl,ho.same s1,hn,fit,fun l ts H2 s2 nl hl pc ec=>?_⟩
  have inn:∀ t'∈ts,GB.Rc.In ww hh t'.2.2.1:=fun t' ht'=>gath_In w1 h1 fit t'.2.2 (ec ▸ List.mem_map.mpr ⟨t',ht',rfl⟩)
  unfold tNil
  simp only []
  have t2:=tab.same (s1.trans s2)
  refine TabOk.lamC t2 fun c' fl ctv H3 sx tab3 hf hc hnew=>?_
  have s3:=sx.toN t2.tbl
  refine ⟨fl,c',l,ctv,Addr × Rk × Option Int,ts,fun t'=>(t'.2.1,t'.2.2.1.ls),3,GB.key,rfl,hf,hc,rfl,SqL.of (s3.lst hl),fun t' ht'=>⟨rfl,((pc.n s3) t' ht').2⟩,fun t' ht'=>⟨_,rfl,t'.1,_,_,_,rfl,rfl,SqT.of ((pc.n s3) t' ht').1,at2_0,rfl,rfl⟩,fun t' ht' u' hu'=>GB.key_lt (inn t' ht') (inn u' hu') w2 h2 w2 h2,fun l' ts' nl' pm srt=>?_⟩
  have s4:Same H3 (upd H3 l' (.lst (pcs ts'))):=Same.new nl'
  have sN:SameN H H3:=((s1.trans s2).n).trans s3
  exact q l' ts' _ ((s1.trans s2).x.trans (sx.trans s4.x)) (tab3.same s4) (newN sN nl') upd_same (((pc.n s3).perm pm).same s4) ⟨ec ▸ pm.map _,by rw [List.map_map]; exact srt⟩
def sp_lwhole:Sp:=fun vs H Q _=>∃ i:Int,vs=[.int i]∧Q (.bl true) H
theorem S_law_whole:FnScope ["_law_found"] ["_law_found"] (defScope s__law_whole):=⟨rfl,rfl,rfl,by decide +kernel,rfl,by decide +kernel,by decide +kernel⟩
theorem ok_law_whole {f:Addr} {fd:FuncData} (F:Fun K "_law_whole" "_law_whole" s__law_whole f fd) (T:Txt mg tk):FnOk P w K mg base CX0 1 f fd ["_law_found"] sp_lwhole:=by
 have S:=S_law_whole
 refine F.ok S (fun vs H Q E h=>?_) (fun cdv A outer s H vs Q E hr h=>?_)
 ·obtain ⟨i,rfl,_⟩:=h; rfl
 ·obtain ⟨i,rfl,q⟩:=h
  refine ⟨_,(pss_one (ps_ret (pe_and (pe_callB call_isin rfl T.z_isinstance rfl (pa_cons (pv 0) (pa_cons (pe_bltn (v:=.ty "int") rfl T.z_int rfl rfl) pa_nil))) (pe_one (pe_not (pe_callB call_isin rfl T.z_isinstance rfl (pa_cons (pv 0) (pa_cons (pe_bltn (v:=.ty "bool") rfl T.z_bool rfl rfl) pa_nil)))))))),?_⟩
  exact ⟨_,rfl,_,"int","int",rfl,rfl,.inl rfl,_,rfl,iteP (by decide) ⟨_,rfl,_,"int","bool",rfl,rfl,.inr (.inl rfl),_,rfl,q⟩⟩
def sp_ltold (cW cU cL:Addr) (n:Nat):Sp:=fun vs H Q _=>∃ (v:V) (t:Tr),vs=[v]∧Obj cW cU cL H t v∧t.dp < n∧∀ v' H',Same H H'→Told H' t v'→Q v' H'
theorem ltold0 {vs:List V} {H:Hp} {Q:VK} {E:XK}:¬ sp_ltold cW cU cL 0 vs H Q E:=by
 rintro ⟨v,t,_,_,h,_⟩
 omega
theorem S_law_told:FnScope ["_law_tree_here","_law_word","_law_first","_law_other"] ["_law_tree_here"] (defScope s__law_told):=⟨rfl,rfl,rfl,by decide +kernel,rfl,by decide +kernel,by decide +kernel⟩
theorem told_non {H:Hp} {t:Tr} {v:V} (h:Told H t v):decide (v=V.non)=false:=by
 cases t <;> rw [Told] at h
 ·obtain ⟨a,rfl,_⟩:=h; exact decide_eq_false (by intro z; cases z)
 ·obtain ⟨a,_,_,rfl,_⟩:=h; exact decide_eq_false (by intro z; cases z)
theorem ok_law_told {f:Addr} {fd:FuncData} {n:Nat} (F:Fun K "_law_told" "_law_told" s__law_told f fd) (T:Txt mg tk) (R:RT mg K cT cW cU cL) (D__law_whole:DefOk P w K mg base 1 "_law_whole" ["_law_found"] sp_lwhole) (D__law_told:DefOk P w K mg base (n+3) "_law_told" ["_law_tree_here"] (sp_ltold cW cU cL n)):FnOk P w K mg base CX0 (n+4) f fd ["_law_tree_here"] (sp_ltold cW cU cL (n+1)):=by
 have S:=S_law_told
 refine F.ok S (fun vs H Q E h=>?_) (fun cdv A outer s H vs Q E hr h=>?_)
 ·obtain ⟨v,t,rfl,_⟩:=h; rfl
 ·obtain ⟨v,t,rfl,ho,hd,q⟩:=h
  refine ⟨_,(pss_cons (ps_if (pt_val (pe_callB call_isinI rfl T.z_isinstance rfl (pa_cons (pv 0) (pa_cons (pe_glob (v:=.ref (cW)) rfl R.g_Whole rfl) pa_nil)))) (pss_cons (ps_if (PW.pt (pw_and (pt_cmpR op_notN (pe_fld (pv 0) rfl) pe_non (nomark _)) (pw_and1 (pt_not (pt_val (pe_fn D__law_whole hr (pa_cons (pe_fld (pv 0) rfl) pa_nil) (by omega))))))) (pss_one (ps_ret pe_non)) pss_nil)
   (pss_one (ps_ret (pe_tup (pa_cons pe_str (pa_cons (pe_fld (pv 0) rfl) pa_nil)))))) pss_nil)
   (pss_cons (ps_if (PW.pt (pw_and (pt_not (pt_val (pe_callB call_isinI rfl T.z_isinstance rfl (pa_cons (pv 0) (pa_cons (pe_glob (v:=.ref (cU)) rfl R.g_Upright rfl) pa_nil))))) (pw_and1 (pt_not (pt_val (pe_callB call_isinI rfl T.z_isinstance rfl (pa_cons (pv 0) (pa_cons (pe_glob (v:=.ref (cL)) rfl R.g_Level rfl) pa_nil)))))))) (pss_one (ps_ret pe_non)) pss_nil)
   (pss_cons (ps_set (i:=1) S.nd rfl (Or.inl rfl) pe_str)
   (pss_cons (ps_if (pt_val (pe_callB call_isinI rfl T.z_isinstance rfl (pa_cons (pv 0) (pa_cons (pe_glob (v:=.ref (cU)) rfl R.g_Upright rfl) pa_nil)))) (pss_one (ps_set (i:=1) S.nd rfl (Or.inl rfl) pe_str)) pss_nil)
   (pss_cons (ps_set (i:=2) S.nd rfl (Or.inl rfl) (pe_fn D__law_told hr (pa_cons (pe_fld (pv 0) rfl) pa_nil) (by omega)))
   (pss_cons (ps_set (i:=3) S.nd rfl (Or.inl rfl) (pe_fn D__law_told hr (pa_cons (pe_fld (pv 0) rfl) pa_nil) (by omega)))
   (pss_cons (ps_if (PW.pt (pw_or (pt_not (pt_val (pe_fn D__law_whole hr (pa_cons (pe_fld (pv 0) rfl) pa_nil) (by omega)))) (pw_or (pt_cmpR op_isN (pv 2) pe_non (nomark _)) (pw_or1 (pt_cmpR op_isN (pv 3) pe_non (nomark _)))))) (pss_one (ps_ret pe_non)) pss_nil)
   (pss_one (ps_ret (pe_tup (pa_cons (pv 1) (pa_cons (pe_fld (pv 0) rfl) (pa_cons (pv 2) (pa_cons (pv 3) pa_nil)))))))))))))),?_⟩
  cases t with
  | whole m =>
   rw [Obj] at ho
   obtain ⟨x,dx,rfl,hx⟩:=ho
   refine ⟨_,rfl,x,cW,dx,_,_,.ref cW,true,rfl,hx,R.iW,rfl,refU,R.kWW,_,rfl,iteP rfl ?_⟩
   refine ⟨_,rfl,x,cW,dx,_,_,rfl,hx,R.iW.cl,R.n_mark,fW _,rfl,_,rfl,?_⟩
   have fin:∀ a,H a=none→Q (.ref a) (upd H a (.tup [.str "whole",markV m])):=fun a ha=>q _ _ (Same.new ha) (by rw [Told]; exact ⟨a,rfl,upd_same⟩)
   cases m with
   | none=>exact iteN (by show (!decide (V.non=V.non))=false; rw [decide_eq_true rfl]; rfl) (iteN rfl ⟨_,rfl,x,cW,dx,_,_,rfl,hx,R.iW.cl,R.n_mark,fW _,lenOk 2,fin⟩)
   | some i=>exact iteP (by show (!decide (V.int i=V.non))=true; rw [decide_eq_false (by intro z; cases z)]; rfl) ⟨_,rfl,x,cW,dx,_,_,rfl,hx,R.iW.cl,R.n_mark,fW _,i,rfl,_,rfl,iteN rfl ⟨_,rfl,x,cW,dx,_,_,rfl,hx,R.iW.cl,R.n_mark,fW _,lenOk 2,fin⟩⟩
  | cut u k y1 y2 =>
   rw [Obj] at ho
   obtain ⟨x,dx,w1,w2,rfl,hx,o1,o2⟩:=ho
   have hd:max y1.dp y2.dp+1 < n+1:=hd
   refine ⟨_,rfl,x,_,dx,_,_,.ref cW,false,rfl,hx,R.iC u,rfl,refU,R.kCW u,_,rfl,iteN rfl ?_⟩
   have go:∀ H1:Hp,H1=H→∀ z:Str,z=wd u→True:=fun _ _ _ _=>trivial
   cases u with
   | true =>
    refine ⟨_,rfl,x,_,dx,_,_,.ref cU,true,rfl,hx,R.iC true,rfl,refU,R.kCC true true,_,rfl,iteN rfl (iteN rfl ?_)⟩
    refine ⟨_,rfl,x,_,dx,_,_,.ref cU,true,rfl,hx,R.iC true,rfl,refU,R.kCC true true,_,rfl,iteP rfl ?_⟩
    refine ⟨_,rfl,x,_,dx,_,_,rfl,hx,(R.iC true).cl,R.n_first true,fC_first _ _ _,w1,y1,rfl,o1,by omega,fun v1 H1 s1 t1=>?_⟩
    have hx1:=s1 _ _ hx
    refine ⟨_,rfl,x,_,dx,_,_,rfl,hx1,(R.iC true).cl,R.n_other true,fC_other _ _ _,w2,y2,rfl,o2.same s1,by omega,fun v2 H2 s2 t2=>?_⟩
    have hx2:=s2 _ _ hx1
    have t1':=t1.same s2
    refine ⟨_,rfl,x,_,dx,_,_,rfl,hx2,(R.iC true).cl,R.n_at true,fC_at _ _ _,k,rfl,_,rfl,iteN rfl ?_⟩
    refine ⟨_,rfl,rfl,_,rfl,iteN (told_non t1') ⟨_,rfl,rfl,_,rfl,iteN (told_non t2) ?_⟩⟩
    refine ⟨_,rfl,_,rfl,x,_,dx,_,_,rfl,hx2,(R.iC true).cl,R.n_at true,fC_at _ _ _,_,rfl,_,rfl,lenOk 4,fun a ha=>?_⟩
    have s3:Same H2 (upd H2 a (.tup [.str (wd true),.int k,v1,v2])):=Same.new ha
    exact q _ _ ((s1.trans s2).trans s3) (by rw [Told]; exact ⟨a,v1,v2,rfl,upd_same,t1'.same s3,t2.same s3⟩)
   | false =>
    refine ⟨_,rfl,x,_,dx,_,_,.ref cU,false,rfl,hx,R.iC false,rfl,refU,R.kCC false true,_,rfl,iteP rfl ?_⟩
    refine ⟨_,rfl,x,_,dx,_,_,.ref cL,true,rfl,hx,R.iC false,rfl,refU,R.kCC false false,_,rfl,iteN rfl ?_⟩
    refine ⟨_,rfl,x,_,dx,_,_,.ref cU,false,rfl,hx,R.iC false,rfl,refU,R.kCC false true,_,rfl,iteN rfl ?_⟩
    refine ⟨_,rfl,x,_,dx,_,_,rfl,hx,(R.iC false).cl,R.n_first false,fC_first _ _ _,w1,y1,rfl,o1,by omega,fun v1 H1 s1 t1=>?_⟩
    have hx1:=s1 _ _ hx
    refine ⟨_,rfl,x,_,dx,_,_,rfl,hx1,(R.iC false).cl,R.n_other false,fC_other _ _ _,w2,y2,rfl,o2.same s1,by omega,fun v2 H2 s2 t2=>?_⟩
    have hx2:=s2 _ _ hx1
    have t1':=t1.same s2
    refine ⟨_,rfl,x,_,dx,_,_,rfl,hx2,(R.iC false).cl,R.n_at false,fC_at _ _ _,k,rfl,_,rfl,iteN rfl ?_⟩
    refine ⟨_,rfl,rfl,_,rfl,iteN (told_non t1') ⟨_,rfl,rfl,_,rfl,iteN (told_non t2) ?_⟩⟩
    refine ⟨_,rfl,_,rfl,x,_,dx,_,_,rfl,hx2,(R.iC false).cl,R.n_at false,fC_at _ _ _,_,rfl,_,rfl,lenOk 4,fun a ha=>?_⟩
    have s3:Same H2 (upd H2 a (.tup [.str (wd false),.int k,v1,v2])):=Same.new ha
    exact q _ _ ((s1.trans s2).trans s3) (by rw [Told]; exact ⟨a,v1,v2,rfl,upd_same,t1'.same s3,t2.same s3⟩)
def sp_lpieces (n:Nat):Sp:=fun vs H Q _=>∃ (v:V) (t:Tr) (a:Addr) (p:Rk),vs=[v,.ref a]∧Told H t v∧H a=some (.tup p.vs)∧t.dp < n∧t.nd≤400∧∀ l ts H',Same H H'→H l=none→H' l=some (.lst (pcs ts))→PcO H' ts→cons ts=gath t p→Q (.ref l) H'
theorem lpieces0 {vs:List V} {H:Hp} {Q:VK} {E:XK}:¬ sp_lpieces 0 vs H Q E:=by
 rintro ⟨v,t,a,p,_,_,_,h,_⟩
 omega
theorem cons_app (ts us:List PT):cons (ts++us)=cons ts++cons us:=List.map_append
theorem pcs_app (ts us:List PT):pcs (ts++us)=pcs ts++pcs us:=List.map_append
theorem PcO.app {H:Hp} {ts us:List PT} (a:PcO H ts) (b:PcO H us):PcO H (ts++us):=fun t ht=>(List.mem_append.mp ht).elim (a t) (b t)
theorem none_of {H H':Hp} {l:Addr} (s:Same H H') (h:H' l=none):H l=none:=by
 cases e:H l with
 | none=>rfl
 | some o=>rw [s _ _ e] at h; cases h
theorem S_law_pieces:FnScope ["_law_told_here","_law_block","_law_top","_law_left","_law_bottom","_law_right","_law_line","_law_first"] ["_law_told_here","_law_block"] (defScope s__law_pieces):=⟨rfl,rfl,rfl,by decide +kernel,rfl,by decide +kernel,by decide +kernel⟩
theorem ok_law_pieces {f:Addr} {fd:FuncData} {n:Nat} (F:Fun K "_law_pieces" "_law_pieces" s__law_pieces f fd) (D__law_pieces:DefOk P w K mg base (n+3) "_law_pieces" ["_law_told_here","_law_block"] (sp_lpieces n)):FnOk P w K mg base CX0 (n+4) f fd ["_law_told_here","_law_block"] (sp_lpieces (n+1)):=by
 have S:=S_law_pieces
 refine F.ok S (fun vs H Q E h=>?_) (fun cdv A outer s H vs Q E hr h=>?_)
 ·obtain ⟨v,t,a,p,rfl,_⟩:=h; rfl
 ·obtain ⟨v,t,b,p,rfl,ht,hb,hd,hn,q⟩:=h
  refine ⟨_,(pss_cons (ps_asg (pv 1) (pg_tup rfl (pgs_cons (pg_name (i:=2) S.nd rfl (Or.inl rfl)) (pgs_cons (pg_name (i:=3) S.nd rfl (Or.inl rfl)) (pgs_cons (pg_name (i:=4) S.nd rfl (Or.inl rfl)) (pgs_cons (pg_name (i:=5) S.nd rfl (Or.inl rfl)) pgs_nil))))))
   (pss_cons (ps_if (pt_cmpR op_eq (pe_ix ix_tup (pv 0) pe_int (fun _ _=>rfl)) pe_str (nomark _)) (pss_one (ps_ret (pe_lst (pa_cons (pe_tup (pa_cons (pv 1) (pa_cons (pe_ix ix_tup (pv 0) pe_int (fun _ _=>rfl)) pa_nil))) pa_nil)))) pss_nil)
   (pss_cons (ps_if (pt_cmpR op_eq (pe_ix ix_tup (pv 0) pe_int (fun _ _=>rfl)) pe_str (nomark _)) (pss_cons (ps_set (i:=6) S.nd rfl (Or.inl rfl) (pe_op op_add (pv 3) (pe_ix ix_tup (pv 0) pe_int (fun _ _=>rfl))))
   (pss_cons (ps_set (i:=7) S.nd rfl (Or.inl rfl) (pe_fn D__law_pieces hr (pa_cons (pe_ix ix_tup (pv 0) pe_int (fun _ _=>rfl)) (pa_cons (pe_tup (pa_cons (pv 2) (pa_cons (pv 3) (pa_cons (pv 4) (pa_cons (pv 6) pa_nil))))) pa_nil)) (by omega)))
   (pss_one (ps_ret (pe_op op_cat (pv 7) (pe_fn D__law_pieces hr (pa_cons (pe_ix ix_tup (pv 0) pe_int (fun _ _=>rfl)) (pa_cons (pe_tup (pa_cons (pv 2) (pa_cons (pv 6) (pa_cons (pv 4) (pa_cons (pv 5) pa_nil))))) pa_nil)) (by omega))))))) pss_nil)
   (pss_cons (ps_set (i:=6) S.nd rfl (Or.inl rfl) (pe_op op_add (pv 2) (pe_ix ix_tup (pv 0) pe_int (fun _ _=>rfl))))
   (pss_one (ps_ret (pe_op op_cat (pe_fn D__law_pieces hr (pa_cons (pe_ix ix_tup (pv 0) pe_int (fun _ _=>rfl)) (pa_cons (pe_tup (pa_cons (pv 2) (pa_cons (pv 3) (pa_cons (pv 6) (pa_cons (pv 5) pa_nil))))) pa_nil)) (by omega)) (pe_fn D__law_pieces hr (pa_cons (pe_ix ix_tup (pv 0) pe_int (fun _ _=>rfl)) (pa_cons (pe_tup (pa_cons (pv 6) (pa_cons (pv 3) (pa_cons (pv 4) (pa_cons (pv 5) pa_nil))))) pa_nil)) (by omega))))))))),?_⟩
  refine ⟨_,rfl,b,_,rfl,SqT.of hb,rfl,_,_,rfl,_,_,rfl,_,_,rfl,_,_,rfl,rfl,?_⟩
  cases t with
  | whole m =>
   rw [Told] at ht
   obtain ⟨a,rfl,ha⟩:=ht
   refine ⟨_,rfl,a,_,_,_,rfl,rfl,SqT.of ha,at2_0,rfl,_,rfl,iteP (decide_eq_true rfl) ?_⟩
   refine ⟨_,rfl,_,rfl,a,_,_,_,rfl,rfl,SqT.of ha,at2_1,lenOk 2,fun ta hta=>⟨lenOk 1,fun l hl=>?_⟩⟩
   have s2:Same H (upd H ta (.tup [.ref b,markV m])):=Same.new hta
   have e2:(upd H ta (.tup [.ref b,markV m])) ta=some (.tup [.ref b,markV m]):=upd_same
   generalize upd H ta (.tup [.ref b,markV m])=H2 at s2 e2 hl ⊢
   have s3:Same H2 (upd H2 l (.lst [.ref ta])):=Same.new hl
   refine q l [(ta,b,p,m)] _ (s2.trans s3) (none_of s2 hl) upd_same (fun t ht=>?_) (by rw [gath]; rfl)
   rw [List.mem_singleton.mp ht]
   exact ⟨s3 _ _ e2,s3 _ _ (s2 _ _ hb)⟩
  | cut u k y1 y2 =>
   rw [Told] at ht
   obtain ⟨a,v1,v2,rfl,ha,t1,t2⟩:=ht
   have hd:max y1.dp y2.dp+1 < n+1:=hd
   have hn:y1.nd+y2.nd+1≤400:=hn
   have z1:=sz_nd y1
   have z2:=sz_nd y2
   refine ⟨_,rfl,a,_,_,_,rfl,rfl,SqT.of ha,at0,rfl,_,rfl,iteN (wd_whole u) ?_⟩
   cases u with
   | true =>
    refine ⟨_,rfl,a,_,_,_,rfl,rfl,SqT.of ha,at0,rfl,_,rfl,iteP (wd_dec true true) ?_⟩
    refine ⟨_,rfl,_,rfl,a,_,_,_,rfl,rfl,SqT.of ha,at1,_,_,rfl,rfl,?_⟩
    refine ⟨_,rfl,a,_,_,_,rfl,rfl,SqT.of ha,at2,_,rfl,_,rfl,_,rfl,_,rfl,lenOk 4,fun b1 hb1=>?_⟩
    have s0:Same H (upd H b1 (.tup [.int p.t,.int p.l,.int p.b,.int (p.l+k)])):=Same.new hb1
    have e0:(upd H b1 (.tup [.int p.t,.int p.l,.int p.b,.int (p.l+k)])) b1=some (.tup (p.fst true k).vs):=upd_same
    generalize upd H b1 (.tup [.int p.t,.int p.l,.int p.b,.int (p.l+k)])=H0 at s0 e0 ⊢
    refine ⟨v1,y1,b1,p.fst true k,rfl,t1.same s0,e0,by omega,by omega,fun l1 ts1 H1 s1 n1 g1 c1 e1=>?_⟩
    have s01:=s0.trans s1
    refine ⟨_,rfl,_,rfl,a,_,_,_,rfl,rfl,SqT.of (s01 _ _ ha),at3,_,rfl,_,rfl,_,rfl,_,rfl,lenOk 4,fun b2 hb2=>?_⟩
    have s2:Same H1 (upd H1 b2 (.tup [.int p.t,.int (p.l+k),.int p.b,.int p.r])):=Same.new hb2
    have e2':(upd H1 b2 (.tup [.int p.t,.int (p.l+k),.int p.b,.int p.r])) b2=some (.tup (p.oth true k).vs):=upd_same
    generalize upd H1 b2 (.tup [.int p.t,.int (p.l+k),.int p.b,.int p.r])=H2 at s2 e2' ⊢
    refine ⟨v2,y2,b2,p.oth true k,rfl,(t2.same s01).same s2,e2',by omega,by omega,fun l2 ts2 H3 s3 n2 g2 c2 e2=>?_⟩
    have s23:=s2.trans s3
    have len1:=congrArg List.length e1
    have len2:=congrArg List.length e2
    rw [gath_len,List.length_map] at len1 len2
    refine ⟨l1,l2,_,_,rfl,rfl,s23 _ _ g1,g2,Nat.le_of_lt (small1000 (by rw [List.length_map,List.length_map]; omega)),fun l hl=>?_⟩
    have s4:Same H3 (upd H3 l (.lst (pcs ts1++pcs ts2))):=Same.new hl
    exact q l (ts1++ts2) _ ((s01.trans s23).trans s4) (none_of (s01.trans s23) hl) (by rw [upd_same,pcs_app]) (((c1.same s23).app c2).same s4) (by rw [cons_app,e1,e2,gath])
   | false =>
    refine ⟨_,rfl,a,_,_,_,rfl,rfl,SqT.of ha,at0,rfl,_,rfl,iteN (wd_dec false true) ?_⟩
    refine ⟨_,rfl,_,rfl,a,_,_,_,rfl,rfl,SqT.of ha,at1,_,_,rfl,rfl,?_⟩
    refine ⟨_,rfl,a,_,_,_,rfl,rfl,SqT.of ha,at2,_,rfl,_,rfl,_,rfl,_,rfl,lenOk 4,fun b1 hb1=>?_⟩
    have s0:Same H (upd H b1 (.tup [.int p.t,.int p.l,.int (p.t+k),.int p.r])):=Same.new hb1
    have e0:(upd H b1 (.tup [.int p.t,.int p.l,.int (p.t+k),.int p.r])) b1=some (.tup (p.fst false k).vs):=upd_same
    generalize upd H b1 (.tup [.int p.t,.int p.l,.int (p.t+k),.int p.r])=H0 at s0 e0 ⊢
    refine ⟨v1,y1,b1,p.fst false k,rfl,t1.same s0,e0,by omega,by omega,fun l1 ts1 H1 s1 n1 g1 c1 e1=>?_⟩
    have s01:=s0.trans s1
    refine ⟨_,rfl,a,_,_,_,rfl,rfl,SqT.of (s01 _ _ ha),at3,_,rfl,_,rfl,_,rfl,_,rfl,lenOk 4,fun b2 hb2=>?_⟩
    have s2:Same H1 (upd H1 b2 (.tup [.int (p.t+k),.int p.l,.int p.b,.int p.r])):=Same.new hb2
    have e2':(upd H1 b2 (.tup [.int (p.t+k),.int p.l,.int p.b,.int p.r])) b2=some (.tup (p.oth false k).vs):=upd_same
    generalize upd H1 b2 (.tup [.int (p.t+k),.int p.l,.int p.b,.int p.r])=H2 at s2 e2' ⊢
    refine ⟨v2,y2,b2,p.oth false k,rfl,(t2.same s01).same s2,e2',by omega,by omega,fun l2 ts2 H3 s3 n2 g2 c2 e2=>?_⟩
    have s23:=s2.trans s3
    have len1:=congrArg List.length e1
    have len2:=congrArg List.length e2
    rw [gath_len,List.length_map] at len1 len2
    refine ⟨l1,l2,_,_,rfl,rfl,s23 _ _ g1,g2,Nat.le_of_lt (small1000 (by rw [List.length_map,List.length_map]; omega)),fun l hl=>?_⟩
    have s4:Same H3 (upd H3 l (.lst (pcs ts1++pcs ts2))):=Same.new hl
    exact q l (ts1++ts2) _ ((s01.trans s23).trans s4) (none_of (s01.trans s23) hl) (by rw [upd_same,pcs_app]) (((c1.same s23).app c2).same s4) (by rw [cons_app,e1,e2,gath])
def sd (u:Bool):Int:=if u then 1 else 0
theorem at_lo {p:Rk} {u:Bool}:atI p.vs (sd u)=some (.int (p.lo u)):=by cases u <;> rfl
theorem at_hi {p:Rk} {u:Bool}:atI p.vs (sd u+2)=some (.int (p.hi u)):=by cases u <;> rfl
theorem at_wd {u:Bool}:atI [V.str "level",V.str "upright"] (sd u)=some (.str (wd u)):=by cases u <;> rfl
theorem rk_pos {p:Rk} (h:p.ok) (u:Bool):p.lo u < p.hi u:=by
 cases u
 ·exact h.1
 ·exact h.2
def brkB (u:Bool) (a:Int) (g:Rk × Option Int):Bool:=decide (g.1.lo u < a) && decide (a < g.1.hi u)
theorem pcs_get {ts:List PT} {i:Nat} {x:V} (h:(pcs ts)[i]?=some x):∃ u,ts[i]?=some u∧x=.ref u.1:=by
 rw [List.getElem?_map] at h
 cases e:ts[i]? with
 | none=>rw [e] at h; cases h
 | some u=>rw [e] at h; exact ⟨u,rfl,(Option.some.inj h).symm⟩
def LnAt (H:Hp) (l:Addr) (cs:List (Bool × Int)):Prop:=∃ ts:List (Addr × Bool × Int),H l=some (.lst (refs ts))∧(∀ t∈ts,H t.1=some (.tup [.str (wd t.2.1),.int t.2.2]))∧ts.map (·.2)=cs
theorem LnAt.same {H H':Hp} {a:Addr} {ks:List (Bool × Int)} (h:LnAt H a ks) (s:Same H H'):LnAt H' a ks :=
 let ⟨ts,a,b,c⟩:=h; ⟨ts,s _ _ a,fun t ht=>s _ _ (b t ht),c⟩
structure Fnd (L:List (Rk × Option Int)) (p:Rk) (dn:Bool→Int→Prop) (cs:List (Bool × Int)):Prop where
 ok:∀ x∈cs,p.lo x.1 < x.2∧x.2 < p.hi x.1∧∀ g∈L,¬ brk x.1 x.2 g
 all:∀ u a,dn u a→p.lo u < a→a < p.hi u→(∀ g∈L,¬ brk u a g)→(u,a)∈cs
theorem rk_lh {p:Rk} {u:Bool} {a:Int} (h:∀ v,0≤p.lo v∧p.hi v≤12) (a1:1≤a) (a2:a < p.len u):(∀ v,0≤(p.fst u a).lo v∧(p.fst u a).hi v≤12)∧(∀ v,0≤(p.oth u a).lo v∧(p.oth u a).hi v≤12)∧(p.fst u a).len true+(p.fst u a).len false < p.len true+p.len false∧(p.oth u a).len true+(p.oth u a).len false < p.len true+p.len false:=by
 obtain ⟨x1,x2⟩:=h true
 obtain ⟨y1,y2⟩:=h false
 have x1:0≤p.l:=x1
 have x2:p.r≤12:=x2
 have y1:0≤p.t:=y1
 have y2:p.b≤12:=y2
 cases u with
 | true =>
  have a2:a < p.r - p.l:=a2
  refine ⟨fun v=>?_,fun v=>?_,?_,?_⟩
  ·cases v
   ·exact ⟨y1,y2⟩
   ·exact ⟨x1,show p.l+a≤12 by omega⟩
  ·cases v
   ·exact ⟨y1,y2⟩
   ·exact ⟨show 0≤p.l+a by omega,x2⟩
  ·show p.l+a - p.l+(p.b - p.t) < p.r - p.l+(p.b - p.t); omega
  ·show p.r - (p.l+a)+(p.b - p.t) < p.r - p.l+(p.b - p.t); omega
 | false =>
  have a2:a < p.b - p.t:=a2
  refine ⟨fun v=>?_,fun v=>?_,?_,?_⟩
  ·cases v
   ·exact ⟨y1,show p.t+a≤12 by omega⟩
   ·exact ⟨x1,x2⟩
  ·cases v
   ·exact ⟨show 0≤p.t+a by omega,y2⟩
   ·exact ⟨x1,x2⟩
  ·show p.r - p.l+(p.t+a - p.t) < p.r - p.l+(p.b - p.t); omega
  ·show p.r - p.l+(p.b - (p.t+a)) < p.r - p.l+(p.b - p.t); omega
def Grow (en:Rk→En) (D:Rk→Prop):Tr→Rk→Prop
 | .whole m,p=>D p∧en p=.w m
 | .cut u k x y,p=>D p∧en p=.c u k∧Grow en D x (p.fst u k)∧Grow en D y (p.oth u k)
def brkR (u:Bool) (a:Int) (r:Rk):Bool:=decide (r.lo u < a) && decide (a < r.hi u)
theorem brkR_iff {u:Bool} {a:Int} {r:Rk}:brkR u a r=true↔r.lo u < a∧a < r.hi u:=by
 unfold brkR
 rw [Bool.and_eq_true,decide_eq_true_iff,decide_eq_true_iff]
def lnsN (rs:List Rk) (u:Bool) (lo:Int):Nat→List Int
 | 0=>[]
 | n+1=>lnsN rs u lo n++if rs.any (brkR u (lo+1+n))=true then [] else [lo+1+n]
def lns (rs:List Rk) (p:Rk) (u:Bool):List Int:=lnsN rs u (p.lo u) (p.hi u - (p.lo u+1)).toNat
theorem mem_lnsN {rs:List Rk} {u:Bool} {lo:Int}:∀ {n:Nat} {a:Int},a∈lnsN rs u lo n↔lo < a∧a < lo+1+n∧∀ r∈rs,¬ (r.lo u < a∧a < r.hi u)
 | 0,a=>by
  rw [lnsN]
  exact ⟨fun h=>absurd h List.not_mem_nil,fun h=>by omega⟩
 | n+1,a=>by
  rw [lnsN,List.mem_append,mem_lnsN]
  constructor
  ·rintro (⟨h1,h2,h3⟩ | h)
   ·exact ⟨h1,by omega,h3⟩
   ·split at h
    ·cases h
    ·rename_i hn
     cases List.mem_singleton.mp h
     refine ⟨by omega,by omega,fun r hr z=>hn ?_⟩
     exact List.any_eq_true.mpr ⟨r,hr,brkR_iff.mpr z⟩
  ·rintro ⟨h1,h2,h3⟩
   by_cases e:a=lo+1+n
   ·right
    subst e
    rw [if_neg (fun z=>by obtain ⟨r,hr,hz⟩:=List.any_eq_true.mp z; exact h3 r hr (brkR_iff.mp hz))]
    exact List.mem_singleton.mpr rfl
   ·exact .inl ⟨h1,by omega,h3⟩
theorem lnsN_len {rs:List Rk} {u:Bool} {lo:Int}:∀ n:Nat,(lnsN rs u lo n).length≤n
 | 0=>Nat.le_refl _
 | n+1=>by
  have:=lnsN_len (rs:=rs) (u:=u) (lo:=lo) n
  rw [lnsN,List.length_append]
  split <;> simp <;> omega
theorem mem_lns {rs:List Rk} {p:Rk} {u:Bool} {a:Int} (h:p.ok):a∈lns rs p u↔p.lo u < a∧a < p.hi u∧∀ r∈rs,¬ (r.lo u < a∧a < r.hi u):=by
 have:p.lo u < p.hi u:=rk_pos h u
 unfold lns
 rw [mem_lnsN]
 constructor
 ·rintro ⟨a1,a2,a3⟩; exact ⟨a1,by omega,a3⟩
 ·rintro ⟨a1,a2,a3⟩; exact ⟨a1,by omega,a3⟩
def thrL (rs:List Rk) (p:Rk):List (Bool × Int):=(lns rs p true).map (fun a=>(true,a))++(lns rs p false).map (fun a=>(false,a))
theorem mem_thrL {rs:List Rk} {p:Rk} {c:Bool × Int} (h:p.ok):c∈thrL rs p↔p.lo c.1 < c.2∧c.2 < p.hi c.1∧∀ r∈rs,¬ (r.lo c.1 < c.2∧c.2 < r.hi c.1):=by
 obtain ⟨u,a⟩:=c
 unfold thrL
 rw [List.mem_append,List.mem_map,List.mem_map]
 constructor
 ·rintro (⟨b,hb,e⟩ | ⟨b,hb,e⟩) <;> cases e <;> exact (mem_lns h).mp hb
 ·intro z
  cases u
  ·exact .inr ⟨a,(mem_lns h).mpr z,rfl⟩
  ·exact .inl ⟨a,(mem_lns h).mpr z,rfl⟩
theorem thr_fnd {L:List (Rk × Option Int)} {p:Rk} (h:p.ok):Fnd L p (fun _ _=>True) (thrL (L.map (·.1)) p) :=
 ⟨fun x hx=>by
  obtain ⟨a,b,c⟩:=(mem_thrL h).mp hx
  exact ⟨a,b,fun g hg z=>c g.1 (List.mem_map.mpr ⟨g,hg,rfl⟩) z⟩,fun u a _ a1 a2 nb=>(mem_thrL h).mpr ⟨a1,a2,fun r hr z=>by
  obtain ⟨g,hg,rfl⟩:=List.mem_map.mp hr
  exact nb g hg z⟩⟩
theorem thr_len {rs:List Rk} {p:Rk} (h:p.ok) (hb:∀ u,0≤p.lo u∧p.hi u≤12):(thrL rs p).length≤24:=by
 unfold thrL
 rw [List.length_append,List.length_map,List.length_map]
 have a:=lnsN_len (rs:=rs) (u:=true) (lo:=p.lo true) (p.hi true - (p.lo true+1)).toNat
 have b:=lnsN_len (rs:=rs) (u:=false) (lo:=p.lo false) (p.hi false - (p.lo false+1)).toNat
 have:=hb true
 have:=hb false
 unfold lns
 omega
def thE (p:Rk):List (Bool × Int)→En
 | c :: _=>.c c.1 (c.2 - p.lo c.1)
 | []=>.w none
def enL (L:List (Rk × Option Int)) (p:Rk):En:=match L with
 | [g]=>.w g.2
 | _=>thE p (thrL (L.map (·.1)) p)
theorem enL_ne {L:List (Rk × Option Int)} {p:Rk} (h:L.length≠1):enL L p=thE p (thrL (L.map (·.1)) p):=by
 match L,h with
 | [],_=>rfl
 | [g],h=>exact absurd rfl h
 | _ :: _ :: _,_=>rfl
def Ins (r p:Rk):Prop:=p.t≤r.t∧p.l≤r.l∧r.b≤p.b∧r.r≤p.r
instance (r p:Rk):Decidable (Ins r p):=inferInstanceAs (Decidable (_∧_∧_∧_))
def inP (L:List (Rk × Option Int)) (p:Rk):List (Rk × Option Int):=L.filter fun g=>decide (Ins g.1 p)
theorem ins_iff {r p:Rk}:Ins r p↔∀ u,p.lo u≤r.lo u∧r.hi u≤p.hi u:=by
 constructor
 ·rintro ⟨a,b,c,d⟩ u
  cases u
  ·exact ⟨a,c⟩
  ·exact ⟨b,d⟩
 ·intro h
  exact ⟨(h false).1,(h true).1,(h false).2,(h true).2⟩
theorem rk_in {p:Rk} {u v:Bool} {k:Int} (k1:1≤k) (k2:k < p.len u):(p.fst u k).lo v=p.lo v∧(p.fst u k).hi v=(if u=v then p.lo u+k else p.hi v)∧(p.oth u k).lo v=(if u=v then p.lo u+k else p.lo v)∧(p.oth u k).hi v=p.hi v:=by
 cases u <;> cases v <;> exact ⟨rfl,rfl,rfl,rfl⟩
theorem in_parts {L:List (Rk × Option Int)} {p:Rk} {u:Bool} {k:Int} (hL:∀ g∈L,∀ v,g.1.lo v < g.1.hi v) (k1:1≤k) (k2:k < p.len u) (nb:∀ g∈inP L p,¬ brk u (p.lo u+k) g) :
  inP L (p.fst u k)=(inP L p).filter (fun g=>decide (g.1.lo u < p.lo u+k))∧inP L (p.oth u k)=(inP L p).filter (fun g=>decide (p.lo u+k≤g.1.lo u)):=by
 rw [rk_len] at k2
 have k2':k < p.len u:=by rw [rk_len]; exact k2
 unfold inP
 rw [List.filter_filter,List.filter_filter]
 constructor
 ·refine List.filter_congr fun g hg=>?_
  rw [Bool.eq_iff_iff,Bool.and_eq_true,decide_eq_true_iff,decide_eq_true_iff,decide_eq_true_iff]
  have lt:=hL g hg u
  constructor
  ·intro z
   have zz:=ins_iff.mp z
   have zu:=zz u
   obtain ⟨_,r2,_,_⟩:=rk_in (p:=p) (u:=u) (v:=u) k1 k2'
   rw [r2,if_pos rfl] at zu
   refine ⟨by omega,ins_iff.mpr fun v=>?_⟩
   have zv:=zz v
   obtain ⟨q1,q2,_,_⟩:=rk_in (p:=p) (u:=u) (v:=v) k1 k2'
   rw [q1,q2] at zv
   by_cases e:u=v
   ·subst e; rw [if_pos rfl] at zv; omega
   ·rw [if_neg e] at zv; exact zv
  ·rintro ⟨a,b⟩
   have nbg:=nb g (List.mem_filter.mpr ⟨hg,decide_eq_true b⟩)
   have bb:=ins_iff.mp b
   refine ins_iff.mpr fun v=>?_
   have bv:=bb v
   obtain ⟨q1,q2,_,_⟩:=rk_in (p:=p) (u:=u) (v:=v) k1 k2'
   rw [q1,q2]
   by_cases e:u=v
   ·subst e
    rw [if_pos rfl]
    exact ⟨bv.1,Classical.byContradiction fun z=>nbg ⟨a,by omega⟩⟩
   ·rw [if_neg e]; exact bv
 ·refine List.filter_congr fun g hg=>?_
  rw [Bool.eq_iff_iff,Bool.and_eq_true,decide_eq_true_iff,decide_eq_true_iff,decide_eq_true_iff]
  have lt:=hL g hg u
  constructor
  ·intro z
   have zz:=ins_iff.mp z
   have zu:=zz u
   obtain ⟨_,_,r3,_⟩:=rk_in (p:=p) (u:=u) (v:=u) k1 k2'
   rw [r3,if_pos rfl] at zu
   refine ⟨zu.1,ins_iff.mpr fun v=>?_⟩
   have zv:=zz v
   obtain ⟨_,_,q3,q4⟩:=rk_in (p:=p) (u:=u) (v:=v) k1 k2'
   rw [q3,q4] at zv
   by_cases e:u=v
   ·subst e; rw [if_pos rfl] at zv; omega
   ·rw [if_neg e] at zv; exact zv
  ·rintro ⟨a,b⟩
   have bb:=ins_iff.mp b
   refine ins_iff.mpr fun v=>?_
   have bv:=bb v
   obtain ⟨_,_,q3,q4⟩:=rk_in (p:=p) (u:=u) (v:=v) k1 k2'
   rw [q3,q4]
   by_cases e:u=v
   ·subst e; rw [if_pos rfl]; exact ⟨a,bv.2⟩
   ·rw [if_neg e]; exact bv
def IsF:Tr→List (Rk × Option Int)→Rk→Prop
 | .whole m,L,p=>L=[(p,m)]
 | .cut u k x y,L,p=>(thrL (L.map (·.1)) p).head?=some (u,p.lo u+k)∧IsF x (L.filter fun g=>decide (g.1.lo u < p.lo u+k)) (p.fst u k)∧IsF y (L.filter fun g=>decide (p.lo u+k≤g.1.lo u)) (p.oth u k)
def DF (L:List (Rk × Option Int)) (p:Rk):Prop:=p.ok∧(∀ u,0≤p.lo u∧p.hi u≤12)∧∃ t,FitR p t∧(inP L p).Perm (gath t p)
theorem grow_form {L:List (Rk × Option Int)} (hL:∀ g∈L,∀ v,g.1.lo v < g.1.hi v):∀ (n:Nat) (p:Rk),(p.len true+p.len false).toNat=n→DF L p→∃ F,Grow (fun p=>enL (inP L p) p) (DF L) F p∧FitR p F∧IsF F (inP L p) p∧(gath F p).Perm (inP L p):=by
 intro n
 induction n using Nat.strongRecOn with
 | ind n ih =>
  intro p hn df
  have df0:=df
  obtain ⟨ok,bd,t,fit,pm⟩:=df
  have len:=pm.length_eq
  rw [gath_len] at len
  by_cases h1:(inP L p).length=1
  ·obtain ⟨g,hg⟩:=List.length_eq_one_iff.mp h1
   obtain ⟨m,rfl⟩:=sz_one (len.symm.trans h1)
   rw [gath,hg] at pm
   have e:=List.mem_singleton.mp (pm.mem_iff.mp (List.mem_singleton.mpr rfl))
   subst e
   refine ⟨.whole m,⟨df0,by show enL (inP L p) p=_; rw [hg]; rfl⟩,trivial,hg,by rw [hg]; exact List.Perm.refl _⟩
  ·obtain ⟨c,rest,hc⟩:∃ c rest,thrL ((inP L p).map (·.1)) p=c :: rest:=by
    cases t with
    | whole m=>exact absurd len h1
    | cut u0 k0 x0 y0 =>
     obtain ⟨⟨k1,k2⟩,fx,fy⟩:=fitR_cut.mp fit
     obtain ⟨_,_,nb⟩:=filt_parts ok k1 k2 fx fy
     rw [rk_len] at k2
     have m:=(mem_thrL (rs:=(inP L p).map (·.1)) (c:=(u0,p.lo u0+k0)) ok).mpr ⟨by show p.lo u0 < p.lo u0+k0; omega,by show p.lo u0+k0 < p.hi u0; omega,fun r hr z=>by
      obtain ⟨g,hg,rfl⟩:=List.mem_map.mp hr
      exact nb g (by have:=pm.mem_iff.mp hg; rw [gath] at this; exact this) z⟩
     cases q:thrL ((inP L p).map (·.1)) p with
     | nil=>rw [q] at m; cases m
     | cons c r=>exact ⟨c,r,rfl⟩
   obtain ⟨u,a⟩:=c
   obtain ⟨a1,a2,nb⟩:=(mem_thrL ok).mp (hc ▸ List.mem_cons_self:(u,a)∈thrL ((inP L p).map (·.1)) p)
   have a1:p.lo u < a:=a1
   have a2:a < p.hi u:=a2
   obtain ⟨k,rfl⟩:∃ k,a=p.lo u+k:=⟨a - p.lo u,by omega⟩
   have k1:1≤k:=by omega
   have k2:k < p.len u:=by rw [rk_len]; omega
   have nb':∀ g∈inP L p,¬ brk u (p.lo u+k) g:=fun g hg z=>nb g.1 (List.mem_map.mpr ⟨g,hg,rfl⟩) z
   obtain ⟨th,fa,fb,q1,q2⟩:=part_perm ok fit pm k1 k2 nb'
   obtain ⟨o1,o2⟩:=rk_parts (u:=u) ok k1 k2
   obtain ⟨l1,l2,lt1,lt2⟩:=rk_lh (u:=u) (a:=k) bd k1 k2
   obtain ⟨i1,i2⟩:=in_parts hL k1 k2 nb'
   have d1:DF L (p.fst u k):=⟨o1,l1,_,fa,by rw [i1]; exact q1⟩
   have d2:DF L (p.oth u k):=⟨o2,l2,_,fb,by rw [i2]; exact q2⟩
   have pos1:0≤(p.fst u k).len true+(p.fst u k).len false:=by
    have:=rk_pos o1 true
    have:=rk_pos o1 false
    rw [rk_len,rk_len]; omega
   have pos2:0≤(p.oth u k).len true+(p.oth u k).len false:=by
    have:=rk_pos o2 true
    have:=rk_pos o2 false
    rw [rk_len,rk_len]; omega
   obtain ⟨X,gx,fx,sx,px⟩:=ih _ (by omega) (p.fst u k) rfl d1
   obtain ⟨Y,gy,fy,sy,py⟩:=ih _ (by omega) (p.oth u k) rfl d2
   refine ⟨.cut u k X Y,⟨df0,?_,gx,gy⟩,fitR_cut.mpr ⟨⟨k1,k2⟩,fx,fy⟩,⟨by rw [hc]; rfl,i1 ▸ sx,i2 ▸ sy⟩,?_⟩
   ·show enL (inP L p) p=_
    rw [enL_ne h1,hc]
    show En.c u (p.lo u+k - p.lo u)=_
    rw [show p.lo u+k - p.lo u=k by omega]
   ·rw [gath]
    refine (px.append py).trans ?_
    rw [i1,i2]
    exact (q1.append q2).trans ((gath_thr (p:=p) th).symm.trans pm.symm)
theorem isF_uniq:∀ {F G:Tr} {L:List (Rk × Option Int)} {p:Rk},p.ok→IsF F L p→IsF G L p→F=G
 | .whole m,.whole m',L,p,_,h,g=>by
  have h:L=[(p,m)]:=h
  have g:L=[(p,m')]:=g
  rw [h] at g
  cases g; rfl
 | .whole m,.cut u k x y,L,p,ok,h,g=>by
  have h:L=[(p,m)]:=h
  have g:=List.mem_of_mem_head? (Option.mem_def.mpr g.1)
  rw [h] at g
  obtain ⟨a,b,c⟩:=(mem_thrL ok).mp g
  exact absurd ⟨a,b⟩ (c p (by simp))
 | .cut u k x y,.whole m,L,p,ok,g,h=>by
  have h:L=[(p,m)]:=h
  have g:=List.mem_of_mem_head? (Option.mem_def.mpr g.1)
  rw [h] at g
  obtain ⟨a,b,c⟩:=(mem_thrL ok).mp g
  exact absurd ⟨a,b⟩ (c p (by simp))
 | .cut u k x y,.cut u' k' x' y',L,p,ok,h,g=>by
  obtain ⟨h0,h1,h2⟩:=h
  obtain ⟨g0,g1,g2⟩:=g
  have m:=List.mem_of_mem_head? (Option.mem_def.mpr h0)
  obtain ⟨a,b,_⟩:=(mem_thrL ok).mp m
  have a:p.lo u < p.lo u+k:=a
  have b:p.lo u+k < p.hi u:=b
  rw [h0] at g0
  have e:=Option.some.inj g0
  have e1:u=u':=congrArg Prod.fst e
  subst e1
  have e2:p.lo u+k=p.lo u+k':=congrArg Prod.snd e
  have e3:k=k':=by omega
  subst e3
  obtain ⟨o1,o2⟩:=rk_parts (u:=u) ok (k:=k) (by omega) (by rw [rk_len]; omega)
  rw [isF_uniq o1 h1 g1,isF_uniq o2 h2 g2]
def SpoilR:Tr→Tr→Prop
 | .whole m,s=>∃ m',s=.whole m'∧m'≠m
 | .cut u k x y,s=>s=.whole none∨(∃ x',s=.cut u k x' y∧SpoilR x x')∨∃ y',s=.cut u k x y'∧SpoilR y y'
theorem spoil_fit:∀ {t s:Tr} {p:Rk},FitR p t→SpoilR t s→FitR p s
 | .whole m,s,p,f,h=>by
  obtain ⟨m',rfl,n⟩:=h
  exact trivial
 | .cut u k x y,s,p,f,h=>by
  obtain ⟨q,fx,fy⟩:=fitR_cut.mp f
  rcases h with rfl | ⟨x',rfl,h⟩ | ⟨y',rfl,h⟩
  ·exact trivial
  ·exact fitR_cut.mpr ⟨q,spoil_fit fx h,fy⟩
  ·exact fitR_cut.mpr ⟨q,fx,spoil_fit fy h⟩
theorem thr_ne {M:List (Rk × Option Int)} {t:Tr} {p:Rk} (ok:p.ok) (fit:FitR p t) (pm:M.Perm (gath t p)) (h1:M.length≠1):thrL (M.map (·.1)) p≠[]:=fun q=>by
 have len:=pm.length_eq
 rw [gath_len] at len
 cases t with
 | whole m=>exact absurd len h1
 | cut u0 k0 x0 y0 =>
  obtain ⟨⟨k1,k2⟩,fx,fy⟩:=fitR_cut.mp fit
  obtain ⟨_,_,nb⟩:=filt_parts ok k1 k2 fx fy
  rw [rk_len] at k2
  have m:=(mem_thrL (rs:=M.map (·.1)) (c:=(u0,p.lo u0+k0)) ok).mpr ⟨by show p.lo u0 < p.lo u0+k0; omega,by show p.lo u0+k0 < p.hi u0; omega,fun r hr z=>by
   obtain ⟨g,hg,rfl⟩:=List.mem_map.mp hr
   exact nb g (by have:=pm.mem_iff.mp hg; rw [gath] at this; exact this) z⟩
  rw [q] at m; cases m
theorem gs_eq:∀ {A B:List (Rk × Option Int)},deqs (gsD A) (gsD B)=true→A=B
 | [],[],_=>rfl
 | [],b :: B,h=>by simp [gsD,deqs] at h
 | a :: A,[],h=>by simp [gsD,deqs] at h
 | (a,m) :: A,(b,m') :: B,h=>by
  simp only [gsD,gD,deq,deqs,Bool.and_eq_true,and_true] at h
  obtain ⟨⟨⟨h1,h2,h3,h4⟩,h5⟩,h6⟩:=h
  rw [gs_eq h6,(markE m m').mp h5]
  obtain ⟨a1,a2,a3,a4⟩:=a
  obtain ⟨b1,b2,b3,b4⟩:=b
  cases intE _ _ h1
  cases intE _ _ h2
  cases intE _ _ h3
  cases intE _ _ h4
  rfl
theorem ins_dec {r p:Rk}:(decide (p.t≤r.t) && decide (p.l≤r.l) && (decide (r.b≤p.b) && decide (r.r≤p.r)))=decide (Ins r p):=by
 rw [Bool.eq_iff_iff,decide_eq_true_iff]
 simp only [Bool.and_eq_true,decide_eq_true_iff]
 exact ⟨fun ⟨⟨a,b⟩,c,d⟩=>⟨a,b,c,d⟩,fun ⟨a,b,c,d⟩=>⟨⟨a,b⟩,c,d⟩⟩
def sp_inside:Sp:=fun vs H Q _=>∃ (a b:Addr) (r p:Rk),vs=[.ref a,.ref b]∧H a=some (.tup r.vs)∧H b=some (.tup p.vs)∧Q (.bl (decide (Ins r p))) H
theorem S_inside:FnScope ["one","other","starts_within"] ["one","other"] (defScope s_inside):=⟨rfl,rfl,rfl,by decide +kernel,rfl,by decide +kernel,by decide +kernel⟩
theorem ok_inside {f:Addr} {fd:FuncData} (F:Fun K "inside" "inside" s_inside f fd):FnOk P w K mg base CX0 1 f fd ["one","other"] sp_inside:=by
 have S:=S_inside
 refine F.ok S (fun vs H Q E h=>?_) (fun cdv A outer s H vs Q E hr h=>?_)
 ·obtain ⟨a,b,r,p,rfl,_⟩:=h; rfl
 ·obtain ⟨a,b,r,p,rfl,ha,hb,q⟩:=h
  refine ⟨_,(pss_cons (ps_set (i:=2) S.nd rfl (Or.inl rfl) (pe_and (pe_cmpR op_le (pe_ix ix_tup (pv 1) pe_int (fun _ _=>rfl)) (pe_ix ix_tup (pv 0) pe_int (fun _ _=>rfl)) (nomark _)) (pe_one (pe_cmpR op_le (pe_ix ix_tup (pv 1) pe_int (fun _ _=>rfl)) (pe_ix ix_tup (pv 0) pe_int (fun _ _=>rfl)) (nomark _)))))
   (pss_one (ps_ret (pe_and (pv 2) (pe_and (pe_cmpR op_le (pe_ix ix_tup (pv 0) pe_int (fun _ _=>rfl)) (pe_ix ix_tup (pv 1) pe_int (fun _ _=>rfl)) (nomark _)) (pe_one (pe_cmpR op_le (pe_ix ix_tup (pv 0) pe_int (fun _ _=>rfl)) (pe_ix ix_tup (pv 1) pe_int (fun _ _=>rfl)) (nomark _)))))))),?_⟩
  rw [← ins_dec] at q
  have key:=q
  refine ⟨_,rfl,b,_,_,_,rfl,rfl,SqT.of hb,at0,_,rfl,a,_,_,_,rfl,rfl,SqT.of ha,at0,_,_,rfl,rfl,_,rfl,ite3 (fun h1=>?_) (fun h1=>?_)⟩
  ·refine ⟨_,rfl,b,_,_,_,rfl,rfl,SqT.of hb,at1,_,rfl,a,_,_,_,rfl,rfl,SqT.of ha,at1,_,_,rfl,rfl,?_⟩
   refine ⟨_,rfl,_,rfl,ite3 (fun h2=>?_) (fun h2=>?_)⟩
   ·refine ⟨_,rfl,a,_,_,_,rfl,rfl,SqT.of ha,at2,_,rfl,b,_,_,_,rfl,rfl,SqT.of hb,at2,_,_,rfl,rfl,_,rfl,ite3 (fun h3=>?_) (fun h3=>?_)⟩
    ·refine ⟨_,rfl,a,_,_,_,rfl,rfl,SqT.of ha,at3,_,rfl,b,_,_,_,rfl,rfl,SqT.of hb,at3,_,_,rfl,rfl,?_⟩
     rw [h1,h2,h3] at key; exact key
    ·show Q (.bl false) H
     rw [h1,h2,h3] at key; exact key
   ·show Q (.bl false) H
    rw [h1,h2] at key; exact key
  ·refine ⟨_,rfl,_,rfl,iteF ?_⟩
   show Q (.bl false) H
   rw [h1] at key; exact key
abbrev rcs (ts:List (Addr × Rk)):List Rk:=ts.map (·.2)
def PnO (H:Hp) (ts:List (Addr × Rk)):Prop:=∀ t∈ts,H t.1=some (.tup t.2.vs)
theorem PnO.same {H H':Hp} {ts:List (Addr × Rk)} (h:PnO H ts) (s:Same H H'):PnO H' ts:=fun t ht=>s _ _ (h t ht)
def sp_brk:Sp:=fun vs H Q _=>∃ (a:Int) (b:Addr) (r:Rk) (u:Bool),vs=[.int a,.ref b,.int (sd u)]∧H b=some (.tup r.vs)∧Q (.bl (brkR u a r)) H
theorem S_line_breaks:FnScope ["line","pane","side"] ["line","pane","side"] (defScope s_line_breaks):=⟨rfl,rfl,rfl,by decide +kernel,rfl,by decide +kernel,by decide +kernel⟩
theorem ok_line_breaks {f:Addr} {fd:FuncData} (F:Fun K "line_breaks" "line_breaks" s_line_breaks f fd):FnOk P w K mg base CX0 1 f fd ["line","pane","side"] sp_brk:=by
 have S:=S_line_breaks
 refine F.ok S (fun vs H Q E h=>?_) (fun cdv A outer s H vs Q E hr h=>?_)
 ·obtain ⟨a,b,r,u,rfl,_⟩:=h; rfl
 ·obtain ⟨a,b,r,u,rfl,hb,q⟩:=h
  refine ⟨_,(pss_one (ps_ret (pe_chain op_lt op_lt (pe_ix ix_tup (pv 1) (pv 2) (fun _ _=>rfl)) (pv 0) (pe_ix ix_tup (pv 1) (pe_op op_add (pv 2) pe_int) (fun _ _=>rfl))))),?_⟩
  unfold brkR at q
  refine ⟨_,rfl,_,rfl,b,_,_,_,rfl,rfl,SqT.of hb,at_lo,_,rfl,_,_,rfl,rfl,_,rfl,ite3 (fun h1=>?_) (fun h1=>?_)⟩
  ·rw [h1,Bool.true_and] at q
   exact ⟨_,rfl,_,rfl,_,_,rfl,rfl,b,_,_,_,rfl,rfl,SqT.of hb,at_hi,_,_,rfl,rfl,q⟩
  ·rw [h1] at q; exact q
def sp_goes:Sp:=fun vs H Q _=>∃ (a:Int) (l:Addr) (ts:List (Addr × Rk)) (u:Bool),vs=[.int a,.ref l,.int (sd u)]∧H l=some (.lst (refs ts))∧PnO H ts∧ts.length≤150∧∀ H',Same H H'→Q (.bl (!(rcs ts).any (brkR u a))) H'
theorem S_goes_through:FnScope ["line","panes","side"] ["line","panes","side"] (defScope s_goes_through):=⟨rfl,rfl,rfl,by decide +kernel,rfl,by decide +kernel,by decide +kernel⟩
theorem ok_goes_through {f:Addr} {fd:FuncData} (F:Fun K "goes_through" "goes_through" s_goes_through f fd) (T:Txt mg tk) (D_line_breaks:DefOk P w K mg base 1 "line_breaks" ["line","pane","side"] sp_brk):FnOk P w K mg base CX0 2 f fd ["line","panes","side"] sp_goes:=by
 have S:=S_goes_through
 refine F.ok S (fun vs H Q E h=>?_) (fun cdv A outer s H vs Q E hr h=>?_)
 ·obtain ⟨a,l,ts,u,rfl,_⟩:=h; rfl
 ·obtain ⟨a,l,ts,u,rfl,hl,hat,few,q⟩:=h
  refine ⟨_,(pss_one (ps_ret (pe_not (pe_callB call_any rfl T.z_any rfl (pa_cons (pe_comp rfl (pi_list (pv 1)) (fun _ _ _ _ _=>(pg_name (i:=0) (show List.Nodup (["pane","line","side"]:List Str) from by decide +kernel) rfl (Or.inl rfl))) (fun _ _ _ _ _=>(pe_fn D_line_breaks hr (pa_cons (pv 1) (pa_cons (pv 0) (pa_cons (pv 2) pa_nil))))) (N:=["pane","line","side"]) (fr:=[none,some 0,some 2])) pa_nil))))),?_⟩
  refine ⟨_,rfl,l,rfl,⟨_,SqL.of hl⟩,fun acc hacc=>comp_list (K:=K) (a:=l) (ys:=refs ts) (fun i xs σ H'=>(∃ y,σ=[y,some (.int a),some (.int (sd u))])∧Same H H'∧xs=((rcs ts).take i).map fun p=>V.bl (brkR u a p)) ⟨⟨none,rfl⟩,Same.new hacc,rfl⟩ (fun i xs σ H' _ _ hp=>SqL.of (hp.2.1 _ _ hl)) ?_ ?_⟩
  ·rintro i x xs σ H' hx hi hl' hacc' ⟨⟨y,rfl⟩,s4,rfl⟩
   obtain ⟨t,ht,rfl⟩:=refs_get hx
   have hta:=s4 _ _ (hat t (List.mem_of_getElem? ht))
   have er:(rcs ts)[i]?=some t.2:=by rw [List.getElem?_map,ht]; rfl
   refine ⟨_,rfl,_,rfl,_,rfl,a,t.1,t.2,u,rfl,hta,?_⟩
   refine cNx.mk (Nat.le_of_lt (small1000 (by rw [refs_len]; omega))) hi hl' hacc' ⟨⟨_,rfl⟩,fun c o e=>?_,?_⟩
   ·rw [upd_ne (ne_of_none e hacc)]; exact s4 c o e
   ·rw [List.take_succ,er,List.map_append]; rfl
  ·rintro xs σ H' hl' hacc' ⟨_,s4,rfl⟩
   have e:(refs ts).length=(rcs ts).length:=by rw [refs_len,List.length_map]
   rw [e,List.take_length] at hacc'
   have e2:List.map V.bl ((rcs ts).map (brkR u a))=(rcs ts).map fun p=>V.bl (brkR u a p):=by rw [List.map_map (l:=rcs ts)]; rfl
   refine ⟨acc,(rcs ts).map (brkR u a),rfl,SqL.of (by rw [hacc',e2]),rfl,?_⟩
   have:=q H' s4
   have e3:((rcs ts).map (brkR u a)).any id=(rcs ts).any (brkR u a):=by rw [List.any_map]; rfl
   rw [← e3] at this
   exact ⟨_,rfl,this⟩
def sp_lth:Sp:=fun vs H Q _=>∃ (b l:Addr) (p:Rk) (ts:List (Addr × Rk)) (u:Bool),vs=[.ref b,.ref l,.int (sd u)]∧H b=some (.tup p.vs)∧H l=some (.lst (refs ts))∧PnO H ts∧ts.length≤150∧p.ok∧(∀ u,0≤p.lo u∧p.hi u≤12)∧∀ c H',Same H H'→H' c=some (.lst ((lns (rcs ts) p u).map V.int))→Q (.ref c) H'
theorem S_lines_through:FnScope ["block","panes","side"] ["block","panes","side"] (defScope s_lines_through):=⟨rfl,rfl,rfl,by decide +kernel,rfl,by decide +kernel,by decide +kernel⟩
theorem ok_lines_through {f:Addr} {fd:FuncData} (F:Fun K "lines_through" "lines_through" s_lines_through f fd) (T:Txt mg tk) (D_goes_through:DefOk P w K mg base 2 "goes_through" ["line","panes","side"] sp_goes):FnOk P w K mg base CX0 3 f fd ["block","panes","side"] sp_lth:=by
 have S:=S_lines_through
 refine F.ok S (fun vs H Q E h=>?_) (fun cdv A outer s H vs Q E hr h=>?_)
 ·obtain ⟨b,l,p,ts,u,rfl,_⟩:=h; rfl
 ·obtain ⟨b,l,p,ts,u,rfl,hb,hl,hat,few,pk,pb,q⟩:=h
  refine ⟨_,(pss_one (ps_ret (pe_compF rfl (pi_range2 rfl T.z_range (pa_cons (pe_op op_add (pe_ix ix_tup (pv 0) (pv 2) (fun _ _=>rfl)) pe_int) (pa_cons (pe_ix ix_tup (pv 0) (pe_op op_add (pv 2) pe_int) (fun _ _=>rfl)) pa_nil))) (fun _ _ _ _ _=>(pg_name (i:=0) (show List.Nodup (["line","panes","side"]:List Str) from by decide +kernel) rfl (Or.inl rfl))) (fun _ _ _ _ _=>(pt_val (pe_fn D_goes_through hr (pa_cons (pv 0) (pa_cons (pv 1) (pa_cons (pv 2) pa_nil)))))) (fun _ _ _ _ _=>(pv 0)) (N:=["line","panes","side"]) (fr:=[none,some 1,some 2])))),?_⟩
  obtain ⟨b0,b1⟩:=pb u
  have hlt:=rk_pos pk u
  refine ⟨_,rfl,_,rfl,b,_,_,_,rfl,rfl,SqT.of hb,at_lo,_,_,rfl,rfl,_,rfl,_,rfl,_,_,rfl,rfl,b,_,_,_,rfl,rfl,SqT.of hb,at_hi,p.lo u+1,p.hi u,rfl,⟨by omega,by omega,by omega,by omega⟩,fun acc hacc=>comp_rangeF (lo:=p.lo u+1) (n:=(p.hi u - (p.lo u+1)).toNat) (fun i xs σ H'=>(∃ y,σ=[y,some (.ref l),some (.int (sd u))])∧Same H H'∧xs=(lnsN (rcs ts) u (p.lo u) i).map V.int) ⟨⟨none,rfl⟩,Same.new hacc,rfl⟩ ?_ ?_⟩
  ·rintro i xs σ H' hi' hxl hacc' ⟨⟨y,rfl⟩,s1,rfl⟩
   refine ⟨_,rfl,_,rfl,_,rfl,p.lo u+1+i,l,ts,u,rfl,s1 _ _ hl,hat.same s1,few,fun H2 s2=>⟨_,rfl,?_⟩⟩
   cases hb':(rcs ts).any (brkR u (p.lo u+1+i)) with
   | true =>
    refine fSk.mk hi' hxl (s2 _ _ hacc') ⟨⟨_,rfl⟩,s1.trans s2,?_⟩
    rw [lnsN,hb',if_pos rfl,List.append_nil]
   | false =>
    refine ⟨_,rfl,fNx.mk (Nat.le_of_lt (small1000 (by omega))) hi' hxl (s2 _ _ hacc') ⟨⟨_,rfl⟩,fun c o e=>?_,?_⟩⟩
    ·rw [upd_ne (ne_of_none e hacc)]; exact (s1.trans s2) c o e
    ·rw [lnsN,hb',if_neg Bool.false_ne_true,List.map_append]; rfl
  ·rintro xs σ H' hxl hacc' ⟨_,s1,rfl⟩
   exact q acc H' s1 hacc'
abbrev pns (ts:List PT):List (Addr × Rk):=ts.map fun t=>(t.2.1,t.2.2.1)
theorem pns_rcs (ts:List PT):rcs (pns ts)=(cons ts).map (·.1):=by
 show List.map _ (List.map _ ts)=List.map _ (List.map _ ts)
 rw [List.map_map,List.map_map]; rfl
def sp_entfor:Sp:=fun vs H Q _=>∃ (b l:Addr) (p:Rk) (ts:List PT) (t:Tr),vs=[.ref b,.ref l]∧H b=some (.tup p.vs)∧H l=some (.lst (pcs ts))∧PcO H ts∧ts.length≤150∧p.ok∧(∀ u,0≤p.lo u∧p.hi u≤12)∧FitR p t∧(cons ts).Perm (gath t p)∧∀ e H',Same H H'→H' e=some (.tup (enV (enL (cons ts) p)))→Q (.ref e) H'
theorem S_entry_for:FnScope ["block","some","panes","uprights","levels"] ["block","some"] (defScope s_entry_for):=⟨rfl,rfl,rfl,by decide +kernel,rfl,by decide +kernel,by decide +kernel⟩
theorem at_fst {x:V} {r:List V}:atI (x :: r) 0=some x:=atI_nat (xs:=x :: r) (j:=0) (v:=x) rfl
theorem ok_entry_for {f:Addr} {fd:FuncData} (F:Fun K "entry_for" "entry_for" s_entry_for f fd) (T:Txt mg tk) (D_lines_through:DefOk P w K mg base 3 "lines_through" ["block","panes","side"] sp_lth):FnOk P w K mg base CX0 4 f fd ["block","some"] sp_entfor:=by
 have S:=S_entry_for
 refine F.ok S (fun vs H Q E h=>?_) (fun cdv A outer s H vs Q E hr h=>?_)
 ·obtain ⟨b,l,p,ts,t,rfl,_⟩:=h; rfl
 ·obtain ⟨b,l,p,ts,t,rfl,hb,hl,pc,few,pk,pb,fit,pm,q⟩:=h
  refine ⟨_,(pss_cons (ps_if (pt_cmpR op_eq (pe_callB call_len_seq rfl T.z_len rfl (pa_cons (pv 1) pa_nil)) pe_int (nomark _)) (pss_one (ps_ret (pe_tup (pa_cons (pe_glob (v:=.str "whole") rfl T.g_WHOLE ⟨_,rfl⟩) (pa_cons (pe_ix ix_tup (pe_ix ix_list (pv 1) pe_int (fun _ _=>rfl)) pe_int (fun _ _=>rfl)) pa_nil))))) pss_nil)
   (pss_cons (ps_setComp rfl (pg_name (i:=2) S.nd rfl (Or.inl rfl)) (pi_list (pv 1)) (fun _ _ _ _ _=>(pg_tupK (K:=K) (n:=2) rfl (pgs_cons (pg_name (i:=0) (show List.Nodup (["pane","mark"]:List Str) from by decide +kernel) rfl (Or.inl rfl)) (pgs_cons (pg_name (i:=1) (show List.Nodup (["pane","mark"]:List Str) from by decide +kernel) rfl (Or.inl rfl)) pgs_nil)))) (fun _ _ _ _ _=>(pv 0)) (N:=["pane","mark"]) (fr:=[none,none]))
   (pss_cons (ps_set (i:=3) S.nd rfl (Or.inl rfl) (pe_fn D_lines_through hr (pa_cons (pv 0) (pa_cons (pv 2) (pa_cons (pe_glob (v:=.int 1) rfl T.g_LEFT ⟨_,rfl⟩) pa_nil)))))
   (pss_cons (ps_if (pt_truth (pv 3) (fun _=>rfl)) (pss_one (ps_ret (pe_tup (pa_cons (pe_glob (v:=.str "upright") rfl T.g_UPRIGHT ⟨_,rfl⟩) (pa_cons (pe_op op_sub (pe_ix ix_list (pv 3) pe_int (fun _ _=>rfl)) (pe_ix ix_tup (pv 0) (pe_glob (v:=.int 1) rfl T.g_LEFT ⟨_,rfl⟩) (fun _ _=>rfl))) pa_nil))))) pss_nil)
   (pss_cons (ps_set (i:=4) S.nd rfl (Or.inl rfl) (pe_fn D_lines_through hr (pa_cons (pv 0) (pa_cons (pv 2) (pa_cons (pe_glob (v:=.int 0) rfl T.g_TOP ⟨_,rfl⟩) pa_nil)))))
   (pss_cons (ps_if (pt_truth (pv 4) (fun _=>rfl)) (pss_one (ps_ret (pe_tup (pa_cons (pe_glob (v:=.str "level") rfl T.g_LEVEL ⟨_,rfl⟩) (pa_cons (pe_op op_sub (pe_ix ix_list (pv 4) pe_int (fun _ _=>rfl)) (pe_ix ix_tup (pv 0) (pe_glob (v:=.int 0) rfl T.g_TOP ⟨_,rfl⟩) (fun _ _=>rfl))) pa_nil))))) pss_nil)
   (pss_one (ps_ret (pe_tup (pa_cons (pe_glob (v:=.str "room") rfl T.g_ROOM ⟨_,rfl⟩) (pa_cons (pv 0) pa_nil))))))))))),?_⟩
  refine ⟨_,rfl,l,_,rfl,.inl (SqL.of hl),rfl,_,rfl,ite3 (fun c=>?_) (fun c=>?_)⟩
  ·have c:=V.int.inj (of_decide_eq_true c)
   have c:ts.length=1:=by rw [List.length_map] at c; omega
   obtain ⟨x,rfl⟩:=List.length_eq_one_iff.mp c
   have hx:=pc x (List.mem_singleton.mpr rfl)
   exact ⟨_,rfl,l,_,_,_,rfl,rfl,SqL.of hl,rfl,x.1,_,_,_,rfl,rfl,SqT.of hx.1,at2_1,lenOk 2,fun e he=>q e _ (Same.new he) upd_same⟩
  ·have c1:(cons ts).length≠1:=fun z=>of_decide_eq_false c (by rw [List.length_map] at z ⊢; rw [z]; rfl)
   have ne:=thr_ne pk fit pm c1
   rw [enL_ne c1] at q
   refine ⟨_,rfl,l,rfl,⟨_,SqL.of hl⟩,fun acc hacc=>comp_list (K:=K) (a:=l) (ys:=pcs ts) (fun i zs σ H'=>(∃ y z,σ=[y,z])∧Same H H'∧zs=refs ((pns ts).take i)) ⟨⟨none,none,rfl⟩,Same.new hacc,rfl⟩ (fun i zs σ H' _ _ hp=>SqL.of (hp.2.1 _ _ hl)) ?_ ?_⟩
   ·rintro i x zs σ H' hx hi hl' hacc' ⟨⟨y,z,rfl⟩,hs,rfl⟩
    obtain ⟨u,hu,rfl⟩:=pcs_get hx
    obtain ⟨g1,g2⟩:=(pc.same hs) u (List.mem_of_getElem? hu)
    refine ⟨u.1,_,rfl,SqT.of g1,rfl,_,_,rfl,_,_,rfl,rfl,_,rfl,?_⟩
    refine cNx.mk (Nat.le_of_lt (small1000 (by rw [List.length_map]; omega))) hi hl' hacc' ⟨⟨_,_,rfl⟩,fun c o e=>?_,?_⟩
    ·rw [upd_ne (ne_of_none e hacc)]; exact hs c o e
    ·unfold refs
     rw [List.take_succ,List.getElem?_map,hu,List.map_append]; rfl
   rintro zs σ H1 hzl ac1 ⟨_,s1,rfl⟩
   have e1:(pcs ts).length=(pns ts).length:=by rw [List.length_map,List.length_map]
   rw [e1,List.take_length] at ac1
   have pn1:PnO H1 (pns ts):=fun z hz=>by
    obtain ⟨u,hu,rfl⟩:=List.mem_map.mp hz
    exact s1 _ _ (pc u hu).2
   have few':(pns ts).length≤150:=by rw [List.length_map]; exact few
   refine ⟨_,rfl,_,rfl,b,acc,p,pns ts,true,rfl,s1 _ _ hb,ac1,pn1,few',pk,pb,fun c2 H2 s2 hc2=>?_⟩
   rw [pns_rcs] at hc2
   have s12:=s1.trans s2
   cases q1:lns ((cons ts).map (·.1)) p true with
   | cons x r =>
    rw [q1] at hc2
    have eT:thrL ((cons ts).map (·.1)) p=(true,x) :: (r.map (fun a=>(true,a))++(lns ((cons ts).map (·.1)) p false).map (fun a=>(false,a))):=by unfold thrL; rw [q1]; rfl
    rw [eT] at q
    refine ⟨_,rfl,_,.inl ⟨_,SqL.of hc2,rfl⟩,iteP rfl ?_⟩
    exact ⟨_,rfl,c2,_,_,_,rfl,rfl,SqL.of hc2,at_fst,_,rfl,b,_,_,_,rfl,rfl,SqT.of (s12 _ _ hb),at_lo (u:=true),_,_,rfl,rfl,lenOk 2,fun e he=>q e _ (s12.trans (Same.new he)) upd_same⟩
   | nil =>
    rw [q1] at hc2
    refine ⟨_,rfl,_,.inl ⟨_,SqL.of hc2,rfl⟩,iteN rfl ?_⟩
    refine ⟨_,rfl,_,rfl,b,acc,p,pns ts,false,rfl,s12 _ _ hb,s2 _ _ ac1,pn1.same s2,few',pk,pb,fun c3 H3 s3 hc3=>?_⟩
    rw [pns_rcs] at hc3
    have s13:=s12.trans s3
    cases q2:lns ((cons ts).map (·.1)) p false with
    | cons x r =>
     rw [q2] at hc3
     have eT:thrL ((cons ts).map (·.1)) p=(false,x) :: r.map (fun a=>(false,a)):=by unfold thrL; rw [q1,q2]; rfl
     rw [eT] at q
     refine ⟨_,rfl,_,.inl ⟨_,SqL.of hc3,rfl⟩,iteP rfl ?_⟩
     exact ⟨_,rfl,c3,_,_,_,rfl,rfl,SqL.of hc3,at_fst,_,rfl,b,_,_,_,rfl,rfl,SqT.of (s13 _ _ hb),at_lo (u:=false),_,_,rfl,rfl,lenOk 2,fun e he=>q e _ (s13.trans (Same.new he)) upd_same⟩
    | nil =>
     refine absurd ?_ ne
     unfold thrL
     rw [q1,q2]; rfl
def spE (en:Rk→En) (D:Rk→Prop):Sp:=fun vs H Q _=>∃ (a:Addr) (p:Rk),vs=[.ref a]∧H a=some (.tup p.vs)∧D p∧∀ e H',Same H H'→H' e=some (.tup (enV (en p)))→Q (.ref e) H'
def sp_by (P:Program) (w:World) (K:PySem.W.Frag) (mg:Str→Option Value) (base:Heap):Sp:=fun vs H Q _=>∃ (a f:Addr) (p:Rk) (t:Tr) (en:Rk→En) (D:Rk→Prop),vs=[.ref a,.ref f]∧H a=some (.tup p.vs)∧FvOk P w K mg base 6 H f (spE en D)∧Grow en D t p∧t.nd≤400∧∀ l xs H',Same H H'→H l=none→H' l=some (.lst xs)→EnsAt H' xs (ents t)→Q (.ref l) H'
theorem S_entries_by:FnScope ["sheet","entry_at","entries","waiting","piece","entry"] ["sheet","entry_at"] (defScope s_entries_by):=⟨rfl,rfl,rfl,by decide +kernel,rfl,by decide +kernel,by decide +kernel⟩
abbrev BInv (en:Rk→En) (D:Rk→Prop) (H:Hp) (a f:Addr) (t:Tr) (le lw:Addr) (m:Nat) (σ:St) (H':Hp):Prop:=∃ (xs:List V) (es:List En) (ws:List (Addr × Rk × Tr)) (x4 x5:Option V),σ=[some (.ref a),some (.ref f),some (.ref le),some (.ref lw),x4,x5]∧Same H H'∧H' le=some (.lst xs)∧EnsAt H' xs es∧H' lw=some (.lst (prefs ws))∧PsAt H' ws∧(∀ p∈ws,Grow en D p.2.2 p.2.1)∧es++flat (trs ws)=ents t∧m=cnt (trs ws)
theorem in_words (e:En):inV ((enV e).headD .non) [V.str "upright",V.str "level"]=match e with
  | .w _=>false
  | .c _ _=>true:=by
 cases e with
 | w m =>
  show (eqV (V.str "upright") (V.str "whole") || (eqV (V.str "level") (V.str "whole") || false))=false
  decide +kernel
 | c u k =>
  cases u
  ·show (eqV (V.str "upright") (V.str "level") || (eqV (V.str "level") (V.str "level") || false))=true
   decide +kernel
  ·show (eqV (V.str "upright") (V.str "upright") || (eqV (V.str "level") (V.str "upright") || false))=true
   decide +kernel
theorem ok_entries_by {f:Addr} {fd:FuncData} (F:Fun K "entries_by" "entries_by" s_entries_by f fd) (T:Txt mg tk) (D_first_piece:DefOk P w K mg base 1 "first_piece" ["piece","word","at"] sp_fst) (D_other_piece:DefOk P w K mg base 1 "other_piece" ["piece","word","at"] sp_oth):FnOk P w K mg base CX0 7 f fd ["sheet","entry_at"] (sp_by P w K mg base):=by
 have S:=S_entries_by
 refine F.ok S (fun vs H Q E h=>?_) (fun cdv A outer s H vs Q E hr h=>?_)
 ·obtain ⟨a,f,p,t,en,D,rfl,_⟩:=h; rfl
 ·obtain ⟨a,fv,p,t,en,D,rfl,ha,hfv,gr,hn,q⟩:=h
  refine ⟨_,(pss_cons (ps_set (i:=2) S.nd rfl (Or.inl rfl) (pe_lst pa_nil))
   (pss_cons (ps_set (i:=3) S.nd rfl (Or.inl rfl) (pe_lst (pa_cons (pv 0) pa_nil)))
   (pss_cons (ps_while PassesOwn.never (pt_truth (pv 3) (fun _=>rfl)) (pss_cons (ps_set (i:=4) S.nd rfl (Or.inl rfl) (pe_bm0 PySem.F.plainAttrs_list PySem.F.slot_list_pop PySem.F.type_list_pop mt_pop (pv 3)))
   (pss_cons (ps_set (i:=5) S.nd rfl (Or.inl rfl) (pe_fv (k:=6) hr (pv 1) (pa_cons (pv 4) pa_nil)))
   (pss_cons (ps_expr (pe_bm PySem.F.plainAttrs_list PySem.F.slot_list_append PySem.F.type_list_append mt_append (pv 2) (pa_cons (pv 5) pa_nil)))
   (pss_one (ps_if (pt_cmpR op_in_seq (pe_ix ix_tup (pv 5) pe_int (fun _ _=>rfl)) (pe_tup (pa_cons (pe_glob (v:=.str "upright") rfl T.g_UPRIGHT ⟨_,rfl⟩) (pa_cons (pe_glob (v:=.str "level") rfl T.g_LEVEL ⟨_,rfl⟩) pa_nil))) rfl) (pss_cons (ps_expr (pe_bm PySem.F.plainAttrs_list PySem.F.slot_list_append PySem.F.type_list_append mt_append (pv 3) (pa_cons (pe_fn D_other_piece hr (pa_cons (pv 4) (pa_cons (pe_ix ix_tup (pv 5) pe_int (fun _ _=>rfl)) (pa_cons (pe_ix ix_tup (pv 5) pe_int (fun _ _=>rfl)) pa_nil)))) pa_nil)))
   (pss_one (ps_expr (pe_bm PySem.F.plainAttrs_list PySem.F.slot_list_append PySem.F.type_list_append mt_append (pv 3) (pa_cons (pe_fn D_first_piece hr (pa_cons (pv 4) (pa_cons (pe_ix ix_tup (pv 5) pe_int (fun _ _=>rfl)) (pa_cons (pe_ix ix_tup (pv 5) pe_int (fun _ _=>rfl)) pa_nil)))) pa_nil))))) pss_nil))))))
   (pss_one (ps_ret (pv 2)))))),?_⟩
  refine ⟨lenOk 0,fun le hle=>⟨_,rfl,lenOk 1,fun lw hlw=>?_⟩⟩
  have nel:le≠lw:=ne_of_none upd_same hlw
  have s0:Same H (upd (upd H le (.lst [])) lw (.lst [.ref a])):=(Same.new hle).trans (Same.new hlw)
  have hlw0:H lw=none:=none_of (Same.new hle) hlw
  refine ⟨BInv en D H a fv t le lw,
   ⟨_,[],[],[(a,p,t)],none,none,rfl,s0,by rw [upd_ne nel]; exact upd_same,trivial,upd_same,fun r hr=>?_,fun r hr=>?_,?_,rfl⟩,?_⟩
  ·rw [List.mem_singleton.mp hr]; exact s0 _ _ ha
  ·rw [List.mem_singleton.mp hr]; exact gr
  ·show []++flat [(V.ref a,t)]=ents t
   rw [flat_cons]; rfl
  rintro m σ H' ⟨xs,es,ws,x4,x5,rfl,s1,hl,hen,hw,hps,hgr,heq,rfl⟩
  have tot:es.length+cnt (trs ws)=t.nd:=by rw [← ents_len,← heq,List.length_append,flat_len]
  rcases snoc_cases ws with rfl | ⟨ws0,r,rfl⟩
  ·refine ⟨_,rfl,_,.inl ⟨_,SqL.of hw,rfl⟩,iteN rfl ⟨_,rfl,q le xs H' s1 hle hl ?_⟩⟩
   rw [← heq]
   show EnsAt H' xs (es++[])
   rw [List.append_nil]; exact hen
  ·refine ⟨_,rfl,_,.inl ⟨_,SqL.of hw,rfl⟩,iteP (by simp) ⟨fun σ' H''=>∃ m',m' < cnt (trs (ws0++[r]))∧BInv en D H a fv t le lw m' σ' H'',fun σ' H'' z=>z,?_⟩⟩
   obtain ⟨pa,pk,pt⟩:=r
   have hp0:=hps (pa,pk,pt) (by simp)
   have hg0:=hgr (pa,pk,pt) (by simp)
   refine ⟨_,rfl,.inl ⟨rfl,_,SqL.of hw⟩,lw,_,_,rfl,rfl,hw,last_pref,?_⟩
   rw [drop_pref]
   have k2:Kp H' (upd H' lw (.lst (prefs ws0))):=Kp.put hw
   have s2:Same H (upd H' lw (.lst (prefs ws0))):=fun b o e=>by rw [upd_ne (ne_of_none e hlw0)]; exact s1 b o e
   have l2:(upd H' lw (.lst (prefs ws0))) le=some (.lst xs):=by rw [upd_ne nel]; exact hl
   have w2:(upd H' lw (.lst (prefs ws0))) lw=some (.lst (prefs ws0)):=upd_same
   generalize upd H' lw (.lst (prefs ws0))=H2 at k2 s2 l2 w2 ⊢
   have hp2:=k2 _ _ hp0 (by intro xs z; cases z)
   have ps2:PsAt H2 ws0:=fun r hr=>k2 _ _ (hps r (List.mem_append_left _ hr)) (by intro xs z; cases z)
   have gr2:∀ r∈ws0,Grow en D r.2.2 r.2.1:=fun r hr=>hgr r (List.mem_append_left _ hr)
   have hen2:=hen.kp k2
   rw [trs_snoc,flat_snoc] at heq
   rw [trs_snoc,cnt_snoc] at tot
   have hxl:=hen.len
   have np:=nd_pos pt
   have hDp:D pk:=by cases pt <;> exact hg0.1
   refine ⟨_,rfl,fv,spE en D,rfl,hfv.same s2,_,rfl,Same.refl H2,pa,pk,rfl,hp2,hDp,fun ea H3 s3 e3=>?_⟩
   have l3:=s3 _ _ l2
   refine ⟨_,rfl,.inl ⟨rfl,_,SqL.of l3⟩,_,rfl,le,xs,.ref ea,rfl,rfl,l3,small1000 (by omega),?_⟩
   have k4:Kp H3 (upd H3 le (.lst (xs++[.ref ea]))):=Kp.put l3
   have s4:Same H (upd H3 le (.lst (xs++[.ref ea]))):=fun b o e=>by rw [upd_ne (ne_of_none e hle)]; exact s3 b o (s2 b o e)
   have l4:(upd H3 le (.lst (xs++[.ref ea]))) le=some (.lst (xs++[.ref ea])):=upd_same
   have w4:(upd H3 le (.lst (xs++[.ref ea]))) lw=some (.lst (prefs ws0)):=by rw [upd_ne (Ne.symm nel)]; exact s3 _ _ w2
   have en4:EnsAt (upd H3 le (.lst (xs++[.ref ea]))) (xs++[.ref ea]) (es++[en pk]):=((hen2.kp (kp_of s3)).kp k4).snoc (k4 _ _ e3 (by intro xs z; cases z))
   have kk:=(kp_of s3).trans k4
   have e4:=k4 _ _ e3 (by intro xs z; cases z)
   generalize upd H3 le (.lst (xs++[.ref ea]))=H4 at k4 s4 l4 w4 en4 kk e4 ⊢
   have hp4:=kk _ _ hp2 (by intro xs z; cases z)
   have ps4:PsAt H4 ws0:=ps2.kp kk
   cases pt with
   | whole m =>
    have een:en pk=.w m:=hg0.2
    rw [een] at e4 en4
    refine ⟨_,rfl,ea,_,_,_,rfl,rfl,SqT.of e4,at2_0,lenOk 2,fun tt ntt=>?_⟩
    have s5:Same H4 (upd H4 tt (.tup [.str "upright",.str "level"])):=Same.new ntt
    have e5:(upd H4 tt (.tup [.str "upright",.str "level"])) tt=some (.tup [.str "upright",.str "level"]):=upd_same
    generalize upd H4 tt (.tup [.str "upright",.str "level"])=H5 at s5 e5 ⊢
    refine ⟨tt,_,rfl,.inr (SqT.of e5),rfl,rfl,_,rfl,iteN (by rw [if_neg Bool.false_ne_true]; exact in_words (.w m)) ?_⟩
    refine ⟨cnt (trs ws0),by rw [trs_snoc,cnt_snoc]; exact Nat.lt_succ_self _,_,_,ws0,_,_,rfl,s4.trans s5,s5 _ _ l4,en4.kp (kp_of s5),s5 _ _ w4,ps4.kp (kp_of s5),gr2,?_,rfl⟩
    rw [← heq,List.append_assoc]; rfl
   | cut u k y1 y2 =>
    obtain ⟨_,een,g1,g2⟩:=hg0
    have een:en pk=.c u k:=een
    rw [een] at e4 en4
    refine ⟨_,rfl,ea,_,_,_,rfl,rfl,SqT.of e4,at2_0,lenOk 2,fun tt ntt=>?_⟩
    have s5:Same H4 (upd H4 tt (.tup [.str "upright",.str "level"])):=Same.new ntt
    have e5:(upd H4 tt (.tup [.str "upright",.str "level"])) tt=some (.tup [.str "upright",.str "level"]):=upd_same
    generalize upd H4 tt (.tup [.str "upright",.str "level"])=H5 at s5 e5 ⊢
    refine ⟨tt,_,rfl,.inr (SqT.of e5),rfl,rfl,_,rfl,iteP (by rw [if_neg Bool.false_ne_true]; exact in_words (.c u k)) ?_⟩
    have e55:=s5 _ _ e4
    have w5:=s5 _ _ w4
    have hp5:=s5 _ _ hp4
    refine ⟨_,rfl,.inl ⟨rfl,_,SqL.of w5⟩,_,rfl,_,rfl,ea,_,_,_,rfl,rfl,SqT.of e55,at2_0,_,rfl,ea,_,_,_,rfl,rfl,SqT.of e55,at2_1,pa,pk,u,k,rfl,hp5,fun t6 n6=>?_⟩
    have s6:Same H5 (upd H5 t6 (.tup (pk.oth u k).vs)):=Same.new n6
    have e6:(upd H5 t6 (.tup (pk.oth u k).vs)) t6=some (.tup (pk.oth u k).vs):=upd_same
    generalize upd H5 t6 (.tup (pk.oth u k).vs)=H6 at s6 e6 ⊢
    have w6:=s6 _ _ w5
    have cl:=cnt_len (trs ws0)
    rw [List.length_map] at cl
    have ndp:(Tr.cut u k y1 y2).nd=y1.nd+y2.nd+1:=rfl
    refine ⟨lw,_,_,rfl,rfl,w6,small1000 (by rw [List.length_map]; omega),?_⟩
    have k7:Kp H6 (upd H6 lw (.lst (prefs ws0++[.ref t6]))):=Kp.put w6
    have s7:Same H (upd H6 lw (.lst (prefs ws0++[.ref t6]))):=fun b o e=>by rw [upd_ne (ne_of_none e hlw0)]; exact s6 _ _ (s5 _ _ (s4 b o e))
    have l7:(upd H6 lw (.lst (prefs ws0++[.ref t6]))) le=some (.lst (xs++[.ref ea])):=by rw [upd_ne nel]; exact s6 _ _ (s5 _ _ l4)
    have w7:(upd H6 lw (.lst (prefs ws0++[.ref t6]))) lw=some (.lst (prefs ws0++[.ref t6])):=upd_same
    have kk7:=((kp_of s5).trans (kp_of s6)).trans k7
    have e7:=k7 _ _ e6 (by intro xs z; cases z)
    generalize upd H6 lw (.lst (prefs ws0++[.ref t6]))=H7 at k7 s7 l7 w7 kk7 e7 ⊢
    have ea7:=kk7 _ _ e4 (by intro xs z; cases z)
    have hp7:=kk7 _ _ hp4 (by intro xs z; cases z)
    refine ⟨_,rfl,.inl ⟨rfl,_,SqL.of w7⟩,_,rfl,_,rfl,ea,_,_,_,rfl,rfl,SqT.of ea7,at2_0,_,rfl,ea,_,_,_,rfl,rfl,SqT.of ea7,at2_1,pa,pk,u,k,rfl,hp7,fun t8 n8=>?_⟩
    have s8:Same H7 (upd H7 t8 (.tup (pk.fst u k).vs)):=Same.new n8
    have e8:(upd H7 t8 (.tup (pk.fst u k).vs)) t8=some (.tup (pk.fst u k).vs):=upd_same
    generalize upd H7 t8 (.tup (pk.fst u k).vs)=H8 at s8 e8 ⊢
    have w8:=s8 _ _ w7
    refine ⟨lw,_,_,rfl,rfl,w8,small1000 (by rw [List.length_append,List.length_map,List.length_singleton]; omega),?_⟩
    have k9:Kp H8 (upd H8 lw (.lst (prefs ws0++[.ref t6]++[.ref t8]))):=Kp.put w8
    have kk9:=(kp_of s8).trans k9
    have kall:=kk7.trans kk9
    refine ⟨cnt (trs (ws0++[(t6,pk.oth u k,y2)]++[(t8,pk.fst u k,y1)])),?_,xs++[.ref ea],es++[.c u k],ws0++[(t6,pk.oth u k,y2)]++[(t8,pk.fst u k,y1)],_,_,rfl,fun b o e=>?_,?_,en4.kp kall,?_,fun r hr=>?_,fun r hr=>?_,?_,rfl⟩
    ·rw [trs_snoc,trs_snoc,cnt_snoc,cnt_snoc,trs_snoc,cnt_snoc]
     show cnt (trs ws0)+y2.nd+y1.nd < cnt (trs ws0)+(y1.nd+y2.nd+1)
     omega
    ·rw [upd_ne (ne_of_none e hlw0)]; exact s8 b o (s7 b o e)
    ·rw [upd_ne nel]; exact s8 _ _ l7
    ·rw [upd_same,pref_snoc,pref_snoc]
    ·rcases List.mem_append.mp hr with hr | hr
     ·rcases List.mem_append.mp hr with hr | hr
      ·exact kall _ _ (ps4 r hr) (by intro xs z; cases z)
      ·rw [List.mem_singleton.mp hr]; exact kk9 _ _ e7 (by intro xs z; cases z)
     ·rw [List.mem_singleton.mp hr]; exact k9 _ _ e8 (by intro xs z; cases z)
    ·rcases List.mem_append.mp hr with hr | hr
     ·rcases List.mem_append.mp hr with hr | hr
      ·exact gr2 r hr
      ·rw [List.mem_singleton.mp hr]; exact g2
     ·rw [List.mem_singleton.mp hr]; exact g1
    ·rw [trs_snoc,trs_snoc,flat_snoc,flat_snoc,← heq]
     show es++[.c u k]++(ents y1++(ents y2++flat (trs ws0)))=es++(.c u k :: (ents y1++ents y2)++flat (trs ws0))
     simp [List.append_assoc]
theorem EnsAt.tups {H H':Hp} (s:∀ a xs,H a=some (.tup xs)→H' a=some (.tup xs)):∀ {vs:List V} {es:List En},EnsAt H vs es→EnsAt H' vs es
 | [],[],_=>trivial
 | v :: r,e :: q,h=>⟨let ⟨a,b,c⟩:=h.1; ⟨a,b,s _ _ c⟩,EnsAt.tups s h.2⟩
 | [],_ :: _,h=>h
 | _ :: _,[],h=>h
theorem filter_take {α:Type} (p:α→Bool) {L:List α} {i:Nat} {x:α} (h:L[i]?=some x):(L.take (i+1)).filter p=(L.take i).filter p++if p x=true then [x] else []:=by
 rw [List.take_succ,h,List.filter_append]
 show _=_
 cases hx:p x with
 | true=>simp [hx]
 | false=>simp [hx]
def sp_parted:Sp:=fun vs H Q _=>∃ (l b:Addr) (ts:List PT) (p:Rk) (u:Bool) (a:Int),vs=[.ref l,.ref b,.str (wd u),.int (p.lo u+a)]∧H l=some (.lst (pcs ts))∧PcO H ts∧ts.length≤150∧H b=some (.tup p.vs) ∧
 ∀ c l1 b1 l2 b2 ts1 ts2 H',Same H H'→H' c=some (.tup [.ref l1,.ref b1,.ref l2,.ref b2])→H' l1=some (.lst (pcs ts1))→PcO H' ts1→cons ts1=((cons ts).filter fun g=>decide (g.1.lo u < p.lo u+a))→H' b1=some (.tup (p.fst u a).vs) →
  H' l2=some (.lst (pcs ts2))→PcO H' ts2→cons ts2=((cons ts).filter fun g=>decide (p.lo u+a≤g.1.lo u))→H' b2=some (.tup (p.oth u a).vs)→Q (.ref c) H'
theorem S_law_parted:FnScope ["_law_some","_law_block","_law_word","_law_line","_law_top","_law_left","_law_bottom","_law_right","_law_side","_law_first","_law_other"] ["_law_some","_law_block","_law_word","_law_line"] (defScope s__law_parted):=⟨rfl,rfl,rfl,by decide +kernel,rfl,by decide +kernel,by decide +kernel⟩
theorem ok_law_parted {f:Addr} {fd:FuncData} (F:Fun K "_law_parted" "_law_parted" s__law_parted f fd) (T:Txt mg tk):FnOk P w K mg base CX0 1 f fd ["_law_some","_law_block","_law_word","_law_line"] sp_parted:=by
 have S:=S_law_parted
 refine F.ok S (fun vs H Q E h=>?_) (fun cdv A outer s H vs Q E hr h=>?_)
 ·obtain ⟨l,b,ts,p,u,a,rfl,_⟩:=h; rfl
 ·obtain ⟨l,b,ts,p,u,a,rfl,hl,pc,hn,hb,q⟩:=h
  refine ⟨_,(pss_cons (ps_asg (pv 1) (pg_tup rfl (pgs_cons (pg_name (i:=4) S.nd rfl (Or.inl rfl)) (pgs_cons (pg_name (i:=5) S.nd rfl (Or.inl rfl)) (pgs_cons (pg_name (i:=6) S.nd rfl (Or.inl rfl)) (pgs_cons (pg_name (i:=7) S.nd rfl (Or.inl rfl)) pgs_nil))))))
   (pss_cons (ps_set (i:=8) S.nd rfl (Or.inr rfl) (pe_callTy call_int1 rfl T.z_int rfl (pa_cons (pe_cmpR op_eq (pv 2) pe_str (nomark _)) pa_nil)))
   (pss_cons (ps_setCompF rfl (pg_name (i:=9) S.nd rfl (Or.inl rfl)) (pi_list (pv 0)) (fun _ _ _ _ _=>(pg_tupK (K:=K) (n:=2) rfl (pgs_cons (pg_name (i:=0) (show List.Nodup (["_law_one","_law_mark","_law_line","_law_side"]:List Str) from by decide +kernel) rfl (Or.inl rfl)) (pgs_cons (pg_name (i:=1) (show List.Nodup (["_law_one","_law_mark","_law_line","_law_side"]:List Str) from by decide +kernel) rfl (Or.inl rfl)) pgs_nil)))) (fun _ _ _ _ _=>(pt_cmpR op_lt (pe_ix (ix_tupK (K:=K)) (pv 0) (pv 3) (fun _ _=>rfl)) (pv 2) (nomark _))) (fun _ _ _ _ _=>(pe_tup (pa_cons (pv 0) (pa_cons (pv 1) pa_nil)))) (N:=["_law_one","_law_mark","_law_line","_law_side"]) (fr:=[none,none,some 3,some 8]))
   (pss_cons (ps_setCompF rfl (pg_name (i:=10) S.nd rfl (Or.inl rfl)) (pi_list (pv 0)) (fun _ _ _ _ _=>(pg_tupK (K:=K) (n:=2) rfl (pgs_cons (pg_name (i:=0) (show List.Nodup (["_law_one","_law_mark","_law_line","_law_side"]:List Str) from by decide +kernel) rfl (Or.inl rfl)) (pgs_cons (pg_name (i:=1) (show List.Nodup (["_law_one","_law_mark","_law_line","_law_side"]:List Str) from by decide +kernel) rfl (Or.inl rfl)) pgs_nil)))) (fun _ _ _ _ _=>(pt_cmpR op_ge (pe_ix (ix_tupK (K:=K)) (pv 0) (pv 3) (fun _ _=>rfl)) (pv 2) (nomark _))) (fun _ _ _ _ _=>(pe_tup (pa_cons (pv 0) (pa_cons (pv 1) pa_nil)))) (N:=["_law_one","_law_mark","_law_line","_law_side"]) (fr:=[none,none,some 3,some 8]))
   (pss_cons (ps_if (pt_cmpR op_eq (pv 8) pe_int (nomark _)) (pss_one (ps_ret (pe_tup (pa_cons (pv 9) (pa_cons (pe_tup (pa_cons (pv 4) (pa_cons (pv 5) (pa_cons (pv 6) (pa_cons (pv 3) pa_nil))))) (pa_cons (pv 10) (pa_cons (pe_tup (pa_cons (pv 4) (pa_cons (pv 3) (pa_cons (pv 6) (pa_cons (pv 7) pa_nil))))) pa_nil))))))) pss_nil)
   (pss_one (ps_ret (pe_tup (pa_cons (pv 9) (pa_cons (pe_tup (pa_cons (pv 4) (pa_cons (pv 5) (pa_cons (pv 3) (pa_cons (pv 7) pa_nil))))) (pa_cons (pv 10) (pa_cons (pe_tup (pa_cons (pv 3) (pa_cons (pv 5) (pa_cons (pv 6) (pa_cons (pv 7) pa_nil))))) pa_nil)))))))))))),?_⟩
  refine ⟨_,rfl,b,_,rfl,SqT.of hb,rfl,_,_,rfl,_,_,rfl,_,_,rfl,_,_,rfl,rfl,?_⟩
  refine ⟨_,rfl,rfl,.inr ⟨_,rfl,?_⟩⟩
  have hsd:(if decide (V.str (wd u)=V.str "upright")=true then (1:Int) else 0)=sd u:=by rw [wd_eq]; rfl
  rw [hsd]
  have sz:(pcs ts).length≤sizeLine:=Nat.le_of_lt (small1000 (by rw [List.length_map]; omega))
  generalize ea:p.lo u+a=ln at q ⊢
  refine ⟨_,rfl,l,rfl,⟨_,SqL.of hl⟩,fun acc hacc=>comp_listF (K:=K) (a:=l) (ys:=pcs ts) (fun i zs σ H'=>(∃ y z,σ=[y,z,some (.int ln),some (.int (sd u))])∧Same H H'∧∃ us:List PT,zs=pcs us∧PcO H' us∧cons us=((cons ts).take i).filter fun g=>decide (g.1.lo u < ln)) ⟨⟨none,none,rfl⟩,Same.new hacc,[],rfl,(fun t ht=>nomatch ht),rfl⟩ (fun i zs σ H' _ _ hp=>SqL.of (hp.2.1 _ _ hl)) ?_ ?_⟩
  ·rintro i x zs σ H' hx hi hl' hacc' ⟨⟨y,z,rfl⟩,hs,us,rfl,pu,eu⟩
   obtain ⟨t,ht,rfl⟩:=pcs_get hx
   obtain ⟨g1,g2⟩:=(pc.same hs) t (List.mem_of_getElem? ht)
   have ft:=filter_take (fun g:Rk × Option Int=>decide (g.1.lo u < ln)) (L:=cons ts) (i:=i) (x:=t.2.2) (by rw [List.getElem?_map,ht]; rfl)
   refine ⟨t.1,_,rfl,SqT.of g1,rfl,_,_,rfl,_,_,rfl,rfl,_,rfl,_,rfl,t.2.1,_,_,_,rfl,rfl,SqT.of g2,at_lo,_,rfl,_,_,rfl,rfl,_,rfl,?_⟩
   cases h3:decide (t.2.2.1.lo u < ln) with
   | true =>
    refine ⟨_,rfl,_,rfl,lenOk 2,fun n hn'=>?_⟩
    have s2:Same H' (upd H' n (.tup [.ref t.2.1,markV t.2.2.2])):=Same.new hn'
    have e2:(upd H' n (.tup [.ref t.2.1,markV t.2.2.2])) n=some (.tup [.ref t.2.1,markV t.2.2.2]):=upd_same
    generalize upd H' n (.tup [.ref t.2.1,markV t.2.2.2])=H2 at s2 e2 ⊢
    have a2:=s2 _ _ hacc'
    refine fNx.mk sz hi hl' a2 ⟨⟨_,_,rfl⟩,fun d o e=>by rw [upd_ne (ne_of_none e hacc)]; exact s2 _ _ (hs d o e),us++[(n,t.2)],(pcs_snoc us (n,t.2)).symm,?_,?_⟩
    ·intro r hr
     rcases List.mem_append.mp hr with hr | hr
     ·exact (pu.same s2).kp (Kp.put a2) r hr
     ·rw [List.mem_singleton.mp hr]
      exact ⟨Kp.put a2 _ _ e2 (by intro xs z; cases z),Kp.put a2 _ _ (s2 _ _ g2) (by intro xs z; cases z)⟩
    ·rw [cons_snoc,eu,ft,h3,if_pos rfl]
   | false=>exact fSk.mk hi hl' hacc' ⟨⟨_,_,rfl⟩,hs,us,rfl,pu,by rw [eu,ft,h3,if_neg Bool.false_ne_true,List.append_nil]⟩
  rintro zs σ H1 hzl ac1 ⟨_,s1,us1,rfl,pu1,eu1⟩
  rw [List.length_map,← List.length_map (f:=fun t:PT=>t.2.2),List.take_length] at eu1
  refine ⟨_,rfl,l,rfl,⟨_,SqL.of (s1 _ _ hl)⟩,fun acc2 hacc2=>comp_listF (K:=K) (a:=l) (ys:=pcs ts) (fun i zs σ H'=>(∃ y z,σ=[y,z,some (.int ln),some (.int (sd u))])∧Same H1 H'∧∃ us:List PT,zs=pcs us∧PcO H' us∧cons us=((cons ts).take i).filter fun g=>decide (ln≤g.1.lo u)) ⟨⟨none,none,rfl⟩,Same.new hacc2,[],rfl,(fun t ht=>nomatch ht),rfl⟩ (fun i zs σ H' _ _ hp=>SqL.of ((s1.trans hp.2.1) _ _ hl)) ?_ ?_⟩
  ·rintro i x zs σ H' hx hi hl' hacc' ⟨⟨y,z,rfl⟩,hs,us,rfl,pu,eu⟩
   obtain ⟨t,ht,rfl⟩:=pcs_get hx
   obtain ⟨g1,g2⟩:=(pc.same (s1.trans hs)) t (List.mem_of_getElem? ht)
   have ft:=filter_take (fun g:Rk × Option Int=>decide (ln≤g.1.lo u)) (L:=cons ts) (i:=i) (x:=t.2.2) (by rw [List.getElem?_map,ht]; rfl)
   refine ⟨t.1,_,rfl,SqT.of g1,rfl,_,_,rfl,_,_,rfl,rfl,_,rfl,_,rfl,t.2.1,_,_,_,rfl,rfl,SqT.of g2,at_lo,_,rfl,_,_,rfl,rfl,_,rfl,?_⟩
   show match decide (ln≤t.2.2.1.lo u) with | true=>_ | false=>_
   cases h3:decide (ln≤t.2.2.1.lo u) with
   | true =>
    refine ⟨_,rfl,_,rfl,lenOk 2,fun n hn'=>?_⟩
    have s2:Same H' (upd H' n (.tup [.ref t.2.1,markV t.2.2.2])):=Same.new hn'
    have e2:(upd H' n (.tup [.ref t.2.1,markV t.2.2.2])) n=some (.tup [.ref t.2.1,markV t.2.2.2]):=upd_same
    generalize upd H' n (.tup [.ref t.2.1,markV t.2.2.2])=H2 at s2 e2 ⊢
    have a2:=s2 _ _ hacc'
    refine fNx.mk sz hi hl' a2 ⟨⟨_,_,rfl⟩,fun d o e=>by rw [upd_ne (ne_of_none e hacc2)]; exact s2 _ _ (hs d o e),us++[(n,t.2)],(pcs_snoc us (n,t.2)).symm,?_,?_⟩
    ·intro r hr
     rcases List.mem_append.mp hr with hr | hr
     ·exact (pu.same s2).kp (Kp.put a2) r hr
     ·rw [List.mem_singleton.mp hr]
      exact ⟨Kp.put a2 _ _ e2 (by intro xs z; cases z),Kp.put a2 _ _ (s2 _ _ g2) (by intro xs z; cases z)⟩
    ·rw [cons_snoc,eu,ft,h3,if_pos rfl]
   | false=>exact fSk.mk hi hl' hacc' ⟨⟨_,_,rfl⟩,hs,us,rfl,pu,by rw [eu,ft,h3,if_neg Bool.false_ne_true,List.append_nil]⟩
  rintro zs σ H2 hzl2 ac2 ⟨_,s2,us2,rfl,pu2,eu2⟩
  rw [List.length_map,← List.length_map (f:=fun t:PT=>t.2.2),List.take_length] at eu2
  have s12:=s1.trans s2
  refine ⟨_,rfl,rfl,_,rfl,?_⟩
  cases u with
  | true =>
   refine iteP (by decide) ⟨_,rfl,_,rfl,_,rfl,_,rfl,_,rfl,lenOk 4,fun b1 n1=>?_⟩
   have s3:Same H2 (upd H2 b1 (.tup [.int p.t,.int p.l,.int p.b,.int ln])):=Same.new n1
   have e3:(upd H2 b1 (.tup [.int p.t,.int p.l,.int p.b,.int ln])) b1=some (.tup [.int p.t,.int p.l,.int p.b,.int ln]):=upd_same
   generalize upd H2 b1 (.tup [.int p.t,.int p.l,.int p.b,.int ln])=H3 at s3 e3 ⊢
   refine ⟨_,rfl,_,rfl,_,rfl,_,rfl,_,rfl,lenOk 4,fun b2 n2=>?_⟩
   have s4:Same H3 (upd H3 b2 (.tup [.int p.t,.int ln,.int p.b,.int p.r])):=Same.new n2
   have e4:(upd H3 b2 (.tup [.int p.t,.int ln,.int p.b,.int p.r])) b2=some (.tup [.int p.t,.int ln,.int p.b,.int p.r]):=upd_same
   generalize upd H3 b2 (.tup [.int p.t,.int ln,.int p.b,.int p.r])=H4 at s4 e4 ⊢
   refine ⟨lenOk 4,fun c n5=>?_⟩
   have s5:Same H4 (upd H4 c (.tup [.ref acc,.ref b1,.ref acc2,.ref b2])):=Same.new n5
   have s25:=(s3.trans s4).trans s5
   subst ea
   exact q c acc b1 acc2 b2 us1 us2 _ (s12.trans s25) upd_same (s25 _ _ (s2 _ _ ac1)) ((pu1.same s2).same s25) eu1 ((s4.trans s5) _ _ e3) (s25 _ _ ac2) (pu2.same s25) eu2 (s5 _ _ e4)
  | false =>
   refine iteN (by decide) ⟨_,rfl,_,rfl,_,rfl,_,rfl,_,rfl,lenOk 4,fun b1 n1=>?_⟩
   have s3:Same H2 (upd H2 b1 (.tup [.int p.t,.int p.l,.int ln,.int p.r])):=Same.new n1
   have e3:(upd H2 b1 (.tup [.int p.t,.int p.l,.int ln,.int p.r])) b1=some (.tup [.int p.t,.int p.l,.int ln,.int p.r]):=upd_same
   generalize upd H2 b1 (.tup [.int p.t,.int p.l,.int ln,.int p.r])=H3 at s3 e3 ⊢
   refine ⟨_,rfl,_,rfl,_,rfl,_,rfl,_,rfl,lenOk 4,fun b2 n2=>?_⟩
   have s4:Same H3 (upd H3 b2 (.tup [.int ln,.int p.l,.int p.b,.int p.r])):=Same.new n2
   have e4:(upd H3 b2 (.tup [.int ln,.int p.l,.int p.b,.int p.r])) b2=some (.tup [.int ln,.int p.l,.int p.b,.int p.r]):=upd_same
   generalize upd H3 b2 (.tup [.int ln,.int p.l,.int p.b,.int p.r])=H4 at s4 e4 ⊢
   refine ⟨lenOk 4,fun c n5=>?_⟩
   have s5:Same H4 (upd H4 c (.tup [.ref acc,.ref b1,.ref acc2,.ref b2])):=Same.new n5
   have s25:=(s3.trans s4).trans s5
   subst ea
   exact q c acc b1 acc2 b2 us1 us2 _ (s12.trans s25) upd_same (s25 _ _ (s2 _ _ ac1)) ((pu1.same s2).same s25) eu1 ((s4.trans s5) _ _ e3) (s25 _ _ ac2) (pu2.same s25) eu2 (s5 _ _ e4)
def lamE3:Expr:=match (defBody s_cut_up).getD 0 (.Pass ⟨0,0,0,0⟩) with
 | .Return (some (.Call _ [_,k] _ _)) _=>k
 | _=>.Constant .none 0 ⟨0,0,0,0⟩
def lamP3:Arguments:=match lamE3 with | .Lambda p _ _ _=>p | _=>defArgs s_cut_up
def lamB3:Expr:=match lamE3 with | .Lambda _ b _ _=>b | e=>e
def lamS3:Scope:=match lamE3 with | .Lambda _ _ s _=>s | _=>defScope s_cut_up
def lamQ3:Pos:=match lamE3 with | .Lambda _ _ _ q=>q | _=>⟨0,0,0,0⟩
def lamN3:Str:="cut_up.<locals>.<lambda>"
theorem S_lam3:LamScopeC "block" ["some"] lamS3:=⟨rfl,rfl,rfl,rfl,fun _ _=>rfl,fun _=>rfl,fun y hy=>(by decide +kernel:∀ p∈lamS3.names,p.2=.cell→p.1=("block":Str)) _ (PySem.mem_of_lookup hy) rfl,fun y hy=>(by decide +kernel:∀ p∈lamS3.names,p.2=.free→p.1∈(["some"]:List Str)) _ (PySem.mem_of_lookup hy) rfl,by decide +kernel⟩
abbrev clos3 (L:Nat):List (Str × Addr):=[("some",L+1)]
def sp_cutup (tb3:Addr):Sp:=fun vs H Q _=>∃ (a l:Addr) (p:Rk) (ts:List PT) (t:Tr),vs=[.ref a,.ref l]∧H a=some (.tup p.vs)∧H l=some (.lst (pcs ts))∧PcO H ts∧ts.length≤150∧p.ok∧(∀ u,0≤p.lo u∧p.hi u≤12)∧FitR p t∧(cons ts).Perm (gath t p)∧TabOk lamQ3 lamN3 tb3 H ∧
 ∀ le xs F H',SameX tb3 H H'→TabOk lamQ3 lamN3 tb3 H'→H' le=some (.lst xs)→EnsAt H' xs (ents F)→F.nd≤400→FitR p F→IsF F (cons ts) p→(gath F p).Perm (cons ts)→Q (.ref le) H'
theorem S_cut_up:FnScope ["sheet","some"] ["sheet","some"] (defScope s_cut_up):=⟨rfl,rfl,rfl,by decide +kernel,rfl,by decide +kernel,by decide +kernel⟩
theorem inP_all {L:List (Rk × Option Int)} {p:Rk} (h:∀ g∈L,Ins g.1 p):inP L p=L:=List.filter_eq_self.mpr fun g hg=>decide_eq_true (h g hg)
theorem pcs_filter_take {ts:List PT} {i:Nat} {t:PT} (q:PT→Bool) (h:ts[i]?=some t):pcs ((ts.take (i+1)).filter q)=pcs ((ts.take i).filter q)++if q t=true then [.ref t.1] else []:=by
 rw [filter_take q h]
 show List.map _ _=_
 rw [List.map_append]
 split <;> rfl
theorem ok_cut_up {f:Addr} {fd:FuncData} {c tb3:Addr} (F:FunC K "cut_up" "cut_up" s_cut_up f fd c) (hC:codeTB K c tb3=true) (hB:BmIn K mg) (D_inside:DefOk P w K mg base 1 "inside" ["one","other"] sp_inside) (D_entry_for:DefOk P w K mg base 4 "entry_for" ["block","some"] sp_entfor) (D_entries_by:DefOk P w K mg base 7 "entries_by" ["sheet","entry_at"] (sp_by P w K mg base)) :
  FnOk P w K mg base CX0 8 f fd ["sheet","some"] (sp_cutup tb3):=by
 have S:=S_cut_up
 refine F.ok S (fun vs H Q E h=>?_) (fun A outer s H vs Q E hr h=>?_)
 ·obtain ⟨a,l,p,ts,t,rfl,_⟩:=h; rfl
 ·obtain ⟨a,l,p,ts,t,rfl,ha,hl,pc,few,pk,pb,fit,pm,tb,q⟩:=h
  have hlam:=pe_lam (X:=(cxOf CX0 P w K mg base ["sheet","some"] "cut_up" (defScope s_cut_up) f (.ref c) A outer s H E).nox) (params:=lamP3) (body:=lamB3) (scope:=lamS3) (pos:=lamQ3) (qual:=lamN3) (clos:=clos3 s.heap.objs.size) rfl (codeTB_of hC) hB rfl rfl rfl
  have hcl:∀ p∈clos3 s.heap.objs.size,(cxOf CX0 P w K mg base ["sheet","some"] "cut_up" (defScope s_cut_up) f (.ref c) A outer s H E).nox.env.cells.lookup p.1=some p.2∧(cxOf CX0 P w K mg base ["sheet","some"] "cut_up" (defScope s_cut_up) f (.ref c) A outer s H E).nox.env.kindOf p.1=some .cell:=fun p hp=>by
   rw [List.mem_singleton.mp hp]; exact ⟨rfl,rfl⟩
  refine ⟨_,(pss_one (ps_ret (pe_fnC (clos:=clos3 s.heap.objs.size) D_entries_by hr (pa_cons (pv 0) (pa_cons hlam pa_nil)) hcl (fun _=>rfl) rfl))),?_⟩
  have inn:∀ g∈cons ts,∀ u,p.lo u≤g.1.lo u∧g.1.lo u < g.1.hi u∧g.1.hi u≤p.hi u:=fun g hg u=>gath_lohi pk fit (pm.mem_iff.mp hg) u
  have all:inP (cons ts) p=cons ts:=inP_all fun g hg=>ins_iff.mpr fun u=>⟨(inn g hg u).1,(inn g hg u).2.2⟩
  obtain ⟨G,gr,gfit,isf,gpm⟩:=grow_form (L:=cons ts) (fun g hg v=>(inn g hg v).2.1) _ p rfl ⟨pk,pb,t,fit,by rw [all]; exact pm⟩
  rw [all] at isf gpm
  have Gnd:G.nd≤400:=by
   have w1:1≤p.r - p.l:=by have:=pk.2; omega
   have h1:1≤p.b - p.t:=by have:=pk.1; omega
   have z1:=fit_sz w1 h1 gfit
   have b1:=pb true
   have b2:=pb false
   have z2:(p.r - p.l) * (p.b - p.t)≤12 * 12:=Int.mul_le_mul (by have:0≤p.l:=b1.1; have:p.r≤12:=b1.2; omega) (by have:0≤p.t:=b2.1; have:p.b≤12:=b2.2; omega) (by omega) (by omega)
   have z3:=nd_sz G
   omega
  have tbl:=tb.tbl
  refine ⟨_,rfl,TabOk.lamC tb fun c' fl ctv H1 s1 tab1 hf hc hnew=>?_⟩
  have ne1:∀ {x:Addr} {u:HO},H x=some u→(∀ ps,u≠.tbl ps)→x≠tb3:=fun {x u} e n z=>by obtain ⟨ps,e'⟩:=tbl; rw [z,e'] at e; cases e; exact n _ rfl
  intro Lc CA
  have tup1:∀ {x:Addr} {xs:List V},H x=some (.tup xs)→H1 x=some (.tup xs):=fun e=>s1 _ _ (ne1 e (by intro ps z; cases z)) e
  have hl1:H1 l=some (.lst (pcs ts)):=s1 _ _ (ne1 hl (by intro ps z; cases z)) hl
  have up:∀ {x:Addr} {u:HO},H1 x=some u→(tkd H1 Lc) x=some u:=fun e=>by rw [tkd_out (out_of CA.new e)]; exact e
  have fv:=fv_lamX (P:=P) (w:=w) (K:=K) (mg:=mg) (base:=base) (k:=5) (H:=tkd H1 Lc) (f:=fl) (c':=c') (params:=lamP3) (body:=lamB3) (scope:=lamS3) (qual:=lamN3) (pn:="block") (ctv:=ctv) (fs:=["some"]) (clos:=clos3 s.heap.objs.size) (cv:=[.ref l]) (L:=Lc)
   (sp:=spE (fun p=>enL (inP (cons ts) p) p) (DF (cons ts)))
   (up hf) (up hc) S_lam3 rfl (fun y=>?_) (fun x y cc h1 h2=>?_) (fun a o e=>tkd_in e) CA.has (fun p hp i v hi hv=>?_) (fun _ _=>.of_eq rfl) (fun vs H' Q' E' hsp=>by obtain ⟨a',p',rfl,_⟩:=hsp; exact ⟨_,rfl⟩)
   (fun A' outer' s' H' E' v Q' sm' hr' hsp=>?_)
  ·refine ⟨a,fl,p,G,_,_,rfl,up (tup1 ha),fv,gr,Gnd,fun le xs H2 s2 nl hle hens=>?_⟩
   obtain ⟨sU,hk⟩:=same_utk CA.new s2
   exact ⟨hk,q le xs G _ (s1.trans sU.x) (tab1.same sU) (utk_at hk hle (by intro o z; cases z)) (hens.tups (fun a xs e=>utk_at hk e (by intro o z; cases z))) Gnd gfit isf gpm⟩
  ·constructor
   ·rintro ⟨cc,h⟩
    have:=PySem.mem_of_lookup h
    cases List.mem_singleton.mp this; simp
   ·intro hy
    rw [List.mem_singleton.mp hy]; exact ⟨_,rfl⟩
  ·have m1:=List.mem_singleton.mp (PySem.mem_of_lookup h1)
   have m2:=List.mem_singleton.mp (PySem.mem_of_lookup h2)
   exact (congrArg Prod.fst m1).trans (congrArg Prod.fst m2).symm
  ·have hp':=List.mem_singleton.mp hp
   subst hp'
   match i,hi with
   | 0,_ =>
    cases hv
    exact CA.val _ hp 1 _ rfl rfl
  ·obtain ⟨a',p',ev,ha',⟨ok',bd',t',fit',pm'⟩,q'⟩:=hsp
   cases ev
   refine ⟨_,(pe_fn D_entry_for hr' (pa_cons (pv 0) (pa_cons (pe_compF rfl (pi_list (pv 1)) (fun _ _ _ _ _=>(pg_name (i:=0) (show List.Nodup (["piece","block"]:List Str) from by decide +kernel) rfl (Or.inl rfl))) (fun _ _ _ _ _=>(pt_val (pe_fn D_inside hr' (pa_cons (pe_ix (ix_tupK (K:=K)) (pv 0) pe_int (fun _ _=>rfl)) (pa_cons (pv 1) pa_nil))))) (fun _ _ _ _ _=>(pv 0)) (N:=["piece","block"]) (fr:=[none,some 0])) pa_nil))),?_⟩
   have hL':∀ a o,Lc.lookup a=some o→H' a=some (ObjO a o):=fun a o e=>sm' _ _ (tkd_in e)
   have kp:∀ {x:Addr} {u:HO},H1 x=some u→(∀ o,u≠ObjO x o)→(utk H' Lc) x=some u:=fun e n=>utk_at hL' (sm' _ _ (up e)) n
   have hau:=utk_at hL' ha' (by intro o z; cases z)
   have hlu:=kp hl1 (by intro o z; cases z)
   have pcu:PcO (utk H' Lc) ts:=fun x hx=>⟨kp (tup1 (pc x hx).1) (by intro o z; cases z),kp (tup1 (pc x hx).2) (by intro o z; cases z)⟩
   have sm2:∀ {H2:Hp},Same (utk H' Lc) H2→Same H' (tkd H2 Lc):=fun {H2} s3 x o e=>by
    cases q:Lc.lookup x with
    | some o'=>rw [hL' x o' q] at e; cases e; exact tkd_in q
    | none=>rw [tkd_out q]; exact s3 _ _ (by rw [utk_out q]; exact e)
   refine ⟨_,rfl,_,rfl,l,rfl,⟨_,SqL.of hlu⟩,fun acc hacc=>comp_listF (K:=K) (a:=l) (ys:=pcs ts) (fun i zs σ H2=>(∃ y,σ=[y,some (.ref a')])∧Same (utk H' Lc) H2∧zs=pcs ((ts.take i).filter fun t=>decide (Ins t.2.2.1 p'))) ⟨⟨none,rfl⟩,Same.new hacc,rfl⟩ (fun i zs σ H2 _ _ hp=>SqL.of (hp.2.1 _ _ hlu)) ?_ ?_⟩
   ·rintro i x zs σ H2 hx hi hl' hacc' ⟨⟨y,rfl⟩,hs,rfl⟩
    obtain ⟨z,hz,rfl⟩:=pcs_get hx
    obtain ⟨g1,g2⟩:=(pcu.same hs) z (List.mem_of_getElem? hz)
    have ft:=pcs_filter_take (fun t:PT=>decide (Ins t.2.2.1 p')) hz
    refine ⟨_,rfl,z.1,_,_,_,rfl,rfl,SqT.of g1,at2_0,_,rfl,z.2.1,a',z.2.2.1,p',rfl,g2,hs _ _ hau,_,rfl,?_⟩
    cases h3:decide (Ins z.2.2.1 p') with
    | true =>
     refine ⟨_,rfl,fNx.mk (Nat.le_of_lt (small1000 (by rw [List.length_map]; omega))) hi hl' hacc' ⟨⟨_,rfl⟩,fun c o e=>by rw [upd_ne (ne_of_none e hacc)]; exact hs c o e,?_⟩⟩
     rw [ft,h3,if_pos rfl]
    | false=>exact fSk.mk hi hl' hacc' ⟨⟨_,rfl⟩,hs,by rw [ft,h3,if_neg Bool.false_ne_true,List.append_nil]⟩
   rintro zs σ H2 hzl ac2 ⟨_,s2,rfl⟩
   rw [List.length_map,List.take_length] at ac2
   have ec:cons (ts.filter fun t=>decide (Ins t.2.2.1 p'))=inP (cons ts) p':=by
    unfold inP
    show List.map _ _=List.filter _ (List.map _ ts)
    rw [List.filter_map]; rfl
   have fl:(ts.filter fun t=>decide (Ins t.2.2.1 p')).length≤ts.length:=List.length_filter_le _ _
   refine ⟨a',acc,p',ts.filter fun t=>decide (Ins t.2.2.1 p'),t',rfl,s2 _ _ hau,ac2,fun x hx=>(pcu.same s2) x (List.mem_filter.mp hx).1,by omega,ok',bd',fit',by rw [ec]; exact pm',fun e H3 s3 e3 hno=>?_⟩
   rw [ec] at e3
   refine q' e _ (sm2 (s2.trans s3)) ?_
   cases qo:Lc.lookup e with
   | some o=>rw [hno e o qo] at e3; cases e3
   | none=>rw [tkd_out qo]; exact e3
def sp_form (tb tb3 cW cU cL:Addr):Sp:=fun vs H Q _=>∃ (v:V) (t:Tr) (ww hh:Int),vs=[v,.int ww,.int hh]∧Obj cW cU cL H t v∧t.nd≤400∧TabOk lamQ lamN tb H∧TabOk lamQ3 lamN3 tb3 H∧1≤ww∧ww≤12∧1≤hh∧hh≤12∧Fit t ww hh ∧
 ∀ v' F L H',SameN H H'→TabOk lamQ lamN tb H'→TabOk lamQ3 lamN3 tb3 H'→Due t ww hh L→Obj cW cU cL H' F v'→Fit F ww hh→IsF F L ⟨0,0,hh,ww⟩→(gath F ⟨0,0,hh,ww⟩).Perm L→Q v' H'
theorem S_form:FnScope ["tree","width","height"] ["tree","width","height"] (defScope s_form):=⟨rfl,rfl,rfl,by decide +kernel,rfl,by decide +kernel,by decide +kernel⟩
theorem bd0 {ww hh:Int} (w2:ww≤12) (h2:hh≤12):∀ u,0≤Rk.lo ⟨0,0,hh,ww⟩ u∧Rk.hi ⟨0,0,hh,ww⟩ u≤12:=fun u=>by
 cases u
 ·exact ⟨Int.le_refl _,h2⟩
 ·exact ⟨Int.le_refl _,w2⟩
theorem ok0 {ww hh:Int} (w1:1≤ww) (h1:1≤hh):Rk.ok ⟨0,0,hh,ww⟩:=⟨show (0:Int) < hh by omega,show (0:Int) < ww by omega⟩
theorem fit0' {t:Tr} {ww hh:Int} (f:FitR ⟨0,0,hh,ww⟩ t):Fit t ww hh:=by
 have f:Fit t (ww - 0) (hh - 0):=f
 rw [Int.sub_zero,Int.sub_zero] at f; exact f
theorem fit_small {t:Tr} {ww hh:Int} (w1:1≤ww) (w2:ww≤12) (h1:1≤hh) (h2:hh≤12) (f:Fit t ww hh):t.sz≤144∧t.nd≤400∧t.dp < 24:=by
 have d:=fit_dp w1 h1 f
 have z:=fit_sz w1 h1 f
 have z3:ww * hh≤12 * 12:=Int.mul_le_mul w2 h2 (by omega) (by omega)
 have n:=nd_sz t
 exact ⟨by omega,by omega,by omega⟩
theorem ok_form {f tb tb3:Addr} {fd:FuncData} (F:Fun K "form" "form" s_form f fd) (hne:tb≠tb3) (D_pieces:DefOk P w K mg base 5 "pieces" ["tree","width","height"] (sp_pieces tb cW cU cL)) (D_cut_up:DefOk P w K mg base 8 "cut_up" ["sheet","some"] (sp_cutup tb3)) (D_tree_from:DefOk P w K mg base 4 "tree_from" ["entries"] (sp_from K cW cU cL)):FnOk P w K mg base CX0 9 f fd ["tree","width","height"] (sp_form tb tb3 cW cU cL):=by
 have S:=S_form
 refine F.ok S (fun vs H Q E h=>?_) (fun cdv A outer s H vs Q E hr h=>?_)
 ·obtain ⟨v,t,ww,hh,rfl,_⟩:=h; rfl
 ·obtain ⟨v,t,ww,hh,rfl,ho,hn,tab,tab3,w1,w2,h1,h2,fit,q⟩:=h
  refine ⟨_,(pss_one (ps_ret (pe_fn D_tree_from hr (pa_cons (pe_fn D_cut_up hr (pa_cons (pe_tup (pa_cons pe_int (pa_cons pe_int (pa_cons (pv 2) (pa_cons (pv 1) pa_nil))))) (pa_cons (pe_fn D_pieces hr (pa_cons (pv 0) (pa_cons (pv 1) (pa_cons (pv 2) pa_nil)))) pa_nil))) pa_nil)))),?_⟩
  refine ⟨_,rfl,_,rfl,lenOk 4,fun a na=>?_⟩
  have s0:Same H (upd H a (.tup [.int 0,.int 0,.int hh,.int ww])):=Same.new na
  have e0:(upd H a (.tup [.int 0,.int 0,.int hh,.int ww])) a=some (.tup [.int 0,.int 0,.int hh,.int ww]):=upd_same
  generalize upd H a (.tup [.int 0,.int 0,.int hh,.int ww])=H0 at s0 e0 ⊢
  refine ⟨_,rfl,_,rfl,_,rfl,v,t,ww,hh,rfl,ho.same s0,hn,tab.same s0,w1,w2,h1,h2,fit,fun l ts H1 s1 tab1 nl hl pc du=>?_⟩
  have tb0:=(tab.same s0).tbl
  have sN1:=s1.toN tb0
  have t31:=(tab3.same s0).tb s1 (Ne.symm hne) tb0
  have dul:=du.len
  rw [List.length_map] at dul
  obtain ⟨z1,_,_⟩:=fit_small w1 w2 h1 h2 fit
  refine ⟨a,l,⟨0,0,hh,ww⟩,ts,t,rfl,sN1.tup e0,hl,pc,by omega,ok0 w1 h1,bd0 w2 h2,fit0 fit,du.1,t31,fun le xs G H2 s2 t32 hle hens gnd gfit isf gpm=>?_⟩
  refine ⟨le,xs,G,rfl,SqL.of hle,hens,gnd,fun v' H3 s3 ob=>?_⟩
  have sN:=(s0.n.trans sN1).trans ((s2.toN t31.tbl).trans s3.n)
  exact q v' G (cons ts) H3 sN ((tab1.tb s2 hne t31.tbl).same s3) (t32.same s3) du ob (fit0' gfit) isf gpm
def sp_alike (tb cW cU cL:Addr):Sp:=fun vs H Q _=>∃ (v v2:V) (t s:Tr) (ww hh:Int),vs=[v,v2,.int ww,.int hh]∧Obj cW cU cL H t v∧Obj cW cU cL H s v2∧TabOk lamQ lamN tb H∧1≤ww∧ww≤12∧1≤hh∧hh≤12∧Fit t ww hh∧Fit s ww hh ∧
 ∀ b H',SameX tb H H'→TabOk lamQ lamN tb H'→(b=true↔(gath t ⟨0,0,hh,ww⟩).Perm (gath s ⟨0,0,hh,ww⟩))→Q (.bl b) H'
theorem S_alike:FnScope ["tree","other","width","height"] ["tree","other","width","height"] (defScope s_alike):=⟨rfl,rfl,rfl,by decide +kernel,rfl,by decide +kernel,by decide +kernel⟩
theorem due_iff {t s:Tr} {ww hh:Int} (w1:1≤ww) (w2:ww≤12) (h1:1≤hh) (h2:hh≤12) (f:Fit t ww hh) {L M:List (Rk × Option Int)} (a:Due t ww hh L) (b:Due s ww hh M):L=M↔(gath t ⟨0,0,hh,ww⟩).Perm (gath s ⟨0,0,hh,ww⟩) :=
 ⟨fun e=>a.1.symm.trans (e ▸ b.1),fun pm=>due_same w1 w2 h1 h2 f a ⟨b.1.trans pm.symm,b.2⟩⟩
theorem ok_alike {f tb:Addr} {fd:FuncData} (F:Fun K "alike" "alike" s_alike f fd) (D_pieces:DefOk P w K mg base 5 "pieces" ["tree","width","height"] (sp_pieces tb cW cU cL)):FnOk P w K mg base CX0 6 f fd ["tree","other","width","height"] (sp_alike tb cW cU cL):=by
 have S:=S_alike
 refine F.ok S (fun vs H Q E h=>?_) (fun cdv A outer s H vs Q E hr h=>?_)
 ·obtain ⟨v,v2,t,s,ww,hh,rfl,_⟩:=h; rfl
 ·obtain ⟨v,v2,t,ot,ww,hh,rfl,h1,h2,tab,w1,w2,g1,g2,f1,f2,q⟩:=h
  refine ⟨_,(pss_one (ps_ret (pe_cmpR (op_eqD hr) (pe_fn D_pieces hr (pa_cons (pv 0) (pa_cons (pv 2) (pa_cons (pv 3) pa_nil)))) (pe_fn D_pieces hr (pa_cons (pv 1) (pa_cons (pv 2) (pa_cons (pv 3) pa_nil)))) (nomark _)))),?_⟩
  obtain ⟨_,n1,_⟩:=fit_small w1 w2 g1 g2 f1
  obtain ⟨_,n2,_⟩:=fit_small w1 w2 g1 g2 f2
  refine ⟨_,rfl,_,rfl,_,rfl,v,t,ww,hh,rfl,h1,n1,tab,w1,w2,g1,g2,f1,fun l1 ts1 H1 s1 tab1 nl1 e1 c1 d1=>?_⟩
  have sN1:=s1.toN tab.tbl
  refine ⟨_,rfl,_,rfl,_,rfl,v2,ot,ww,hh,rfl,h2.n sN1,n2,tab1,w1,w2,g1,g2,f2,fun l2 ts2 H2 s2 tab2 nl2 e2 c2 d2=>?_⟩
  have sN2:=s2.toN tab1.tbl
  have D1:DIs K H2 (.lst (gsD (cons ts1))) (.ref l1):=gsL (sN2.lst e1) (c1.n sN2)
  have D2:DIs K H2 (.lst (gsD (cons ts2))) (.ref l2):=gsL e2 c2
  refine ⟨_,_,D1,D2,⟨_,rfl⟩,⟨_,rfl⟩,by have:=gsD_dep (cons ts1); rw [dep]; omega,?_⟩
  rw [if_neg Bool.false_ne_true]
  refine q _ H2 (s1.trans s2) tab2 ((Iff.trans ⟨fun e=>?_,fun e=>?_⟩ (due_iff w1 w2 g1 g2 f1 d1 d2)))
  ·rw [deq] at e; exact gs_eq e
  ·rw [e] at D1 ⊢; exact deq_refl _ D1
def sp_throughX:Sp:=fun vs H Q _=>∃ (l b:Addr) (ts:List PT) (p:Rk),vs=[.ref l,.ref b]∧H l=some (.lst (pcs ts))∧PcO H ts∧ts.length≤150∧H b=some (.tup p.vs)∧p.ok∧(∀ u,0≤p.lo u∧p.hi u≤12) ∧
 ∀ c H',Same H H'→LnAt H' c (thrL ((cons ts).map (·.1)) p)→Q (.ref c) H'
theorem S_law_through:FnScope ["_law_some","_law_block","_law_found","_law_side","_law_line"] ["_law_some","_law_block"] (defScope s__law_through):=⟨rfl,rfl,rfl,by decide +kernel,rfl,by decide +kernel,by decide +kernel⟩
def dnL (rs:List Rk) (p:Rk) (i:Nat):List (Bool × Int):=(if 1≤i then (lns rs p true).map (fun a=>(true,a)) else [])++(if 2≤i then (lns rs p false).map (fun a=>(false,a)) else [])
theorem any_fst {L:List (Rk × Option Int)} {u:Bool} {a:Int}:(L.map (brkB u a)).any id=(L.map (·.1)).any (brkR u a):=by
 rw [List.any_map,List.any_map]; rfl
theorem ok_law_through {f:Addr} {fd:FuncData} (F:Fun K "_law_through" "_law_through" s__law_through f fd) (T:Txt mg tk):FnOk P w K mg base CX0 1 f fd ["_law_some","_law_block"] sp_throughX:=by
 have S:=S_law_through
 refine F.ok S (fun vs H Q E h=>?_) (fun cdv A outer s H vs Q E hr h=>?_)
 ·obtain ⟨l,b,ts,p,rfl,_⟩:=h; rfl
 ·obtain ⟨l,b,ts,p,rfl,hl,pc,hn,hb,pk,pb,q⟩:=h
  refine ⟨_,(pss_cons (ps_set (i:=2) S.nd rfl (Or.inl rfl) (pe_lst pa_nil))
   (pss_cons (ps_for PassesOwn.never rfl (pi_list (pe_lst (pa_cons pe_int (pa_cons pe_int pa_nil)))) (pg_name (i:=3) S.nd rfl (Or.inr rfl)) (pss_one (ps_for PassesOwn.never rfl (pi_range2 rfl T.z_range (pa_cons (pe_op op_add (pe_ix ix_tup (pv 1) (pv 3) (fun _ _=>rfl)) pe_int) (pa_cons (pe_ix ix_tup (pv 1) (pe_op op_add (pv 3) pe_int) (fun _ _=>rfl)) pa_nil))) (pg_name (i:=4) S.nd rfl (Or.inr rfl)) (pss_one (ps_if (pt_not (pt_val (pe_callB call_any rfl T.z_any rfl (pa_cons (pe_comp rfl (pi_list (pv 0)) (fun _ _ _ _ _=>(pg_tupK (K:=K) (n:=2) rfl (pgs_cons (pg_name (i:=0) (show List.Nodup (["_law_one","_law_mark","_law_line","_law_side"]:List Str) from by decide +kernel) rfl (Or.inl rfl)) (pgs_cons (pg_name (i:=1) (show List.Nodup (["_law_one","_law_mark","_law_line","_law_side"]:List Str) from by decide +kernel) rfl (Or.inl rfl)) pgs_nil)))) (fun _ _ _ _ _=>(pe_chain op_lt op_lt (pe_ix (ix_tupK (K:=K)) (pv 0) (pv 3) (fun _ _=>rfl)) (pv 2) (pe_ix (ix_tupK (K:=K)) (pv 0) (pe_op op_add (pv 3) pe_int) (fun _ _=>rfl)))) (N:=["_law_one","_law_mark","_law_line","_law_side"]) (fr:=[none,none,some 4,some 3])) pa_nil)))) (pss_one (ps_expr (pe_bm PySem.F.plainAttrs_list PySem.F.slot_list_append PySem.F.type_list_append mt_append (pv 2) (pa_cons (pe_tup (pa_cons (pe_ix ix_list (pe_lst (pa_cons pe_str (pa_cons pe_str pa_nil))) (pv 3) (fun _ _=>rfl)) (pa_cons (pv 4) pa_nil))) pa_nil)))) pss_nil)))))
   (pss_one (ps_ret (pv 2))))),?_⟩
  refine ⟨lenOk 0,fun c hc=>?_⟩
  have s0:Same H (upd H c (.lst [])):=Same.new hc
  have e0:(upd H c (.lst [])) c=some (.lst []):=upd_same
  generalize upd H c (.lst [])=H0 at s0 e0 ⊢
  refine ⟨lenOk 2,fun M hM=>?_⟩
  have s1:Same H0 (upd H0 M (.lst [.int 1,.int 0])):=Same.new hM
  have e1:(upd H0 M (.lst [.int 1,.int 0])) M=some (.lst [.int 1,.int 0]):=upd_same
  have nM:M≠c:=Ne.symm (ne_of_none e0 hM)
  have c1:=s1 _ _ e0
  generalize upd H0 M (.lst [.int 1,.int 0])=H1 at s1 e1 c1 ⊢
  refine ⟨M,rfl,⟨_,SqL.of e1⟩,for_list (K:=K) (a:=M) (xs:=[.int 1,.int 0]) (fun i σ H'=>∃ (x3 x4:Option V),σ=[some (.ref l),some (.ref b),some (.ref c),x3,x4]∧Same H H'∧H' M=some (.lst [.int 1,.int 0])∧LnAt H' c (dnL ((cons ts).map (·.1)) p i)∧(dnL ((cons ts).map (·.1)) p i).length≤12 * i)
   ⟨_,_,rfl,s0.trans s1,e1,⟨[],c1,(fun t ht=>nomatch ht),rfl⟩,Nat.le_refl _⟩ (fun i σ H' _ hp=>let ⟨_,_,_,_,h,_⟩:=hp; SqL.of h) ?_ ?_⟩
  ·rintro i x σ H' hx ⟨x3,x4,rfl,s2,m2,ln,len2⟩
   obtain ⟨u,rfl,hu⟩:∃ u,x=.int (sd u)∧i=if u then 0 else 1:=by
    match i,hx with
    | 0,hx=>cases hx; exact ⟨true,rfl,rfl⟩
    | 1,hx=>cases hx; exact ⟨false,rfl,rfl⟩
   obtain ⟨b0,b1⟩:=pb u
   have h12:=rk_pos pk u
   refine ⟨_,rfl,_,rfl,b,_,_,_,rfl,rfl,SqT.of (s2 _ _ hb),at_lo,_,_,rfl,rfl,_,rfl,_,rfl,_,_,rfl,rfl,b,_,_,_,rfl,rfl,SqT.of (s2 _ _ hb),at_hi,?_⟩
   refine ⟨_,_,rfl,⟨by omega,by omega,by omega,by omega⟩,?_⟩
   refine for_range (lo:=p.lo u+1) (n:=(p.hi u - (p.lo u+1)).toNat) (fun j σ H'=>∃ (x4:Option V),σ=[some (.ref l),some (.ref b),some (.ref c),some (.int (sd u)),x4]∧Same H H'∧H' M=some (.lst [.int 1,.int 0])∧LnAt H' c (dnL ((cons ts).map (·.1)) p i++(lnsN ((cons ts).map (·.1)) u (p.lo u) j).map (fun a=>(u,a))))
    ⟨_,rfl,s2,m2,by rw [lnsN]; show LnAt _ c (_++[]); rw [List.append_nil]; exact ln⟩ ?_ ?_
   ·rintro j σ H2 hj ⟨x4,rfl,s3,m3,ln⟩
    have jl:=lnsN_len (rs:=(cons ts).map (·.1)) (u:=u) (lo:=p.lo u) j
    refine ⟨_,rfl,l,rfl,⟨_,SqL.of (s3 _ _ hl)⟩,fun acc hacc=>comp_list (K:=K) (a:=l) (ys:=pcs ts) (fun i zs σ H'=>(∃ y z,σ=[y,z,some (.int (p.lo u+1+(j:Int))),some (.int (sd u))])∧Same H2 H'∧zs=((cons ts).take i).map fun g=>V.bl (brkB u (p.lo u+1+(j:Int)) g)) ⟨⟨none,none,rfl⟩,Same.new hacc,rfl⟩ (fun i zs σ H' _ _ hp=>SqL.of ((s3.trans hp.2.1) _ _ hl)) ?_ ?_⟩
    ·rintro k x zs σ H' hx hk hl' hacc' ⟨⟨y,z,rfl⟩,hs,rfl⟩
     obtain ⟨t,ht,rfl⟩:=pcs_get hx
     obtain ⟨g1,g2⟩:=(pc.same (s3.trans hs)) t (List.mem_of_getElem? ht)
     have next:∀ {σ':St} {v:V} {H3:Hp},H3=H'→σ'=[some (.ref t.2.1),some (markV t.2.2.2),some (.int (p.lo u+1+(j:Int))),some (.int (sd u))]→v=.bl (brkB u (p.lo u+1+(j:Int)) t.2.2)→cNx acc (pcs ts).length (fun i zs σ H'=>(∃ y z,σ=[y,z,some (.int (p.lo u+1+(j:Int))),some (.int (sd u))])∧Same H2 H'∧zs=((cons ts).take i).map fun g=>V.bl (brkB u (p.lo u+1+(j:Int)) g)) k σ' v H3:=fun {σ' v H3} e e2 e3=>by
      subst e e2 e3
      refine cNx.mk (Nat.le_of_lt (small1000 (by rw [List.length_map]; omega))) hk hl' hacc' ⟨⟨_,_,rfl⟩,fun b o e=>by rw [upd_ne (ne_of_none e hacc)]; exact hs b o e,?_⟩
      rw [List.take_succ,List.getElem?_map,ht,List.map_append]; rfl
     refine ⟨t.1,_,rfl,SqT.of g1,rfl,_,_,rfl,_,_,rfl,rfl,_,rfl,_,rfl,t.2.1,_,_,_,rfl,rfl,SqT.of g2,at_lo,_,rfl,_,_,rfl,rfl,_,rfl,ite3 (fun h1=>?_) (fun h1=>?_)⟩
     ·refine ⟨_,rfl,_,rfl,_,_,rfl,rfl,t.2.1,_,_,_,rfl,rfl,SqT.of g2,at_hi,_,_,rfl,rfl,next rfl rfl ?_⟩
      unfold brkB
      rw [h1,Bool.true_and]
     ·exact next rfl rfl (by unfold brkB; rw [h1]; rfl)
    ·rintro zs σ H3 hzl hacc' ⟨_,s4,rfl⟩
     rw [List.length_map,← List.length_map (f:=fun t:PT=>t.2.2),List.take_length] at hacc'
     have hbs:SqL K H3 acc (((cons ts).map (brkB u (p.lo u+1+(j:Int)))).map V.bl):=SqL.of (by rw [List.map_map]; exact hacc')
     have s24:=s3.trans s4
     have m4:=s4 _ _ m3
     refine ⟨acc,_,rfl,hbs,rfl,_,rfl,?_⟩
     rw [any_fst]
     cases hany:((cons ts).map (·.1)).any (brkR u (p.lo u+1+(j:Int))) with
     | true =>
      refine iteN rfl ⟨_,rfl,s24,m4,?_⟩
      rw [lnsN,hany,if_pos rfl,List.append_nil]
      exact ln.same s4
     | false =>
      refine iteP rfl ?_
      obtain ⟨us,u1,u2,ue⟩:=ln.same s4
      have ul:=congrArg List.length ue
      rw [List.length_map,List.length_append,List.length_map] at ul
      refine ⟨_,rfl,.inl ⟨rfl,_,SqL.of u1⟩,lenOk 2,fun N hN=>?_⟩
      have s5:Same H3 (upd H3 N (.lst [.str "level",.str "upright"])):=Same.new hN
      have e5:(upd H3 N (.lst [.str "level",.str "upright"])) N=some (.lst [.str "level",.str "upright"]):=upd_same
      generalize upd H3 N (.lst [.str "level",.str "upright"])=H5 at s5 e5 ⊢
      refine ⟨_,rfl,N,_,_,_,rfl,rfl,SqL.of e5,at_wd,_,rfl,lenOk 2,fun t6 h6=>?_⟩
      have s6:Same H5 (upd H5 t6 (.tup [.str (wd u),.int (p.lo u+1+(j:Int))])):=Same.new h6
      have e6:(upd H5 t6 (.tup [.str (wd u),.int (p.lo u+1+(j:Int))])) t6=some (.tup [.str (wd u),.int (p.lo u+1+(j:Int))]):=upd_same
      generalize upd H5 t6 (.tup [.str (wd u),.int (p.lo u+1+(j:Int))])=H6 at s6 e6 ⊢
      have s56:=s5.trans s6
      have u6:=s56 _ _ u1
      have il:i≤1:=by rw [hu]; cases u <;> decide
      refine ⟨c,_,_,rfl,rfl,u6,small1000 (by rw [refs_len]; omega),?_⟩
      have sK:∀ {b:Addr} {o:HO},b≠c→H6 b=some o→(upd H6 c (.lst (refs us++[.ref t6]))) b=some o:=fun n e=>by rw [upd_ne n]; exact e
      have tup:∀ {b:Addr} {xs:List V},H6 b=some (.tup xs)→(upd H6 c (.lst (refs us++[.ref t6]))) b=some (.tup xs):=fun {b xs} e=>sK (ne_of e u6 (by intro z; cases z)) e
      refine ⟨_,rfl,fun d o e=>?_,sK nM (s56 _ _ m4),⟨us++[(t6,u,p.lo u+1+(j:Int))],by rw [upd_same]; show _=some (HO.lst (List.map _ (us++[(t6,u,p.lo u+1+(j:Int))]))); rw [List.map_append]; rfl,fun t ht=>?_,?_⟩⟩
      ·rw [upd_ne (ne_of_none e hc)]; exact s56 _ _ (s24 _ _ e)
      ·rcases List.mem_append.mp ht with ht | ht
       ·exact tup (s56 _ _ (u2 t ht))
       ·rw [List.mem_singleton.mp ht]; exact tup e6
      ·rw [List.map_append,ue,lnsN,hany,if_neg Bool.false_ne_true,List.map_append,List.append_assoc]; rfl
   ·rintro σ H2 ⟨x4,rfl,s3,m3,ln⟩
    have ln:LnAt H2 c (dnL ((cons ts).map (·.1)) p i++(lns ((cons ts).map (·.1)) p u).map (fun a=>(u,a))):=ln
    have e:dnL ((cons ts).map (·.1)) p i++(lns ((cons ts).map (·.1)) p u).map (fun a=>(u,a))=dnL ((cons ts).map (·.1)) p (i+1):=by
     subst hu
     cases u <;> simp [dnL]
    have ll:=lnsN_len (rs:=(cons ts).map (·.1)) (u:=u) (lo:=p.lo u) (p.hi u - (p.lo u+1)).toNat
    have l3:=congrArg List.length e
    rw [List.length_append,List.length_map] at l3
    unfold lns at l3
    rw [e] at ln
    exact ⟨_,_,rfl,s3,m3,ln,by omega⟩
  ·rintro σ H' ⟨x3,x4,rfl,s2,m2,ln,len2⟩
   exact ⟨_,rfl,q c H' s2 ln⟩
theorem St8.keep {H H':Hp} {st a:Addr} {tm:Int} {o:HO} (h:St8 H st tm) (s:SameX st H H') (e:H a=some o) (n:∀ kv,o≠.dK kv):H' a=some o:=by
 obtain ⟨_,_,_,q⟩:=h
 exact s _ _ (ne_of e q (n _)) e
theorem PcO.st {H H':Hp} {st:Addr} {tm:Int} {ts:List PT} (p:PcO H ts) (h:St8 H st tm) (s:SameX st H H'):PcO H' ts:=fun t ht=>⟨h.keep s (p t ht).1 (by intro kv z; cases z),h.keep s (p t ht).2 (by intro kv z; cases z)⟩
def sp_recut (n:Nat):Sp:=fun vs H Q _=>∃ (l b st:Addr) (ts:List PT) (p:Rk) (t:Tr) (tm:Int),vs=[.ref l,.ref b,.ref st]∧H l=some (.lst (pcs ts))∧PcO H ts∧ts.length≤150∧H b=some (.tup p.vs)∧p.ok∧(∀ u,0≤p.lo u∧p.hi u≤12)∧FitR p t∧(cons ts).Perm (gath t p)∧St8 H st tm∧0≤tm∧tm+t.sz≤900∧p.len true+p.len false < n ∧
 ∀ v r H' tm',SameX st H H'→St8 H' st tm'→0≤tm'→tm'+1≤tm+t.sz→Told H' r v→FitR p r→(gath r p).Perm (gath t p)→Q v H'
theorem recut0 {vs:List V} {H:Hp} {Q:VK} {E:XK}:¬ sp_recut 0 vs H Q E:=by
 rintro ⟨l,b,st,ts,p,t,tm,_,_,_,_,_,pk,_,_,_,_,_,_,h,_⟩
 have h1:=rk_pos pk true
 have h2:=rk_pos pk false
 rw [rk_len,rk_len] at h
 omega
abbrev N_recut:List Str:=["_law_some","_law_block","_law_state_here","_law_lines","_law_word","_law_line","_law_first","_law_low","_law_other","_law_high","_law_part"]
theorem S_law_recut:FnScope N_recut ["_law_some","_law_block","_law_state_here"] (defScope s__law_recut):=⟨rfl,rfl,rfl,by decide +kernel,rfl,by decide +kernel,by decide +kernel⟩
theorem refs_at {α:Type} {ts:List (Addr × α)} {z:Int} (h0:0≤z) (h1:z < ts.length):∃ t∈ts,atI (refs ts) z=some (.ref t.1):=by
 have h:z.toNat < ts.length:=by omega
 have e:=atI_nat (xs:=refs ts) (j:=z.toNat) (v:=.ref ts[z.toNat].1) (by unfold refs; rw [List.getElem?_map,List.getElem?_eq_getElem h]; rfl)
 rw [Int.toNat_of_nonneg h0] at e
 exact ⟨_,List.getElem_mem h,e⟩
theorem ok_law_recut {f:Addr} {fd:FuncData} {n:Nat} (F:Fun K "_law_recut" "_law_recut" s__law_recut f fd) (T:Txt mg tk) (D__law_through:DefOk P w K mg base 1 "_law_through" ["_law_some","_law_block"] sp_throughX) (D__law_pick:DefOk P w K mg base 2 "_law_pick" ["_law_state_here","_law_many"] sp_pick) (D__law_parted:DefOk P w K mg base 1 "_law_parted" ["_law_some","_law_block","_law_word","_law_line"] sp_parted)
  (D__law_recut:DefOk P w K mg base (n+3) "_law_recut" ["_law_some","_law_block","_law_state_here"] (sp_recut n)):FnOk P w K mg base CX0 (n+4) f fd ["_law_some","_law_block","_law_state_here"] (sp_recut (n+1)):=by
 have S:=S_law_recut
 refine F.ok S (fun vs H Q E h=>?_) (fun cdv A outer s H vs Q E hr h=>?_)
 ·obtain ⟨l,b,st,ts,p,t,tm,rfl,_⟩:=h; rfl
 ·obtain ⟨l,b,st,ts,p,t,tm,rfl,hl,pc,hn,hb,pk,pb,fit,pm,hst,tm0,tm9,hd,q⟩:=h
  refine ⟨_,(pss_cons (ps_if (pt_cmpR op_eq (pe_callB call_len_seq rfl T.z_len rfl (pa_cons (pv 0) pa_nil)) pe_int (nomark _)) (pss_one (ps_ret (pe_tup (pa_cons pe_str (pa_cons (pe_ix ix_tup (pe_ix ix_list (pv 0) pe_int (fun _ _=>rfl)) pe_int (fun _ _=>rfl)) pa_nil))))) pss_nil)
   (pss_cons (ps_set (i:=3) S.nd rfl (Or.inl rfl) (pe_fn D__law_through hr (pa_cons (pv 0) (pa_cons (pv 1) pa_nil)) (by omega)))
   (pss_cons (ps_asg (pe_ix ix_list (pv 3) (pe_fn D__law_pick hr (pa_cons (pv 2) (pa_cons (pe_callB call_len_seq rfl T.z_len rfl (pa_cons (pv 3) pa_nil)) pa_nil)) (by omega)) (fun _ _=>rfl)) (pg_tup rfl (pgs_cons (pg_name (i:=4) S.nd rfl (Or.inl rfl)) (pgs_cons (pg_name (i:=5) S.nd rfl (Or.inl rfl)) pgs_nil))))
   (pss_cons (ps_asg (pe_fn D__law_parted hr (pa_cons (pv 0) (pa_cons (pv 1) (pa_cons (pv 4) (pa_cons (pv 5) pa_nil)))) (by omega)) (pg_tup rfl (pgs_cons (pg_name (i:=6) S.nd rfl (Or.inl rfl)) (pgs_cons (pg_name (i:=7) S.nd rfl (Or.inl rfl)) (pgs_cons (pg_name (i:=8) S.nd rfl (Or.inl rfl)) (pgs_cons (pg_name (i:=9) S.nd rfl (Or.inl rfl)) pgs_nil))))))
   (pss_cons (ps_set (i:=10) S.nd rfl (Or.inl rfl) (pe_fn D__law_recut hr (pa_cons (pv 6) (pa_cons (pv 7) (pa_cons (pv 2) pa_nil))) (by omega)))
   (pss_one (ps_ret (pe_tup (pa_cons (pv 4) (pa_cons (pe_op op_sub (pv 5) (pe_ix ix_tup (pv 1) (pe_callTy call_int1 rfl T.z_int rfl (pa_cons (pe_cmpR op_eq (pv 4) pe_str (nomark _)) pa_nil)) (fun _ _=>rfl))) (pa_cons (pv 10) (pa_cons (pe_fn D__law_recut hr (pa_cons (pv 8) (pa_cons (pv 9) (pa_cons (pv 2) pa_nil))) (by omega)) pa_nil)))))))))))),?_⟩
  have lenE:=pm.length_eq
  rw [gath_len,List.length_map] at lenE
  refine ⟨_,rfl,l,_,rfl,.inl (SqL.of hl),rfl,_,rfl,ite3 (fun c=>?_) (fun c=>?_)⟩
  ·have c:=of_decide_eq_true c
   have c:ts.length=1:=by have:=V.int.inj c; rw [List.length_map] at this; omega
   obtain ⟨x,rfl⟩:=List.length_eq_one_iff.mp c
   obtain ⟨m,rfl⟩:=sz_one (lenE.symm.trans c)
   have hx:=pc x (List.mem_singleton.mpr rfl)
   refine ⟨_,rfl,l,_,_,_,rfl,rfl,SqL.of hl,rfl,x.1,_,_,_,rfl,rfl,SqT.of hx.1,at2_1,lenOk 2,fun a ha=>?_⟩
   rw [gath] at pm
   have e:=pm.mem_iff.mp (List.mem_singleton.mpr rfl)
   have e:=List.mem_singleton.mp e
   have e2:x.2.2.2=m:=congrArg Prod.snd e
   have s1:Same H (upd H a (.tup [.str "whole",markV x.2.2.2])):=Same.new ha
   refine q (.ref a) (.whole m) _ tm s1.x (hst.same s1) tm0 (Int.le_refl _) ?_ fit (List.Perm.refl _)
   rw [Told,← e2]; exact ⟨a,rfl,upd_same⟩
  ·have c:=of_decide_eq_false c
   have c:t.sz≠1:=fun z=>c (by rw [List.length_map,lenE,z]; rfl)
   refine ⟨_,rfl,_,rfl,l,b,ts,p,rfl,hl,pc,hn,hb,pk,pb,fun cl H1 s1 ln=>?_⟩
   have fnd:=thr_fnd (L:=cons ts) pk
   have cl24:=thr_len (rs:=(cons ts).map (·.1)) pk pb
   generalize thrL ((cons ts).map (·.1)) p=cs at ln fnd cl24
   obtain ⟨us,u1,u2,ue⟩:=ln
   have ul:us.length=cs.length:=by rw [← ue,List.length_map]
   have ne:0 < cs.length:=by
    cases t with
    | whole m=>exact absurd rfl c
    | cut u0 k0 x0 y0 =>
     obtain ⟨⟨k1,k2⟩,fx,fy⟩:=fitR_cut.mp fit
     obtain ⟨_,_,nb⟩:=filt_parts pk k1 k2 fx fy
     rw [rk_len] at k2
     exact List.length_pos_of_mem (fnd.all u0 (p.lo u0+k0) trivial (by omega) (by omega) fun g hg=>nb g (by have:=pm.mem_iff.mp hg; rw [gath] at this; exact this))
   have st1:=hst.same s1
   refine ⟨_,rfl,_,rfl,_,rfl,cl,_,rfl,.inl (SqL.of u1),st,tm,_,rfl,st1,tm0,by have:=sz_pos t; omega,by rw [refs_len]; omega,by rw [refs_len]; omega,fun z H2 z0 z1 s2 st2=>?_⟩
   rw [refs_len] at z1
   obtain ⟨x,hx,hat⟩:=refs_at (ts:=us) z0 z1
   obtain ⟨xa,u,line⟩:=x
   have kp2:∀ {d:Addr} {o:HO},H d=some o→(∀ kv,o≠.dK kv)→H2 d=some o:=fun e nk=>st1.keep s2 (s1 _ _ e) nk
   refine ⟨cl,_,_,_,rfl,rfl,SqL.of (st1.keep s2 u1 (by intro kv z; cases z)),hat,xa,_,rfl,SqT.of (st1.keep s2 (u2 _ hx) (by intro kv z; cases z)),rfl,_,_,rfl,_,_,rfl,rfl,?_⟩
   obtain ⟨f1,f2,nb⟩:=fnd.ok (u,line) (ue ▸ List.mem_map.mpr ⟨_,hx,rfl⟩)
   obtain ⟨a,rfl⟩:∃ a,line=p.lo u+a:=⟨line - p.lo u,by omega⟩
   have f1:p.lo u < p.lo u+a:=f1
   have f2:p.lo u+a < p.hi u:=f2
   have a1:1≤a:=by omega
   have a2:a < p.len u:=by rw [rk_len]; omega
   obtain ⟨th,fa,fb,q1,q2⟩:=part_perm pk fit pm a1 a2 nb
   obtain ⟨ok1,ok2⟩:=rk_parts pk a1 a2
   obtain ⟨lh1,lh2,lt1,lt2⟩:=rk_lh (u:=u) (a:=a) pb a1 a2
   have szE:=(gath_thr (p:=p) th).length_eq
   rw [gath_len,List.length_append,gath_len,gath_len] at szE
   have sza:=sz_pos (ahd t u a)
   have szb:=sz_pos (bhd t u a)
   have l2:=kp2 hl (by intro kv z; cases z)
   have b2:=kp2 hb (by intro kv z; cases z)
   have pc2:=(pc.same s1).st st1 s2
   refine ⟨_,rfl,_,rfl,_,rfl,_,rfl,l,b,ts,p,u,a,rfl,l2,pc2,hn,b2,fun cc l1 b1 lo bo ts1 ts2 H3 s3 hcc hl1 pc1 e1 hb1 hlo pco e2 hbo=>?_⟩
   refine ⟨cc,_,rfl,SqT.of hcc,rfl,_,_,rfl,_,_,rfl,_,_,rfl,_,_,rfl,rfl,?_⟩
   have st3:=st2.same s3
   have q1':(cons ts1).Perm (gath (ahd t u a) (p.fst u a)):=by rw [e1]; exact q1
   have q2':(cons ts2).Perm (gath (bhd t u a) (p.oth u a)):=by rw [e2]; exact q2
   have n1:=q1'.length_eq
   have n2:=q2'.length_eq
   rw [gath_len,List.length_map] at n1 n2
   refine ⟨_,rfl,_,rfl,_,rfl,l1,b1,st,ts1,p.fst u a,ahd t u a,tm+1,rfl,hl1,pc1,by omega,hb1,ok1,lh1,fa,q1',st3,by omega,by omega,by omega,fun v1 r1 H4 tm4 s4 st4 t40 t4 told1 fit1 perm1=>?_⟩
   have hlo4:=st3.keep s4 hlo (by intro kv z; cases z)
   have hbo4:=st3.keep s4 hbo (by intro kv z; cases z)
   have b4:=st3.keep s4 (s3 _ _ b2) (by intro kv z; cases z)
   refine ⟨_,rfl,_,rfl,_,rfl,_,rfl,rfl,.inr ⟨_,rfl,?_⟩⟩
   have hsd:(if decide (V.str (wd u)=V.str "upright")=true then (1:Int) else 0)=sd u:=by rw [wd_eq]; rfl
   rw [hsd]
   refine ⟨b,_,_,_,rfl,rfl,SqT.of b4,at_lo,_,_,rfl,rfl,_,rfl,_,rfl,_,rfl,_,rfl,lo,bo,st,ts2,p.oth u a,bhd t u a,tm4,rfl,hlo4,pco.st st3 s4,by omega,hbo4,ok2,lh2,fb,q2',st4,t40,by omega,by omega,fun v2 r2 H5 tm5 s5 st5 t50 t5 told2 fit2 perm2=>?_⟩
   refine ⟨lenOk 4,fun x6 h6=>?_⟩
   have s6:Same H5 (upd H5 x6 (.tup [.str (wd u),.int (p.lo u+a - p.lo u),v1,v2])):=Same.new h6
   refine q (.ref x6) (.cut u a r1 r2) _ tm5 ((s1.x.trans s2).trans ((s3.x.trans s4).trans (s5.trans s6.x))) (st5.same s6) t50 (by omega) ?_ (fitR_cut.mpr ⟨⟨a1,a2⟩,fit1,fit2⟩) ?_
   ·rw [Told]; exact ⟨x6,v1,v2,rfl,upd_same.trans (by show some (HO.tup [V.str (wd u),V.int (p.lo u+a - p.lo u),v1,v2])=_; rw [show p.lo u+a - p.lo u=a by omega]),(told1.samed s5 st4).same s6,told2.same s6⟩
   ·rw [gath]
    exact (perm1.append perm2).trans (gath_thr (p:=p) th).symm
def sp_spoiled (n:Nat):Sp:=fun vs H Q _=>∃ (v:V) (t:Tr) (cc:Int),vs=[v,.int cc]∧Told H t v∧t.dp < n∧∀ v' r H',Same H H'→Told H' r v'→SpoilR t r→Q v' H'
theorem spoiled0 {vs:List V} {H:Hp} {Q:VK} {E:XK}:¬ sp_spoiled 0 vs H Q E:=by
 rintro ⟨v,t,cc,_,_,h,_⟩
 omega
theorem S_law_spoiled:FnScope ["_law_told_here","_law_cell_here"] ["_law_told_here","_law_cell_here"] (defScope s__law_spoiled):=⟨rfl,rfl,rfl,by decide +kernel,rfl,by decide +kernel,by decide +kernel⟩
theorem ok_law_spoiled {f:Addr} {fd:FuncData} {n:Nat} (F:Fun K "_law_spoiled" "_law_spoiled" s__law_spoiled f fd) (D__law_spoiled:DefOk P w K mg base (n+3) "_law_spoiled" ["_law_told_here","_law_cell_here"] (sp_spoiled n)):FnOk P w K mg base CX0 (n+4) f fd ["_law_told_here","_law_cell_here"] (sp_spoiled (n+1)):=by
 have S:=S_law_spoiled
 refine F.ok S (fun vs H Q E h=>?_) (fun cdv A outer s H vs Q E hr h=>?_)
 ·obtain ⟨v,t,cc,rfl,_⟩:=h; rfl
 ·obtain ⟨v,t,cc,rfl,ht,hd,q⟩:=h
  refine ⟨_,(pss_cons (ps_if (pt_cmpR op_eq (pe_ix ix_tup (pv 0) pe_int (fun _ _=>rfl)) pe_str (nomark _)) (pss_cons (ps_if (pt_cmpR op_isN (pe_ix ix_tup (pv 0) pe_int (fun _ _=>rfl)) pe_non (nomark _)) (pss_one (ps_ret (pe_tup (pa_cons pe_str (pa_cons pe_int pa_nil))))) pss_nil)
   (pss_one (ps_ret (pe_tup (pa_cons pe_str (pa_cons (pe_op op_mod (pe_op op_add (pe_ix ix_tup (pv 0) pe_int (fun _ _=>rfl)) pe_int) pe_int) pa_nil)))))) pss_nil)
   (pss_cons (ps_if (pt_cmpR op_eq (pe_op op_mod (pv 1) pe_int) pe_int (nomark _)) (pss_one (ps_ret (pe_tup (pa_cons pe_str (pa_cons pe_non pa_nil))))) pss_nil)
   (pss_cons (ps_if (pt_cmpR op_eq (pe_op op_mod (pv 1) pe_int) pe_int (nomark _)) (pss_one (ps_ret (pe_tup (pa_cons (pe_ix ix_tup (pv 0) pe_int (fun _ _=>rfl)) (pa_cons (pe_ix ix_tup (pv 0) pe_int (fun _ _=>rfl)) (pa_cons (pe_fn D__law_spoiled hr (pa_cons (pe_ix ix_tup (pv 0) pe_int (fun _ _=>rfl)) (pa_cons (pe_op op_fdivL (pv 1) pe_int) pa_nil)) (by omega)) (pa_cons (pe_ix ix_tup (pv 0) pe_int (fun _ _=>rfl)) pa_nil))))))) pss_nil)
   (pss_one (ps_ret (pe_tup (pa_cons (pe_ix ix_tup (pv 0) pe_int (fun _ _=>rfl)) (pa_cons (pe_ix ix_tup (pv 0) pe_int (fun _ _=>rfl)) (pa_cons (pe_ix ix_tup (pv 0) pe_int (fun _ _=>rfl)) (pa_cons (pe_fn D__law_spoiled hr (pa_cons (pe_ix ix_tup (pv 0) pe_int (fun _ _=>rfl)) (pa_cons (pe_op op_fdivL (pv 1) pe_int) pa_nil)) (by omega)) pa_nil)))))))))),?_⟩
  cases t with
  | whole m =>
   rw [Told] at ht
   obtain ⟨a,rfl,ha⟩:=ht
   refine ⟨_,rfl,a,_,_,_,rfl,rfl,SqT.of ha,at2_0,rfl,_,rfl,iteP (decide_eq_true rfl) ?_⟩
   cases m with
   | none=>exact ⟨_,rfl,a,_,_,_,rfl,rfl,SqT.of ha,at2_1,rfl,_,rfl,iteP (decide_eq_true rfl) ⟨lenOk 2,fun e he=>q _ (.whole (some 0)) _ (Same.new he) (by rw [Told]; exact ⟨e,rfl,upd_same⟩) ⟨_,rfl,by intro z; cases z⟩⟩⟩
   | some i =>
    refine ⟨_,rfl,a,_,_,_,rfl,rfl,SqT.of ha,at2_1,rfl,_,rfl,iteN (decide_eq_false (by intro z; cases z)) ?_⟩
    refine ⟨_,rfl,a,_,_,_,rfl,rfl,SqT.of ha,at2_1,_,_,rfl,rfl,_,_,rfl,rfl,(show (0:Int) < 1000 from by decide),lenOk 2,fun e he=>q _ (.whole (some ((i+1) % 1000))) _ (Same.new he) (by rw [Told]; exact ⟨e,rfl,upd_same⟩) ⟨_,rfl,fun z=>?_⟩⟩
    have z:=Option.some.inj z
    omega
  | cut u k y1 y2 =>
   rw [Told] at ht
   obtain ⟨a,v1,v2,rfl,ha,t1,t2⟩:=ht
   have hd:max y1.dp y2.dp+1 < n+1:=hd
   refine ⟨_,rfl,a,_,_,_,rfl,rfl,SqT.of ha,at0,rfl,_,rfl,iteN (wd_whole u) ?_⟩
   refine ⟨_,rfl,_,_,rfl,rfl,(show (0:Int) < 5 from by decide),rfl,_,rfl,ite3 (fun c=>?_) (fun c=>?_)⟩
   ·exact ⟨lenOk 2,fun e he=>q _ (.whole none) _ (Same.new he) (by rw [Told]; exact ⟨e,rfl,upd_same⟩) (.inl rfl)⟩
   ·refine ⟨_,rfl,_,_,rfl,rfl,(show (0:Int) < 2 from by decide),rfl,_,rfl,ite3 (fun c=>?_) (fun c=>?_)⟩
    ·refine ⟨_,rfl,a,_,_,_,rfl,rfl,SqT.of ha,at0,_,rfl,a,_,_,_,rfl,rfl,SqT.of ha,at1,_,rfl,a,_,_,_,rfl,rfl,SqT.of ha,at2,_,rfl,_,_,rfl,rfl,divL _ (by decide) (by decide),v1,y1,cc / 2,rfl,t1,by omega,fun v' r H1 s1 r1 sp1=>?_⟩
     refine ⟨_,rfl,a,_,_,_,rfl,rfl,SqT.of (s1 _ _ ha),at3,lenOk 4,fun e he=>?_⟩
     have s2:Same H1 (upd H1 e (.tup [.str (wd u),.int k,v',v2])):=Same.new he
     exact q _ (.cut u k r y2) _ (s1.trans s2) (by rw [Told]; exact ⟨e,_,_,rfl,upd_same,r1.same s2,t2.same (s1.trans s2)⟩) (.inr (.inl ⟨r,rfl,sp1⟩))
    ·refine ⟨_,rfl,a,_,_,_,rfl,rfl,SqT.of ha,at0,_,rfl,a,_,_,_,rfl,rfl,SqT.of ha,at1,_,rfl,a,_,_,_,rfl,rfl,SqT.of ha,at2,_,rfl,a,_,_,_,rfl,rfl,SqT.of ha,at3,_,rfl,_,_,rfl,rfl,divL _ (by decide) (by decide),v2,y2,cc / 2,rfl,t2,by omega,fun v' r H1 s1 r1 sp1=>?_⟩
     refine ⟨lenOk 4,fun e he=>?_⟩
     have s2:Same H1 (upd H1 e (.tup [.str (wd u),.int k,v1,v'])):=Same.new he
     exact q _ (.cut u k y1 r) _ (s1.trans s2) (by rw [Told]; exact ⟨e,_,_,rfl,upd_same,t1.same (s1.trans s2),r1.same s2⟩) (.inr (.inr ⟨r,rfl,sp1⟩))
abbrev IsT (cW cU cL:Addr) (C:Addr):Prop:=C=cW∨C=cU∨C=cL
theorem obj_ins {H:Hp} {t:Tr} {v:V} (h:Obj cW cU cL H t v):∃ C a dx fs,IsT cW cU cL C∧v=.ref a∧H a=some (.ins C dx fs)∧(∀ m:Str,m≠"mark"→m≠"at"→m≠"first"→m≠"other"→fs.lookup m=none):=by
 cases t with
 | whole m =>
  rw [Obj] at h
  obtain ⟨a,dx,rfl,h⟩:=h
  exact ⟨cW,a,dx,_,.inl rfl,rfl,h,fun m h1 _ _ _=>by rw [lookup_putF,if_neg (by first | exact h1 | exact h1.symm)]; rfl⟩
 | cut u k x y =>
  rw [Obj] at h
  obtain ⟨a,dx,vx,vy,rfl,h,_,_⟩:=h
  exact ⟨cutC cU cL u,a,dx,_,(by cases u; exact .inr (.inr rfl); exact .inr (.inl rfl)),rfl,h,fun m _ h2 h3 h4=>by
   rw [lookup_putF,if_neg (by first | exact h4 | exact h4.symm),lookup_putF,if_neg (by first | exact h3 | exact h3.symm),lookup_putF,if_neg (by first | exact h2 | exact h2.symm)]; rfl⟩
theorem isT_all {Pr:Addr→Prop} (a:Pr cW) (b:Pr cU) (c:Pr cL):∀ C,IsT cW cU cL C→Pr C:=by
 rintro C (rfl | rfl | rfl)
 ·exact a
 ·exact b
 ·exact c
def enD (e:En):D:=match e with
 | .w m=>.tup (.cons (.at (.str "whole")) (.cons (.at (markV m)) .nil))
 | .c u k=>.tup (.cons (.at (.str (wd u))) (.cons (.at (.int k)) .nil))
def ensD:List En→Ds
 | []=>.nil
 | e :: r=>.cons (enD e) (ensD r)
theorem enD_is {H:Hp} {a:Addr} {e:En} (h:H a=some (.tup (enV e))):DIs K H (enD e) (.ref a):=by
 cases e with
 | w m =>
  rw [enD,DIs]
  refine ⟨a,_,rfl,SqT.of h,?_⟩
  rw [enV,DIss]
  refine ⟨_,_,rfl,by rw [DIs]; exact ⟨rfl,rfl⟩,?_⟩
  rw [DIss]
  exact ⟨_,_,rfl,by rw [DIs]; exact ⟨rfl,mark_flat m⟩,by rw [DIss]⟩
 | c u k =>
  rw [enD,DIs]
  refine ⟨a,_,rfl,SqT.of h,?_⟩
  rw [enV,DIss]
  refine ⟨_,_,rfl,by rw [DIs]; exact ⟨rfl,rfl⟩,?_⟩
  rw [DIss]
  exact ⟨_,_,rfl,by rw [DIs]; exact ⟨rfl,rfl⟩,by rw [DIss]⟩
theorem ensD_is {H:Hp}:∀ {xs:List V} {es:List En},EnsAt H xs es→DIss K H (ensD es) xs
 | [],[],_=>by rw [ensD,DIss]
 | v :: r,e :: q,h=>by
  obtain ⟨a,rfl,ha⟩:=h.1
  rw [ensD,DIss]
  exact ⟨_,r,rfl,enD_is ha,ensD_is h.2⟩
 | [],_ :: _,h=>h.elim
 | _ :: _,[],h=>h.elim
theorem enD_dep (e:En):dep (enD e)=1:=by cases e <;> simp [enD,dep,deps]
theorem ensD_dep:∀ es:List En,deps (ensD es)≤1
 | []=>by rw [ensD,deps]; omega
 | e :: r=>by
  have:=ensD_dep r
  rw [ensD,deps,enD_dep]; omega
theorem wd_inj (u v:Bool):(eqV (.str (wd u)) (.str (wd v)))=(u == v):=by rw [strE,wd_dec]
theorem enD_eq (e e':En):deq (enD e) (enD e')=true↔e=e':=by
 cases e with
 | w m =>
  cases e' with
  | w m' =>
   rw [enD,enD,deq,deqs,deqs,deqs,deq,deq,strE,decide_eq_true rfl,Bool.true_and,Bool.and_true,markE]
   exact ⟨fun h=>by rw [h],fun h=>by injection h⟩
  | c u k =>
   rw [enD,enD,deq,deqs,deq,strE]
   have:=wd_whole u
   constructor
   ·intro h
    rw [Bool.and_eq_true] at h
    have h1:=of_decide_eq_true h.1
    rw [h1,decide_eq_true rfl] at this
    cases this
   ·intro h; cases h
 | c u k =>
  cases e' with
  | w m' =>
   rw [enD,enD,deq,deqs,deq,strE,wd_whole,Bool.false_and]
   exact ⟨fun h=>(nomatch h),fun h=>(nomatch h)⟩
  | c u' k' =>
   rw [enD,enD,deq,deqs,deqs,deqs,deq,deq,wd_inj,Bool.and_true,Bool.and_eq_true]
   constructor
   ·rintro ⟨h1,h2⟩
    have h1:=eq_of_beq h1
    have h2:(k == k')=true:=h2
    rw [h1,eq_of_beq h2]
   ·intro h
    injection h with h1 h2
    rw [h1,h2]
    exact ⟨beq_self_eq_true _,(show (k' == k')=true from beq_self_eq_true _)⟩
theorem ensD_eq:∀ es es':List En,deqs (ensD es) (ensD es')=true↔es=es'
 | [],[]=>by rw [ensD,deqs]; simp
 | [],e :: r=>by rw [ensD,ensD,deqs] <;> simp
 | e :: r,[]=>by rw [ensD,ensD,deqs] <;> simp
 | e :: r,e' :: r'=>by
  rw [ensD,ensD,deqs,Bool.and_eq_true,enD_eq,ensD_eq r r']
  exact ⟨fun ⟨a,b⟩=>by rw [a,b],fun h=>by injection h with a b; exact ⟨a,b⟩⟩
def sp_msame (cW cU cL:Addr):Sp:=fun vs H Q _=>∃ (v v':V) (t t':Tr),vs=[v,v']∧Obj cW cU cL H t v∧Obj cW cU cL H t' v'∧t.nd≤400∧t'.nd≤400∧∀ b H',Same H H'→(b=true↔t=t')→Q (.bl b) H'
theorem S_Tree_same:FnScope ["self","other"] ["self","other"] (defScope s_Tree_same):=⟨rfl,rfl,rfl,by decide +kernel,rfl,by decide +kernel,by decide +kernel⟩
theorem ok_Tree_same {f:Addr} {fd:FuncData} (F:Fun K "same" "Tree.same" s_Tree_same f fd) (D_entries_of:DefOk P w K mg base 3 "entries_of" ["tree"] (sp_entries cW cU cL)):FnOk P w K mg base CX0 4 f fd ["self","other"] (sp_msame cW cU cL):=by
 have S:=S_Tree_same
 refine F.ok S (fun vs H Q E h=>?_) (fun cdv A outer s H vs Q E hr h=>?_)
 ·obtain ⟨v,v',t,t',rfl,_⟩:=h; rfl
 ·obtain ⟨v,v',t,t',rfl,ho,ho',hn,hn',q⟩:=h
  refine ⟨_,(pss_one (ps_ret (pe_cmpR (op_eqD hr) (pe_fn D_entries_of hr (pa_cons (pv 0) pa_nil)) (pe_fn D_entries_of hr (pa_cons (pv 1) pa_nil)) (nomark _)))),?_⟩
  refine ⟨_,rfl,v,t,rfl,ho,hn,fun l xs H1 s1 nl hl hen=>?_⟩
  refine ⟨_,rfl,v',t',rfl,ho'.same s1,hn',fun l' xs' H2 s2 nl' hl' hen'=>?_⟩
  have d1:DIs K H2 (.lst (ensD (ents t))) (.ref l):=by rw [DIs]; exact ⟨l,xs,rfl,SqL.of (s2 _ _ hl),ensD_is (hen.kp (kp_of s2))⟩
  have d2:DIs K H2 (.lst (ensD (ents t'))) (.ref l'):=by rw [DIs]; exact ⟨l',xs',rfl,SqL.of hl',ensD_is hen'⟩
  have dd:=ensD_dep (ents t)
  refine ⟨_,_,d1,d2,⟨_,rfl⟩,⟨_,rfl⟩,by rw [dep]; omega,q _ _ (s1.trans s2) ?_⟩
  rw [if_neg Bool.false_ne_true,deq,ensD_eq]
  constructor
  ·intro h
   have h1:ents t++[]=ents t'++[]:=by rw [h]
   exact (ents_inj _ _ _ _ h1).1
  ·intro h; rw [h]
def swp (ww hh:Int):Tr→Tr
 | .whole m=>.whole m
 | .cut u k x y=>.cut u ((if u=true then ww else hh) - k) y x
theorem swp_fit {ww hh:Int}:∀ {t:Tr},Fit t ww hh→Fit (swp ww hh t) ww hh
 | .whole _,_=>trivial
 | .cut true k x y,f=>by
  have f:1≤k∧k < ww∧Fit x k hh∧Fit y (ww - k) hh:=f
  obtain ⟨a,b,c,d⟩:=f
  show 1≤ww - k∧ww - k < ww∧Fit y (ww - k) hh∧Fit x (ww - (ww - k)) hh
  rw [show ww - (ww - k)=k by omega]
  exact ⟨by omega,by omega,d,c⟩
 | .cut false k x y,f=>by
  have f:1≤k∧k < hh∧Fit x ww k∧Fit y ww (hh - k):=f
  obtain ⟨a,b,c,d⟩:=f
  show 1≤hh - k∧hh - k < hh∧Fit y ww (hh - k)∧Fit x ww (hh - (hh - k))
  rw [show hh - (hh - k)=k by omega]
  exact ⟨by omega,by omega,d,c⟩
def sp_swapped:Sp:=fun vs H Q _=>∃ (v:V) (t:Tr) (ww hh:Int),vs=[v,.int ww,.int hh]∧Told H t v∧∀ v' H',Same H H'→Told H' (swp ww hh t) v'→Q v' H'
theorem at_sel {u:Bool} {x y:Int}:atI [V.int x,V.int y] (if decide (V.str (wd u)=V.str "upright")=true then (1:Int) else 0)=some (.int (if u=true then y else x)):=by
 rw [show (if decide (V.str (wd u)=V.str "upright")=true then (1:Int) else 0)=sd u by rw [wd_eq]; rfl]
 cases u <;> rfl
theorem S_law_swapped:FnScope ["_law_told_here","_law_width","_law_height"] ["_law_told_here","_law_width","_law_height"] (defScope s__law_swapped):=⟨rfl,rfl,rfl,by decide +kernel,rfl,by decide +kernel,by decide +kernel⟩
theorem ok_law_swapped {f:Addr} {fd:FuncData} (F:Fun K "_law_swapped" "_law_swapped" s__law_swapped f fd) (T:Txt mg tk):FnOk P w K mg base CX0 1 f fd ["_law_told_here","_law_width","_law_height"] sp_swapped:=by
 have S:=S_law_swapped
 refine F.ok S (fun vs H Q E h=>?_) (fun cdv A outer s H vs Q E hr h=>?_)
 ·obtain ⟨v,t,ww,hh,rfl,_⟩:=h; rfl
 ·obtain ⟨v,t,ww,hh,rfl,ht,q⟩:=h
  refine ⟨_,(pss_cons (ps_if (pt_cmpR op_eq (pe_ix ix_tup (pv 0) pe_int (fun _ _=>rfl)) pe_str (nomark _)) (pss_one (ps_ret (pv 0))) pss_nil)
   (pss_one (ps_ret (pe_tup (pa_cons (pe_ix ix_tup (pv 0) pe_int (fun _ _=>rfl)) (pa_cons (pe_op op_sub (pe_ix ix_list (pe_lst (pa_cons (pv 2) (pa_cons (pv 1) pa_nil))) (pe_callTy call_int1 rfl T.z_int rfl (pa_cons (pe_cmpR op_eq (pe_ix ix_tup (pv 0) pe_int (fun _ _=>rfl)) pe_str (nomark _)) pa_nil)) (fun _ _=>rfl)) (pe_ix ix_tup (pv 0) pe_int (fun _ _=>rfl))) (pa_cons (pe_ix ix_tup (pv 0) pe_int (fun _ _=>rfl)) (pa_cons (pe_ix ix_tup (pv 0) pe_int (fun _ _=>rfl)) pa_nil)))))))),?_⟩
  cases t with
  | whole m =>
   have ht0:=ht
   rw [Told] at ht
   obtain ⟨a,rfl,ha⟩:=ht
   exact ⟨_,rfl,a,_,_,_,rfl,rfl,SqT.of ha,at2_0,rfl,_,rfl,iteP (decide_eq_true rfl) ⟨_,rfl,q _ H (Same.refl _) ht0⟩⟩
  | cut u k y1 y2 =>
   rw [Told] at ht
   obtain ⟨a,v1,v2,rfl,ha,t1,t2⟩:=ht
   refine ⟨_,rfl,a,_,_,_,rfl,rfl,SqT.of ha,at0,rfl,_,rfl,iteN (wd_whole u) ?_⟩
   refine ⟨_,rfl,a,_,_,_,rfl,rfl,SqT.of ha,at0,_,rfl,_,rfl,lenOk 2,fun l nl=>?_⟩
   have s1:Same H (upd H l (.lst [.int hh,.int ww])):=Same.new nl
   have e1:(upd H l (.lst [.int hh,.int ww])) l=some (.lst [.int hh,.int ww]):=upd_same
   generalize upd H l (.lst [.int hh,.int ww])=H1 at s1 e1 ⊢
   have a1:=s1 _ _ ha
   refine ⟨_,rfl,a,_,_,_,rfl,rfl,SqT.of a1,at0,rfl,.inr ⟨_,rfl,l,_,_,_,rfl,rfl,SqL.of e1,at_sel,?_⟩⟩
   refine ⟨_,rfl,a,_,_,_,rfl,rfl,SqT.of a1,at1,_,_,rfl,rfl,_,rfl,a,_,_,_,rfl,rfl,SqT.of a1,at3,_,rfl,a,_,_,_,rfl,rfl,SqT.of a1,at2,lenOk 4,fun e ne=>?_⟩
   have s2:Same H1 (upd H1 e (.tup [.str (wd u),.int ((if u=true then ww else hh) - k),v2,v1])):=Same.new ne
   refine q _ _ (s1.trans s2) ?_
   rw [swp,Told]
   exact ⟨e,v2,v1,rfl,upd_same,t2.same (s1.trans s2),t1.same (s1.trans s2)⟩
abbrev N_law:List Str:=["_law_script","_law_width","_law_height","_law_told_here","_law_block","_law_some","_law_other","_law_alone","_law_trees","_law_forms","_law_one","_law_two"]
theorem S_law:FnScope N_law ["_law_script"] (defScope s_law):=⟨rfl,rfl,rfl,by decide +kernel,rfl,by decide +kernel,by decide +kernel⟩
def GOk (cW cU cL:Addr) (H:Hp) (ww hh:Int) (t:Tr) (g:V) (G:Tr):Prop:=Obj cW cU cL H G g∧Fit G ww hh∧∃ L,Due t ww hh L∧IsF G L ⟨0,0,hh,ww⟩∧(gath G ⟨0,0,hh,ww⟩).Perm L
theorem form_iff {cW cU cL:Addr} {H:Hp} {ww hh:Int} {t r G1 G2:Tr} {g1 g2:V} (w1:1≤ww) (w2:ww≤12) (h1:1≤hh) (h2:hh≤12) (ft:Fit t ww hh) (a:GOk cW cU cL H ww hh t g1 G1) (b:GOk cW cU cL H ww hh r g2 G2):G1=G2↔(gath t ⟨0,0,hh,ww⟩).Perm (gath r ⟨0,0,hh,ww⟩):=by
 obtain ⟨_,f1,L1,d1,i1,p1⟩:=a
 obtain ⟨_,f2,L2,d2,i2,p2⟩:=b
 constructor
 ·intro e
  subst e
  exact d1.1.symm.trans (p1.symm.trans (p2.trans d2.1))
 ·intro pm
  have e:=(due_iff w1 w2 h1 h2 ft d1 d2).mpr pm
  subst e
  exact isF_uniq (ok0 w1 h1) i1 i2
theorem bl_ne {a b:Bool} {p:Prop} (ha:a=true↔p) (hb:b=true↔p):(!decide (V.bl a=V.bl b))=false:=by
 have:a=b:=by
  cases a <;> cases b
  ·rfl
  ·exact absurd (ha.mpr (hb.mp rfl)) (by decide)
  ·exact absurd (hb.mpr (ha.mp rfl)) (by decide)
  ·rfl
 rw [this,decide_eq_true rfl]; rfl
def sp_law (tb tb3:Addr) (K:PySem.W.Frag):Sp:=fun vs H Q _=>∃ (a:Addr) (ns:List Int),vs=[.ref a]∧SqL K H a (ns.map V.int)∧ns.length≤63∧H tb=some (.tbl #[])∧H tb3=some (.tbl #[])∧∀ H',Q (.bl true) H'
theorem ok_law {f tb tb3:Addr} {fd:FuncData} (F:Fun K "law" "law" s_law f fd) (T:Txt mg tk) (hne:tb≠tb3) (D__law_cell:DefOk P w K mg base 1 "_law_cell" ["_law_script","_law_k"] (sp_cell K)) (D__law_state:DefOk P w K mg base 1 "_law_state" ["_law_cell_here"] sp_state)
  (D__law_tree:DefOk P w K mg base 28 "_law_tree" ["_law_cells","_law_width","_law_height"] (sp_tree 25)) (D__law_pieces:DefOk P w K mg base 27 "_law_pieces" ["_law_told_here","_law_block"] (sp_lpieces 24)) (D__law_recut:DefOk P w K mg base 28 "_law_recut" ["_law_some","_law_block","_law_state_here"] (sp_recut 25)) (D__law_made:DefOk P w K mg base 27 "_law_made" ["_law_told_here"] (sp_made cW cU cL 24)) (D_form:DefOk P w K mg base 9 "form" ["tree","width","height"] (sp_form tb tb3 cW cU cL)) (D__law_told:DefOk P w K mg base 27 "_law_told" ["_law_tree_here"] (sp_ltold cW cU cL 24))
  (D_alike:DefOk P w K mg base 6 "alike" ["tree","other","width","height"] (sp_alike tb cW cU cL)) (D__law_spoiled:DefOk P w K mg base 27 "_law_spoiled" ["_law_told_here","_law_cell_here"] (sp_spoiled 24)) (D__law_swapped:DefOk P w K mg base 1 "_law_swapped" ["_law_told_here","_law_width","_law_height"] sp_swapped) (M_same:∀ C,IsT cW cU cL C→MdOk P w K mg base 4 C "same" ["self","other"] (sp_msame cW cU cL)):FnOk P w K mg base CX0 29 f fd ["_law_script"] (sp_law tb tb3 K):=by
 have S:=S_law
 refine F.ok S (fun vs H Q E h=>?_) (fun cdv A outer s H vs Q E hr h=>?_)
 ·obtain ⟨a,ns,rfl,_⟩:=h; rfl
 ·obtain ⟨a,ns,rfl,hS,hlen,htb,htb3,q⟩:=h
  obtain ⟨tD,hD,kD⟩:∃ rd,PSs (cxOf CX0 P w K mg base N_law "law" (defScope s_law) f cdv A outer s H E).nox ((defBody s_law).drop 11) rd∧∀ (x0 x4 x5:Option V) (ww hh:Int) (v v2 o1 o2 g1 g2:V) (lt lf:Addr) (t r G1 G2:Tr) (al:Bool) (H1:Hp),1≤ww→ww≤12→1≤hh→hh≤12→Told H1 t v→Told H1 r v2→Fit t ww hh→Fit r ww hh→Obj cW cU cL H1 t o1→Obj cW cU cL H1 r o2→H1 lt=some (.lst [o1,o2])→H1 lf=some (.lst [g1,g2])→GOk cW cU cL H1 ww hh t g1 G1→GOk cW cU cL H1 ww hh r g2 G2→(al=true↔(gath t ⟨0,0,hh,ww⟩).Perm (gath r ⟨0,0,hh,ww⟩))→TabOk lamQ lamN tb H1→TabOk lamQ3 lamN3 tb3 H1 →
    rd { nx:=fun _ H'=>Q .non H',rt:=Q } [x0,some (.int ww),some (.int hh),some v,x4,x5,some v2,some (.bl al),some (.ref lt),some (.ref lf),none,none] H1:=by
   refine ⟨_,(pss_cons (ps_if (pt_cmpR op_ne (pe_cmpR (op_eqD hr) (pe_fn D__law_told hr (pa_cons (pe_ix ix_list (pv 9) pe_int (fun _ _=>rfl)) pa_nil)) (pe_fn D__law_told hr (pa_cons (pe_ix ix_list (pv 9) pe_int (fun _ _=>rfl)) pa_nil)) (nomark _)) (pv 7) (nomark _)) (pss_one (ps_ret pe_bl)) pss_nil)
   (pss_cons (ps_for PassesOwn.never rfl (pi_list (pe_lst (pa_cons (pe_tup (pa_cons pe_int (pa_cons pe_int pa_nil))) (pa_cons (pe_tup (pa_cons pe_int (pa_cons pe_int pa_nil))) pa_nil)))) (pg_tup rfl (pgs_cons (pg_name (i:=10) S.nd rfl (Or.inl rfl)) (pgs_cons (pg_name (i:=11) S.nd rfl (Or.inl rfl)) pgs_nil))) (pss_cons (ps_if (pt_cmpR op_ne (pe_mdS M_same hr (pe_ix ix_list (pv 9) (pv 10) (fun _ _=>rfl)) (pa_cons (pe_ix ix_list (pv 9) (pv 11) (fun _ _=>rfl)) pa_nil)) (pv 7) (nomark _)) (pss_one (ps_ret pe_bl)) pss_nil)
   (pss_one (ps_if (pt_cmpR op_ne (pe_fn D_alike hr (pa_cons (pe_ix ix_list (pv 8) (pv 10) (fun _ _=>rfl)) (pa_cons (pe_ix ix_list (pv 8) (pv 11) (fun _ _=>rfl)) (pa_cons (pv 1) (pa_cons (pv 2) pa_nil))))) (pv 7) (nomark _)) (pss_one (ps_ret pe_bl)) pss_nil))))
   (pss_one (ps_ret (pe_and (pe_cmpR (op_eqD hr) (pe_fn D__law_told hr (pa_cons (pe_ix ix_list (pv 8) pe_int (fun _ _=>rfl)) pa_nil)) (pv 3) (nomark _)) (pe_one (pe_cmpR (op_eqD hr) (pe_fn D__law_told hr (pa_cons (pe_ix ix_list (pv 8) pe_int (fun _ _=>rfl)) pa_nil)) (pv 6) (nomark _)))))))),?_⟩
   intro x0 x4 x5 ww hh v v2 o1 o2 g1 g2 lt lf t r G1 G2 al H1 w1 w2 h1 h2 tt tr ft fr b1 b2 hlt hlf ok1 ok2 hal tab tab3
   obtain ⟨_,ndt,dpt⟩:=fit_small w1 w2 h1 h2 ft
   obtain ⟨_,ndr,dpr⟩:=fit_small w1 w2 h1 h2 fr
   have fi:=form_iff w1 w2 h1 h2 ft ok1 ok2
   obtain ⟨og1,fg1,_⟩:=ok1
   obtain ⟨og2,fg2,_⟩:=ok2
   obtain ⟨_,nd1,dp1⟩:=fit_small w1 w2 h1 h2 fg1
   obtain ⟨_,nd2,dp2⟩:=fit_small w1 w2 h1 h2 fg2
   refine ⟨_,rfl,lf,_,_,_,rfl,rfl,SqL.of hlf,at2_0,g1,G1,rfl,og1,dp1,fun u1 H2 s2 q1=>?_⟩
   refine ⟨_,rfl,lf,_,_,_,rfl,rfl,SqL.of (s2 _ _ hlf),at2_1,g2,G2,rfl,og2.same s2,dp2,fun u2 H3 s3 q2=>?_⟩
   have q1:=q1.same s3
   have D1:=trD_is (K:=K) q1
   have D2:=trD_is (K:=K) q2
   refine ⟨_,_,D1,D2,told_ref q1,told_ref q2,by have:=trD_dep G1; omega,?_⟩
   have s13:=s2.trans s3
   refine ⟨_,rfl,rfl,_,rfl,iteN (bl_ne (Iff.trans ⟨fun e=>trD_eq e,fun e=>?_⟩ fi) hal) ?_⟩
   ·rw [if_neg Bool.false_ne_true,e]
    rw [e] at D1
    exact deq_refl _ D1
   refine ⟨lenOk 2,fun pa na=>?_⟩
   have s4:Same H3 (upd H3 pa (.tup [.int 0,.int 1])):=Same.new na
   have e4:(upd H3 pa (.tup [.int 0,.int 1])) pa=some (.tup [.int 0,.int 1]):=upd_same
   generalize upd H3 pa (.tup [.int 0,.int 1])=H4 at s4 e4 ⊢
   refine ⟨lenOk 2,fun pb nb=>?_⟩
   have s5:Same H4 (upd H4 pb (.tup [.int 1,.int 0])):=Same.new nb
   have e5:(upd H4 pb (.tup [.int 1,.int 0])) pb=some (.tup [.int 1,.int 0]):=upd_same
   generalize upd H4 pb (.tup [.int 1,.int 0])=H5 at s5 e5 ⊢
   refine ⟨lenOk 2,fun lp np=>?_⟩
   have s6:Same H5 (upd H5 lp (.lst [.ref pa,.ref pb])):=Same.new np
   have e6:(upd H5 lp (.lst [.ref pa,.ref pb])) lp=some (.lst [.ref pa,.ref pb]):=upd_same
   generalize upd H5 lp (.lst [.ref pa,.ref pb])=H6 at s6 e6 ⊢
   have s16:=s13.trans (s4.trans (s5.trans s6))
   have pa6:=(s5.trans s6) _ _ e4
   have pb6:=s6 _ _ e5
   refine ⟨lp,rfl,⟨_,SqL.of e6⟩,for_list (K:=K) (a:=lp) (xs:=[.ref pa,.ref pb]) (fun i σ H'=>∃ y z,σ=[x0,some (.int ww),some (.int hh),some v,x4,x5,some v2,some (.bl al),some (.ref lt),some (.ref lf),y,z]∧SameN H6 H'∧TabOk lamQ lamN tb H'∧TabOk lamQ3 lamN3 tb3 H') ⟨_,_,rfl,SameN.refl _,tab.same s16,tab3.same s16⟩ (fun i σ H' _ hp=>let ⟨_,_,_,h,_⟩:=hp; SqL.of (h.lst e6)) ?_ ?_⟩
   ·rintro i x σ H' hx ⟨y,z,rfl,s7,tb7,tb37⟩
    obtain ⟨pj,j,k,oA,oB,gA,gB,tA,tB,GA,GB,rfl,hpj,aA,aB,cA,cB,ObA,ObB,OgA,OgB,fA,fB,nA,nB,iF,iT⟩:∃ (pj:Addr) (j k:Int) (oA oB gA gB:V) (tA tB GA GB:Tr),x=.ref pj∧H6 pj=some (.tup [.int j,.int k])∧atI [o1,o2] j=some oA∧atI [o1,o2] k=some oB∧atI [g1,g2] j=some gA∧atI [g1,g2] k=some gB∧Obj cW cU cL H1 tA oA∧Obj cW cU cL H1 tB oB∧Obj cW cU cL H1 GA gA∧Obj cW cU cL H1 GB gB∧Fit tA ww hh∧Fit tB ww hh∧GA.nd≤400∧GB.nd≤400∧(GA=GB↔(gath t ⟨0,0,hh,ww⟩).Perm (gath r ⟨0,0,hh,ww⟩))∧((gath tA ⟨0,0,hh,ww⟩).Perm (gath tB ⟨0,0,hh,ww⟩)↔(gath t ⟨0,0,hh,ww⟩).Perm (gath r ⟨0,0,hh,ww⟩)):=by
     match i,hx with
     | 0,hx=>cases hx; exact ⟨pa,0,1,o1,o2,g1,g2,t,r,G1,G2,rfl,pa6,rfl,rfl,rfl,rfl,b1,b2,og1,og2,ft,fr,nd1,nd2,fi,Iff.rfl⟩
     | 1,hx=>cases hx; exact ⟨pb,1,0,o2,o1,g2,g1,r,t,G2,G1,rfl,pb6,rfl,rfl,rfl,rfl,b2,b1,og2,og1,fr,ft,nd2,nd1,eq_comm.trans fi,⟨List.Perm.symm,List.Perm.symm⟩⟩
    have s17:=s16.n.trans s7
    obtain ⟨C,ga,dx,fs,hC,rfl,hins,hlk⟩:=obj_ins (OgA.n s17)
    refine ⟨pj,_,rfl,SqT.of (s7.tup hpj),rfl,_,_,rfl,_,_,rfl,rfl,?_⟩
    refine ⟨_,rfl,_,rfl,lf,_,_,_,rfl,rfl,SqL.of (s17.lst hlf),cA,C,ga,dx,fs,hC,rfl,hins,hlk _ (by decide +kernel) (by decide +kernel) (by decide +kernel) (by decide +kernel),?_⟩
    refine ⟨_,rfl,_,rfl,lf,_,_,_,rfl,rfl,SqL.of (s17.lst hlf),cB,_,_,GA,GB,rfl,OgA.n s17,OgB.n s17,nA,nB,fun b H8 s8 hb=>?_⟩
    refine ⟨_,rfl,rfl,_,rfl,iteN (bl_ne (hb.trans iF) hal) ?_⟩
    have s18:=s17.trans s8.n
    have tb8:=tb7.same s8
    refine ⟨_,rfl,_,rfl,lt,_,_,_,rfl,rfl,SqL.of (s18.lst hlt),aA,_,rfl,_,rfl,lt,_,_,_,rfl,rfl,SqL.of (s18.lst hlt),aB,_,rfl,_,rfl,oA,oB,tA,tB,ww,hh,rfl,ObA.n s18,ObB.n s18,tb8,w1,w2,h1,h2,fA,fB,fun b' H9 sx tb9 hb'=>?_⟩
    refine ⟨_,rfl,rfl,_,rfl,iteN (bl_ne (hb'.trans iT) hal) ?_⟩
    exact ⟨_,_,rfl,(s7.trans s8.n).trans (sx.toN tb8.tbl),tb9,(tb37.same s8).tb sx (Ne.symm hne) tb8.tbl⟩
   ·rintro σ H' ⟨y,z,rfl,s7,tb7,tb37⟩
    have s17:=s16.n.trans s7
    refine ⟨_,rfl,lt,_,_,_,rfl,rfl,SqL.of (s17.lst hlt),at2_0,o1,t,rfl,b1.n s17,dpt,fun u3 H8 s8 q3=>?_⟩
    have s18:=s17.trans s8.n
    have D3:=trD_is (K:=K) q3
    have D4:=trD_is (K:=K) (tt.n s18)
    refine ⟨_,rfl,_,_,D3,D4,told_ref q3,told_ref (tt.n s18),by have:=trD_dep t; omega,_,rfl,iteP (by rw [if_neg Bool.false_ne_true]; exact deq_refl _ D3) ?_⟩
    refine ⟨_,rfl,lt,_,_,_,rfl,rfl,SqL.of (s18.lst hlt),at2_1,o2,r,rfl,b2.n s18,dpr,fun u4 H9 s9 q4=>?_⟩
    have s19:=s18.trans s9.n
    have D5:=trD_is (K:=K) q4
    have D6:=trD_is (K:=K) (tr.n s19)
    refine ⟨_,rfl,_,_,D5,D6,told_ref q4,told_ref (tr.n s19),by have:=trD_dep r; omega,?_⟩
    rw [if_neg Bool.false_ne_true,deq_refl _ D5]
    exact q H9
  obtain ⟨tC,hC,kC⟩:∃ rd,PSs (cxOf CX0 P w K mg base N_law "law" (defScope s_law) f cdv A outer s H E).nox ((defBody s_law).drop 8) rd∧∀ (x0:Option V) (ww hh:Int) (v v2:V) (bk ls:Addr) (zs:List PT) (t r:Tr) (H1:Hp),1≤ww→ww≤12→1≤hh→hh≤12→Told H1 t v→Told H1 r v2→Fit t ww hh→Fit r ww hh→H1 bk=some (.tup [.int 0,.int 0,.int hh,.int ww])→H1 ls=some (.lst (pcs zs))→PcO H1 zs→Due t ww hh (cons zs)→TabOk lamQ lamN tb H1→TabOk lamQ3 lamN3 tb3 H1 →
    rd { nx:=fun _ H'=>Q .non H',rt:=Q } [x0,some (.int ww),some (.int hh),some v,some (.ref bk),some (.ref ls),some v2,none,none,none,none,none] H1:=by
   refine ⟨_,(pss_cons (ps_set (i:=7) S.nd rfl (Or.inl rfl) (pe_cmpR (op_eqD hr) (pe_callB (call_sortedP hr) rfl T.z_sorted rfl (pa_cons (pe_fn D__law_pieces hr (pa_cons (pv 6) (pa_cons (pv 4) pa_nil))) pa_nil)) (pv 5) (nomark _)))
   (pss_cons (ps_set (i:=8) S.nd rfl (Or.inl rfl) (pe_lst (pa_cons (pe_fn D__law_made hr (pa_cons (pv 3) pa_nil)) (pa_cons (pe_fn D__law_made hr (pa_cons (pv 6) pa_nil)) pa_nil))))
   (pss_cons (ps_setComp rfl (pg_name (i:=9) S.nd rfl (Or.inl rfl)) (pi_list (pv 8)) (fun _ _ _ _ _=>(pg_name (i:=0) (show List.Nodup (["_law_tree_here","_law_width","_law_height"]:List Str) from by decide +kernel) rfl (Or.inl rfl))) (fun _ _ _ _ _=>(pe_fn D_form hr (pa_cons (pv 0) (pa_cons (pv 1) (pa_cons (pv 2) pa_nil))))) (N:=["_law_tree_here","_law_width","_law_height"]) (fr:=[none,some 1,some 2]))
   hD))),?_⟩
   intro x0 ww hh v v2 bk ls zs t r H1 w1 w2 h1 h2 tt tr ft fr hbk hls pcz dz tab tab3
   obtain ⟨_,ndt,dpt⟩:=fit_small w1 w2 h1 h2 ft
   obtain ⟨_,ndr,dpr⟩:=fit_small w1 w2 h1 h2 fr
   refine ⟨_,rfl,_,rfl,v2,r,bk,⟨0,0,hh,ww⟩,rfl,tr,hbk,dpr,ndr,fun lp ts H6 s6 nl6 hl6 pc6 ec6=>?_⟩
   obtain ⟨r1,r2,r3,r4⟩:=srt_pcs w1 w2 h1 h2 fr pc6 ec6
   refine ⟨lp,ts.map toPR,3,GB.key,rfl,by rw [pr_refs]; exact SqL.of hl6,r1,r2,r3,fun l7 us7 n7 pm sr=>?_⟩
   obtain ⟨zs',rfl,pz,dz'⟩:=r4 us7 pm sr
   rw [pr_refs]
   have s7:Same H6 (upd H6 l7 (.lst (pcs zs'))):=Same.new n7
   have e7:(upd H6 l7 (.lst (pcs zs'))) l7=some (.lst (pcs zs')):=upd_same
   generalize upd H6 l7 (.lst (pcs zs'))=H7 at s7 e7 ⊢
   have s17:=s6.trans s7
   have D3:DIs K H7 (.lst (gsD (cons zs'))) (.ref l7):=gsL e7 ((pc6.perm pz).same s7)
   have D4:DIs K H7 (.lst (gsD (cons zs))) (.ref ls):=gsL (s17 _ _ hls) (pcz.same s17)
   refine ⟨_,rfl,_,_,D3,D4,⟨_,rfl⟩,⟨_,rfl⟩,by have:=gsD_dep (cons zs'); rw [dep]; omega,?_⟩
   rw [if_neg Bool.false_ne_true]
   obtain ⟨al,eal,hal⟩:∃ al,deq (D.lst (gsD (cons zs'))) (D.lst (gsD (cons zs)))=al∧(al=true↔(gath t ⟨0,0,hh,ww⟩).Perm (gath r ⟨0,0,hh,ww⟩)):=by
    refine ⟨_,rfl,Iff.trans ⟨fun e=>?_,fun e=>?_⟩ ((due_iff w1 w2 h1 h2 fr dz' dz).trans ⟨List.Perm.symm,List.Perm.symm⟩)⟩
    ·rw [deq] at e; exact gs_eq e
    ·rw [e] at D3 ⊢; exact deq_refl _ D3
   rw [eal]
   refine ⟨_,rfl,v,t,rfl,tt.same s17,dpt,fun o1 H8 s8 b1=>?_⟩
   have s18:=s17.trans s8
   refine ⟨_,rfl,v2,r,rfl,tr.same s18,dpr,fun o2 H9 s9 b2=>⟨lenOk 2,fun lt nlt=>?_⟩⟩
   have s10:Same H9 (upd H9 lt (.lst [o1,o2])):=Same.new nlt
   have e10:(upd H9 lt (.lst [o1,o2])) lt=some (.lst [o1,o2]):=upd_same
   generalize upd H9 lt (.lst [o1,o2])=H10 at s10 e10 ⊢
   have s11:=s18.trans (s9.trans s10)
   have b1:=(b1.same s9).same s10
   have b2:=b2.same s10
   have tb1:=tab.same s11
   have tb31:=tab3.same s11
   refine ⟨_,rfl,lt,rfl,⟨_,SqL.of e10⟩,fun acc hacc=>comp_list (K:=K) (a:=lt) (ys:=[o1,o2]) (fun i zs σ H'=>(∃ y,σ=[y,some (.int ww),some (.int hh)])∧SameN H10 H'∧TabOk lamQ lamN tb H'∧TabOk lamQ3 lamN3 tb3 H'∧∀ j g,zs[j]?=some g→∃ tj G,[t,r][j]?=some tj∧GOk cW cU cL H' ww hh tj g G) ⟨⟨none,rfl⟩,(Same.new hacc).n,tb1.same (Same.new hacc),tb31.same (Same.new hacc),fun j g e=>by rw [List.getElem?_nil] at e; cases e⟩ (fun i zs σ H' _ _ hp=>SqL.of (hp.2.1.lst e10)) ?_ ?_⟩
   ·rintro k x zs σ H' hx hk hl' hacc' ⟨⟨y,rfl⟩,hs,tb2,tb32,hz⟩
    obtain ⟨tk,hk2,hk3,fk,nk⟩:∃ tk,[t,r][k]?=some tk∧Obj cW cU cL H10 tk x∧Fit tk ww hh∧tk.nd≤400:=by
     match k,hx with
     | 0,hx=>cases hx; exact ⟨t,rfl,b1,ft,ndt⟩
     | 1,hx=>cases hx; exact ⟨r,rfl,b2,fr,ndr⟩
    refine ⟨_,rfl,_,rfl,_,rfl,x,tk,ww,hh,rfl,hk3.n hs,nk,tb2,tb32,w1,w2,h1,h2,fk,fun g G L H3 s3 tb4 tb34 du og fg isf gpm=>?_⟩
    have a3:=s3.lst hacc'
    refine cNx.mk (Nat.le_of_lt (small1000 (by show 2≤1000; omega))) hk hl' a3 ⟨⟨_,rfl⟩,SameN.put (hs.trans s3) (fun o e=>by rw [hacc] at e; cases e),TabOk.upd tb4 a3,TabOk.upd tb34 a3,fun j g' e=>?_⟩
    rcases Nat.lt_or_ge j zs.length with hj | hj
    ·rw [List.getElem?_append_left hj] at e
     obtain ⟨tj,G',e1,o1',f1',z⟩:=hz j g' e
     exact ⟨tj,G',e1,(o1'.n s3).kp (Kp.put a3),f1',z⟩
    ·have je:j=zs.length:=by
      rcases Nat.lt_or_ge zs.length j with hj' | hj'
      ·rw [List.getElem?_eq_none (by rw [List.length_append]; show zs.length+1≤j; omega)] at e; cases e
      ·exact Nat.le_antisymm hj' hj
     subst je
     rw [List.getElem?_append_right (Nat.le_refl _),Nat.sub_self] at e
     cases e
     exact ⟨tk,G,by rw [hl']; exact hk2,og.kp (Kp.put a3),fg,L,du,isf,gpm⟩
   ·rintro zs σ H' hl' hacc' ⟨_,hs,tb2,tb32,hz⟩
    match zs,hl' with
    | [g1,g2],_ =>
     obtain ⟨t1,G1,e1,k1⟩:=hz 0 g1 rfl
     obtain ⟨t2,G2,e2,k2⟩:=hz 1 g2 rfl
     cases e1
     cases e2
     have s1:=s11.n.trans hs
     exact kD x0 _ _ ww hh v v2 o1 o2 g1 g2 lt acc t r G1 G2 al H' w1 w2 h1 h2 (tt.n s1) (tr.n s1) ft fr (b1.n hs) (b2.n hs) (hs.lst e10) hacc' k1 k2 hal tb2 tb32
  obtain ⟨tB,hB,kB⟩:∃ rd,PSs (cxOf CX0 P w K mg base N_law "law" (defScope s_law) f cdv A outer s H E).nox ((defBody s_law).drop 7) rd∧∀ (ww hh:Int) (v v2:V) (bk ls:Addr) (zs:List PT) (t r:Tr) (H1:Hp),SqL K H1 a (ns.map V.int)→1≤ww→ww≤12→1≤hh→hh≤12→Told H1 t v→Told H1 r v2→Fit t ww hh→Fit r ww hh→H1 bk=some (.tup [.int 0,.int 0,.int hh,.int ww])→H1 ls=some (.lst (pcs zs))→PcO H1 zs→Due t ww hh (cons zs)→TabOk lamQ lamN tb H1→TabOk lamQ3 lamN3 tb3 H1 →
    rd { nx:=fun _ H'=>Q .non H',rt:=Q } [some (.ref a),some (.int ww),some (.int hh),some v,some (.ref bk),some (.ref ls),some v2,none,none,none,none,none] H1:=by
   refine ⟨_,(pss_cons (ps_if (pt_cmpR op_eq (pe_op op_mod (pe_fn D__law_cell hr (pa_cons (pv 0) (pa_cons pe_int pa_nil))) pe_int) pe_int (nomark _)) (pss_one (ps_set (i:=6) S.nd rfl (Or.inl rfl) (pe_fn D__law_swapped hr (pa_cons (pv 6) (pa_cons (pv 1) (pa_cons (pv 2) pa_nil)))))) pss_nil)
   hC),?_⟩
   intro ww hh v v2 bk ls zs t r H1 hS1 w1 w2 h1 h2 tt tr ft fr hbk hls pcz dz tab tab3
   refine ⟨_,rfl,a,ns,3,rfl,hS1,by decide,fun z=>⟨_,_,rfl,rfl,(show (0:Int) < 4 from by decide),rfl,_,rfl,ite3 (fun c=>?_) (fun c=>?_)⟩⟩
   ·refine ⟨_,rfl,_,rfl,_,rfl,v2,r,ww,hh,rfl,tr,fun v3 H2 s2 t3=>?_⟩
    exact kC _ ww hh v v3 bk ls zs t _ H2 w1 w2 h1 h2 (tt.same s2) t3 ft (swp_fit fr) (s2 _ _ hbk) (s2 _ _ hls) (pcz.same s2) dz (tab.same s2) (tab3.same s2)
   ·exact kC _ ww hh v v2 bk ls zs t r H1 w1 w2 h1 h2 tt tr ft fr hbk hls pcz dz tab tab3
  refine ⟨_,(pss_cons (ps_set (i:=1) S.nd rfl (Or.inr rfl) (pe_op op_add pe_int (pe_op op_mod (pe_fn D__law_cell hr (pa_cons (pv 0) (pa_cons pe_int pa_nil))) pe_int)))
   (pss_cons (ps_set (i:=2) S.nd rfl (Or.inr rfl) (pe_op op_add pe_int (pe_op op_mod (pe_fn D__law_cell hr (pa_cons (pv 0) (pa_cons pe_int pa_nil))) pe_int)))
   (pss_cons (ps_set (i:=3) S.nd rfl (Or.inl rfl) (pe_fn D__law_tree hr (pa_cons (pe_rev (pe_slice sl_list (pv 0) (po_some pe_int) (po_some pe_int)) (pe_un un_neg pe_int)) (pa_cons (pv 1) (pa_cons (pv 2) pa_nil)))))
   (pss_cons (ps_set (i:=4) S.nd rfl (Or.inl rfl) (pe_tup (pa_cons pe_int (pa_cons pe_int (pa_cons (pv 2) (pa_cons (pv 1) pa_nil))))))
   (pss_cons (ps_set (i:=5) S.nd rfl (Or.inl rfl) (pe_callB (call_sortedP hr) rfl T.z_sorted rfl (pa_cons (pe_fn D__law_pieces hr (pa_cons (pv 3) (pa_cons (pv 4) pa_nil))) pa_nil)))
   (pss_cons (ps_set (i:=6) S.nd rfl (Or.inl rfl) (pe_fn D__law_recut hr (pa_cons (pv 5) (pa_cons (pv 4) (pa_cons (pe_fn D__law_state hr (pa_cons (pe_fn D__law_cell hr (pa_cons (pv 0) (pa_cons pe_int pa_nil))) pa_nil)) pa_nil)))))
   (pss_cons (ps_if (pt_cmpR op_eq (pe_op op_mod (pe_fn D__law_cell hr (pa_cons (pv 0) (pa_cons pe_int pa_nil))) pe_int) pe_int (nomark _)) (pss_one (ps_set (i:=6) S.nd rfl (Or.inl rfl) (pe_fn D__law_spoiled hr (pa_cons (pv 6) (pa_cons (pe_fn D__law_cell hr (pa_cons (pv 0) (pa_cons pe_int pa_nil))) pa_nil))))) pss_nil)
   hB))))))),?_⟩
  refine ⟨_,rfl,a,ns,0,rfl,hS,by decide,fun z1=>⟨_,_,rfl,rfl,(show (0:Int) < 12 from by decide),_,_,rfl,rfl,?_⟩⟩
  refine ⟨_,rfl,a,ns,1,rfl,hS,by decide,fun z2=>⟨_,_,rfl,rfl,(show (0:Int) < 12 from by decide),_,_,rfl,rfl,?_⟩⟩
  have w1:1≤1+z1 % 12:=by omega
  have w2:1+z1 % 12≤12:=by omega
  have g1:1≤1+z2 % 12:=by omega
  have g2:1+z2 % 12≤12:=by omega
  refine ⟨_,rfl,5,rfl,51,rfl,a,_,rfl,hS,fun l nl=>?_⟩
  obtain ⟨cs,ecs⟩:∃ cs:List Int,cutV (ns.map V.int) (some 5) (some 51)=cs.map V.int:=⟨_,by unfold cutV; rw [← List.map_drop,← List.map_take]⟩
  rw [ecs]
  have y1:Same H (upd H l (.lst (cs.map V.int))):=Same.new nl
  have e1:(upd H l (.lst (cs.map V.int))) l=some (.lst (cs.map V.int)):=upd_same
  generalize upd H l (.lst (cs.map V.int))=H1 at y1 e1 ⊢
  refine ⟨_,rfl,l,_,rfl,rfl,SqL.of e1,fun r nr=>?_⟩
  rw [← List.map_reverse]
  have y2:Same H1 (upd H1 r (.lst (cs.reverse.map V.int))):=Same.new nr
  have e2:(upd H1 r (.lst (cs.reverse.map V.int))) r=some (.lst (cs.reverse.map V.int)):=upd_same
  have nrA:=wasNone y1 nr
  generalize upd H1 r (.lst (cs.reverse.map V.int))=H2 at y2 e2 ⊢
  refine ⟨_,rfl,_,rfl,r,_,1+z1 % 12,1+z2 % 12,rfl,e2,w1,g1,by omega,w2,g2,fun v t H3 ms' sx e3 told fit=>?_⟩
  have s3:Same H H3:=sx.same (y1.trans y2) nrA
  obtain ⟨sz,nd,dp⟩:=fit_small w1 w2 g1 g2 fit
  refine ⟨_,rfl,_,rfl,lenOk 4,fun bk nbk=>?_⟩
  have s4:Same H3 (upd H3 bk (.tup [V.int 0,V.int 0,(fun i j=>V.int (i+j)) 1 (z2 % 12),(fun i j=>V.int (i+j)) 1 (z1 % 12)])):=Same.new nbk
  have e4:(upd H3 bk (.tup [V.int 0,V.int 0,(fun i j=>V.int (i+j)) 1 (z2 % 12),(fun i j=>V.int (i+j)) 1 (z1 % 12)])) bk=some (.tup [.int 0,.int 0,.int (1+z2 % 12),.int (1+z1 % 12)]):=upd_same
  generalize upd H3 bk (.tup [V.int 0,V.int 0,(fun i j=>V.int (i+j)) 1 (z2 % 12),(fun i j=>V.int (i+j)) 1 (z1 % 12)])=H4 at s4 e4 ⊢
  refine ⟨_,rfl,_,rfl,v,t,bk,⟨0,0,1+z2 % 12,1+z1 % 12⟩,rfl,told.same s4,e4,dp,nd,fun lp ts H6 s6 nl6 hl6 pc ec=>?_⟩
  obtain ⟨r1,r2,r3,r4⟩:=srt_pcs w1 w2 g1 g2 fit pc ec
  refine ⟨lp,ts.map toPR,3,GB.key,rfl,by rw [pr_refs]; exact SqL.of hl6,r1,r2,r3,fun l7 us7 n7 pm sr=>?_⟩
  obtain ⟨zs,rfl,pz,dz⟩:=r4 us7 pm sr
  rw [pr_refs]
  have s7:Same H6 (upd H6 l7 (.lst (pcs zs))):=Same.new n7
  have e7:(upd H6 l7 (.lst (pcs zs))) l7=some (.lst (pcs zs)):=upd_same
  generalize upd H6 l7 (.lst (pcs zs))=H7 at s7 e7 ⊢
  have s67:=s6.trans s7
  have s47:=s4.trans s67
  have s07:=s3.trans s47
  have lz:=dz.len
  rw [List.length_map] at lz
  refine ⟨_,rfl,_,rfl,_,rfl,a,ns,2,rfl,s07.seq hS,by decide,fun z3=>⟨z3,rfl,fun st H8 s8 nst hst=>?_⟩⟩
  have pz7:=(pc.perm pz).same s7
  refine ⟨l7,bk,st,zs,⟨0,0,1+z2 % 12,1+z1 % 12⟩,t,0,rfl,s8 _ _ e7,pz7.same s8,by omega,(s67.trans s8) _ _ e4,ok0 w1 g1,bd0 w2 g2,fit0 fit,dz.1,hst,Int.le_refl _,by omega,?_,fun v2 r H9 tm' s9 st9 _ _ tr frr pmr=>?_⟩
  ·show 1+z1 % 12 - 0+(1+z2 % 12 - 0) < 25
   omega
  have s79:Same H7 H9:=s9.same s8 nst
  have s49:=s47.trans s79
  have s09:=s3.trans s49
  have fr:=fit0' frr
  have tb9:=TabOk.same (TabOk.new (pos:=lamQ) (qual:=lamN) htb) s09
  have tb39:=TabOk.same (TabOk.new (pos:=lamQ3) (qual:=lamN3) htb3) s09
  refine ⟨_,rfl,a,ns,3,rfl,s09.seq hS,by decide,fun z4=>⟨_,_,rfl,rfl,(show (0:Int) < 4 from by decide),rfl,_,rfl,ite3 (fun c=>?_) (fun c=>?_)⟩⟩
  ·obtain ⟨_,_,dpr⟩:=fit_small w1 w2 g1 g2 fr
   refine ⟨_,rfl,_,rfl,a,ns,4,rfl,s09.seq hS,by decide,fun z5=>⟨v2,r,z5,rfl,tr,dpr,fun v3 r3 H10 s10 t3 spr=>?_⟩⟩
   exact kB _ _ v v3 bk l7 zs t r3 H10 ((s09.trans s10).seq hS) w1 w2 g1 g2 (told.same (s49.trans s10)) t3 fit (fit0' (spoil_fit frr spr)) ((s67.trans (s79.trans s10)) _ _ e4) ((s79.trans s10) _ _ e7) (pz7.same (s79.trans s10)) dz (tb9.same s10) (tb39.same s10)
  ·exact kB _ _ v v2 bk l7 zs t r H9 (s09.seq hS) w1 w2 g1 g2 (told.same s49) tr fit fr ((s67.trans s79) _ _ e4) (s79 _ _ e7) (pz7.same s79) dz tb9 tb39
def icB (K:PySem.W.Frag) (C:Addr):Bool:=PySem.W.plainGet K C Str.empty && (PySem.W.hasDictIn K C && (PySem.W.plainOver K C && ((PySem.W.findIn K (.ref C) "__setattr__" == some (some (.builtin "object.__setattr__"))) && ((PySem.W.findIn K (.ref C) "__class__" == some (some (.builtin "object.__class__"))) &&
 ((PySem.W.specialIn K (.builtin "object.__class__") "__get__" == some (some (.builtin "getset_descriptor.__get__"))) && ((PySem.W.takesIn K (.builtin "object.__class__") == some true) && ((PySem.W.mroIn K C (.type "object") == some true) && (PySem.W.makesIn K C && PySem.W.keepIn K (.ref C)))))))))
theorem icB_of {C:Addr} (h:icB K C=true):ICls K C∧PySem.W.makesIn K C=true∧PySem.W.keepIn K (.ref C)=true:=by
 unfold icB at h
 simp only [Bool.and_eq_true,beq_iff_eq] at h
 obtain ⟨a,b,c,d,e,f,g,i,j,l⟩:=h
 exact ⟨⟨⟨a,b,c,d⟩,e,f,g,i⟩,j,l⟩
def kitB (K:PySem.W.Frag) (cT cW cU cL:Addr):Bool:=([(cW,"mark"),(cU,"at"),(cU,"first"),(cU,"other"),(cL,"at"),(cL,"first"),(cL,"other")]:List (Addr × Str)).all (fun p=>PySem.W.findIn K (.ref p.1) p.2 == some none) &&
 ([(cW,cW,true),(cW,cU,false),(cW,cL,false),(cU,cW,false),(cL,cW,false),(cU,cU,true),(cU,cL,false),(cL,cU,false),(cL,cL,true),(cW,cT,true),(cU,cT,true),(cL,cT,true)]:List (Addr × Addr × Bool)).all (fun p=>PySem.W.kitOne K (.ref p.1) (.ref p.2.1) == some p.2.2)
theorem rt_of (h:kitB K cT cW cU cL=true) (iW:ICls K cW) (iU:ICls K cU) (iL:ICls K cL) (gT:mg "Tree"=some (.ref cT)) (gW:mg "Whole"=some (.ref cW)) (gU:mg "Upright"=some (.ref cU)) (gL:mg "Level"=some (.ref cL)):RT mg K cT cW cU cL:=by
 unfold kitB at h
 rw [Bool.and_eq_true,List.all_eq_true,List.all_eq_true] at h
 obtain ⟨h1,h2⟩:=h
 have f1:∀ p∈([(cW,"mark"),(cU,"at"),(cU,"first"),(cU,"other"),(cL,"at"),(cL,"first"),(cL,"other")]:List (Addr × Str)),PySem.W.findIn K (.ref p.1) p.2=some none:=fun p hp=>beq_iff_eq.mp (h1 p hp)
 have f2:∀ p∈([(cW,cW,true),(cW,cU,false),(cW,cL,false),(cU,cW,false),(cL,cW,false),(cU,cU,true),(cU,cL,false),(cL,cU,false),(cL,cL,true),(cW,cT,true),(cU,cT,true),(cL,cT,true)]:List (Addr × Addr × Bool)),PySem.W.kitOne K (.ref p.1) (.ref p.2.1)=some p.2.2:=fun p hp=>beq_iff_eq.mp (h2 p hp)
 simp only [List.forall_mem_cons,List.not_mem_nil,false_implies,implies_true,and_true] at f1 f2
 obtain ⟨a1,a2,a3,a4,a5,a6,a7⟩:=f1
 obtain ⟨k1,k2,k3,k4,k5,k6,k7,k8,k9,k10,k11,k12⟩:=f2
 refine ⟨gT,gW,gU,gL,iW,?_,a1,?_,?_,?_,k1,?_,?_,?_,k10,?_⟩
 ·intro u; cases u; exact iL; exact iU
 ·intro u; cases u; exact a5; exact a2
 ·intro u; cases u; exact a6; exact a3
 ·intro u; cases u; exact a7; exact a4
 ·intro u; cases u; exact k3; exact k2
 ·intro u; cases u; exact k5; exact k4
 ·intro u v; cases u <;> cases v; exact k9; exact k8; exact k7; exact k6
 ·intro u; cases u; exact k12; exact k11
end
theorem all_mk {l:PySem.W.OpenLaw} {w:World} {K:PySem.W.Frag} {h:Heap} {mg:Str→Option Value} {fa:Addr} (X:K.In h) (G:h.Ns mainGlobals mg) (hfa:mg "law"=some (.ref fa))
  {cT:Addr} (aT:PySem.W.nsIn K mainGlobals "Tree"=some (some (.ref cT)))
  {cW:Addr} (aC_cW:PySem.W.nsIn K mainGlobals "Whole"=some (some (.ref cW))) (ic_cW:icB K cW=true)
  {f_cW:Addr} {od_cW an_cW:Option Addr} {sl_cW:Array (Option Value)} {oc_cW kV_cW dc_cW pm_cW cd_cW ct_cW:Value} {T_cW:Addr} {to_cW:Value} {td_cW:Option Addr} {ts_cW:Array (Option Value)} {ti_cW:Array Value} {tn_cW:Nat} (a_cWcW:PySem.W.findIn K (.ref cW) "__init__"=some (some (.ref f_cW))) (i_cW:PySem.W.isFn K (.ref f_cW)=true) (l_cW:K.lookup f_cW=some ⟨oc_cW,od_cW,.func (PySem.W.fnOf "__init__" "Whole.__init__" (defArgs s_Whole_init) (defBody s_Whole_init) (defScope s_Whole_init) (.ref T_cW) kV_cW dc_cW pm_cW an_cW cd_cW ct_cW),sl_cW⟩) (cc_cW:PySem.W.codeIn K cd_cW "Whole.__init__"=true) (k_cW:PySem.W.keepIn K (.ref f_cW)=true) (lT_cW:K.lookup T_cW=some ⟨to_cW,td_cW,.seq ti_cW tn_cW,ts_cW⟩) (eT_cW:ti_cW=#[.none])
  {cU:Addr} (aC_cU:PySem.W.nsIn K mainGlobals "Upright"=some (some (.ref cU))) (ic_cU:icB K cU=true)
  {f_cU:Addr} {od_cU an_cU:Option Addr} {sl_cU:Array (Option Value)} {oc_cU kV_cU dc_cU pm_cU cd_cU ct_cU:Value} (a_cUcU:PySem.W.findIn K (.ref cU) "__init__"=some (some (.ref f_cU))) (i_cU:PySem.W.isFn K (.ref f_cU)=true) (l_cU:K.lookup f_cU=some ⟨oc_cU,od_cU,.func (PySem.W.fnOf "__init__" "Upright.__init__" (defArgs s_Upright_init) (defBody s_Upright_init) (defScope s_Upright_init) .none kV_cU dc_cU pm_cU an_cU cd_cU ct_cU),sl_cU⟩) (cc_cU:PySem.W.codeIn K cd_cU "Upright.__init__"=true) (k_cU:PySem.W.keepIn K (.ref f_cU)=true)
  {cL:Addr} (aC_cL:PySem.W.nsIn K mainGlobals "Level"=some (some (.ref cL))) (ic_cL:icB K cL=true)
  {f_cL:Addr} {od_cL an_cL:Option Addr} {sl_cL:Array (Option Value)} {oc_cL kV_cL dc_cL pm_cL cd_cL ct_cL:Value} (a_cLcL:PySem.W.findIn K (.ref cL) "__init__"=some (some (.ref f_cL))) (i_cL:PySem.W.isFn K (.ref f_cL)=true) (l_cL:K.lookup f_cL=some ⟨oc_cL,od_cL,.func (PySem.W.fnOf "__init__" "Level.__init__" (defArgs s_Level_init) (defBody s_Level_init) (defScope s_Level_init) .none kV_cL dc_cL pm_cL an_cL cd_cL ct_cL),sl_cL⟩) (cc_cL:PySem.W.codeIn K cd_cL "Level.__init__"=true) (k_cL:PySem.W.keepIn K (.ref f_cL)=true)
  (kit:kitB K cT cW cU cL=true)
  {cG:Addr} (aG:PySem.W.nsIn K mainGlobals "GlassError"=some (some (.ref cG))) (eG:PySem.W.excIn K cG vErr "ValueError.__new__"=true)
  {f0:Addr} {od0 an0:Option Addr} {sl0:Array (Option Value)} {oc0 kV0 dc0 pm0 cd0 ct0:Value} (a0:PySem.W.nsIn K mainGlobals "is_whole"=some (some (.ref f0))) (l0:K.lookup f0=some ⟨oc0,od0,.func (PySem.W.fnOf "is_whole" "is_whole" (defArgs s_is_whole) (defBody s_is_whole) (defScope s_is_whole) .none kV0 dc0 pm0 an0 cd0 ct0),sl0⟩) (cc0:PySem.W.codeIn K cd0 "is_whole"=true) (k0:PySem.W.keepIn K (.ref f0)=true)
  {f1:Addr} {od1 an1:Option Addr} {sl1:Array (Option Value)} {oc1 kV1 dc1 pm1 cd1 ct1:Value} (a1:PySem.W.nsIn K mainGlobals "is_side"=some (some (.ref f1))) (l1:K.lookup f1=some ⟨oc1,od1,.func (PySem.W.fnOf "is_side" "is_side" (defArgs s_is_side) (defBody s_is_side) (defScope s_is_side) .none kV1 dc1 pm1 an1 cd1 ct1),sl1⟩) (cc1:PySem.W.codeIn K cd1 "is_side"=true) (k1:PySem.W.keepIn K (.ref f1)=true)
  {f2:Addr} {od2 an2:Option Addr} {sl2:Array (Option Value)} {oc2 kV2 dc2 pm2 cd2 ct2:Value} (a2:PySem.W.nsIn K mainGlobals "inside"=some (some (.ref f2))) (l2:K.lookup f2=some ⟨oc2,od2,.func (PySem.W.fnOf "inside" "inside" (defArgs s_inside) (defBody s_inside) (defScope s_inside) .none kV2 dc2 pm2 an2 cd2 ct2),sl2⟩) (cc2:PySem.W.codeIn K cd2 "inside"=true) (k2:PySem.W.keepIn K (.ref f2)=true)
  {f3:Addr} {od3 an3:Option Addr} {sl3:Array (Option Value)} {oc3 kV3 dc3 pm3 cd3 ct3:Value} (a3:PySem.W.nsIn K mainGlobals "check_sides"=some (some (.ref f3))) (l3:K.lookup f3=some ⟨oc3,od3,.func (PySem.W.fnOf "check_sides" "check_sides" (defArgs s_check_sides) (defBody s_check_sides) (defScope s_check_sides) .none kV3 dc3 pm3 an3 cd3 ct3),sl3⟩) (cc3:PySem.W.codeIn K cd3 "check_sides"=true) (k3:PySem.W.keepIn K (.ref f3)=true)
  {f4:Addr} {od4 an4:Option Addr} {sl4:Array (Option Value)} {oc4 kV4 dc4 pm4 cd4 ct4:Value} (a4:PySem.W.nsIn K mainGlobals "kind_of"=some (some (.ref f4))) (l4:K.lookup f4=some ⟨oc4,od4,.func (PySem.W.fnOf "kind_of" "kind_of" (defArgs s_kind_of) (defBody s_kind_of) (defScope s_kind_of) .none kV4 dc4 pm4 an4 cd4 ct4),sl4⟩) (cc4:PySem.W.codeIn K cd4 "kind_of"=true) (k4:PySem.W.keepIn K (.ref f4)=true)
  {f5:Addr} {od5 an5:Option Addr} {sl5:Array (Option Value)} {oc5 kV5 dc5 pm5 cd5 ct5:Value} (a5:PySem.W.nsIn K mainGlobals "entry_of"=some (some (.ref f5))) (l5:K.lookup f5=some ⟨oc5,od5,.func (PySem.W.fnOf "entry_of" "entry_of" (defArgs s_entry_of) (defBody s_entry_of) (defScope s_entry_of) .none kV5 dc5 pm5 an5 cd5 ct5),sl5⟩) (cc5:PySem.W.codeIn K cd5 "entry_of"=true) (k5:PySem.W.keepIn K (.ref f5)=true)
  {f6:Addr} {od6 an6:Option Addr} {sl6:Array (Option Value)} {oc6 kV6 dc6 pm6 cd6 ct6:Value} (a6:PySem.W.nsIn K mainGlobals "entries_of"=some (some (.ref f6))) (l6:K.lookup f6=some ⟨oc6,od6,.func (PySem.W.fnOf "entries_of" "entries_of" (defArgs s_entries_of) (defBody s_entries_of) (defScope s_entries_of) .none kV6 dc6 pm6 an6 cd6 ct6),sl6⟩) (cc6:PySem.W.codeIn K cd6 "entries_of"=true) (k6:PySem.W.keepIn K (.ref f6)=true)
  {f7:Addr} {od7 an7:Option Addr} {sl7:Array (Option Value)} {oc7 kV7 dc7 pm7 cd7 ct7:Value} (a7cW:PySem.W.findIn K (.ref cW) "same"=some (some (.ref f7))) (a7cU:PySem.W.findIn K (.ref cU) "same"=some (some (.ref f7))) (a7cL:PySem.W.findIn K (.ref cL) "same"=some (some (.ref f7))) (i7:PySem.W.isFn K (.ref f7)=true) (l7:K.lookup f7=some ⟨oc7,od7,.func (PySem.W.fnOf "same" "Tree.same" (defArgs s_Tree_same) (defBody s_Tree_same) (defScope s_Tree_same) .none kV7 dc7 pm7 an7 cd7 ct7),sl7⟩) (cc7:PySem.W.codeIn K cd7 "Tree.same"=true) (k7:PySem.W.keepIn K (.ref f7)=true)
  {f8:Addr} {od8 an8:Option Addr} {sl8:Array (Option Value)} {oc8 kV8 dc8 pm8 cd8 ct8:Value} (a8:PySem.W.nsIn K mainGlobals "cut_from"=some (some (.ref f8))) (l8:K.lookup f8=some ⟨oc8,od8,.func (PySem.W.fnOf "cut_from" "cut_from" (defArgs s_cut_from) (defBody s_cut_from) (defScope s_cut_from) .none kV8 dc8 pm8 an8 cd8 ct8),sl8⟩) (cc8:PySem.W.codeIn K cd8 "cut_from"=true) (k8:PySem.W.keepIn K (.ref f8)=true)
  {f9:Addr} {od9 an9:Option Addr} {sl9:Array (Option Value)} {oc9 kV9 dc9 pm9 cd9 ct9:Value} (a9:PySem.W.nsIn K mainGlobals "tree_from"=some (some (.ref f9))) (l9:K.lookup f9=some ⟨oc9,od9,.func (PySem.W.fnOf "tree_from" "tree_from" (defArgs s_tree_from) (defBody s_tree_from) (defScope s_tree_from) .none kV9 dc9 pm9 an9 cd9 ct9),sl9⟩) (cc9:PySem.W.codeIn K cd9 "tree_from"=true) (k9:PySem.W.keepIn K (.ref f9)=true)
  {f10:Addr} {od10 an10:Option Addr} {sl10:Array (Option Value)} {oc10 kV10 dc10 pm10 cd10 ct10:Value} (a10:PySem.W.nsIn K mainGlobals "first_piece"=some (some (.ref f10))) (l10:K.lookup f10=some ⟨oc10,od10,.func (PySem.W.fnOf "first_piece" "first_piece" (defArgs s_first_piece) (defBody s_first_piece) (defScope s_first_piece) .none kV10 dc10 pm10 an10 cd10 ct10),sl10⟩) (cc10:PySem.W.codeIn K cd10 "first_piece"=true) (k10:PySem.W.keepIn K (.ref f10)=true)
  {f11:Addr} {od11 an11:Option Addr} {sl11:Array (Option Value)} {oc11 kV11 dc11 pm11 cd11 ct11:Value} (a11:PySem.W.nsIn K mainGlobals "other_piece"=some (some (.ref f11))) (l11:K.lookup f11=some ⟨oc11,od11,.func (PySem.W.fnOf "other_piece" "other_piece" (defArgs s_other_piece) (defBody s_other_piece) (defScope s_other_piece) .none kV11 dc11 pm11 an11 cd11 ct11),sl11⟩) (cc11:PySem.W.codeIn K cd11 "other_piece"=true) (k11:PySem.W.keepIn K (.ref f11)=true)
  {f12:Addr} {od12 an12:Option Addr} {sl12:Array (Option Value)} {oc12 kV12 dc12 pm12 cd12 ct12:Value} (a12:PySem.W.nsIn K mainGlobals "entries_by"=some (some (.ref f12))) (l12:K.lookup f12=some ⟨oc12,od12,.func (PySem.W.fnOf "entries_by" "entries_by" (defArgs s_entries_by) (defBody s_entries_by) (defScope s_entries_by) .none kV12 dc12 pm12 an12 cd12 ct12),sl12⟩) (cc12:PySem.W.codeIn K cd12 "entries_by"=true) (k12:PySem.W.keepIn K (.ref f12)=true)
  {f13:Addr} {od13 an13:Option Addr} {sl13:Array (Option Value)} {oc13 kV13 dc13 pm13 cd13 ct13:Value} (a13:PySem.W.nsIn K mainGlobals "check_cut"=some (some (.ref f13))) (l13:K.lookup f13=some ⟨oc13,od13,.func (PySem.W.fnOf "check_cut" "check_cut" (defArgs s_check_cut) (defBody s_check_cut) (defScope s_check_cut) .none kV13 dc13 pm13 an13 cd13 ct13),sl13⟩) (cc13:PySem.W.codeIn K cd13 "check_cut"=true) (k13:PySem.W.keepIn K (.ref f13)=true)
  {f14:Addr} {od14 an14:Option Addr} {sl14:Array (Option Value)} {oc14 kV14 dc14 pm14 cd14 ct14:Value} (a14:PySem.W.nsIn K mainGlobals "cut_out"=some (some (.ref f14))) (l14:K.lookup f14=some ⟨oc14,od14,.func (PySem.W.fnOf "cut_out" "cut_out" (defArgs s_cut_out) (defBody s_cut_out) (defScope s_cut_out) .none kV14 dc14 pm14 an14 cd14 ct14),sl14⟩) (cc14:PySem.W.codeIn K cd14 "cut_out"=true) (k14:PySem.W.keepIn K (.ref f14)=true)
  {f15:Addr} {od15 an15:Option Addr} {sl15:Array (Option Value)} {oc15 kV15 dc15 pm15 cd15 ct15:Value} (a15:PySem.W.nsIn K mainGlobals "pieces"=some (some (.ref f15))) (l15:K.lookup f15=some ⟨oc15,od15,.func (PySem.W.fnOf "pieces" "pieces" (defArgs s_pieces) (defBody s_pieces) (defScope s_pieces) .none kV15 dc15 pm15 an15 cd15 ct15),sl15⟩) (cc15:PySem.W.codeIn K cd15 "pieces"=true) (k15:PySem.W.keepIn K (.ref f15)=true) {c15 tb:Addr} (ec15:cd15=.ref c15) (hC15:codeTB K c15 tb=true)
  {f16:Addr} {od16 an16:Option Addr} {sl16:Array (Option Value)} {oc16 kV16 dc16 pm16 cd16 ct16:Value} (a16:PySem.W.nsIn K mainGlobals "line_breaks"=some (some (.ref f16))) (l16:K.lookup f16=some ⟨oc16,od16,.func (PySem.W.fnOf "line_breaks" "line_breaks" (defArgs s_line_breaks) (defBody s_line_breaks) (defScope s_line_breaks) .none kV16 dc16 pm16 an16 cd16 ct16),sl16⟩) (cc16:PySem.W.codeIn K cd16 "line_breaks"=true) (k16:PySem.W.keepIn K (.ref f16)=true)
  {f17:Addr} {od17 an17:Option Addr} {sl17:Array (Option Value)} {oc17 kV17 dc17 pm17 cd17 ct17:Value} (a17:PySem.W.nsIn K mainGlobals "goes_through"=some (some (.ref f17))) (l17:K.lookup f17=some ⟨oc17,od17,.func (PySem.W.fnOf "goes_through" "goes_through" (defArgs s_goes_through) (defBody s_goes_through) (defScope s_goes_through) .none kV17 dc17 pm17 an17 cd17 ct17),sl17⟩) (cc17:PySem.W.codeIn K cd17 "goes_through"=true) (k17:PySem.W.keepIn K (.ref f17)=true)
  {f18:Addr} {od18 an18:Option Addr} {sl18:Array (Option Value)} {oc18 kV18 dc18 pm18 cd18 ct18:Value} (a18:PySem.W.nsIn K mainGlobals "lines_through"=some (some (.ref f18))) (l18:K.lookup f18=some ⟨oc18,od18,.func (PySem.W.fnOf "lines_through" "lines_through" (defArgs s_lines_through) (defBody s_lines_through) (defScope s_lines_through) .none kV18 dc18 pm18 an18 cd18 ct18),sl18⟩) (cc18:PySem.W.codeIn K cd18 "lines_through"=true) (k18:PySem.W.keepIn K (.ref f18)=true)
  {f19:Addr} {od19 an19:Option Addr} {sl19:Array (Option Value)} {oc19 kV19 dc19 pm19 cd19 ct19:Value} (a19:PySem.W.nsIn K mainGlobals "entry_for"=some (some (.ref f19))) (l19:K.lookup f19=some ⟨oc19,od19,.func (PySem.W.fnOf "entry_for" "entry_for" (defArgs s_entry_for) (defBody s_entry_for) (defScope s_entry_for) .none kV19 dc19 pm19 an19 cd19 ct19),sl19⟩) (cc19:PySem.W.codeIn K cd19 "entry_for"=true) (k19:PySem.W.keepIn K (.ref f19)=true)
  {f20:Addr} {od20 an20:Option Addr} {sl20:Array (Option Value)} {oc20 kV20 dc20 pm20 cd20 ct20:Value} (a20:PySem.W.nsIn K mainGlobals "cut_up"=some (some (.ref f20))) (l20:K.lookup f20=some ⟨oc20,od20,.func (PySem.W.fnOf "cut_up" "cut_up" (defArgs s_cut_up) (defBody s_cut_up) (defScope s_cut_up) .none kV20 dc20 pm20 an20 cd20 ct20),sl20⟩) (cc20:PySem.W.codeIn K cd20 "cut_up"=true) (k20:PySem.W.keepIn K (.ref f20)=true) {c20 tb3:Addr} (ec20:cd20=.ref c20) (hC20:codeTB K c20 tb3=true)
  {f21:Addr} {od21 an21:Option Addr} {sl21:Array (Option Value)} {oc21 kV21 dc21 pm21 cd21 ct21:Value} (a21:PySem.W.nsIn K mainGlobals "form"=some (some (.ref f21))) (l21:K.lookup f21=some ⟨oc21,od21,.func (PySem.W.fnOf "form" "form" (defArgs s_form) (defBody s_form) (defScope s_form) .none kV21 dc21 pm21 an21 cd21 ct21),sl21⟩) (cc21:PySem.W.codeIn K cd21 "form"=true) (k21:PySem.W.keepIn K (.ref f21)=true)
  {f22:Addr} {od22 an22:Option Addr} {sl22:Array (Option Value)} {oc22 kV22 dc22 pm22 cd22 ct22:Value} (a22:PySem.W.nsIn K mainGlobals "alike"=some (some (.ref f22))) (l22:K.lookup f22=some ⟨oc22,od22,.func (PySem.W.fnOf "alike" "alike" (defArgs s_alike) (defBody s_alike) (defScope s_alike) .none kV22 dc22 pm22 an22 cd22 ct22),sl22⟩) (cc22:PySem.W.codeIn K cd22 "alike"=true) (k22:PySem.W.keepIn K (.ref f22)=true)
  {f23:Addr} {od23 an23:Option Addr} {sl23:Array (Option Value)} {oc23 kV23 dc23 pm23 cd23 ct23:Value} (a23:PySem.W.nsIn K mainGlobals "_law_cell"=some (some (.ref f23))) (l23:K.lookup f23=some ⟨oc23,od23,.func (PySem.W.fnOf "_law_cell" "_law_cell" (defArgs s__law_cell) (defBody s__law_cell) (defScope s__law_cell) .none kV23 dc23 pm23 an23 cd23 ct23),sl23⟩) (cc23:PySem.W.codeIn K cd23 "_law_cell"=true) (k23:PySem.W.keepIn K (.ref f23)=true)
  {f24:Addr} {od24 an24:Option Addr} {sl24:Array (Option Value)} {oc24 kV24 dc24 pm24 cd24 ct24:Value} (a24:PySem.W.nsIn K mainGlobals "_law_draw"=some (some (.ref f24))) (l24:K.lookup f24=some ⟨oc24,od24,.func (PySem.W.fnOf "_law_draw" "_law_draw" (defArgs s__law_draw) (defBody s__law_draw) (defScope s__law_draw) .none kV24 dc24 pm24 an24 cd24 ct24),sl24⟩) (cc24:PySem.W.codeIn K cd24 "_law_draw"=true) (k24:PySem.W.keepIn K (.ref f24)=true)
  {f25:Addr} {od25 an25:Option Addr} {sl25:Array (Option Value)} {oc25 kV25 dc25 pm25 cd25 ct25:Value} (a25:PySem.W.nsIn K mainGlobals "_law_state"=some (some (.ref f25))) (l25:K.lookup f25=some ⟨oc25,od25,.func (PySem.W.fnOf "_law_state" "_law_state" (defArgs s__law_state) (defBody s__law_state) (defScope s__law_state) .none kV25 dc25 pm25 an25 cd25 ct25),sl25⟩) (cc25:PySem.W.codeIn K cd25 "_law_state"=true) (k25:PySem.W.keepIn K (.ref f25)=true)
  {f26:Addr} {od26 an26:Option Addr} {sl26:Array (Option Value)} {oc26 kV26 dc26 pm26 cd26 ct26:Value} (a26:PySem.W.nsIn K mainGlobals "_law_pick"=some (some (.ref f26))) (l26:K.lookup f26=some ⟨oc26,od26,.func (PySem.W.fnOf "_law_pick" "_law_pick" (defArgs s__law_pick) (defBody s__law_pick) (defScope s__law_pick) .none kV26 dc26 pm26 an26 cd26 ct26),sl26⟩) (cc26:PySem.W.codeIn K cd26 "_law_pick"=true) (k26:PySem.W.keepIn K (.ref f26)=true)
  {f27:Addr} {od27 an27:Option Addr} {sl27:Array (Option Value)} {oc27 kV27 dc27 pm27 cd27 ct27:Value} (a27:PySem.W.nsIn K mainGlobals "_law_tree"=some (some (.ref f27))) (l27:K.lookup f27=some ⟨oc27,od27,.func (PySem.W.fnOf "_law_tree" "_law_tree" (defArgs s__law_tree) (defBody s__law_tree) (defScope s__law_tree) .none kV27 dc27 pm27 an27 cd27 ct27),sl27⟩) (cc27:PySem.W.codeIn K cd27 "_law_tree"=true) (k27:PySem.W.keepIn K (.ref f27)=true)
  {f28:Addr} {od28 an28:Option Addr} {sl28:Array (Option Value)} {oc28 kV28 dc28 pm28 cd28 ct28:Value} (a28:PySem.W.nsIn K mainGlobals "_law_made"=some (some (.ref f28))) (l28:K.lookup f28=some ⟨oc28,od28,.func (PySem.W.fnOf "_law_made" "_law_made" (defArgs s__law_made) (defBody s__law_made) (defScope s__law_made) .none kV28 dc28 pm28 an28 cd28 ct28),sl28⟩) (cc28:PySem.W.codeIn K cd28 "_law_made"=true) (k28:PySem.W.keepIn K (.ref f28)=true)
  {f29:Addr} {od29 an29:Option Addr} {sl29:Array (Option Value)} {oc29 kV29 dc29 pm29 cd29 ct29:Value} (a29:PySem.W.nsIn K mainGlobals "_law_whole"=some (some (.ref f29))) (l29:K.lookup f29=some ⟨oc29,od29,.func (PySem.W.fnOf "_law_whole" "_law_whole" (defArgs s__law_whole) (defBody s__law_whole) (defScope s__law_whole) .none kV29 dc29 pm29 an29 cd29 ct29),sl29⟩) (cc29:PySem.W.codeIn K cd29 "_law_whole"=true) (k29:PySem.W.keepIn K (.ref f29)=true)
  {f30:Addr} {od30 an30:Option Addr} {sl30:Array (Option Value)} {oc30 kV30 dc30 pm30 cd30 ct30:Value} (a30:PySem.W.nsIn K mainGlobals "_law_told"=some (some (.ref f30))) (l30:K.lookup f30=some ⟨oc30,od30,.func (PySem.W.fnOf "_law_told" "_law_told" (defArgs s__law_told) (defBody s__law_told) (defScope s__law_told) .none kV30 dc30 pm30 an30 cd30 ct30),sl30⟩) (cc30:PySem.W.codeIn K cd30 "_law_told"=true) (k30:PySem.W.keepIn K (.ref f30)=true)
  {f31:Addr} {od31 an31:Option Addr} {sl31:Array (Option Value)} {oc31 kV31 dc31 pm31 cd31 ct31:Value} (a31:PySem.W.nsIn K mainGlobals "_law_pieces"=some (some (.ref f31))) (l31:K.lookup f31=some ⟨oc31,od31,.func (PySem.W.fnOf "_law_pieces" "_law_pieces" (defArgs s__law_pieces) (defBody s__law_pieces) (defScope s__law_pieces) .none kV31 dc31 pm31 an31 cd31 ct31),sl31⟩) (cc31:PySem.W.codeIn K cd31 "_law_pieces"=true) (k31:PySem.W.keepIn K (.ref f31)=true)
  {f32:Addr} {od32 an32:Option Addr} {sl32:Array (Option Value)} {oc32 kV32 dc32 pm32 cd32 ct32:Value} (a32:PySem.W.nsIn K mainGlobals "_law_through"=some (some (.ref f32))) (l32:K.lookup f32=some ⟨oc32,od32,.func (PySem.W.fnOf "_law_through" "_law_through" (defArgs s__law_through) (defBody s__law_through) (defScope s__law_through) .none kV32 dc32 pm32 an32 cd32 ct32),sl32⟩) (cc32:PySem.W.codeIn K cd32 "_law_through"=true) (k32:PySem.W.keepIn K (.ref f32)=true)
  {f33:Addr} {od33 an33:Option Addr} {sl33:Array (Option Value)} {oc33 kV33 dc33 pm33 cd33 ct33:Value} (a33:PySem.W.nsIn K mainGlobals "_law_parted"=some (some (.ref f33))) (l33:K.lookup f33=some ⟨oc33,od33,.func (PySem.W.fnOf "_law_parted" "_law_parted" (defArgs s__law_parted) (defBody s__law_parted) (defScope s__law_parted) .none kV33 dc33 pm33 an33 cd33 ct33),sl33⟩) (cc33:PySem.W.codeIn K cd33 "_law_parted"=true) (k33:PySem.W.keepIn K (.ref f33)=true)
  {f34:Addr} {od34 an34:Option Addr} {sl34:Array (Option Value)} {oc34 kV34 dc34 pm34 cd34 ct34:Value} (a34:PySem.W.nsIn K mainGlobals "_law_recut"=some (some (.ref f34))) (l34:K.lookup f34=some ⟨oc34,od34,.func (PySem.W.fnOf "_law_recut" "_law_recut" (defArgs s__law_recut) (defBody s__law_recut) (defScope s__law_recut) .none kV34 dc34 pm34 an34 cd34 ct34),sl34⟩) (cc34:PySem.W.codeIn K cd34 "_law_recut"=true) (k34:PySem.W.keepIn K (.ref f34)=true)
  {f35:Addr} {od35 an35:Option Addr} {sl35:Array (Option Value)} {oc35 kV35 dc35 pm35 cd35 ct35:Value} (a35:PySem.W.nsIn K mainGlobals "_law_spoiled"=some (some (.ref f35))) (l35:K.lookup f35=some ⟨oc35,od35,.func (PySem.W.fnOf "_law_spoiled" "_law_spoiled" (defArgs s__law_spoiled) (defBody s__law_spoiled) (defScope s__law_spoiled) .none kV35 dc35 pm35 an35 cd35 ct35),sl35⟩) (cc35:PySem.W.codeIn K cd35 "_law_spoiled"=true) (k35:PySem.W.keepIn K (.ref f35)=true)
  {f36:Addr} {od36 an36:Option Addr} {sl36:Array (Option Value)} {oc36 kV36 dc36 pm36 cd36 ct36:Value} (a36:PySem.W.nsIn K mainGlobals "_law_swapped"=some (some (.ref f36))) (l36:K.lookup f36=some ⟨oc36,od36,.func (PySem.W.fnOf "_law_swapped" "_law_swapped" (defArgs s__law_swapped) (defBody s__law_swapped) (defScope s__law_swapped) .none kV36 dc36 pm36 an36 cd36 ct36),sl36⟩) (cc36:PySem.W.codeIn K cd36 "_law_swapped"=true) (k36:PySem.W.keepIn K (.ref f36)=true)
  {f37:Addr} {od37 an37:Option Addr} {sl37:Array (Option Value)} {oc37 kV37 dc37 pm37 cd37 ct37:Value} (a37:PySem.W.nsIn K mainGlobals "law"=some (some (.ref f37))) (l37:K.lookup f37=some ⟨oc37,od37,.func (PySem.W.fnOf "law" "law" (defArgs s_law) (defBody s_law) (defScope s_law) .none kV37 dc37 pm37 an37 cd37 ct37),sl37⟩) (cc37:PySem.W.codeIn K cd37 "law"=true) (k37:PySem.W.keepIn K (.ref f37)=true)
  {bm:Addr} {bsl:Array (Option Value)} (abm:PySem.W.nsIn K mainGlobals "__builtins__"=some (some (.ref bm))) (lbm:K.lookup bm=some ⟨.type "module",some builtinsNs,.plain,bsl⟩) (nbm1:bm≠builtinsNs) (nbm2:bm≠mainGlobals)
  (hne:tb≠tb3)
  (z0:PySem.W.nsIn K mainGlobals "isinstance"=some none)
  (z1:PySem.W.nsIn K mainGlobals "int"=some none)
  (z2:PySem.W.nsIn K mainGlobals "bool"=some none)
  (z3:PySem.W.nsIn K mainGlobals "tuple"=some none)
  (z4:PySem.W.nsIn K mainGlobals "list"=some none)
  (z5:PySem.W.nsIn K mainGlobals "len"=some none)
  (z6:PySem.W.nsIn K mainGlobals "range"=some none)
  (z7:PySem.W.nsIn K mainGlobals "abs"=some none)
  (z8:PySem.W.nsIn K mainGlobals "all"=some none)
  (z9:PySem.W.nsIn K mainGlobals "any"=some none)
  (z10:PySem.W.nsIn K mainGlobals "sorted"=some none)
  (z11:PySem.W.nsIn K mainGlobals "str"=some none)
  (z12:PySem.W.nsIn K mainGlobals "reversed"=some none)
  {tk0:Tok} (g0:PySem.W.nsIn K mainGlobals "LONGEST_SIDE"=some (some (.int 12 tk0)))
  {tk1:Tok} (g1:PySem.W.nsIn K mainGlobals "WHOLE"=some (some (.str "whole" tk1)))
  {tk2:Tok} (g2:PySem.W.nsIn K mainGlobals "UPRIGHT"=some (some (.str "upright" tk2)))
  {tk3:Tok} (g3:PySem.W.nsIn K mainGlobals "LEVEL"=some (some (.str "level" tk3)))
  {tk4:Tok} (g4:PySem.W.nsIn K mainGlobals "TOP"=some (some (.int 0 tk4)))
  {tk5:Tok} (g5:PySem.W.nsIn K mainGlobals "LEFT"=some (some (.int 1 tk5)))
  {tk6:Tok} (g6:PySem.W.nsIn K mainGlobals "ROOM"=some (some (.str "room" tk6)))
  : ∃ fd:FuncData,(∀ (s:Shared) (v:Value),BindsTo s fd ⟨[v],[]⟩ [("_law_script",v)])∧∀ base:Heap,K.In base→base.Ns mainGlobals mg→FnOk l.prog w K mg base CX0 29 fa fd ["_law_script"] (sp_law tb tb3 K):=by
 have e:=hfa.symm.trans (PySem.W.mg_of X G a37)
 cases e
 have T:Txt mg (tk0,tk1,tk2,tk3,tk4,tk5,tk6):=⟨PySem.W.mg_none_of X G z0,PySem.W.mg_none_of X G z1,PySem.W.mg_none_of X G z2,PySem.W.mg_none_of X G z3,PySem.W.mg_none_of X G z4,PySem.W.mg_none_of X G z5,PySem.W.mg_none_of X G z6,PySem.W.mg_none_of X G z7,PySem.W.mg_none_of X G z8,PySem.W.mg_none_of X G z9,PySem.W.mg_none_of X G z10,PySem.W.mg_none_of X G z11,PySem.W.mg_none_of X G z12,PySem.W.mg_of X G g0,PySem.W.mg_of X G g1,PySem.W.mg_of X G g2,PySem.W.mg_of X G g3,PySem.W.mg_of X G g4,PySem.W.mg_of X G g5,PySem.W.mg_of X G g6⟩
 obtain ⟨I_cW,mk_cW,kc_cW⟩:=icB_of ic_cW
 obtain ⟨I_cU,mk_cU,kc_cU⟩:=icB_of ic_cU
 obtain ⟨I_cL,mk_cL,kc_cL⟩:=icB_of ic_cL
 have R0:RT mg K cT cW cU cL:=rt_of kit I_cW I_cU I_cL (PySem.W.mg_of X G aT) (PySem.W.mg_of X G aC_cW) (PySem.W.mg_of X G aC_cU) (PySem.W.mg_of X G aC_cL)
 have hB0:BmIn K mg:=⟨bm,bsl,PySem.W.mg_of X G abm,nbm1,nbm2,lbm⟩
 have F_cW:FunD K "__init__" "Whole.__init__" s_Whole_init f_cW _:=⟨⟨_,_,_,_,_,_,_,_,_,_,_,tn_cW,rfl,l_cW,cc_cW,lT_cW,by rw [eT_cW]⟩,k_cW⟩
 have b_cW:=F_cW.binds (ps:=["self","mark"]) (ds:=[]) fun _ _ _ _ _ _ _ us hl=>by obtain ⟨u0,u1,rfl⟩:=len2 ((List.append_nil us) ▸ hl); exact ⟨_,rfl,rfl⟩
 have F_cU:=fun_mk (st:=s_Upright_init) l_cU cc_cU k_cU
 have b_cU:=F_cU.binds (ps:=["self","at","first","other"]) fun _ _ _ _ _ _ us hl=>by obtain ⟨u0,u1,u2,u3,rfl⟩:=len4 hl; rfl
 have F_cL:=fun_mk (st:=s_Level_init) l_cL cc_cL k_cL
 have b_cL:=F_cL.binds (ps:=["self","at","first","other"]) fun _ _ _ _ _ _ us hl=>by obtain ⟨u0,u1,u2,u3,rfl⟩:=len4 hl; rfl
 have F0:=fun_mk (st:=s_is_whole) l0 cc0 k0
 have b0:=F0.binds (ps:=["thing"]) fun _ _ _ _ _ _ us hl=>by obtain ⟨u0,rfl⟩:=len1 hl; rfl
 have F1:=fun_mk (st:=s_is_side) l1 cc1 k1
 have b1:=F1.binds (ps:=["thing"]) fun _ _ _ _ _ _ us hl=>by obtain ⟨u0,rfl⟩:=len1 hl; rfl
 have F2:=fun_mk (st:=s_inside) l2 cc2 k2
 have b2:=F2.binds (ps:=["one","other"]) fun _ _ _ _ _ _ us hl=>by obtain ⟨u0,u1,rfl⟩:=len2 hl; rfl
 have F3:=fun_mk (st:=s_check_sides) l3 cc3 k3
 have b3:=F3.binds (ps:=["width","height"]) fun _ _ _ _ _ _ us hl=>by obtain ⟨u0,u1,rfl⟩:=len2 hl; rfl
 have F4:=fun_mk (st:=s_kind_of) l4 cc4 k4
 have b4:=F4.binds (ps:=["tree"]) fun _ _ _ _ _ _ us hl=>by obtain ⟨u0,rfl⟩:=len1 hl; rfl
 have F5:=fun_mk (st:=s_entry_of) l5 cc5 k5
 have b5:=F5.binds (ps:=["tree"]) fun _ _ _ _ _ _ us hl=>by obtain ⟨u0,rfl⟩:=len1 hl; rfl
 have F6:=fun_mk (st:=s_entries_of) l6 cc6 k6
 have b6:=F6.binds (ps:=["tree"]) fun _ _ _ _ _ _ us hl=>by obtain ⟨u0,rfl⟩:=len1 hl; rfl
 have F7:=fun_mk (st:=s_Tree_same) l7 cc7 k7
 have b7:=F7.binds (ps:=["self","other"]) fun _ _ _ _ _ _ us hl=>by obtain ⟨u0,u1,rfl⟩:=len2 hl; rfl
 have F8:=fun_mk (st:=s_cut_from) l8 cc8 k8
 have b8:=F8.binds (ps:=["word","at","first","other"]) fun _ _ _ _ _ _ us hl=>by obtain ⟨u0,u1,u2,u3,rfl⟩:=len4 hl; rfl
 have F9:=fun_mk (st:=s_tree_from) l9 cc9 k9
 have b9:=F9.binds (ps:=["entries"]) fun _ _ _ _ _ _ us hl=>by obtain ⟨u0,rfl⟩:=len1 hl; rfl
 have F10:=fun_mk (st:=s_first_piece) l10 cc10 k10
 have b10:=F10.binds (ps:=["piece","word","at"]) fun _ _ _ _ _ _ us hl=>by obtain ⟨u0,u1,u2,rfl⟩:=len3 hl; rfl
 have F11:=fun_mk (st:=s_other_piece) l11 cc11 k11
 have b11:=F11.binds (ps:=["piece","word","at"]) fun _ _ _ _ _ _ us hl=>by obtain ⟨u0,u1,u2,rfl⟩:=len3 hl; rfl
 have F12:=fun_mk (st:=s_entries_by) l12 cc12 k12
 have b12:=F12.binds (ps:=["sheet","entry_at"]) fun _ _ _ _ _ _ us hl=>by obtain ⟨u0,u1,rfl⟩:=len2 hl; rfl
 have F13:=fun_mk (st:=s_check_cut) l13 cc13 k13
 have b13:=F13.binds (ps:=["piece","word","at"]) fun _ _ _ _ _ _ us hl=>by obtain ⟨u0,u1,u2,rfl⟩:=len3 hl; rfl
 have F14:=fun_mk (st:=s_cut_out) l14 cc14 k14
 have b14:=F14.binds (ps:=["tree","width","height"]) fun _ _ _ _ _ _ us hl=>by obtain ⟨u0,u1,u2,rfl⟩:=len3 hl; rfl
 have F15:=func_mk (st:=s_pieces) l15 cc15 k15 ec15
 have b15:=F15.fn.binds (ps:=["tree","width","height"]) fun _ _ _ _ _ _ us hl=>by obtain ⟨u0,u1,u2,rfl⟩:=len3 hl; rfl
 have F16:=fun_mk (st:=s_line_breaks) l16 cc16 k16
 have b16:=F16.binds (ps:=["line","pane","side"]) fun _ _ _ _ _ _ us hl=>by obtain ⟨u0,u1,u2,rfl⟩:=len3 hl; rfl
 have F17:=fun_mk (st:=s_goes_through) l17 cc17 k17
 have b17:=F17.binds (ps:=["line","panes","side"]) fun _ _ _ _ _ _ us hl=>by obtain ⟨u0,u1,u2,rfl⟩:=len3 hl; rfl
 have F18:=fun_mk (st:=s_lines_through) l18 cc18 k18
 have b18:=F18.binds (ps:=["block","panes","side"]) fun _ _ _ _ _ _ us hl=>by obtain ⟨u0,u1,u2,rfl⟩:=len3 hl; rfl
 have F19:=fun_mk (st:=s_entry_for) l19 cc19 k19
 have b19:=F19.binds (ps:=["block","some"]) fun _ _ _ _ _ _ us hl=>by obtain ⟨u0,u1,rfl⟩:=len2 hl; rfl
 have F20:=func_mk (st:=s_cut_up) l20 cc20 k20 ec20
 have b20:=F20.fn.binds (ps:=["sheet","some"]) fun _ _ _ _ _ _ us hl=>by obtain ⟨u0,u1,rfl⟩:=len2 hl; rfl
 have F21:=fun_mk (st:=s_form) l21 cc21 k21
 have b21:=F21.binds (ps:=["tree","width","height"]) fun _ _ _ _ _ _ us hl=>by obtain ⟨u0,u1,u2,rfl⟩:=len3 hl; rfl
 have F22:=fun_mk (st:=s_alike) l22 cc22 k22
 have b22:=F22.binds (ps:=["tree","other","width","height"]) fun _ _ _ _ _ _ us hl=>by obtain ⟨u0,u1,u2,u3,rfl⟩:=len4 hl; rfl
 have F23:=fun_mk (st:=s__law_cell) l23 cc23 k23
 have b23:=F23.binds (ps:=["_law_script","_law_k"]) fun _ _ _ _ _ _ us hl=>by obtain ⟨u0,u1,rfl⟩:=len2 hl; rfl
 have F24:=fun_mk (st:=s__law_draw) l24 cc24 k24
 have b24:=F24.binds (ps:=["_law_cell_here","_law_nth","_law_many"]) fun _ _ _ _ _ _ us hl=>by obtain ⟨u0,u1,u2,rfl⟩:=len3 hl; rfl
 have F25:=fun_mk (st:=s__law_state) l25 cc25 k25
 have b25:=F25.binds (ps:=["_law_cell_here"]) fun _ _ _ _ _ _ us hl=>by obtain ⟨u0,rfl⟩:=len1 hl; rfl
 have F26:=fun_mk (st:=s__law_pick) l26 cc26 k26
 have b26:=F26.binds (ps:=["_law_state_here","_law_many"]) fun _ _ _ _ _ _ us hl=>by obtain ⟨u0,u1,rfl⟩:=len2 hl; rfl
 have F27:=fun_mk (st:=s__law_tree) l27 cc27 k27
 have b27:=F27.binds (ps:=["_law_cells","_law_width","_law_height"]) fun _ _ _ _ _ _ us hl=>by obtain ⟨u0,u1,u2,rfl⟩:=len3 hl; rfl
 have F28:=fun_mk (st:=s__law_made) l28 cc28 k28
 have b28:=F28.binds (ps:=["_law_told_here"]) fun _ _ _ _ _ _ us hl=>by obtain ⟨u0,rfl⟩:=len1 hl; rfl
 have F29:=fun_mk (st:=s__law_whole) l29 cc29 k29
 have b29:=F29.binds (ps:=["_law_found"]) fun _ _ _ _ _ _ us hl=>by obtain ⟨u0,rfl⟩:=len1 hl; rfl
 have F30:=fun_mk (st:=s__law_told) l30 cc30 k30
 have b30:=F30.binds (ps:=["_law_tree_here"]) fun _ _ _ _ _ _ us hl=>by obtain ⟨u0,rfl⟩:=len1 hl; rfl
 have F31:=fun_mk (st:=s__law_pieces) l31 cc31 k31
 have b31:=F31.binds (ps:=["_law_told_here","_law_block"]) fun _ _ _ _ _ _ us hl=>by obtain ⟨u0,u1,rfl⟩:=len2 hl; rfl
 have F32:=fun_mk (st:=s__law_through) l32 cc32 k32
 have b32:=F32.binds (ps:=["_law_some","_law_block"]) fun _ _ _ _ _ _ us hl=>by obtain ⟨u0,u1,rfl⟩:=len2 hl; rfl
 have F33:=fun_mk (st:=s__law_parted) l33 cc33 k33
 have b33:=F33.binds (ps:=["_law_some","_law_block","_law_word","_law_line"]) fun _ _ _ _ _ _ us hl=>by obtain ⟨u0,u1,u2,u3,rfl⟩:=len4 hl; rfl
 have F34:=fun_mk (st:=s__law_recut) l34 cc34 k34
 have b34:=F34.binds (ps:=["_law_some","_law_block","_law_state_here"]) fun _ _ _ _ _ _ us hl=>by obtain ⟨u0,u1,u2,rfl⟩:=len3 hl; rfl
 have F35:=fun_mk (st:=s__law_spoiled) l35 cc35 k35
 have b35:=F35.binds (ps:=["_law_told_here","_law_cell_here"]) fun _ _ _ _ _ _ us hl=>by obtain ⟨u0,u1,rfl⟩:=len2 hl; rfl
 have F36:=fun_mk (st:=s__law_swapped) l36 cc36 k36
 have b36:=F36.binds (ps:=["_law_told_here","_law_width","_law_height"]) fun _ _ _ _ _ _ us hl=>by obtain ⟨u0,u1,u2,rfl⟩:=len3 hl; rfl
 have F37:=fun_mk (st:=s_law) l37 cc37 k37
 refine ⟨PySem.W.fnOf "law" "law" (defArgs s_law) (defBody s_law) (defScope s_law) .none kV37 dc37 pm37 an37 cd37 ct37,fun s v=>.of_eq rfl,fun base _ _=>?_⟩
 have K_Whole:MkOk l.prog w K mg base 1 "Whole" cW ["self","mark"] (sp_iW cW):=⟨_,_,⟨mk_cW,a_cWcW,i_cW,kc_cW⟩,ok_Whole_init F_cW R0,PySem.W.mg_of X G aC_cW,b_cW⟩
 have K_Upright:MkOk l.prog w K mg base 1 "Upright" cU ["self","at","first","other"] (sp_iC cU):=⟨_,_,⟨mk_cU,a_cUcU,i_cU,kc_cU⟩,ok_Upright_init F_cU R0,PySem.W.mg_of X G aC_cU,b_cU⟩
 have K_Level:MkOk l.prog w K mg base 1 "Level" cL ["self","at","first","other"] (sp_iC cL):=⟨_,_,⟨mk_cL,a_cLcL,i_cL,kc_cL⟩,ok_Level_init F_cL R0,PySem.W.mg_of X G aC_cL,b_cL⟩
 have D_is_whole:DefOk l.prog w K mg base 1 "is_whole" ["thing"] sp_whole:=⟨_,_,ok_is_whole F0 T,PySem.W.mg_of X G a0,k0,b0⟩
 have D_is_side:DefOk l.prog w K mg base 2 "is_side" ["thing"] sp_side:=⟨_,_,ok_is_side F1 T D_is_whole,PySem.W.mg_of X G a1,k1,b1⟩
 have D_inside:DefOk l.prog w K mg base 1 "inside" ["one","other"] sp_inside:=⟨_,_,ok_inside F2,PySem.W.mg_of X G a2,k2,b2⟩
 have D_check_sides:DefOk l.prog w K mg base 3 "check_sides" ["width","height"] sp_sides:=⟨_,_,ok_check_sides F3 D_is_side,PySem.W.mg_of X G a3,k3,b3⟩
 have D_kind_of:DefOk l.prog w K mg base 1 "kind_of" ["tree"] (sp_kindof cW cU cL):=⟨_,_,ok_kind_of F4 T R0,PySem.W.mg_of X G a4,k4,b4⟩
 have D_entry_of:DefOk l.prog w K mg base 2 "entry_of" ["tree"] (sp_entry cW cU cL):=⟨_,_,ok_entry_of F5 T R0 D_kind_of,PySem.W.mg_of X G a5,k5,b5⟩
 have D_entries_of:DefOk l.prog w K mg base 3 "entries_of" ["tree"] (sp_entries cW cU cL):=⟨_,_,ok_entries_of F6 T R0 D_entry_of,PySem.W.mg_of X G a6,k6,b6⟩
 have B_same:=(ok_Tree_same F7 D_entries_of:FnOk l.prog w K mg base CX0 4 f7 _ ["self","other"] (sp_msame cW cU cL))
 have M_same:∀ C,IsT cW cU cL C→MdOk l.prog w K mg base 4 C "same" ["self","other"] (sp_msame cW cU cL):=isT_all ⟨I_cW.cl,_,_,⟨a7cW,i7,k7⟩,B_same,b7⟩ ⟨I_cU.cl,_,_,⟨a7cU,i7,k7⟩,B_same,b7⟩ ⟨I_cL.cl,_,_,⟨a7cL,i7,k7⟩,B_same,b7⟩
 have D_cut_from:DefOk l.prog w K mg base 3 "cut_from" ["word","at","first","other"] (sp_cutfrom cW cU cL):=⟨_,_,ok_cut_from F8 T K_Upright K_Level,PySem.W.mg_of X G a8,k8,b8⟩
 have D_tree_from:DefOk l.prog w K mg base 4 "tree_from" ["entries"] (sp_from K cW cU cL):=⟨_,_,ok_tree_from F9 T R0 K_Whole D_cut_from,PySem.W.mg_of X G a9,k9,b9⟩
 have D_first_piece:DefOk l.prog w K mg base 1 "first_piece" ["piece","word","at"] sp_fst:=⟨_,_,ok_first_piece F10 T,PySem.W.mg_of X G a10,k10,b10⟩
 have D_other_piece:DefOk l.prog w K mg base 1 "other_piece" ["piece","word","at"] sp_oth:=⟨_,_,ok_other_piece F11 T,PySem.W.mg_of X G a11,k11,b11⟩
 have D_entries_by:DefOk l.prog w K mg base 7 "entries_by" ["sheet","entry_at"] (sp_by l.prog w K mg base):=⟨_,_,ok_entries_by F12 T D_first_piece D_other_piece,PySem.W.mg_of X G a12,k12,b12⟩
 have D_check_cut:DefOk l.prog w K mg base 2 "check_cut" ["piece","word","at"] sp_cutok:=⟨_,_,ok_check_cut F13 T D_is_whole,PySem.W.mg_of X G a13,k13,b13⟩
 have D_cut_out:DefOk l.prog w K mg base 4 "cut_out" ["tree","width","height"] (sp_out cW cU cL):=⟨_,_,ok_cut_out F14 T D_entries_of D_check_cut D_first_piece D_other_piece,PySem.W.mg_of X G a14,k14,b14⟩
 have D_pieces:DefOk l.prog w K mg base 5 "pieces" ["tree","width","height"] (sp_pieces tb cW cU cL):=⟨_,_,ok_pieces F15 T hC15 hB0 D_check_sides D_cut_out,PySem.W.mg_of X G a15,k15,b15⟩
 have D_line_breaks:DefOk l.prog w K mg base 1 "line_breaks" ["line","pane","side"] sp_brk:=⟨_,_,ok_line_breaks F16,PySem.W.mg_of X G a16,k16,b16⟩
 have D_goes_through:DefOk l.prog w K mg base 2 "goes_through" ["line","panes","side"] sp_goes:=⟨_,_,ok_goes_through F17 T D_line_breaks,PySem.W.mg_of X G a17,k17,b17⟩
 have D_lines_through:DefOk l.prog w K mg base 3 "lines_through" ["block","panes","side"] sp_lth:=⟨_,_,ok_lines_through F18 T D_goes_through,PySem.W.mg_of X G a18,k18,b18⟩
 have D_entry_for:DefOk l.prog w K mg base 4 "entry_for" ["block","some"] sp_entfor:=⟨_,_,ok_entry_for F19 T D_lines_through,PySem.W.mg_of X G a19,k19,b19⟩
 have D_cut_up:DefOk l.prog w K mg base 8 "cut_up" ["sheet","some"] (sp_cutup tb3):=⟨_,_,ok_cut_up F20 hC20 hB0 D_inside D_entry_for D_entries_by,PySem.W.mg_of X G a20,k20,b20⟩
 have D_form:DefOk l.prog w K mg base 9 "form" ["tree","width","height"] (sp_form tb tb3 cW cU cL):=⟨_,_,ok_form F21 hne D_pieces D_cut_up D_tree_from,PySem.W.mg_of X G a21,k21,b21⟩
 have D_alike:DefOk l.prog w K mg base 6 "alike" ["tree","other","width","height"] (sp_alike tb cW cU cL):=⟨_,_,ok_alike F22 D_pieces,PySem.W.mg_of X G a22,k22,b22⟩
 have D__law_cell:DefOk l.prog w K mg base 1 "_law_cell" ["_law_script","_law_k"] (sp_cell K):=⟨_,_,ok_law_cell F23 T,PySem.W.mg_of X G a23,k23,b23⟩
 have D__law_draw:DefOk l.prog w K mg base 1 "_law_draw" ["_law_cell_here","_law_nth","_law_many"] sp_draw:=⟨_,_,ok_law_draw F24,PySem.W.mg_of X G a24,k24,b24⟩
 have D__law_state:DefOk l.prog w K mg base 1 "_law_state" ["_law_cell_here"] sp_state:=⟨_,_,ok_law_state F25 T,PySem.W.mg_of X G a25,k25,b25⟩
 have D__law_pick:DefOk l.prog w K mg base 2 "_law_pick" ["_law_state_here","_law_many"] sp_pick:=⟨_,_,ok_law_pick F26 D__law_draw,PySem.W.mg_of X G a26,k26,b26⟩
 have A__law_tree:∀ n:Nat,DefOk l.prog w K mg base (n+3) "_law_tree" ["_law_cells","_law_width","_law_height"] (sp_tree n):=fun n=>by
  induction n with
  | zero=>exact ⟨_,_,fn_none F27 S_law_tree (fun _ _ _ _=>tree0),PySem.W.mg_of X G a27,k27,b27⟩
  | succ n ih=>exact ⟨_,_,ok_law_tree F27 D__law_state D__law_pick ih,PySem.W.mg_of X G a27,k27,b27⟩
 have D__law_tree:=A__law_tree 25
 have A__law_made:∀ n:Nat,DefOk l.prog w K mg base (n+3) "_law_made" ["_law_told_here"] (sp_made cW cU cL n):=fun n=>by
  induction n with
  | zero=>exact ⟨_,_,fn_none F28 S_law_made (fun _ _ _ _=>made0),PySem.W.mg_of X G a28,k28,b28⟩
  | succ n ih=>exact ⟨_,_,ok_law_made F28 K_Whole K_Upright K_Level ih,PySem.W.mg_of X G a28,k28,b28⟩
 have D__law_made:=A__law_made 24
 have D__law_whole:DefOk l.prog w K mg base 1 "_law_whole" ["_law_found"] sp_lwhole:=⟨_,_,ok_law_whole F29 T,PySem.W.mg_of X G a29,k29,b29⟩
 have A__law_told:∀ n:Nat,DefOk l.prog w K mg base (n+3) "_law_told" ["_law_tree_here"] (sp_ltold cW cU cL n):=fun n=>by
  induction n with
  | zero=>exact ⟨_,_,fn_none F30 S_law_told (fun _ _ _ _=>ltold0),PySem.W.mg_of X G a30,k30,b30⟩
  | succ n ih=>exact ⟨_,_,ok_law_told F30 T R0 D__law_whole ih,PySem.W.mg_of X G a30,k30,b30⟩
 have D__law_told:=A__law_told 24
 have A__law_pieces:∀ n:Nat,DefOk l.prog w K mg base (n+3) "_law_pieces" ["_law_told_here","_law_block"] (sp_lpieces n):=fun n=>by
  induction n with
  | zero=>exact ⟨_,_,fn_none F31 S_law_pieces (fun _ _ _ _=>lpieces0),PySem.W.mg_of X G a31,k31,b31⟩
  | succ n ih=>exact ⟨_,_,ok_law_pieces F31 ih,PySem.W.mg_of X G a31,k31,b31⟩
 have D__law_pieces:=A__law_pieces 24
 have D__law_through:DefOk l.prog w K mg base 1 "_law_through" ["_law_some","_law_block"] sp_throughX:=⟨_,_,ok_law_through F32 T,PySem.W.mg_of X G a32,k32,b32⟩
 have D__law_parted:DefOk l.prog w K mg base 1 "_law_parted" ["_law_some","_law_block","_law_word","_law_line"] sp_parted:=⟨_,_,ok_law_parted F33 T,PySem.W.mg_of X G a33,k33,b33⟩
 have A__law_recut:∀ n:Nat,DefOk l.prog w K mg base (n+3) "_law_recut" ["_law_some","_law_block","_law_state_here"] (sp_recut n):=fun n=>by
  induction n with
  | zero=>exact ⟨_,_,fn_none F34 S_law_recut (fun _ _ _ _=>recut0),PySem.W.mg_of X G a34,k34,b34⟩
  | succ n ih=>exact ⟨_,_,ok_law_recut F34 T D__law_through D__law_pick D__law_parted ih,PySem.W.mg_of X G a34,k34,b34⟩
 have D__law_recut:=A__law_recut 25
 have A__law_spoiled:∀ n:Nat,DefOk l.prog w K mg base (n+3) "_law_spoiled" ["_law_told_here","_law_cell_here"] (sp_spoiled n):=fun n=>by
  induction n with
  | zero=>exact ⟨_,_,fn_none F35 S_law_spoiled (fun _ _ _ _=>spoiled0),PySem.W.mg_of X G a35,k35,b35⟩
  | succ n ih=>exact ⟨_,_,ok_law_spoiled F35 ih,PySem.W.mg_of X G a35,k35,b35⟩
 have D__law_spoiled:=A__law_spoiled 24
 have D__law_swapped:DefOk l.prog w K mg base 1 "_law_swapped" ["_law_told_here","_law_width","_law_height"] sp_swapped:=⟨_,_,ok_law_swapped F36 T,PySem.W.mg_of X G a36,k36,b36⟩
 exact ok_law F37 T hne D__law_cell D__law_state D__law_tree D__law_pieces D__law_recut D__law_made D_form D__law_told D_alike D__law_spoiled D__law_swapped M_same
theorem walk (tb:Addr) (tb3:Addr) {l:PySem.W.OpenLaw} {q:Program} {loose:List Str} {XP:(Str→Option Value)→Heap→Prop} {YP:World→Heap→Prop} {d:DefRec} {K:Params→PySem.W.Frag} {Ts:List Addr} (hm_tb:tb∈Ts) (hm_tb3:tb3∈Ts) (hn:l.most=some 63) (hdf:d.params.defaults=[])
  (hY:∀ (w:World) (h:Heap),YP w h→(K w.params).In h) (hT:∀ (w:World) (h:Heap),YP w h→∀ T∈Ts,h.get? T=some (PySem.W.tabObj #[])∧(K w.params).lookup T=none∧∃ c,PySem.W.CodeHd h c T)
  (F:∀ (w:World) (mg:Str→Option Value) (fa:Addr) (h:Heap),(K w.params).In h→h.Ns mainGlobals mg→mg d.name=some (.ref fa) →
   ∃ fd:FuncData,(∀ (s:Shared) (u:Value),BindsTo s fd ⟨[u],[]⟩ [("_law_script",u)])∧∀ base:Heap,(K w.params).In base→base.Ns mainGlobals mg→FnOk l.prog w (K w.params) mg base CX0 29 fa fd ["_law_script"] (sp_law tb tb3 (K w.params))) :
  PySem.W.WalkO q loose XP YP l.row.toRowW d [] (fun f vs=>PySem.call f vs) :=
 L2.walk_ofT (n:=63) (k:=29) (x:="_law_script") (CX:=fun _=>CX0) (sp:=fun w=>sp_law tb tb3 (K w.params)) hn (by decide) hdf ⟨rfl,by decide,by decide⟩ hY hT F (fun _ _ a ns hl hO hS=>⟨a,ns,rfl,hS,hl,hO.2 tb hm_tb,hO.2 tb3 hm_tb3,fun _=>rfl⟩) fun _ _ _ _ _ z=>z
end K31
open PySem PySem.W PyProof.Rows
set_option maxRecDepth 100000 in
set_option maxHeartbeats 0 in
theorem PySem.Challenge.cw_glazebench_k31_one_form_holds : PySem.Challenge.rw_glazebench_k31_one_form.Holds := by
 refine KH.prep fun said => ?_
 have fx : ∀ s, KH.Xp PySem.Challenge.pw_glazebench_k31_one_form s = true → XL (KH.qv PySem.Challenge.pw_glazebench_k31_one_form) [] (s.heap.nsMap mainGlobals) s.heap := fun s e => xl_of s (Bool.and_eq_true_iff.mp e).1
 have fr : ∀ s, KH.Xp PySem.Challenge.pw_glazebench_k31_one_form s = true → RecFacts (RowW.records (OpenRow.toRowW PySem.Challenge.rw_glazebench_k31_one_form.row)) s.heap := fun s e => recFacts_of (Bool.and_eq_true_iff.mp e).2
 refine holds_open (XP := XL (KH.qv PySem.Challenge.pw_glazebench_k31_one_form) []) KH.left (L2.hookT (kHook KH.KK KH.kas KH.kas_is) KH.Ts).of (L2.hookT (kHook KH.KK KH.kas KH.kas_is) KH.Ts).keeps fx XL.keeps (by rfl) (by rfl) (by rfl) fr (by rfl) said (by decide +kernel) ?hb ?hw ?hc
 case hb => exact ⟨rfl,rfl, rfl,rfl, rfl, by decide +kernel⟩
 case hw => w_witness2
 case hc =>
  k_fill
  refine K31.walk (l := PySem.Challenge.rw_glazebench_k31_one_form) (Ts := KH.Ts) 277 306 (by simp [KH.Ts]) (by simp [KH.Ts]) rfl rfl (fun w h Y => PySem.W.kIn_of Y.1) ?HT ?F
  case HT =>
   intro w h Y T hT
   refine ⟨Y.2 T hT, ?_⟩
   have hT : T ∈ [277, 306] := hT
   simp only [List.mem_cons, List.not_mem_nil, or_false] at hT
   rcases hT with rfl | rfl
   ·exact ⟨by kernel_rfl, 281, L2.codeTB_of (c := 281) (T := 277) (by kernel_rfl) h (PySem.W.kIn_of Y.1)⟩
   ·exact ⟨by kernel_rfl, 310, L2.codeTB_of (c := 310) (T := 306) (by kernel_rfl) h (PySem.W.kIn_of Y.1)⟩
  case F =>
   intro w mg fa h KX G hmg
   refine' K31.all_mk (tb := 277) (tb3 := 306) KX G hmg ?my_aT ?my_aC_cW ?my_ic_cW ?my_a_cWcW ?my_i_cW ?my_l_cW ?my_cc_cW ?my_k_cW ?my_lT_cW ?my_eT_cW ?my_aC_cU ?my_ic_cU ?my_a_cUcU ?my_i_cU ?my_l_cU ?my_cc_cU ?my_k_cU ?my_aC_cL ?my_ic_cL ?my_a_cLcL ?my_i_cL ?my_l_cL ?my_cc_cL ?my_k_cL ?my_kit ?my_aG ?my_eG ?my_a0 ?my_l0 ?my_cc0 ?my_k0 ?my_a1 ?my_l1 ?my_cc1 ?my_k1 ?my_a2 ?my_l2 ?my_cc2 ?my_k2 ?my_a3 ?my_l3 ?my_cc3 ?my_k3 ?my_a4 ?my_l4 ?my_cc4 ?my_k4 ?my_a5 ?my_l5 ?my_cc5 ?my_k5 ?my_a6 ?my_l6 ?my_cc6 ?my_k6 ?my_a7cW ?my_a7cU ?my_a7cL ?my_i7 ?my_l7 ?my_cc7 ?my_k7 ?my_a8 ?my_l8 ?my_cc8 ?my_k8 ?my_a9 ?my_l9 ?my_cc9 ?my_k9 ?my_a10 ?my_l10 ?my_cc10 ?my_k10 ?my_a11 ?my_l11 ?my_cc11 ?my_k11 ?my_a12 ?my_l12 ?my_cc12 ?my_k12 ?my_a13 ?my_l13 ?my_cc13 ?my_k13 ?my_a14 ?my_l14 ?my_cc14 ?my_k14 ?my_a15 ?my_l15 ?my_cc15 ?my_k15 ?my_ec15 ?my_hC15 ?my_a16 ?my_l16 ?my_cc16 ?my_k16 ?my_a17 ?my_l17 ?my_cc17 ?my_k17 ?my_a18 ?my_l18 ?my_cc18 ?my_k18 ?my_a19 ?my_l19 ?my_cc19 ?my_k19 ?my_a20 ?my_l20 ?my_cc20 ?my_k20 ?my_ec20 ?my_hC20 ?my_a21 ?my_l21 ?my_cc21 ?my_k21 ?my_a22 ?my_l22 ?my_cc22 ?my_k22 ?my_a23 ?my_l23 ?my_cc23 ?my_k23 ?my_a24 ?my_l24 ?my_cc24 ?my_k24 ?my_a25 ?my_l25 ?my_cc25 ?my_k25 ?my_a26 ?my_l26 ?my_cc26 ?my_k26 ?my_a27 ?my_l27 ?my_cc27 ?my_k27 ?my_a28 ?my_l28 ?my_cc28 ?my_k28 ?my_a29 ?my_l29 ?my_cc29 ?my_k29 ?my_a30 ?my_l30 ?my_cc30 ?my_k30 ?my_a31 ?my_l31 ?my_cc31 ?my_k31 ?my_a32 ?my_l32 ?my_cc32 ?my_k32 ?my_a33 ?my_l33 ?my_cc33 ?my_k33 ?my_a34 ?my_l34 ?my_cc34 ?my_k34 ?my_a35 ?my_l35 ?my_cc35 ?my_k35 ?my_a36 ?my_l36 ?my_cc36 ?my_k36 ?my_a37 ?my_l37 ?my_cc37 ?my_k37 ?my_abm ?my_lbm ?my_nbm1 ?my_nbm2 ?my_hne ?my_z0 ?my_z1 ?my_z2 ?my_z3 ?my_z4 ?my_z5 ?my_z6 ?my_z7 ?my_z8 ?my_z9 ?my_z10 ?my_z11 ?my_z12 ?my_g0 ?my_g1 ?my_g2 ?my_g3 ?my_g4 ?my_g5 ?my_g6
   (case my_aT => k_is); (case my_aC_cW => k_is); (case my_a_cWcW => k_is); (case my_i_cW => k_is); (case my_l_cW => k_is); (case my_cc_cW => k_is); (case my_k_cW => k_is); (case my_lT_cW => k_is)
   (case my_aC_cU => k_is); (case my_a_cUcU => k_is); (case my_i_cU => k_is); (case my_l_cU => k_is); (case my_cc_cU => k_is); (case my_k_cU => k_is); (case my_aC_cL => k_is); (case my_a_cLcL => k_is)
   (case my_i_cL => k_is); (case my_l_cL => k_is); (case my_cc_cL => k_is); (case my_k_cL => k_is); (case my_aG => k_is); (case my_a0 => k_is); (case my_l0 => k_is); (case my_cc0 => k_is)
   (case my_k0 => k_is); (case my_a1 => k_is); (case my_l1 => k_is); (case my_cc1 => k_is); (case my_k1 => k_is); (case my_a2 => k_is); (case my_l2 => k_is); (case my_cc2 => k_is)
   (case my_k2 => k_is); (case my_a3 => k_is); (case my_l3 => k_is); (case my_cc3 => k_is); (case my_k3 => k_is); (case my_a4 => k_is); (case my_l4 => k_is); (case my_cc4 => k_is)
   (case my_k4 => k_is); (case my_a5 => k_is); (case my_l5 => k_is); (case my_cc5 => k_is); (case my_k5 => k_is); (case my_a6 => k_is); (case my_l6 => k_is); (case my_cc6 => k_is)
   (case my_k6 => k_is); (case my_a7cW => k_is); (case my_a7cU => k_is); (case my_a7cL => k_is); (case my_i7 => k_is); (case my_l7 => k_is); (case my_cc7 => k_is); (case my_k7 => k_is)
   (case my_a8 => k_is); (case my_l8 => k_is); (case my_cc8 => k_is); (case my_k8 => k_is); (case my_a9 => k_is); (case my_l9 => k_is); (case my_cc9 => k_is); (case my_k9 => k_is)
   (case my_a10 => k_is); (case my_l10 => k_is); (case my_cc10 => k_is); (case my_k10 => k_is); (case my_a11 => k_is); (case my_l11 => k_is); (case my_cc11 => k_is); (case my_k11 => k_is)
   (case my_a12 => k_is); (case my_l12 => k_is); (case my_cc12 => k_is); (case my_k12 => k_is); (case my_a13 => k_is); (case my_l13 => k_is); (case my_cc13 => k_is); (case my_k13 => k_is)
   (case my_a14 => k_is); (case my_l14 => k_is); (case my_cc14 => k_is); (case my_k14 => k_is); (case my_a15 => k_is); (case my_l15 => k_is); (case my_cc15 => k_is); (case my_k15 => k_is)
   (case my_a16 => k_is); (case my_l16 => k_is); (case my_cc16 => k_is); (case my_k16 => k_is); (case my_a17 => k_is); (case my_l17 => k_is); (case my_cc17 => k_is); (case my_k17 => k_is)
   (case my_a18 => k_is); (case my_l18 => k_is); (case my_cc18 => k_is); (case my_k18 => k_is); (case my_a19 => k_is); (case my_l19 => k_is); (case my_cc19 => k_is); (case my_k19 => k_is)
   (case my_a20 => k_is); (case my_l20 => k_is); (case my_cc20 => k_is); (case my_k20 => k_is); (case my_a21 => k_is); (case my_l21 => k_is); (case my_cc21 => k_is); (case my_k21 => k_is)
   (case my_a22 => k_is); (case my_l22 => k_is); (case my_cc22 => k_is); (case my_k22 => k_is); (case my_a23 => k_is); (case my_l23 => k_is); (case my_cc23 => k_is); (case my_k23 => k_is)
   (case my_a24 => k_is); (case my_l24 => k_is); (case my_cc24 => k_is); (case my_k24 => k_is); (case my_a25 => k_is); (case my_l25 => k_is); (case my_cc25 => k_is); (case my_k25 => k_is)
   (case my_a26 => k_is); (case my_l26 => k_is); (case my_cc26 => k_is); (case my_k26 => k_is); (case my_a27 => k_is); (case my_l27 => k_is); (case my_cc27 => k_is); (case my_k27 => k_is)
   (case my_a28 => k_is); (case my_l28 => k_is); (case my_cc28 => k_is); (case my_k28 => k_is); (case my_a29 => k_is); (case my_l29 => k_is); (case my_cc29 => k_is); (case my_k29 => k_is)
   (case my_a30 => k_is); (case my_l30 => k_is); (case my_cc30 => k_is); (case my_k30 => k_is); (case my_a31 => k_is); (case my_l31 => k_is); (case my_cc31 => k_is); (case my_k31 => k_is)
   (case my_a32 => k_is); (case my_l32 => k_is); (case my_cc32 => k_is); (case my_k32 => k_is); (case my_a33 => k_is); (case my_l33 => k_is); (case my_cc33 => k_is); (case my_k33 => k_is)
   (case my_a34 => k_is); (case my_l34 => k_is); (case my_cc34 => k_is); (case my_k34 => k_is); (case my_a35 => k_is); (case my_l35 => k_is); (case my_cc35 => k_is); (case my_k35 => k_is)
   (case my_a36 => k_is); (case my_l36 => k_is); (case my_cc36 => k_is); (case my_k36 => k_is); (case my_a37 => k_is); (case my_l37 => k_is); (case my_cc37 => k_is); (case my_k37 => k_is)
   (case my_abm => k_is); (case my_lbm => k_is); (case my_z0 => k_is); (case my_z1 => k_is); (case my_z2 => k_is); (case my_z3 => k_is); (case my_z4 => k_is); (case my_z5 => k_is)
   (case my_z6 => k_is); (case my_z7 => k_is); (case my_z8 => k_is); (case my_z9 => k_is); (case my_z10 => k_is); (case my_z11 => k_is); (case my_z12 => k_is); (case my_g0 => k_is)
   (case my_g1 => k_is); (case my_g2 => k_is); (case my_g3 => k_is); (case my_g4 => k_is); (case my_g5 => k_is); (case my_g6 => k_is); (case my_eT_cW => rfl); (case my_ec15 => rfl)
   (case my_ec20 => rfl); (case my_ic_cW => kernel_rfl); (case my_ic_cU => kernel_rfl); (case my_ic_cL => kernel_rfl); (case my_kit => kernel_rfl); (case my_eG => kernel_rfl); (case my_hC15 => kernel_rfl); (case my_hC20 => kernel_rfl)
   (case my_nbm1 => decide); (case my_nbm2 => decide); (case my_hne => decide)
