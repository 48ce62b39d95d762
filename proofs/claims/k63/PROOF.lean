import PyProof.Rows.All
import Wide.All
import OpenK.AllK
import Wide.FinOn
import Lean
import PyProof.EqAt
import PyProof.EqKinds
import PyProof.TupleCall
import PyProof.NeKinds
import PyProof.ExcAttrAll.ValueError
import PyProof.StationsW
import PyProof.PassesOwn
import PyProof.RulesAs
import PyProof.NsDelKeeps
import PyProof.CompMap
import PyProof.DictItems
import KE.KPairComp
import KE.KMinKey
import KE.KDictList
import KE.KDictOf
import KE.KEqDict
import PyProof.DictIter
import PyProof.DictWalks
import PyProof.Rows.DictUnroll
import KE.KRevIter
import PySem.Challenge.RW_glazebench_k63_whole_any_tree_is_on_the
set_option Elab.async false
set_option linter.all false
set_option maxRecDepth 100000
namespace L2
open PySem PySem.Spec PyProof.Rows
abbrev Key:=Sum Int Str
def keyIs:Key→Value→Bool
  | .inl k,v=>Value.isInt k v
  | .inr x,v=>Value.isStrOf x v
def keyH (w:World):Key→Int
  | .inl k=>hashInt k
  | .inr x=>hashStr w x
theorem keyIs_shape:∀ {k:Key} {v:Value},keyIs k v=true→(∃ i t,k=Sum.inl i∧v=Value.int i t)∨(∃ x t,k=Sum.inr x∧v=Value.str x t)
  | .inl i,v,h=>by
    obtain ⟨t,e⟩:=Value.isInt_shape (k:=i) (v:=v) h
    exact .inl ⟨i,t,rfl,e⟩
  | .inr x,v,h=>by
    obtain ⟨t,e⟩:=Value.isStrOf_shape (x:=x) (v:=v) h
    exact .inr ⟨x,t,rfl,e⟩
theorem keyIs_int (i:Int) (t:Tok):keyIs (.inl i) (.int i t)=true:=by simp [keyIs,Value.isInt]
theorem keyIs_str (x:Str) (t:Tok):keyIs (.inr x) (.str x t)=true:=by simp [keyIs,Value.isStrOf]
theorem key_ll (a b:Int):decide ((Sum.inl a:Key)=Sum.inl b)=(a == b):=by
  by_cases e:a=b
  · subst e; simp
  · have h:¬ (Sum.inl a:Key)=Sum.inl b:=fun q=>e (Sum.inl.inj q)
    rw [decide_eq_false h]
    exact (beq_eq_false_iff_ne.mpr e).symm
theorem key_rr (a b:Str):decide ((Sum.inr a:Key)=Sum.inr b)=decide (a=b):=by
  by_cases e:a=b
  · subst e; simp
  · have h:¬ (Sum.inr a:Key)=Sum.inr b:=fun q=>e (Sum.inr.inj q)
    rw [decide_eq_false h,decide_eq_false e]
theorem key_lr (a:Int) (b:Str):decide ((Sum.inl a:Key)=Sum.inr b)=false:=decide_eq_false (fun q=>nomatch q)
theorem key_rl (a:Str) (b:Int):decide ((Sum.inr a:Key)=Sum.inl b)=false:=decide_eq_false (fun q=>nomatch q)
def mixKind (prog:Program) (w:World):PySem.KeyKind prog w Key where
  is:=keyIs
  hash:=keyH w
  inj:=fun v a b ha hb=>by
    rcases keyIs_shape ha with ⟨i,t,rfl,rfl⟩ | ⟨x,t,rfl,rfl⟩
    · rcases keyIs_shape hb with ⟨j,u,rfl,e⟩ | ⟨y,u,rfl,e⟩
      · injection e with e1 _; rw [e1]
      · exact nomatch e
    · rcases keyIs_shape hb with ⟨j,u,rfl,e⟩ | ⟨y,u,rfl,e⟩
      · exact nomatch e
      · injection e with e1 _; rw [e1]
  byValue:=fun k v h=>by
    rcases keyIs_shape h with ⟨i,t,rfl,rfl⟩ | ⟨x,t,rfl,rfl⟩ <;> rfl
  pyHash:=fun hv h=>by
    rcases keyIs_shape hv with ⟨i,t,rfl,rfl⟩ | ⟨x,t,rfl,rfl⟩
    · exact wpAny_pyHash_int h
    · exact wpAny_pyHash_str h
  eqBool:=fun hu hv h=>by
    rcases keyIs_shape hu with ⟨i,t,rfl,rfl⟩ | ⟨x,t,rfl,rfl⟩
    · rcases keyIs_shape hv with ⟨j,u,rfl,rfl⟩ | ⟨y,u,rfl,rfl⟩
      · rw [key_ll] at h; exact wpAny_eqBool_int h
      · rw [key_lr] at h; exact SeqAt.EqAt.int_str i t y u _ _ _ _ h
    · rcases keyIs_shape hv with ⟨j,u,rfl,rfl⟩ | ⟨y,u,rfl,rfl⟩
      · rw [key_rl] at h; exact SeqAt.EqAt.str_int x t j u _ _ _ _ h
      · rw [key_rr] at h; exact wpAny_eqBool_str h
  «strs»:=fun k x t v h=>by
    rcases keyIs_shape h with ⟨i,u,rfl,e⟩ | ⟨y,u,rfl,e⟩
    · exact nomatch e
    · injection e with e1 _
      subst e1
      cases v <;> rfl
theorem mixKind_int (prog:Program) (w:World) (i:Int) (t:Tok):(mixKind prog w).is (.inl i) (.int i t)=true:=keyIs_int i t
theorem mixKind_str (prog:Program) (w:World) (x:Str) (t:Tok):(mixKind prog w).is (.inr x) (.str x t)=true:=keyIs_str x t
end L2
namespace L2
open PySem PySem.Spec PyProof.Rows
inductive V where
  | non | bl (b:Bool) | int (i:Int) | str (x:Str) | byt (b:Array UInt8) | flt (b:UInt64) | ref (a:Addr) | ty (n:String)
  deriving DecidableEq
def RelV:V→Value→Prop
  | .non,u=>u=Value.none
  | .bl b,u=>u=Value.bool b
  | .int i,u=>∃ t,u=Value.int i t
  | .str x,u=>∃ t,u=Value.str x t
  | .byt b,u=>∃ t,u=Value.bytes b t
  | .flt b,u=>∃ t,u=Value.float b t
  | .ref a,u=>u=Value.ref a
  | .ty n,u=>u=Value.type n
abbrev Vals:List V→List Value→Prop:=Paired RelV
theorem Vals.length {xs:List V} {us:List Value} (r:Vals xs us):xs.length=us.length:=Paired.length r
theorem Vals.get:∀ {xs:List V} {us:List Value} {i:Nat} {x:V},Vals xs us→xs[i]?=some x→∃ u,us[i]?=some u∧RelV x u
  | _,_,_,_,.nil,e=>by simp at e
  | _,_,0,_,.cons r _,e=>by simp at e; subst e; exact ⟨_,rfl,r⟩
  | _,_,i+1,x,.cons _ t,e=>by
    obtain ⟨u,h1,h2⟩:=Vals.get (i:=i) (x:=x) t (by simpa using e)
    exact ⟨u,by simpa using h1,h2⟩
theorem Vals.append:∀ {xs ys:List V} {us ws:List Value},Vals xs us→Vals ys ws→Vals (xs++ys) (us++ws)
  | _,_,_,_,.nil,s=>s
  | _,_,_,_,.cons r t,s=>.cons r (Vals.append t s)
theorem Vals.take:∀ {xs:List V} {us:List Value} (n:Nat),Vals xs us→Vals (xs.take n) (us.take n)
  | _,_,0,_=>.nil
  | _,_,_+1,.nil=>.nil
  | _,_,n+1,.cons r t=>.cons r (Vals.take n t)
theorem Vals.drop:∀ {xs:List V} {us:List Value} (n:Nat),Vals xs us→Vals (xs.drop n) (us.drop n)
  | _,_,0,r=>r
  | _,_,_+1,.nil=>.nil
  | _,_,n+1,.cons _ t=>Vals.drop n t
def RelO:Option V→Option Value→Prop
  | some v,some u=>RelV v u
  | none,none=>True
  | _,_=>False
def KV {κ:Type}:List (κ × V)→List (κ × Value)→Prop:=Paired fun (p:κ × V) (q:κ × Value)=>p.1=q.1∧RelV p.2 q.2
def kV:Key→V
  | .inl i=>.int i
  | .inr x=>.str x
inductive HO where
  | lst (xs:List V)
  | tup (xs:List V)
  | dK (kvs:List (Key × V)) | dT (kvs:List (List Key × V))
  | set (S:Int→Bool) (n:Nat)
  | ins (C dx:Addr) (fs:List (Str × V))
  | own (x:Addr)
  | xd (fs:List (Str × V))
  | met (f x:Addr)
  | rng (lo hi:Int)
  | frz (o:Obj) (u:HO)
  | tbl (ps:Array Value)
  | ext (φ:Heap→Prop)
abbrev Hp:=Addr→Option HO
def upd (H:Hp) (a:Addr) (o:HO):Hp:=fun b=>if b=a then some o else H b
theorem upd_same {H:Hp} {a:Addr} {o:HO}:upd H a o a=some o:=by unfold upd; rw [if_pos rfl]
theorem upd_ne {H:Hp} {a b:Addr} {o:HO} (h:b≠a):upd H a o b=H b:=by unfold upd; rw [if_neg h]
theorem ne_of {H:Hp} {a b:Addr} {o u:HO} (h:H a=some o) (h':H b=some u) (d:o≠u):a≠b:=by
  intro e; subst e; rw [h] at h'; exact d (Option.some.inj h')
theorem ne_of_none {H:Hp} {a b:Addr} {o:HO} (h:H a=some o) (h':H b=none):a≠b:=by
  intro e; subst e; rw [h] at h'; cases h'
section
variable (P:Program) (w:World)
def ObjOk (H:Hp) (h:Heap) (a:Addr):HO→Prop
  | .lst xs=>xs.length≤sizeLine∧∃ (its:List Value) (n:Nat),Vals xs its∧h.get? a=some { cls:=.type "list",data:=.seq its.toArray n }
  | .tup xs=>xs.length≤sizeLine∧∃ its:List Value,Vals xs its∧IsTup h a its.toArray
  | .dK kvs=>kvs.length≤sizeLine∧(a == sysModules)=false∧∃ vs,KV kvs vs∧h.DictOf (mixKind P w) a vs
  | .dT kvs=>kvs.length≤sizeLine∧(a == sysModules)=false∧∃ xs:List (List Key × Addr × Value),
      Paired (fun (p:List Key × V) (q:List Key × Addr × Value)=>p.1=q.1∧H q.2.1=some (.tup (p.1.map kV))∧RelV p.2 q.2.2) kvs xs ∧
      ∃ o es ep,h.get? a=some o∧o.ExactDict∧o.data=.dict es ep∧es.toList=xs.map (entryOfKey (tupleKind (mixKind P w)))∧(xs.map (·.1)).Nodup
  | .set S n=>h.SetOf (intKind P w) a S n
  | .ins C dx fs=>H dx=some (.own a)∧fs.length≤1000∧dx≠a∧h.get? a=some (PySem.W.instObj C dx) ∧
      ∃ mA,h.Ns1 dx mA∧(∀ f,RelO (fs.lookup f) (mA f))∧PySem.Within mA (fs.map (·.1))
  | .own _=>∃ o,h.get? a=some o
  | .xd fs=>∃ mA,h.Ns1 a mA∧∀ f,RelO (fs.lookup f) (mA f)
  | .rng lo hi=>∃ t u v,h.get? a=some { cls:=.type "range",data:=.fields #[.int lo t,.int hi u,.int 1 v] }
  | .frz o u=>h.get? a=some o∧ObjOk H h a u
  | .tbl ps=>h.get? a=some { cls:=.none,data:=.fields ps }
  | .met f x=>h.get? a=some (PySem.W.methodObj (.ref f) (.ref x))
  | .ext φ=>φ h∧(∃ o,h.get? a=some o)∧∀ h1 h2:Heap,φ h1→(∀ o,h1.get? a=some o→h2.get? a=some o)→φ h2
def HOk (H:Hp) (h:Heap):Prop:=∀ a o,H a=some o→ObjOk P w H h a o
end
section
variable {P:Program} {w:World} {H H':Hp} {h h':Heap} {a:Addr} {o:HO}
theorem ObjOk.lt (x:ObjOk P w H h a o):a < h.objs.size:=by
  cases o with
  | lst xs=>obtain ⟨_,_,_,_,e⟩:=x; exact Heap.lt_size e
  | tup xs=>obtain ⟨_,_,_,p⟩:=x; exact p.lt
  | dK kvs=>obtain ⟨_,_,_,_,o,_,_,e,_⟩:=x; exact Heap.lt_size e
  | dT kvs=>obtain ⟨_,_,_,_,o,_,_,e,_⟩:=x; exact Heap.lt_size e
  | set S n=>obtain ⟨o,_,_,_,e,_⟩:=x; exact Heap.lt_size e
  | ins C dx fs=>obtain ⟨_,_,_,e,_⟩:=x; exact Heap.lt_size e
  | own y=>obtain ⟨_,e⟩:=x; exact Heap.lt_size e
  | xd fs=>obtain ⟨_,⟨_,_,_,e,_⟩,_⟩:=x; exact Heap.lt_size e
  | rng lo hi=>obtain ⟨_,_,_,e⟩:=x; exact Heap.lt_size e
  | frz ob u=>obtain ⟨e,_⟩:=x; exact Heap.lt_size e
  | tbl ps=>exact Heap.lt_size (show h.get? a=some _ from x)
  | met f y=>exact Heap.lt_size (show h.get? a=some _ from x)
  | ext φ=>obtain ⟨_,⟨_,e⟩,_⟩:=x; exact Heap.lt_size e
theorem Paired.mapP {α β:Type} {F G:α→β→Prop}:∀ {l₁:List α} {l₂:List β},Paired F l₁ l₂→(∀ a b,F a b→G a b)→Paired G l₁ l₂
  | _,_,.nil,_=>.nil
  | _,_,.cons r t,f=>.cons (f _ _ r) (Paired.mapP t f)
theorem ObjOk.stay (x:ObjOk P w H h a o) (k:∀ b u,(b=a∨H b=some (.own a))→h.get? b=some u→h'.get? b=some u)
    (ho:∀ b,H b=some (.own a)→H' b=some (.own a)) (ht:∀ b xs,H b=some (.tup xs)→H' b=some (.tup xs)):ObjOk P w H' h' a o:=by
  induction o with
  | lst xs=>obtain ⟨z,its,n,r,e⟩:=x; exact ⟨z,its,n,r,k _ _ (.inl rfl) e⟩
  | tup xs=>obtain ⟨z,its,r,ob,e,c⟩:=x; exact ⟨z,its,r,ob,k _ _ (.inl rfl) e,c⟩
  | dK kvs=>obtain ⟨z,y,vs,r,ob,es,ep,e,c⟩:=x; exact ⟨z,y,vs,r,ob,es,ep,k _ _ (.inl rfl) e,c⟩
  | dT kvs =>
    obtain ⟨z,y,xs,r,ob,es,ep,e,c⟩:=x
    exact ⟨z,y,xs,Paired.mapP r fun p q z=>⟨z.1,ht _ _ z.2.1,z.2.2⟩,ob,es,ep,k _ _ (.inl rfl) e,c⟩
  | set S n=>obtain ⟨ob,es,ep,t,e,c⟩:=x; exact ⟨ob,es,ep,t,k _ _ (.inl rfl) e,c⟩
  | ins C dx fs =>
    obtain ⟨d,z,ne,e,mA,⟨od,es,ep,e2,c⟩,r⟩:=x
    exact ⟨ho _ d,z,ne,k _ _ (.inl rfl) e,mA,⟨od,es,ep,k _ _ (.inr d) e2,c⟩,r⟩
  | own y=>obtain ⟨ob,e⟩:=x; exact ⟨ob,k _ _ (.inl rfl) e⟩
  | xd fs=>obtain ⟨mA,⟨od,es,ep,e,c⟩,r⟩:=x; exact ⟨mA,⟨od,es,ep,k _ _ (.inl rfl) e,c⟩,r⟩
  | rng lo hi=>obtain ⟨t,u,v,e⟩:=x; exact ⟨t,u,v,k _ _ (.inl rfl) e⟩
  | frz ob u ih=>obtain ⟨e,q⟩:=x; exact ⟨k _ _ (.inl rfl) e,ih q⟩
  | tbl ps =>
    have e:h.get? a=some { cls:=.none,data:=.fields ps }:=x
    show h'.get? a=some { cls:=.none,data:=.fields ps }
    exact k a _ (.inl rfl) e
  | met f y =>
    have e:h.get? a=some (PySem.W.methodObj (.ref f) (.ref y)):=x
    show h'.get? a=some (PySem.W.methodObj (.ref f) (.ref y))
    exact k a _ (.inl rfl) e
  | ext φ=>obtain ⟨p,⟨o,e⟩,st⟩:=x; exact ⟨st _ _ p fun o q=>k _ _ (.inl rfl) q,⟨o,k _ _ (.inl rfl) e⟩,st⟩
theorem HOk.lt (x:HOk P w H h) (e:H a=some o):a < h.objs.size:=(x a o e).lt
theorem HOk.fresh (x:HOk P w H h) (e:h.objs.size≤a):H a=none:=by
  cases q:H a with
  | none=>rfl
  | some u=>exact absurd (Nat.lt_of_lt_of_le (x.lt q) e) (Nat.lt_irrefl _)
theorem HOk.kept (x:HOk P w H h) (k:∀ b u,h.get? b=some u→h'.get? b=some u):HOk P w H h':=fun a o e =>
  (x a o e).stay (fun b u _ q=>k b u q) (fun _ q=>q) fun _ _ q=>q
theorem HOk.laid (x:HOk P w H h) (k:∀ b u,h.get? b=some u→h'.get? b=some u) (hp:h.objs.size≤a) (new:ObjOk P w (upd H a o) h' a o):HOk P w (upd H a o) h':=fun b u e=>by
  have hn:=x.fresh hp
  by_cases hb:b=a
  · subst hb; rw [upd_same] at e; cases e; exact new
  · rw [upd_ne hb] at e
    exact (x b u e).stay (fun c v _ q=>k c v q) (fun c q=>by rw [upd_ne (ne_of_none q hn)]; exact q) fun c xs q=>by rw [upd_ne (ne_of_none q hn)]; exact q
end
def Rd (H:Hp) (a:Addr) (u:HO):Prop:=H a=some u∨∃ o,H a=some (.frz o u)
theorem Rd.ok {P:Program} {w:World} {H:Hp} {h:Heap} {a:Addr} {u:HO} (r:Rd H a u) (x:HOk P w H h):ObjOk P w H h a u:=by
  rcases r with r | ⟨o,r⟩
  · exact x a u r
  · obtain ⟨_,q⟩:=x a _ r
    exact q
def Mut:Option HO→Prop
  | some (.lst _)=>True
  | some (.dK _)=>True
  | some (.dT _)=>True
  | some (.set _ _)=>True
  | some (.ins _ _ _)=>True
  | some (.ext _)=>True
  | _=>False
section
variable {P:Program} {w:World} {H:Hp} {h h':Heap} {x e:Addr} {o':HO}
theorem HOk.write (ok:HOk P w H h) (mu:Mut (H x)) (he:e=x∨H e=some (.own x)) (k:∀ b u,b≠e→h.get? b=some u→h'.get? b=some u) (heo:∃ u,h'.get? e=some u)
    (new:ObjOk P w (upd H x o') h' x o'):HOk P w (upd H x o') h':=fun b u q=>by
  have nown:∀ c y,H c=some (.own y)→c≠x:=fun c y r z=>by subst z; rw [r] at mu; exact mu
  have ntup:∀ c xs,H c=some (.tup xs)→c≠x:=fun c xs r z=>by subst z; rw [r] at mu; exact mu
  by_cases hb:b=x
  · subst hb; rw [upd_same] at q; cases q; exact new
  · rw [upd_ne hb] at q
    by_cases hbe:b=e
    · have q':H b=some (.own x):=by
        rcases he with z | z
        · exact absurd (hbe.trans z) hb
        · rw [hbe]; exact z
      rw [q] at q'; cases q'
      obtain ⟨v,hv⟩:=heo
      exact ⟨v,by rw [hbe]; exact hv⟩
    · refine (ok b u q).stay (fun c v hc r=>k c v ?_ r) (fun c r=>by rw [upd_ne (nown c b r)]; exact r) fun c xs r=>by rw [upd_ne (ntup c xs r)]; exact r
      rcases hc with rfl | hc
      · exact hbe
      · rintro rfl
        rcases he with z | z
        · exact nown c b hc z
        · rw [hc] at z; cases z; exact hb rfl
end
structure Un (fs ex:List Addr) (H H':Hp) (h h':Heap):Prop where
  keep:∀ b o,h.get? b=some o→H b=none→b ∉ fs→b ∉ ex→h'.get? b=some o
  slot:∀ b o,h.get? b=some o→H b=none→b∈fs→b ∉ ex→∃ sl,h'.get? b=some { o with slots:=sl }
  free:∀ b o,h.get? b=some o→H b=none→b ∉ ex→H' b=none
  there:∀ b o,h.get? b=some o→b ∉ ex→∃ o',h'.get? b=some o'
  tups:∀ b xs,H b=some (.tup xs)→H' b=some (.tup xs)
  frzs:∀ b o u,H b=some (.frz o u)→H' b=some (.frz o u)
  tbls:∀ b ps,H b=some (.tbl ps)→∃ more,H' b=some (.tbl (ps++more))
section
variable {fs fs' ex ex':List Addr} {H H1 H2:Hp} {h h1 h2 h':Heap} {a x e:Addr} {o:HO}
theorem Un.any (u:Un fs ex H H1 h h1) {b:Addr} {ob:Obj} (q:h.get? b=some ob) (n:H b=none) (hx:b ∉ ex):∃ sl,h1.get? b=some { ob with slots:=sl }:=by
  by_cases hb:b∈fs
  · exact u.slot b ob q n hb hx
  · exact ⟨ob.slots,u.keep b ob q n hb hx⟩
theorem Un.kept (k:∀ b u,h.get? b=some u→h'.get? b=some u):Un fs ex H H h h' :=
  ⟨fun b ob q _ _ _=>k b ob q,fun b ob q _ _ _=>⟨ob.slots,k b ob q⟩,fun _ _ _ n _=>n,fun b ob q _=>⟨ob,k b ob q⟩,fun _ _ q=>q,fun _ _ _ q=>q,fun _ ps q=>⟨#[],by rw [q]; simp⟩⟩
theorem Un.refl:Un fs ex H H h h:=Un.kept fun _ _ q=>q
theorem Un.laid (k:∀ b u,h.get? b=some u→h'.get? b=some u) (hp:h.objs.size≤a) (hn:H a=none):Un fs ex H (upd H a o) h h' where
  keep:=fun b u q _ _ _=>k b u q
  slot:=fun b u q _ _ _=>⟨u.slots,k b u q⟩
  free:=fun b u q n _=>by rw [upd_ne (Nat.ne_of_lt (Nat.lt_of_lt_of_le (Heap.lt_size q) hp))]; exact n
  there:=fun b u q _=>⟨u,k b u q⟩
  tups:=fun b xs q=>by rw [upd_ne (ne_of_none q hn)]; exact q
  frzs:=fun b u xs q=>by rw [upd_ne (ne_of_none q hn)]; exact q
  tbls:=fun b ps q=>⟨#[],by rw [upd_ne (ne_of_none q hn),q]; simp⟩
theorem Un.write (mu:Mut (H x)) (he:e=x∨H e=some (.own x)) (k:∀ b u,b≠e→h.get? b=some u→h'.get? b=some u) (heo:∃ u,h'.get? e=some u):Un fs ex H (upd H x o) h h':=by
  have hx:∀ b,H b=none→b≠x:=fun b n z=>by subst z; rw [n] at mu; exact mu
  have hb:∀ b,H b=none→b≠e:=fun b n z=>by
    subst z
    rcases he with r | r
    · exact hx b n r
    · rw [n] at r; cases r
  have hm:∀ b u,H b=some u→¬ Mut (some u)→b≠x:=fun b u q nm z=>by subst z; rw [q] at mu; exact nm mu
  refine ⟨fun b u q n _ _=>k b u (hb b n) q,fun b u q n _ _=>⟨u.slots,k b u (hb b n) q⟩,fun b u q n _=>by rw [upd_ne (hx b n)]; exact n,fun b u q _=>?_,
    fun b xs q=>by rw [upd_ne (hm b _ q fun z=>z)]; exact q,fun b u xs q=>by rw [upd_ne (hm b _ q fun z=>z)]; exact q,fun b ps q=>⟨#[],by rw [upd_ne (hm b _ q fun z=>z),q]; simp⟩⟩
  by_cases hbe:b=e
  · subst hbe; exact heo
  · exact ⟨u,k b u hbe q⟩
end
def trk (h:Heap) (H:Hp):List Addr:=(List.range h.objs.size).filter fun a=>(H a).isSome
def hidT (h:Heap) (H:Hp):Heap:=PySem.W.hideAll h (trk h H)
theorem hidT_size (h:Heap) (H:Hp):(hidT h H).objs.size=h.objs.size:=PySem.W.hideAll_size _ _
theorem hidT_get {h:Heap} {H:Hp} {b:Addr} {o:Obj} (e:h.get? b=some o) (n:H b=none):(hidT h H).get? b=some o :=
  PySem.W.hideAll_get _ e fun hm=>by
    have q:(H b).isSome=true:=(List.mem_filter.mp hm).2
    rw [n] at q; simp at q
theorem of_hidT {h:Heap} {H:Hp} {b:Addr} {o:Obj} (e:(hidT h H).get? b=some o):h.get? b=some o∧H b=none:=by
  have e':h.get? b=some o:=PySem.W.of_hideAll (trk h H) e
  refine ⟨e',?_⟩
  cases q:H b with
  | none=>rfl
  | some x =>
    have hm:b∈trk h H:=List.mem_filter.mpr ⟨List.mem_range.mpr (Heap.lt_size e'),by simp [q]⟩
    have z:(hidT h H).get? b=none:=PySem.W.hideAll_none (trk h H) hm
    rw [z] at e; cases e
def allNews (g h:Heap) (L:Addr):List (Addr × Obj):=(List.range h.objs.size).filterMap fun a=>if a=L∨(g.get? a).isSome=true then none else (h.get? a).map fun o=>(a,o)
def rest (g h:Heap) (L d:Addr):List (Addr × Obj):=(allNews g h L).filter fun p=>decide (p.1≠d)
end L2
namespace L2
open PySem PySem.Spec PyProof.Rows
structure Mod (K:PySem.W.Frag) (mg:Str→Option Value) (base:Heap):Prop where
  kin:K.In base
  glob:base.Ns mainGlobals mg
  blt:∃ mb,base.Ns builtinsNs mb∧∀ x:Str,x≠"__name__"→mb x=bootBuiltins x
  nolimit:base.NoLimit
structure Cx where
  prog:Program
  w:World
  K:PySem.W.Frag
  mg:Str→Option Value
  base:Heap
  A:Around
  N:List Str
  s₀:Shared
  H₀:Hp
  env:Env
  outer:List Env
  stack:List Env
  ex:List Addr
  fn:Str→Bool
  calm:Bool
  pn:List (Addr × Obj)
  xe:Value→Shared→Prop
def frs (l:List Env):List Addr:=l.filterMap (·.frame)
abbrev Cx.fs (X:Cx):List Addr:=frs X.outer
def Vis (sc:Scope) (x:Str):Prop:=sc.names.lookup x=some .local∨sc.names.lookup x=some .cell∨sc.names.lookup x=some .free
def Loc (sc:Scope) (x:Str):Prop:=sc.names.lookup x=some .local∨sc.names.lookup x=some .cell
def Look (env:Env) (h:Heap) (m:Str→Option Value) (x:Str) (u:Value):Prop :=
  (env.kindOf x=some .local∧m x=some u)∨((env.kindOf x=some .cell∨env.kindOf x=some .free)∧∃ c,env.cells.lookup x=some c∧h.IsCell c (some u))
structure Cx.Ok (X:Cx):Prop where
  mod:Mod X.K X.mg X.base
  kind:X.env.scope.kind=.function
  glob:X.env.globals=mainGlobals
  blt:X.env.builtins=builtinsNs
  above:X.s₀.heap.objs.size≤X.env.locals
  inj:∀ x y c,X.env.cells.lookup x=some c→X.env.cells.lookup y=some c→x=y
  has:∀ x,(X.env.kindOf x=some .cell∨X.env.kindOf x=some .free)→∃ c,X.env.cells.lookup x=some c
  cab:∀ x c,X.fn x=true→X.env.cells.lookup x=some c→X.s₀.heap.objs.size≤c
  hd:X.calm=true→X.A.handled=none
  frames:X.A.frames=some X.stack
  stk:X.stack=X.outer∨(X.stack=X.env :: X.outer∧X.env.frame=some X.env.locals)
  exf:∀ b∈X.ex,b≠X.env.locals∧∀ x c,X.env.cells.lookup x=some c→c≠b
  bs:∀ b o,X.base.get? b=some o→X.s₀.heap.get? b=some o∧X.H₀ b=none
  bsz:X.base.objs.size≤X.s₀.heap.objs.size
  noex:∀ b o,X.base.get? b=some o→b ∉ X.ex
  exfs:∀ b∈X.ex,b ∉ X.fs
  funs:X.s₀.heap.FunFrames X.base X.outer
  frf:∀ b∈X.fs,X.H₀ b=none
structure Inv (X:Cx) (pins:List (Addr × Obj)) (σ:List (Option V)) (H:Hp) (s:Shared):Prop where
  ok:X.Ok
  os:s.os=X.s₀.os
  bare:AllBare s.gens
  base:Un X.fs X.ex X.H₀ H X.s₀.heap s.heap
  loc:∃ m,s.heap.Ns X.env.locals m∧∀ (i:Nat) (x:Str) (v:V),X.N[i]?=some x→σ[i]?=some (some v)→Vis X.env.scope x→∃ u,RelV v u∧Look X.env s.heap m x u
  cell:∀ x c,X.env.cells.lookup x=some c→∃ v,s.heap.IsCell c v
  free:H X.env.locals=none
  freeC:∀ x c,X.env.cells.lookup x=some c→H c=none
  pin:∀ p∈X.pn++pins,s.heap.get? p.1=some p.2∧H p.1=none∧p.1≠X.env.locals∧p.1 ∉ X.fs∧∀ v,p.2.data≠.cell v
  hok:HOk X.prog X.w H s.heap
  len:σ.length=X.N.length
section
variable {X:Cx} {pins:List (Addr × Obj)} {σ:List (Option V)} {H H':Hp} {s:Shared} {h':Heap}
theorem Cx.Ok.nofr (ok:X.Ok) {b:Addr} {o:Obj} (e:X.base.get? b=some o):b ∉ X.fs:=fun hb=>by
  have:=(ok.funs.mem hb).1
  rw [e] at this; cases this
theorem Inv.bs (I:Inv X pins σ H s):∀ b o,X.base.get? b=some o→s.heap.get? b=some o∧H b=none:=fun b o e =>
  ⟨I.base.keep b o (I.ok.bs b o e).1 (I.ok.bs b o e).2 (I.ok.nofr e) (I.ok.noex b o e),I.base.free b o (I.ok.bs b o e).1 (I.ok.bs b o e).2 (I.ok.noex b o e)⟩
theorem Inv.bk (I:Inv X pins σ H s):∀ b o,X.base.get? b=some o→s.heap.get? b=some o:=fun b o e=>(I.bs b o e).1
theorem Inv.mod (I:Inv X pins σ H s):Mod X.K X.mg X.base:=I.ok.mod
theorem Inv.kIn (I:Inv X pins σ H s):X.K.In s.heap:=I.ok.mod.kin.keeps I.bk
theorem Inv.lt (I:Inv X pins σ H s):X.env.locals < s.heap.objs.size:=let ⟨_,hn,_⟩:=I.loc; hn.lt
theorem Inv.sz (I:Inv X pins σ H s):X.s₀.heap.objs.size≤s.heap.objs.size:=Nat.le_trans I.ok.above (Nat.le_of_lt I.lt)
theorem Inv.nofs (I:Inv X pins σ H s) {a:Addr} (h:s.heap.objs.size≤a):a ∉ X.fs:=fun hb=>by
  obtain ⟨_,o,ho,_⟩:=I.ok.funs.mem hb
  exact absurd (Nat.lt_of_lt_of_le (Heap.lt_size ho) (Nat.le_trans I.sz h)) (Nat.lt_irrefl _)
theorem Inv.cne (I:Inv X pins σ H s):∀ x c,X.env.cells.lookup x=some c→c≠X.env.locals:=fun x c e z=>by
  obtain ⟨v,o,ho,hd⟩:=I.cell x c e
  obtain ⟨m,⟨o',es,ep,ho',hd',_⟩,_⟩:=I.loc
  rw [z,ho'] at ho; cases ho; rw [hd'] at hd; cases hd
theorem Inv.funs (I:Inv X pins σ H s):s.heap.FunFrames X.base X.outer:=by
  have all:∀ (l:List Env),(∀ b∈frs l,b∈X.fs)→X.s₀.heap.FunFrames X.base l→s.heap.FunFrames X.base l:=by
    intro l
    induction l with
    | nil=>intro _ _; trivial
    | cons env r ih =>
      intro hs hl
      obtain ⟨hk,⟨L,o,hf,hn,ho,hd⟩,hr⟩:=hl
      have hL:L∈X.fs:=hs L (by unfold frs; rw [List.filterMap_cons,hf]; exact List.mem_cons_self)
      obtain ⟨sl,e⟩:=I.base.slot L o ho (I.ok.frf L hL) hL fun z=>I.ok.exfs L z hL
      exact ⟨hk,⟨L,_,hf,hn,e,hd⟩,ih (fun b hb=>hs b (by unfold frs; rw [List.filterMap_cons,hf]; exact List.mem_cons_of_mem _ hb)) hr⟩
  exact all X.outer (fun _ hb=>hb) I.ok.funs
theorem Inv.stack (I:Inv X pins σ H s):s.heap.FunFrames X.base X.stack:=by
  rcases I.ok.stk with e | ⟨e,hf⟩
  · rw [e]; exact I.funs
  · rw [e]
    obtain ⟨m,hn,_⟩:=I.loc
    refine .cons (by rw [I.ok.kind]; decide) hf hn ?_ I.funs
    exact Heap.get?_none_of_le (Nat.le_trans I.ok.bsz I.ok.above)
theorem Inv.stkSub (I:Inv X pins σ H s):∀ b∈frs X.stack,b∈X.env.locals :: X.fs:=fun b hb=>by
  rcases I.ok.stk with e | ⟨e,hf⟩
  · rw [e] at hb; exact List.mem_cons_of_mem _ hb
  · rw [e] at hb
    unfold frs at hb
    rw [List.filterMap_cons,hf] at hb
    exact hb
theorem Inv.stkFree (I:Inv X pins σ H s):∀ b∈frs X.stack,H b=none:=fun b hb=>by
  rcases List.mem_cons.mp (I.stkSub b hb) with e | hb
  · rw [e]; exact I.free
  · obtain ⟨_,o,ho,_⟩:=I.ok.funs.mem hb
    exact I.base.free b o ho (I.ok.frf b hb) fun z=>I.ok.exfs b z hb
theorem Inv.step {g':Array GenState} {t':Nat} {d':Drawn} {ch:List Addr} (I:Inv X pins σ H s)
    (hch:∀ b∈ch,(b∈X.ex∨X.s₀.heap.objs.size≤b)∧b≠X.env.locals∧(∀ x c,X.env.cells.lookup x=some c→c≠b)∧∀ p∈X.pn++pins,p.1≠b)
    (keep:∀ b o,b≠X.env.locals→b ∉ X.fs→b ∉ ch→s.heap.get? b=some o→H b=none→h'.get? b=some o)
    (slot:∀ b o,b≠X.env.locals→b∈X.fs→b ∉ ch→s.heap.get? b=some o→H b=none→∃ sl,h'.get? b=some { o with slots:=sl }) (free:∀ b o,b ∉ ch→s.heap.get? b=some o→H b=none→H' b=none)
    (there:∀ b o,b ∉ ch→s.heap.get? b=some o→∃ o',h'.get? b=some o')
    (tups:∀ b xs,H b=some (.tup xs)→H' b=some (.tup xs)) (frzs:∀ b o u,H b=some (.frz o u)→H' b=some (.frz o u)) (tbls:∀ b ps,H b=some (.tbl ps)→∃ more,H' b=some (.tbl (ps++more)))
    (ns:∀ m,s.heap.Ns X.env.locals m→h'.Ns X.env.locals m) (hok:HOk X.prog X.w H' h') (hg:AllBare g') :
    Inv X pins σ H' { s with heap:=h',gens:=g',drawn:=d',toks:=t' }:=by
  have neL:∀ b o,X.s₀.heap.get? b=some o→b≠X.env.locals:=fun b o e=>Nat.ne_of_lt (Nat.lt_of_lt_of_le (Heap.lt_size e) I.ok.above)
  have neC:∀ b o,X.s₀.heap.get? b=some o→b ∉ X.ex→b ∉ ch:=fun b o e hx hb=>by
    rcases (hch b hb).1 with z | z
    · exact hx z
    · exact absurd (Nat.lt_of_lt_of_le (Heap.lt_size e) z) (Nat.lt_irrefl _)
  have cellK:∀ x c,X.env.cells.lookup x=some c→∀ v,s.heap.IsCell c v→h'.IsCell c v:=fun x c e v ⟨o,ho,hd⟩=>by
    have nch:c ∉ ch:=fun z=>(hch c z).2.2.1 x c e rfl
    by_cases hc:c∈X.fs
    · obtain ⟨sl,q⟩:=slot c o (I.cne x c e) hc nch ho (I.freeC x c e)
      exact ⟨_,q,hd⟩
    · exact ⟨o,keep c o (I.cne x c e) hc nch ho (I.freeC x c e),hd⟩
  refine ⟨I.ok,I.os,hg,⟨fun b o e n hb hx=>?_,fun b o e n hb hx=>?_,fun b o e n hx=>?_,fun b o e hx=>?_,fun b xs e=>tups b xs (I.base.tups b xs e),fun b o xs e=>frzs b o xs (I.base.frzs b o xs e),fun b ps e=>?_⟩,?_,fun x c e=>?_,?_,fun x c e=>?_,fun p hp=>?_,hok,I.len⟩
  · exact keep b o (neL b o e) hb (neC b o e hx) (I.base.keep b o e n hb hx) (I.base.free b o e n hx)
  · obtain ⟨sl,e1⟩:=I.base.slot b o e n hb hx
    obtain ⟨sl',e2⟩:=slot b _ (neL b o e) hb (neC b o e hx) e1 (I.base.free b o e n hx)
    exact ⟨sl',e2⟩
  · obtain ⟨o',e1⟩:=I.base.there b o e hx
    exact free b o' (neC b o e hx) e1 (I.base.free b o e n hx)
  · obtain ⟨o',e1⟩:=I.base.there b o e hx
    exact there b o' (neC b o e hx) e1
  · obtain ⟨m1,e1⟩:=I.base.tbls b ps e
    obtain ⟨m2,e2⟩:=tbls b _ e1
    exact ⟨m1++m2,by rw [e2,Array.append_assoc]⟩
  · obtain ⟨m,hn,hl⟩:=I.loc
    refine ⟨m,ns m hn,fun i x v e1 e2 e3=>?_⟩
    obtain ⟨u,r,l⟩:=hl i x v e1 e2 e3
    refine ⟨u,r,?_⟩
    rcases l with l | ⟨k,c,e,z⟩
    · exact .inl l
    · exact .inr ⟨k,c,e,cellK x c e _ z⟩
  · obtain ⟨v,z⟩:=I.cell x c e
    exact ⟨v,cellK x c e v z⟩
  · obtain ⟨m,⟨o,_,_,ho,_⟩,_⟩:=I.loc
    exact free _ o (fun z=>(hch _ z).2.1 rfl) ho I.free
  · obtain ⟨v,o,ho,hd⟩:=I.cell x c e
    exact free c o (fun z=>(hch c z).2.2.1 x c e rfl) ho (I.freeC x c e)
  · obtain ⟨e,n,ne,nf,d⟩:=I.pin p hp
    have nch:p.1 ∉ ch:=fun z=>(hch p.1 z).2.2.2 p hp rfl
    exact ⟨keep p.1 p.2 ne nf nch e n,free p.1 p.2 nch e n,ne,nf,d⟩
theorem Inv.un {t':Nat} (I:Inv X pins σ H s) (u:Un X.fs [] H H' s.heap h') (hok:HOk X.prog X.w H' h'):Inv X pins σ H' { s with heap:=h',toks:=t' }:=by
  obtain ⟨m,⟨o,es,ep,ho,r⟩,_⟩:=id I.loc
  obtain ⟨sl,hL⟩:=u.any ho I.free (by simp)
  exact I.step (g':=s.gens) (d':=s.drawn) (ch:=[]) (fun _ z=>nomatch z) (fun b o _ hb _ e n=>u.keep b o e n hb (by simp)) (fun b o _ hb _ e n=>u.slot b o e n hb (by simp)) (fun b o _ e n=>u.free b o e n (by simp)) (fun b o _ e=>u.there b o e (by simp)) u.tups u.frzs u.tbls (fun m' hm=>by
    obtain ⟨o',es',ep',ho',r'⟩:=hm
    rw [ho] at ho'; cases ho'
    exact ⟨_,es',ep',hL,r'⟩) hok I.bare
theorem Inv.call {g':Array GenState} {t':Nat} {d':Drawn} {ch:List Addr} (I:Inv X pins σ H s) (u:Un (frs X.stack) ch H H' s.heap h') (hok:HOk X.prog X.w H' h') (hg:AllBare g')
    (hch:∀ b∈ch,(b∈X.ex∨X.s₀.heap.objs.size≤b)∧b≠X.env.locals∧(∀ x c,X.env.cells.lookup x=some c→c≠b)∧∀ p∈X.pn++pins,p.1≠b) :
    Inv X pins σ H' { s with heap:=h',gens:=g',drawn:=d',toks:=t' }:=by
  obtain ⟨m,⟨o,es,ep,ho,r⟩,_⟩:=id I.loc
  obtain ⟨sl,hL⟩:=u.any ho I.free fun z=>(hch _ z).2.1 rfl
  exact I.step (ch:=ch) hch (fun b o hL hb hc e n=>u.keep b o e n (fun z=>(List.mem_cons.mp (I.stkSub b z)).elim hL hb) hc) (fun b o _ _ hc e n=>u.any e n hc) (fun b o hc e n=>u.free b o e n hc) (fun b o hc e=>u.there b o e hc) u.tups u.frzs u.tbls (fun m' hm=>by
    obtain ⟨o',es',ep',ho',r'⟩:=hm
    rw [ho] at ho'; cases ho'
    exact ⟨_,es',ep',hL,r'⟩) hok hg
theorem Inv.turned {t':Nat} {it:Addr} (I:Inv X pins σ H s) (k:∀ b o,b≠it→s.heap.get? b=some o→h'.get? b=some o) (hn:H it=none) (hL:it≠X.env.locals)
    (h1:it∈X.ex∨X.s₀.heap.objs.size≤it) (h2:∀ x c,X.env.cells.lookup x=some c→c≠it) (h3:∀ p∈X.pn++pins,p.1≠it):Inv X pins σ H { s with heap:=h',toks:=t' }:=by
  have nit:∀ b u,H b=some u→b≠it:=fun b u e z=>by rw [z,hn] at e; cases e
  refine I.step (g':=s.gens) (d':=s.drawn) (ch:=[it]) (fun b hb=>?_) (fun b o _ _ hc e _=>k b o (fun z=>hc (by simp [z])) e) (fun b o _ _ hc e _=>⟨o.slots,k b o (fun z=>hc (by simp [z])) e⟩) (fun _ _ _ _ n=>n)
    (fun b o hc e=>⟨o,k b o (fun z=>hc (by simp [z])) e⟩) (fun _ _ e=>e) (fun _ _ _ e=>e) (fun b ps e=>⟨#[],by rw [e]; simp⟩) (fun m hm=>?_) (fun b u e=>?_) I.bare
  · have e:b=it:=by simpa using hb
    subst e
    exact ⟨h1,hL,h2,h3⟩
  · obtain ⟨o,es,ep,ho,r⟩:=hm
    exact ⟨o,es,ep,k _ o (Ne.symm hL) ho,r⟩
  · refine (I.hok b u e).stay (fun c v hc q=>k c v ?_ q) (fun _ q=>q) fun _ _ q=>q
    rcases hc with z | z
    · rw [z]; exact nit b u e
    · exact nit c _ z
theorem Inv.tok (I:Inv X pins σ H s) (t:Nat):Inv X pins σ H { s with toks:=t }:=I.un (h':=s.heap) (t':=t) Un.refl I.hok
theorem Inv.kept {t':Nat} (I:Inv X pins σ H s) (k:∀ b u,s.heap.get? b=some u→h'.get? b=some u):Inv X pins σ H { s with heap:=h',toks:=t' }:=I.un (Un.kept k) (I.hok.kept k)
theorem Inv.laid {a:Addr} {o:HO} {t':Nat} (I:Inv X pins σ H s) (k:∀ b u,s.heap.get? b=some u→h'.get? b=some u) (hp:s.heap.objs.size≤a) (new:ObjOk X.prog X.w (upd H a o) h' a o) :
    Inv X pins σ (upd H a o) { s with heap:=h',toks:=t' }:=I.un (Un.laid k hp (I.hok.fresh hp)) (I.hok.laid k hp new)
theorem Inv.write {x e:Addr} {o:HO} {t':Nat} (I:Inv X pins σ H s) (mu:Mut (H x)) (he:e=x∨H e=some (.own x)) (k:∀ b u,b≠e→s.heap.get? b=some u→h'.get? b=some u) (heo:∃ u,h'.get? e=some u)
    (new:ObjOk X.prog X.w (upd H x o) h' x o):Inv X pins σ (upd H x o) { s with heap:=h',toks:=t' }:=I.un (Un.write mu he k heo) (I.hok.write mu he k heo new)
theorem Inv.pins_of {pins':List (Addr × Obj)} (I:Inv X pins σ H s) (h:∀ p∈pins',s.heap.get? p.1=some p.2∧H p.1=none∧p.1≠X.env.locals∧p.1 ∉ X.fs∧∀ v,p.2.data≠.cell v):Inv X pins' σ H s :=
  ⟨I.ok,I.os,I.bare,I.base,I.loc,I.cell,I.free,I.freeC,fun p hp=>(List.mem_append.mp hp).elim (fun z=>I.pin p (List.mem_append_left _ z)) (h p),I.hok,I.len⟩
theorem nodup_ix {N:List Str} (hN:N.Nodup) {i j:Nat} {x:Str} (a:N[i]?=some x) (b:N[j]?=some x):i=j:=by
  obtain ⟨h1,e1⟩:=List.getElem?_eq_some_iff.mp a
  obtain ⟨h2,e2⟩:=List.getElem?_eq_some_iff.mp b
  exact (List.getElem_inj hN).mp (e1.trans e2.symm)
theorem store_ok2 {M:Model} {A:Around} {E:Value→Shared→Prop} {i:Nat} {x:Str} {v:V} {u:Value} {Q:Unit→Shared→Prop} (I:Inv X pins σ H s) (hN:X.N.Nodup) (hi:X.N[i]?=some x) (hx:Loc X.env.scope x) (r:RelV v u)
    (h:∀ s',Inv X pins (σ.set i (some v)) H s'→(∃ a,Heap.SameBut a s.heap s'.heap∧(a=X.env.locals∨X.env.cells.lookup x=some a))→Q () s') (hf:X.fn x=true∨X.env.scope.names.lookup x=some .local:=by first | exact .inl rfl | exact .inr rfl | assumption):wpAny M A (storeName X.env x u) Q E s:=by
  obtain ⟨m,hn,hl⟩:=id I.loc
  have hcls:(X.env.scope.kind == .class || (X.env.scope.kind == .module && X.env.locals != X.env.globals))=false:=by rw [I.ok.kind]; rfl
  have hiσ:i < σ.length:=by rw [I.len]; exact (List.getElem?_eq_some_iff.mp hi).1
  have cne:=I.cne
  have tracked:∀ {a:Addr} {h':Heap},(∃ o,s.heap.get? a=some o∧H a=none)→Heap.SameBut a s.heap h'→HOk X.prog X.w H h':=fun {a h'} ha hs b ob e=>by
    obtain ⟨_,_,hfree⟩:=ha
    refine (I.hok b ob e).stay (fun c w' hc q=>(hs.2 c ?_).trans q) (fun _ q=>q) fun _ _ q=>q
    rintro rfl
    rcases hc with rfl | hc
    · rw [hfree] at e; cases e
    · rw [hfree] at hc; cases hc
  rcases hx with hk | hk
  · refine wpAny_storeName_local hk hn (fun h' hn' hs=>?_) hcls
    obtain ⟨oL,_,_,hoL,_⟩:=id hn
    refine h _ ⟨I.ok,I.os,I.bare,⟨fun b o e n hb hx=>?_,fun b o e n hb hx=>?_,I.base.free,fun b o e hx=>?_,I.base.tups,I.base.frzs,I.base.tbls⟩,⟨_,hn',fun j y v' e1 e2 e3=>?_⟩,fun y c e=>?_,I.free,I.freeC,fun p hp=>?_,tracked ⟨oL,hoL,I.free⟩ hs,by simpa using I.len⟩ ⟨_,hs,.inl rfl⟩
    · exact (hs.2 b (Nat.ne_of_lt (Nat.lt_of_lt_of_le (Heap.lt_size e) I.ok.above))).trans (I.base.keep b o e n hb hx)
    · obtain ⟨sl,e1⟩:=I.base.slot b o e n hb hx
      exact ⟨sl,(hs.2 b (Nat.ne_of_lt (Nat.lt_of_lt_of_le (Heap.lt_size e) I.ok.above))).trans e1⟩
    · obtain ⟨o',e1⟩:=I.base.there b o e hx
      exact ⟨o',(hs.2 b (Nat.ne_of_lt (Nat.lt_of_lt_of_le (Heap.lt_size e) I.ok.above))).trans e1⟩
    · by_cases hj:j=i
      · subst hj
        rw [hi] at e1; cases e1
        rw [List.getElem?_set_self hiσ] at e2
        cases e2
        exact ⟨u,r,.inl ⟨hk,by simp⟩⟩
      · rw [List.getElem?_set_ne (Ne.symm hj)] at e2
        obtain ⟨u',r',q⟩:=hl j y v' e1 e2 e3
        refine ⟨u',r',?_⟩
        rcases q with ⟨k,e⟩ | ⟨k,c,e,z⟩
        · refine .inl ⟨k,?_⟩
          have:y≠x:=fun e=>hj (nodup_ix hN e1 (e ▸ hi))
          simp [this,e]
        · exact .inr ⟨k,c,e,z.sameBut hs (cne y c e)⟩
    · obtain ⟨w',z⟩:=I.cell y c e
      exact ⟨w',z.sameBut hs (cne y c e)⟩
    · obtain ⟨e,n,ne,nf,d⟩:=I.pin p hp
      exact ⟨(hs.2 p.1 ne).trans e,n,ne,nf,d⟩
  · have hfn:X.fn x=true:=by
      rcases hf with z | z
      · exact z
      · rw [z] at hk; cases hk
    obtain ⟨c,hc⟩:=I.ok.has x (.inl hk)
    obtain ⟨w',z⟩:=I.cell x c hc
    refine wpAny_storeName_cell I.ok.kind hk hc z (fun h' hc' hs=>?_)
    obtain ⟨oc,hoc,hocd⟩:=id z
    refine h { s with heap:=h' } ⟨I.ok,I.os,I.bare,⟨fun b o e n hb hx=>?_,fun b o e n hb hx=>?_,I.base.free,fun b o e hx=>?_,I.base.tups,I.base.frzs,I.base.tbls⟩,⟨m,hn.sameBut hs (Ne.symm (cne x c hc)),fun j y v' e1 e2 e3=>?_⟩,fun y c' e=>?_,I.free,I.freeC,fun p hp=>?_,tracked ⟨oc,hoc,I.freeC x c hc⟩ hs,by simpa using I.len⟩ ⟨c,hs,.inr hc⟩
    · exact (hs.2 b (Nat.ne_of_lt (Nat.lt_of_lt_of_le (Heap.lt_size e) (I.ok.cab x c hfn hc)))).trans (I.base.keep b o e n hb hx)
    · obtain ⟨sl,e1⟩:=I.base.slot b o e n hb hx
      exact ⟨sl,(hs.2 b (Nat.ne_of_lt (Nat.lt_of_lt_of_le (Heap.lt_size e) (I.ok.cab x c hfn hc)))).trans e1⟩
    · obtain ⟨o',e1⟩:=I.base.there b o e hx
      exact ⟨o',(hs.2 b (Nat.ne_of_lt (Nat.lt_of_lt_of_le (Heap.lt_size e) (I.ok.cab x c hfn hc)))).trans e1⟩
    · by_cases hj:j=i
      · subst hj
        rw [hi] at e1; cases e1
        rw [List.getElem?_set_self hiσ] at e2
        cases e2
        exact ⟨u,r,.inr ⟨.inl hk,c,hc,hc'⟩⟩
      · rw [List.getElem?_set_ne (Ne.symm hj)] at e2
        obtain ⟨u',r',q⟩:=hl j y v' e1 e2 e3
        refine ⟨u',r',?_⟩
        rcases q with q | ⟨k,c',e,z'⟩
        · exact .inl q
        · refine .inr ⟨k,c',e,z'.sameBut hs ?_⟩
          rintro rfl
          exact hj (nodup_ix hN e1 (I.ok.inj _ _ _ e hc ▸ hi))
    · by_cases hcc:c'=c
      · subst hcc; exact ⟨_,hc'⟩
      · obtain ⟨w2,z2⟩:=I.cell y c' e
        exact ⟨w2,z2.sameBut hs hcc⟩
    · obtain ⟨e,n,ne,nf,d⟩:=I.pin p hp
      refine ⟨(hs.2 p.1 ?_).trans e,n,ne,nf,d⟩
      intro q
      rw [q,hoc] at e
      have q':oc=p.2:=Option.some.inj e
      exact d w' (by rw [← q']; exact hocd)
theorem store_ok {M:Model} {A:Around} {E:Value→Shared→Prop} {i:Nat} {x:Str} {v:V} {u:Value} {Q:Unit→Shared→Prop} (I:Inv X pins σ H s) (hN:X.N.Nodup) (hi:X.N[i]?=some x) (hx:Loc X.env.scope x) (r:RelV v u)
    (h:∀ s',Inv X pins (σ.set i (some v)) H s'→Q () s') (hf:X.fn x=true∨X.env.scope.names.lookup x=some .local:=by first | exact .inl rfl | exact .inr rfl | assumption):wpAny M A (storeName X.env x u) Q E s :=
  store_ok2 I hN hi hx r (fun s' I' _=>h s' I') hf
theorem Inv.call' {s':Shared} {ch:List Addr} (I:Inv X pins σ H s) (ho:s'.os=s.os) (u:Un (frs X.stack) ch H H' s.heap s'.heap) (hok:HOk X.prog X.w H' s'.heap) (hg:AllBare s'.gens)
    (hch:∀ b∈ch,(b∈X.ex∨X.s₀.heap.objs.size≤b)∧b≠X.env.locals∧(∀ x c,X.env.cells.lookup x=some c→c≠b)∧∀ p∈X.pn++pins,p.1≠b):Inv X pins σ H' s':=by
  obtain ⟨h',g',d',t',o'⟩:=s'
  have e:o'=s.os:=ho
  subst e
  exact I.call (g':=g') (t':=t') (d':=d') u hok hg hch
end
abbrev XK:=Value→Option Addr→Hp→Prop
abbrev St:=List (Option V)
abbrev VK:=V→Hp→Prop
abbrev TE:=St→Hp→VK→Prop
abbrev TT:=St→Hp→(Bool→Hp→Prop)→Prop
abbrev TA:=St→Hp→(List V→Hp→Prop)→Prop
structure Ends where
  nx:St→Hp→Prop
  rt:VK
  bk:St→Hp→Prop:=fun _ _=>False
  ct:St→Hp→Prop:=fun _ _=>False
abbrev TS:=Ends→St→Hp→Prop
def EP (X:Cx) (pins:List (Addr × Obj)) (σ:St) (Q:VK) (u:Value) (s':Shared):Prop:=∃ v H',Inv X pins σ H' s'∧RelV v u∧Q v H'
def TP (X:Cx) (pins:List (Addr × Obj)) (σ:St) (Q:Bool→Hp→Prop) (b:Bool) (s':Shared):Prop:=∃ H',Inv X pins σ H' s'∧Q b H'
def AP (X:Cx) (pins:List (Addr × Obj)) (σ:St) (Q:List V→Hp→Prop) (us:List Value) (s':Shared):Prop:=∃ vs H',Inv X pins σ H' s'∧Vals vs us∧Q vs H'
def SP (X:Cx) (pins:List (Addr × Obj)) (D:Ends) (f:Flow) (s':Shared):Prop :=
  match f with
  | .next=>∃ σ' H',Inv X pins σ' H' s'∧D.nx σ' H'
  | .brk=>∃ σ' H',Inv X pins σ' H' s'∧D.bk σ' H'
  | .cont=>∃ σ' H',Inv X pins σ' H' s'∧D.ct σ' H'
  | .ret u=>∃ v σ' H',Inv X pins σ' H' s'∧RelV v u∧D.rt v H'
def PE (X:Cx) (e:Expr) (t:TE):Prop :=
  ∀ (pins:List (Addr × Obj)) (s:Shared) (σ:St) (H:Hp) (Q:VK),Inv X pins σ H s→t σ H Q→wpAny (model X.prog X.w) X.A (eval e X.env) (EP X pins σ Q) X.xe s
def PT (X:Cx) (e:Expr) (t:TT):Prop :=
  ∀ (pins:List (Addr × Obj)) (s:Shared) (σ:St) (H:Hp) (Q:Bool→Hp→Prop),Inv X pins σ H s→t σ H Q→wpAny (model X.prog X.w) X.A (isTrue e X.env (eval e X.env)) (TP X pins σ Q) X.xe s
def PW (X:Cx) (e:Expr) (t:TT):Prop :=
  ∀ (whole:Sem Value) (pins:List (Addr × Obj)) (s:Shared) (σ:St) (H:Hp) (Q:Bool→Hp→Prop),Inv X pins σ H s→t σ H Q→wpAny (model X.prog X.w) X.A (isTrue e X.env whole) (TP X pins σ Q) X.xe s
theorem PW.pt {X:Cx} {e:Expr} {t:TT} (h:PW X e t):PT X e t:=h _
def PA (X:Cx) (es:List Expr) (t:TA):Prop :=
  ∀ (pos:Pos) (pins:List (Addr × Obj)) (s:Shared) (σ:St) (H:Hp) (Q:List V→Hp→Prop),Inv X pins σ H s→t σ H Q→wpAny (model X.prog X.w) X.A (spliced (backTo pos (starEach es X.env))) (AP X pins σ Q) X.xe s
def PS (X:Cx) (st:Stmt) (t:TS):Prop :=
  ∀ (pins:List (Addr × Obj)) (s:Shared) (σ:St) (H:Hp) (D:Ends),Inv X pins σ H s→t D σ H→wpAny (model X.prog X.w) X.A (exec st X.env) (SP X pins D) X.xe s
def PSs (X:Cx) (st:List Stmt) (t:TS):Prop :=
  ∀ (pins:List (Addr × Obj)) (s:Shared) (σ:St) (H:Hp) (D:Ends),Inv X pins σ H s→t D σ H→wpAny (model X.prog X.w) X.A (execs st X.env) (SP X pins D) X.xe s
theorem thn {α:Type} {t:Sem α} {Q Q':α→Shared→Prop} {M:Model} {A:Around} {E:Value→Shared→Prop} {s:Shared} (h:wpAny M A t Q E s) (hQ:∀ a s,Q a s→Q' a s):wpAny M A t Q' E s:=wpAny_mono h hQ fun _ _ x=>x
end L2
namespace L2
open PySem PySem.Spec PyProof.Rows
section
variable {X:Cx}
def tVar (i:Nat):TE:=fun σ H Q=>∃ v,σ[i]?=some (some v)∧Q v H
def tC (v:V):TE:=fun _ H Q=>Q v H
theorem pe_var {i:Nat} {x:Str} {pos:Pos} (hN:X.N[i]?=some x) (hv:Vis X.env.scope x) (hd:(x == ("__debug__":Str))=false:=by decide) (hcd:(x == ("__classdict__":Str))=false:=by decide):PE X (.Name x pos) (tVar i):=by
  intro pins s σ H Q I h
  obtain ⟨v,e,h⟩:=h
  obtain ⟨m,hn,hl⟩:=I.loc
  obtain ⟨u,r,l⟩:=hl i x v hN e hv
  have fin:EP X pins σ Q u s:=⟨v,H,I,r,h⟩
  rcases l with ⟨hk,hm⟩ | ⟨hk,c,hc,hcell⟩
  · exact wpAny_Name (wpAny_loadName_local I.ok.kind hk hn hm fin) hd
  · rcases hk with hk | hk
    · exact wpAny_Name (wpAny_loadName_cell I.ok.kind hk hc hcell fin) hd
    · exact wpAny_Name (wpAny_loadName_free I.ok.kind hk hc hcell fin hcd) hd
theorem pe_int {i j pos}:PE X (.Constant (.int i) j pos) (tC (.int i)):=fun _ _ _ H _ I h=>wpAny_Constant_int ⟨.int i,H,I.tok _,⟨_,rfl⟩,h⟩
theorem pe_bl {b j pos}:PE X (.Constant (.bool b) j pos) (tC (.bl b)):=fun _ _ _ H _ I h=>Constant_bool ⟨.bl b,H,I,rfl,h⟩
theorem pe_non {j pos}:PE X (.Constant .none j pos) (tC .non):=fun _ _ _ H _ I h=>Constant_none ⟨.non,H,I,rfl,h⟩
theorem pe_str {x j pos}:PE X (.Constant (.str x) j pos) (tC (.str x)):=fun _ _ _ H _ I h=>Calls.Constant_str ⟨.str x,H,I.tok _,⟨_,rfl⟩,h⟩
def Gl (X:Cx) (x:Str):Prop:=X.env.kindOf x=some .globalImplicit
theorem ld_glob {E:Value→Shared→Prop} {pins:List (Addr × Obj)} {s:Shared} {σ:St} {H:Hp} {x:Str} {u:Value} {pos:Pos} {Q:Value→Shared→Prop} (I:Inv X pins σ H s) (hg:Gl X x) (hm:X.mg x=some u) (h:Q u s)
    (hd:(x == ("__debug__":Str))=false:=by decide):wpAny (model X.prog X.w) X.A (eval (.Name x pos) X.env) Q E s :=
  Calls.Name_function_global I.ok.kind hg (Calls.loadGlobal_global (by rw [I.ok.glob]; exact I.mod.glob.keeps I.bk) hm h) hd
theorem ld_blt {E:Value→Shared→Prop} {pins:List (Addr × Obj)} {s:Shared} {σ:St} {H:Hp} {x:Str} {u:Value} {pos:Pos} {Q:Value→Shared→Prop} (I:Inv X pins σ H s) (hg:Gl X x) (hm:X.mg x=none) (hv:bootBuiltins x=some u) (h:Q u s)
    (hn:x≠"__name__":=by decide) (hd:(x == ("__debug__":Str))=false:=by decide):wpAny (model X.prog X.w) X.A (eval (.Name x pos) X.env) Q E s:=by
  obtain ⟨mb,h1,h2⟩:=I.mod.blt
  exact Calls.Name_function_global I.ok.kind hg (Calls.loadGlobal_builtin (by rw [I.ok.glob]; exact I.mod.glob.keeps I.bk) hm (by rw [I.ok.blt]; exact h1.keeps I.bk) ((h2 x hn).trans hv) h) hd
theorem pe_glob {x:Str} {v:V} {u:Value} {pos:Pos} (hg:Gl X x) (hm:X.mg x=some u) (r:RelV v u) (hd:(x == ("__debug__":Str))=false:=by decide):PE X (.Name x pos) (tC v) :=
  fun _ _ _ H _ I h=>ld_glob I hg hm ⟨v,H,I,r,h⟩ hd
theorem pe_bltn {x:Str} {v:V} {u:Value} {pos:Pos} (hg:Gl X x) (hm:X.mg x=none) (hv:bootBuiltins x=some u) (r:RelV v u) (hn:x≠"__name__":=by decide) (hd:(x == ("__debug__":Str))=false:=by decide):PE X (.Name x pos) (tC v) :=
  fun _ _ _ H _ I h=>ld_blt I hg hm hv ⟨v,H,I,r,h⟩ hn hd
variable {a b:Expr} {ta tb:TE} {pos:Pos}
def PC (X:Cx) (op:CmpOp) (a b:Expr) (t:TE):Prop :=
  ∀ (pins:List (Addr × Obj)) (s:Shared) (σ:St) (H:Hp) (Q:VK),Inv X pins σ H s→t σ H Q →
    wpAny (model X.prog X.w) X.A (eval a X.env) (fun v s₁=>wpAny (model X.prog X.w) X.A (eval b X.env) (fun u s₂=>wpAny (model X.prog X.w) X.A (compareOp op v u) (EP X pins σ Q) X.xe s₂) X.xe s₁) X.xe s
theorem nobehind (b:Expr) {op:CmpOp} (h:op≠.In) (h2:op≠.NotIn):behindInMarks op b=false:=by
  have e1:(op == CmpOp.In)=false:=by cases op <;> first | rfl | exact absurd rfl h
  have e2:(op == CmpOp.NotIn)=false:=by cases op <;> first | rfl | exact absurd rfl h2
  cases b <;> simp [behindInMarks,e1,e2]
def tB (t:TE):TT:=fun σ H Q=>t σ H fun x H1=>∃ c,x=.bl c∧Q c H1
theorem pt_cmp {op:CmpOp} {t:TE} (h:PC X op a b t) (h1:behindInMarks op b=false:=by first | exact nobehind _ (by decide) (by decide) | rfl):PT X (.Compare a [op] [b] pos) (tB t):=by
  intro pins s σ H Q I hw
  refine wpAny_isTrue_Compare1 (thn (h pins s σ H _ I hw) fun v s1 h1=>thn h1 fun u s2 h2=>thn h2 fun c s3 ⟨x,H1,I1,r1,q1⟩=>?_) h1
  obtain ⟨d,rfl,q⟩:=q1
  cases r1
  exact wpAny_truthy_bool ⟨H1,I1,q⟩
theorem pt_val {e:Expr} {t:TE} (h:PE X e t) (he:∀ whole,isTrue e X.env whole=(do let v ← whole; standAt e.pos; holding [v] (truthy v)):=by intro _; rfl):PT X e (tB t):=by
  intro pins s σ H Q I hw
  refine isTrue_plain (thn (h pins s σ H _ I hw) fun v s1 ⟨x,H1,I1,r1,q1⟩=>?_) (he _)
  obtain ⟨d,rfl,q⟩:=q1
  cases r1
  exact wpAny_truthy_bool ⟨H1,I1,q⟩
variable {tA tB':TT} {rest:List Expr}
def tAnd (t u:TT):TT:=fun σ H Q=>t σ H fun c H1=>if c=true then u σ H1 Q else Q false H1
def tOr (t u:TT):TT:=fun σ H Q=>t σ H fun c H1=>if c=true then Q true H1 else u σ H1 Q
def tNot (t:TT):TT:=fun σ H Q=>t σ H fun c H1=>Q (!c) H1
theorem pw_and1 (ha:PT X a tA):PW X (.BoolOp .And [a] pos) tA:=by
  intro wh pins s σ H Q I h
  refine isTrue_and (thn (ha pins s σ H Q I h) fun c s1 e=>?_)
  cases c with
  | true=>exact isTrue_and_nil e
  | false=>exact e
theorem pw_or1 (ha:PT X a tA):PW X (.BoolOp .Or [a] pos) tA:=by
  intro wh pins s σ H Q I h
  refine isTrue_or (thn (ha pins s σ H Q I h) fun c s1 e=>?_)
  cases c with
  | false=>exact isTrue_or_nil e
  | true=>exact e
theorem pw_and (ha:PT X a tA) (hb:PW X (.BoolOp .And (b :: rest) pos) tB'):PW X (.BoolOp .And (a :: b :: rest) pos) (tAnd tA tB'):=by
  intro wh pins s σ H Q I h
  refine isTrue_and (thn (ha pins s σ H _ I h) fun c s1 ⟨H1,I1,q1⟩=>?_)
  cases c with
  | true=>exact hb wh pins s1 σ H1 Q I1 q1
  | false=>exact ⟨H1,I1,q1⟩
theorem pw_or (ha:PT X a tA) (hb:PW X (.BoolOp .Or (b :: rest) pos) tB'):PW X (.BoolOp .Or (a :: b :: rest) pos) (tOr tA tB'):=by
  intro wh pins s σ H Q I h
  refine isTrue_or (thn (ha pins s σ H _ I h) fun c s1 ⟨H1,I1,q1⟩=>?_)
  cases c with
  | true=>exact ⟨H1,I1,q1⟩
  | false=>exact hb wh pins s1 σ H1 Q I1 q1
theorem pt_not (ha:PT X a tA):PT X (.UnaryOp .Not a pos) (tNot tA):=by
  intro pins s σ H Q I h
  exact isTrue_not (ha pins s σ H (fun c H1=>Q (!c) H1) I h)
def tAndV (ta tb:TE):TE:=fun σ H Q=>ta σ H fun x H1=>∃ c,x=.bl c∧if c=true then tb σ H1 Q else Q (.bl false) H1
def tNotV (ta:TE):TE:=fun σ H Q=>ta σ H fun x H1=>∃ c,x=.bl c∧Q (.bl (!c)) H1
theorem pe_one {op} {t:TE} (h:PE X a t):PE X (.BoolOp op [a] pos) t:=fun pins s σ H Q I hw=>BoolOp_one (h pins s σ H Q I hw)
theorem pe_and (ha:PE X a ta) (hb:PE X (.BoolOp .And (b :: rest) pos) tb):PE X (.BoolOp .And (a :: b :: rest) pos) (tAndV ta tb):=by
  intro pins s σ H Q I h
  refine BoolOp_and (thn (ha pins s σ H _ I h) fun v s1 ⟨x,H1,I1,r1,q1⟩=>?_)
  obtain ⟨c,rfl,q1⟩:=q1
  cases r1
  refine wpAny_truthy_bool ?_
  cases c with
  | true=>exact hb pins s1 σ H1 Q I1 q1
  | false=>exact ⟨.bl false,H1,I1,rfl,q1⟩
theorem pe_not (ha:PE X a ta):PE X (.UnaryOp .Not a pos) (tNotV ta):=by
  intro pins s σ H Q I h
  refine UnaryOp_ (thn (ha pins s σ H _ I h) fun v s1 ⟨x,H1,I1,r1,q1⟩=>?_)
  obtain ⟨c,rfl,q1⟩:=q1
  cases r1
  exact not_of (wpAny_truthy_bool ⟨.bl (!c),H1,I1,rfl,q1⟩)
def tIf (t:TT) (ta tb:TE):TE:=fun σ H Q=>t σ H fun c H1=>if c=true then ta σ H1 Q else tb σ H1 Q
theorem pe_ifExp {c:Expr} (hc:PT X c tA) (ha:PE X a ta) (hb:PE X b tb):PE X (.IfExp c a b pos) (tIf tA ta tb):=by
  intro pins s σ H Q I h
  refine wpAny_IfExp (thn (hc pins s σ H _ I h) fun d s1 ⟨H1,I1,q1⟩=>?_)
  cases d with
  | true=>exact ha pins s1 σ H1 Q I1 q1
  | false=>exact hb pins s1 σ H1 Q I1 q1
end
end L2
namespace L2
open PySem PySem.Spec PyProof.Rows
def SqL (K:PySem.W.Frag) (H:Hp) (a:Addr) (xs:List V):Prop :=
  Rd H a (.lst xs) ∨
    ∃ (o:Obj) (its:Array Value) (n:Nat),K.lookup a=some o∧o.cls=.type "list"∧o.dict=none∧o.data=.seq its n∧its.size≤sizeLine∧Vals xs its.toList
def SqT (K:PySem.W.Frag) (H:Hp) (a:Addr) (xs:List V):Prop :=
  Rd H a (.tup xs) ∨
    ∃ (o:Obj) (its:Array Value) (n:Nat),K.lookup a=some o∧o.cls=.type "tuple"∧o.data=.seq its n∧its.size≤sizeLine∧Vals xs its.toList
def absV:Value→Option V
  | .none=>some .non
  | .bool b=>some (.bl b)
  | .int i _=>some (.int i)
  | .str x _=>some (.str x)
  | .bytes b _=>some (.byt b)
  | .float b _=>some (.flt b)
  | .ref a=>some (.ref a)
  | .type n=>some (.ty n)
  | _=>none
theorem RelV.abs {x:V} {u:Value} (r:RelV x u):absV u=some x:=by
  cases x with
  | non=>cases r; rfl
  | bl _=>cases r; rfl
  | int _=>obtain ⟨t,rfl⟩:=r; rfl
  | str _=>obtain ⟨t,rfl⟩:=r; rfl
  | byt _=>obtain ⟨t,rfl⟩:=r; rfl
  | flt _=>obtain ⟨t,rfl⟩:=r; rfl
  | ref _=>cases r; rfl
  | ty _=>cases r; rfl
theorem RelV.inj {x y:V} {u:Value} (r:RelV x u) (q:RelV y u):x=y:=Option.some.inj (r.abs.symm.trans q.abs)
theorem Vals.inj:∀ {xs ys:List V} {us:List Value},Vals xs us→Vals ys us→xs=ys
  | _,_,_,.nil,.nil=>rfl
  | _,_,_,.cons r t,.cons r' t'=>by rw [r.inj r',Vals.inj t t']
section
variable {X:Cx} {pins:List (Addr × Obj)} {σ:St} {H:Hp} {s:Shared} {a:Addr} {xs ys:List V}
theorem SqL.of {K:PySem.W.Frag} (h:H a=some (.lst xs)):SqL K H a xs:=.inl (.inl h)
theorem SqT.of {K:PySem.W.Frag} (h:H a=some (.tup xs)):SqT K H a xs:=.inl (.inl h)
theorem Inv.list (I:Inv X pins σ H s) (h:SqL X.K H a xs):∃ its:List Value,Vals xs its∧PlainL s.heap a its.toArray∧xs.length≤sizeLine:=by
  rcases h with h | ⟨o,its,n,hk,hc,hd,hs,hz,r⟩
  · obtain ⟨z,its,n,r,e⟩:=h.ok I.hok
    exact ⟨its,r,⟨_,n,e,rfl,rfl,rfl⟩,z⟩
  · refine ⟨its.toList,r,⟨o,n,I.kIn a o hk,hc,hd,by simpa using hs⟩,?_⟩
    have e:=r.length
    simp only [Array.length_toList] at e
    omega
theorem Inv.tuple (I:Inv X pins σ H s) (h:SqT X.K H a xs):∃ its:List Value,Vals xs its∧IsTup s.heap a its.toArray∧xs.length≤sizeLine:=by
  rcases h with h | ⟨o,its,n,hk,hc,hs,hz,r⟩
  · obtain ⟨z,its,r,p⟩:=h.ok I.hok
    exact ⟨its,r,p,z⟩
  · refine ⟨its.toList,r,⟨o,I.kIn a o hk,hc,n,by simpa using hs⟩,?_⟩
    have e:=r.length
    simp only [Array.length_toList] at e
    omega
theorem Inv.list_inj (I:Inv X pins σ H s) (h:SqL X.K H a xs) (h':SqL X.K H a ys):xs=ys:=by
  obtain ⟨its,r,⟨o,n,e,_,_,d⟩,_⟩:=I.list h
  obtain ⟨its',r',⟨o',n',e',_,_,d'⟩,_⟩:=I.list h'
  rw [e] at e'; cases e'
  rw [d] at d'
  injection d' with d1 _
  have:its=its':=by simpa using congrArg Array.toList d1
  subst this
  exact r.inj r'
theorem Inv.tuple_inj (I:Inv X pins σ H s) (h:SqT X.K H a xs) (h':SqT X.K H a ys):xs=ys:=by
  obtain ⟨its,r,⟨o,e,_,n,d⟩,_⟩:=I.tuple h
  obtain ⟨its',r',⟨o',e',_,n',d'⟩,_⟩:=I.tuple h'
  rw [e] at e'; cases e'
  rw [d] at d'
  injection d' with d1 _
  have:its=its':=by simpa using congrArg Array.toList d1
  subst this
  exact r.inj r'
end
abbrev Cx.wish (X:Cx) (E:Value→Shared→Prop):Cx:={ X with xe:=E }
abbrev Cx.nox (X:Cx):Cx:=X.wish fun _ _=>False
theorem Cx.Ok.wish {X:Cx} (ok:X.Ok) (E:Value→Shared→Prop):(X.wish E).Ok :=
  ⟨ok.mod,ok.kind,ok.glob,ok.blt,ok.above,ok.inj,ok.has,ok.cab,ok.hd,ok.frames,ok.stk,ok.exf,ok.bs,ok.bsz,ok.noex,ok.exfs,ok.funs,ok.frf⟩
theorem Cx.Ok.unwish {X:Cx} {E:Value→Shared→Prop} (ok:(X.wish E).Ok):X.Ok :=
  ⟨ok.mod,ok.kind,ok.glob,ok.blt,ok.above,ok.inj,ok.has,ok.cab,ok.hd,ok.frames,ok.stk,ok.exf,ok.bs,ok.bsz,ok.noex,ok.exfs,ok.funs,ok.frf⟩
section
variable {X:Cx} {pins:List (Addr × Obj)} {σ:St} {H:Hp} {s:Shared} {E:Value→Shared→Prop}
theorem Inv.wish (I:Inv X pins σ H s) (E:Value→Shared→Prop):Inv (X.wish E) pins σ H s:=⟨I.ok.wish E,I.os,I.bare,I.base,I.loc,I.cell,I.free,I.freeC,I.pin,I.hok,I.len⟩
theorem Inv.unwish (I:Inv (X.wish E) pins σ H s):Inv X pins σ H s:=⟨I.ok.unwish,I.os,I.bare,I.base,I.loc,I.cell,I.free,I.freeC,I.pin,I.hok,I.len⟩
theorem SP.unwish {D:Ends} {f:Flow} {s':Shared} (h:SP (X.wish E) pins D f s'):SP X pins D f s':=by
  cases f with
  | next=>obtain ⟨σ',H',I,q⟩:=h; exact ⟨σ',H',I.unwish,q⟩
  | brk=>obtain ⟨σ',H',I,q⟩:=h; exact ⟨σ',H',I.unwish,q⟩
  | cont=>obtain ⟨σ',H',I,q⟩:=h; exact ⟨σ',H',I.unwish,q⟩
  | ret u=>obtain ⟨v,σ',H',I,r,q⟩:=h; exact ⟨v,σ',H',I.unwish,r,q⟩
theorem PSs.nox {st:List Stmt} {t:TS} (h:PSs X.nox st t):PSs X st t:=fun pins s σ H D I hw =>
  wpAny_mono (h pins s σ H D (I.wish _) hw) (fun _ _ q=>q.unwish) fun _ _ z=>False.elim z
end
section
variable {X:Cx} {st:Stmt} {rest:List Stmt} {t u:TS} {e:Expr} {te:TE} {pos:Pos}
def tNext:TS:=fun D σ H=>D.nx σ H
def tSeq (t u:TS):TS:=fun D σ H=>t { D with nx:=u D } σ H
theorem pss_nil:PSs X [] tNext:=fun _ _ σ H _ I h=>wpAny_execs_nil ⟨σ,H,I,h⟩
theorem pss_cons (h1:PS X st t) (h2:PSs X rest u):PSs X (st :: rest) (tSeq t u):=by
  intro pins s σ H D I h
  refine wpAny_execs_cons (thn (h1 pins s σ H { D with nx:=u D } I h) fun f s1 q=>?_)
  cases f with
  | next =>
    obtain ⟨σ',H',I',q⟩:=q
    exact h2 pins s1 σ' H' D I' q
  | ret v=>exact q
  | brk=>exact q
  | cont=>exact q
theorem pss_one (h1:PS X st t):PSs X [st] t:=by
  intro pins s σ H D I h
  refine wpAny_execs_cons (thn (h1 pins s σ H D I h) fun f s1 q=>?_)
  cases f with
  | next=>exact wpAny_execs_nil q
  | ret v=>exact q
  | brk=>exact q
  | cont=>exact q
def tCont:TS:=fun D σ H=>D.ct σ H
theorem ps_continue:PS X (.Continue pos) tCont:=fun _ _ σ H _ I h=>wpAny_Continue ⟨σ,H,I,h⟩
theorem Inv.quiet {pins:List (Addr × Obj)} {σ:St} {H:Hp} {s:Shared} (I:Inv X pins σ H s):interactive X.env=false:=by simp [interactive,I.ok.kind]
def tDrop (te:TE):TS:=fun D σ H=>te σ H fun _ H1=>D.nx σ H1
theorem ps_expr (he:PE X e te) (hs:swapsWith e none pos.line X.env=pure false:=by rfl):PS X (.Expr e pos) (tDrop te):=by
  intro pins s σ H D I h
  exact wpAny_Expr_any (thn (he pins s σ H _ I h) fun v s1 ⟨x,H1,I1,r1,q1⟩=>⟨σ,H1,I1,q1⟩) I.quiet hs
def tRet (te:TE):TS:=fun D σ H=>te σ H D.rt
theorem ps_ret (he:PE X e te):PS X (.Return (some e) pos) (tRet te):=by
  intro pins s σ H D I h
  exact wpAny_Return_some (thn (he pins s σ H _ I h) fun v s1 ⟨x,H1,I1,r1,q1⟩=>⟨x,σ,H1,I1,r1,q1⟩)
def tIfS (c:TT) (t u:TS):TS:=fun D σ H=>c σ H fun b H1=>if b=true then t D σ H1 else u D σ H1
theorem ps_if {c:Expr} {a b:List Stmt} {tc:TT} (hc:PT X c tc) (ha:PSs X a t) (hb:PSs X b u):PS X (.If c a b pos) (tIfS tc t u):=by
  intro pins s σ H D I h
  refine wpAny_If (thn (hc pins s σ H _ I h) fun d s1 ⟨H1,I1,q1⟩=>?_)
  cases d with
  | true=>exact ha pins s1 σ H1 D I1 q1
  | false=>exact hb pins s1 σ H1 D I1 q1
def tNever:TS:=fun _ _ _=>False
theorem ps_never:PS X st tNever:=fun _ _ _ _ _ _ h=>h.elim
end
abbrev TG:=V→St→Hp→(St→Hp→Prop)→Prop
abbrev TGs:=List V→St→Hp→(St→Hp→Prop)→Prop
def PG (X:Cx) (target:Expr) (t:TG):Prop :=
  ∀ (pins:List (Addr × Obj)) (s:Shared) (σ:St) (H:Hp) (v:V) (u:Value) (Q:St→Hp→Prop),Inv X pins σ H s→RelV v u→t v σ H Q →
    wpAny (model X.prog X.w) X.A (assign target X.env u) (fun _ s'=>∃ σ' H',Inv X pins σ' H' s'∧Q σ' H') X.xe s
def PGs (X:Cx) (ts:List Expr) (t:TGs):Prop :=
  ∀ (pins:List (Addr × Obj)) (s:Shared) (σ:St) (H:Hp) (vs:List V) (us:List Value) (Q:St→Hp→Prop),Inv X pins σ H s→Vals vs us→t vs σ H Q →
    wpAny (model X.prog X.w) X.A (assignInOrder ((assignEach ts X.env).map (·.2)) us) (fun _ s'=>∃ σ' H',Inv X pins σ' H' s'∧Q σ' H') X.xe s
abbrev TIp:=V→V→Hp→VK→Prop
def PIp (X:Cx) (op:Operator) (t:TIp):Prop :=
  ∀ (pins:List (Addr × Obj)) (s:Shared) (σ:St) (H:Hp) (x y:V) (v u:Value) (Q:VK),Inv X pins σ H s→RelV x v→RelV y u→t x y H Q →
    wpAny (model X.prog X.w) X.A (inplaceOp op v u) (EP X pins σ Q) X.xe s
section
variable {X:Cx} {pos:Pos}
def gName (i:Nat):TG:=fun v σ H Q=>Q (σ.set i (some v)) H
theorem pg_name {i:Nat} {x:Str} (hN:X.N.Nodup) (hi:X.N[i]?=some x) (hx:Loc X.env.scope x) (hf:X.fn x=true∨X.env.scope.names.lookup x=some .local:=by first | exact .inl rfl | exact .inr rfl | assumption):PG X (.Name x pos) (gName i):=by
  intro pins s σ H v u Q I r h
  exact wpAny_assign_Name (store_ok I hN hi hx r (fun s' I'=>⟨_,H,I',h⟩) hf)
def gNil:TGs:=fun vs σ H Q=>vs=[]∧Q σ H
def gCons (t:TG) (u:TGs):TGs:=fun vs σ H Q=>∃ v r,vs=v :: r∧t v σ H fun σ' H'=>u r σ' H' Q
theorem pgs_nil:PGs X [] gNil:=by
  intro pins s σ H vs us Q I r h
  obtain ⟨e,h⟩:=h
  subst e
  cases r
  exact assignInOrder_nil ⟨σ,H,I,h⟩
theorem pgs_cons {e:Expr} {es:List Expr} {t:TG} {u:TGs} (h1:PG X e t) (h2:PGs X es u)
    (hs:(assignEach (e :: es) X.env).map (·.2)=assign e X.env :: (assignEach es X.env).map (·.2):=by rfl):PGs X (e :: es) (gCons t u):=by
  intro pins s σ H vs us Q I r h
  obtain ⟨v,vr,e1,h⟩:=h
  subst e1
  cases r with
  | cons r rr =>
    rw [hs]
    refine assignInOrder_cons (thn (h1 pins s σ H _ _ _ I r h) fun _ s1 ⟨σ1,H1,I1,q1⟩=>?_)
    exact h2 pins s1 σ1 H1 _ _ Q I1 rr q1
def gTup (K:PySem.W.Frag) (n:Nat) (t:TGs):TG:=fun v σ H Q=>∃ a xs,v=.ref a∧SqT K H a xs∧xs.length=n∧t xs σ H Q
theorem pg_tup {es:List Expr} {k:Nat} {t:TGs} {n:Nat} (hc:X.calm=true) (h:PGs X es t)
    (hn:(assignEach es X.env).length=n:=by rfl) (hst:(assignEach es X.env).findIdx? (·.1)=none:=by rfl):PG X (.Tuple es k pos) (gTup X.K n t):=by
  intro pins s σ H v u Q I r hw
  obtain ⟨a,xs,e1,hq,hl,hw⟩:=hw
  subst e1
  cases r
  obtain ⟨its,rv,ht,hz⟩:=I.tuple hq
  refine assign_Tuple_tuple (I.ok.hd hc) ht (by simp [hn,← hl,rv.length]) hst fun h' hx=>?_
  have I1:Inv X pins σ H { s with heap:=h' }:=I.kept (t':=s.toks) fun b o e=>hx b o (Nat.ne_of_lt (Heap.lt_size e)) e
  exact h pins _ σ H xs _ Q I1 (by simpa using rv) hw
def tAsg (te:TE) (g:TG):TS:=fun D σ H=>te σ H fun x H1=>g x σ H1 D.nx
theorem ps_asg {tg e:Expr} {te:TE} {g:TG} (he:PE X e te) (hg:PG X tg g) (hs:swapsWithSole [tg] e pos.line X.env=pure false:=by rfl) (hw:swappedStores [tg] e X.env=pure none:=by rfl)
    (h1:(assignEach [tg] X.env).map (·.2)=[assign tg X.env]:=by rfl):PS X (.Assign [tg] e pos) (tAsg te g):=by
  intro pins s σ H D I h
  refine wpAny_Assign_stores (thn (he pins s σ H _ I h) fun v s1 ⟨x,H1,I1,r1,q1⟩=>?_) hs hw
  rw [h1]
  exact thn (hg pins s1 σ H1 x v _ I1 r1 q1) fun _ s2 q=>q
theorem ps_set {i:Nat} {x:Str} {e:Expr} {te:TE} {pos':Pos} (hN:X.N.Nodup) (hi:X.N[i]?=some x) (hx:Loc X.env.scope x) (he:PE X e te) (hs:swapsWith e (some (.Name x pos')) pos.line X.env=pure false:=by rfl) (hf:X.fn x=true∨X.env.scope.names.lookup x=some .local:=by first | exact .inl rfl | exact .inr rfl | assumption) :
    PS X (.Assign [.Name x pos'] e pos) (tAsg te (gName i)):=by
  intro pins s σ H D I h
  refine wpAny_Assign_Name (thn (he pins s σ H _ I h) fun v s1 ⟨y,H1,I1,r1,q1⟩=>?_) hs
  exact store_ok I1 hN hi hx r1 (fun s2 I2=>⟨_,H1,I2,q1⟩) hf
def tAug (i:Nat) (te:TE) (ti:TIp):TS:=fun D σ H=>∃ x,σ[i]?=some (some x)∧te σ H fun y H1=>ti x y H1 fun z H2=>D.nx (σ.set i (some z)) H2
theorem ps_aug {i:Nat} {x:Str} {e:Expr} {te:TE} {op:Operator} {ti:TIp} {pos':Pos} (hN:X.N.Nodup) (hi:X.N[i]?=some x) (hx:Loc X.env.scope x) (he:PE X e te) (ho:PIp X op ti) (hf:X.fn x=true∨X.env.scope.names.lookup x=some .local:=by first | exact .inl rfl | exact .inr rfl | assumption) :
    PS X (.AugAssign (.Name x pos') op e pos) (tAug i te ti):=by
  intro pins s σ H D I h
  obtain ⟨v,e1,h⟩:=h
  obtain ⟨m,hn,hl⟩:=I.loc
  have vis:Vis X.env.scope x:=by rcases hx with k | k; exact .inl k; exact .inr (.inl k)
  obtain ⟨u,r,l⟩:=hl i x v hi e1 vis
  refine wpAny_AugAssign_Name ?_
  have go:wpAny (model X.prog X.w) X.A (eval e X.env) (fun w s₂=>wpAny (model X.prog X.w) X.A (inplaceOp op u w) (fun r s₃=>wpAny (model X.prog X.w) X.A (storeName X.env x r) (fun _=>SP X pins D .next) X.xe s₃) X.xe s₂) X.xe s:=by
    refine thn (he pins s σ H _ I h) fun w s1 ⟨y,H1,I1,r1,q1⟩=>?_
    refine thn (ho pins s1 σ H1 v y u w _ I1 r r1 q1) fun z s2 ⟨zv,H2,I2,r2,q2⟩=>?_
    exact store_ok I2 hN hi hx r2 (fun s3 I3=>⟨_,H2,I3,q2⟩) hf
  rcases l with ⟨hk,hm⟩ | ⟨hk,c,hc,hcell⟩
  · exact wpAny_loadName_local I.ok.kind hk hn hm go
  · rcases hk with hk | hk
    · exact wpAny_loadName_cell I.ok.kind hk hc hcell go
    · rcases hx with k | k
      · have:X.env.scope.names.lookup x=some .free:=hk
        rw [k] at this; cases this
      · have:X.env.scope.names.lookup x=some .free:=hk
        rw [k] at this; cases this
def ipI (f:Int→Int→Int):TIp:=fun x y H Q=>∃ i j,x=.int i∧y=.int j∧Q (.int (f i j)) H
theorem ip_sub:PIp X .Sub (ipI fun i j=>i - j):=by
  intro pins s σ H x y v u Q I r1 r2 h
  obtain ⟨i,j,e1,e2,q⟩:=h
  subst e1; subst e2
  obtain ⟨t,rfl⟩:=r1
  obtain ⟨t',rfl⟩:=r2
  exact isub_int ⟨.int _,H,I.tok _,⟨_,rfl⟩,q⟩
end
section
variable {X:Cx} {pos:Pos}
def tWhile (c:TT) (tb:TS):TS:=fun D σ H=>∃ W:Nat→St→Hp→Prop,(∃ m,W m σ H)∧∀ m σ H,W m σ H →
  c σ H fun b H1=>if b=true then ∃ N:St→Hp→Prop,(∀ σ' H',N σ' H'→∃ m',m' < m∧W m' σ' H')∧tb { D with nx:=N,ct:=N,bk:=D.nx } σ H1 else D.nx σ H1
theorem ps_while {c:Expr} {body:List Stmt} {tc:TT} {tb:TS} (hp:PassesOwn (model X.prog X.w) X.A X.env X.xe) (hc:PT X c tc) (hb:PSs X body tb):PS X (.While c body [] pos) (tWhile tc tb):=by
  intro pins s σ H D I h
  obtain ⟨W,⟨m0,w0⟩,turn⟩:=h
  refine wpAny_While (codeAny_whileLoop (fun n s'=>∃ σ' H',Inv X pins σ' H' s'∧W n σ' H') ?_ m0 ⟨σ,H,I,w0⟩)
  rintro n s1 ⟨σ1,H1,I1,w1⟩
  refine wpAny_passesOwn hp (thn (hc pins s1 σ1 H1 _ I1 (turn n σ1 H1 w1)) fun b s2 ⟨H2,I2,q2⟩=>?_)
  cases b with
  | true =>
    obtain ⟨N,hN,q2⟩:=q2
    rw [if_pos rfl]
    refine wpAny_passesOwn hp (thn (hb pins s2 σ1 H2 _ I2 q2) fun f s3 q3=>?_)
    cases f with
    | next =>
      obtain ⟨σ3,H3,I3,n3⟩:=q3
      obtain ⟨m',hm,w3⟩:=hN σ3 H3 n3
      exact ⟨m',hm,σ3,H3,I3,w3⟩
    | cont =>
      obtain ⟨σ3,H3,I3,n3⟩:=q3
      obtain ⟨m',hm,w3⟩:=hN σ3 H3 n3
      exact ⟨m',hm,σ3,H3,I3,w3⟩
    | brk=>exact q3
    | ret v=>exact q3
  | false =>
    rw [if_neg Bool.false_ne_true]
    exact wpAny_execs_nil ⟨σ1,H2,I2,q2⟩
end
structure It where
  go:Nat→Hp→Prop
  yld:Nat→Hp→V→Hp→Prop
  stop:Nat→Hp→Prop
def FpOk (X:Cx) (pins:List (Addr × Obj)) (H:Hp) (b:Addr):Prop :=
  H b=none∧b≠X.env.locals∧b ∉ X.fs∧(b∈X.ex∨X.s₀.heap.objs.size≤b)∧(∀ x c,X.env.cells.lookup x=some c→c≠b)∧∀ p∈X.pn++pins,p.1≠b
theorem Inv.fpOk {X:Cx} {pins:List (Addr × Obj)} {σ:St} {H H':Hp} {s:Shared} {b:Addr} (I:Inv X pins σ H s) (hb:s.heap.objs.size≤b) (hn:H' b=none):FpOk X pins H' b:=by
  refine ⟨hn,Nat.ne_of_gt (Nat.lt_of_lt_of_le I.lt hb),I.nofs hb,.inr (Nat.le_trans I.sz hb),fun x c e z=>?_,fun p hp z=>?_⟩
  · obtain ⟨v,q⟩:=I.cell x c e
    exact absurd (Nat.lt_of_lt_of_le q.lt (by rw [z]; exact hb)) (Nat.lt_irrefl _)
  · exact absurd (Nat.lt_of_lt_of_le (Heap.lt_size (I.pin p hp).1) (by rw [z]; exact hb)) (Nat.lt_irrefl _)
structure Turn (P:Program) (w:World) (K:PySem.W.Frag) (tg:Expr) (J:It) (fp:List Addr) (it:Addr) (tn:Nat→Heap→Prop):Prop where
  mem:it∈fp
  obj:∀ i h,tn i h→∀ b∈fp,∃ o,h.get? b=some o∧∀ v,o.data≠.cell v
  keep:∀ i h h',tn i h→(∀ b∈fp,∀ o,h.get? b=some o→h'.get? b=some o)→tn i h'
  item:∀ (X:Cx),X.prog=P→X.w=w→X.K=K→X.calm=true→∀ (i:Nat) (pins:List (Addr × Obj)) (s:Shared) (σ:St) (H:Hp) (E:Value→Shared→Prop),Inv X pins σ H s→(∀ b∈fp,FpOk X pins H b)→tn i s.heap→J.go i H →
    wpAny (model P w) X.A (pyNext (.ref it)) (fun r s1=>∃ u,r=some u ∧
      wpAny (model P w) X.A (letOwnedTupleGo tg (.ref it) u) (fun _ s2=>∃ x H',Inv X pins σ H' s2∧RelV x u∧J.yld i H x H'∧tn (i+1) s2.heap∧∀ b∈fp,H' b=none) E s1) E s
  done:∀ (X:Cx),X.prog=P→X.w=w→X.K=K→X.calm=true→∀ (i:Nat) (pins:List (Addr × Obj)) (s:Shared) (σ:St) (H:Hp) (E:Value→Shared→Prop),Inv X pins σ H s→(∀ b∈fp,FpOk X pins H b)→tn i s.heap→J.stop i H →
    wpAny (model P w) X.A (pyNext (.ref it)) (fun r s1=>r=none∧Inv X pins σ H s1) E s
  self:∀ (A:Around) (i:Nat) (s:Shared) (Q:Value→Shared→Prop) (E:Value→Shared→Prop),tn i s.heap→Q (.ref it) s→wpAny (model P w) A (pyIter (.ref it)) Q E s
abbrev TI:=St→Hp→(It→Hp→Prop)→Prop
def PIE (X:Cx) (pins:List (Addr × Obj)) (σ:St) (tg:Expr) (R:It→Hp→Prop) (itv:Value) (s2:Shared):Prop :=
  ∃ (it:Addr) (fp:List Addr) (tn:Nat→Heap→Prop) (J:It) (H':Hp),itv=.ref it∧Inv X pins σ H' s2∧Turn X.prog X.w X.K tg J fp it tn∧tn 0 s2.heap∧(∀ b∈fp,FpOk X pins H' b)∧R J H'
def PI (X:Cx) (tg iter:Expr) (wi:TI):Prop :=
  ∀ (pins:List (Addr × Obj)) (s:Shared) (σ:St) (H:Hp) (R:It→Hp→Prop),Inv X pins σ H s→wi σ H R →
    wpAny (model X.prog X.w) X.A (eval iter X.env) (fun v s1=>wpAny (model X.prog X.w) X.A (pyIter v) (PIE X pins σ tg R) X.xe s1) X.xe s
theorem go_of {M:Model} {A:Around} {E:Value→Shared→Prop} {s:Shared} {tg:Expr} {it:Addr} {u:Value} {o:Obj} {n:String} {vs:Array Value} {Q:Unit→Shared→Prop} (ho:s.heap.get? it=some o) (hc:o.cls=.type n) (hd:o.data=.fields vs)
    (hn:["enumerate","zip","dict_itemiterator","dict_reverseitemiterator","odict_iterator","itertools.zip_longest","itertools.pairwise"].contains n=false) (hQ:Q () s):wpAny M A (letOwnedTupleGo tg (.ref it) u) Q E s:=by
  unfold letOwnedTupleGo
  cases tg <;> first
    | exact wpAny_pure hQ
    | (cases u <;> first
        | exact wpAny_pure hQ
        | (refine wpAny_bind (wpAny_load ho ?_)
           rw [hc,hd]
           show wpAny M A (if (["enumerate","zip","dict_itemiterator","dict_reverseitemiterator","odict_iterator","itertools.zip_longest","itertools.pairwise"].contains n && vs[0]? == some (rawInt _))=true then _ else _) Q E s
           rw [if_neg (by intro h; rw [hn,Bool.false_and] at h; cases h)]
           exact wpAny_pure hQ))
def Itl (K:PySem.W.Frag) (a:Addr):It :=
  ⟨fun i H=>∃ xs x,SqL K H a xs∧xs[i]?=some x,fun i H x H'=>H'=H∧∀ xs,SqL K H a xs→xs[i]?=some x,fun i H=>∃ xs,SqL K H a xs∧xs.length≤i⟩
def Itr (lo:Int) (n:Nat):It:=⟨fun i _=>i < n,fun i H x H'=>H'=H∧x=.int (lo+i),fun i _=>n≤i⟩
theorem turn_list {P:Program} {w:World} {K:PySem.W.Frag} {tg:Expr} (a it:Addr):Turn P w K tg (Itl K a) [it] it (fun i h=>h.IsListIter it a i) where
  mem:=by simp
  obj:=fun i h st b hb=>by
    have e:b=it:=by simpa using hb
    subst e
    obtain ⟨o,e,c,d⟩:=st
    exact ⟨o,e,fun v z=>by rw [d] at z; cases z⟩
  keep:=fun i h h' st k=>st.at fun o e=>k it (by simp) o e
  item:=by
    intro X hP hw hK hc i pins s σ H E I hf st hg
    subst hP hw hK
    obtain ⟨xs,x,hq,hx⟩:=hg
    obtain ⟨its,rv,p,hz⟩:=I.list hq
    obtain ⟨u,hu,ru⟩:=rv.get hx
    obtain ⟨f0,f1,f2,f3,f4,f5⟩:=hf it (by simp)
    refine wpAny_pyNext_list_item st p.isList (x:=u) (by simpa using hu) fun h' st' sb=>?_
    have I1:Inv X pins σ H { s with heap:=h' }:=I.turned (t':=s.toks) (fun b o hb e=>(sb.2 b hb).trans e) f0 f1 f3 f4 f5
    obtain ⟨o,e,c,d⟩:=id st'
    exact ⟨u,rfl,go_of (s:={ s with heap:=h' }) e c d (by decide) ⟨x,H,I1,ru,⟨rfl,fun ys hy=>by rw [I.list_inj hy hq]; exact hx⟩,st',fun b hb=>(hf b hb).1⟩⟩
  done:=by
    intro X hP hw hK hc i pins s σ H E I hf st hg
    subst hP hw hK
    obtain ⟨xs,hq,hx⟩:=hg
    obtain ⟨its,rv,p,hz⟩:=I.list hq
    obtain ⟨f0,f1,f2,f3,f4,f5⟩:=hf it (by simp)
    have hl:=rv.length
    exact wpAny_pyNext_list_end (I.ok.hd hc) st p.isList (by simp; omega) fun h' eb=>⟨rfl,I.turned (t':=s.toks) (fun b o hb e=>eb b o hb e) f0 f1 f3 f4 f5⟩
  self:=fun _ _ _ _ _ st h=>wpAny_pyIter_listiter st h
theorem turn_range {P:Program} {w:World} {K:PySem.W.Frag} {tg:Expr} (it:Addr) (lo:Int) (n:Nat):Turn P w K tg (Itr lo n) [it] it (fun i h=>IsRangeIter h it (lo+(i:Nat) * 1) ((n:Int) - (i:Nat)) 1) where
  mem:=by simp
  obj:=fun i h st b hb=>by
    have e:b=it:=by simpa using hb
    subst e
    exact ⟨_,st,fun v z=>by
      have z':Data.fields _=Data.cell v:=z
      cases z'⟩
  keep:=fun i h h' st k=>k it (by simp) _ st
  item:=by
    intro X hP hw hK hc i pins s σ H E I hf st hg
    subst hP hw hK
    obtain ⟨f0,f1,f2,f3,f4,f5⟩:=hf it (by simp)
    have W:=Walks.range (prog:=X.prog) (w:=X.w) (I.ok.hd hc) it lo 1 n
    refine W.item i s _ _ hg st fun v h' tk hv st' kk=>?_
    obtain ⟨t,rfl⟩:=hv
    have I1:Inv X pins σ H { s with heap:=h',toks:=tk }:=I.turned (fun b o hb e=>kk b o (by simpa using hb) e) f0 f1 f3 f4 f5
    refine ⟨_,rfl,go_of (s:={ s with heap:=h',toks:=tk }) (n:="range_iterator") st' rfl rfl (by decide) ⟨.int (lo+i),H,I1,⟨t,?_⟩,⟨rfl,rfl⟩,st',fun b hb=>(hf b hb).1⟩⟩
    rw [Int.mul_one]
  done:=by
    intro X hP hw hK hc i pins s σ H E I hf st hg
    subst hP hw hK
    obtain ⟨f0,f1,f2,f3,f4,f5⟩:=hf it (by simp)
    exact wpAny_pyNext_range_end (I.ok.hd hc) st (by have:n≤i:=hg; omega) fun h' eb=>⟨rfl,I.turned (t':=s.toks) (fun b o hb e=>eb b o hb e) f0 f1 f3 f4 f5⟩
  self:=fun _ _ _ _ _ st h=>wpAny_pyIter_rangeiter st h
end L2
namespace L2
open PySem PySem.Spec PyProof.Rows
section
variable {X:Cx} {tg:Expr}
def iList (K:PySem.W.Frag) (tl:TE):TI:=fun σ H R=>tl σ H fun x H1=>∃ a,x=.ref a∧(∃ xs,SqL K H1 a xs)∧R (Itl K a) H1
theorem pi_list {l:Expr} {tl:TE} (hl:PE X l tl):PI X tg l (iList X.K tl):=by
  intro pins s σ H R I h
  refine thn (hl pins s σ H _ I h) fun v s1 ⟨x,H1,I1,r1,q1⟩=>?_
  obtain ⟨a,e,⟨xs,hq⟩,q⟩:=q1
  subst e
  cases r1
  obtain ⟨its,rv,p,hz⟩:=I1.list hq
  refine wpAny_pyIter_list p.isList ?_
  refine ⟨s1.heap.objs.size,[s1.heap.objs.size],_,_,H1,rfl,I1.kept (t':=s1.toks) fun b o e=>Heap.get?_push_of_some _ e,turn_list a _,⟨_,Heap.get?_push_size _ rfl,rfl,rfl⟩,fun b hb=>?_,q⟩
  have e:b=s1.heap.objs.size:=by simpa using hb
  subst e
  exact I1.fpOk (Nat.le_refl _) (I1.hok.fresh (Nat.le_refl _))
theorem range_it {pins:List (Addr × Obj)} {σ:St} {H:Hp} {s:Shared} {R:It→Hp→Prop} {E:Value→Shared→Prop} {lo hi:Int} {t u v:Tok} {tk:Nat} (I:Inv X pins σ H s) (h1:-(2^62)≤lo) (h2:lo < 2^62) (h3:-(2^62)≤hi) (h4:hi < 2^62)
    (q:R (Itr lo (hi - lo).toNat) H):wpAny (model X.prog X.w) X.A (pyIter (.ref s.heap.objs.size)) (PIE X pins σ tg R) E { s with heap:=s.heap.push { cls:=.type "range",data:=.fields #[.int lo t,.int hi u,.int 1 v] },toks:=tk }:=by
  refine wpAny_pyIter_range (IsRange.new ..) (small_one h1 h2 h3 h4) ?_
  have I1:Inv X pins σ H { s with heap:=s.heap.push { cls:=.type "range",data:=.fields #[.int lo t,.int hi u,.int 1 v] },toks:=tk }:=I.kept fun b o e=>Heap.get?_push_of_some _ e
  refine ⟨(s.heap.push { cls:=.type "range",data:=.fields #[.int lo t,.int hi u,.int 1 v] }).objs.size,[(s.heap.push { cls:=.type "range",data:=.fields #[.int lo t,.int hi u,.int 1 v] }).objs.size],_,_,H,rfl,
    I1.kept (t':=tk) fun b o e=>Heap.get?_push_of_some _ e,turn_range _ lo (hi - lo).toNat,?_,fun b hb=>?_,q⟩
  · have e1:lo+((0:Nat):Int) * 1=lo:=by simp
    have e2:(((hi - lo).toNat:Nat):Int) - ((0:Nat):Int)=Builtin.Range.rangeSize lo hi 1:=by rw [rangeSize_one]; split <;> omega
    show IsRangeIter _ _ (lo+((0:Nat):Int) * 1) ((((hi - lo).toNat:Nat):Int) - ((0:Nat):Int)) 1
    rw [e1,e2]
    exact Heap.get?_push_size _ rfl
  · have e:b=(s.heap.push { cls:=.type "range",data:=.fields #[.int lo t,.int hi u,.int 1 v] }).objs.size:=by simpa using hb
    subst e
    exact I1.fpOk (Nat.le_refl _) (I1.hok.fresh (Nat.le_refl _))
def iRng1 (ta:TA):TI:=fun σ H R=>ta σ H fun vs H1=>∃ j:Int,vs=[.int j]∧-(2^62)≤j∧j < 2^62∧R (Itr 0 j.toNat) H1
def iRng2 (ta:TA):TI:=fun σ H R=>ta σ H fun vs H1=>∃ i j:Int,vs=[.int i,.int j]∧(-(2^62)≤i∧i < 2^62∧-(2^62)≤j∧j < 2^62)∧R (Itr i (j - i).toNat) H1
theorem pi_range1 {a:Expr} {ta:TA} {p pos:Pos} (hg:Gl X "range") (hm:X.mg "range"=none) (ha:PA X [a] ta) (hs:starEach [a] X.env=[(false,eval a X.env)]:=by rfl):PI X tg (.Call (.Name "range" p) [a] [] pos) (iRng1 ta):=by
  intro pins s σ H R I h
  refine Call_ (ld_blt I hg hm boot_range (PyProof.Rows.callWith_type1 (thn (ha pos pins s σ H _ I h) fun us s1 ⟨vs,H1,I1,r1,q1⟩=>?_) hs rfl))
  obtain ⟨j,e,q1,q2,q⟩:=q1
  subst e
  cases r1 with
  | cons r rr =>
    cases rr
    obtain ⟨t,rfl⟩:=r
    exact call_range_1 (range_it I1 (by omega) (by omega) q1 q2 (by simpa using q))
theorem pi_range2 {a b:Expr} {ta:TA} {p pos:Pos} (hg:Gl X "range") (hm:X.mg "range"=none) (ha:PA X [a,b] ta) (hs:starEach [a,b] X.env=[(false,eval a X.env),(false,eval b X.env)]:=by rfl) (hs2:starEach [b] X.env=[(false,eval b X.env)]:=by rfl) :
    PI X tg (.Call (.Name "range" p) [a,b] [] pos) (iRng2 ta):=by
  intro pins s σ H R I h
  refine Call_ (ld_blt I hg hm boot_range (PyProof.Rows.callWith_type1 (thn (ha pos pins s σ H _ I h) fun us s1 ⟨vs,H1,I1,r1,q1⟩=>?_) (by rw [hs,hs2]) (by rw [hs2]; rfl)))
  obtain ⟨i,j,e,⟨q1,q2,q3,q4⟩,q⟩:=q1
  subst e
  cases r1 with
  | cons r rr =>
    cases rr with
    | cons r' rr =>
      cases rr
      obtain ⟨t,rfl⟩:=r
      obtain ⟨t',rfl⟩:=r'
      exact call_range_2 (range_it I1 q1 q2 q3 q4 q)
def tFor (wi:TI) (g:TG) (tb:TS):TS:=fun D σ H=>wi σ H fun J H1=>∃ W:Nat→Nat→St→Hp→Prop,(∃ m,W 0 m σ H1)∧∀ i m σ H,W i m σ H →
  (J.stop i H∧D.nx σ H)∨(J.go i H∧∃ N:St→Hp→Prop,(∀ σ' H',N σ' H'→∃ m',m' < m∧W (i+1) m' σ' H')∧∀ x H',J.yld i H x H'→g x σ H' fun σ2 H2=>tb { D with nx:=N,ct:=N,bk:=D.nx } σ2 H2)
def pinsAt (fp:List Addr) (h:Heap):List (Addr × Obj):=fp.filterMap fun b=>(h.get? b).map fun o=>(b,o)
theorem mem_pinsAt {fp:List Addr} {h:Heap} {b:Addr} {o:Obj} (hb:b∈fp) (e:h.get? b=some o):(b,o)∈pinsAt fp h:=List.mem_filterMap.mpr ⟨b,hb,by rw [e]; rfl⟩
theorem of_pinsAt {fp:List Addr} {h:Heap} {p:Addr × Obj} (hp:p∈pinsAt fp h):p.1∈fp∧h.get? p.1=some p.2:=by
  obtain ⟨b,hb,e⟩:=List.mem_filterMap.mp hp
  cases q:h.get? b with
  | none=>rw [q] at e; cases e
  | some o =>
    rw [q] at e
    have e':(b,o)=p:=Option.some.inj e
    subst e'
    exact ⟨hb,q⟩
theorem Inv.pinned {pins:List (Addr × Obj)} {σ:St} {H:Hp} {s:Shared} {fp:List Addr} (I:Inv X pins σ H s) (hf:∀ b∈fp,FpOk X pins H b) (ho:∀ b∈fp,∃ o,s.heap.get? b=some o∧∀ v,o.data≠.cell v):Inv X (pins++pinsAt fp s.heap) σ H s :=
  I.pins_of fun p hp=>(List.mem_append.mp hp).elim (fun z=>I.pin p (List.mem_append_right _ z)) fun z=>by
    obtain ⟨hb,e⟩:=of_pinsAt z
    obtain ⟨f0,f1,f2,_⟩:=hf p.1 hb
    obtain ⟨o,e',d⟩:=ho p.1 hb
    rw [e] at e'; cases e'
    exact ⟨e,f0,f1,f2,d⟩
theorem Inv.unpinned {pins pl:List (Addr × Obj)} {σ:St} {H:Hp} {s:Shared} (I:Inv X (pins++pl) σ H s):Inv X pins σ H s:=I.pins_of fun p hp=>I.pin p (List.mem_append_right _ (List.mem_append_left _ hp))
theorem ps_for {iter:Expr} {body:List Stmt} {wi:TI} {g:TG} {tb:TS} {pos:Pos} (hp:PassesOwn (model X.prog X.w) X.A X.env X.xe) (hc:X.calm=true) (hi:PI X tg iter wi) (hg:PG X tg g) (hb:PSs X body tb)
    (hs:∀ x,foldedSetIterable iter X.env x=pure x:=by intro _; rfl):PS X (.For tg iter body [] pos) (tFor wi g tb):=by
  intro pins s σ H D I h
  refine wpAny_For (thn (hi pins s σ H _ I h) fun v s1 h1=>thn h1 fun itv s2 h2=>?_) hs
  obtain ⟨it,fp,tn,J,H2,e,I2,T,st2,f2,W,⟨m0,w0⟩,turn⟩:=h2
  subst e
  have stat:∀ {H':Hp},(∀ b∈fp,H' b=none)→∀ b∈fp,FpOk X pins H' b:=fun hn b hb=>⟨hn b hb,(f2 b hb).2⟩
  refine codeAny_forLoop_any (fun n s'=>∃ i σ' H',Inv X pins σ' H' s'∧tn i s'.heap∧(∀ b∈fp,H' b=none)∧W i n σ' H') ?_ m0 ⟨0,σ,H2,I2,st2,fun b hb=>(f2 b hb).1,w0⟩
  rintro n s3 ⟨i,σ3,H3,I3,st3,fr3,w3⟩
  rcases turn i n σ3 H3 w3 with ⟨stop,qn⟩ | ⟨go,N,hN,step⟩
  · refine wpAny_passesOwn hp (thn (T.done X rfl rfl rfl hc i pins s3 σ3 H3 X.xe I3 (stat fr3) st3 stop) fun r s4 ⟨hr,I4⟩=>?_)
    subst hr
    exact wpAny_execs_nil ⟨σ3,H3,I4,qn⟩
  · refine wpAny_passesOwn hp (thn (T.item X rfl rfl rfl hc i pins s3 σ3 H3 X.xe I3 (stat fr3) st3 go) fun r s4 ⟨u,hr,h4⟩=>?_)
    subst hr
    refine wpAny_passesOwn hp (thn h4 fun _ s5 ⟨x,H5,I5,r5,y5,st5,fr5⟩=>?_)
    have I5':=I5.pinned (stat fr5) (T.obj _ _ st5)
    refine wpAny_passesOwn hp (thn (hg _ s5 σ3 H5 x u _ I5' r5 (step x H5 y5)) fun _ s6 ⟨σ6,H6,I6,q6⟩=>?_)
    refine wpAny_passesOwn hp (thn (hb _ s6 σ6 H6 _ I6 q6) fun f s7 q7=>?_)
    have again:∀ {σ7:St} {H7:Hp},Inv X (pins++pinsAt fp s5.heap) σ7 H7 s7→N σ7 H7→∃ m,m < n∧∃ i σ' H',Inv X pins σ' H' s7∧tn i s7.heap∧(∀ b∈fp,H' b=none)∧W i m σ' H':=fun {σ7 H7} I7 n7=>by
      obtain ⟨m',hm,w7⟩:=hN σ7 H7 n7
      refine ⟨m',hm,i+1,σ7,H7,I7.unpinned,T.keep _ _ _ st5 fun b hb o e=>(I7.pin (b,o) (List.mem_append_right _ (List.mem_append_right _ (mem_pinsAt hb e)))).1,fun b hb=>?_,w7⟩
      obtain ⟨o,e,d⟩:=T.obj _ _ st5 b hb
      exact (I7.pin (b,o) (List.mem_append_right _ (List.mem_append_right _ (mem_pinsAt hb e)))).2.1
    cases f with
    | next=>obtain ⟨σ7,H7,I7,n7⟩:=q7; exact again I7 n7
    | cont=>obtain ⟨σ7,H7,I7,n7⟩:=q7; exact again I7 n7
    | brk=>obtain ⟨σ7,H7,I7,q7⟩:=q7; exact ⟨σ7,H7,I7.unpinned,q7⟩
    | ret v=>obtain ⟨x7,σ7,H7,I7,r7,q7⟩:=q7; exact ⟨x7,σ7,H7,I7.unpinned,r7,q7⟩
end
theorem for_list {K:PySem.W.Frag} {a:Addr} {xs:List V} {g:TG} {tb:TS} {D:Ends} {σ:St} {H:Hp} (Pv:Nat→St→Hp→Prop) (h0:Pv 0 σ H) (hl:∀ i σ H,i≤xs.length→Pv i σ H→SqL K H a xs)
    (hs:∀ i x σ H,xs[i]?=some x→Pv i σ H→g x σ H fun σ2 H2=>tb { D with nx:=Pv (i+1),ct:=Pv (i+1),bk:=D.nx } σ2 H2) (hd:∀ σ H,Pv xs.length σ H→D.nx σ H) :
    ∃ W:Nat→Nat→St→Hp→Prop,(∃ m,W 0 m σ H)∧∀ i m σ H,W i m σ H →
      ((Itl K a).stop i H∧D.nx σ H)∨((Itl K a).go i H∧∃ N:St→Hp→Prop,(∀ σ' H',N σ' H'→∃ m',m' < m∧W (i+1) m' σ' H')∧∀ x H',(Itl K a).yld i H x H'→g x σ H' fun σ2 H2=>tb { D with nx:=N,ct:=N,bk:=D.nx } σ2 H2):=by
  refine ⟨fun i m σ H=>m=xs.length - i∧i≤xs.length∧Pv i σ H,⟨xs.length,by simp,Nat.zero_le _,h0⟩,?_⟩
  rintro i m σ H ⟨rfl,hi,p⟩
  have q:=hl i σ H hi p
  by_cases hlt:i < xs.length
  · refine .inr ⟨⟨xs,xs[i],q,by simp [hlt]⟩,Pv (i+1),fun σ' H' p'=>⟨xs.length - (i+1),by omega,rfl,hlt,p'⟩,fun x H' y=>?_⟩
    obtain ⟨e,y⟩:=y
    subst e
    exact hs i x σ _ (y xs q) p
  · have e:i=xs.length:=by omega
    subst e
    exact .inl ⟨⟨xs,q,Nat.le_refl _⟩,hd σ H p⟩
theorem for_range {lo:Int} {n:Nat} {g:TG} {tb:TS} {D:Ends} {σ:St} {H:Hp} (Pv:Nat→St→Hp→Prop) (h0:Pv 0 σ H)
    (hs:∀ i σ H,i < n→Pv i σ H→g (.int (lo+i)) σ H fun σ2 H2=>tb { D with nx:=Pv (i+1),ct:=Pv (i+1),bk:=D.nx } σ2 H2) (hd:∀ σ H,Pv n σ H→D.nx σ H) :
    ∃ W:Nat→Nat→St→Hp→Prop,(∃ m,W 0 m σ H)∧∀ i m σ H,W i m σ H →
      ((Itr lo n).stop i H∧D.nx σ H)∨((Itr lo n).go i H∧∃ N:St→Hp→Prop,(∀ σ' H',N σ' H'→∃ m',m' < m∧W (i+1) m' σ' H')∧∀ x H',(Itr lo n).yld i H x H'→g x σ H' fun σ2 H2=>tb { D with nx:=N,ct:=N,bk:=D.nx } σ2 H2):=by
  refine ⟨fun i m σ H=>m=n - i∧i≤n∧Pv i σ H,⟨n,by simp,Nat.zero_le _,h0⟩,?_⟩
  rintro i m σ H ⟨rfl,hi,p⟩
  by_cases hlt:i < n
  · refine .inr ⟨hlt,Pv (i+1),fun σ' H' p'=>⟨n - (i+1),by omega,rfl,hlt,p'⟩,fun x H' y=>?_⟩
    obtain ⟨e,y⟩:=y
    subst e y
    exact hs i σ _ hlt p
  · have e:i=n:=by omega
    subst e
    exact .inl ⟨Nat.le_refl _,hd σ H p⟩
theorem while_by {c:TT} {tb:TS} {D:Ends} {σ:St} {H:Hp} (Pv:St→Hp→Prop) (μ:St→Hp→Nat) (h0:Pv σ H)
    (hs:∀ σ H,Pv σ H→c σ H fun b H1=>if b=true then tb { D with nx:=fun σ' H'=>Pv σ' H'∧μ σ' H' < μ σ H,ct:=fun σ' H'=>Pv σ' H'∧μ σ' H' < μ σ H,bk:=D.nx } σ H1 else D.nx σ H1)
    (mono:∀ σ H Q Q',(∀ b H1,Q b H1→Q' b H1)→c σ H Q→c σ H Q'):tWhile c tb D σ H:=by
  refine ⟨fun m σ H=>m=μ σ H∧Pv σ H,⟨_,rfl,h0⟩,?_⟩
  rintro m σ H ⟨rfl,p⟩
  refine mono σ H _ _ (fun b H1 q=>?_) (hs σ H p)
  cases b with
  | true=>exact ⟨_,fun σ' H' ⟨p',l⟩=>⟨_,l,rfl,p'⟩,q⟩
  | false=>exact q
end L2
namespace L2
open PySem PySem.Spec PyProof.Rows
abbrev R2:=V→V→Hp→VK→Prop
def OpR (X:Cx) (f:Value→Value→Sem Value) (r:R2):Prop :=
  ∀ (pins:List (Addr × Obj)) (s:Shared) (σ:St) (H:Hp) (x y:V) (v u:Value) (Q:VK),Inv X pins σ H s→RelV x v→RelV y u→r x y H Q →
    wpAny (model X.prog X.w) X.A (f v u) (EP X pins σ Q) X.xe s
def UnR (X:Cx) (f:Value→Sem Value) (r:V→Hp→VK→Prop):Prop :=
  ∀ (pins:List (Addr × Obj)) (s:Shared) (σ:St) (H:Hp) (x:V) (v:Value) (Q:VK),Inv X pins σ H s→RelV x v→r x H Q →
    wpAny (model X.prog X.w) X.A (f v) (EP X pins σ Q) X.xe s
def CallR (X:Cx) (f:Value) (r:List V→Hp→VK→Prop):Prop :=
  ∀ (pins:List (Addr × Obj)) (s:Shared) (σ:St) (H:Hp) (xs:List V) (us:List Value) (Q:VK),Inv X pins σ H s→Vals xs us→r xs H Q →
    wpAny (model X.prog X.w) X.A (call f us) (EP X pins σ Q) X.xe s
def TruR (X:Cx) (r:V→Hp→(Bool→Hp→Prop)→Prop):Prop :=
  ∀ (pins:List (Addr × Obj)) (s:Shared) (σ:St) (H:Hp) (x:V) (v:Value) (Q:Bool→Hp→Prop),Inv X pins σ H s→RelV x v→r x H Q →
    wpAny (model X.prog X.w) X.A (truthy v) (TP X pins σ Q) X.xe s
def tOp (r:R2) (ta tb:TE):TE:=fun σ H Q=>ta σ H fun x H1=>tb σ H1 fun y H2=>r x y H2 Q
def tUn (r:V→Hp→VK→Prop) (ta:TE):TE:=fun σ H Q=>ta σ H fun x H1=>r x H1 Q
def rI (C:Int→Int→Prop) (g:Int→Int→V):R2:=fun x y H Q=>∃ i j,x=.int i∧y=.int j∧C i j∧Q (g i j) H
def rI0 (g:Int→Int→V):R2:=fun x y H Q=>∃ i j,x=.int i∧y=.int j∧Q (g i j) H
def rU (g:Int→V):V→Hp→VK→Prop:=fun x H Q=>∃ i,x=.int i∧Q (g i) H
section
variable {X:Cx} {a b c:Expr} {ta tb tc:TE} {pos:Pos}
theorem binT (ha:PE X a ta) (hb:PE X b tb) {pins:List (Addr × Obj)} {s:Shared} {σ:St} {H:Hp} {R:V→V→Hp→Prop} (I:Inv X pins σ H s)
    (h:ta σ H fun x H1=>tb σ H1 fun y H2=>R x y H2) {Q:Value→Shared→Prop} {f:Value→Value→Sem Value}
    (hf:∀ v u s2 x y H2,Inv X pins σ H2 s2→RelV x v→RelV y u→R x y H2→wpAny (model X.prog X.w) X.A (f v u) Q X.xe s2) :
    wpAny (model X.prog X.w) X.A (eval a X.env) (fun v s₁=>wpAny (model X.prog X.w) X.A (eval b X.env) (fun u s₂=>wpAny (model X.prog X.w) X.A (f v u) Q X.xe s₂) X.xe s₁) X.xe s:=by
  refine thn (ha pins s σ H _ I h) fun v s1 ⟨x,H1,I1,r1,q1⟩=>?_
  refine thn (hb pins s1 σ H1 _ I1 q1) fun u s2 ⟨y,H2,I2,r2,q2⟩=>?_
  exact hf v u s2 x y H2 I2 r1 r2 q2
theorem pe_op {op:Operator} {r:R2} (ho:OpR X (binaryOp op) r) (ha:PE X a ta) (hb:PE X b tb):PE X (.BinOp a op b pos) (tOp r ta tb):=by
  intro pins s σ H Q I h
  exact wpAny_BinOp (binT ha hb I h fun v u s2 x y H2 I2 rx ry q=>ho pins s2 σ H2 x y v u Q I2 rx ry q)
theorem pe_un {op:UnaryOp} {r:V→Hp→VK→Prop} (ho:UnR X (unaryOp op) r) (ha:PE X a ta):PE X (.UnaryOp op a pos) (tUn r ta):=by
  intro pins s σ H Q I h
  exact UnaryOp_ (thn (ha pins s σ H _ I h) fun v s1 ⟨x,H1,I1,r1,q1⟩=>ho pins s1 σ H1 x v Q I1 r1 q1)
theorem opI {f:Value→Value→Sem Value} {C:Int→Int→Prop} {g:Int→Int→Int}
    (rule:∀ (i j:Int) (t u:Tok) (s:Shared) (Q:Value→Shared→Prop) (E:Value→Shared→Prop),C i j→Q (.int (g i j) s.toks) { s with toks:=s.toks+1 }→wpAny (model X.prog X.w) X.A (f (.int i t) (.int j u)) Q E s) :
    OpR X f (rI C fun i j=>.int (g i j)):=by
  intro pins s σ H x y v u Q I rx ry h
  obtain ⟨i,j,rfl,rfl,hc,q⟩:=h
  obtain ⟨t,rfl⟩:=rx
  obtain ⟨t',rfl⟩:=ry
  exact rule i j t t' s _ _ hc ⟨.int (g i j),H,I.tok _,⟨_,rfl⟩,q⟩
theorem opI0 {f:Value→Value→Sem Value} {g:Int→Int→Int}
    (rule:∀ (i j:Int) (t u:Tok) (s:Shared) (Q:Value→Shared→Prop) (E:Value→Shared→Prop),Q (.int (g i j) s.toks) { s with toks:=s.toks+1 }→wpAny (model X.prog X.w) X.A (f (.int i t) (.int j u)) Q E s) :
    OpR X f (rI0 fun i j=>.int (g i j)):=by
  intro pins s σ H x y v u Q I rx ry h
  obtain ⟨i,j,rfl,rfl,q⟩:=h
  obtain ⟨t,rfl⟩:=rx
  obtain ⟨t',rfl⟩:=ry
  exact rule i j t t' s _ _ ⟨.int (g i j),H,I.tok _,⟨_,rfl⟩,q⟩
theorem opB0 {f:Value→Value→Sem Value} {g:Int→Int→Bool}
    (rule:∀ (i j:Int) (t u:Tok) (s:Shared) (Q:Value→Shared→Prop) (E:Value→Shared→Prop),Q (.bool (g i j)) s→wpAny (model X.prog X.w) X.A (f (.int i t) (.int j u)) Q E s) :
    OpR X f (rI0 fun i j=>.bl (g i j)):=by
  intro pins s σ H x y v u Q I rx ry h
  obtain ⟨i,j,rfl,rfl,q⟩:=h
  obtain ⟨t,rfl⟩:=rx
  obtain ⟨t',rfl⟩:=ry
  exact rule i j t t' s _ _ ⟨.bl (g i j),H,I,rfl,q⟩
def CPow (i j:Int):Prop:=0≤j∧j≤1000000∧i.natAbs < 2^64
theorem two_pow_nn (k:Nat):(0:Int)≤2^k:=by
  rw [two_pow_cast]
  exact Int.natCast_nonneg _
theorem op_add:OpR X (binaryOp .Add) (rI0 fun i j=>.int (i+j)):=opI0 fun _ _ _ _ _ _ _ q=>add_int q
theorem op_sub:OpR X (binaryOp .Sub) (rI0 fun i j=>.int (i - j)):=opI0 fun _ _ _ _ _ _ _ q=>sub_int q
theorem op_mod:OpR X (binaryOp .Mod) (rI (fun _ j=>0 < j) fun i j=>.int (i % j)):=opI fun i j _ _ _ _ _ hc q=>by
  have h1:(0:Int) < j:=hc
  exact mod_int' (by omega) (by rw [Int.fmod_eq_emod_of_nonneg i (by omega)]; exact q)
theorem op_pow:OpR X (binaryOp .Pow) (rI CPow fun i j=>.int (i^j.toNat)):=opI fun _ _ _ _ _ _ _ hc q=>pow_int_small hc.1 hc.2.1 hc.2.2 q
theorem op_shl:OpR X (binaryOp .LShift) (rI CPow fun i j=>.int (i * 2^j.toNat)):=opI fun _ _ _ _ _ _ _ hc q=>lshift_int_small hc.1 hc.2.1 hc.2.2 q
theorem op_shr:OpR X (binaryOp .RShift) (rI (fun _ j=>0≤j) fun i j=>.int (i / 2^j.toNat)):=opI fun i j _ _ _ _ _ hc q =>
  rshift_int hc (by rw [Int.fdiv_eq_ediv_of_nonneg i (two_pow_nn _)]; exact q)
theorem op_and:OpR X (binaryOp .BitAnd) (rI0 fun i j=>.int (Builtin.bitAnd i j)):=opI0 fun _ _ _ _ _ _ _ q=>and_int q
theorem unI {f:Value→Sem Value} {g:Int→Int}
    (rule:∀ (i:Int) (t:Tok) (s:Shared) (Q:Value→Shared→Prop) (E:Value→Shared→Prop),Q (.int (g i) s.toks) { s with toks:=s.toks+1 }→wpAny (model X.prog X.w) X.A (f (.int i t)) Q E s) :
    UnR X f (rU fun i=>.int (g i)):=by
  intro pins s σ H x v Q I rx h
  obtain ⟨i,rfl,q⟩:=h
  obtain ⟨t,rfl⟩:=rx
  exact rule i t s _ _ ⟨.int (g i),H,I.tok _,⟨_,rfl⟩,q⟩
theorem un_neg:UnR X (unaryOp .USub) (rU fun i=>.int (-i)):=unI fun _ _ _ _ _ q=>neg_int q
end
def scal:V→V→Bool
  | .non,.non=>true | .non,.int _=>true | .int _,.non=>true | .non,.bl _=>true | .bl _,.non=>true | .non,.str _=>true | .str _,.non=>true
  | .int _,.int _=>true | .bl _,.bl _=>true | .str _,.str _=>true | .byt _,.byt _=>true
  | .int _,.str _=>true | .str _,.int _=>true | .bl _,.str _=>true | .str _,.bl _=>true
  | _,_=>false
def rEq:R2:=fun x y H Q=>scal x y=true∧Q (.bl (decide (x=y))) H
def rNe:R2:=fun x y H Q=>scal x y=true∧Q (.bl (!decide (x=y))) H
theorem dec_int {i j:Int}:decide (V.int i=V.int j)=(i == j):=by
  rw [Bool.eq_iff_iff]
  simp
theorem dec_bl {i j:Bool}:decide (V.bl i=V.bl j)=(i == j):=by
  rw [Bool.eq_iff_iff]
  simp
theorem dec_str {i j:Str}:decide (V.str i=V.str j)=(i == j):=by
  rw [Bool.eq_iff_iff]
  simp
theorem dec_byt {i j:Array UInt8}:decide (V.byt i=V.byt j)=(i.toList == j.toList):=by
  rw [Bool.eq_iff_iff]
  cases i
  cases j
  simp
section
variable {X:Cx} {a b c:Expr} {ta tb tc:TE} {pos:Pos}
theorem fin_bl {pins:List (Addr × Obj)} {σ:St} {H:Hp} {s:Shared} {Q:VK} {k k':Bool} (I:Inv X pins σ H s) (q:Q (.bl k) H) (e:k=k'):EP X pins σ Q (.bool k') s:=by
  subst e
  exact ⟨.bl k,H,I,rfl,q⟩
theorem op_eq:OpR X (compareOp .Eq) rEq:=by
  intro pins s σ H x y v u Q I rx ry h
  obtain ⟨hs,q⟩:=h
  cases x with
  | non =>
    cases rx
    cases y with
    | non=>cases ry; exact PySem.EqNone.eq_none_none (fin_bl I q (by simp))
    | bl j=>cases ry; exact PySem.EqNone.eq_none_bool (fin_bl I q (by simp))
    | int j=>obtain ⟨t',rfl⟩:=ry; exact PySem.EqNone.eq_none_int (fin_bl I q (by simp))
    | str j=>obtain ⟨t',rfl⟩:=ry; exact PySem.EqNone.eq_none_str (fin_bl I q (by simp))
    | _=>exact absurd (show false=true from hs) Bool.false_ne_true
  | bl i =>
    cases rx
    cases y with
    | non=>cases ry; exact PySem.EqNone.eq_bool_none (fin_bl I q (by simp))
    | bl j=>cases ry; exact eq_bool (fin_bl I q dec_bl)
    | str j=>obtain ⟨t',rfl⟩:=ry; exact PySem.EqMixed.eq_bool_str (fin_bl I q (by simp))
    | _=>exact absurd (show false=true from hs) Bool.false_ne_true
  | int i =>
    obtain ⟨t,rfl⟩:=rx
    cases y with
    | non=>cases ry; exact PySem.EqNone.eq_int_none (fin_bl I q (by simp))
    | int j=>obtain ⟨t',rfl⟩:=ry; exact eq_int (fin_bl I q dec_int)
    | str j=>obtain ⟨t',rfl⟩:=ry; exact PySem.EqMixed.eq_int_str (fin_bl I q (by simp))
    | _=>exact absurd (show false=true from hs) Bool.false_ne_true
  | str i =>
    obtain ⟨t,rfl⟩:=rx
    cases y with
    | non=>cases ry; exact PySem.EqNone.eq_str_none (fin_bl I q (by simp))
    | bl j=>cases ry; exact PySem.EqMixed.eq_str_bool (fin_bl I q (by simp))
    | int j=>obtain ⟨t',rfl⟩:=ry; exact PySem.EqMixed.eq_str_int (fin_bl I q (by simp))
    | str j=>obtain ⟨t',rfl⟩:=ry; exact eq_str (fin_bl I q dec_str)
    | _=>exact absurd (show false=true from hs) Bool.false_ne_true
  | byt i =>
    obtain ⟨t,rfl⟩:=rx
    cases y with
    | byt j=>obtain ⟨t',rfl⟩:=ry; exact PySem.W.eq_bytes (fin_bl I q dec_byt)
    | _=>exact absurd (show false=true from hs) Bool.false_ne_true
  | _=>cases y <;> exact absurd (show false=true from hs) Bool.false_ne_true
theorem op_ne:OpR X (compareOp .NotEq) rNe:=by
  intro pins s σ H x y v u Q I rx ry h
  obtain ⟨hs,q⟩:=h
  cases x with
  | non =>
    cases rx
    cases y with
    | non=>cases ry; exact PySem.EqNone.ne_none_none (fin_bl I q (by simp))
    | bl j=>cases ry; exact PySem.EqNone.ne_none_bool (fin_bl I q (by simp))
    | int j=>obtain ⟨t',rfl⟩:=ry; exact PySem.EqNone.ne_none_int (fin_bl I q (by simp))
    | str j=>obtain ⟨t',rfl⟩:=ry; exact PySem.EqNone.ne_none_str (fin_bl I q (by simp))
    | _=>exact absurd (show false=true from hs) Bool.false_ne_true
  | bl i =>
    cases rx
    cases y with
    | non=>cases ry; exact PySem.EqNone.ne_bool_none (fin_bl I q (by simp))
    | bl j=>cases ry; exact ne_bool (fin_bl I q (congrArg not dec_bl))
    | str j=>obtain ⟨t',rfl⟩:=ry; exact PySem.EqMixed.ne_bool_str (fin_bl I q (by simp))
    | _=>exact absurd (show false=true from hs) Bool.false_ne_true
  | int i =>
    obtain ⟨t,rfl⟩:=rx
    cases y with
    | non=>cases ry; exact PySem.EqNone.ne_int_none (fin_bl I q (by simp))
    | int j=>obtain ⟨t',rfl⟩:=ry; exact ne_int (fin_bl I q (congrArg not dec_int))
    | str j=>obtain ⟨t',rfl⟩:=ry; exact PySem.EqMixed.ne_int_str (fin_bl I q (by simp))
    | _=>exact absurd (show false=true from hs) Bool.false_ne_true
  | str i =>
    obtain ⟨t,rfl⟩:=rx
    cases y with
    | non=>cases ry; exact PySem.EqNone.ne_str_none (fin_bl I q (by simp))
    | bl j=>cases ry; exact PySem.EqMixed.ne_str_bool (fin_bl I q (by simp))
    | int j=>obtain ⟨t',rfl⟩:=ry; exact PySem.EqMixed.ne_str_int (fin_bl I q (by simp))
    | str j=>obtain ⟨t',rfl⟩:=ry; exact ne_str (fin_bl I q (congrArg not dec_str))
    | _=>exact absurd (show false=true from hs) Bool.false_ne_true
  | byt i =>
    obtain ⟨t,rfl⟩:=rx
    cases y with
    | byt j=>obtain ⟨t',rfl⟩:=ry; exact PySem.W.ne_bytes (fin_bl I q (congrArg not dec_byt))
    | _=>exact absurd (show false=true from hs) Bool.false_ne_true
  | _=>cases y <;> exact absurd (show false=true from hs) Bool.false_ne_true
theorem op_lt:OpR X (compareOp .Lt) (rI0 fun i j=>.bl (decide (i < j))):=opB0 fun _ _ _ _ _ _ _ q=>lt_int q
theorem op_le:OpR X (compareOp .LtE) (rI0 fun i j=>.bl (decide (i≤j))):=opB0 fun _ _ _ _ _ _ _ q=>le_int q
theorem op_gt:OpR X (compareOp .Gt) (rI0 fun i j=>.bl (decide (j < i))):=opB0 fun _ _ _ _ _ _ _ q=>gt_int q
theorem op_ge:OpR X (compareOp .GtE) (rI0 fun i j=>.bl (decide (j≤i))):=opB0 fun _ _ _ _ _ _ _ q=>ge_int q
theorem op_isN:OpR X (compareOp .Is) (fun x y H Q=>y=.non∧Q (.bl (decide (x=.non))) H):=by
  intro pins s σ H x y v u Q I rx ry h
  obtain ⟨rfl,q⟩:=h
  cases ry
  refine is_none_gen (fin_bl I q ?_)
  cases x <;> first
    | (cases rx; rfl)
    | (obtain ⟨t,rfl⟩:=rx; rfl)
theorem op_notN:OpR X (compareOp .IsNot) (fun x y H Q=>y=.non∧Q (.bl (!decide (x=.non))) H):=by
  intro pins s σ H x y v u Q I rx ry h
  obtain ⟨rfl,q⟩:=h
  cases ry
  refine isnot_none_gen (fin_bl I q ?_)
  cases x <;> first
    | (cases rx; rfl)
    | (obtain ⟨t,rfl⟩:=rx; rfl)
theorem nomark (b:Expr) {op:CmpOp} (h:op≠.In:=by decide) (h2:op≠.NotIn:=by decide):behindInMarks op b=false:=by
  have e1:(op == CmpOp.In)=false:=by cases op <;> first | rfl | exact absurd rfl h
  have e2:(op == CmpOp.NotIn)=false:=by cases op <;> first | rfl | exact absurd rfl h2
  cases b <;> simp [behindInMarks,e1,e2]
theorem pe_cmpR {op:CmpOp} {r:R2} (ho:OpR X (compareOp op) r) (ha:PE X a ta) (hb:PE X b tb) (hm:behindInMarks op b=false):PE X (.Compare a [op] [b] pos) (tOp r ta tb):=by
  intro pins s σ H Q I h
  exact wpAny_Compare1 (binT ha hb I h fun v u s2 x y H2 I2 rx ry q=>ho pins s2 σ H2 x y v u Q I2 rx ry q) hm
def tTest (t:TE):TT:=fun σ H Q=>t σ H fun x H'=>∃ k,x=.bl k∧Q k H'
theorem pt_cmpR {op:CmpOp} {r:R2} (ho:OpR X (compareOp op) r) (ha:PE X a ta) (hb:PE X b tb) (hm:behindInMarks op b=false):PT X (.Compare a [op] [b] pos) (tTest (tOp r ta tb)):=by
  intro pins s σ H Q I h
  refine wpAny_isTrue_Compare1 (thn (ha pins s σ H _ I h) fun v s1 ⟨x,H1,I1,r1,q1⟩=>thn (hb pins s1 σ H1 _ I1 q1) fun u s2 ⟨y,H2,I2,r2,q2⟩ =>
    thn (ho pins s2 σ H2 x y v u _ I2 r1 r2 q2) fun c s3 ⟨z,H3,I3,r3,k,e,q3⟩=>?_) hm
  subst e
  cases r3
  exact wpAny_truthy_bool ⟨H3,I3,q3⟩
def tChain (r r':R2) (ta tb tc:TE):TE:=fun σ H Q=>ta σ H fun x H1=>tb σ H1 fun y H2=>r x y H2 fun z H3=>∃ k,z=.bl k ∧
  (if k=true then tc σ H3 fun w' H4=>r' y w' H4 Q else Q (.bl false) H3)
theorem pe_chain {op op':CmpOp} {r r':R2} (ho:OpR X (compareOp op) r) (ho':OpR X (compareOp op') r') (ha:PE X a ta) (hb:PE X b tb) (hc:PE X c tc)
    (hm:lastMarks [op,op'] [b,c]=false:=by with_unfolding_all rfl):PE X (.Compare a [op,op'] [b,c] pos) (tChain r r' ta tb tc):=by
  intro pins s σ H Q I h
  refine Compare_chain (thn (ha pins s σ H _ I h) fun v s1 ⟨x,H1,I1,r1,q1⟩=>chain_link (thn (hb pins s1 σ H1 _ I1 q1) fun u s2 ⟨y,H2,I2,r2,q2⟩ =>
    thn (ho pins s2 σ H2 x y v u _ I2 r1 r2 q2) fun d s3 ⟨z,H3,I3,r3,k,e,q3⟩=>?_)) hm
  subst e
  cases r3
  refine wpAny_truthy_bool ?_
  cases k with
  | false=>exact ite_ff ⟨.bl false,H3,I3,rfl,q3⟩
  | true=>exact ite_tt (chain_last (thn (hc pins s3 σ H3 _ I3 q3) fun w' s4 ⟨z',H4,I4,r4,q4⟩=>ho' pins s4 σ H4 y z' u w' Q I4 r2 r4 q4))
theorem pt_chain {op op':CmpOp} {r r':R2} (ho:OpR X (compareOp op) r) (ho':OpR X (compareOp op') r') (ha:PE X a ta) (hb:PE X b tb) (hc:PE X c tc)
    (hm:lastMarks [op,op'] [b,c]=false:=by with_unfolding_all rfl):PT X (.Compare a [op,op'] [b,c] pos) (tTest (tChain r r' ta tb tc)):=by
  intro pins s σ H Q I h
  refine isTrue_chain (thn (ha pins s σ H _ I h) fun v s1 ⟨x,H1,I1,r1,q1⟩=>test_link (thn (hb pins s1 σ H1 _ I1 q1) fun u s2 ⟨y,H2,I2,r2,q2⟩ =>
    thn (ho pins s2 σ H2 x y v u _ I2 r1 r2 q2) fun d s3 ⟨z,H3,I3,r3,k,e,q3⟩=>?_)) hm
  subst e
  cases r3
  refine wpAny_truthy_bool ?_
  cases k with
  | false =>
    obtain ⟨k',e',q'⟩:=q3
    cases e'
    exact ite_ff ⟨H3,I3,q'⟩
  | true =>
    refine ite_tt (test_last (thn (hc pins s3 σ H3 _ I3 q3) fun w' s4 ⟨z',H4,I4,r4,q4⟩=>thn (ho' pins s4 σ H4 y z' u w' _ I4 r2 r4 q4) fun d' s5 ⟨z2,H5,I5,r5,k2,e2,q5⟩=>?_))
    subst e2
    cases r5
    exact wpAny_truthy_bool ⟨H5,I5,q5⟩
def TruV (K:PySem.W.Frag) (x:V) (H:Hp) (k:Bool):Prop :=
  match x with
  | .non=>k=false
  | .bl b=>k=b
  | .int i=>k=(i != 0)
  | .str y=>y.length≤sizeLine∧k=((y.length:Int) != 0)
  | .byt y=>y.size≤sizeLine∧k=((y.size:Int) != 0)
  | .ref p=>(∃ xs,SqL K H p xs∧k=!xs.isEmpty)∨(∃ xs,SqT K H p xs∧k=!xs.isEmpty)∨∃ kvs,H p=some (.dK kvs)∧k=!kvs.isEmpty
  | _=>False
theorem isEmpty_kv {κ:Type} {kvs:List (κ × V)} {vs:List (κ × Value)} (r:KV kvs vs):(!vs.isEmpty)=!kvs.isEmpty:=by
  cases r <;> rfl
theorem isEmpty_of {xs:List V} {its:List Value} (r:Vals xs its):(!its.toArray.isEmpty)=!xs.isEmpty:=by
  cases r <;> simp
theorem line63:(sizeLine:Nat) < 2^63:=by rw [sizeLine_eq]; decide
theorem tru_ok:TruR X (fun x H Q=>∃ k,TruV X.K x H k∧Q k H):=by
  intro pins s σ H x v Q I rx h
  obtain ⟨k,e,q⟩:=h
  have hl:=line63
  have hs:sizeLine=16777216:=sizeLine_eq
  cases x with
  | non =>
    cases rx
    have e':k=false:=e
    subst e'
    exact truthy_none ⟨H,I,q⟩
  | bl b =>
    cases rx
    have e':k=b:=e
    subst e'
    exact wpAny_truthy_bool ⟨H,I,q⟩
  | int i =>
    obtain ⟨t,rfl⟩:=rx
    have e':k=(i != 0):=e
    subst e'
    exact PySem.P.truthy_int ⟨H,I,q⟩
  | str y =>
    obtain ⟨t,rfl⟩:=rx
    obtain ⟨hy,e'⟩:y.length≤sizeLine∧k=((y.length:Int) != 0):=e
    subst e'
    exact PySem.P.truthy_str (by omega) ⟨H,I.tok _,q⟩
  | byt y =>
    obtain ⟨t,rfl⟩:=rx
    obtain ⟨hy,e'⟩:y.size≤sizeLine∧k=((y.size:Int) != 0):=e
    subst e'
    exact PySem.W.truthy_bytes (by omega) ⟨H,I.tok _,q⟩
  | ref p =>
    cases rx
    have e':(∃ xs,SqL X.K H p xs∧k=!xs.isEmpty)∨(∃ xs,SqT X.K H p xs∧k=!xs.isEmpty)∨∃ kvs,H p=some (.dK kvs)∧k=!kvs.isEmpty:=e
    rcases e' with ⟨xs,hx,e'⟩ | ⟨xs,hx,e'⟩ | ⟨kvs,hx,e'⟩
    · subst e'
      obtain ⟨its,r,pl,hz⟩:=I.list hx
      have hlen:=r.length
      exact wpAny_truthy_list pl.isList (by simp only [List.size_toArray]; omega) ⟨H,I.tok _,by rw [isEmpty_of r]; exact q⟩
    · subst e'
      obtain ⟨its,r,pl,hz⟩:=I.tuple hx
      have hlen:=r.length
      exact truthy_tuple pl (by simp only [List.size_toArray]; omega) ⟨H,I.tok _,by rw [isEmpty_of r]; exact q⟩
    · subst e'
      obtain ⟨hz,hS,vs,r,m⟩:kvs.length≤sizeLine∧(p == sysModules)=false∧∃ vs,KV kvs vs∧s.heap.DictOf (mixKind X.prog X.w) p vs:=I.hok p _ hx
      have hlen:kvs.length=vs.length:=Paired.length r
      exact wpAny_truthy_dict hS m (by omega) ⟨H,I.tok _,by rw [isEmpty_kv r]; exact q⟩
  | _=>exact (show False from e).elim
theorem pt_truth (ha:PE X a ta) (he:∀ whole,isTrue a X.env whole=(do let v ← whole; standAt a.pos; holding [v] (truthy v))) :
    PT X a (fun σ H Q=>ta σ H fun x H'=>∃ k,TruV X.K x H' k∧Q k H'):=by
  intro pins s σ H Q I h
  exact isTrue_plain (thn (ha pins s σ H _ I h) fun v s1 ⟨x,H1,I1,r1,q1⟩=>tru_ok pins s1 σ H1 x v Q I1 r1 q1) (he _)
theorem vals1 {x:V} {us:List Value} (r:Vals [x] us):∃ u,us=[u]∧RelV x u:=by
  cases r with
  | cons r1 r2=>cases r2; exact ⟨_,rfl,r1⟩
theorem vals2 {x y:V} {us:List Value} (r:Vals [x,y] us):∃ u w',us=[u,w']∧RelV x u∧RelV y w':=by
  cases r with
  | cons r1 r2 =>
    cases r2 with
    | cons r3 r4=>cases r4; exact ⟨_,_,rfl,r1,r3⟩
theorem call_abs:CallR X (.builtin "abs") (fun xs H Q=>∃ i,xs=[.int i]∧Q (.int (if i < 0 then -i else i)) H):=by
  intro pins s σ H xs us Q I r h
  obtain ⟨i,rfl,q⟩:=h
  obtain ⟨u,rfl,t,rfl⟩:=vals1 r
  exact call_abs_int fun u tk=>⟨.int (if i < 0 then -i else i),H,I.tok _,⟨_,rfl⟩,q⟩
theorem call_max2 (hc:X.calm=true):CallR X (.builtin "max") (fun xs H Q=>∃ i j,xs=[.int i,.int j]∧Q (.int (if j > i then j else i)) H):=by
  intro pins s σ H xs us Q I r h
  obtain ⟨i,j,rfl,q⟩:=h
  obtain ⟨u,w',rfl,⟨t,rfl⟩,⟨t',rfl⟩⟩:=vals2 r
  refine max_two_ints (I.ok.hd hc) fun h' tk k=>⟨_,H,I.kept k,?_,q⟩
  by_cases hj:j > i
  · rw [if_pos hj,if_pos hj]; exact ⟨_,rfl⟩
  · rw [if_neg hj,if_neg hj]; exact ⟨_,rfl⟩
theorem call_min2 (hc:X.calm=true):CallR X (.builtin "min") (fun xs H Q=>∃ i j,xs=[.int i,.int j]∧Q (.int (if j < i then j else i)) H):=by
  intro pins s σ H xs us Q I r h
  obtain ⟨i,j,rfl,q⟩:=h
  obtain ⟨u,w',rfl,⟨t,rfl⟩,⟨t',rfl⟩⟩:=vals2 r
  refine min_two_ints (I.ok.hd hc) fun h' tk k=>⟨_,H,I.kept k,?_,q⟩
  by_cases hj:j < i
  · rw [if_pos hj,if_pos hj]; exact ⟨_,rfl⟩
  · rw [if_neg hj,if_neg hj]; exact ⟨_,rfl⟩
theorem call_int1:CallR X (.type "int") (fun xs H Q=>(∃ i,xs=[.int i]∧Q (.int i) H)∨∃ k,xs=[.bl k]∧Q (.int (if k then 1 else 0)) H):=by
  intro pins s σ H xs us Q I r h
  rcases h with ⟨i,rfl,q⟩ | ⟨k,rfl,q⟩
  · obtain ⟨u,rfl,t,rfl⟩:=vals1 r
    exact call_int_int ⟨.int i,H,I,⟨_,rfl⟩,q⟩
  · obtain ⟨u,rfl,r1⟩:=vals1 r
    cases r1
    exact call_int_bool ⟨.int (if k then 1 else 0),H,I.tok _,⟨_,rfl⟩,q⟩
end
end L2
namespace L2
open PySem PySem.Spec PyProof.Rows
structure ObjM (h:Heap) (x dx C:Addr) (mA:Str→Option Value):Prop where
  obj:h.get? x=some (PySem.W.instObj C dx)
  ns:h.Ns1 dx mA
  ne:dx≠x
theorem lookIn_ns {h:Heap} {dx:Addr} {mA:Str→Option Value} (n:h.Ns1 dx mA):∃ od,h.get? dx=some od∧∀ name,PySem.W.lookIn name od=some (mA name):=by
  obtain ⟨o,es,ep,ho,hd,hk,_,hm⟩:=n
  refine ⟨o,ho,fun name=>?_⟩
  have e:=hm name
  unfold nsFind findBy at e
  rw [← Array.find?_toList] at e
  unfold PySem.W.lookIn
  rw [hd]
  dsimp only
  split
  · rename_i y q
    rw [q] at e
    exact congrArg some e
  · rename_i q
    rw [q] at e
    have a:es.toList.any (·.refKey)=false:=by
      rw [List.any_eq_false]
      intro y hy
      obtain ⟨z,t,hkey⟩:=hk y (Array.mem_toList_iff.mp hy)
      simp [DictEntry.refKey,hkey]
    have a':¬ es.toList.any (·.refKey)=true:=by rw [a]; exact Bool.false_ne_true
    rw [if_neg a']
    exact congrArg some e
theorem ObjM.look {h:Heap} {x dx C:Addr} {mA:Str→Option Value} (I:ObjM h x dx C mA):∃ od,PySem.W.InstAt h x (PySem.W.instObj C dx) C (some od)∧∀ name,PySem.W.lookIn name od=some (mA name) :=
  let ⟨od,ho,hl⟩:=lookIn_ns I.ns
  ⟨od,⟨I.obj,rfl,rfl,ho⟩,hl⟩
section
variable {prog:Program} {w:World} {A:Around} {E:Value→Shared→Prop} {s:Shared} {K:PySem.W.Frag} {x dx C f:Addr} {mA:Str→Option Value} {name:Str} {v:Value}
theorem get_map {expr:Bool} {Q:Value→Shared→Prop} (X:K.In s.heap) (I:ObjM s.heap x dx C mA) (hg:PySem.W.plainGet K C name=true) (hh:PySem.W.hasDictIn K C=true)
    (ha:PySem.W.findIn K (.ref C) name=some none) (hv:mA name=some v) (hv':PySem.W.handedIn v=true) (h:Q v { s with toks:=s.toks+1 }) :
    wpAny (model prog w) A (getAttr (.ref x) name expr) Q E s:=by
  obtain ⟨od,J,hl⟩:=I.look
  exact PySem.W.get_value X J (PySem.W.plainGet_of hg).1 (PySem.W.findObj_own hh ha rfl (by rw [hl,hv])) hv' h
theorem set_map {ns:List Str} {Q:Unit→Shared→Prop} (X:K.In s.heap) (I:ObjM s.heap x dx C mA)
    (hs:PySem.W.findIn K (.ref C) "__setattr__"=some (some (.builtin "object.__setattr__"))) (hp:PySem.W.plainOver K C=true) (ht:PySem.W.takerIn K C name=some none) (hh:PySem.W.hasDictIn K C=true)
    (hw:PySem.Within mA ns) (hsz:ns.length≤sizeLine)
    (h:∀ h',ObjM h' x dx C (fun y=>if y=name then some v else mA y)→Heap.SameBut dx s.heap h'→Q () { s with heap:=h',toks:=s.toks+2 }) :
    wpAny (model prog w) A (setAttr (.ref x) name v) Q E s:=by
  obtain ⟨od,J,hl⟩:=I.look
  refine PySem.W.set_plain X J hs (PySem.W.osa_open (s:={ s with toks:=s.toks+1 }) (r:=none) X J hp ht fun b=>?_)
  obtain ⟨cd,hc,hd'⟩:=PySem.W.any_some hh
  have hx:s.heap.get? x=some ⟨.ref C,some dx,.plain,#[]⟩:=I.obj
  refine wpAny_bind (wpAny_pure (wpAny_bind (wpAny_bind (wpAny_loadPart hx (wpAny_bind (PySem.W.Looks.here (s:={ s with toks:=s.toks+1 }) (PySem.W.looks_clsIn X hc) ?_))))))
  rw [hd']
  refine wpAny_pure (a:=some dx) (wpAny_bind (wpAny_pure (wpAny_bind ?_)))
  refine wpAny_nsSet1 (s:={ s with toks:=s.toks+1 }) I.ns fun h' hn2 hs2=>?_
  obtain ⟨oD,esD,epD,hoD,hdD,hcD⟩:=hn2.count (PySem.Within.cons name v hw)
  refine wpAny_bind (wpAny_lookBehind hoD (by rw [hdD]; exact pastItsLine_dict (Nat.le_trans hcD (by rw [List.length_cons]; omega))) ?_)
  exact wpAny_pure (h _ ⟨(hs2.2 _ (Ne.symm I.ne)).trans I.obj,hn2,I.ne⟩ hs2)
theorem make_map {R:Result→Shared→Prop} {vs:List Value} {kw:List (Str × Value)} (X:K.In s.heap) (hm:PySem.W.makesIn K C=true)
    (hi:PySem.W.findIn K (.ref C) "__init__"=some (some (.ref f))) (hf:PySem.W.typeIn K (.ref f)=some (.type "function"))
    (h:codeAny (model prog w) (A.under (.builtin "type.__call__" ⟨.ref C :: vs,kw⟩)) (.call (.ref f) ⟨.ref (s.heap.objs.size+1) :: vs,kw⟩) (PySem.W.InitBack (s.heap.objs.size+1) R)
      { s with heap:=(s.heap.push PySem.W.emptyDict).push (PySem.W.instObj C s.heap.objs.size) }) :
    codeAny (model prog w) A (.call (.ref C) ⟨vs,kw⟩) R s:=by
  obtain ⟨hh,g,d,t,os⟩:=s
  exact PySem.W.make_core (PySem.W.makes_of X hm) (PySem.W.looks_findIn X hi) (fun self=>PySem.W.bind_fn X self hf) (.inl rfl) h
end
def putF (f:Str) (v:V):List (Str × V)→List (Str × V)
  | []=>[(f,v)]
  | (g,x) :: r=>if g=f then (g,v) :: r else (g,x) :: putF f v r
theorem lookup_putF (f g:Str) (v:V):∀ fs:List (Str × V),(putF f v fs).lookup g=if g=f then some v else fs.lookup g
  | []=>by
    show List.lookup g [(f,v)]=_
    by_cases h:g=f
    · have hb:(g == f)=true:=beq_iff_eq.mpr h
      simp only [List.lookup,hb,if_pos h]
    · have hb:(g == f)=false:=beq_eq_false_iff_ne.mpr h
      simp only [List.lookup,hb,if_neg h]
  | (k,x) :: r=>by
    have ih:=lookup_putF f g v r
    rw [show putF f v ((k,x) :: r)=(if k=f then (k,v) :: r else (k,x) :: putF f v r) from rfl]
    by_cases hk:k=f
    · rw [if_pos hk]
      by_cases h:g=k
      · have hb:(g == k)=true:=beq_iff_eq.mpr h
        simp only [List.lookup,hb,if_pos (h.trans hk)]
      · have hb:(g == k)=false:=beq_eq_false_iff_ne.mpr h
        simp only [List.lookup,hb,if_neg (fun e:g=f=>h (e.trans hk.symm))]
    · rw [if_neg hk]
      by_cases h:g=k
      · have hb:(g == k)=true:=beq_iff_eq.mpr h
        simp only [List.lookup,hb,if_neg (fun e:g=f=>hk (h.symm.trans e))]
      · have hb:(g == k)=false:=beq_eq_false_iff_ne.mpr h
        simp only [List.lookup,hb]
        exact ih
theorem keys_putF (f:Str) (v:V):∀ fs:List (Str × V),f∈(putF f v fs).map (·.1)∧∀ g,g∈fs.map (·.1)→g∈(putF f v fs).map (·.1)
  | []=>⟨by simp [putF],fun g h=>by simp at h⟩
  | (k,x) :: r=>by
    obtain ⟨i1,i2⟩:=keys_putF f v r
    rw [show putF f v ((k,x) :: r)=(if k=f then (k,v) :: r else (k,x) :: putF f v r) from rfl]
    by_cases hk:k=f
    · rw [if_pos hk]
      subst hk
      exact ⟨by simp,fun g h=>by simpa using h⟩
    · rw [if_neg hk]
      refine ⟨?_,fun g h=>?_⟩
      · rw [List.map_cons]
        exact List.mem_cons_of_mem _ i1
      · rw [List.map_cons] at h ⊢
        rcases List.mem_cons.mp h with e | e
        · exact List.mem_cons.mpr (.inl e)
        · exact List.mem_cons_of_mem _ (i2 g e)
theorem length_putF (f:Str) (v:V):∀ fs:List (Str × V),(putF f v fs).length≤fs.length+1
  | []=>by simp [putF]
  | (k,x) :: r=>by
    have ih:=length_putF f v r
    rw [show putF f v ((k,x) :: r)=(if k=f then (k,v) :: r else (k,x) :: putF f v r) from rfl]
    by_cases hk:k=f
    · rw [if_pos hk,List.length_cons,List.length_cons]; omega
    · rw [if_neg hk,List.length_cons,List.length_cons]; omega
theorem RelO.some_of {v:V} {o:Option Value} (r:RelO (some v) o):∃ u,o=some u∧RelV v u:=by
  cases o with
  | none=>exact (show False from r).elim
  | some u=>exact ⟨u,rfl,r⟩
theorem handed_of {v:V} {u:Value} (r:RelV v u):PySem.W.handedIn u=true:=by
  cases v with
  | non=>cases (show u=Value.none from r); rfl
  | bl b=>cases (show u=Value.bool b from r); rfl
  | int i=>obtain ⟨t,e⟩:=(show ∃ t,u=Value.int i t from r); cases e; rfl
  | str x=>obtain ⟨t,e⟩:=(show ∃ t,u=Value.str x t from r); cases e; rfl
  | byt b=>obtain ⟨t,e⟩:=(show ∃ t,u=Value.bytes b t from r); cases e; rfl
  | flt b=>obtain ⟨t,e⟩:=(show ∃ t,u=Value.float b t from r); cases e; rfl
  | ref a=>cases (show u=Value.ref a from r); rfl
  | ty n=>cases (show u=Value.type n from r); rfl
section
variable {P:Program} {w:World} {H H':Hp} {h h':Heap} {a C dx:Addr} {fs fs':List (Str × V)}
theorem ins_get (hok:HOk P w H h) (e:H a=some (.ins C dx fs)):∃ mA,ObjM h a dx C mA∧(∀ f,RelO (fs.lookup f) (mA f))∧PySem.Within mA (fs.map (·.1))∧fs.length≤1000∧H dx=some (.own a):=by
  obtain ⟨d,z,ne,ob,mA,n,r,q⟩:=(show ObjOk P w H h a (.ins C dx fs) from hok a _ e)
  exact ⟨mA,⟨ob,n,ne⟩,r,q,z,d⟩
end
structure Cls (K:PySem.W.Frag) (C:Addr):Prop where
  pg:PySem.W.plainGet K C Str.empty=true
  hd:PySem.W.hasDictIn K C=true
  po:PySem.W.plainOver K C=true
  sa:PySem.W.findIn K (.ref C) "__setattr__"=some (some (.builtin "object.__setattr__"))
theorem Cls.get {K:PySem.W.Frag} {C:Addr} (c:Cls K C) (f:Str):PySem.W.plainGet K C f=true:=c.pg
def NoAttr (K:PySem.W.Frag) (C:Addr) (f:Str):Prop:=PySem.W.findIn K (.ref C) f=some none
theorem NoAttr.taker {K:PySem.W.Frag} {C:Addr} {f:Str} (n:NoAttr K C f):PySem.W.takerIn K C f=some none:=by
  unfold PySem.W.takerIn
  rw [show PySem.W.findIn K (.ref C) f=some none from n]
  rfl
section
variable {X:Cx} {pins:List (Addr × Obj)} {σ:St} {H:Hp} {s:Shared} {a C dx:Addr} {fs:List (Str × V)} {f:Str} {v:V} {A:Around} {E:Value→Shared→Prop}
theorem getattr_ok {b:Bool} {Q:Value→Shared→Prop} (I:Inv X pins σ H s) (e:H a=some (.ins C dx fs)) (c:Cls X.K C) (n:NoAttr X.K C f) (l:fs.lookup f=some v)
    (h:∀ u s',Inv X pins σ H s'→RelV v u→Q u s'):wpAny (model X.prog X.w) A (getAttr (.ref a) f b) Q E s:=by
  obtain ⟨mA,O,r,_,_,_⟩:=ins_get I.hok e
  obtain ⟨u,hu,ru⟩:=RelO.some_of (v:=v) (o:=mA f) (by rw [← l]; exact r f)
  exact get_map I.kIn O (c.get f) c.hd n hu (handed_of ru) (h u _ (I.tok _) ru)
theorem setattr_ok {y:V} {u:Value} {Q:Unit→Shared→Prop} (I:Inv X pins σ H s) (e:H a=some (.ins C dx fs)) (c:Cls X.K C) (n:NoAttr X.K C f) (hl:fs.length < 1000) (ry:RelV y u)
    (h:∀ s',Inv X pins σ (upd H a (.ins C dx (putF f y fs))) s'→Q () s'):wpAny (model X.prog X.w) A (setAttr (.ref a) f u) Q E s:=by
  obtain ⟨mA,O,r,wi,_,ho⟩:=ins_get I.hok e
  have hz:(fs.map (·.1)).length≤sizeLine:=by rw [List.length_map,sizeLine_eq]; omega
  refine set_map I.kIn O c.sa c.po n.taker c.hd wi hz fun h' O' sb=>h _ ?_
  have hd:∃ o,h'.get? dx=some o:=let ⟨o,_,_,e',_⟩:=O'.ns; ⟨o,e'⟩
  refine I.write (x:=a) (e:=dx) (by rw [e]; exact True.intro) (.inr ho) (fun b q hb z=>(sb.2 b hb).trans z) hd ?_
  refine ⟨by rw [upd_ne O.ne]; exact ho,?_,O.ne,O'.obj,_,O'.ns,fun g=>?_,fun g hg=>?_⟩
  · have:=length_putF f y fs; omega
  · show RelO ((putF f y fs).lookup g) (if g=f then some u else mA g)
    rw [lookup_putF]
    by_cases q:g=f
    · rw [if_pos q,if_pos q]; exact ry
    · rw [if_neg q,if_neg q]; exact r g
  · by_cases q:g=f
    · rw [q]; exact (keys_putF f y fs).1
    · refine (keys_putF f y fs).2 g (wi g fun z=>hg ?_)
      show (if g=f then some u else mA g)=none
      rw [if_neg q]; exact z
theorem Inv.made (I:Inv X pins σ H s):Inv X pins σ (upd (upd H s.heap.objs.size (.own (s.heap.objs.size+1))) (s.heap.objs.size+1) (.ins C s.heap.objs.size []))
    { s with heap:=(s.heap.push PySem.W.emptyDict).push (PySem.W.instObj C s.heap.objs.size) }:=by
  have e1:(s.heap.push PySem.W.emptyDict).get? s.heap.objs.size=some PySem.W.emptyDict:=Heap.get?_push_size s.heap rfl
  have e2:((s.heap.push PySem.W.emptyDict).push (PySem.W.instObj C s.heap.objs.size)).get? (s.heap.objs.size+1)=some (PySem.W.instObj C s.heap.objs.size):=by
    have:=Heap.get?_push_size (s.heap.push PySem.W.emptyDict) (o:=PySem.W.instObj C s.heap.objs.size) rfl
    rwa [Heap.size_push] at this
  have e3:(s.heap.push PySem.W.emptyDict).Ns s.heap.objs.size (fun _=>none):=⟨PySem.W.emptyDict,#[],_,e1,rfl,(fun e he=>absurd he (by simp)),fun _=>rfl⟩
  have I1:=I.laid (a:=s.heap.objs.size) (o:=.own (s.heap.objs.size+1)) (h':=s.heap.push PySem.W.emptyDict) (t':=s.toks) (fun b u q=>Heap.get?_push_of_some _ q) (Nat.le_refl _) ⟨_,e1⟩
  refine I1.laid (a:=s.heap.objs.size+1) (o:=.ins C s.heap.objs.size []) (t':=s.toks) (fun b u q=>Heap.get?_push_of_some _ q) (Nat.le_of_eq (Heap.size_push _ _)) ?_
  have ne:s.heap.objs.size≠s.heap.objs.size+1:=Nat.ne_of_lt (Nat.lt_succ_self _)
  refine ⟨by rw [upd_ne ne,upd_same],Nat.zero_le _,ne,e2,fun _=>none,(Heap.Ns1.of_empty e3).at fun o q=>Heap.get?_push_of_some _ q,fun _=>True.intro,fun y hy=>absurd rfl hy⟩
theorem attr_of {prog:Program} {w:World} {env:Env} {e:Expr} {f:Str} {pos:Pos} {s:Shared} {Q:Value→Shared→Prop} (hb:attributeBase e f env (eval e env)=eval e env)
    (h:wpAny (model prog w) A (eval e env) (fun o s₁=>wpAny (model prog w) A (getAttr o f true) Q E s₁) E s):wpAny (model prog w) A (eval (.Attribute e f pos) env) Q E s :=
  Attribute_any_ h (by rw [arm_eval_Attribute,hb])
end
def tFld (K:PySem.W.Frag) (ta:TE) (f:Str):TE:=fun σ H Q=>ta σ H fun x H1=>∃ a C dx fs v,x=.ref a∧H1 a=some (.ins C dx fs)∧Cls K C∧NoAttr K C f∧fs.lookup f=some v∧Q v H1
def sFld (K:PySem.W.Frag) (ta tv:TE) (f:Str):TS:=fun D σ H=>tv σ H fun y H1=>ta σ H1 fun x H2=>∃ a C dx fs,x=.ref a∧H2 a=some (.ins C dx fs)∧Cls K C∧NoAttr K C f∧fs.length < 1000 ∧
  D.nx σ (upd H2 a (.ins C dx (putF f y fs)))
section
variable {X:Cx} {o e value:Expr} {f:Str} {pos pos' tpos:Pos} {ta tv:TE}
theorem pe_fld (he:PE X e ta) (hb:attributeBase e f X.env (eval e X.env)=eval e X.env):PE X (.Attribute e f pos) (tFld X.K ta f):=by
  intro pins s σ H Q I h
  refine attr_of hb (thn (he pins s σ H _ I h) fun u s1 ⟨x,H1,I1,rx,a,C,dx,fs,v,ex,ea,c,n,l,q⟩=>?_)
  subst ex
  obtain rfl:u=Value.ref a:=rx
  exact getattr_ok I1 ea c n l fun u' s2 I2 ru=>⟨v,H1,I2,ru,q⟩
theorem ps_fld (ha:PE X o ta) (hv:PE X value tv) (hs:swapsWith value (some (.Attribute o f pos')) pos.line X.env=pure false):PS X (.Assign [.Attribute o f pos'] value pos) (sFld X.K ta tv f):=by
  intro pins s σ H D I h
  refine plainObj_wpAny_Assign_Attribute (thn (hv pins s σ H _ I h) fun u s1 ⟨y,H1,I1,ry,q⟩=>thn (ha pins s1 σ H1 _ I1 q) fun ov s2 ⟨x,H2,I2,rx,a,C,dx,fs,ex,ea,c,n,l,q2⟩=>?_) hs
  subst ex
  obtain rfl:ov=Value.ref a:=rx
  exact setattr_ok I2 ea c n l ry fun s3 I3=>⟨σ,_,I3,q2⟩
end
section
variable {X:Cx} {pins:List (Addr × Obj)} {σ:St} {H:Hp} {s:Shared} {A:Around} {E:Value→Shared→Prop} {Q:Value→Shared→Prop} {c:Value} {b:Bool}
inductive TyOf (K:PySem.W.Frag) (H:Hp):V→Value→Prop where
  | non:TyOf K H .non (.type "NoneType")
  | bl (x:Bool):TyOf K H (.bl x) (.type "bool")
  | int (i:Int):TyOf K H (.int i) (.type "int")
  | str (x:Str):TyOf K H (.str x) (.type "str")
  | flt (x:UInt64):TyOf K H (.flt x) (.type "float")
  | lst {a:Addr} {xs:List V} (e:H a=some (.lst xs)):TyOf K H (.ref a) (.type "list")
  | frz {a:Addr} {o:Obj} {xs:List V} (e:H a=some (.frz o (.lst xs))):TyOf K H (.ref a) (.type "list")
  | tup {a:Addr} {xs:List V} (e:H a=some (.tup xs)):TyOf K H (.ref a) (.type "tuple")
  | dK {a:Addr} {kvs:List (Key × V)} (e:H a=some (.dK kvs)):TyOf K H (.ref a) (.type "dict")
  | dT {a:Addr} {kvs:List (List Key × V)} (e:H a=some (.dT kvs)):TyOf K H (.ref a) (.type "dict")
  | ins {a C dx:Addr} {fs:List (Str × V)} (e:H a=some (.ins C dx fs)) (cl:Cls K C) (ha:PySem.W.findIn K (.ref C) "__class__"=some (some (.builtin "object.__class__")))
      (hn:PySem.W.specialIn K (.builtin "object.__class__") "__get__"=some (some (.builtin "getset_descriptor.__get__"))) (htk:PySem.W.takesIn K (.builtin "object.__class__")=some true)
      (hm:PySem.W.mroIn K C (.type "object")=some true):TyOf K H (.ref a) (.ref C)
theorem isinst_ok {x:V} {u t:Value} (I:Inv X pins σ H s) (rx:RelV x u) (ty:TyOf X.K H x t) (e:PySem.W.kitOne X.K t c=some b) (h:∀ tk,Q (.bool b) { s with toks:=tk }) :
    wpAny (model X.prog X.w) A (call (.builtin "isinstance") [u,c]) Q E s:=by
  cases ty with
  | non=>cases (show u=Value.none from rx); exact PySem.W.kia_one PySem.W.kitx_none I.kIn True.intro e (fun z=>nomatch z) h
  | bl y=>cases (show u=Value.bool y from rx); exact PySem.W.kia_one PySem.W.kitx_bool I.kIn True.intro e (fun z=>nomatch z) h
  | int i=>obtain ⟨t,q⟩:=(show ∃ t,u=Value.int i t from rx); cases q; exact PySem.W.kia_one PySem.W.kitx_int I.kIn True.intro e (fun z=>nomatch z) h
  | str y=>obtain ⟨t,q⟩:=(show ∃ t,u=Value.str y t from rx); cases q; exact PySem.W.kia_one PySem.W.kitx_str I.kIn True.intro e (fun z=>nomatch z) h
  | flt y=>obtain ⟨t,q⟩:=(show ∃ t,u=Value.float y t from rx); cases q; exact PySem.W.kia_one PySem.W.kitx_float I.kIn True.intro e (fun z=>nomatch z) h
  | @lst a xs ea =>
    cases (show u=Value.ref a from rx)
    obtain ⟨_,_,n,_,h1⟩:=(show ObjOk X.prog X.w H s.heap a (.lst xs) from I.hok a _ ea)
    exact PySem.W.kia_one PySem.W.kitx_list I.kIn ⟨_,h1,rfl⟩ e (fun z=>nomatch z) h
  | @frz a ob xs ea =>
    cases (show u=Value.ref a from rx)
    obtain ⟨_,_,_,n,_,h1⟩:=(show ObjOk X.prog X.w H s.heap a (.frz ob (.lst xs)) from I.hok a _ ea)
    exact PySem.W.kia_one PySem.W.kitx_list I.kIn ⟨_,h1,rfl⟩ e (fun z=>nomatch z) h
  | @tup a xs ea =>
    cases (show u=Value.ref a from rx)
    obtain ⟨_,_,_,p⟩:=(show ObjOk X.prog X.w H s.heap a (.tup xs) from I.hok a _ ea)
    obtain ⟨o,h1,h2,_⟩:=p
    exact PySem.W.kia_one PySem.W.kitx_tuple I.kIn ⟨o,h1,h2⟩ e (fun z=>nomatch z) h
  | @dK a kvs ea =>
    cases (show u=Value.ref a from rx)
    obtain ⟨_,_,vs,_,p⟩:=(show ObjOk X.prog X.w H s.heap a (.dK kvs) from I.hok a _ ea)
    obtain ⟨o,es,ep,h1,h2,_⟩:=p
    exact PySem.W.kia_one PySem.W.kitx_dict I.kIn ⟨o,h1,h2.1⟩ e (fun z=>nomatch z) h
  | @dT a kvs ea =>
    cases (show u=Value.ref a from rx)
    obtain ⟨_,_,xs,_,o,es,ep,h1,h2,_⟩:=(show ObjOk X.prog X.w H s.heap a (.dT kvs) from I.hok a _ ea)
    exact PySem.W.kia_one PySem.W.kitx_dict I.kIn ⟨o,h1,h2.1⟩ e (fun z=>nomatch z) h
  | @ins a C dx fs ea cl ha hn htk hm =>
    cases (show u=Value.ref a from rx)
    obtain ⟨mA,O,_⟩:=ins_get I.hok ea
    obtain ⟨od,J,_⟩:=O.look
    exact PySem.W.kia_one (PySem.W.kitx_own (cl.get _) cl.hd ha hn htk hm) I.kIn J e (fun z=>nomatch z) h
end
end L2
namespace L2
open PySem PySem.Spec PyProof.Rows
structure Room (k:Nat) (A:Around):Prop where
  hd:A.handled=none
  dp:A.depth+3 * k+5 < recursionLimit
  un:A.units+16 * k+200 < cLine
theorem Room.mono {j k:Nat} {A:Around} (r:Room k A) (h:j≤k):Room j A:=⟨r.hd,by have:=r.dp; omega,by have:=r.un; omega⟩
theorem Room.deeper {k:Nat} {A:Around} (r:Room (k+1) A) (env:Env):Room k (A.deeper env) :=
  ⟨r.hd,by have:=r.dp; show A.depth+1+3 * k+5 < _; omega,by have:=r.un; show A.units+3+16 * k+200 < _; omega⟩
theorem make_depth {A:Around} {C:Addr} {us:List Value} {kw:List (Str × Value)}:(A.under (.builtin "type.__call__" ⟨.ref C :: us,kw⟩)).depth=A.depth+1:=by
  first | rfl | simp [Around.under,Code.weight,Code.isCreation,Code.isGuard,Code.isCaller,Code.frames,Code.isFrame,guardIds]
theorem make_units {A:Around} {C:Addr} {us:List Value} {kw:List (Str × Value)}:(A.under (.builtin "type.__call__" ⟨.ref C :: us,kw⟩)).units=A.units+1:=by
  first | rfl | simp [Around.under,Code.cUnits,Code.frames,Code.isFrame]
theorem Room.make {k:Nat} {A:Around} (r:Room (k+1) A) (C:Addr) (us:List Value) (kw:List (Str × Value)):Room k (A.under (.builtin "type.__call__" ⟨.ref C :: us,kw⟩)) :=
  ⟨r.hd,by have:=r.dp; rw [make_depth]; omega,by have:=r.un; rw [make_units]; omega⟩
theorem Room.depth {k:Nat} {A:Around} (r:Room k A):A.depth < recursionLimit:=by have:=r.dp; omega
theorem Room.units {k:Nat} {A:Around} (r:Room k A):A.units+64 < cLine:=by have:=r.un; omega
def tNil:TA:=fun _ H Q=>Q [] H
def tCons (ta:TE) (tr:TA):TA:=fun σ H Q=>ta σ H fun x H1=>tr σ H1 fun xs H2=>Q (x :: xs) H2
section
variable {X:Cx} {e:Expr} {es:List Expr} {te:TE} {t:TA} {pos:Pos}
theorem pa_nil:PA X [] tNil:=fun _ _ _ _ H Q I h=>Calls.spliced_nil ⟨[],H,I,.nil,h⟩
theorem pa_cons (ha:PE X e te) (hr:PA X es t) (hs:starEach (e :: es) X.env=(false,eval e X.env) :: starEach es X.env:=by rfl):PA X (e :: es) (tCons te t):=by
  intro pos pins s σ H Q I h
  rw [hs]
  show wpAny _ _ (spliced ((false,eval e X.env) :: backTo pos (starEach es X.env))) _ _ s
  refine Calls.spliced_cons (thn (ha pins s σ H _ I h) fun u s1 ⟨x,H1,I1,r1,q1⟩=>?_)
  exact thn (hr pos pins s1 σ H1 _ I1 q1) fun us s2 ⟨xs,H2,I2,r2,q2⟩=>⟨x :: xs,H2,I2,.cons r1 r2,q2⟩
def tTup (t:TA):TE:=fun σ H Q=>t σ H fun xs H1=>xs.length≤sizeLine∧∀ p,H1 p=none→Q (.ref p) (upd H1 p (.tup xs))
def tLst (t:TA):TE:=fun σ H Q=>t σ H fun xs H1=>xs.length≤sizeLine∧∀ p,H1 p=none→Q (.ref p) (upd H1 p (.lst xs))
theorem pe_tup {x1} (h:PA X es t):PE X (.Tuple es x1 pos) (tTup t):=by
  intro pins s σ H Q I hq
  refine wpAny_Tuple_spliced (thn (h pos pins s σ H _ I hq) fun us s1 ⟨xs,H1,I1,r,z,q⟩=>⟨by rw [← r.length]; exact z,?_⟩)
  have hf:H1 s1.heap.objs.size=none:=I1.hok.fresh (Nat.le_refl _)
  refine ⟨.ref s1.heap.objs.size,upd H1 s1.heap.objs.size (.tup xs),I1.laid (t':=s1.toks) (fun b u e=>Heap.get?_push_of_some _ e) (Nat.le_refl _) ?_,rfl,q _ hf⟩
  exact ⟨z,us,r,⟨_,Heap.get?_push_size _ rfl,rfl,_,rfl⟩⟩
theorem pe_lst (h:PA X es t):PE X (.List es pos) (tLst t):=by
  intro pins s σ H Q I hq
  refine wpAny_List_spliced (thn (h pos pins s σ H _ I hq) fun us s1 ⟨xs,H1,I1,r,z,q⟩=>⟨by rw [← r.length]; exact z,?_⟩)
  have hf:H1 s1.heap.objs.size=none:=I1.hok.fresh (Nat.le_refl _)
  refine ⟨.ref s1.heap.objs.size,upd H1 s1.heap.objs.size (.lst xs),I1.laid (t':=s1.toks) (fun b u e=>Heap.get?_push_of_some _ e) (Nat.le_refl _) ?_,rfl,q _ hf⟩
  exact ⟨z,us,0,r,Heap.get?_push_size _ rfl⟩
end
abbrev Sp:=List V→Hp→VK→XK→Prop
abbrev CXT:=List Env→Hp→Shared→XK→Value→Shared→Prop
structure Env0 (P:Program) (w:World) (K:PySem.W.Frag) (mg:Str→Option Value) (base:Heap) (A:Around) (outer:List Env) (s:Shared) (H:Hp):Prop where
  frames:A.frames=some outer
  mod:Mod K mg base
  bs:∀ b o,base.get? b=some o→s.heap.get? b=some o∧H b=none
  bsz:base.objs.size≤s.heap.objs.size
  funs:s.heap.FunFrames base outer
  frf:∀ b∈frs outer,H b=none
  hok:HOk P w H s.heap
  bare:AllBare s.gens
def CE (outer:List Env) (P:Program) (w:World) (H:Hp) (s:Shared) (Q:VK) (u:Value) (s':Shared):Prop :=
  ∃ v H',s'.os=s.os∧AllBare s'.gens∧Un (frs outer) [] H H' s.heap s'.heap∧HOk P w H' s'.heap∧RelV v u∧Q v H'
def CR (CX:CXT) (outer:List Env) (P:Program) (w:World) (H:Hp) (s:Shared) (Q:VK) (E:XK) (r:Result) (s':Shared):Prop :=
  match r with
  | .ok (.ret u)=>CE outer P w H s Q u s'
  | .ok _=>False
  | .error e=>CX outer H s E e s'
structure FnOk (P:Program) (w:World) (K:PySem.W.Frag) (mg:Str→Option Value) (base:Heap) (CX:CXT) (k:Nat) (f:Addr) (fd:FuncData) (ps:List Str) (sp:Sp):Prop where
  len:∀ vs H Q E,sp vs H Q E→vs.length=ps.length
  run:∀ (A:Around) (outer:List Env) (s:Shared) (H:Hp) (args:Args) (us:List Value) (vs:List V) (Q:VK) (E:XK),Room k A→Env0 P w K mg base A outer s H→BindsTo s fd args (ps.zip us)→Vals vs us→sp vs H Q E →
    codeAny (model P w) A (.call (.ref f) args) (CR CX outer P w H s Q E) s
theorem Env0.make {P:Program} {w:World} {K:PySem.W.Frag} {mg:Str→Option Value} {base:Heap} {A:Around} {outer:List Env} {s:Shared} {H:Hp} (e:Env0 P w K mg base A outer s H) (C:Addr) (us:List Value) (kw:List (Str × Value)) :
    Env0 P w K mg base (A.under (.builtin "type.__call__" ⟨.ref C :: us,kw⟩)) outer s H:=⟨by first | exact e.frames | (simpa [Around.under,Code.envs,Code.isFrame,pushEnvs] using e.frames),e.mod,e.bs,e.bsz,e.funs,e.frf,e.hok,e.bare⟩
section
variable {X:Cx} {pins:List (Addr × Obj)} {σ:St} {H:Hp} {s s':Shared}
theorem Inv.env0 (I:Inv X pins σ H s):Env0 X.prog X.w X.K X.mg X.base X.A X.stack s H :=
  ⟨I.ok.frames,I.ok.mod,I.bs,Nat.le_trans I.ok.bsz I.sz,I.stack,I.stkFree,I.hok,I.bare⟩
theorem Inv.after {Q:VK} {u:Value} (I:Inv X pins σ H s) (h:CE X.stack X.prog X.w H s Q u s'):EP X pins σ Q u s':=by
  obtain ⟨v,H',os,bare,un,hok,r,q⟩:=h
  obtain ⟨hh,g,d,t,os'⟩:=s'
  obtain rfl:os'=s.os:=os
  exact ⟨v,H',I.call (h':=hh) (g':=g) (d':=d) (t':=t) (ch:=[]) un hok bare (fun b z=>absurd z (by simp)),r,q⟩
end
def tCall (sp:Sp) (dvs:List V) (E:XK) (t:TA):TE:=fun σ H Q=>t σ H fun vs H1=>sp (vs++dvs) H1 Q E
def tMake (C:Addr) (sp:Sp) (dvs:List V) (E:XK) (t:TA):TE:=fun σ H Q=>t σ H fun vs H1=>∀ x dx,H1 x=none→H1 dx=none→dx≠x →
  sp (.ref x :: (vs++dvs)) (upd (upd H1 dx (.own x)) x (.ins C dx [])) (fun v H2=>v=.non∧Q (.ref x) H2) E
def Binds (K:PySem.W.Frag) (fd:FuncData) (ps:List Str) (ds:List Value):Prop :=
  ∀ (s:Shared) (us:List Value),K.In s.heap→(us++ds).length=ps.length→BindsTo s fd ⟨us,[]⟩ (ps.zip (us++ds))
theorem Binds.all {K:PySem.W.Frag} {fd:FuncData} {ps:List Str} (h:∀ us:List Value,us.length=ps.length→bindArgs fd ⟨us,[]⟩=pure (ps.zip us)):Binds K fd ps []:=fun s us _ hl=>by
  rw [List.append_nil] at hl ⊢
  exact .of_eq (h us hl)
def Passes (CX:CXT) (X:Cx) (E:XK):Prop:=∀ (pins:List (Addr × Obj)) (σ:St) (H:Hp) (s:Shared) (e:Value) (s':Shared),Inv X pins σ H s→CX X.stack H s E e s'→X.xe e s'
section
variable {X:Cx} {CX:CXT} {k:Nat} {f C:Addr} {fd:FuncData} {ps:List Str} {sp:Sp} {dvs:List V} {ds:List Value} {E:XK} {x m:Str} {p pos apos:Pos} {e o:Expr} {es:List Expr} {ta:TE} {t:TA}
theorem run_fn {pins:List (Addr × Obj)} {σ:St} {H:Hp} {s:Shared} {Q:VK} {us:List Value} {vs:List V} (F:FnOk X.prog X.w X.K X.mg X.base CX k f fd ps sp) (hr:Room k X.A) (hb:Binds X.K fd ps ds) (hd:Vals dvs ds) (hx:Passes CX X E)
    (I:Inv X pins σ H s) (r:Vals vs us) (h:sp (vs++dvs) H Q E):wpAny (model X.prog X.w) X.A (call (.ref f) us) (EP X pins σ Q) X.xe s:=by
  have r2:Vals (vs++dvs) (us++ds):=r.append hd
  have hl:(us++ds).length=ps.length:=by rw [← r2.length]; exact F.len _ _ _ _ h
  refine wpAny_call (codeAny_mono (F.run X.A X.stack s H ⟨us,[]⟩ (us++ds) (vs++dvs) Q E hr I.env0 (hb s us I.kIn hl) r2 h) fun r s' hq=>?_)
  cases r with
  | error e=>exact hx pins σ H s e s' I hq
  | ok fl =>
    cases fl with
    | ret u=>exact I.after hq
    | next=>exact False.elim hq
    | brk=>exact False.elim hq
    | cont=>exact False.elim hq
theorem pe_call (F:FnOk X.prog X.w X.K X.mg X.base CX k f fd ps sp) (hr:Room k X.A) (hg:Gl X x) (hm:X.mg x=some (.ref f)) (hk:PySem.W.keepIn X.K (.ref f)=true) (hb:Binds X.K fd ps ds) (hd:Vals dvs ds) (hx:Passes CX X E)
    (ha:PA X (e :: es) t) (hdb:(x == ("__debug__":Str))=false:=by decide) (he:starEach (e :: es) X.env=(false,eval e X.env) :: starEach es X.env:=by rfl) (hpl:(backTo pos (starEach es X.env)).any (·.1)=false:=by rfl) :
    PE X (.Call (.Name x p) (e :: es) [] pos) (tCall sp dvs E t):=by
  intro pins s σ H Q I h
  refine wpAny_Call_Name_kw (ld_glob I hg hm ?_ hdb)
  refine PySem.W.callWith_K (h₀:=X.base) I.ok.mod.kin hk (thn (ha pos pins s σ H _ I h) fun us s1 ⟨vs,H1,I1,r,q⟩=>⟨I1.kIn,?_⟩) he hpl
  exact run_fn F hr hb hd hx I1 r q
structure Mk (K:PySem.W.Frag) (C f:Addr):Prop where
  makes:PySem.W.makesIn K C=true
  init:PySem.W.findIn K (.ref C) "__init__"=some (some (.ref f))
  fn:PySem.W.isFn K (.ref f)=true
  kp:PySem.W.keepIn K (.ref C)=true
theorem run_make {pins:List (Addr × Obj)} {σ:St} {H:Hp} {s:Shared} {Q:VK} {us:List Value} {vs:List V} (M:Mk X.K C f) (F:FnOk X.prog X.w X.K X.mg X.base CX k f fd ps sp) (hr:Room (k+1) X.A) (hb:Binds X.K fd ps ds) (hd:Vals dvs ds)
    (hx:Passes CX X E) (I:Inv X pins σ H s) (r:Vals vs us)
    (h:∀ x dx,H x=none→H dx=none→dx≠x→sp (.ref x :: (vs++dvs)) (upd (upd H dx (.own x)) x (.ins C dx [])) (fun v H2=>v=.non∧Q (.ref x) H2) E) :
    wpAny (model X.prog X.w) X.A (call (.ref C) us) (EP X pins σ Q) X.xe s:=by
  have hq:=h (s.heap.objs.size+1) s.heap.objs.size (I.hok.fresh (Nat.le_succ _)) (I.hok.fresh (Nat.le_refl _)) (Nat.ne_of_lt (Nat.lt_succ_self _))
  have I2:=Inv.made (C:=C) I
  have r2:Vals (V.ref (s.heap.objs.size+1) :: (vs++dvs)) (Value.ref (s.heap.objs.size+1) :: (us++ds)):=.cons rfl (r.append hd)
  have hl:(Value.ref (s.heap.objs.size+1) :: us++ds).length=ps.length:=by
    have e:=r2.length
    rw [F.len _ _ _ _ hq] at e
    exact e.symm
  refine wpAny_call (make_map (f:=f) I.kIn M.makes M.init (beq_iff_eq.mp M.fn) (codeAny_mono (F.run _ X.stack _ _ ⟨Value.ref (s.heap.objs.size+1) :: us,[]⟩ (Value.ref (s.heap.objs.size+1) :: (us++ds)) _ _ E (hr.make C us [])
    (I2.env0.make C us []) (hb _ (Value.ref (s.heap.objs.size+1) :: us) I2.kIn hl) r2 hq) fun r s' hq'=>?_))
  cases r with
  | error e=>exact hx pins σ _ _ e s' I2 hq'
  | ok fl =>
    cases fl with
    | ret u =>
      obtain ⟨v,H',I3,rv,ev,q3⟩:=I2.after hq'
      subst ev
      exact ⟨rv,⟨V.ref (s.heap.objs.size+1),H',I3,rfl,q3⟩⟩
    | next=>exact False.elim hq'
    | brk=>exact False.elim hq'
    | cont=>exact False.elim hq'
theorem pe_make (M:Mk X.K C f) (F:FnOk X.prog X.w X.K X.mg X.base CX k f fd ps sp) (hr:Room (k+1) X.A) (hg:Gl X x) (hm:X.mg x=some (.ref C)) (hb:Binds X.K fd ps ds) (hd:Vals dvs ds) (hx:Passes CX X E)
    (ha:PA X (e :: es) t) (hdb:(x == ("__debug__":Str))=false:=by decide) (he:starEach (e :: es) X.env=(false,eval e X.env) :: starEach es X.env:=by rfl) (hpl:(backTo pos (starEach es X.env)).any (·.1)=false:=by rfl) :
    PE X (.Call (.Name x p) (e :: es) [] pos) (tMake C sp dvs E t):=by
  intro pins s σ H Q I h
  refine wpAny_Call_Name_kw (ld_glob I hg hm ?_ hdb)
  refine PySem.W.callWith_K (h₀:=X.base) I.ok.mod.kin M.kp (thn (ha pos pins s σ H _ I h) fun us s1 ⟨vs,H1,I1,r,q⟩=>⟨I1.kIn,?_⟩) he hpl
  exact run_make M F hr hb hd hx I1 r q
theorem pe_make0 (M:Mk X.K C f) (F:FnOk X.prog X.w X.K X.mg X.base CX k f fd ps sp) (hr:Room (k+1) X.A) (hg:Gl X x) (hm:X.mg x=some (.ref C)) (hb:Binds X.K fd ps ds) (hd:Vals dvs ds) (hx:Passes CX X E)
    (hdb:(x == ("__debug__":Str))=false:=by decide):PE X (.Call (.Name x p) [] [] pos) (tMake C sp dvs E tNil):=by
  intro pins s σ H Q I h
  refine wpAny_Call_Name_kw (ld_glob I hg hm ?_ hdb)
  exact PySem.W.callWith_K0 I.kIn M.kp (run_make (us:=[]) M F hr hb hd hx I .nil h)
end
section
variable {X:Cx} {CX:CXT} {k:Nat} {f C:Addr} {fd:FuncData} {ps ks:List Str} {sp:Sp} {E:XK} {x m:Str} {p pos apos kpos:Pos} {e o:Expr} {es:List Expr} {kws:List Keyword} {te ta:TE} {t tk:TA} {nm:Option Str}
variable {g:List Value→List Value→List Value} {gV:List V→List V→List V}
end
structure FnScope (N P:List Str) (sc:Scope):Prop where
  kind:sc.kind=.function
  co:sc.isCoroutine=false
  gen:sc.isGenerator=false
  nd:N.Nodup
  pre:N.take P.length=P
  par:∀ x∈P,sc.names.lookup x=some .local∨sc.names.lookup x=some .cell
  nofree:∀ y∈sc.names,y.2≠.free
theorem bindL_out {kindOf:Str→Option NameKind} {x:Str}:∀ {binds:List (Str × Value)} {m:Str→Option Value},(∀ v,(x,v) ∉ binds)→bindL kindOf binds m x=m x
  | [],_,_=>rfl
  | (n,v) :: r,m,h=>by
    unfold bindL
    rw [bindL_out fun w hw=>h w (List.mem_cons_of_mem _ hw)]
    split
    · have:x≠n:=by rintro rfl; exact h v List.mem_cons_self
      simp [this]
    · rfl
theorem bindC_out {kindOf:Str→Option NameKind} {x:Str}:∀ {binds:List (Str × Value)} {m:Str→Option Value},(∀ v,(x,v) ∉ binds)→bindC kindOf binds m x=m x
  | [],_,_=>rfl
  | (n,v) :: r,m,h=>by
    unfold bindC
    rw [bindC_out fun w hw=>h w (List.mem_cons_of_mem _ hw)]
    split
    · rfl
    · have:x≠n:=by rintro rfl; exact h v List.mem_cons_self
      simp [this]
theorem bindL_get {kindOf:Str→Option NameKind} {x:Str} {v:Value}:∀ {P:List Str} {vs:List Value} {i:Nat} {m:Str→Option Value},P.Nodup→P[i]?=some x→vs[i]?=some v→kindOf x=some .local →
    bindL kindOf (P.zip vs) m x=some v
  | [],_,_,_,_,h,_,_=>by simp at h
  | _ :: _,[],_,_,_,_,h,_=>by simp at h
  | p :: P,w :: vs,0,m,nd,h1,h2,hk=>by
    simp at h1 h2; subst h1; subst h2
    show bindL kindOf ((p,w) :: P.zip vs) m p=_
    unfold bindL
    rw [bindL_out fun v hv=>(List.nodup_cons.mp nd).1 (List.of_mem_zip hv).1,if_pos hk]
    simp
  | p :: P,w :: vs,i+1,m,nd,h1,h2,hk=>by
    show bindL kindOf ((p,w) :: P.zip vs) m x=_
    unfold bindL
    exact bindL_get (i:=i) (List.nodup_cons.mp nd).2 (by simpa using h1) (by simpa using h2) hk
theorem bindC_get {kindOf:Str→Option NameKind} {x:Str} {v:Value}:∀ {P:List Str} {vs:List Value} {i:Nat} {m:Str→Option Value},P.Nodup→P[i]?=some x→vs[i]?=some v→kindOf x≠some .local →
    bindC kindOf (P.zip vs) m x=some v
  | [],_,_,_,_,h,_,_=>by simp at h
  | _ :: _,[],_,_,_,_,h,_=>by simp at h
  | p :: P,w :: vs,0,m,nd,h1,h2,hk=>by
    simp at h1 h2; subst h1; subst h2
    show bindC kindOf ((p,w) :: P.zip vs) m p=_
    unfold bindC
    rw [bindC_out fun v hv=>(List.nodup_cons.mp nd).1 (List.of_mem_zip hv).1,if_neg hk]
    simp
  | p :: P,w :: vs,i+1,m,nd,h1,h2,hk=>by
    show bindC kindOf ((p,w) :: P.zip vs) m x=_
    unfold bindC
    exact bindC_get (i:=i) (List.nodup_cons.mp nd).2 (by simpa using h1) (by simpa using h2) hk
def start (N:List Str) (vs:List V):St:=vs.map some++List.replicate (N.length - vs.length) none
def cxOf (CX:CXT) (P:Program) (w:World) (K:PySem.W.Frag) (mg:Str→Option Value) (base:Heap) (N:List Str) (qual:Str) (scope:Scope) (f:Addr) (cd:Value) (A:Around) (outer:List Env) (s:Shared) (H:Hp) (E:XK):Cx where
  prog:=P
  w:=w
  K:=K
  mg:=mg
  base:=base
  A:=A.deeper (envOfC qual scope s.heap.objs.size f cd)
  N:=N
  s₀:=s
  H₀:=H
  env:=envOfC qual scope s.heap.objs.size f cd
  outer:=outer
  stack:=envOfC qual scope s.heap.objs.size f cd :: outer
  ex:=[]
  calm:=true
  fn:=fun _=>true
  pn:=[]
  xe:=fun e s'=>wpAny (model P w) (A.deeper (envOfC qual scope s.heap.objs.size f cd)) (leaving (envOfC qual scope s.heap.objs.size f cd) e) (fun _ s''=>CX outer H s E e s'') (fun e' s''=>CX outer H s E e' s'') s'
theorem cell_has {sc:Scope} {n:Nat} {x:Str} (h:sc.names.lookup x=some .cell):∃ c,(cellsFrom n sc.names []).lookup x=some c:=by
  have q:=PySem.W.cellsFrom_some sc.names n [] (.inl h)
  exact Option.isSome_iff_exists.mp q
theorem inv_start {CX:CXT} {P:Program} {w:World} {K:PySem.W.Frag} {mg:Str→Option Value} {base:Heap} {N ps:List Str} {qual:Str} {scope:Scope} {f:Addr} {cd:Value} {A:Around} {outer:List Env} {s s1:Shared} {H:Hp} {E:XK} {us:List Value} {vs:List V}
    (S:FnScope N ps scope) (hd:A.handled=none) (e0:Env0 P w K mg base A outer s H) (hl:vs.length=ps.length) (r:Vals vs us)
    (x:InCallC s s.heap.objs.size (bindL (envOfC qual scope s.heap.objs.size f cd).kindOf (ps.zip us) fun _=>none) (cellsFrom (s.heap.objs.size+1) scope.names []) (bindC (envOfC qual scope s.heap.objs.size f cd).kindOf (ps.zip us) fun _=>none) s1) :
    Inv (cxOf CX P w K mg base N qual scope f cd A outer s H E) [] (start N vs) H s1:=by
  have hpl:ps.length≤N.length:=by have:=congrArg List.length S.pre; rw [List.length_take] at this; omega
  obtain ⟨h1,tk,rfl,hk⟩:=x.done
  have noA:∀ b:Addr,b ∉ (cxOf CX P w K mg base N qual scope f cd A outer s H E).ex:=fun b z=>absurd (show b∈([]:List Addr) from z) (by simp)
  refine ⟨⟨e0.mod,S.kind,rfl,rfl,Nat.le_refl _,fun y z c h1 h2=>?_,fun y hy=>?_,fun y c _ h=>?_,fun _=>hd,Around.frames_deeper e0.frames,.inr ⟨rfl,rfl⟩,fun b z=>absurd z (noA b),e0.bs,e0.bsz,fun b _ _=>noA b,fun b z=>absurd z (noA b),e0.funs,e0.frf⟩,
    rfl,e0.bare,Un.kept hk,⟨_,x.toInCall.ns,fun i y v h1 h2 h3=>?_⟩,fun y c h=>⟨_,x.cell y c h⟩,e0.hok.fresh (Nat.le_refl _),fun y c h=>?_,fun p hp=>absurd (show p∈([]:List (Addr × Obj)) from hp) (by simp),e0.hok.kept hk,?_⟩
  · exact name_of_addr x.apart (PySem.mem_of_lookup h1) (PySem.mem_of_lookup h2)
  · have hy:scope.names.lookup y=some .cell∨scope.names.lookup y=some .free:=hy
    rcases hy with hy | hy
    · exact cell_has hy
    · exact absurd rfl (S.nofree _ (PySem.mem_of_lookup hy))
  · exact Nat.le_of_lt (x.above y c (PySem.mem_of_lookup h))
  · have hi:i < vs.length:=by
      unfold start at h2
      by_cases hi:i < vs.length
      · exact hi
      · rw [List.getElem?_append_right (by simpa using hi)] at h2
        rw [List.getElem?_replicate] at h2
        split at h2 <;> cases h2
    have ha:vs[i]?=some v:=by
      unfold start at h2
      rw [List.getElem?_append_left (by simpa using hi),List.getElem?_map] at h2
      cases e:vs[i]? with
      | none=>rw [e] at h2; cases h2
      | some a=>rw [e] at h2; cases h2; rfl
    obtain ⟨u,hu,rv⟩:=r.get ha
    have hp:ps[i]?=some y:=by
      rw [← S.pre,List.getElem?_take_of_lt (by omega)]; exact h1
    have ndP:ps.Nodup:=by rw [← S.pre]; exact S.nd.sublist (List.take_sublist _ _)
    refine ⟨u,rv,?_⟩
    rcases S.par y (List.mem_of_getElem? hp) with k | k
    · exact .inl ⟨k,bindL_get ndP hp hu k⟩
    · obtain ⟨c,e⟩:=cell_has (n:=s.heap.objs.size+1) k
      refine .inr ⟨.inl k,c,e,?_⟩
      have q:=x.cell y c e
      rw [bindC_get ndP hp hu (by show scope.names.lookup y≠_; rw [k]; decide)] at q
      exact q
  · exact e0.hok.fresh (Nat.le_of_lt (x.above y c (PySem.mem_of_lookup h)))
  · unfold start
    show _=N.length
    rw [List.length_append,List.length_map,List.length_replicate]
    omega
theorem fn_of {CX:CXT} {P:Program} {w:World} {K:PySem.W.Frag} {mg:Str→Option Value} {base:Heap} {k:Nat} {f:Addr} {name qual:Str} {params:Arguments} {body:List Stmt} {scope:Scope} {dV kV doc pm cdv ct oc:Value} {an od:Option Addr}
    {osl:Array (Option Value)} {N ps:List Str} {sp:Sp} (lk:K.lookup f=some ⟨oc,od,.func (PySem.W.fnOf name qual params body scope dV kV doc pm an cdv ct),osl⟩) (hcd:PySem.W.codeIn K cdv qual=true) (S:FnScope N ps scope)
    (len:∀ vs H Q E,sp vs H Q E→vs.length=ps.length)
    (hbody:∀ (A:Around) (outer:List Env) (s:Shared) (H:Hp) (vs:List V) (Q:VK) (E:XK),Room k (A.deeper (envOfC qual scope s.heap.objs.size f cdv))→sp vs H Q E →
      ∃ t,PSs (cxOf CX P w K mg base N qual scope f cdv A outer s H E) body t∧t { nx:=fun _ H'=>Q .non H',rt:=Q } (start N vs) H) :
    FnOk P w K mg base CX (k+1) f (PySem.W.fnOf name qual params body scope dV kV doc pm an cdv ct) ps sp:=by
  refine ⟨len,fun A outer s H args us vs Q E hr e0 hb r hsp=>?_⟩
  have hl:=len _ _ _ _ hsp
  have KX:K.In s.heap:=e0.mod.kin.keeps fun b o e=>(e0.bs b o e).1
  have lim:s.heap.NoLimit:=e0.mod.nolimit.keeps fun b o e=>(e0.bs b o e).1
  have hkind:∀ y∈ps.zip us,scope.names.lookup y.1=some .local∨(scope.names.lookup y.1=some .cell∧((cellsFrom (s.heap.objs.size+1) scope.names []).lookup y.1).isSome=true):=fun ⟨n,v⟩ hy=>by
    rcases S.par n (List.of_mem_zip hy).1 with q | q
    · exact .inl q
    · exact .inr ⟨q,PySem.W.cellsFrom_some _ _ _ (.inl q)⟩
  refine codeAny_call_function hr.depth (KX _ _ lk) rfl S.co S.gen rfl (PySem.W.codeRec_of KX hcd) (hb _ _ _ _ ?_)
  refine wpAny_newFunctionEnv_cells S.kind hkind fun env he s1 x=>?_
  subst he
  refine ⟨lim.keeps x.toInCall.keep,codeAny_func ?_⟩
  obtain ⟨t,ht,hq⟩:=hbody A outer s H vs Q E (hr.deeper _) hsp
  have I:Inv (cxOf CX P w K mg base N qual scope f cdv A outer s H E) [] (start N vs) H s1:=inv_start S hr.hd e0 hl r x
  refine wpAny_mono (ht [] s1 (start N vs) H _ I hq) (fun fl s' hs=>?_) fun e s' hs=>hs
  have fin:∀ {σ':St} {H':Hp} {v:V} {u:Value},Inv (cxOf CX P w K mg base N qual scope f cdv A outer s H E) [] σ' H' s'→RelV v u→Q v H'→CE outer P w H s Q u s' :=
    fun {σ' H' v u} J rv q=>⟨v,H',J.os,J.bare,J.base,J.hok,rv,q⟩
  cases fl with
  | ret u =>
    obtain ⟨v,σ',H',J,rv,q⟩:=hs
    exact fin J rv q
  | next =>
    obtain ⟨σ',H',J,q⟩:=hs
    exact fin (v:=V.non) (u:=Value.none) J rfl q
  | brk =>
    obtain ⟨_,_,_,q⟩:=hs
    exact False.elim q
  | cont =>
    obtain ⟨_,_,_,q⟩:=hs
    exact False.elim q
end L2
namespace L2
open PySem PySem.Spec PyProof.Rows
section
variable {X:Cx} {x:Str} {p pos:Pos} {e:Expr} {es:List Expr} {t:TA} {id T:String} {r:List V→Hp→VK→Prop}
def tCB (r:List V→Hp→VK→Prop) (t:TA):TE:=fun σ H Q=>t σ H fun vs H1=>r vs H1 Q
theorem pe_callB (hc:CallR X (.builtin id) r) (hg:Gl X x) (hm:X.mg x=none) (hv:bootBuiltins x=some (.builtin id)) (ha:PA X (e :: es) t) (hn:x≠"__name__":=by decide) (hdb:(x == ("__debug__":Str))=false:=by decide)
    (he:starEach (e :: es) X.env=(false,eval e X.env) :: starEach es X.env:=by rfl) (hpl:(backTo pos (starEach es X.env)).any (·.1)=false:=by rfl):PE X (.Call (.Name x p) (e :: es) [] pos) (tCB r t):=by
  intro pins s σ H Q I h
  refine wpAny_Call_Name_kw (ld_blt I hg hm hv ?_ hn hdb)
  exact PyProof.Rows.callWith_builtin1 (thn (ha pos pins s σ H _ I h) fun us s1 ⟨vs,H1,I1,r1,q1⟩=>hc pins s1 σ H1 vs us Q I1 r1 q1) he hpl
theorem pe_callTy (hc:CallR X (.type T) r) (hg:Gl X x) (hm:X.mg x=none) (hv:bootBuiltins x=some (.type T)) (ha:PA X (e :: es) t) (hn:x≠"__name__":=by decide) (hdb:(x == ("__debug__":Str))=false:=by decide)
    (he:starEach (e :: es) X.env=(false,eval e X.env) :: starEach es X.env:=by rfl) (hpl:(backTo pos (starEach es X.env)).any (·.1)=false:=by rfl):PE X (.Call (.Name x p) (e :: es) [] pos) (tCB r t):=by
  intro pins s σ H Q I h
  refine wpAny_Call_Name_kw (ld_blt I hg hm hv ?_ hn hdb)
  exact PyProof.Rows.callWith_type1 (thn (ha pos pins s σ H _ I h) fun us s1 ⟨vs,H1,I1,r1,q1⟩=>hc pins s1 σ H1 vs us Q I1 r1 q1) he hpl
end
end L2
namespace HT
open PySem PyProof.Rows
def lexLt:List Int→List Int→Bool
  | [],[]=>false
  | [],_ :: _=>true
  | _ :: _,[]=>false
  | x :: xs,y :: ys=>if x=y then lexLt xs ys else decide (x < y)
theorem lexLt_cons (x y:Int) (xs ys:List Int):lexLt (x :: xs) (y :: ys)=if x=y then lexLt xs ys else decide (x < y):=rfl
theorem lexLt_nil_nil:lexLt [] []=false:=rfl
theorem lexLt_nil_cons (y:Int) (ys:List Int):lexLt [] (y :: ys)=true:=rfl
theorem lexLt_cons_nil (x:Int) (xs:List Int):lexLt (x :: xs) []=false:=rfl
theorem eqAt_int (A:Around) (s:Shared) (a:Int) (t:Tok) (c:Int) (u:Tok):∃ e,SeqAt.EqAt A s (.int a t) (.int c u) e∧(e=true↔a=c) :=
  ⟨(a == c),SeqAt.EqAt.int_int a t c u,by simp⟩
theorem rcLt_int (A:Around) (s:Shared) (a:Int) (t:Tok) (c:Int) (u:Tok) (prog:Program) (w:World) (E:Value→Shared→Prop) (Q:Value→Shared→Prop) (h:Q (.bool (decide (a < c))) s) :
    wpAny (model prog w) A (richCompare .Lt (.int a t) (.int c u)) Q E s :=
  (PyProof.Rows.lt_int h:wpAny (model prog w) A (compareOp .Lt (.int a t) (.int c u)) Q E s)
section
open PySem.SeqAt
open PySem.AutoSeq1 (wpAny_loadPart')
open PySem.MeetsSeq PySem.MeetsSeq2 PySem.MeetsSeq3
theorem tuple_lt_ints (l b:Addr) (items items2:Array Value) (n n2:Nat) (dd dd2:Option Addr) (sl sl2:Array (Option Value)) (ns ms:List Int) (hi:IntsAre items.toList ns) (hj:IntsAre items2.toList ms) :
    Meets (Builtin.«tuple.__lt__» ⟨[.ref l,.ref b],[]⟩)
      (fun _ R s=>s.heap.get? l=some { cls:=.type "tuple",dict:=dd,data:=.seq items n,slots:=sl }∧s.heap.get? b=some { cls:=.type "tuple",dict:=dd2,data:=.seq items2 n2,slots:=sl2 } ∧
        R (.ok (.ret (.bool (lexLt ns ms)))) s) :=
  .of_wp fun prog w A R s h=>by
    obtain ⟨hp,g,d,tk,os⟩:=s; obtain ⟨hl,hb,h⟩:=h
    have f2:=AutoSeq1.sub_tuple_tuple
    have z1:items.size=ns.length:=by rw [← hi.length]; simp
    have z2:items2.size=ms.length:=by rw [← hj.length]; simp
    wp_walk using wpAny_loadPart' hl,wpAny_loadPart' hb,wpAny_forIn_list _ (fun rest b s'=>b.1=none∧s'=⟨hp,g,d,tk,os⟩∧∃ (vs ws:List Value) (ns' ms':List Int),rest=vs.zip ws ∧
      IntsAre vs ns'∧IntsAre ws ms'∧ns'.length+items2.size=ms'.length+items.size∧R (.ok (.ret (.bool (lexLt ns' ms')))) ⟨hp,g,d,tk,os⟩) _
    case turn =>
      rintro ⟨y,x⟩ rest b s' ⟨hb',rfl,vs,ws,ns',ms',hz,hvi,hwi,hlen,hR⟩
      cases hvi with
      | nil=>rw [List.zip_nil_left] at hz; cases hz
      | cons a t hvi' =>
        cases hwi with
        | nil=>rw [List.zip_nil_right] at hz; cases hz
        | cons c u hwi' =>
          rw [List.zip_cons_cons] at hz
          injection hz with hyx hrest
          injection hyx with hy hx
          subst hy hx
          rw [lexLt_cons] at hR
          simp only [List.length_cons] at hlen
          obtain ⟨e,he,hiff⟩:=eqAt_int A.in1 ⟨hp,g,d,tk,os⟩ a t c u
          refine wpAny_bind (he prog w _ _ ?_)
          cases e with
          | true =>
            rw [if_pos (hiff.mp rfl)] at hR
            wp_walk
            exact ⟨rfl,rfl,_,_,_,_,hrest,hvi',hwi',by omega,hR⟩
          | false =>
            rw [if_neg (fun q=>absurd (hiff.mpr q) Bool.false_ne_true)] at hR
            have hri:=rcLt_int A.in1 ⟨hp,g,d,tk,os⟩ a t c u prog w
            wp_walk using hri
            exact ⟨_,rfl,by simpa using hR⟩
    case fin =>
      rintro ⟨b1,b2⟩ s' ⟨hb',rfl,vs,ws,ns',ms',hz,hvi,hwi,hlen,hR⟩
      simp only at hb'
      subst hb'
      have hv:lexLt ns' ms'=decide (items.size < items2.size):=by
        cases hvi with
        | nil =>
          cases hwi with
          | nil =>
            simp only [List.length_nil] at hlen
            rw [lexLt_nil_nil]
            exact (decide_eq_false (by omega)).symm
          | cons c u hw =>
            simp only [List.length_nil,List.length_cons] at hlen
            rw [lexLt_nil_cons]
            exact (decide_eq_true (by omega)).symm
        | cons a t hv =>
          cases hwi with
          | nil =>
            simp only [List.length_nil,List.length_cons] at hlen
            rw [lexLt_cons_nil]
            exact (decide_eq_false (by omega)).symm
          | cons c u hw =>
            rw [List.zip_cons_cons] at hz
            cases hz
      rw [hv] at hR
      wp_walk
      exact ⟨_,rfl,by simpa [Builtin.Tuple.tupleCompareSizes] using hR⟩
    case h =>
      exact ⟨rfl,rfl,items.toList,items2.toList,ns,ms,rfl,hi,hj,by omega,h⟩
end
section
variable {prog:Program} {w:World} {A:Around} {E:Value→Shared→Prop} {s:Shared}
theorem lt_tupInts {l b:Addr} {items items2:Array Value} {ns ms:List Int} {Q:Value→Shared→Prop} (hl:IsTup s.heap l items) (hb:IsTup s.heap b items2) (hi:IntsAre items.toList ns) (hj:IntsAre items2.toList ms)
    (hu:A.units < cLine) (h:Q (.bool (lexLt ns ms)) s):wpAny (model prog w) A (compareOp .Lt (.ref l) (.ref b)) Q E s:=by
  obtain ⟨⟨cls,dd,data,sl⟩,ho,hc,n,hd⟩:=id hl
  obtain ⟨⟨cls2,dd2,data2,sl2⟩,ho2,hc2,n2,hd2⟩:=id hb
  simp only at hc hd hc2 hd2
  subst hc hd hc2 hd2
  exact richCompare_meets_room (op:=.Lt) ⟨_,ho,rfl⟩ ⟨_,ho2,rfl⟩ PySem.F.slot_tuple_lt PySem.F.entry_tuple_lt (PySem.F.args_tuple_lt_2 _ _) (tuple_lt_ints l b items items2 n n2 dd dd2 sl sl2 ns ms hi hj)
    ⟨ho,ho2,show Value.bool (lexLt ns ms)≠Value.notImplemented∧Q (.bool (lexLt ns ms)) s from ⟨(fun x=>nomatch x),h⟩⟩ hu
theorem cat_tup {t b:Addr} {vs ws:List Value} {Q:Value→Shared→Prop} (ht:IsTup s.heap t vs.toArray) (hb:IsTup s.heap b ws.toArray) (hv:vs≠[])
    (h1:ws=[]→Q (.ref t) s) (h2:ws≠[]→Q (.ref s.heap.objs.size) { s with heap:=s.heap.push { cls:=.type "tuple",data:=.seq (vs++ws).toArray } })
    (hsz:vs.length+ws.length≤sizeLine):wpAny (model prog w) A (binaryOp .Add (.ref t) (.ref b)) Q E s:=by
  obtain ⟨⟨cls,dd,data,sl⟩,ho,hc,n,hd⟩:=id ht
  obtain ⟨⟨cls2,dd2,data2,sl2⟩,ho2,hc2,n2,hd2⟩:=id hb
  simp only at hc hd hc2 hd2
  subst hc hd hc2 hd2
  have e:vs.toArray++ws.toArray=(vs++ws).toArray:=by simp
  by_cases hw:ws=[]
  · exact concat_meets ⟨_,ho,rfl⟩ ⟨_,ho2,rfl⟩ noFill_tuple_add seq_tuple_add PySem.F.slot_tuple_add PySem.F.entry_tuple_add (PySem.F.args_tuple_add_2 _ _)
      (tuple_addW1 t b vs.toArray ws.toArray n n2 dd dd2 sl sl2 (by simpa using hv) (by simp [hw])) ⟨ho,ho2,h1 hw⟩
  · refine concat_meets ⟨_,ho,rfl⟩ ⟨_,ho2,rfl⟩ noFill_tuple_add seq_tuple_add PySem.F.slot_tuple_add PySem.F.entry_tuple_add (PySem.F.args_tuple_add_2 _ _)
      (tuple_addW2 t b vs.toArray ws.toArray n n2 dd dd2 sl sl2 (by simpa using hv) (by simpa using hw) (by rw [List.size_toArray,List.size_toArray]; exact hsz)) ⟨ho,ho2,?_⟩
    rw [e]
    exact h2 hw
def sIx (n d:Nat):Option Int→Nat
  | none=>d
  | some v=>if v < 0 then (v+(n:Int)).toNat else min v.toNat n
end
end HT
namespace L2
open PySem PySem.Spec PyProof.Rows
abbrev TO:=St→Hp→(Option Int→Hp→Prop)→Prop
def PO (X:Cx) (e:Option Expr) (t:TO):Prop :=
  ∀ (pins:List (Addr × Obj)) (s:Shared) (σ:St) (H:Hp) (Q:Option Int→Hp→Prop),Inv X pins σ H s→t σ H Q →
    wpAny (model X.prog X.w) X.A (evalPart e X.env) (fun u s'=>∃ o H',Inv X pins σ H' s'∧IsPart u o∧Q o H') X.xe s
def tNoPart:TO:=fun _ H Q=>Q none H
def tPart (t:TE):TO:=fun σ H Q=>t σ H fun x H1=>∃ i,x=.int i∧Q (some i) H1
theorem intsAre_of {ns:List Int}:∀ {us:List Value},Vals (ns.map V.int) us→IntsAre us ns:=by
  induction ns with
  | nil=>intro us r; rw [List.map_nil] at r; cases r; exact .nil
  | cons n ns ih =>
    intro us r
    rw [List.map_cons] at r
    cases r with
    | cons r1 r2 =>
      obtain ⟨t,e⟩:=r1
      subst e
      exact .cons n t (ih r2)
section
variable {X:Cx} {e:Expr} {te:TE} {lo hi:Option Expr} {tl th:TO} {pos p2:Pos}
theorem po_none:PO X none tNoPart:=by
  intro pins s σ H Q I h
  rw [evalPart_none]
  exact wpAny_pure ⟨none,H,I,.none,h⟩
theorem po_some (h:PE X e te):PO X (some e) (tPart te):=by
  intro pins s σ H Q I hw
  rw [evalPart_some]
  refine thn (h pins s σ H _ I hw) fun u s1 ⟨x,H1,I1,r1,q1⟩=>?_
  obtain ⟨i,rfl,q⟩:=q1
  obtain ⟨t,rfl⟩:=r1
  exact ⟨some i,H1,I1,.int i t,q⟩
def SlR (X:Cx) (r:V→Option Int→Option Int→Hp→VK→Prop):Prop :=
  ∀ (pins:List (Addr × Obj)) (s:Shared) (σ:St) (H:Hp) (x:V) (v vl vu:Value) (lo hi:Option Int) (sl:Addr) (Q:VK),Inv X pins σ H s→RelV x v→s.heap.IsSliceOf sl vl vu .none→IsPart vl lo→IsPart vu hi→r x lo hi H Q →
    ∃ T id,typeLookup (.type T) "__getitem__"=pure (some (.builtin id))∧s.TypeIs v T∧wpAny (model X.prog X.w) X.A (getItem v (.ref sl)) (EP X pins σ Q) X.xe s
def tSl (r:V→Option Int→Option Int→Hp→VK→Prop) (te:TE) (tl th:TO):TE:=fun σ H Q=>te σ H fun x H1=>tl σ H1 fun l H2=>th σ H2 fun u H3=>r x l u H3 Q
theorem pe_slice {r:V→Option Int→Option Int→Hp→VK→Prop} (hr:SlR X r) (he:PE X e te) (hl:PO X lo tl) (hu:PO X hi th):PE X (.Subscript e (.Slice lo hi none p2) pos) (tSl r te tl th):=by
  intro pins s σ H Q I h
  refine Subscript_ (thn (he pins s σ H _ I h) fun v s1 ⟨x,H1,I1,r1,q1⟩=>?_)
  refine wpAny_Slice (thn (hl pins s1 σ H1 _ I1 q1) fun vl s2 ⟨l,H2,I2,pl,q2⟩=>thn (hu pins s2 σ H2 _ I2 q2) fun vu s3 ⟨u,H3,I3,pu,q3⟩=>?_)
  rw [evalPart_none]
  refine wpAny_pure ?_
  have I4:Inv X pins σ H3 { s3 with heap:=s3.heap.push { cls:=.type "slice",data:=.fields #[vl,vu,.none] } }:=I3.kept (t':=s3.toks) fun b ob q=>Heap.get?_push_of_some _ q
  obtain ⟨T,id,hT,ht,hg⟩:=hr pins { s3 with heap:=s3.heap.push { cls:=.type "slice",data:=.fields #[vl,vu,.none] } } σ H3 x v vl vu l u s3.heap.objs.size Q I4 r1 (Heap.IsSliceOf.new ..) pl pu q3
  show wpAny (model X.prog X.w) X.A (subscriptTail e (.Slice lo hi none p2) v (.ref s3.heap.objs.size)) (EP X pins σ Q) X.xe { s3 with heap:=s3.heap.push { cls:=.type "slice",data:=.fields #[vl,vu,.none] } }
  exact tail_any (ops:=[.ref s3.heap.objs.size,v]) ht hT hg (by with_unfolding_all rfl)
def cutV (xs:List V) (lo hi:Option Int):List V:=(xs.drop (HT.sIx xs.length 0 lo)).take (HT.sIx xs.length xs.length hi - HT.sIx xs.length 0 lo)
theorem cutV_length (xs:List V) (lo hi:Option Int):(cutV xs lo hi).length≤xs.length:=by
  unfold cutV
  rw [List.length_take,List.length_drop]
  omega
def rCatT (K:PySem.W.Frag):R2:=fun x y H Q=>∃ a b xs ys,x=.ref a∧y=.ref b∧SqT K H a xs∧SqT K H b ys∧xs≠[]∧xs.length+ys.length≤sizeLine ∧
  (ys=[]→Q (.ref a) H)∧(ys≠[]→∀ p,H p=none→Q (.ref p) (upd H p (.tup (xs++ys))))
theorem Vals.nil_iff {xs:List V} {us:List Value} (r:Vals xs us):us=[]↔xs=[]:=by
  cases r with
  | nil=>simp
  | cons _ _=>simp
theorem op_catT:OpR X (binaryOp .Add) (rCatT X.K):=by
  intro pins s σ H x y v u Q I rx ry h
  obtain ⟨a,b,xs,ys,rfl,rfl,ha,hb,hx,hz,q1,q2⟩:=h
  cases rx
  cases ry
  obtain ⟨its,r1,p1,_⟩:=I.tuple ha
  obtain ⟨its2,r2,p2,_⟩:=I.tuple hb
  refine HT.cat_tup p1 p2 (fun z=>hx (r1.nil_iff.mp z)) (fun z=>⟨.ref a,H,I,rfl,q1 (r2.nil_iff.mp z)⟩) (fun z=>?_) (by rw [← r1.length,← r2.length]; exact hz)
  refine ⟨.ref s.heap.objs.size,_,I.laid (t':=s.toks) (o:=.tup (xs++ys)) (fun b ob q=>Heap.get?_push_of_some _ q) (Nat.le_refl _) ?_,rfl,q2 (fun w=>z (r2.nil_iff.mpr w)) _ (I.hok.fresh (Nat.le_refl _))⟩
  exact ⟨by rw [List.length_append]; exact hz,_,r1.append r2,IsTup.new _ _⟩
end
end L2
namespace L2
open PySem PySem.Spec PyProof.Rows
def ixN (n:Nat) (i:Int):Option Nat:=if 0≤i then (if i < n then some i.toNat else none) else if -(n:Int)≤i then some (i+n).toNat else none
def atI {α:Type} (xs:List α) (i:Int):Option α:=(ixN xs.length i).bind fun j=>xs[j]?
theorem ixN_seq {n:Nat} {i:Int} {j:Nat} (h:ixN n i=some j):seqIndex? i n=some j∧j < n∧-(n:Int)≤i∧i < n:=by
  unfold ixN at h
  by_cases h0:0≤i
  · rw [if_pos h0] at h
    by_cases h1:i < n
    · rw [if_pos h1] at h
      have e:i.toNat=j:=Option.some.inj h
      exact ⟨by rw [seqIndex_of h0 h1,e],by omega,by omega,h1⟩
    · rw [if_neg h1] at h; cases h
  · rw [if_neg h0] at h
    by_cases h1:-(n:Int)≤i
    · rw [if_pos h1] at h
      have e:(i+n).toNat=j:=Option.some.inj h
      exact ⟨by rw [seqIndex_neg (by omega) h1,e],by omega,h1,by omega⟩
    · rw [if_neg h1] at h; cases h
theorem atI_get {α:Type} {xs:List α} {i:Int} {v:α} (h:atI xs i=some v):∃ j,seqIndex? i xs.length=some j∧xs[j]?=some v∧j < xs.length∧-(xs.length:Int)≤i∧i < xs.length:=by
  unfold atI at h
  cases e:ixN xs.length i with
  | none=>rw [e] at h; cases h
  | some j =>
    rw [e] at h
    obtain ⟨h1,h2,h3,h4⟩:=ixN_seq e
    exact ⟨j,h1,h,h2,h3,h4⟩
theorem atI_nat {α:Type} {xs:List α} {j:Nat} {v:α} (h:xs[j]?=some v):atI xs (j:Int)=some v:=by
  have hj:j < xs.length:=(List.getElem?_eq_some_iff.mp h).1
  have e:ixN xs.length (j:Int)=some j:=by
    unfold ixN
    rw [if_pos (by omega),if_pos (by omega)]; simp
  unfold atI; rw [e]; exact h
def PlainIx (b:Expr):Prop:=∀ o i,subscripted b false o i=operate [o,i] (getItem o i)
def IxR (X:Cx) (r:R2):Prop :=
  ∀ (value slice:Expr) (pins:List (Addr × Obj)) (s:Shared) (σ:St) (H:Hp) (x y:V) (v u:Value) (Q:VK),Inv X pins σ H s→RelV x v→RelV y u→r x y H Q →
    subscripted slice false v u=operate [v,u] (getItem v u)→wpAny (model X.prog X.w) X.A (subscriptTail value slice v u) (EP X pins σ Q) X.xe s
def MtR (X:Cx) (id:String) (r:V→List V→Hp→VK→Prop):Prop :=
  ∀ (pins:List (Addr × Obj)) (s:Shared) (σ:St) (H:Hp) (x:V) (xs:List V) (v:Value) (us:List Value) (Q:VK),Inv X pins σ H s→RelV x v→Vals xs us→r x xs H Q →
    wpAny (model X.prog X.w) X.A (call (.builtin id) (v :: us)) (EP X pins σ Q) X.xe s
section
variable {X:Cx} {a b:Expr} {ta tb:TE} {pos:Pos}
theorem pe_ix {r:R2} (hr:IxR X r) (ha:PE X a ta) (hb:PE X b tb) (hs:PlainIx b):PE X (.Subscript a b pos) (tOp r ta tb):=by
  intro pins s σ H Q I h
  exact Subscript_ (binT ha hb I h fun v u s2 x y H2 I2 rx ry q=>hr a b pins s2 σ H2 x y v u Q I2 rx ry q (hs _ _))
def rIxL (K:PySem.W.Frag):R2:=fun x y H Q=>∃ p xs i v,x=.ref p∧y=.int i∧SqL K H p xs∧atI xs i=some v∧Q v H
def rIxT (K:PySem.W.Frag):R2:=fun x y H Q=>∃ p xs i v,x=.ref p∧y=.int i∧SqT K H p xs∧atI xs i=some v∧Q v H
theorem ix_list:IxR X (rIxL X.K):=by
  intro value slice pins s σ H x y v u Q I rx ry h hs
  obtain ⟨p,xs,i,z,rfl,rfl,hq,he,q⟩:=h
  cases rx
  obtain ⟨t,rfl⟩:=ry
  obtain ⟨its,r,pl,hz⟩:=I.list hq
  obtain ⟨j,h1,h2,h3,h4,h5⟩:=atI_get he
  obtain ⟨w,ew,rw'⟩:=r.get h2
  have hl:=r.length
  have hn:=line63
  have fin:EP X pins σ Q w s:=⟨z,H,I,rw',q⟩
  by_cases h0:0≤i
  · have hj:i.toNat=j:=by
      rw [seqIndex_of h0 h5] at h1
      exact Option.some.inj h1
    exact item_listR pl.isList h0 (by omega) (by rw [hj]; simpa using ew) fin hs
  · have hj:(i+(its.toArray.size:Int)).toNat=j:=by
      rw [seqIndex_neg (by omega) h4] at h1
      rw [List.size_toArray,← hl]
      exact Option.some.inj h1
    exact subscriptTail_builtinR (x:=w) pl.isList.typeIs slot_list_getitem.lookup
      (wpAny_getItem_list_neg (Q:=fun r s'=>r=w∧EP X pins σ Q r s') pl.isList (by omega) (by rw [List.size_toArray] <;> omega) (by omega) (by rw [hj]; simpa using ew) ⟨rfl,fin⟩) hs
theorem ix_tup:IxR X (rIxT X.K):=by
  intro value slice pins s σ H x y v u Q I rx ry h hs
  obtain ⟨p,xs,i,z,rfl,rfl,hq,he,q⟩:=h
  cases rx
  obtain ⟨t,rfl⟩:=ry
  obtain ⟨its,r,pl,hz⟩:=I.tuple hq
  obtain ⟨j,h1,h2,h3,h4,h5⟩:=atI_get he
  obtain ⟨w,ew,rw'⟩:=r.get h2
  have hl:=r.length
  have hn:=line63
  have fin:EP X pins σ Q w s:=⟨z,H,I,rw',q⟩
  exact subscriptTail_builtinR (x:=w) pl.typeIs slot_tuple_getitem.lookup
    (getItem_tuple (j:=j) (Q:=fun r s'=>r=w∧EP X pins σ Q r s') pl (by omega) (by omega) (by rw [List.size_toArray,← hl]; exact h1) (by simpa using ew) ⟨rfl,fin⟩) hs
theorem slice_bounds (lo hi:Option Int) (n:Nat):(sliceBounds lo hi none n).1=((HT.sIx n 0 lo:Nat):Int)∧(sliceBounds lo hi none n).2.1=((HT.sIx n n hi:Nat):Int)∧(sliceBounds lo hi none n).2.2=1:=by
  refine ⟨?_,?_,rfl⟩
  · cases lo with
    | none=>simp [sliceBounds,HT.sIx]
    | some i =>
      simp only [sliceBounds,HT.sIx,Option.getD_none,show (1:Int) > 0 by decide,if_true]
      by_cases h:i < 0
      · simp only [h,if_true] <;> omega
      · simp only [h,if_false] <;> omega
  · cases hi with
    | none=>simp [sliceBounds,HT.sIx]
    | some i =>
      simp only [sliceBounds,HT.sIx,Option.getD_none,show (1:Int) > 0 by decide,if_true]
      by_cases h:i < 0
      · simp only [h,if_true] <;> omega
      · simp only [h,if_false] <;> omega
theorem slicePick_cut (its:List Value) (lo hi:Option Int):slicePick its.toArray lo hi none=((its.drop (HT.sIx its.length 0 lo)).take (HT.sIx its.length its.length hi - HT.sIx its.length 0 lo)).toArray:=by
  obtain ⟨h1,h2,h3⟩:=slice_bounds lo hi its.toArray.size
  unfold slicePick
  rw [h1,h2,h3]
  simp only [sliceRange_one,pick_run,List.size_toArray] <;> rfl
def rSlL (K:PySem.W.Frag):V→Option Int→Option Int→Hp→VK→Prop:=fun x lo hi H Q=>∃ a xs,x=.ref a∧SqL K H a xs∧∀ p,H p=none→Q (.ref p) (upd H p (.lst (cutV xs lo hi)))
theorem sl_list:SlR X (rSlL X.K):=by
  intro pins s σ H x v vl vu lo hi sl Q I rx hs pl pu h
  obtain ⟨a,xs,rfl,hx,q⟩:=h
  cases rx
  obtain ⟨its,r,ht,hz⟩:=I.list hx
  have hlen:=r.length
  refine ⟨"list",_,slot_list_getitem.lookup,ht.isList.typeIs,?_⟩
  refine wpAny_getItem_list_slice ht.isList hs pl pu .none (by simp) ?_ (by rw [List.size_toArray] <;> omega)
  rw [slicePick_cut,← hlen]
  refine ⟨.ref s.heap.objs.size,_,I.laid (t':=s.toks) (o:=.lst (cutV xs lo hi)) (fun b ob q=>Heap.get?_push_of_some _ q) (Nat.le_refl _) ?_,rfl,q _ (I.hok.fresh (Nat.le_refl _))⟩
  exact ⟨Nat.le_trans (cutV_length xs lo hi) hz,_,0,(r.drop (HT.sIx xs.length 0 lo)).take (HT.sIx xs.length xs.length hi - HT.sIx xs.length 0 lo),Heap.get?_push_size _ rfl⟩
def flatV:V→Bool
  | .non=>true
  | .bl _=>true
  | .int _=>true
  | .str _=>true
  | _=>false
def eqV:V→V→Bool
  | .non,.non=>true
  | .bl a,.bl b=>a == b
  | .bl a,.int b=>(if a then 1 else 0) == b
  | .int a,.bl b=>a == (if b then 1 else 0)
  | .int a,.int b=>a == b
  | .str a,.str b=>a == b
  | _,_=>false
theorem eqAt_V {A:Around} {s:Shared} {y x:V} {u v:Value} (ry:RelV y u) (rx:RelV x v) (fy:flatV y=true) (fx:flatV x=true):SeqAt.EqAt A s u v (eqV y x):=by
  cases y with
  | non =>
    cases ry
    cases x with
    | non=>cases rx; exact SeqAt.EqAt.same _
    | bl b=>cases rx; exact SeqAt.EqAt.none_bool b
    | int b=>obtain ⟨t,rfl⟩:=rx; exact SeqAt.EqAt.none_int b t
    | str b=>obtain ⟨t,rfl⟩:=rx; exact SeqAt.EqAt.none_str b t
    | _=>exact absurd (show false=true from fx) Bool.false_ne_true
  | bl a =>
    cases ry
    cases x with
    | non=>cases rx; exact SeqAt.EqAt.bool_none a
    | bl b=>cases rx; exact SeqAt.EqAt.bool_bool a b
    | int b=>obtain ⟨t,rfl⟩:=rx; exact SeqAt.EqAt.bool_int a b t
    | str b=>obtain ⟨t,rfl⟩:=rx; exact SeqAt.EqAt.bool_str a b t
    | _=>exact absurd (show false=true from fx) Bool.false_ne_true
  | int a =>
    obtain ⟨t',rfl⟩:=ry
    cases x with
    | non=>cases rx; exact SeqAt.EqAt.int_none a t'
    | bl b=>cases rx; exact SeqAt.EqAt.int_bool a t' b
    | int b=>obtain ⟨t,rfl⟩:=rx; exact SeqAt.EqAt.int_int a t' b t
    | str b=>obtain ⟨t,rfl⟩:=rx; exact SeqAt.EqAt.int_str a t' b t
    | _=>exact absurd (show false=true from fx) Bool.false_ne_true
  | str a =>
    obtain ⟨t',rfl⟩:=ry
    cases x with
    | non=>cases rx; exact SeqAt.EqAt.str_none a t'
    | bl b=>cases rx; exact SeqAt.EqAt.str_bool a t' b
    | int b=>obtain ⟨t,rfl⟩:=rx; exact SeqAt.EqAt.str_int a t' b t
    | str b=>obtain ⟨t,rfl⟩:=rx; exact SeqAt.EqAt.str_str a t' b t
    | _=>exact absurd (show false=true from fx) Bool.false_ne_true
  | _=>exact absurd (show false=true from fy) Bool.false_ne_true
theorem call_len_seq:CallR X (.builtin "len") (fun xs H Q=>∃ p ys,xs=[.ref p]∧(SqL X.K H p ys∨SqT X.K H p ys)∧Q (.int ys.length) H):=by
  intro pins s σ H xs us Q I r h
  obtain ⟨p,ys,rfl,hq,q⟩:=h
  obtain ⟨u,rfl,rx⟩:=vals1 r
  cases rx
  have hn:=line63
  rcases hq with hq | hq
  · obtain ⟨its,r',pl,hz⟩:=I.list hq
    have hlen:=r'.length
    exact Calls.call_len_list pl.isList (by simp only [List.size_toArray] <;> omega) ⟨.int ys.length,H,I.tok _,⟨s.toks+1,by rw [List.size_toArray,hlen]⟩,q⟩
  · obtain ⟨its,r',pl,hz⟩:=I.tuple hq
    have hlen:=r'.length
    exact len_tuple pl (by simp only [List.size_toArray] <;> omega) ⟨.int ys.length,H,I.tok _,⟨s.toks+1,by rw [List.size_toArray,hlen]⟩,q⟩
theorem call_list_of:CallR X (.type "list") (fun xs H Q=>∃ p ys,xs=[.ref p]∧(SqL X.K H p ys∨SqT X.K H p ys)∧∀ l,H l=none→Q (.ref l) (upd H l (.lst ys))):=by
  intro pins s σ H xs us Q I r h
  obtain ⟨p,ys,rfl,hq,q⟩:=h
  obtain ⟨u,rfl,rx⟩:=vals1 r
  cases rx
  have fin:∀ (its:List Value),Vals ys its→ys.length≤sizeLine→∀ (h':Heap) (c':Nat),(∀ b o',s.heap.get? b=some o'→h'.get? b=some o') →
      h'.get? s.heap.objs.size=some { cls:=.type "list",dict:=none,data:=.seq its.toArray c',slots:=#[] }→EP X pins σ Q (.ref s.heap.objs.size) { s with heap:=h' }:=fun its r' hz h' c' kp e =>
    ⟨.ref s.heap.objs.size,_,I.laid (t':=s.toks) kp (Nat.le_refl _) (show ObjOk X.prog X.w _ h' _ (.lst ys) from ⟨hz,its,c',r',e⟩),rfl,q _ (I.hok.fresh (Nat.le_refl _))⟩
  rcases hq with hq | hq
  · obtain ⟨its,r',pl,hz⟩:=I.list hq
    have hlen:=r'.length
    obtain ⟨o,ho,hc,n,hd⟩:=pl.isList
    exact call_list_seq p (.inl rfl) ho hc hd (fun h' c' kp e=>fin its r' hz h' c' kp e) (by simp only [List.size_toArray] <;> omega)
  · obtain ⟨its,r',pl,hz⟩:=I.tuple hq
    have hlen:=r'.length
    obtain ⟨o,ho,hc,n,hd⟩:=pl
    exact call_list_seq p (.inr rfl) ho hc hd (fun h' c' kp e=>fin its r' hz h' c' kp e) (by simp only [List.size_toArray] <;> omega)
def tyV (K:PySem.W.Frag) (T:String) (x:V) (H:Hp):Prop:=match x with
  | .str _=>T="str"
  | .int _=>T="int"
  | .ref p=>(T="list"∧∃ xs,SqL K H p xs)∨(T="tuple"∧∃ o,K.lookup p=some o∧o.cls=.type "tuple"∧o.dict=none) ∨
      (T="dict"∧((∃ kvs,H p=some (.dK kvs))∨∃ kvs,H p=some (.dT kvs)))∨(T="set"∧∃ S n,H p=some (.set S n))
  | _=>False
theorem tyV_is {pins:List (Addr × Obj)} {σ:St} {H:Hp} {s:Shared} {T:String} {x:V} {v:Value} (I:Inv X pins σ H s) (r:RelV x v) (ty:tyV X.K T x H) :
    s.TypeIs v T∧∀ a,v=.ref a→∃ ob,s.heap.get? a=some ob∧ob.dict=none:=by
  cases x with
  | str z =>
    obtain ⟨t,rfl⟩:=r
    cases (show T="str" from ty)
    exact ⟨typeIs_str s z t,fun _ e=>nomatch e⟩
  | int i =>
    obtain ⟨t,rfl⟩:=r
    cases (show T="int" from ty)
    exact ⟨typeIs_int s i t,fun _ e=>nomatch e⟩
  | ref p =>
    cases r
    rcases ty with ⟨rfl,xs,hq⟩ | ⟨rfl,o,hk,hc,hd⟩ | ⟨rfl,hk⟩ | ⟨rfl,S,n,hk⟩
    · obtain ⟨its,_,pl,_⟩:=I.list hq
      refine ⟨pl.isList.typeIs,fun a e=>?_⟩
      cases e
      obtain ⟨o,n,e,c,hd,_⟩:=pl
      exact ⟨o,e,hd⟩
    · refine ⟨⟨o,I.kIn p o hk,hc⟩,fun a e=>?_⟩
      cases e
      exact ⟨o,I.kIn _ o hk,hd⟩
    · have z:∃ o,s.heap.get? p=some o∧o.ExactDict:=by
        rcases hk with ⟨kvs,hk⟩ | ⟨kvs,hk⟩
        · obtain ⟨_,_,_,_,o,_,_,e,ex,_⟩:=I.hok p _ hk
          exact ⟨o,e,ex⟩
        · obtain ⟨_,_,_,_,o,_,_,e,ex,_⟩:=I.hok p _ hk
          exact ⟨o,e,ex⟩
      obtain ⟨o,e,ex⟩:=z
      refine ⟨⟨o,e,ex.1⟩,fun a e2=>?_⟩
      cases e2
      exact ⟨o,e,ex.2.1⟩
    · obtain ⟨o,_,_,_,e,ex,_⟩:=I.hok p _ hk
      refine ⟨⟨o,e,ex.1⟩,fun a e2=>?_⟩
      cases e2
      exact ⟨o,e,ex.2.1⟩
  | _=>exact False.elim ty
def tBM0 (K:PySem.W.Frag) (T:String) (r:V→List V→Hp→VK→Prop) (to:TE):TE:=fun σ H Q=>to σ H fun x H1=>tyV K T x H1∧r x [] H1 Q
def tBM (K:PySem.W.Frag) (T:String) (r:V→List V→Hp→VK→Prop) (to:TE) (t:TA):TE:=fun σ H Q=>to σ H fun x H1=>tyV K T x H1∧t σ H1 fun xs H2=>r x xs H2 Q
variable {o e:Expr} {es:List Expr} {to:TE} {t:TA} {name:Str} {apos cpos:Pos} {T id:String} {r:V→List V→Hp→VK→Prop}
theorem pe_bm0 (pa:PlainAttrs T) (slot:Slot T name id) (hty:typeOf (.builtin id)=pure (.type "method_descriptor")) (hm:MtR X id r) (ho:PE X o to)
    (hbase:attributeBase o name X.env (eval o X.env)=eval o X.env:=by rfl) (hline:(apos.endLine == cpos.line)=true:=by rfl):PE X (.Call (.Attribute o name apos) [] [] cpos) (tBM0 X.K T r to):=by
  intro pins s σ H Q I h
  refine wpAny_Call_method0_late hbase hline (thn (ho pins s σ H _ I h) fun v s1 ⟨x,H1,I1,r1,ty,q1⟩=>?_)
  obtain ⟨h1,h2⟩:=tyV_is I1 r1 ty
  exact ⟨T,id,pa,slot,hty,h1,h2,Calls.callWith_builtin rfl (PySem.evalArgs_none (hm pins s1 σ H1 x [] v [] Q I1 r1 .nil q1))⟩
theorem pe_bm (pa:PlainAttrs T) (slot:Slot T name id) (hty:typeOf (.builtin id)=pure (.type "method_descriptor")) (hm:MtR X id r) (ho:PE X o to) (ha:PA X (e :: es) t)
    (hbase:attributeBase o name X.env (eval o X.env)=eval o X.env:=by rfl)
    (hfew:((backTo cpos (starEach (e :: es) X.env)).all (fun x=>!x.1) && (backToKw cpos (keywordEach [] X.env)).all (fun x=>x.1.isSome)
      && decide ((e :: es).length+([]:List Keyword).length+(if ([]:List Keyword).isEmpty then 0 else 1) < 30))=true:=by rfl)
    (hline:(apos.endLine == cpos.line)=true:=by rfl) (hs:starEach (e :: es) X.env=(false,eval e X.env) :: starEach es X.env:=by rfl) (hplain:(backTo cpos (starEach es X.env)).any (·.1)=false:=by rfl) :
    PE X (.Call (.Attribute o name apos) (e :: es) [] cpos) (tBM X.K T r to t):=by
  intro pins s σ H Q I h
  refine wpAny_Call_method_late hbase hfew hline rfl (thn (ho pins s σ H _ I h) fun v s1 ⟨x,H1,I1,r1,ty,q1⟩=>?_)
  obtain ⟨h1,h2⟩:=tyV_is I1 r1 ty
  refine ⟨T,id,pa,slot,hty,h1,h2,?_⟩
  have hA:=ha cpos pins s1 σ H1 _ I1 q1
  rw [hs] at hA ⊢
  refine Calls.callWith_builtin (by show (false || (backTo cpos (starEach es X.env)).any (·.1))=false; rw [hplain] <;> rfl) (Calls.evalArgs_plain ?_)
  exact thn hA fun us s2 ⟨vs,H2,I2,r2,q2⟩=>hm pins s2 σ H2 x vs v us Q I2 r1 r2 q2
/- xs.append(e),list.index on a module's tuple .. are MtR facts of 06m -/
end
end L2
namespace L2
open PySem PySem.Spec PyProof.Rows
def MtM (X:Cx) (id:String) (r:V→List V→Hp→VK→Prop):Prop :=
  ∀ (pins:List (Addr × Obj)) (s:Shared) (σ:St) (H:Hp) (x:V) (xs:List V) (v:Value) (us:List Value) (Q:VK),Inv X pins σ H s→RelV x v→Vals xs us→r x xs H Q →
    wpAny (model X.prog X.w) X.A (call (.builtin id) (v :: us)) (EP X pins σ Q) X.xe s
theorem Vals.one:∀ {x:V} {us:List Value},Vals [x] us→∃ u,us=[u]∧RelV x u
  | _,_,.cons r .nil=>⟨_,rfl,r⟩
theorem Vals.zero:∀ {us:List Value},Vals [] us→us=[]
  | _,.nil=>rfl
theorem Vals.dropLast {xs:List V} {us:List Value} (h:Vals xs us):Vals xs.dropLast us.dropLast:=by
  induction h with
  | nil=>exact .nil
  | cons r t ih =>
    cases t with
    | nil=>exact .nil
    | cons q t'=>exact .cons r ih
theorem Vals.eraseIdx:∀ {xs:List V} {us:List Value} (i:Nat),Vals xs us→Vals (xs.eraseIdx i) (us.eraseIdx i)
  | _,_,_,.nil=>.nil
  | _,_,0,.cons _ t=>t
  | _,_,i+1,.cons r t=>.cons r (Vals.eraseIdx i t)
theorem Vals.rep {xs:List V} {us:List Value} (h:Vals xs us):∀ k:Nat,Vals (List.replicate k xs).flatten (List.replicate k us).flatten
  | 0=>.nil
  | k+1=>by
    rw [List.replicate_succ,List.replicate_succ,List.flatten_cons,List.flatten_cons]
    exact Vals.append h (Vals.rep h k)
theorem erase_last {α:Type} (l:List α):l.eraseIdx (l.length - 1)=l.dropLast:=by
  induction l with
  | nil=>rfl
  | cons a r ih =>
    cases r with
    | nil=>rfl
    | cons b r =>
      have e:(a :: b :: r).length - 1=((b :: r).length - 1)+1:=by
        have h1:(a :: b :: r).length=r.length+2:=rfl
        have h2:(b :: r).length=r.length+1:=rfl
        omega
      rw [e,List.eraseIdx_cons_succ,ih]
      all_goals rfl
theorem len_erase {α:Type}:∀ (l:List α) (i:Nat),(l.eraseIdx i).length≤l.length
  | [],_=>Nat.le_refl _
  | _ :: _,0=>Nat.le_succ _
  | _ :: r,i+1=>Nat.succ_le_succ (len_erase r i)
theorem foldl_rep (its:List Value):∀ (k:Nat) (acc:List Value),
    List.foldl (fun x1 x2=>x1++x2) acc.toArray (List.replicate k its.toArray)=(acc++(List.replicate k its).flatten).toArray
  | 0,acc=>by simp
  | k+1,acc=>by
    have e:acc.toArray++its.toArray=(acc++its).toArray:=by simp
    have e2:(acc++its)++(List.replicate k its).flatten=acc++(List.replicate (k+1) its).flatten:=by
      rw [List.replicate_succ,List.flatten_cons,List.append_assoc]
    rw [← e2,← foldl_rep its k (acc++its),← e,List.replicate_succ,List.foldl_cons]
section
variable {X:Cx} {pins:List (Addr × Obj)} {σ:St} {H:Hp} {s:Shared} {l b:Addr} {xs ys zs:List V}
theorem Inv.lset {its its':List Value} {n:Nat} {f:Array Value→Array Value} {t':Nat} (I:Inv X pins σ H s) (hH:H l=some (.lst xs))
    (e:s.heap.get? l=some { cls:=.type "list",data:=.seq its.toArray n }) (hf:f its.toArray=its'.toArray) (hv:Vals ys its') (hz:ys.length≤sizeLine) :
    Inv X pins σ (upd H l (.lst ys)) { s with heap:=s.heap.update l (Obj.mapSeq f),toks:=t' }:=by
  have q:=PySem.IsL.update e f
  rw [hf] at q
  refine I.write (x:=l) (e:=l) (by rw [hH]; exact trivial) (.inl rfl) (fun b' u hb hu=>(Heap.get?_update_other s.heap (Obj.mapSeq f) (Ne.symm hb)).trans hu) ⟨_,q⟩ ?_
  exact ⟨hz,its',_,hv,q⟩
theorem Inv.lnew {its:List Value} {t':Nat} (I:Inv X pins σ H s) (hv:Vals ys its) (hz:ys.length≤sizeLine) :
    Inv X pins σ (upd H s.heap.objs.size (.lst ys)) { s with heap:=s.heap.push { cls:=.type "list",data:=.seq its.toArray },toks:=t' } :=
  I.laid (fun _ _ q=>Heap.get?_push_of_some _ q) (Nat.le_refl _) ⟨hz,its,0,hv,Heap.get?_push_size _ rfl⟩
theorem Inv.fresh (I:Inv X pins σ H s):H s.heap.objs.size=none:=I.hok.fresh (Nat.le_refl _)
theorem Inv.lstM (I:Inv X pins σ H s) (hH:H l=some (.lst xs)):xs.length≤sizeLine∧∃ (its:List Value) (n:Nat),Vals xs its∧xs.length=its.length∧s.heap.get? l=some { cls:=.type "list",data:=.seq its.toArray n }:=by
  obtain ⟨z,its,n,r,e⟩:=I.hok l _ hH
  exact ⟨z,its,n,r,r.length,e⟩
theorem notLongL {n:Nat} (h:n≤sizeLine):Builtin.List.listTooLong n=false:=by
  unfold Builtin.List.listTooLong
  exact decide_eq_false (by omega)
end
section
variable {X:Cx}
def rAppend:V→List V→Hp→VK→Prop:=fun x vs H Q=>∃ l xs y,x=.ref l∧vs=[y]∧H l=some (.lst xs)∧xs.length < sizeLine∧Q .non (upd H l (.lst (xs++[y])))
theorem mt_append:MtM X "list.append" rAppend:=by
  intro pins s σ H x vs v us Q I rx rv h
  obtain ⟨l,xs,y,rfl,rfl,hH,hz,q⟩:=h
  cases rx
  obtain ⟨u,rfl,ru⟩:=rv.one
  obtain ⟨z,its,n,r,hl,e⟩:=I.lstM hH
  refine call_meets F.slot_list_append ⟨_,e,rfl⟩ F.entry_list_append (F.args_list_append_2 _ _) (PySem.list_append l its.toArray n u (by rw [List.size_toArray]; omega)) ⟨e,?_⟩
  refine ⟨.non,_,I.lset (its':=its++[u]) hH e (by simp) (r.append (.cons ru .nil)) ?_,rfl,q⟩
  rw [List.length_append,List.length_singleton]
  omega
def rExtend:V→List V→Hp→VK→Prop:=fun x vs H Q=>∃ l b xs zs,x=.ref l∧vs=[.ref b]∧H l=some (.lst xs)∧H b=some (.lst zs)∧xs.length+zs.length≤sizeLine∧Q .non (upd H l (.lst (xs++zs)))
theorem mt_extend:MtM X "list.extend" rExtend:=by
  intro pins s σ H x vs v us Q I rx rv h
  obtain ⟨l,b,xs,zs,rfl,rfl,hH,hB,hz,q⟩:=h
  cases rx
  obtain ⟨u,rfl,ru⟩:=rv.one
  cases ru
  obtain ⟨z,its,n,r,hl,e⟩:=I.lstM hH
  obtain ⟨z2,its2,n2,r2,hl2,e2⟩:=I.lstM hB
  have hsz:its.toArray.size+its2.toArray.size≤sizeLine:=by rw [List.size_toArray,List.size_toArray]; omega
  have hlong:¬ (!its.toArray.isEmpty && Builtin.List.listTooLong (its.toArray.size+its2.toArray.size))=true:=by
    rw [notLongL hsz,Bool.and_false]
    exact Bool.false_ne_true
  refine call_meets F.slot_list_extend ⟨_,e,rfl⟩ F.entry_list_extend (F.args_list_extend_2 _ _)
    (AutoSeq1.list_extend_list_list_0 l its.toArray n b its2.toArray n2 hlong (by rw [List.size_toArray]; omega) (by omega)) ⟨e,e2,?_⟩
  refine ⟨.non,_,I.lset (its':=its++its2) hH e (by simp) (r.append r2) ?_,rfl,q⟩
  rw [List.length_append]
  omega
def rPop:V→List V→Hp→VK→Prop:=fun x vs H Q=>∃ l xs y,x=.ref l∧vs=[]∧H l=some (.lst xs)∧xs[xs.length - 1]?=some y∧Q y (upd H l (.lst xs.dropLast))
theorem mt_pop:MtM X "list.pop" rPop:=by
  intro pins s σ H x vs v us Q I rx rv h
  obtain ⟨l,xs,y,rfl,rfl,hH,hy,q⟩:=h
  cases rx
  have hus:=rv.zero
  subst hus
  obtain ⟨z,its,n,r,hl,e⟩:=I.lstM hH
  obtain ⟨u,hu,ru⟩:=r.get hy
  have hy':its.toArray[its.toArray.size - 1]?=some u:=by
    show its.toArray[its.length - 1]?=some u
    rw [← Array.getElem?_toList,← hl]
    exact hu
  refine call_meets F.slot_list_pop ⟨_,e,rfl⟩ F.entry_list_pop (F.args_list_pop_1 _) (MeetsSeq.list_pop_last l its.toArray n u hy' (by rw [List.size_toArray]; omega)) ⟨e,?_⟩
  refine ⟨y,_,I.lset (its':=its.dropLast) hH e ?_ r.dropLast ?_,ru,q⟩
  · show its.toArray.eraseIdxIfInBounds (its.toArray.size - 1)=its.dropLast.toArray
    rw [List.size_toArray,List.eraseIdxIfInBounds_toArray,erase_last]
  · rw [List.length_dropLast]
    omega
def rPopAt:V→List V→Hp→VK→Prop:=fun x vs H Q=>∃ l xs i k y,x=.ref l∧vs=[.int i]∧H l=some (.lst xs)∧-(2^63)≤i∧i < 2^63∧seqIndex? i xs.length=some k∧xs[k]?=some y∧Q y (upd H l (.lst (xs.eraseIdx k)))
theorem mt_popAt:MtM X "list.pop" rPopAt:=by
  intro pins s σ H x vs v us Q I rx rv h
  obtain ⟨l,xs,i,k,y,rfl,rfl,hH,h1,h2,hk,hy,q⟩:=h
  cases rx
  obtain ⟨u,rfl,ru⟩:=rv.one
  obtain ⟨t,rfl⟩:=ru
  obtain ⟨z,its,n,r,hl,e⟩:=I.lstM hH
  obtain ⟨w,hw,rw'⟩:=r.get hy
  refine call_meets F.slot_list_pop ⟨_,e,rfl⟩ F.entry_list_pop (F.args_list_pop_2 _ _)
    (MeetsSeq.list_pop_at l its.toArray n i t k w (fitsIndex_both h1 h2) (by rw [List.size_toArray,← hl]; exact hk) (by rw [← Array.getElem?_toList]; exact hw) (by rw [List.size_toArray]; omega)) ⟨e,?_⟩
  refine ⟨y,_,I.lset (its':=its.eraseIdx k) hH e ?_ (r.eraseIdx k) ?_,rw',q⟩
  · show its.toArray.eraseIdxIfInBounds k=(its.eraseIdx k).toArray
    rw [List.eraseIdxIfInBounds_toArray]
  · have:=len_erase xs k
    omega
def rCat:R2:=fun x y H Q=>∃ l b xs zs,x=.ref l∧y=.ref b∧H l=some (.lst xs)∧H b=some (.lst zs)∧xs.length+zs.length≤sizeLine∧∀ p,H p=none→Q (.ref p) (upd H p (.lst (xs++zs)))
theorem op_cat:OpR X (binaryOp .Add) rCat:=by
  intro pins s σ H x y v u Q I rx ry h
  obtain ⟨l,b,xs,zs,rfl,rfl,hH,hB,hz,q⟩:=h
  cases rx
  cases ry
  obtain ⟨z,its,n,r,hl,e⟩:=I.lstM hH
  obtain ⟨z2,its2,n2,r2,hl2,e2⟩:=I.lstM hB
  refine PySem.P.add_list e e2 ?_ (by rw [List.size_toArray,List.size_toArray]; omega)
  have ea:its.toArray++its2.toArray=(its++its2).toArray:=by simp
  rw [ea]
  exact ⟨.ref _,_,I.lnew (t':=s.toks) (r.append r2) (by rw [List.length_append]; omega),rfl,q _ I.fresh⟩
def rRep:R2:=fun x y H Q=>∃ l k xs,x=.ref l∧y=.int k∧H l=some (.lst xs)∧-(2^63)≤k∧k < 2^63∧xs.length * k.toNat≤sizeLine ∧
  ∀ p,H p=none→Q (.ref p) (upd H p (.lst (List.replicate k.toNat xs).flatten))
theorem len_rep {α:Type} (xs:List α) (k:Nat):(List.replicate k xs).flatten.length=k * xs.length:=by
  induction k with
  | zero=>simp
  | succ k ih=>rw [List.replicate_succ,List.flatten_cons,List.length_append,ih,Nat.succ_mul,Nat.add_comm]
theorem op_rep:OpR X (binaryOp .Mult) rRep:=by
  intro pins s σ H x y v u Q I rx ry h
  obtain ⟨l,k,xs,rfl,rfl,hH,h1,h2,hz,q⟩:=h
  cases rx
  obtain ⟨t,rfl⟩:=ry
  obtain ⟨z,its,n,r,hl,e⟩:=I.lstM hH
  have hlen:its.toArray.size * k.toNat≤sizeLine:=by rw [List.size_toArray,← hl]; exact hz
  have hcap:¬ its.toArray.size * k.toNat > (2^63 - 1) / 8:=by
    have:(sizeLine:Nat)≤(2^63 - 1) / 8:=by decide
    omega
  have hfit:¬ (!Builtin.List.listFitsIndex k)=true:=by
    rw [fitsIndex_both h1 h2]
    exact Bool.false_ne_true
  have hlong:¬ Builtin.List.listTooLong (its.toArray.size * k.toNat)=true:=by
    rw [notLongL hlen]
    exact Bool.false_ne_true
  have hnew:List.foldl (fun x1 x2=>x1++x2) #[] (List.replicate (if its.toArray.isEmpty=true then 0 else k.toNat) its.toArray)=(List.replicate k.toNat its).flatten.toArray:=by
    have f0:∀ m:Nat,List.foldl (fun x1 x2=>x1++x2) #[] (List.replicate m its.toArray)=(List.replicate m its).flatten.toArray:=fun m=>by
      have:=foldl_rep its m []
      rw [List.nil_append] at this
      exact this
    rw [f0]
    cases its with
    | nil=>simp
    | cons a r'=>rw [if_neg (by simp)]
  refine wpAny_binaryOp_repeat_ref (T:="list") (U:="int") (by decide) ⟨_,e,rfl⟩ (fun s'=>typeIs_int s' k t) noFill_list_mul F.fills_int_mul F.slot_int_rmul repeat_list F.slot_int_index.lookup
    (call_meets F.slot_int_rmul (typeIs_int s k t) F.entry_int_rmul (F.args_int_rmul_2 _ _) (int___rmul___int_list k t l its.toArray n)
      ⟨e,rfl,⟨_,e,rfl⟩,call_meets F.slot_list_mul ⟨_,e,rfl⟩ F.entry_list_mul (F.args_list_mul_2 _ _) (AutoListH.list___mul___list_int_3 l its.toArray n k t hfit hcap hlong) ⟨e,?_⟩⟩)
  rw [hnew]
  exact ⟨.ref _,_,I.lnew (t':=s.toks) (r.rep k.toNat) (by rw [len_rep,Nat.mul_comm]; exact hz),rfl,q _ I.fresh⟩
end
section
variable {prog:Program} {w:World} {A:Around} {E:Value→Shared→Prop} {s:Shared}
end
section
variable {X:Cx}
end
end L2
namespace Att
open PySem PySem.W PySem.Calls PyProof.Rows
theorem ints_of_wellAll {P:Params} {h:Heap}:∀ (ns:List Int) (vs:List Value),WellAll P h vs (ns.map WData.int)→IntsAre vs ns:=by
  intro ns
  induction ns with
  | nil =>
    intro vs w
    rw [List.map_nil] at w
    cases w
    exact .nil
  | cons n ns ih =>
    intro vs w
    rw [List.map_cons] at w
    cases w with
    | cons a b =>
      cases a
      exact .cons _ _ (ih _ b)
theorem script_of {l:OpenLaw} {n:Nat} (hn:l.most=some n) {P:Params} {h:Heap} {args:List WData} {vals:List Value}
    (hpre:l.row.toRowW.claim.pre args=true) (hwl:WellAll P h vals args) :
    ∃ a vs ns,vals=[Value.ref a]∧args=[WData.list (ns.map WData.int)]∧h.get? a=some { cls:=.type "list",data:=.seq vs.toArray }∧IntsAre vs ns∧ns.length≤n:=by
  have hsh:WShape.hasAll [] args [.list .int]=true:=(pre_splitW hpre).1
  have hc:l.pre.holds [] { args:=args }=true:=(pre_splitW hpre).2
  obtain ⟨d,r,rfl,h1,h2⟩:=hasAllW_cons hsh
  obtain rfl:=hasAllW_nil h2
  obtain ⟨xs,rfl,h3⟩:=hasW_list h1
  obtain ⟨ns,rfl⟩:=items_int h3
  have hlen:ns.length≤n:=by
    unfold OpenLaw.pre at hc
    have h4:(WTm.not (.lt (.lit (.int (n:Int))) (.len (.arg 0)))).holds [] { args:=[.list (ns.map .int)] }=true:=by
      have h4:=(holds_andW hc).1
      rw [hn] at h4
      exact h4
    have h5:=condW_of h4 (w_not (w_lt w_lit (w_len_list (w_arg rfl))))
    rw [List.length_map] at h5
    refine Nat.le_of_not_lt fun q=>?_
    have q':(n:Int) < ((ns.length:Nat):Int):=by omega
    first
      | (rw [decide_eq_true q'] at h5; exact absurd h5 (by decide))
      | (simp at h5; omega)
  cases hwl with
  | cons w1 w2 =>
    cases w2
    cases w1 with
    | list ho hall=>exact ⟨_,_,ns,rfl,rfl,ho,ints_of_wellAll ns _ hall,hlen⟩
theorem post_true (l:OpenLaw) (args:List WData):l.row.toRowW.claim.post args (.bool true) args=true :=
  postW_of (r:=l.row.toRowW) (X:=(true == true))
    (show WShape.has [] (.bool true) .bool=true by first | rfl | decide | simp [WShape.has,WShape.arms,WShape.armsAll])
    (show (WTm.eq .res (.lit (.bool true))).value [] { args:=args,res:=some (.bool true),after:=args }=some (.bool (true == true)) from w_eq_bool (w_res rfl) w_lit) rfl
theorem attach_call {l:OpenLaw} {n:Nat} {q:Program} {loose:List Str} {XP:(Str→Option Value)→Heap→Prop} {YP:World→Heap→Prop} {d:DefRec}
    (hn:l.most=some n) (hdf:d.params.defaults=[])
    (call:∀ (w:World) (s₀ s₁:Shared) (mg mb:Str→Option Value) (fa:Addr) (o:Obj) (pm cd doc:Value) (a:Addr) (vs:List Value) (ns:List Int),
      Ground q loose [] XP w s₀ mg mb s₁.heap→YP w s₁.heap →
      s₁.heap.get? fa=some o→o.data=.func (docDef d.name d.params d.body d.scope pm cd doc)→s₁.heap.CodeRec cd d.name→mg d.name=some (.ref fa) →
      s₁.heap.get? a=some { cls:=.type "list",data:=.seq vs.toArray }→IntsAre vs ns→ns.length≤n→s₁.gens=#[] →
      codeAny (model l.prog w) callerA (.call (.ref fa) ⟨[.ref a],[]⟩) (fun r s'=>r=.ok (.ret (.bool true))∧OldK s₁.heap s'.heap∧s'.os=s₁.os∧AllBare s'.gens) s₁) :
    WalkO q loose XP YP l.row.toRowW d [] (fun f vs=>PySem.call f vs):=by
  intro w s₀ s₁ mg mb G Y fa o pm cd doc dV kV ho hd hcd hD hmg hg args vals as hpre hlay hrd hwl hlo
  obtain rfl:dV=.none:=Dflts.none hD hdf
  obtain rfl:kV=.none:=Dflts.noKw hD
  obtain ⟨a,vs,ns,rfl,rfl,hobj,hints,hlen⟩:=script_of hn hpre hwl
  refine enter_call (codeAny_mono (call w s₀ s₁ mg mb fa o pm cd doc a vs ns G Y ho (fd_plain hd) hcd hmg hobj hints hlen hg) fun r s' hq=>?_)
  obtain ⟨rfl,h2,h3,h4⟩:=hq
  exact ⟨.inl ⟨.bool true,.bool true,[],rfl,fun _=>rfl,.bool true,post_true l _,fun _=>⟨List.Pairwise.nil,fun _ hm=>(nomatch hm)⟩⟩,h2,h3,h4⟩
section
variable {prog:Program} {w:World} {A:Around} {E:Value→Shared→Prop} {s:Shared} {K:Frag}
end
end Att
namespace L2
open PySem PySem.Spec PyProof.Rows
theorem vals_ints:∀ {vs:List Value} {ns:List Int},IntsAre vs ns→Vals (ns.map V.int) vs
  | _,_,.nil=>.nil
  | _,_,.cons n t h=>.cons ⟨t,rfl⟩ (vals_ints h)
def Only (H:Hp):Prop:=∀ b,H b=none∨∃ o xs,H b=some (.frz o (.lst xs))
theorem law_call {P:Program} {w:World} {K:PySem.W.Frag} {mg mb:Str→Option Value} {CX:CXT} {k:Nat} {fa a:Addr} {fd:FuncData} {x:Str} {sp:Sp} {s₁:Shared} {vs:List Value} {ns:List Int}
    (KX:K.In s₁.heap) (hns:s₁.heap.Ns mainGlobals mg) (hb:s₁.heap.Ns builtinsNs mb) (hbb:∀ x:Str,x≠"__name__"→mb x=bootBuiltins x) (hlim:s₁.heap.NoLimit) (hg:s₁.gens=#[])
    (ha:s₁.heap.get? a=some { cls:=.type "list",data:=.seq vs.toArray }) (hi:IntsAre vs ns) (hl:ns.length≤sizeLine) (hr:Room k callerA)
    (F:∀ base:Heap,K.In base→base.Ns mainGlobals mg→FnOk P w K mg base CX k fa fd [x] sp) (hbind:∀ (s:Shared) (u:Value),BindsTo s fd ⟨[u],[]⟩ [(x,u)])
    (hsp:∀ H:Hp,Only H→SqL K H a (ns.map V.int)→sp [.ref a] H (fun v _=>v=.bl true) fun _ _ _=>False)
    (hCX:∀ H e s',CX [] H s₁ (fun _ _ _=>False) e s'→False) :
    codeAny (model P w) callerA (.call (.ref fa) ⟨[.ref a],[]⟩) (fun r s'=>r=.ok (.ret (.bool true))∧OldK s₁.heap s'.heap∧s'.os=s₁.os∧AllBare s'.gens) s₁:=by
  have rv:=vals_ints hi
  have lenV:=hi.length
  have core:∀ H:Hp,Only H→SqL K H a (ns.map V.int)→HOk P w H s₁.heap→(∀ b,H b≠none→b=a)→(H a≠none→K.lookup a=none) →
      codeAny (model P w) callerA (.call (.ref fa) ⟨[.ref a],[]⟩) (fun r s'=>r=.ok (.ret (.bool true))∧OldK s₁.heap s'.heap∧s'.os=s₁.os∧AllBare s'.gens) s₁:=by
    intro H hO hS hok hA hK
    have base_of:∀ {b:Addr} {o:Obj},s₁.heap.get? b=some o→H b=none→(hidT s₁.heap H).get? b=some o:=fun e n=>hidT_get e n
    have noA:∀ {b:Addr} {o:Obj} {es:Array DictEntry} {ep:Nat},s₁.heap.get? b=some o→o.data=.dict es ep→H b=none:=fun {b o es ep} e d=>by
      cases q:H b with
      | none=>rfl
      | some u =>
        have e':b=a:=hA b (by rw [q]; simp)
        subst e'
        rw [ha] at e; cases e
        have d':Data.seq vs.toArray _=Data.dict es ep:=d
        cases d'
    have nsK:∀ {b:Addr} {m:Str→Option Value},s₁.heap.Ns b m→(hidT s₁.heap H).Ns b m:=fun {b m} ⟨o,es,ep,e,d,r⟩=>⟨o,es,ep,base_of e (noA e d),d,r⟩
    have hKb:K.In (hidT s₁.heap H):=fun b o e=>base_of (KX b o e) (by
      cases q:H b with
      | none=>rfl
      | some u =>
        have e':b=a:=hA b (by rw [q]; simp)
        subst e'
        rw [hK (by rw [q]; simp)] at e; cases e)
    have hM:Mod K mg (hidT s₁.heap H):=⟨hKb,nsK hns,⟨mb,nsK hb,hbb⟩,let ⟨mc,h1,h2⟩:=hlim; ⟨mc,nsK h1,h2⟩⟩
    have e0:Env0 P w K mg (hidT s₁.heap H) callerA [] s₁ H:=⟨rfl,hM,fun b o e=>of_hidT e,Nat.le_of_eq (hidT_size _ _),trivial,fun b hb=>absurd (show b∈([]:List Addr) from hb) (by simp),hok,.of_eq hg⟩
    refine codeAny_mono ((F _ hKb (nsK hns)).run callerA [] s₁ H ⟨[.ref a],[]⟩ [.ref a] [.ref a] _ _ hr e0 (hbind s₁ (.ref a)) (.cons rfl .nil) (hsp H hO hS)) fun r s' h=>?_
    cases r with
    | error e=>exact (hCX H e s' h).elim
    | ok fl =>
      cases fl with
      | next=>exact False.elim h
      | brk=>exact False.elim h
      | cont=>exact False.elim h
      | ret u =>
        obtain ⟨v,H',os,bare,un,hok',r',q⟩:=h
        have q':v=.bl true:=q
        subst q'
        obtain rfl:u=Value.bool true:=r'
        refine ⟨rfl,OldK.of_keep fun b o e=>?_,os,bare⟩
        cases q:H b with
        | none=>exact un.keep b o e q (by intro z; exact absurd (show b∈([]:List Addr) from z) (by simp)) (by simp)
        | some u =>
          rcases hO b with z | ⟨ob,xs,z⟩
          · rw [q] at z; cases z
          · have z2:=un.frzs b ob _ z
            obtain ⟨e1,_⟩:=hok b _ z
            obtain ⟨e2,_⟩:=hok' b _ z2
            rw [e] at e1; cases e1
            exact e2
  cases hk:K.lookup a with
  | some o =>
    have e:=KX a o hk
    rw [ha] at e
    cases e
    refine core (fun _=>none) (fun _=>.inl rfl) (.inr ⟨_,vs.toArray,_,hk,rfl,rfl,rfl,by rw [List.size_toArray,lenV]; exact hl,by simpa using rv⟩) (fun b u z=>by have z':(none:Option HO)=some u:=z; cases z') (fun b z=>absurd rfl z) fun z=>absurd rfl z
  | none =>
    refine core (fun b=>if b=a then some (.frz { cls:=.type "list",data:=.seq vs.toArray } (.lst (ns.map V.int))) else none) (fun b=>?_) (.inl (.inr ⟨{ cls:=.type "list",data:=.seq vs.toArray },if_pos rfl⟩)) (fun b u z=>?_) (fun b z=>?_) fun _=>hk
    · by_cases hb:b=a
      · exact .inr ⟨_,_,if_pos hb⟩
      · exact .inl (if_neg hb)
    · by_cases hb:b=a
      · have z':=(if_pos hb).symm.trans z
        cases z'
        subst hb
        exact ⟨ha,by rw [List.length_map]; exact hl,vs,_,rv,ha⟩
      · have z':=(if_neg hb).symm.trans z
        cases z'
    · by_cases hb:b=a
      · exact hb
      · exact absurd (if_neg hb) z
end L2
namespace L2
open PySem PySem.Spec PyProof.Rows
abbrev KOf {K:PySem.W.Frag} {h:Heap} (_:K.In h):PySem.W.Frag:=K
theorem walk_of {l:PySem.W.OpenLaw} {n k:Nat} {q:Program} {loose:List Str} {XP:(Str→Option Value)→Heap→Prop} {YP:World→Heap→Prop} {d:DefRec} {K:Params→PySem.W.Frag} {CX:World→CXT} {sp:World→Sp} {x:Str}
    (hn:l.most=some n) (hn2:n≤sizeLine) (hdf:d.params.defaults=[]) (hr:Room k callerA)
    (hY:∀ (w:World) (h:Heap),YP w h→(K w.params).In h)
    (F:∀ (w:World) (mg:Str→Option Value) (fa:Addr) (h:Heap),(K w.params).In h→h.Ns mainGlobals mg→mg d.name=some (.ref fa) →
      ∃ fd:FuncData,(∀ (s:Shared) (u:Value),BindsTo s fd ⟨[u],[]⟩ [(x,u)]) ∧
        ∀ base:Heap,(K w.params).In base→base.Ns mainGlobals mg→FnOk l.prog w (K w.params) mg base (CX w) k fa fd [x] (sp w))
    (hsp:∀ (w:World) (H:Hp) (a:Addr) (ns:List Int),ns.length≤n→Only H→SqL (K w.params) H a (ns.map V.int)→sp w [.ref a] H (fun v _=>v=.bl true) fun _ _ _=>False)
    (hCX:∀ (w:World) (H:Hp) (s:Shared) (e:Value) (s':Shared),CX w [] H s (fun _ _ _=>False) e s'→False) :
    PySem.W.WalkO q loose XP YP l.row.toRowW d [] (fun f vs=>PySem.call f vs):=by
  refine Att.attach_call hn hdf fun w s₀ s₁ mg mb fa o pm cd doc a vs ns G Y ho hd hcd hmg hobj hints hlen hg=>?_
  have KX:=hY w _ Y
  obtain ⟨fd,hb,hF⟩:=F w mg fa _ KX G.T.g hmg
  exact law_call KX G.T.g G.T.b G.T.builtins G.T.nolimit hg hobj hints (Nat.le_trans hlen hn2) hr hF hb (fun H hO hS=>hsp w H a ns hlen hO hS) fun H e s'=>hCX w H s₁ e s'
end L2
/- THE LAST THEOREM (shape; LID,My.* are yours):
   My.Adr: a structure of the addresses that your layer names (classes,functions); My.Txt K t: a structure (Prop) of the equations over K;
   My.txt_mk:{K} {implicit addresses ..} (e1:nsIn K mainGlobals "law"=some (some (.ref f))) (e2:K.lookup f=some ⟨oc,od,.func (fnOf "law" "law" params body scope dV kV doc pm an cdv ct),sl⟩) (e3:codeIn K cdv "law"=true) ..:∃ t,My.Txt K t
set_option maxRecDepth 100000 in
set_option maxHeartbeats 0 in
theorem PySem.Challenge.cw_LID_holds:PySem.Challenge.rw_LID.Holds:=by
  w_on; o_law; k_head; (case hw=>w_witness2)
  k_fill
  refine L2.walk_of (l:=PySem.Challenge.rw_LID) (n:=63) (k:=40) (x:="script") (CX:=fun w=>..) (sp:=fun _=>My.sp_law) rfl (by decide) rfl ⟨rfl,by decide,by decide⟩ (fun w h Y=>PySem.W.kIn_of Y) ?F ?S ?C
  case F =>
    intro w mg fa h KX G hmg
    have T:∃ t,My.Txt (L2.KOf KX) t:=by
      dsimp only [L2.KOf]                          -- K must stand as «<heap const> w.params» for k_is
      refine' My.txt_mk ?e1 ?e2 ?e3 ..
      (case e1=>PySem.W.k_is)                    -- in the order: a name -> its address -> its object -> its parts
      (case e2=>PySem.W.k_is)
      ..
    obtain ⟨t,T⟩:=T
    have e0:=hmg.symm.trans (PySem.W.mg_of KX G T.law)
    cases e0                                       -- fa is the law's own address
    exact ⟨_,fun s u=>.of_eq rfl,fun base kb nb=>My.law_fn T kb nb⟩     -- if «.of_eq rfl» comes too early: refine' ⟨_,?b,fun base kb nb=>My.law_fn T kb nb⟩; exact fun s u=>.of_eq rfl
  case S=>exact fun w H a ns hl hO hS=>..
  case C=>exact ..
(the tactic k_is has no namespace: write k_is) -/
namespace L2
open PySem PySem.Spec PyProof.Rows
def inClass (s:Stmt) (j:Nat):Stmt:=match s with
  | .ClassDef _ _ _ body _ _ _ _ _ _ _=>body.getD j (.Pass ⟨0,0,0,0⟩)
  | _=>.Pass ⟨0,0,0,0⟩
def defArgs (s:Stmt):Arguments:=match s with
  | .FunctionDef _ a _ _ _ _ _ _ _ _=>a
  | _=>{ posonlyargs:=[],args:=[],vararg:=none,kwonlyargs:=[],kw_defaults:=[],kwarg:=none,defaults:=[] }
def defBody (s:Stmt):List Stmt:=match s with
  | .FunctionDef _ _ b _ _ _ _ _ _ _=>b
  | _=>[]
def defScope (s:Stmt):Scope:=match s with
  | .FunctionDef _ _ _ _ _ _ sc _ _ _=>sc
  | _=>{ kind:=.function,names:=[],isGenerator:=false,isCoroutine:=false }
abbrev CX0:CXT:=fun _ _ _ _ _ _=>False
abbrev E0:XK:=fun _ _ _=>False
theorem pass0 {X:Cx}:Passes CX0 X E0:=fun _ _ _ _ _ _ _ h=>h.elim
structure Fun (K:PySem.W.Frag) (x qual:Str) (st:Stmt) (f:Addr) (fd:FuncData):Prop where
  ex:∃ (oc:Value) (od:Option Addr) (kV doc pm:Value) (an:Option Addr) (cdv ct:Value) (osl:Array (Option Value)),
    fd=PySem.W.fnOf x qual (defArgs st) (defBody st) (defScope st) .none kV doc pm an cdv ct∧K.lookup f=some ⟨oc,od,.func fd,osl⟩∧PySem.W.codeIn K cdv qual=true
  kp:PySem.W.keepIn K (.ref f)=true
section
variable {P:Program} {w:World} {K:PySem.W.Frag} {mg:Str→Option Value} {base:Heap}
theorem Fun.ok {x qual:Str} {st:Stmt} {f:Addr} {fd:FuncData} {N ps:List Str} {k:Nat} {sp:Sp} (F:Fun K x qual st f fd) (S:FnScope N ps (defScope st)) (len:∀ vs H Q E,sp vs H Q E→vs.length=ps.length)
    (hbody:∀ (cdv:Value) (A:Around) (outer:List Env) (s:Shared) (H:Hp) (vs:List V) (Q:VK) (E:XK),Room k (A.deeper (envOfC qual (defScope st) s.heap.objs.size f cdv))→sp vs H Q E →
      ∃ t,PSs (cxOf CX0 P w K mg base N qual (defScope st) f cdv A outer s H E).nox (defBody st) t∧t { nx:=fun _ H'=>Q .non H',rt:=Q } (start N vs) H):FnOk P w K mg base CX0 (k+1) f fd ps sp:=by
  obtain ⟨oc,od,kV,doc,pm,an,cdv,ct,osl,rfl,lk,hcd⟩:=F.ex
  refine fn_of lk hcd S len fun A outer s H vs Q E hr hsp=>?_
  obtain ⟨t,h,q⟩:=hbody cdv A outer s H vs Q E hr hsp
  exact ⟨t,h.nox,q⟩
theorem Fun.binds {x qual:Str} {st:Stmt} {f:Addr} {fd:FuncData} {ps:List Str} (F:Fun K x qual st f fd)
    (h:∀ (kV doc pm:Value) (an:Option Addr) (cdv ct:Value) (us:List Value),us.length=ps.length→bindArgs (PySem.W.fnOf x qual (defArgs st) (defBody st) (defScope st) .none kV doc pm an cdv ct) ⟨us,[]⟩=pure (ps.zip us)):Binds K fd ps []:=by
  obtain ⟨oc,od,kV,doc,pm,an,cdv,ct,osl,rfl,lk,hcd⟩:=F.ex
  exact .all (h kV doc pm an cdv ct)
theorem fun_mk {x qual:Str} {st:Stmt} {f:Addr} {oc:Value} {od an:Option Addr} {osl:Array (Option Value)} {kV doc pm cdv ct:Value} (l:K.lookup f=some ⟨oc,od,.func (PySem.W.fnOf x qual (defArgs st) (defBody st) (defScope st) .none kV doc pm an cdv ct),osl⟩)
    (c:PySem.W.codeIn K cdv qual=true) (k:PySem.W.keepIn K (.ref f)=true):Fun K x qual st f (PySem.W.fnOf x qual (defArgs st) (defBody st) (defScope st) .none kV doc pm an cdv ct):=⟨⟨oc,od,kV,doc,pm,an,cdv,ct,osl,rfl,l,c⟩,k⟩
end
theorem hu_of {A:Around} {k:Nat} (hr:Room k A):A.units+1 < cLine:=Nat.lt_of_le_of_lt (Nat.add_le_add_left (by decide:1≤64) _) hr.units
theorem small1000 {n:Nat} (h:n≤1000):n < sizeLine:=Nat.lt_of_le_of_lt h (by decide)
section
variable {X:Cx}
theorem pv (i:Nat) {x:Str} {pos:Pos} (hN:X.N[i]?=some x:=by rfl) (hv:Vis X.env.scope x:=by first | exact Or.inl rfl | exact Or.inr (Or.inl rfl) | exact Or.inr (Or.inr rfl)) (hd:(x == ("__debug__":Str))=false:=by decide)
    (hcd:(x == ("__classdict__":Str))=false:=by decide):PE X (.Name x pos) (tVar i):=pe_var hN hv hd hcd
end
theorem iteF {A B:Prop} (h:B):if false=true then A else B:=by
  rw [if_neg Bool.false_ne_true]
  exact h
theorem iteT {A B:Prop} (h:A):if true=true then A else B:=by
  rw [if_pos rfl]
  exact h
def Same (H H':Hp):Prop:=∀ b o,H b=some o→H' b=some o
theorem Same.refl (H:Hp):Same H H:=fun _ _ h=>h
theorem Same.trans {H H1 H2:Hp} (a:Same H H1) (b:Same H1 H2):Same H H2:=fun c o h=>b c o (a c o h)
theorem Same.seq {K:PySem.W.Frag} {H H':Hp} {a:Addr} {xs:List V} (e:Same H H') (h:SqL K H a xs):SqL K H' a xs:=by
  rcases h with (h | ⟨o,h⟩) | h
  · exact .inl (.inl (e _ _ h))
  · exact .inl (.inr ⟨o,e _ _ h⟩)
  · exact .inr h
end L2
set_option maxHeartbeats 4000000
namespace L2
open PySem PySem.W PyProof.Rows
def lookO {α β:Type} (oS:Program→List Str→List Str→(Shared→Bool)→Bool→Shared→α) (ms:List Str) (p q:Program) (lo:List Str) (Xt:Shared→Bool) (Yf:Shared→β) (h0:Heap) (s:Shared):Bool × α × β :=
  ((((staticsOk ms h0 s.heap && namesBound p s.heap) && gensDone s) && laidKept h0 s.heap),oS q lo ms Xt true s,Yf s)
noncomputable abbrev atBoot (P:Params) (os:OsState):Shared:=Shared.mk (boot_heap P) (Array.mk []) boot_drawn boot_toks os
theorem left_once {p q:Program} {lo:List Str} {Xt:Shared→Bool} {β:Type} {Yf:Shared→β} {Ya:World→β} {N m:Nat} {an:Option Value}
    (bo:∀ w:World,Option.map (fun s=>(s.heap,s.gens,s.drawn,s.toks)) (fencedOpening treeTable p w N)=some (boot_heap w.params,Array.mk [],boot_drawn,boot_toks))
    (sz:∀ w:World,((boot_heap w.params).isNs mainGlobals,(boot_heap w.params).objs.size,(boot_heap w.params).nsMap mainGlobals "__annotations__")=(true,m,an))
    (rn:∀ (w:World) (os:OsState),Option.map (lookO openSeen (importedModules p.main.body) p q lo Xt Yf (boot_heap w.params)) (topRun treeTable p w m an N (atBoot w.params os) (topStub p))=some (true,openGood q lo,Ya w)) :
    LeftO p q lo Xt Yf Ya N:=by
  intro w
  obtain ⟨s0,e0,e1⟩:=Option.map_eq_some_iff.mp (bo w)
  obtain ⟨hp,gs,dr,tk,os⟩:=s0
  simp only [Prod.mk.injEq] at e1
  obtain ⟨rfl,rfl,rfl,rfl⟩:=e1
  have z:=sz w
  simp only [Prod.mk.injEq] at z
  obtain ⟨z1,z2,z3⟩:=z
  obtain ⟨s1,r1,r2⟩:=Option.map_eq_some_iff.mp (rn w os)
  unfold lookO at r2
  simp only [Prod.mk.injEq] at r2
  obtain ⟨l1,l2,l3⟩:=r2
  have tf:topFrom treeTable p w N (atBoot w.params os)=some s1:=by
    unfold topFrom
    dsimp only
    rw [z1,z2,z3]
    show Option.bind (topRun treeTable p w m an N (atBoot w.params os) (topStub p)) _=_
    rw [r1]
    show (match (((staticsOk (importedModules p.main.body) (boot_heap w.params) s1.heap && namesBound p s1.heap) && gensDone s1) && laidKept (boot_heap w.params) s1.heap) with | true=>some s1 | false=>none)=_
    rw [l1]
  unfold openEnds
  rw [e0]
  show Option.map _ (topFrom treeTable p w N (atBoot w.params os))=_
  rw [tf]
  exact congrArg some (Prod.ext l2 l3)
def treeAt:List Obj→Nat→BT→BT
  | [],_,t=>t
  | o :: r,i,t=>treeAt r (i+1) (t.ins i o)
def topRunT (ok:Thread→Bool) (stp:SharedT→Thread→Option (SharedT × Thread)):Nat→SharedT→Thread→Option SharedT
  | 0,_,_=>none
  | n+1,s,t=>match through t with
    | true=>some s
    | false=>match ok t with
      | false=>none
      | true=>match stp s t with
        | some (s1,t1)=>topRunT ok stp n s1 t1
        | none=>none
theorem topRunT_of {tb:String→Option Builtin} {p:Program} {w:World} {m:Nat} {an:Option Value}:∀ {n:Nat} {s s1:SharedT} {t:Thread},topRunT (stepOk m an) (stepT (denote tb) p w) n s t=some s1→topRun tb p w m an n s.abs t=some s1.abs
  | 0,_,_,_,h=>by cases h
  | n+1,s,s1,t,h=>by
    rw [topRunT] at h
    rw [topRun]
    cases ht:through t with
    | true=>rw [ht] at h; cases h; rfl
    | false =>
      rw [ht] at h
      cases hk:stepOk m an t with
      | false=>rw [hk] at h; cases h
      | true =>
        rw [hk] at h
        cases hs:stepT (denote tb) p w s t with
        | none=>rw [hs] at h; cases h
        | some r =>
          obtain ⟨s2,t2⟩:=r
          rw [hs] at h
          rw [stepT_spec hs]
          exact topRunT_of h
noncomputable def bootT (P:Params):BT:=treeAt (boot_heap P).objs.toList 0 .nil
noncomputable def atBootT (P:Params) (os:OsState):SharedT:=SharedT.mk (bootT P) 11 (boot_heap P).life (Array.mk []) boot_drawn boot_toks os
theorem bootT_is (P:Params) (os:OsState):(atBootT P os).abs=atBoot P os:=by kernel_rfl
theorem ran_of {p q:Program} {lo ms:List Str} {Xt:Shared→Bool} {α β:Type} {Yf:Shared→β} {N m:Nat} {an:Option Value} {w:World} {os:OsState} {r:Bool × α × β} {oS:Program→List Str→List Str→(Shared→Bool)→Bool→Shared→α}
    (h:Option.map (fun s=>lookO oS ms p q lo Xt Yf (boot_heap w.params) (SharedT.abs s)) (topRunT (stepOk m an) (stepT (denote treeTable) p w) N (atBootT w.params os) (topStub p))=some r) :
    Option.map (lookO oS ms p q lo Xt Yf (boot_heap w.params)) (topRun treeTable p w m an N (atBoot w.params os) (topStub p))=some r:=by
  obtain ⟨s,e,z⟩:=Option.map_eq_some_iff.mp h
  have e:=topRunT_of e
  rw [bootT_is] at e
  rw [e]
  exact congrArg some z
theorem run_by {p p':Program} {q:Program→Program} {lo:List Str} {Xt:Program→Shared→Bool} {β:Type} {Yf:Shared→β} {Ya:World→β} {N m:Nat} {an:Option Value}
    {sT:(Code→Sem Fin)→Program→World→SharedT→Thread→Option (SharedT × Thread)} {dn:(String→Option Builtin)→Code→Sem Fin} {tT:String→Option Builtin} {iM:List Stmt→List Str}
    (h1:@stepT=sT) (h0:@denote=dn) (h2:treeTable=tT) (h3:@importedModules=iM) {oS:∀ (q:Program) (lo ms:List Str) (Xt:Shared→Bool) (g0:Bool) (s:Shared),_} (h4:@openSeen=oS) (h5:p=p')
    (rn:∀ (w:World) (os:OsState),Option.map (fun s=>lookO oS (iM p'.main.body) p' (q p') lo (Xt p') Yf (boot_heap w.params) (SharedT.abs s)) (topRunT (stepOk m an) (sT (dn tT) p' w) N (atBootT w.params os) (topStub p'))=some (true,openGood (q p') lo,Ya w)) :
    ∀ (w:World) (os:OsState),Option.map (lookO openSeen (importedModules p.main.body) p (q p) lo (Xt p) Yf (boot_heap w.params)) (topRun treeTable p w m an N (atBoot w.params os) (topStub p))=some (true,openGood (q p) lo,Ya w):=by
  subst h1 h0 h2 h3 h4 h5
  exact fun w os=>ran_of (rn w os)
end L2
namespace KH
open PySem PySem.W PyProof.Rows L2
def top (i:Nat):Stmt:=PySem.Challenge.pw_glazebench_k63_whole_any_tree_is_on_the.main.body.getD i (.Pass ⟨0,0,0,0⟩)
def kE (P:Params) (x:Str) (t:Tok) (v:Value):DictEntry:=⟨PyData.keyHash P x,.str x t,v⟩
def k2 (P:Params):Obj:=⟨.none,none,(.dict #[] 0),#[]⟩
def k3 (P:Params):Obj:=⟨(.type "dict"),none,(.dict #[kE P "__name__" 165 (.str "law_glazebench_k63_whole_any_tree_is_on_the" 760),kE P "__doc__" 166 .none,kE P "__package__" 167 .none,kE P "__loader__" 168 (.builtin "__main__.__loader__#opaque"),kE P "__spec__" 169 .none,kE P "__annotations__" 170 (.ref 6),kE P "__builtins__" 171 (.ref 4),kE P "__file__" 173 (.str "/claim/cut.py" 172),kE P "__cached__" 174 .none,kE P "_wall" 193 (.ref 21),kE P "GlassError" 213 (.ref 31),kE P "TooMany" 238 (.ref 51),kE P "NoWant" 263 (.ref 70),kE P "NoSheet" 288 (.ref 89),kE P "NoPlan" 313 (.ref 108),kE P "LONGEST_SIDE" 317 (.int (12) 316),kE P "is_whole" 324 (.ref 117),kE P "is_side" 331 (.ref 124),kE P "WHOLE" 335 (.str "whole" 334),kE P "UPRIGHT" 337 (.str "upright" 336),kE P "LEVEL" 339 (.str "level" 338),kE P "Tree" 396 (.ref 167),kE P "Whole" 421 (.ref 189),kE P "Upright" 450 (.ref 208),kE P "Level" 479 (.ref 227),kE P "kind_of" 486 (.ref 236),kE P "entry_of" 494 (.ref 243),kE P "entries_of" 504 (.ref 250),kE P "cut_from" 514 (.ref 257),kE P "tree_from" 526 (.ref 264),kE P "turned_word" 533 (.ref 271),kE P "MOST_WANTS" 537 (.int (6) 536),kE P "TOO_HIGH" 539 (.int (13) 538),kE P "is_want" 546 (.ref 278),kE P "check_wants" 555 (.ref 285),kE P "ways_to_lie" 562 (.ref 292),kE P "ways_held" 568 (.ref 297),kE P "is_alone" 575 (.ref 304),kE P "number_alone" 582 (.ref 311),kE P "all_parts" 588 (.ref 316),kE P "parts_with_least" 594 (.ref 321),kE P "cuts_to" 600 (.ref 326),kE P "least_height" 606 (.ref 331),kE P "heights_of_parts" 612 (.ref 336),kE P "stair" 618 (.ref 341),kE P "all_bits" 625 (.ref 348),kE P "stairs" 635 (.ref 355),kE P "cut_off" 646 (.ref 362),kE P "tree_alone" 657 (.ref 369),kE P "tree_for" 674 (.ref 376),kE P "MOST_SHEETS" 678 (.int (4) 677),kE P "is_sheet" 685 (.ref 383),kE P "check_sheets" 694 (.ref 390),kE P "heights_for" 702 (.ref 397),kE P "cheapest_sheets" 708 (.ref 402),kE P "first_sheets" 714 (.ref 407),kE P "glass_by_set" 725 (.ref 414),kE P "least_glass" 734 (.ref 421),kE P "check_served" 743 (.ref 428),kE P "plan" 759 (.ref 435),kE P "_law_at" 770 (.ref 442),kE P "_law_more" 776 (.ref 447),kE P "_law_knead" 787 (.ref 454),kE P "_law_mark" 794 (.ref 461),kE P "_law_drawn" 809 (.ref 468),kE P "_law_rectangles" 822 (.ref 475),kE P "_law_leaves" 835 (.ref 482),kE P "_law_serves" 856 (.ref 489),kE P "_law_from" 874 (.ref 496),kE P "_law_bits" 885 (.ref 503),kE P "_law_planned" 899 (.ref 510),kE P "law" 905 (.ref 515)] 72),#[]⟩
def k15 (P:Params):Obj:=⟨(.type "tuple"),none,(.seq #[] 0),#[]⟩
def k17 (P:Params):Obj:=⟨(.type "tuple"),none,(.seq #[(.str "k" 190)] 0),#[]⟩
def k18 (P:Params):Obj:=⟨(.type "tuple"),none,(.seq #[] 0),#[]⟩
def k20 (P:Params):Obj:=⟨(.type "code"),none,(.fields #[(.str "_wall" 187),(.str "_wall" 188),(.str "/claim/cut.py" 189),(.int (1) 0),(.int (1) 0),(.int (0) 0),(.int (0) 0),(.int (3) 0),(.ref 15),(.bool true),(.int (181) 0),(.ref 16),.none,(.ref 17),(.ref 18),(.ref 19),(.int (191) 0),(.int (1) 0),(.str "/claim/cut.py" 192)]),#[]⟩
def k21 (P:Params):Obj:=⟨(.type "function"),none,(.func (fnOf "_wall" "_wall" (defArgs (top 0)) (defBody (top 0)) (defScope (top 0)) .none .none .none (.str "__main__" 164) none (.ref 20) .none)),#[]⟩
def k22 (P:Params):Obj:=⟨(.type "tuple"),none,(.seq #[(.type "ValueError")] 0),#[]⟩
def k29 (P:Params):Obj:=⟨(.type "tuple"),none,(.seq #[] 0),#[]⟩
def k30 (P:Params):Obj:=⟨(.type "dict"),none,(.dict #[kE P "__module__" 203 (.str "glazebench.errors" 194),kE P "__firstlineno__" 207 (.int (5) 206),kE P "__static_attributes__" 208 (.ref 29),kE P "__weakref__" 210 (.ref 32),kE P "__doc__" 211 .none] 3),#[]⟩
def k31 (P:Params):Obj:=⟨(.type "type"),none,(.cls { name:="GlassError",bases:=[(.type "ValueError")],mro:=[(.ref 31),(.type "ValueError"),(.type "Exception"),(.type "BaseException"),(.type "object")],ns:=30,qualname:="GlassError",hasDict:=true,slotNames:=[],subclasses:=[(.ref 51),(.ref 70),(.ref 89),(.ref 108)],abstract:=false,collection:=none,hasDel:=false }),#[some (.ref 22),none,some (.str "GlassError" 196),some (.str "GlassError" 204),some (.builtin "ValueError.__new__"),some (.bool true)]⟩
def k32 (P:Params):Obj:=⟨(.type "getset_descriptor"),none,(.fields #[(.str "__weakref__" 209),(.ref 31),(.builtin "ExceptionGroup.__weakref__"),.none]),#[]⟩
def k35 (P:Params):Obj:=⟨(.type "tuple"),none,(.seq #[(.ref 31)] 0),#[]⟩
def k42 (P:Params):Obj:=⟨(.type "tuple"),none,(.seq #[] 0),#[]⟩
def k44 (P:Params):Obj:=⟨(.type "tuple"),none,(.seq #[(.str "self" 229),(.str "many" 230)] 0),#[]⟩
def k45 (P:Params):Obj:=⟨(.type "tuple"),none,(.seq #[] 0),#[]⟩
def k47 (P:Params):Obj:=⟨(.type "code"),none,(.fields #[(.str "__init__" 226),(.str "TooMany.__init__" 227),(.str "/claim/cut.py" 228),(.int (9) 0),(.int (2) 0),(.int (0) 0),(.int (0) 0),(.int (3) 0),(.ref 42),(.bool true),(.int (181) 0),(.ref 43),.none,(.ref 44),(.ref 45),(.ref 46),(.int (231) 0),(.int (9) 0),(.str "/claim/cut.py" 232)]),#[]⟩
def k48 (P:Params):Obj:=⟨(.type "function"),none,(.func (fnOf "__init__" "TooMany.__init__" (defArgs (inClass (top 3) 0)) (defBody (inClass (top 3) 0)) (defScope (inClass (top 3) 0)) .none .none .none (.str "glazebench.errors" 194) none (.ref 47) .none)),#[]⟩
def k49 (P:Params):Obj:=⟨(.type "tuple"),none,(.seq #[(.str "many" 234)] 0),#[]⟩
def k50 (P:Params):Obj:=⟨(.type "dict"),none,(.dict #[kE P "__module__" 221 (.str "glazebench.errors" 194),kE P "__firstlineno__" 225 (.int (7) 224),kE P "__init__" 233 (.ref 48),kE P "__static_attributes__" 235 (.ref 49),kE P "__doc__" 236 .none] 2),#[]⟩
def k51 (P:Params):Obj:=⟨(.type "type"),none,(.cls { name:="TooMany",bases:=[(.ref 31)],mro:=[(.ref 51),(.ref 31),(.type "ValueError"),(.type "Exception"),(.type "BaseException"),(.type "object")],ns:=50,qualname:="TooMany",hasDict:=true,slotNames:=[],subclasses:=[],abstract:=false,collection:=none,hasDel:=false }),#[some (.ref 35),none,some (.str "TooMany" 214),some (.str "TooMany" 222),some (.builtin "ValueError.__new__"),some (.bool true)]⟩
def k54 (P:Params):Obj:=⟨(.type "tuple"),none,(.seq #[(.ref 31)] 0),#[]⟩
def k61 (P:Params):Obj:=⟨(.type "tuple"),none,(.seq #[] 0),#[]⟩
def k63 (P:Params):Obj:=⟨(.type "tuple"),none,(.seq #[(.str "self" 254),(.str "place" 255)] 0),#[]⟩
def k64 (P:Params):Obj:=⟨(.type "tuple"),none,(.seq #[] 0),#[]⟩
def k66 (P:Params):Obj:=⟨(.type "code"),none,(.fields #[(.str "__init__" 251),(.str "NoWant.__init__" 252),(.str "/claim/cut.py" 253),(.int (13) 0),(.int (2) 0),(.int (0) 0),(.int (0) 0),(.int (3) 0),(.ref 61),(.bool true),(.int (181) 0),(.ref 62),.none,(.ref 63),(.ref 64),(.ref 65),(.int (256) 0),(.int (13) 0),(.str "/claim/cut.py" 257)]),#[]⟩
def k67 (P:Params):Obj:=⟨(.type "function"),none,(.func (fnOf "__init__" "NoWant.__init__" (defArgs (inClass (top 4) 0)) (defBody (inClass (top 4) 0)) (defScope (inClass (top 4) 0)) .none .none .none (.str "glazebench.errors" 194) none (.ref 66) .none)),#[]⟩
def k68 (P:Params):Obj:=⟨(.type "tuple"),none,(.seq #[(.str "place" 259)] 0),#[]⟩
def k69 (P:Params):Obj:=⟨(.type "dict"),none,(.dict #[kE P "__module__" 246 (.str "glazebench.errors" 194),kE P "__firstlineno__" 250 (.int (11) 249),kE P "__init__" 258 (.ref 67),kE P "__static_attributes__" 260 (.ref 68),kE P "__doc__" 261 .none] 2),#[]⟩
def k70 (P:Params):Obj:=⟨(.type "type"),none,(.cls { name:="NoWant",bases:=[(.ref 31)],mro:=[(.ref 70),(.ref 31),(.type "ValueError"),(.type "Exception"),(.type "BaseException"),(.type "object")],ns:=69,qualname:="NoWant",hasDict:=true,slotNames:=[],subclasses:=[],abstract:=false,collection:=none,hasDel:=false }),#[some (.ref 54),none,some (.str "NoWant" 239),some (.str "NoWant" 247),some (.builtin "ValueError.__new__"),some (.bool true)]⟩
def k73 (P:Params):Obj:=⟨(.type "tuple"),none,(.seq #[(.ref 31)] 0),#[]⟩
def k80 (P:Params):Obj:=⟨(.type "tuple"),none,(.seq #[] 0),#[]⟩
def k82 (P:Params):Obj:=⟨(.type "tuple"),none,(.seq #[(.str "self" 279),(.str "place" 280)] 0),#[]⟩
def k83 (P:Params):Obj:=⟨(.type "tuple"),none,(.seq #[] 0),#[]⟩
def k85 (P:Params):Obj:=⟨(.type "code"),none,(.fields #[(.str "__init__" 276),(.str "NoSheet.__init__" 277),(.str "/claim/cut.py" 278),(.int (17) 0),(.int (2) 0),(.int (0) 0),(.int (0) 0),(.int (3) 0),(.ref 80),(.bool true),(.int (181) 0),(.ref 81),.none,(.ref 82),(.ref 83),(.ref 84),(.int (281) 0),(.int (17) 0),(.str "/claim/cut.py" 282)]),#[]⟩
def k86 (P:Params):Obj:=⟨(.type "function"),none,(.func (fnOf "__init__" "NoSheet.__init__" (defArgs (inClass (top 5) 0)) (defBody (inClass (top 5) 0)) (defScope (inClass (top 5) 0)) .none .none .none (.str "glazebench.errors" 194) none (.ref 85) .none)),#[]⟩
def k87 (P:Params):Obj:=⟨(.type "tuple"),none,(.seq #[(.str "place" 284)] 0),#[]⟩
def k88 (P:Params):Obj:=⟨(.type "dict"),none,(.dict #[kE P "__module__" 271 (.str "glazebench.errors" 194),kE P "__firstlineno__" 275 (.int (15) 274),kE P "__init__" 283 (.ref 86),kE P "__static_attributes__" 285 (.ref 87),kE P "__doc__" 286 .none] 2),#[]⟩
def k89 (P:Params):Obj:=⟨(.type "type"),none,(.cls { name:="NoSheet",bases:=[(.ref 31)],mro:=[(.ref 89),(.ref 31),(.type "ValueError"),(.type "Exception"),(.type "BaseException"),(.type "object")],ns:=88,qualname:="NoSheet",hasDict:=true,slotNames:=[],subclasses:=[],abstract:=false,collection:=none,hasDel:=false }),#[some (.ref 73),none,some (.str "NoSheet" 264),some (.str "NoSheet" 272),some (.builtin "ValueError.__new__"),some (.bool true)]⟩
def k92 (P:Params):Obj:=⟨(.type "tuple"),none,(.seq #[(.ref 31)] 0),#[]⟩
def k99 (P:Params):Obj:=⟨(.type "tuple"),none,(.seq #[] 0),#[]⟩
def k101 (P:Params):Obj:=⟨(.type "tuple"),none,(.seq #[(.str "self" 304),(.str "want" 305)] 0),#[]⟩
def k102 (P:Params):Obj:=⟨(.type "tuple"),none,(.seq #[] 0),#[]⟩
def k104 (P:Params):Obj:=⟨(.type "code"),none,(.fields #[(.str "__init__" 301),(.str "NoPlan.__init__" 302),(.str "/claim/cut.py" 303),(.int (21) 0),(.int (2) 0),(.int (0) 0),(.int (0) 0),(.int (3) 0),(.ref 99),(.bool true),(.int (181) 0),(.ref 100),.none,(.ref 101),(.ref 102),(.ref 103),(.int (306) 0),(.int (21) 0),(.str "/claim/cut.py" 307)]),#[]⟩
def k105 (P:Params):Obj:=⟨(.type "function"),none,(.func (fnOf "__init__" "NoPlan.__init__" (defArgs (inClass (top 6) 0)) (defBody (inClass (top 6) 0)) (defScope (inClass (top 6) 0)) .none .none .none (.str "glazebench.errors" 194) none (.ref 104) .none)),#[]⟩
def k106 (P:Params):Obj:=⟨(.type "tuple"),none,(.seq #[(.str "want" 309)] 0),#[]⟩
def k107 (P:Params):Obj:=⟨(.type "dict"),none,(.dict #[kE P "__module__" 296 (.str "glazebench.errors" 194),kE P "__firstlineno__" 300 (.int (19) 299),kE P "__init__" 308 (.ref 105),kE P "__static_attributes__" 310 (.ref 106),kE P "__doc__" 311 .none] 2),#[]⟩
def k108 (P:Params):Obj:=⟨(.type "type"),none,(.cls { name:="NoPlan",bases:=[(.ref 31)],mro:=[(.ref 108),(.ref 31),(.type "ValueError"),(.type "Exception"),(.type "BaseException"),(.type "object")],ns:=107,qualname:="NoPlan",hasDict:=true,slotNames:=[],subclasses:=[],abstract:=false,collection:=none,hasDel:=false }),#[some (.ref 92),none,some (.str "NoPlan" 289),some (.str "NoPlan" 297),some (.builtin "ValueError.__new__"),some (.bool true)]⟩
def k111 (P:Params):Obj:=⟨(.type "tuple"),none,(.seq #[] 0),#[]⟩
def k113 (P:Params):Obj:=⟨(.type "tuple"),none,(.seq #[(.str "thing" 321)] 0),#[]⟩
def k114 (P:Params):Obj:=⟨(.type "tuple"),none,(.seq #[] 0),#[]⟩
def k116 (P:Params):Obj:=⟨(.type "code"),none,(.fields #[(.str "is_whole" 318),(.str "is_whole" 319),(.str "/claim/cut.py" 320),(.int (25) 0),(.int (1) 0),(.int (0) 0),(.int (0) 0),(.int (3) 0),(.ref 111),(.bool true),(.int (181) 0),(.ref 112),.none,(.ref 113),(.ref 114),(.ref 115),(.int (322) 0),(.int (25) 0),(.str "/claim/cut.py" 323)]),#[]⟩
def k117 (P:Params):Obj:=⟨(.type "function"),none,(.func (fnOf "is_whole" "is_whole" (defArgs (top 9)) (defBody (top 9)) (defScope (top 9)) .none .none .none (.str "glazebench.panels" 314) none (.ref 116) .none)),#[]⟩
def k118 (P:Params):Obj:=⟨(.type "tuple"),none,(.seq #[] 0),#[]⟩
def k120 (P:Params):Obj:=⟨(.type "tuple"),none,(.seq #[(.str "thing" 328)] 0),#[]⟩
def k121 (P:Params):Obj:=⟨(.type "tuple"),none,(.seq #[] 0),#[]⟩
def k123 (P:Params):Obj:=⟨(.type "code"),none,(.fields #[(.str "is_side" 325),(.str "is_side" 326),(.str "/claim/cut.py" 327),(.int (27) 0),(.int (1) 0),(.int (0) 0),(.int (0) 0),(.int (3) 0),(.ref 118),(.bool true),(.int (181) 0),(.ref 119),.none,(.ref 120),(.ref 121),(.ref 122),(.int (329) 0),(.int (27) 0),(.str "/claim/cut.py" 330)]),#[]⟩
def k124 (P:Params):Obj:=⟨(.type "function"),none,(.func (fnOf "is_side" "is_side" (defArgs (top 10)) (defBody (top 10)) (defScope (top 10)) .none .none .none (.str "glazebench.panels" 314) none (.ref 123) .none)),#[]⟩
def k132 (P:Params):Obj:=⟨(.type "tuple"),none,(.seq #[] 0),#[]⟩
def k134 (P:Params):Obj:=⟨(.type "tuple"),none,(.seq #[(.str "self" 355)] 0),#[]⟩
def k135 (P:Params):Obj:=⟨(.type "tuple"),none,(.seq #[] 0),#[]⟩
def k137 (P:Params):Obj:=⟨(.type "code"),none,(.fields #[(.str "leaves" 352),(.str "Tree.leaves" 353),(.str "/claim/cut.py" 354),(.int (35) 0),(.int (1) 0),(.int (0) 0),(.int (0) 0),(.int (3) 0),(.ref 132),(.bool true),(.int (181) 0),(.ref 133),.none,(.ref 134),(.ref 135),(.ref 136),(.int (356) 0),(.int (35) 0),(.str "/claim/cut.py" 357)]),#[]⟩
def k138 (P:Params):Obj:=⟨(.type "function"),none,(.func (fnOf "leaves" "Tree.leaves" (defArgs (inClass (top 15) 0)) (defBody (inClass (top 15) 0)) (defScope (inClass (top 15) 0)) .none .none .none (.str "glazebench.cuts" 332) none (.ref 137) .none)),#[]⟩
def k139 (P:Params):Obj:=⟨(.type "tuple"),none,(.seq #[] 0),#[]⟩
def k141 (P:Params):Obj:=⟨(.type "tuple"),none,(.seq #[(.str "self" 362)] 0),#[]⟩
def k142 (P:Params):Obj:=⟨(.type "tuple"),none,(.seq #[] 0),#[]⟩
def k144 (P:Params):Obj:=⟨(.type "code"),none,(.fields #[(.str "depth" 359),(.str "Tree.depth" 360),(.str "/claim/cut.py" 361),(.int (38) 0),(.int (1) 0),(.int (0) 0),(.int (0) 0),(.int (3) 0),(.ref 139),(.bool true),(.int (181) 0),(.ref 140),.none,(.ref 141),(.ref 142),(.ref 143),(.int (363) 0),(.int (38) 0),(.str "/claim/cut.py" 364)]),#[]⟩
def k145 (P:Params):Obj:=⟨(.type "function"),none,(.func (fnOf "depth" "Tree.depth" (defArgs (inClass (top 15) 1)) (defBody (inClass (top 15) 1)) (defScope (inClass (top 15) 1)) .none .none .none (.str "glazebench.cuts" 332) none (.ref 144) .none)),#[]⟩
def k146 (P:Params):Obj:=⟨(.type "tuple"),none,(.seq #[] 0),#[]⟩
def k149 (P:Params):Obj:=⟨(.type "code"),none,(.fields #[(.str "turned" 366),(.str "Tree.turned" 367),(.str "/claim/cut.py" 368),(.int (41) 0),(.int (1) 0),(.int (0) 0),(.int (0) 0),(.int (3) 0),(.ref 146),(.bool true),(.int (181) 0),(.ref 147),.none,.none,.none,(.ref 148),(.int (369) 0),(.int (41) 0),(.str "/claim/cut.py" 370)]),#[]⟩
def k150 (P:Params):Obj:=⟨(.type "function"),none,(.func (fnOf "turned" "Tree.turned" (defArgs (inClass (top 15) 2)) (defBody (inClass (top 15) 2)) (defScope (inClass (top 15) 2)) .none .none .none (.str "glazebench.cuts" 332) none (.ref 149) .none)),#[]⟩
def k151 (P:Params):Obj:=⟨(.type "tuple"),none,(.seq #[] 0),#[]⟩
def k153 (P:Params):Obj:=⟨(.type "tuple"),none,(.seq #[(.str "self" 375),(.str "width" 376),(.str "height" 377)] 0),#[]⟩
def k154 (P:Params):Obj:=⟨(.type "tuple"),none,(.seq #[] 0),#[]⟩
def k156 (P:Params):Obj:=⟨(.type "code"),none,(.fields #[(.str "fits" 372),(.str "Tree.fits" 373),(.str "/claim/cut.py" 374),(.int (44) 0),(.int (3) 0),(.int (0) 0),(.int (0) 0),(.int (3) 0),(.ref 151),(.bool true),(.int (181) 0),(.ref 152),.none,(.ref 153),(.ref 154),(.ref 155),(.int (378) 0),(.int (44) 0),(.str "/claim/cut.py" 379)]),#[]⟩
def k157 (P:Params):Obj:=⟨(.type "function"),none,(.func (fnOf "fits" "Tree.fits" (defArgs (inClass (top 15) 3)) (defBody (inClass (top 15) 3)) (defScope (inClass (top 15) 3)) .none .none .none (.str "glazebench.cuts" 332) none (.ref 156) .none)),#[]⟩
def k158 (P:Params):Obj:=⟨(.type "tuple"),none,(.seq #[] 0),#[]⟩
def k160 (P:Params):Obj:=⟨(.type "tuple"),none,(.seq #[(.str "self" 384),(.str "other" 385)] 0),#[]⟩
def k161 (P:Params):Obj:=⟨(.type "tuple"),none,(.seq #[] 0),#[]⟩
def k163 (P:Params):Obj:=⟨(.type "code"),none,(.fields #[(.str "same" 381),(.str "Tree.same" 382),(.str "/claim/cut.py" 383),(.int (47) 0),(.int (2) 0),(.int (0) 0),(.int (0) 0),(.int (3) 0),(.ref 158),(.bool true),(.int (181) 0),(.ref 159),.none,(.ref 160),(.ref 161),(.ref 162),(.int (386) 0),(.int (47) 0),(.str "/claim/cut.py" 387)]),#[]⟩
def k164 (P:Params):Obj:=⟨(.type "function"),none,(.func (fnOf "same" "Tree.same" (defArgs (inClass (top 15) 4)) (defBody (inClass (top 15) 4)) (defScope (inClass (top 15) 4)) .none .none .none (.str "glazebench.cuts" 332) none (.ref 163) .none)),#[]⟩
def k165 (P:Params):Obj:=⟨(.type "tuple"),none,(.seq #[] 0),#[]⟩
def k166 (P:Params):Obj:=⟨(.type "dict"),none,(.dict #[kE P "__module__" 347 (.str "glazebench.cuts" 332),kE P "__firstlineno__" 351 (.int (33) 350),kE P "leaves" 358 (.ref 138),kE P "depth" 365 (.ref 145),kE P "turned" 371 (.ref 150),kE P "fits" 380 (.ref 157),kE P "same" 388 (.ref 164),kE P "__static_attributes__" 389 (.ref 165),kE P "__dict__" 391 (.ref 168),kE P "__weakref__" 393 (.ref 169),kE P "__doc__" 394 .none] 4),#[]⟩
def k167 (P:Params):Obj:=⟨(.type "type"),none,(.cls { name:="Tree",bases:=[(.type "object")],mro:=[(.ref 167),(.type "object")],ns:=166,qualname:="Tree",hasDict:=true,slotNames:=[],subclasses:=[(.ref 189),(.ref 208),(.ref 227)],abstract:=false,collection:=none,hasDel:=false }),#[none,none,some (.str "Tree" 340),some (.str "Tree" 348),some (.builtin "object.__new__"),some (.bool true)]⟩
def k168 (P:Params):Obj:=⟨(.type "getset_descriptor"),none,(.fields #[(.str "__dict__" 390),(.ref 167),(.builtin "function.__dict__"),(.builtin "function.__dict__#set")]),#[]⟩
def k169 (P:Params):Obj:=⟨(.type "getset_descriptor"),none,(.fields #[(.str "__weakref__" 392),(.ref 167),(.builtin "ExceptionGroup.__weakref__"),.none]),#[]⟩
def k172 (P:Params):Obj:=⟨(.type "tuple"),none,(.seq #[(.ref 167)] 0),#[]⟩
def k179 (P:Params):Obj:=⟨(.type "tuple"),none,(.seq #[.none] 0),#[]⟩
def k180 (P:Params):Obj:=⟨(.type "tuple"),none,(.seq #[] 0),#[]⟩
def k182 (P:Params):Obj:=⟨(.type "tuple"),none,(.seq #[(.str "self" 412),(.str "mark" 413)] 0),#[]⟩
def k183 (P:Params):Obj:=⟨(.type "tuple"),none,(.seq #[] 0),#[]⟩
def k185 (P:Params):Obj:=⟨(.type "code"),none,(.fields #[(.str "__init__" 409),(.str "Whole.__init__" 410),(.str "/claim/cut.py" 411),(.int (51) 0),(.int (2) 0),(.int (0) 0),(.int (0) 0),(.int (3) 0),(.ref 180),(.bool true),(.int (181) 0),(.ref 181),.none,(.ref 182),(.ref 183),(.ref 184),(.int (414) 0),(.int (51) 0),(.str "/claim/cut.py" 415)]),#[]⟩
def k186 (P:Params):Obj:=⟨(.type "function"),none,(.func (fnOf "__init__" "Whole.__init__" (defArgs (inClass (top 16) 0)) (defBody (inClass (top 16) 0)) (defScope (inClass (top 16) 0)) (.ref 179) .none .none (.str "glazebench.cuts" 332) none (.ref 185) .none)),#[]⟩
def k187 (P:Params):Obj:=⟨(.type "tuple"),none,(.seq #[(.str "mark" 417)] 0),#[]⟩
def k188 (P:Params):Obj:=⟨(.type "dict"),none,(.dict #[kE P "__module__" 404 (.str "glazebench.cuts" 332),kE P "__firstlineno__" 408 (.int (49) 407),kE P "__init__" 416 (.ref 186),kE P "__static_attributes__" 418 (.ref 187),kE P "__doc__" 419 .none] 2),#[]⟩
def k189 (P:Params):Obj:=⟨(.type "type"),none,(.cls { name:="Whole",bases:=[(.ref 167)],mro:=[(.ref 189),(.ref 167),(.type "object")],ns:=188,qualname:="Whole",hasDict:=true,slotNames:=[],subclasses:=[],abstract:=false,collection:=none,hasDel:=false }),#[some (.ref 172),none,some (.str "Whole" 397),some (.str "Whole" 405),some (.builtin "object.__new__"),some (.bool true)]⟩
def k192 (P:Params):Obj:=⟨(.type "tuple"),none,(.seq #[(.ref 167)] 0),#[]⟩
def k199 (P:Params):Obj:=⟨(.type "tuple"),none,(.seq #[] 0),#[]⟩
def k201 (P:Params):Obj:=⟨(.type "tuple"),none,(.seq #[(.str "self" 437),(.str "at" 438),(.str "first" 439),(.str "other" 440)] 0),#[]⟩
def k202 (P:Params):Obj:=⟨(.type "tuple"),none,(.seq #[] 0),#[]⟩
def k204 (P:Params):Obj:=⟨(.type "code"),none,(.fields #[(.str "__init__" 434),(.str "Upright.__init__" 435),(.str "/claim/cut.py" 436),(.int (55) 0),(.int (4) 0),(.int (0) 0),(.int (0) 0),(.int (3) 0),(.ref 199),(.bool true),(.int (181) 0),(.ref 200),.none,(.ref 201),(.ref 202),(.ref 203),(.int (441) 0),(.int (55) 0),(.str "/claim/cut.py" 442)]),#[]⟩
def k205 (P:Params):Obj:=⟨(.type "function"),none,(.func (fnOf "__init__" "Upright.__init__" (defArgs (inClass (top 17) 0)) (defBody (inClass (top 17) 0)) (defScope (inClass (top 17) 0)) .none .none .none (.str "glazebench.cuts" 332) none (.ref 204) .none)),#[]⟩
def k206 (P:Params):Obj:=⟨(.type "tuple"),none,(.seq #[(.str "at" 444),(.str "first" 445),(.str "other" 446)] 0),#[]⟩
def k207 (P:Params):Obj:=⟨(.type "dict"),none,(.dict #[kE P "__module__" 429 (.str "glazebench.cuts" 332),kE P "__firstlineno__" 433 (.int (53) 432),kE P "__init__" 443 (.ref 205),kE P "__static_attributes__" 447 (.ref 206),kE P "__doc__" 448 .none] 2),#[]⟩
def k208 (P:Params):Obj:=⟨(.type "type"),none,(.cls { name:="Upright",bases:=[(.ref 167)],mro:=[(.ref 208),(.ref 167),(.type "object")],ns:=207,qualname:="Upright",hasDict:=true,slotNames:=[],subclasses:=[],abstract:=false,collection:=none,hasDel:=false }),#[some (.ref 192),none,some (.str "Upright" 422),some (.str "Upright" 430),some (.builtin "object.__new__"),some (.bool true)]⟩
def k211 (P:Params):Obj:=⟨(.type "tuple"),none,(.seq #[(.ref 167)] 0),#[]⟩
def k218 (P:Params):Obj:=⟨(.type "tuple"),none,(.seq #[] 0),#[]⟩
def k220 (P:Params):Obj:=⟨(.type "tuple"),none,(.seq #[(.str "self" 466),(.str "at" 467),(.str "first" 468),(.str "other" 469)] 0),#[]⟩
def k221 (P:Params):Obj:=⟨(.type "tuple"),none,(.seq #[] 0),#[]⟩
def k223 (P:Params):Obj:=⟨(.type "code"),none,(.fields #[(.str "__init__" 463),(.str "Level.__init__" 464),(.str "/claim/cut.py" 465),(.int (61) 0),(.int (4) 0),(.int (0) 0),(.int (0) 0),(.int (3) 0),(.ref 218),(.bool true),(.int (181) 0),(.ref 219),.none,(.ref 220),(.ref 221),(.ref 222),(.int (470) 0),(.int (61) 0),(.str "/claim/cut.py" 471)]),#[]⟩
def k224 (P:Params):Obj:=⟨(.type "function"),none,(.func (fnOf "__init__" "Level.__init__" (defArgs (inClass (top 18) 0)) (defBody (inClass (top 18) 0)) (defScope (inClass (top 18) 0)) .none .none .none (.str "glazebench.cuts" 332) none (.ref 223) .none)),#[]⟩
def k225 (P:Params):Obj:=⟨(.type "tuple"),none,(.seq #[(.str "at" 473),(.str "first" 474),(.str "other" 475)] 0),#[]⟩
def k226 (P:Params):Obj:=⟨(.type "dict"),none,(.dict #[kE P "__module__" 458 (.str "glazebench.cuts" 332),kE P "__firstlineno__" 462 (.int (59) 461),kE P "__init__" 472 (.ref 224),kE P "__static_attributes__" 476 (.ref 225),kE P "__doc__" 477 .none] 2),#[]⟩
def k227 (P:Params):Obj:=⟨(.type "type"),none,(.cls { name:="Level",bases:=[(.ref 167)],mro:=[(.ref 227),(.ref 167),(.type "object")],ns:=226,qualname:="Level",hasDict:=true,slotNames:=[],subclasses:=[],abstract:=false,collection:=none,hasDel:=false }),#[some (.ref 211),none,some (.str "Level" 451),some (.str "Level" 459),some (.builtin "object.__new__"),some (.bool true)]⟩
def k230 (P:Params):Obj:=⟨(.type "tuple"),none,(.seq #[] 0),#[]⟩
def k232 (P:Params):Obj:=⟨(.type "tuple"),none,(.seq #[(.str "tree" 483)] 0),#[]⟩
def k233 (P:Params):Obj:=⟨(.type "tuple"),none,(.seq #[] 0),#[]⟩
def k235 (P:Params):Obj:=⟨(.type "code"),none,(.fields #[(.str "kind_of" 480),(.str "kind_of" 481),(.str "/claim/cut.py" 482),(.int (65) 0),(.int (1) 0),(.int (0) 0),(.int (0) 0),(.int (3) 0),(.ref 230),(.bool true),(.int (181) 0),(.ref 231),.none,(.ref 232),(.ref 233),(.ref 234),(.int (484) 0),(.int (65) 0),(.str "/claim/cut.py" 485)]),#[]⟩
def k236 (P:Params):Obj:=⟨(.type "function"),none,(.func (fnOf "kind_of" "kind_of" (defArgs (top 19)) (defBody (top 19)) (defScope (top 19)) .none .none .none (.str "glazebench.cuts" 332) none (.ref 235) .none)),#[]⟩
def k237 (P:Params):Obj:=⟨(.type "tuple"),none,(.seq #[] 0),#[]⟩
def k239 (P:Params):Obj:=⟨(.type "tuple"),none,(.seq #[(.str "tree" 490),(.str "kind" 491)] 0),#[]⟩
def k240 (P:Params):Obj:=⟨(.type "tuple"),none,(.seq #[] 0),#[]⟩
def k242 (P:Params):Obj:=⟨(.type "code"),none,(.fields #[(.str "entry_of" 487),(.str "entry_of" 488),(.str "/claim/cut.py" 489),(.int (69) 0),(.int (1) 0),(.int (0) 0),(.int (0) 0),(.int (3) 0),(.ref 237),(.bool true),(.int (181) 0),(.ref 238),.none,(.ref 239),(.ref 240),(.ref 241),(.int (492) 0),(.int (69) 0),(.str "/claim/cut.py" 493)]),#[]⟩
def k243 (P:Params):Obj:=⟨(.type "function"),none,(.func (fnOf "entry_of" "entry_of" (defArgs (top 20)) (defBody (top 20)) (defScope (top 20)) .none .none .none (.str "glazebench.cuts" 332) none (.ref 242) .none)),#[]⟩
def k244 (P:Params):Obj:=⟨(.type "tuple"),none,(.seq #[] 0),#[]⟩
def k246 (P:Params):Obj:=⟨(.type "tuple"),none,(.seq #[(.str "tree" 498),(.str "entries" 499),(.str "waiting" 500),(.str "part" 501)] 0),#[]⟩
def k247 (P:Params):Obj:=⟨(.type "tuple"),none,(.seq #[] 0),#[]⟩
def k249 (P:Params):Obj:=⟨(.type "code"),none,(.fields #[(.str "entries_of" 495),(.str "entries_of" 496),(.str "/claim/cut.py" 497),(.int (72) 0),(.int (1) 0),(.int (0) 0),(.int (0) 0),(.int (3) 0),(.ref 244),(.bool true),(.int (181) 0),(.ref 245),.none,(.ref 246),(.ref 247),(.ref 248),(.int (502) 0),(.int (72) 0),(.str "/claim/cut.py" 503)]),#[]⟩
def k250 (P:Params):Obj:=⟨(.type "function"),none,(.func (fnOf "entries_of" "entries_of" (defArgs (top 21)) (defBody (top 21)) (defScope (top 21)) .none .none .none (.str "glazebench.cuts" 332) none (.ref 249) .none)),#[]⟩
def k251 (P:Params):Obj:=⟨(.type "tuple"),none,(.seq #[] 0),#[]⟩
def k253 (P:Params):Obj:=⟨(.type "tuple"),none,(.seq #[(.str "word" 508),(.str "at" 509),(.str "first" 510),(.str "other" 511)] 0),#[]⟩
def k254 (P:Params):Obj:=⟨(.type "tuple"),none,(.seq #[] 0),#[]⟩
def k256 (P:Params):Obj:=⟨(.type "code"),none,(.fields #[(.str "cut_from" 505),(.str "cut_from" 506),(.str "/claim/cut.py" 507),(.int (81) 0),(.int (4) 0),(.int (0) 0),(.int (0) 0),(.int (3) 0),(.ref 251),(.bool true),(.int (181) 0),(.ref 252),.none,(.ref 253),(.ref 254),(.ref 255),(.int (512) 0),(.int (81) 0),(.str "/claim/cut.py" 513)]),#[]⟩
def k257 (P:Params):Obj:=⟨(.type "function"),none,(.func (fnOf "cut_from" "cut_from" (defArgs (top 22)) (defBody (top 22)) (defScope (top 22)) .none .none .none (.str "glazebench.cuts" 332) none (.ref 256) .none)),#[]⟩
def k258 (P:Params):Obj:=⟨(.type "tuple"),none,(.seq #[] 0),#[]⟩
def k260 (P:Params):Obj:=⟨(.type "tuple"),none,(.seq #[(.str "entries" 518),(.str "done" 519),(.str "word" 520),(.str "number" 521),(.str "first" 522),(.str "other" 523)] 0),#[]⟩
def k261 (P:Params):Obj:=⟨(.type "tuple"),none,(.seq #[] 0),#[]⟩
def k263 (P:Params):Obj:=⟨(.type "code"),none,(.fields #[(.str "tree_from" 515),(.str "tree_from" 516),(.str "/claim/cut.py" 517),(.int (85) 0),(.int (1) 0),(.int (0) 0),(.int (0) 0),(.int (3) 0),(.ref 258),(.bool true),(.int (181) 0),(.ref 259),.none,(.ref 260),(.ref 261),(.ref 262),(.int (524) 0),(.int (85) 0),(.str "/claim/cut.py" 525)]),#[]⟩
def k264 (P:Params):Obj:=⟨(.type "function"),none,(.func (fnOf "tree_from" "tree_from" (defArgs (top 23)) (defBody (top 23)) (defScope (top 23)) .none .none .none (.str "glazebench.cuts" 332) none (.ref 263) .none)),#[]⟩
def k265 (P:Params):Obj:=⟨(.type "tuple"),none,(.seq #[] 0),#[]⟩
def k267 (P:Params):Obj:=⟨(.type "tuple"),none,(.seq #[(.str "word" 530)] 0),#[]⟩
def k268 (P:Params):Obj:=⟨(.type "tuple"),none,(.seq #[] 0),#[]⟩
def k270 (P:Params):Obj:=⟨(.type "code"),none,(.fields #[(.str "turned_word" 527),(.str "turned_word" 528),(.str "/claim/cut.py" 529),(.int (95) 0),(.int (1) 0),(.int (0) 0),(.int (0) 0),(.int (3) 0),(.ref 265),(.bool true),(.int (181) 0),(.ref 266),.none,(.ref 267),(.ref 268),(.ref 269),(.int (531) 0),(.int (95) 0),(.str "/claim/cut.py" 532)]),#[]⟩
def k271 (P:Params):Obj:=⟨(.type "function"),none,(.func (fnOf "turned_word" "turned_word" (defArgs (top 24)) (defBody (top 24)) (defScope (top 24)) .none .none .none (.str "glazebench.cuts" 332) none (.ref 270) .none)),#[]⟩
def k272 (P:Params):Obj:=⟨(.type "tuple"),none,(.seq #[] 0),#[]⟩
def k274 (P:Params):Obj:=⟨(.type "tuple"),none,(.seq #[(.str "thing" 543)] 0),#[]⟩
def k275 (P:Params):Obj:=⟨(.type "tuple"),none,(.seq #[] 0),#[]⟩
def k277 (P:Params):Obj:=⟨(.type "code"),none,(.fields #[(.str "is_want" 540),(.str "is_want" 541),(.str "/claim/cut.py" 542),(.int (102) 0),(.int (1) 0),(.int (0) 0),(.int (0) 0),(.int (3) 0),(.ref 272),(.bool true),(.int (181) 0),(.ref 273),.none,(.ref 274),(.ref 275),(.ref 276),(.int (544) 0),(.int (102) 0),(.str "/claim/cut.py" 545)]),#[]⟩
def k278 (P:Params):Obj:=⟨(.type "function"),none,(.func (fnOf "is_want" "is_want" (defArgs (top 28)) (defBody (top 28)) (defScope (top 28)) .none .none .none (.str "glazebench.stairs" 534) none (.ref 277) .none)),#[]⟩
def k279 (P:Params):Obj:=⟨(.type "tuple"),none,(.seq #[] 0),#[]⟩
def k281 (P:Params):Obj:=⟨(.type "tuple"),none,(.seq #[(.str "wants" 550),(.str "place" 551),(.str "want" 552)] 0),#[]⟩
def k282 (P:Params):Obj:=⟨(.type "tuple"),none,(.seq #[] 0),#[]⟩
def k284 (P:Params):Obj:=⟨(.type "code"),none,(.fields #[(.str "check_wants" 547),(.str "check_wants" 548),(.str "/claim/cut.py" 549),(.int (106) 0),(.int (1) 0),(.int (0) 0),(.int (0) 0),(.int (3) 0),(.ref 279),(.bool true),(.int (181) 0),(.ref 280),.none,(.ref 281),(.ref 282),(.ref 283),(.int (553) 0),(.int (106) 0),(.str "/claim/cut.py" 554)]),#[]⟩
def k285 (P:Params):Obj:=⟨(.type "function"),none,(.func (fnOf "check_wants" "check_wants" (defArgs (top 29)) (defBody (top 29)) (defScope (top 29)) .none .none .none (.str "glazebench.stairs" 534) none (.ref 284) .none)),#[]⟩
def k286 (P:Params):Obj:=⟨(.type "tuple"),none,(.seq #[] 0),#[]⟩
def k288 (P:Params):Obj:=⟨(.type "tuple"),none,(.seq #[(.str "want" 559)] 0),#[]⟩
def k289 (P:Params):Obj:=⟨(.type "tuple"),none,(.seq #[] 0),#[]⟩
def k291 (P:Params):Obj:=⟨(.type "code"),none,(.fields #[(.str "ways_to_lie" 556),(.str "ways_to_lie" 557),(.str "/claim/cut.py" 558),(.int (112) 0),(.int (1) 0),(.int (0) 0),(.int (0) 0),(.int (3) 0),(.ref 286),(.bool true),(.int (181) 0),(.ref 287),.none,(.ref 288),(.ref 289),(.ref 290),(.int (560) 0),(.int (112) 0),(.str "/claim/cut.py" 561)]),#[]⟩
def k292 (P:Params):Obj:=⟨(.type "function"),none,(.func (fnOf "ways_to_lie" "ways_to_lie" (defArgs (top 30)) (defBody (top 30)) (defScope (top 30)) .none .none .none (.str "glazebench.stairs" 534) none (.ref 291) .none)),#[]⟩
def k293 (P:Params):Obj:=⟨(.type "tuple"),none,(.seq #[] 0),#[]⟩
def k296 (P:Params):Obj:=⟨(.type "code"),none,(.fields #[(.str "ways_held" 563),(.str "ways_held" 564),(.str "/claim/cut.py" 565),(.int (116) 0),(.int (3) 0),(.int (0) 0),(.int (0) 0),(.int (3) 0),(.ref 293),(.bool true),(.int (181) 0),(.ref 294),.none,.none,.none,(.ref 295),(.int (566) 0),(.int (116) 0),(.str "/claim/cut.py" 567)]),#[]⟩
def k297 (P:Params):Obj:=⟨(.type "function"),none,(.func (fnOf "ways_held" "ways_held" (defArgs (top 31)) (defBody (top 31)) (defScope (top 31)) .none .none .none (.str "glazebench.stairs" 534) none (.ref 296) .none)),#[]⟩
def k298 (P:Params):Obj:=⟨(.type "tuple"),none,(.seq #[] 0),#[]⟩
def k300 (P:Params):Obj:=⟨(.type "tuple"),none,(.seq #[(.str "bits" 572)] 0),#[]⟩
def k301 (P:Params):Obj:=⟨(.type "tuple"),none,(.seq #[] 0),#[]⟩
def k303 (P:Params):Obj:=⟨(.type "code"),none,(.fields #[(.str "is_alone" 569),(.str "is_alone" 570),(.str "/claim/cut.py" 571),(.int (118) 0),(.int (1) 0),(.int (0) 0),(.int (0) 0),(.int (3) 0),(.ref 298),(.bool true),(.int (181) 0),(.ref 299),.none,(.ref 300),(.ref 301),(.ref 302),(.int (573) 0),(.int (118) 0),(.str "/claim/cut.py" 574)]),#[]⟩
def k304 (P:Params):Obj:=⟨(.type "function"),none,(.func (fnOf "is_alone" "is_alone" (defArgs (top 32)) (defBody (top 32)) (defScope (top 32)) .none .none .none (.str "glazebench.stairs" 534) none (.ref 303) .none)),#[]⟩
def k305 (P:Params):Obj:=⟨(.type "tuple"),none,(.seq #[] 0),#[]⟩
def k307 (P:Params):Obj:=⟨(.type "tuple"),none,(.seq #[(.str "bits" 579)] 0),#[]⟩
def k308 (P:Params):Obj:=⟨(.type "tuple"),none,(.seq #[] 0),#[]⟩
def k310 (P:Params):Obj:=⟨(.type "code"),none,(.fields #[(.str "number_alone" 576),(.str "number_alone" 577),(.str "/claim/cut.py" 578),(.int (120) 0),(.int (1) 0),(.int (0) 0),(.int (0) 0),(.int (3) 0),(.ref 305),(.bool true),(.int (181) 0),(.ref 306),.none,(.ref 307),(.ref 308),(.ref 309),(.int (580) 0),(.int (120) 0),(.str "/claim/cut.py" 581)]),#[]⟩
def k311 (P:Params):Obj:=⟨(.type "function"),none,(.func (fnOf "number_alone" "number_alone" (defArgs (top 33)) (defBody (top 33)) (defScope (top 33)) .none .none .none (.str "glazebench.stairs" 534) none (.ref 310) .none)),#[]⟩
def k312 (P:Params):Obj:=⟨(.type "tuple"),none,(.seq #[] 0),#[]⟩
def k315 (P:Params):Obj:=⟨(.type "code"),none,(.fields #[(.str "all_parts" 583),(.str "all_parts" 584),(.str "/claim/cut.py" 585),(.int (122) 0),(.int (1) 0),(.int (0) 0),(.int (0) 0),(.int (3) 0),(.ref 312),(.bool true),(.int (181) 0),(.ref 313),.none,.none,.none,(.ref 314),(.int (586) 0),(.int (122) 0),(.str "/claim/cut.py" 587)]),#[]⟩
def k316 (P:Params):Obj:=⟨(.type "function"),none,(.func (fnOf "all_parts" "all_parts" (defArgs (top 34)) (defBody (top 34)) (defScope (top 34)) .none .none .none (.str "glazebench.stairs" 534) none (.ref 315) .none)),#[]⟩
def k317 (P:Params):Obj:=⟨(.type "tuple"),none,(.seq #[] 0),#[]⟩
def k320 (P:Params):Obj:=⟨(.type "code"),none,(.fields #[(.str "parts_with_least" 589),(.str "parts_with_least" 590),(.str "/claim/cut.py" 591),(.int (124) 0),(.int (1) 0),(.int (0) 0),(.int (0) 0),(.int (3) 0),(.ref 317),(.bool true),(.int (181) 0),(.ref 318),.none,.none,.none,(.ref 319),(.int (592) 0),(.int (124) 0),(.str "/claim/cut.py" 593)]),#[]⟩
def k321 (P:Params):Obj:=⟨(.type "function"),none,(.func (fnOf "parts_with_least" "parts_with_least" (defArgs (top 35)) (defBody (top 35)) (defScope (top 35)) .none .none .none (.str "glazebench.stairs" 534) none (.ref 320) .none)),#[]⟩
def k322 (P:Params):Obj:=⟨(.type "tuple"),none,(.seq #[] 0),#[]⟩
def k325 (P:Params):Obj:=⟨(.type "code"),none,(.fields #[(.str "cuts_to" 595),(.str "cuts_to" 596),(.str "/claim/cut.py" 597),(.int (127) 0),(.int (3) 0),(.int (0) 0),(.int (0) 0),(.int (3) 0),(.ref 322),(.bool true),(.int (181) 0),(.ref 323),.none,.none,.none,(.ref 324),(.int (598) 0),(.int (127) 0),(.str "/claim/cut.py" 599)]),#[]⟩
def k326 (P:Params):Obj:=⟨(.type "function"),none,(.func (fnOf "cuts_to" "cuts_to" (defArgs (top 36)) (defBody (top 36)) (defScope (top 36)) .none .none .none (.str "glazebench.stairs" 534) none (.ref 325) .none)),#[]⟩
def k327 (P:Params):Obj:=⟨(.type "tuple"),none,(.seq #[] 0),#[]⟩
def k330 (P:Params):Obj:=⟨(.type "code"),none,(.fields #[(.str "least_height" 601),(.str "least_height" 602),(.str "/claim/cut.py" 603),(.int (135) 0),(.int (4) 0),(.int (0) 0),(.int (0) 0),(.int (3) 0),(.ref 327),(.bool true),(.int (181) 0),(.ref 328),.none,.none,.none,(.ref 329),(.int (604) 0),(.int (135) 0),(.str "/claim/cut.py" 605)]),#[]⟩
def k331 (P:Params):Obj:=⟨(.type "function"),none,(.func (fnOf "least_height" "least_height" (defArgs (top 37)) (defBody (top 37)) (defScope (top 37)) .none .none .none (.str "glazebench.stairs" 534) none (.ref 330) .none)),#[]⟩
def k332 (P:Params):Obj:=⟨(.type "tuple"),none,(.seq #[] 0),#[]⟩
def k335 (P:Params):Obj:=⟨(.type "code"),none,(.fields #[(.str "heights_of_parts" 607),(.str "heights_of_parts" 608),(.str "/claim/cut.py" 609),(.int (140) 0),(.int (2) 0),(.int (0) 0),(.int (0) 0),(.int (3) 0),(.ref 332),(.bool true),(.int (181) 0),(.ref 333),.none,.none,.none,(.ref 334),(.int (610) 0),(.int (140) 0),(.str "/claim/cut.py" 611)]),#[]⟩
def k336 (P:Params):Obj:=⟨(.type "function"),none,(.func (fnOf "heights_of_parts" "heights_of_parts" (defArgs (top 38)) (defBody (top 38)) (defScope (top 38)) .none .none .none (.str "glazebench.stairs" 534) none (.ref 335) .none)),#[]⟩
def k337 (P:Params):Obj:=⟨(.type "tuple"),none,(.seq #[] 0),#[]⟩
def k340 (P:Params):Obj:=⟨(.type "code"),none,(.fields #[(.str "stair" 613),(.str "stair" 614),(.str "/claim/cut.py" 615),(.int (146) 0),(.int (1) 0),(.int (0) 0),(.int (0) 0),(.int (3) 0),(.ref 337),(.bool true),(.int (181) 0),(.ref 338),.none,.none,.none,(.ref 339),(.int (616) 0),(.int (146) 0),(.str "/claim/cut.py" 617)]),#[]⟩
def k341 (P:Params):Obj:=⟨(.type "function"),none,(.func (fnOf "stair" "stair" (defArgs (top 39)) (defBody (top 39)) (defScope (top 39)) .none .none .none (.str "glazebench.stairs" 534) none (.ref 340) .none)),#[]⟩
def k342 (P:Params):Obj:=⟨(.type "tuple"),none,(.seq #[] 0),#[]⟩
def k344 (P:Params):Obj:=⟨(.type "tuple"),none,(.seq #[(.str "wants" 622)] 0),#[]⟩
def k345 (P:Params):Obj:=⟨(.type "tuple"),none,(.seq #[] 0),#[]⟩
def k347 (P:Params):Obj:=⟨(.type "code"),none,(.fields #[(.str "all_bits" 619),(.str "all_bits" 620),(.str "/claim/cut.py" 621),(.int (148) 0),(.int (1) 0),(.int (0) 0),(.int (0) 0),(.int (3) 0),(.ref 342),(.bool true),(.int (181) 0),(.ref 343),.none,(.ref 344),(.ref 345),(.ref 346),(.int (623) 0),(.int (148) 0),(.str "/claim/cut.py" 624)]),#[]⟩
def k348 (P:Params):Obj:=⟨(.type "function"),none,(.func (fnOf "all_bits" "all_bits" (defArgs (top 40)) (defBody (top 40)) (defScope (top 40)) .none .none .none (.str "glazebench.stairs" 534) none (.ref 347) .none)),#[]⟩
def k349 (P:Params):Obj:=⟨(.type "tuple"),none,(.seq #[] 0),#[]⟩
def k351 (P:Params):Obj:=⟨(.type "tuple"),none,(.seq #[(.str "wants" 629),(.str "found" 630),(.str "bits" 631),(.str "least" 632)] 0),#[]⟩
def k352 (P:Params):Obj:=⟨(.type "tuple"),none,(.seq #[] 0),#[]⟩
def k354 (P:Params):Obj:=⟨(.type "code"),none,(.fields #[(.str "stairs" 626),(.str "stairs" 627),(.str "/claim/cut.py" 628),(.int (150) 0),(.int (1) 0),(.int (0) 0),(.int (0) 0),(.int (3) 0),(.ref 349),(.bool true),(.int (181) 0),(.ref 350),.none,(.ref 351),(.ref 352),(.ref 353),(.int (633) 0),(.int (150) 0),(.str "/claim/cut.py" 634)]),#[]⟩
def k355 (P:Params):Obj:=⟨(.type "function"),none,(.func (fnOf "stairs" "stairs" (defArgs (top 41)) (defBody (top 41)) (defScope (top 41)) .none .none .none (.str "glazebench.stairs" 534) none (.ref 354) .none)),#[]⟩
def k356 (P:Params):Obj:=⟨(.type "tuple"),none,(.seq #[] 0),#[]⟩
def k358 (P:Params):Obj:=⟨(.type "tuple"),none,(.seq #[(.str "mark" 639),(.str "size" 640),(.str "width" 641),(.str "height" 642),(.str "tree" 643)] 0),#[]⟩
def k359 (P:Params):Obj:=⟨(.type "tuple"),none,(.seq #[] 0),#[]⟩
def k361 (P:Params):Obj:=⟨(.type "code"),none,(.fields #[(.str "cut_off" 636),(.str "cut_off" 637),(.str "/claim/cut.py" 638),(.int (156) 0),(.int (4) 0),(.int (0) 0),(.int (0) 0),(.int (3) 0),(.ref 356),(.bool true),(.int (181) 0),(.ref 357),.none,(.ref 358),(.ref 359),(.ref 360),(.int (644) 0),(.int (156) 0),(.str "/claim/cut.py" 645)]),#[]⟩
def k362 (P:Params):Obj:=⟨(.type "function"),none,(.func (fnOf "cut_off" "cut_off" (defArgs (top 42)) (defBody (top 42)) (defScope (top 42)) .none .none .none (.str "glazebench.stairs" 534) none (.ref 361) .none)),#[]⟩
def k363 (P:Params):Obj:=⟨(.type "tuple"),none,(.seq #[] 0),#[]⟩
def k365 (P:Params):Obj:=⟨(.type "tuple"),none,(.seq #[(.str "wants" 650),(.str "number" 651),(.str "width" 652),(.str "height" 653),(.str "held" 654)] 0),#[]⟩
def k366 (P:Params):Obj:=⟨(.type "tuple"),none,(.seq #[] 0),#[]⟩
def k368 (P:Params):Obj:=⟨(.type "code"),none,(.fields #[(.str "tree_alone" 647),(.str "tree_alone" 648),(.str "/claim/cut.py" 649),(.int (163) 0),(.int (4) 0),(.int (0) 0),(.int (0) 0),(.int (3) 0),(.ref 363),(.bool true),(.int (181) 0),(.ref 364),.none,(.ref 365),(.ref 366),(.ref 367),(.int (655) 0),(.int (163) 0),(.str "/claim/cut.py" 656)]),#[]⟩
def k369 (P:Params):Obj:=⟨(.type "function"),none,(.func (fnOf "tree_alone" "tree_alone" (defArgs (top 43)) (defBody (top 43)) (defScope (top 43)) .none .none .none (.str "glazebench.stairs" 534) none (.ref 368) .none)),#[]⟩
def k370 (P:Params):Obj:=⟨(.type "tuple"),none,(.seq #[] 0),#[]⟩
def k372 (P:Params):Obj:=⟨(.type "tuple"),none,(.seq #[(.str "wants" 661),(.str "heights" 662),(.str "bits" 663),(.str "width" 664),(.str "height" 665),(.str "cut" 666),(.str "word" 667),(.str "at" 668),(.str "part" 669),(.str "first" 670),(.str "other" 671)] 0),#[]⟩
def k373 (P:Params):Obj:=⟨(.type "tuple"),none,(.seq #[] 0),#[]⟩
def k375 (P:Params):Obj:=⟨(.type "code"),none,(.fields #[(.str "tree_for" 658),(.str "tree_for" 659),(.str "/claim/cut.py" 660),(.int (166) 0),(.int (5) 0),(.int (0) 0),(.int (0) 0),(.int (3) 0),(.ref 370),(.bool true),(.int (181) 0),(.ref 371),.none,(.ref 372),(.ref 373),(.ref 374),(.int (672) 0),(.int (166) 0),(.str "/claim/cut.py" 673)]),#[]⟩
def k376 (P:Params):Obj:=⟨(.type "function"),none,(.func (fnOf "tree_for" "tree_for" (defArgs (top 44)) (defBody (top 44)) (defScope (top 44)) .none .none .none (.str "glazebench.stairs" 534) none (.ref 375) .none)),#[]⟩
def k377 (P:Params):Obj:=⟨(.type "tuple"),none,(.seq #[] 0),#[]⟩
def k379 (P:Params):Obj:=⟨(.type "tuple"),none,(.seq #[(.str "thing" 682)] 0),#[]⟩
def k380 (P:Params):Obj:=⟨(.type "tuple"),none,(.seq #[] 0),#[]⟩
def k382 (P:Params):Obj:=⟨(.type "code"),none,(.fields #[(.str "is_sheet" 679),(.str "is_sheet" 680),(.str "/claim/cut.py" 681),(.int (182) 0),(.int (1) 0),(.int (0) 0),(.int (0) 0),(.int (3) 0),(.ref 377),(.bool true),(.int (181) 0),(.ref 378),.none,(.ref 379),(.ref 380),(.ref 381),(.int (683) 0),(.int (182) 0),(.str "/claim/cut.py" 684)]),#[]⟩
def k383 (P:Params):Obj:=⟨(.type "function"),none,(.func (fnOf "is_sheet" "is_sheet" (defArgs (top 47)) (defBody (top 47)) (defScope (top 47)) .none .none .none (.str "glazebench.plans" 675) none (.ref 382) .none)),#[]⟩
def k384 (P:Params):Obj:=⟨(.type "tuple"),none,(.seq #[] 0),#[]⟩
def k386 (P:Params):Obj:=⟨(.type "tuple"),none,(.seq #[(.str "sheets" 689),(.str "place" 690),(.str "sheet" 691)] 0),#[]⟩
def k387 (P:Params):Obj:=⟨(.type "tuple"),none,(.seq #[] 0),#[]⟩
def k389 (P:Params):Obj:=⟨(.type "code"),none,(.fields #[(.str "check_sheets" 686),(.str "check_sheets" 687),(.str "/claim/cut.py" 688),(.int (186) 0),(.int (1) 0),(.int (0) 0),(.int (0) 0),(.int (3) 0),(.ref 384),(.bool true),(.int (181) 0),(.ref 385),.none,(.ref 386),(.ref 387),(.ref 388),(.int (692) 0),(.int (186) 0),(.str "/claim/cut.py" 693)]),#[]⟩
def k390 (P:Params):Obj:=⟨(.type "function"),none,(.func (fnOf "check_sheets" "check_sheets" (defArgs (top 48)) (defBody (top 48)) (defScope (top 48)) .none .none .none (.str "glazebench.plans" 675) none (.ref 389) .none)),#[]⟩
def k391 (P:Params):Obj:=⟨(.type "tuple"),none,(.seq #[] 0),#[]⟩
def k393 (P:Params):Obj:=⟨(.type "tuple"),none,(.seq #[(.str "wants" 698),(.str "sheets" 699)] 0),#[]⟩
def k394 (P:Params):Obj:=⟨(.type "tuple"),none,(.seq #[] 0),#[]⟩
def k396 (P:Params):Obj:=⟨(.type "code"),none,(.fields #[(.str "heights_for" 695),(.str "heights_for" 696),(.str "/claim/cut.py" 697),(.int (192) 0),(.int (2) 0),(.int (0) 0),(.int (0) 0),(.int (3) 0),(.ref 391),(.bool true),(.int (181) 0),(.ref 392),.none,(.ref 393),(.ref 394),(.ref 395),(.int (700) 0),(.int (192) 0),(.str "/claim/cut.py" 701)]),#[]⟩
def k397 (P:Params):Obj:=⟨(.type "function"),none,(.func (fnOf "heights_for" "heights_for" (defArgs (top 49)) (defBody (top 49)) (defScope (top 49)) .none .none .none (.str "glazebench.plans" 675) none (.ref 396) .none)),#[]⟩
def k398 (P:Params):Obj:=⟨(.type "tuple"),none,(.seq #[] 0),#[]⟩
def k401 (P:Params):Obj:=⟨(.type "code"),none,(.fields #[(.str "cheapest_sheets" 703),(.str "cheapest_sheets" 704),(.str "/claim/cut.py" 705),(.int (196) 0),(.int (2) 0),(.int (0) 0),(.int (0) 0),(.int (3) 0),(.ref 398),(.bool true),(.int (181) 0),(.ref 399),.none,.none,.none,(.ref 400),(.int (706) 0),(.int (196) 0),(.str "/claim/cut.py" 707)]),#[]⟩
def k402 (P:Params):Obj:=⟨(.type "function"),none,(.func (fnOf "cheapest_sheets" "cheapest_sheets" (defArgs (top 50)) (defBody (top 50)) (defScope (top 50)) .none .none .none (.str "glazebench.plans" 675) none (.ref 401) .none)),#[]⟩
def k403 (P:Params):Obj:=⟨(.type "tuple"),none,(.seq #[] 0),#[]⟩
def k406 (P:Params):Obj:=⟨(.type "code"),none,(.fields #[(.str "first_sheets" 709),(.str "first_sheets" 710),(.str "/claim/cut.py" 711),(.int (203) 0),(.int (3) 0),(.int (0) 0),(.int (0) 0),(.int (3) 0),(.ref 403),(.bool true),(.int (181) 0),(.ref 404),.none,.none,.none,(.ref 405),(.int (712) 0),(.int (203) 0),(.str "/claim/cut.py" 713)]),#[]⟩
def k407 (P:Params):Obj:=⟨(.type "function"),none,(.func (fnOf "first_sheets" "first_sheets" (defArgs (top 51)) (defBody (top 51)) (defScope (top 51)) .none .none .none (.str "glazebench.plans" 675) none (.ref 406) .none)),#[]⟩
def k408 (P:Params):Obj:=⟨(.type "tuple"),none,(.seq #[] 0),#[]⟩
def k410 (P:Params):Obj:=⟨(.type "tuple"),none,(.seq #[(.str "cheapest" 718),(.str "bits" 719),(.str "glass" 720),(.str "part" 721),(.str "ways" 722)] 0),#[]⟩
def k411 (P:Params):Obj:=⟨(.type "tuple"),none,(.seq #[] 0),#[]⟩
def k413 (P:Params):Obj:=⟨(.type "code"),none,(.fields #[(.str "glass_by_set" 715),(.str "glass_by_set" 716),(.str "/claim/cut.py" 717),(.int (206) 0),(.int (2) 0),(.int (0) 0),(.int (0) 0),(.int (3) 0),(.ref 408),(.bool true),(.int (181) 0),(.ref 409),.none,(.ref 410),(.ref 411),(.ref 412),(.int (723) 0),(.int (206) 0),(.str "/claim/cut.py" 724)]),#[]⟩
def k414 (P:Params):Obj:=⟨(.type "function"),none,(.func (fnOf "glass_by_set" "glass_by_set" (defArgs (top 52)) (defBody (top 52)) (defScope (top 52)) .none .none .none (.str "glazebench.plans" 675) none (.ref 413) .none)),#[]⟩
def k415 (P:Params):Obj:=⟨(.type "tuple"),none,(.seq #[] 0),#[]⟩
def k417 (P:Params):Obj:=⟨(.type "tuple"),none,(.seq #[(.str "wants" 729),(.str "sheets" 730),(.str "heights" 731)] 0),#[]⟩
def k418 (P:Params):Obj:=⟨(.type "tuple"),none,(.seq #[] 0),#[]⟩
def k420 (P:Params):Obj:=⟨(.type "code"),none,(.fields #[(.str "least_glass" 726),(.str "least_glass" 727),(.str "/claim/cut.py" 728),(.int (212) 0),(.int (2) 0),(.int (0) 0),(.int (0) 0),(.int (3) 0),(.ref 415),(.bool true),(.int (181) 0),(.ref 416),.none,(.ref 417),(.ref 418),(.ref 419),(.int (732) 0),(.int (212) 0),(.str "/claim/cut.py" 733)]),#[]⟩
def k421 (P:Params):Obj:=⟨(.type "function"),none,(.func (fnOf "least_glass" "least_glass" (defArgs (top 53)) (defBody (top 53)) (defScope (top 53)) .none .none .none (.str "glazebench.plans" 675) none (.ref 420) .none)),#[]⟩
def k422 (P:Params):Obj:=⟨(.type "tuple"),none,(.seq #[] 0),#[]⟩
def k424 (P:Params):Obj:=⟨(.type "tuple"),none,(.seq #[(.str "wants" 738),(.str "cheapest" 739),(.str "number" 740)] 0),#[]⟩
def k425 (P:Params):Obj:=⟨(.type "tuple"),none,(.seq #[] 0),#[]⟩
def k427 (P:Params):Obj:=⟨(.type "code"),none,(.fields #[(.str "check_served" 735),(.str "check_served" 736),(.str "/claim/cut.py" 737),(.int (215) 0),(.int (2) 0),(.int (0) 0),(.int (0) 0),(.int (3) 0),(.ref 422),(.bool true),(.int (181) 0),(.ref 423),.none,(.ref 424),(.ref 425),(.ref 426),(.int (741) 0),(.int (215) 0),(.str "/claim/cut.py" 742)]),#[]⟩
def k428 (P:Params):Obj:=⟨(.type "function"),none,(.func (fnOf "check_served" "check_served" (defArgs (top 54)) (defBody (top 54)) (defScope (top 54)) .none .none .none (.str "glazebench.plans" 675) none (.ref 427) .none)),#[]⟩
def k429 (P:Params):Obj:=⟨(.type "tuple"),none,(.seq #[] 0),#[]⟩
def k431 (P:Params):Obj:=⟨(.type "tuple"),none,(.seq #[(.str "wants" 747),(.str "sheets" 748),(.str "heights" 749),(.str "cheapest" 750),(.str "bits" 751),(.str "glass" 752),(.str "told" 753),(.str "part" 754),(.str "number" 755),(.str "size" 756)] 0),#[]⟩
def k432 (P:Params):Obj:=⟨(.type "tuple"),none,(.seq #[] 0),#[]⟩
def k434 (P:Params):Obj:=⟨(.type "code"),none,(.fields #[(.str "plan" 744),(.str "plan" 745),(.str "/claim/cut.py" 746),(.int (219) 0),(.int (2) 0),(.int (0) 0),(.int (0) 0),(.int (3) 0),(.ref 429),(.bool true),(.int (181) 0),(.ref 430),.none,(.ref 431),(.ref 432),(.ref 433),(.int (757) 0),(.int (219) 0),(.str "/claim/cut.py" 758)]),#[]⟩
def k435 (P:Params):Obj:=⟨(.type "function"),none,(.func (fnOf "plan" "plan" (defArgs (top 55)) (defBody (top 55)) (defScope (top 55)) .none .none .none (.str "glazebench.plans" 675) none (.ref 434) .none)),#[]⟩
def k436 (P:Params):Obj:=⟨(.type "tuple"),none,(.seq #[] 0),#[]⟩
def k438 (P:Params):Obj:=⟨(.type "tuple"),none,(.seq #[(.str "_law_script" 765),(.str "_law_k" 766),(.str "_law_cell" 767)] 0),#[]⟩
def k439 (P:Params):Obj:=⟨(.type "tuple"),none,(.seq #[] 0),#[]⟩
def k441 (P:Params):Obj:=⟨(.type "code"),none,(.fields #[(.str "_law_at" 762),(.str "_law_at" 763),(.str "/claim/cut.py" 764),(.int (234) 0),(.int (2) 0),(.int (0) 0),(.int (0) 0),(.int (3) 0),(.ref 436),(.bool true),(.int (181) 0),(.ref 437),.none,(.ref 438),(.ref 439),(.ref 440),(.int (768) 0),(.int (234) 0),(.str "/claim/cut.py" 769)]),#[]⟩
def k442 (P:Params):Obj:=⟨(.type "function"),none,(.func (fnOf "_law_at" "_law_at" (defArgs (top 57)) (defBody (top 57)) (defScope (top 57)) .none .none .none (.str "law_glazebench_k63_whole_any_tree_is_on_the" 760) none (.ref 441) .none)),#[]⟩
def k443 (P:Params):Obj:=⟨(.type "tuple"),none,(.seq #[] 0),#[]⟩
def k446 (P:Params):Obj:=⟨(.type "code"),none,(.fields #[(.str "_law_more" 771),(.str "_law_more" 772),(.str "/claim/cut.py" 773),(.int (241) 0),(.int (3) 0),(.int (0) 0),(.int (0) 0),(.int (3) 0),(.ref 443),(.bool true),(.int (181) 0),(.ref 444),.none,.none,.none,(.ref 445),(.int (774) 0),(.int (241) 0),(.str "/claim/cut.py" 775)]),#[]⟩
def k447 (P:Params):Obj:=⟨(.type "function"),none,(.func (fnOf "_law_more" "_law_more" (defArgs (top 58)) (defBody (top 58)) (defScope (top 58)) .none .none .none (.str "law_glazebench_k63_whole_any_tree_is_on_the" 760) none (.ref 446) .none)),#[]⟩
def k448 (P:Params):Obj:=⟨(.type "tuple"),none,(.seq #[] 0),#[]⟩
def k450 (P:Params):Obj:=⟨(.type "tuple"),none,(.seq #[(.str "_law_number" 780),(.str "_law_by" 781),(.str "_law_digits" 782),(.str "_law_k" 783),(.str "_law_found" 784)] 0),#[]⟩
def k451 (P:Params):Obj:=⟨(.type "tuple"),none,(.seq #[] 0),#[]⟩
def k453 (P:Params):Obj:=⟨(.type "code"),none,(.fields #[(.str "_law_knead" 777),(.str "_law_knead" 778),(.str "/claim/cut.py" 779),(.int (243) 0),(.int (2) 0),(.int (0) 0),(.int (0) 0),(.int (3) 0),(.ref 448),(.bool true),(.int (181) 0),(.ref 449),.none,(.ref 450),(.ref 451),(.ref 452),(.int (785) 0),(.int (243) 0),(.str "/claim/cut.py" 786)]),#[]⟩
def k454 (P:Params):Obj:=⟨(.type "function"),none,(.func (fnOf "_law_knead" "_law_knead" (defArgs (top 59)) (defBody (top 59)) (defScope (top 59)) .none .none .none (.str "law_glazebench_k63_whole_any_tree_is_on_the" 760) none (.ref 453) .none)),#[]⟩
def k455 (P:Params):Obj:=⟨(.type "tuple"),none,(.seq #[] 0),#[]⟩
def k457 (P:Params):Obj:=⟨(.type "tuple"),none,(.seq #[(.str "_law_number" 791)] 0),#[]⟩
def k458 (P:Params):Obj:=⟨(.type "tuple"),none,(.seq #[] 0),#[]⟩
def k460 (P:Params):Obj:=⟨(.type "code"),none,(.fields #[(.str "_law_mark" 788),(.str "_law_mark" 789),(.str "/claim/cut.py" 790),(.int (257) 0),(.int (1) 0),(.int (0) 0),(.int (0) 0),(.int (3) 0),(.ref 455),(.bool true),(.int (181) 0),(.ref 456),.none,(.ref 457),(.ref 458),(.ref 459),(.int (792) 0),(.int (257) 0),(.str "/claim/cut.py" 793)]),#[]⟩
def k461 (P:Params):Obj:=⟨(.type "function"),none,(.func (fnOf "_law_mark" "_law_mark" (defArgs (top 60)) (defBody (top 60)) (defScope (top 60)) .none .none .none (.str "law_glazebench_k63_whole_any_tree_is_on_the" 760) none (.ref 460) .none)),#[]⟩
def k462 (P:Params):Obj:=⟨(.type "tuple"),none,(.seq #[] 0),#[]⟩
def k464 (P:Params):Obj:=⟨(.type "tuple"),none,(.seq #[(.str "_law_cells" 798),(.str "_law_width" 799),(.str "_law_height" 800),(.str "_law_number" 801),(.str "_law_some" 802),(.str "_law_word" 803),(.str "_law_side" 804),(.str "_law_at_here" 805),(.str "_law_first" 806)] 0),#[]⟩
def k465 (P:Params):Obj:=⟨(.type "tuple"),none,(.seq #[] 0),#[]⟩
def k467 (P:Params):Obj:=⟨(.type "code"),none,(.fields #[(.str "_law_drawn" 795),(.str "_law_drawn" 796),(.str "/claim/cut.py" 797),(.int (259) 0),(.int (3) 0),(.int (0) 0),(.int (0) 0),(.int (3) 0),(.ref 462),(.bool true),(.int (181) 0),(.ref 463),.none,(.ref 464),(.ref 465),(.ref 466),(.int (807) 0),(.int (259) 0),(.str "/claim/cut.py" 808)]),#[]⟩
def k468 (P:Params):Obj:=⟨(.type "function"),none,(.func (fnOf "_law_drawn" "_law_drawn" (defArgs (top 61)) (defBody (top 61)) (defScope (top 61)) .none .none .none (.str "law_glazebench_k63_whole_any_tree_is_on_the" 760) none (.ref 467) .none)),#[]⟩
def k469 (P:Params):Obj:=⟨(.type "tuple"),none,(.seq #[] 0),#[]⟩
def k471 (P:Params):Obj:=⟨(.type "tuple"),none,(.seq #[(.str "_law_told" 813),(.str "_law_top" 814),(.str "_law_left" 815),(.str "_law_bottom" 816),(.str "_law_right" 817),(.str "_law_at_here" 818),(.str "_law_first" 819)] 0),#[]⟩
def k472 (P:Params):Obj:=⟨(.type "tuple"),none,(.seq #[] 0),#[]⟩
def k474 (P:Params):Obj:=⟨(.type "code"),none,(.fields #[(.str "_law_rectangles" 810),(.str "_law_rectangles" 811),(.str "/claim/cut.py" 812),(.int (273) 0),(.int (5) 0),(.int (0) 0),(.int (0) 0),(.int (3) 0),(.ref 469),(.bool true),(.int (181) 0),(.ref 470),.none,(.ref 471),(.ref 472),(.ref 473),(.int (820) 0),(.int (273) 0),(.str "/claim/cut.py" 821)]),#[]⟩
def k475 (P:Params):Obj:=⟨(.type "function"),none,(.func (fnOf "_law_rectangles" "_law_rectangles" (defArgs (top 62)) (defBody (top 62)) (defScope (top 62)) .none .none .none (.str "law_glazebench_k63_whole_any_tree_is_on_the" 760) none (.ref 474) .none)),#[]⟩
def k476 (P:Params):Obj:=⟨(.type "tuple"),none,(.seq #[] 0),#[]⟩
def k478 (P:Params):Obj:=⟨(.type "tuple"),none,(.seq #[(.str "_law_tree" 826),(.str "_law_top" 827),(.str "_law_left" 828),(.str "_law_bottom" 829),(.str "_law_right" 830),(.str "_law_at_here" 831),(.str "_law_first" 832)] 0),#[]⟩
def k479 (P:Params):Obj:=⟨(.type "tuple"),none,(.seq #[] 0),#[]⟩
def k481 (P:Params):Obj:=⟨(.type "code"),none,(.fields #[(.str "_law_leaves" 823),(.str "_law_leaves" 824),(.str "/claim/cut.py" 825),(.int (282) 0),(.int (5) 0),(.int (0) 0),(.int (0) 0),(.int (3) 0),(.ref 476),(.bool true),(.int (181) 0),(.ref 477),.none,(.ref 478),(.ref 479),(.ref 480),(.int (833) 0),(.int (282) 0),(.str "/claim/cut.py" 834)]),#[]⟩
def k482 (P:Params):Obj:=⟨(.type "function"),none,(.func (fnOf "_law_leaves" "_law_leaves" (defArgs (top 63)) (defBody (top 63)) (defScope (top 63)) .none .none .none (.str "law_glazebench_k63_whole_any_tree_is_on_the" 760) none (.ref 481) .none)),#[]⟩
def k483 (P:Params):Obj:=⟨(.type "tuple"),none,(.seq #[] 0),#[]⟩
def k485 (P:Params):Obj:=⟨(.type "tuple"),none,(.seq #[(.str "_law_tree" 839),(.str "_law_wants" 840),(.str "_law_bits_here" 841),(.str "_law_width" 842),(.str "_law_height" 843),(.str "_law_met" 844),(.str "_law_leaf" 845),(.str "_law_top" 846),(.str "_law_left" 847),(.str "_law_bottom" 848),(.str "_law_right" 849),(.str "_law_size" 850),(.str "_law_wide" 851),(.str "_law_high" 852),(.str "_law_turns" 853)] 0),#[]⟩
def k486 (P:Params):Obj:=⟨(.type "tuple"),none,(.seq #[] 0),#[]⟩
def k488 (P:Params):Obj:=⟨(.type "code"),none,(.fields #[(.str "_law_serves" 836),(.str "_law_serves" 837),(.str "/claim/cut.py" 838),(.int (295) 0),(.int (5) 0),(.int (0) 0),(.int (0) 0),(.int (3) 0),(.ref 483),(.bool true),(.int (181) 0),(.ref 484),.none,(.ref 485),(.ref 486),(.ref 487),(.int (854) 0),(.int (295) 0),(.str "/claim/cut.py" 855)]),#[]⟩
def k489 (P:Params):Obj:=⟨(.type "function"),none,(.func (fnOf "_law_serves" "_law_serves" (defArgs (top 64)) (defBody (top 64)) (defScope (top 64)) .none .none .none (.str "law_glazebench_k63_whole_any_tree_is_on_the" 760) none (.ref 488) .none)),#[]⟩
def k490 (P:Params):Obj:=⟨(.type "tuple"),none,(.seq #[] 0),#[]⟩
def k492 (P:Params):Obj:=⟨(.type "tuple"),none,(.seq #[(.str "_law_pieces_told" 860),(.str "_law_cell" 861),(.str "_law_left" 862),(.str "_law_found" 863),(.str "_law_k" 864),(.str "_law_number" 865),(.str "_law_top" 866),(.str "_law_west" 867),(.str "_law_bottom" 868),(.str "_law_east" 869),(.str "_law_size" 870),(.str "_law_turns" 871)] 0),#[]⟩
def k493 (P:Params):Obj:=⟨(.type "tuple"),none,(.seq #[] 0),#[]⟩
def k495 (P:Params):Obj:=⟨(.type "code"),none,(.fields #[(.str "_law_from" 857),(.str "_law_from" 858),(.str "/claim/cut.py" 859),(.int (313) 0),(.int (2) 0),(.int (0) 0),(.int (0) 0),(.int (3) 0),(.ref 490),(.bool true),(.int (181) 0),(.ref 491),.none,(.ref 492),(.ref 493),(.ref 494),(.int (872) 0),(.int (313) 0),(.str "/claim/cut.py" 873)]),#[]⟩
def k496 (P:Params):Obj:=⟨(.type "function"),none,(.func (fnOf "_law_from" "_law_from" (defArgs (top 65)) (defBody (top 65)) (defScope (top 65)) .none .none .none (.str "law_glazebench_k63_whole_any_tree_is_on_the" 760) none (.ref 495) .none)),#[]⟩
def k497 (P:Params):Obj:=⟨(.type "tuple"),none,(.seq #[] 0),#[]⟩
def k499 (P:Params):Obj:=⟨(.type "tuple"),none,(.seq #[(.str "_law_tree" 878),(.str "_law_wants" 879),(.str "_law_sheet" 880),(.str "_law_found" 881),(.str "_law_leaf" 882)] 0),#[]⟩
def k500 (P:Params):Obj:=⟨(.type "tuple"),none,(.seq #[] 0),#[]⟩
def k502 (P:Params):Obj:=⟨(.type "code"),none,(.fields #[(.str "_law_bits" 875),(.str "_law_bits" 876),(.str "/claim/cut.py" 877),(.int (325) 0),(.int (3) 0),(.int (0) 0),(.int (0) 0),(.int (3) 0),(.ref 497),(.bool true),(.int (181) 0),(.ref 498),.none,(.ref 499),(.ref 500),(.ref 501),(.int (883) 0),(.int (325) 0),(.str "/claim/cut.py" 884)]),#[]⟩
def k503 (P:Params):Obj:=⟨(.type "function"),none,(.func (fnOf "_law_bits" "_law_bits" (defArgs (top 66)) (defBody (top 66)) (defScope (top 66)) .none .none .none (.str "law_glazebench_k63_whole_any_tree_is_on_the" 760) none (.ref 502) .none)),#[]⟩
def k504 (P:Params):Obj:=⟨(.type "tuple"),none,(.seq #[] 0),#[]⟩
def k506 (P:Params):Obj:=⟨(.type "tuple"),none,(.seq #[(.str "_law_wants" 889),(.str "_law_sheets" 890),(.str "_law_glass" 891),(.str "_law_met" 892),(.str "_law_gone" 893),(.str "_law_number" 894),(.str "_law_tree" 895),(.str "_law_bits_here" 896)] 0),#[]⟩
def k507 (P:Params):Obj:=⟨(.type "tuple"),none,(.seq #[] 0),#[]⟩
def k509 (P:Params):Obj:=⟨(.type "code"),none,(.fields #[(.str "_law_planned" 886),(.str "_law_planned" 887),(.str "/claim/cut.py" 888),(.int (335) 0),(.int (3) 0),(.int (0) 0),(.int (0) 0),(.int (3) 0),(.ref 504),(.bool true),(.int (181) 0),(.ref 505),.none,(.ref 506),(.ref 507),(.ref 508),(.int (897) 0),(.int (335) 0),(.str "/claim/cut.py" 898)]),#[]⟩
def k510 (P:Params):Obj:=⟨(.type "function"),none,(.func (fnOf "_law_planned" "_law_planned" (defArgs (top 67)) (defBody (top 67)) (defScope (top 67)) .none .none .none (.str "law_glazebench_k63_whole_any_tree_is_on_the" 760) none (.ref 509) .none)),#[]⟩
def k511 (P:Params):Obj:=⟨(.type "tuple"),none,(.seq #[] 0),#[]⟩
def k514 (P:Params):Obj:=⟨(.type "code"),none,(.fields #[(.str "law" 900),(.str "law" 901),(.str "/claim/cut.py" 902),(.int (345) 0),(.int (1) 0),(.int (0) 0),(.int (0) 0),(.int (3) 0),(.ref 511),(.bool true),(.int (181) 0),(.ref 512),.none,.none,.none,(.ref 513),(.int (903) 0),(.int (345) 0),(.str "/claim/cut.py" 904)]),#[]⟩
def k515 (P:Params):Obj:=⟨(.type "function"),none,(.func (fnOf "law" "law" (defArgs (top 68)) (defBody (top 68)) (defScope (top 68)) .none .none .none (.str "law_glazebench_k63_whole_any_tree_is_on_the" 760) none (.ref 514) .none)),#[]⟩
def KK:Params→Frag:=fun P=>(nat_lit 2,k2 P) :: (nat_lit 3,k3 P) :: (nat_lit 15,k15 P) :: (nat_lit 17,k17 P) :: (nat_lit 18,k18 P) :: (nat_lit 20,k20 P) :: (nat_lit 21,k21 P) :: (nat_lit 22,k22 P) :: (nat_lit 29,k29 P) :: (nat_lit 30,k30 P) :: (nat_lit 31,k31 P) :: (nat_lit 32,k32 P) :: (nat_lit 35,k35 P) :: (nat_lit 42,k42 P) :: (nat_lit 44,k44 P) :: (nat_lit 45,k45 P) :: (nat_lit 47,k47 P) :: (nat_lit 48,k48 P) :: (nat_lit 49,k49 P) :: (nat_lit 50,k50 P) :: (nat_lit 51,k51 P) :: (nat_lit 54,k54 P) :: (nat_lit 61,k61 P) :: (nat_lit 63,k63 P) :: (nat_lit 64,k64 P) :: (nat_lit 66,k66 P) :: (nat_lit 67,k67 P) :: (nat_lit 68,k68 P) :: (nat_lit 69,k69 P) :: (nat_lit 70,k70 P) :: (nat_lit 73,k73 P) :: (nat_lit 80,k80 P) :: (nat_lit 82,k82 P) :: (nat_lit 83,k83 P) :: (nat_lit 85,k85 P) :: (nat_lit 86,k86 P) :: (nat_lit 87,k87 P) :: (nat_lit 88,k88 P) :: (nat_lit 89,k89 P) :: (nat_lit 92,k92 P) :: (nat_lit 99,k99 P) :: (nat_lit 101,k101 P) :: (nat_lit 102,k102 P) :: (nat_lit 104,k104 P) :: (nat_lit 105,k105 P) :: (nat_lit 106,k106 P) :: (nat_lit 107,k107 P) :: (nat_lit 108,k108 P) :: (nat_lit 111,k111 P) :: (nat_lit 113,k113 P) :: (nat_lit 114,k114 P) :: (nat_lit 116,k116 P) :: (nat_lit 117,k117 P) :: (nat_lit 118,k118 P) :: (nat_lit 120,k120 P) :: (nat_lit 121,k121 P) :: (nat_lit 123,k123 P) :: (nat_lit 124,k124 P) :: (nat_lit 132,k132 P) :: (nat_lit 134,k134 P) :: (nat_lit 135,k135 P) :: (nat_lit 137,k137 P) :: (nat_lit 138,k138 P) :: (nat_lit 139,k139 P) :: (nat_lit 141,k141 P) :: (nat_lit 142,k142 P) :: (nat_lit 144,k144 P) :: (nat_lit 145,k145 P) :: (nat_lit 146,k146 P) :: (nat_lit 149,k149 P) :: (nat_lit 150,k150 P) :: (nat_lit 151,k151 P) :: (nat_lit 153,k153 P) :: (nat_lit 154,k154 P) :: (nat_lit 156,k156 P) :: (nat_lit 157,k157 P) :: (nat_lit 158,k158 P) :: (nat_lit 160,k160 P) :: (nat_lit 161,k161 P) :: (nat_lit 163,k163 P) :: (nat_lit 164,k164 P) :: (nat_lit 165,k165 P) :: (nat_lit 166,k166 P) :: (nat_lit 167,k167 P) :: (nat_lit 168,k168 P) :: (nat_lit 169,k169 P) :: (nat_lit 172,k172 P) :: (nat_lit 179,k179 P) :: (nat_lit 180,k180 P) :: (nat_lit 182,k182 P) :: (nat_lit 183,k183 P) :: (nat_lit 185,k185 P) :: (nat_lit 186,k186 P) :: (nat_lit 187,k187 P) :: (nat_lit 188,k188 P) :: (nat_lit 189,k189 P) :: (nat_lit 192,k192 P) :: (nat_lit 199,k199 P) :: (nat_lit 201,k201 P) :: (nat_lit 202,k202 P) :: (nat_lit 204,k204 P) :: (nat_lit 205,k205 P) :: (nat_lit 206,k206 P) :: (nat_lit 207,k207 P) :: (nat_lit 208,k208 P) :: (nat_lit 211,k211 P) :: (nat_lit 218,k218 P) :: (nat_lit 220,k220 P) :: (nat_lit 221,k221 P) :: (nat_lit 223,k223 P) :: (nat_lit 224,k224 P) :: (nat_lit 225,k225 P) :: (nat_lit 226,k226 P) :: (nat_lit 227,k227 P) :: (nat_lit 230,k230 P) :: (nat_lit 232,k232 P) :: (nat_lit 233,k233 P) :: (nat_lit 235,k235 P) :: (nat_lit 236,k236 P) :: (nat_lit 237,k237 P) :: (nat_lit 239,k239 P) :: (nat_lit 240,k240 P) :: (nat_lit 242,k242 P) :: (nat_lit 243,k243 P) :: (nat_lit 244,k244 P) :: (nat_lit 246,k246 P) :: (nat_lit 247,k247 P) :: (nat_lit 249,k249 P) :: (nat_lit 250,k250 P) :: (nat_lit 251,k251 P) :: (nat_lit 253,k253 P) :: (nat_lit 254,k254 P) :: (nat_lit 256,k256 P) :: (nat_lit 257,k257 P) :: (nat_lit 258,k258 P) :: (nat_lit 260,k260 P) :: (nat_lit 261,k261 P) :: (nat_lit 263,k263 P) :: (nat_lit 264,k264 P) :: (nat_lit 265,k265 P) :: (nat_lit 267,k267 P) :: (nat_lit 268,k268 P) :: (nat_lit 270,k270 P) :: (nat_lit 271,k271 P) :: (nat_lit 272,k272 P) :: (nat_lit 274,k274 P) :: (nat_lit 275,k275 P) :: (nat_lit 277,k277 P) :: (nat_lit 278,k278 P) :: (nat_lit 279,k279 P) :: (nat_lit 281,k281 P) :: (nat_lit 282,k282 P) :: (nat_lit 284,k284 P) :: (nat_lit 285,k285 P) :: (nat_lit 286,k286 P) :: (nat_lit 288,k288 P) :: (nat_lit 289,k289 P) :: (nat_lit 291,k291 P) :: (nat_lit 292,k292 P) :: (nat_lit 293,k293 P) :: (nat_lit 296,k296 P) :: (nat_lit 297,k297 P) :: (nat_lit 298,k298 P) :: (nat_lit 300,k300 P) :: (nat_lit 301,k301 P) :: (nat_lit 303,k303 P) :: (nat_lit 304,k304 P) :: (nat_lit 305,k305 P) :: (nat_lit 307,k307 P) :: (nat_lit 308,k308 P) :: (nat_lit 310,k310 P) :: (nat_lit 311,k311 P) :: (nat_lit 312,k312 P) :: (nat_lit 315,k315 P) :: (nat_lit 316,k316 P) :: (nat_lit 317,k317 P) :: (nat_lit 320,k320 P) :: (nat_lit 321,k321 P) :: (nat_lit 322,k322 P) :: (nat_lit 325,k325 P) :: (nat_lit 326,k326 P) :: (nat_lit 327,k327 P) :: (nat_lit 330,k330 P) :: (nat_lit 331,k331 P) :: (nat_lit 332,k332 P) :: (nat_lit 335,k335 P) :: (nat_lit 336,k336 P) :: (nat_lit 337,k337 P) :: (nat_lit 340,k340 P) :: (nat_lit 341,k341 P) :: (nat_lit 342,k342 P) :: (nat_lit 344,k344 P) :: (nat_lit 345,k345 P) :: (nat_lit 347,k347 P) :: (nat_lit 348,k348 P) :: (nat_lit 349,k349 P) :: (nat_lit 351,k351 P) :: (nat_lit 352,k352 P) :: (nat_lit 354,k354 P) :: (nat_lit 355,k355 P) :: (nat_lit 356,k356 P) :: (nat_lit 358,k358 P) :: (nat_lit 359,k359 P) :: (nat_lit 361,k361 P) :: (nat_lit 362,k362 P) :: (nat_lit 363,k363 P) :: (nat_lit 365,k365 P) :: (nat_lit 366,k366 P) :: (nat_lit 368,k368 P) :: (nat_lit 369,k369 P) :: (nat_lit 370,k370 P) :: (nat_lit 372,k372 P) :: (nat_lit 373,k373 P) :: (nat_lit 375,k375 P) :: (nat_lit 376,k376 P) :: (nat_lit 377,k377 P) :: (nat_lit 379,k379 P) :: (nat_lit 380,k380 P) :: (nat_lit 382,k382 P) :: (nat_lit 383,k383 P) :: (nat_lit 384,k384 P) :: (nat_lit 386,k386 P) :: (nat_lit 387,k387 P) :: (nat_lit 389,k389 P) :: (nat_lit 390,k390 P) :: (nat_lit 391,k391 P) :: (nat_lit 393,k393 P) :: (nat_lit 394,k394 P) :: (nat_lit 396,k396 P) :: (nat_lit 397,k397 P) :: (nat_lit 398,k398 P) :: (nat_lit 401,k401 P) :: (nat_lit 402,k402 P) :: (nat_lit 403,k403 P) :: (nat_lit 406,k406 P) :: (nat_lit 407,k407 P) :: (nat_lit 408,k408 P) :: (nat_lit 410,k410 P) :: (nat_lit 411,k411 P) :: (nat_lit 413,k413 P) :: (nat_lit 414,k414 P) :: (nat_lit 415,k415 P) :: (nat_lit 417,k417 P) :: (nat_lit 418,k418 P) :: (nat_lit 420,k420 P) :: (nat_lit 421,k421 P) :: (nat_lit 422,k422 P) :: (nat_lit 424,k424 P) :: (nat_lit 425,k425 P) :: (nat_lit 427,k427 P) :: (nat_lit 428,k428 P) :: (nat_lit 429,k429 P) :: (nat_lit 431,k431 P) :: (nat_lit 432,k432 P) :: (nat_lit 434,k434 P) :: (nat_lit 435,k435 P) :: (nat_lit 436,k436 P) :: (nat_lit 438,k438 P) :: (nat_lit 439,k439 P) :: (nat_lit 441,k441 P) :: (nat_lit 442,k442 P) :: (nat_lit 443,k443 P) :: (nat_lit 446,k446 P) :: (nat_lit 447,k447 P) :: (nat_lit 448,k448 P) :: (nat_lit 450,k450 P) :: (nat_lit 451,k451 P) :: (nat_lit 453,k453 P) :: (nat_lit 454,k454 P) :: (nat_lit 455,k455 P) :: (nat_lit 457,k457 P) :: (nat_lit 458,k458 P) :: (nat_lit 460,k460 P) :: (nat_lit 461,k461 P) :: (nat_lit 462,k462 P) :: (nat_lit 464,k464 P) :: (nat_lit 465,k465 P) :: (nat_lit 467,k467 P) :: (nat_lit 468,k468 P) :: (nat_lit 469,k469 P) :: (nat_lit 471,k471 P) :: (nat_lit 472,k472 P) :: (nat_lit 474,k474 P) :: (nat_lit 475,k475 P) :: (nat_lit 476,k476 P) :: (nat_lit 478,k478 P) :: (nat_lit 479,k479 P) :: (nat_lit 481,k481 P) :: (nat_lit 482,k482 P) :: (nat_lit 483,k483 P) :: (nat_lit 485,k485 P) :: (nat_lit 486,k486 P) :: (nat_lit 488,k488 P) :: (nat_lit 489,k489 P) :: (nat_lit 490,k490 P) :: (nat_lit 492,k492 P) :: (nat_lit 493,k493 P) :: (nat_lit 495,k495 P) :: (nat_lit 496,k496 P) :: (nat_lit 497,k497 P) :: (nat_lit 499,k499 P) :: (nat_lit 500,k500 P) :: (nat_lit 502,k502 P) :: (nat_lit 503,k503 P) :: (nat_lit 504,k504 P) :: (nat_lit 506,k506 P) :: (nat_lit 507,k507 P) :: (nat_lit 509,k509 P) :: (nat_lit 510,k510 P) :: (nat_lit 511,k511 P) :: (nat_lit 514,k514 P) :: (nat_lit 515,k515 P) :: []
def kas:List Addr:=nat_lit 2 :: nat_lit 3 :: nat_lit 15 :: nat_lit 17 :: nat_lit 18 :: nat_lit 20 :: nat_lit 21 :: nat_lit 22 :: nat_lit 29 :: nat_lit 30 :: nat_lit 31 :: nat_lit 32 :: nat_lit 35 :: nat_lit 42 :: nat_lit 44 :: nat_lit 45 :: nat_lit 47 :: nat_lit 48 :: nat_lit 49 :: nat_lit 50 :: nat_lit 51 :: nat_lit 54 :: nat_lit 61 :: nat_lit 63 :: nat_lit 64 :: nat_lit 66 :: nat_lit 67 :: nat_lit 68 :: nat_lit 69 :: nat_lit 70 :: nat_lit 73 :: nat_lit 80 :: nat_lit 82 :: nat_lit 83 :: nat_lit 85 :: nat_lit 86 :: nat_lit 87 :: nat_lit 88 :: nat_lit 89 :: nat_lit 92 :: nat_lit 99 :: nat_lit 101 :: nat_lit 102 :: nat_lit 104 :: nat_lit 105 :: nat_lit 106 :: nat_lit 107 :: nat_lit 108 :: nat_lit 111 :: nat_lit 113 :: nat_lit 114 :: nat_lit 116 :: nat_lit 117 :: nat_lit 118 :: nat_lit 120 :: nat_lit 121 :: nat_lit 123 :: nat_lit 124 :: nat_lit 132 :: nat_lit 134 :: nat_lit 135 :: nat_lit 137 :: nat_lit 138 :: nat_lit 139 :: nat_lit 141 :: nat_lit 142 :: nat_lit 144 :: nat_lit 145 :: nat_lit 146 :: nat_lit 149 :: nat_lit 150 :: nat_lit 151 :: nat_lit 153 :: nat_lit 154 :: nat_lit 156 :: nat_lit 157 :: nat_lit 158 :: nat_lit 160 :: nat_lit 161 :: nat_lit 163 :: nat_lit 164 :: nat_lit 165 :: nat_lit 166 :: nat_lit 167 :: nat_lit 168 :: nat_lit 169 :: nat_lit 172 :: nat_lit 179 :: nat_lit 180 :: nat_lit 182 :: nat_lit 183 :: nat_lit 185 :: nat_lit 186 :: nat_lit 187 :: nat_lit 188 :: nat_lit 189 :: nat_lit 192 :: nat_lit 199 :: nat_lit 201 :: nat_lit 202 :: nat_lit 204 :: nat_lit 205 :: nat_lit 206 :: nat_lit 207 :: nat_lit 208 :: nat_lit 211 :: nat_lit 218 :: nat_lit 220 :: nat_lit 221 :: nat_lit 223 :: nat_lit 224 :: nat_lit 225 :: nat_lit 226 :: nat_lit 227 :: nat_lit 230 :: nat_lit 232 :: nat_lit 233 :: nat_lit 235 :: nat_lit 236 :: nat_lit 237 :: nat_lit 239 :: nat_lit 240 :: nat_lit 242 :: nat_lit 243 :: nat_lit 244 :: nat_lit 246 :: nat_lit 247 :: nat_lit 249 :: nat_lit 250 :: nat_lit 251 :: nat_lit 253 :: nat_lit 254 :: nat_lit 256 :: nat_lit 257 :: nat_lit 258 :: nat_lit 260 :: nat_lit 261 :: nat_lit 263 :: nat_lit 264 :: nat_lit 265 :: nat_lit 267 :: nat_lit 268 :: nat_lit 270 :: nat_lit 271 :: nat_lit 272 :: nat_lit 274 :: nat_lit 275 :: nat_lit 277 :: nat_lit 278 :: nat_lit 279 :: nat_lit 281 :: nat_lit 282 :: nat_lit 284 :: nat_lit 285 :: nat_lit 286 :: nat_lit 288 :: nat_lit 289 :: nat_lit 291 :: nat_lit 292 :: nat_lit 293 :: nat_lit 296 :: nat_lit 297 :: nat_lit 298 :: nat_lit 300 :: nat_lit 301 :: nat_lit 303 :: nat_lit 304 :: nat_lit 305 :: nat_lit 307 :: nat_lit 308 :: nat_lit 310 :: nat_lit 311 :: nat_lit 312 :: nat_lit 315 :: nat_lit 316 :: nat_lit 317 :: nat_lit 320 :: nat_lit 321 :: nat_lit 322 :: nat_lit 325 :: nat_lit 326 :: nat_lit 327 :: nat_lit 330 :: nat_lit 331 :: nat_lit 332 :: nat_lit 335 :: nat_lit 336 :: nat_lit 337 :: nat_lit 340 :: nat_lit 341 :: nat_lit 342 :: nat_lit 344 :: nat_lit 345 :: nat_lit 347 :: nat_lit 348 :: nat_lit 349 :: nat_lit 351 :: nat_lit 352 :: nat_lit 354 :: nat_lit 355 :: nat_lit 356 :: nat_lit 358 :: nat_lit 359 :: nat_lit 361 :: nat_lit 362 :: nat_lit 363 :: nat_lit 365 :: nat_lit 366 :: nat_lit 368 :: nat_lit 369 :: nat_lit 370 :: nat_lit 372 :: nat_lit 373 :: nat_lit 375 :: nat_lit 376 :: nat_lit 377 :: nat_lit 379 :: nat_lit 380 :: nat_lit 382 :: nat_lit 383 :: nat_lit 384 :: nat_lit 386 :: nat_lit 387 :: nat_lit 389 :: nat_lit 390 :: nat_lit 391 :: nat_lit 393 :: nat_lit 394 :: nat_lit 396 :: nat_lit 397 :: nat_lit 398 :: nat_lit 401 :: nat_lit 402 :: nat_lit 403 :: nat_lit 406 :: nat_lit 407 :: nat_lit 408 :: nat_lit 410 :: nat_lit 411 :: nat_lit 413 :: nat_lit 414 :: nat_lit 415 :: nat_lit 417 :: nat_lit 418 :: nat_lit 420 :: nat_lit 421 :: nat_lit 422 :: nat_lit 424 :: nat_lit 425 :: nat_lit 427 :: nat_lit 428 :: nat_lit 429 :: nat_lit 431 :: nat_lit 432 :: nat_lit 434 :: nat_lit 435 :: nat_lit 436 :: nat_lit 438 :: nat_lit 439 :: nat_lit 441 :: nat_lit 442 :: nat_lit 443 :: nat_lit 446 :: nat_lit 447 :: nat_lit 448 :: nat_lit 450 :: nat_lit 451 :: nat_lit 453 :: nat_lit 454 :: nat_lit 455 :: nat_lit 457 :: nat_lit 458 :: nat_lit 460 :: nat_lit 461 :: nat_lit 462 :: nat_lit 464 :: nat_lit 465 :: nat_lit 467 :: nat_lit 468 :: nat_lit 469 :: nat_lit 471 :: nat_lit 472 :: nat_lit 474 :: nat_lit 475 :: nat_lit 476 :: nat_lit 478 :: nat_lit 479 :: nat_lit 481 :: nat_lit 482 :: nat_lit 483 :: nat_lit 485 :: nat_lit 486 :: nat_lit 488 :: nat_lit 489 :: nat_lit 490 :: nat_lit 492 :: nat_lit 493 :: nat_lit 495 :: nat_lit 496 :: nat_lit 497 :: nat_lit 499 :: nat_lit 500 :: nat_lit 502 :: nat_lit 503 :: nat_lit 504 :: nat_lit 506 :: nat_lit 507 :: nat_lit 509 :: nat_lit 510 :: nat_lit 511 :: nat_lit 514 :: nat_lit 515 :: []
def keeps:List Nat:=0 :: 2 :: 3 :: 4 :: 5 :: 6 :: 8 :: 9 :: 10 :: 12 :: 13 :: 14 :: 15 :: 16 :: 17 :: 18 :: 19 :: 20 :: 21 :: 22 :: 23 :: 24 :: 26 :: 27 :: 28 :: 29 :: 30 :: 31 :: 32 :: 33 :: 34 :: 35 :: 36 :: 37 :: 38 :: 39 :: 40 :: 41 :: 42 :: 43 :: 44 :: 46 :: 47 :: 48 :: 49 :: 50 :: 51 :: 52 :: 53 :: 54 :: 55 :: 57 :: 58 :: 59 :: 60 :: 61 :: 62 :: 63 :: 64 :: 65 :: 66 :: 67 :: 68 :: []
def lo:List Str:=["Whole"]
theorem prep (h:PySem.Challenge.rw_glazebench_k63_whole_any_tree_is_on_the.row.wellSaid=true→PySem.Challenge.rw_glazebench_k63_whole_any_tree_is_on_the.row.Holds):PySem.Challenge.rw_glazebench_k63_whole_any_tree_is_on_the.Holds:=by
  w_on
  o_law
  exact h (by assumption)
def qv (p:Program):Program:=view p keeps
def Xp (p:Program) (s:Shared):Bool:=xlAt (qv p) [] s && recOk (RowW.records (OpenRow.toRowW PySem.Challenge.rw_glazebench_k63_whole_any_tree_is_on_the.row)) s
theorem kas_is (P:Params):kas=(KK P).map (fun x=>x.1):=by kernel_rfl
theorem op_is:opening PySem.Challenge.pw_glazebench_k63_whole_any_tree_is_on_the=plainProg PySem.Challenge.pw_glazebench_k63_whole_any_tree_is_on_the.main.scope.names:=by kernel_rfl
theorem fence_is (s:Shared):fenceModules? PySem.Challenge.pw_glazebench_k63_whole_any_tree_is_on_the s=some s:=by kernel_rfl
theorem boot_is (w:World):((boot_heap w.params).isNs mainGlobals,(boot_heap w.params).objs.size,(boot_heap w.params).nsMap mainGlobals "__annotations__")=(true,11,(some (.ref 6))):=by kernel_rfl
theorem ran:∀ (w:World) (os:OsState),Option.map (lookO openSeen (importedModules PySem.Challenge.pw_glazebench_k63_whole_any_tree_is_on_the.main.body) PySem.Challenge.pw_glazebench_k63_whole_any_tree_is_on_the (qv PySem.Challenge.pw_glazebench_k63_whole_any_tree_is_on_the) lo (Xp PySem.Challenge.pw_glazebench_k63_whole_any_tree_is_on_the) (kHook KK kas kas_is).obs (boot_heap w.params)) (topRun treeTable PySem.Challenge.pw_glazebench_k63_whole_any_tree_is_on_the w 11 (some (.ref 6)) 7762 (atBoot w.params os) (topStub PySem.Challenge.pw_glazebench_k63_whole_any_tree_is_on_the))=some (true,openGood (qv PySem.Challenge.pw_glazebench_k63_whole_any_tree_is_on_the) lo,(kHook KK kas kas_is).val w) :=
  run_by (q:=qv) (Xt:=Xp) (Yf:=(kHook KK kas kas_is).obs) (Ya:=(kHook KK kas kas_is).val) (lo:=lo) PySem.W.Fast.te10156331382660048174 PySem.W.Fast.te11892475500146522536 PySem.W.Fast.te14364793385576792824 PySem.W.Fast.te5923862056798008813 PySem.W.Fast.te4187177175401517315 PySem.W.Fast.te7618827648288534274 fun w os=>by kernel_rfl
theorem left:LeftO PySem.Challenge.pw_glazebench_k63_whole_any_tree_is_on_the (qv PySem.Challenge.pw_glazebench_k63_whole_any_tree_is_on_the) lo (Xp PySem.Challenge.pw_glazebench_k63_whole_any_tree_is_on_the) (kHook KK kas kas_is).obs (kHook KK kas kas_is).val 7762:=left_once (boot_open op_is (by decide) fence_is) boot_is ran
end KH
namespace L2
open PySem PySem.Spec PyProof.Rows
def isCF:Option NameKind→Bool
  | some .cell=>true
  | some .free=>true
  | _=>false
theorem isCF_of {o:Option NameKind} (h:isCF o=true):o=some .cell∨o=some .free:=by
  match o,h with
  | some .cell,_=>exact .inl rfl
  | some .free,_=>exact .inr rfl
theorem closure_go (env:Env):∀ (l:List (Str × NameKind)) (acc:List (Str × Addr)),(∀ y∈l,y.2=.free→∃ c,env.cells.lookup y.1=some c) →
    (∀ x c,acc.lookup x=some c→env.cells.lookup x=some c) →
    ∃ cl,(forIn l acc (fun (x:Str × NameKind) (r:List (Str × Addr))=>if (x.2 == .free)=true then (cellOf env x.1 >>= fun c=>pure (ForInStep.yield ((x.1,c) :: r))) else pure (ForInStep.yield r)):Sem (List (Str × Addr)))=pure cl ∧
      (∀ x c,cl.lookup x=some c→env.cells.lookup x=some c)∧(∀ x,((∃ c,acc.lookup x=some c)∨(x,NameKind.free)∈l)→∃ c,cl.lookup x=some c)
  | [],acc,_,ha=>⟨acc,by rfl,ha,fun x h=>h.elim id fun z=>nomatch z⟩
  | (n,k) :: l,acc,hl,ha=>by
    have hl':∀ y∈l,y.2=.free→∃ c,env.cells.lookup y.1=some c:=fun y hy=>hl y (List.mem_cons_of_mem _ hy)
    by_cases hk:k=.free
    · subst hk
      obtain ⟨c,hc⟩:=hl (n,.free) List.mem_cons_self rfl
      have hc':env.cells.lookup n=some c:=hc
      have look:∀ x,((n,c) :: acc).lookup x=if x=n then some c else acc.lookup x:=fun x=>by
        rw [List.lookup_cons]
        by_cases e:x=n
        · subst e; simp
        · rw [if_neg e,show (x == n)=false by simpa using e]
      have ha':∀ x d,((n,c) :: acc).lookup x=some d→env.cells.lookup x=some d:=fun x d e=>by
        rw [look] at e
        split at e
        · rename_i q; subst q; rw [hc']; exact e
        · exact ha x d e
      obtain ⟨cl,e,h1,h2⟩:=closure_go env l ((n,c) :: acc) hl' ha'
      refine ⟨cl,?_,h1,fun x h=>h2 x ?_⟩
      · rw [← e,List.forIn_cons]
        have ec:cellOf env n=pure c:=by unfold cellOf; rw [hc']
        show ((cellOf env n >>= fun c=>pure (ForInStep.yield ((n,c) :: acc))) >>= _:Sem (List (Str × Addr)))=_
        rw [ec]
        rfl
      · rcases h with ⟨d,q⟩ | h
        · left
          rw [look]
          by_cases z:x=n
          · exact ⟨c,by rw [if_pos z]⟩
          · exact ⟨d,by rw [if_neg z]; exact q⟩
        · rcases List.mem_cons.mp h with z | z
          · left
            rw [look]
            exact ⟨c,by rw [if_pos (congrArg Prod.fst z)]⟩
          · exact .inr z
    · obtain ⟨cl,e,h1,h2⟩:=closure_go env l acc hl' ha
      refine ⟨cl,?_,h1,fun x h=>h2 x ?_⟩
      · rw [← e,List.forIn_cons]
        have hb:(k == NameKind.free)=false:=by simpa using hk
        show ((if (k == NameKind.free)=true then _ else pure (ForInStep.yield acc)) >>= _:Sem (List (Str × Addr)))=_
        rw [hb]
        rfl
      · rcases h with h | h
        · exact .inl h
        · rcases List.mem_cons.mp h with z | z
          · exact absurd (congrArg Prod.snd z).symm hk
          · exact .inr z
theorem closure_of {scope:Scope} {env:Env} (h:∀ y∈scope.names,y.2=.free→∃ c,env.cells.lookup y.1=some c) :
    ∃ cl,closureFor scope env=pure cl∧(∀ x c,cl.lookup x=some c→env.cells.lookup x=some c)∧(∀ x,(x,NameKind.free)∈scope.names→∃ c,cl.lookup x=some c):=by
  obtain ⟨cl,e,h1,h2⟩:=closure_go env scope.names [] h (fun x c e=>by simp at e)
  refine ⟨cl,?_,h1,fun x hx=>h2 x (.inr hx)⟩
  have e2:closureFor scope env=(forIn scope.names [] (fun (x:Str × NameKind) (r:List (Str × Addr))=>if (x.2 == .free)=true then (cellOf env x.1 >>= fun c=>pure (ForInStep.yield ((x.1,c) :: r))) else pure (ForInStep.yield r)) >>= fun r=>pure r:Sem (List (Str × Addr))):=by
    rfl
  rw [e2,e]
  rfl
abbrev compCx (X:Cx) (scope:Scope) (cl:List (Str × Addr)) (N:List Str) (C:Addr) (s:Shared) (H:Hp) (ex:List Addr):Cx :=
  { X with N:=N,s₀:=s,H₀:=H,env:=compEnvC scope cl C X.env,outer:=X.stack,ex:=ex,fn:=fun _=>false,pn:=[],xe:=fun _ _=>False }
def compChk (osc:Scope) (oN:List Str) (sc:Scope) (N:List Str) (fr:List (Option Nat)):Bool :=
  decide (sc.kind=.function) && sc.names.all (fun y=>decide (y.2≠.cell)) && sc.names.all (fun y=>decide (y.2≠.free) || isCF (osc.names.lookup y.1)) &&
  sc.names.all (fun y=>decide (y.2≠.local) || decide (sc.names.lookup y.1=some .local)) &&
  (N.zip fr).all (fun y=>match y.2 with
    | none=>true
    | some i=>decide (oN[i]?=some y.1) && isCF (osc.names.lookup y.1) && decide (sc.names.lookup y.1=some .free)) && decide (N.length=fr.length)
structure CompChk (osc:Scope) (oN:List Str) (sc:Scope) (N:List Str) (fr:List (Option Nat)):Prop where
  kind:sc.kind=.function
  nocell:∀ y∈sc.names,y.2≠.cell
  free:∀ y∈sc.names,y.2=.free→isCF (osc.names.lookup y.1)=true
  loc:∀ y∈sc.names,y.2=.local→sc.names.lookup y.1=some .local
  slots:∀ (j:Nat) (x:Str) (i:Nat),N[j]?=some x→fr[j]?=some (some i)→oN[i]?=some x∧isCF (osc.names.lookup x)=true∧sc.names.lookup x=some .free
  len:N.length=fr.length
theorem compChk_of {osc:Scope} {oN:List Str} {sc:Scope} {N:List Str} {fr:List (Option Nat)} (h:compChk osc oN sc N fr=true):CompChk osc oN sc N fr:=by
  unfold compChk at h
  simp only [Bool.and_eq_true,List.all_eq_true,decide_eq_true_eq,Bool.or_eq_true] at h
  obtain ⟨⟨⟨⟨⟨h1,h2⟩,h3⟩,h4⟩,h5⟩,h6⟩:=h
  refine ⟨h1,h2,fun y hy e=>(h3 y hy).resolve_left fun z=>z e,fun y hy e=>(h4 y hy).resolve_left fun z=>z e,fun j x i e1 e2=>?_,h6⟩
  have hm:(x,some i)∈N.zip fr:=by
    have:(N.zip fr)[j]?=some (x,some i):=by rw [List.getElem?_zip_eq_some]; exact ⟨e1,e2⟩
    exact List.mem_of_getElem? this
  have:=h5 _ hm
  simp only [Bool.and_eq_true,decide_eq_true_eq] at this
  exact ⟨this.1.1,this.1.2,this.2⟩
def stC (fr:List (Option Nat)) (σ:St):St:=fr.map fun o=>o.bind fun i=>(σ[i]?).join
def tComp (wi:TI) (g:TG) (te:TE) (fr:List (Option Nat)):TE:=fun σ H Q=>wi σ H fun J H1=>∀ acc,H1 acc=none→∃ W:Nat→Nat→St→Hp→Prop,(∃ m,W 0 m (stC fr σ) (upd H1 acc (.lst [])))∧∀ i m σ1 H2,W i m σ1 H2 →
  (J.stop i H2∧Q (.ref acc) H2)∨(J.go i H2∧∀ x H3,J.yld i H2 x H3→g x σ1 H3 fun σ4 H4=>te σ4 H4 fun v H5=>∃ xs,H5 acc=some (.lst xs)∧xs.length < sizeLine∧∃ m',m' < m∧W (i+1) m' σ4 (upd H5 acc (.lst (xs++[v]))))
section
variable {prog:Program} {w:World} {A:Around} {R:Result→Shared→Prop} {s:Shared}
theorem compLoop_any {elt target iter:Expr} {scope:Scope} {pos:Pos} {it acc:Value} {env:Env} (I:Nat→Shared→Prop)
    (turn:∀ n s,I n s→wpAny (model prog w) A (pyNext it) (fun r s₁=>match r with
      | none=>R (.ok .next) s₁
      | some v=>wpAny (model prog w) A (letOwnedTupleGo target it v) (fun _ s₁=>wpAny (model prog w) A (assign target env v) (fun _ s₂=>wpAny (model prog w) A (eval elt env) (fun x s₃ =>
          wpAny (model prog w) A (call (.builtin "list.append") [acc,x]) (fun _ s₄=>∃ m,m < n∧I m s₄) (notedBy (model prog w) A env fun e s'=>R (.error e) s') s₃)
          (notedBy (model prog w) A env fun e s'=>R (.error e) s') s₂) (notedBy (model prog w) A env fun e s'=>R (.error e) s') s₁) (notedBy (model prog w) A env fun e s'=>R (.error e) s') s₁) (notedBy (model prog w) A env fun e s'=>R (.error e) s') s)
    (n:Nat) (h:I n s) :
    codeAny (model prog w) A (.compLoop (.ListComp elt [⟨target,iter,[],0⟩] scope pos) 0 it acc env) R s:=by
  refine codeAny_loop rfl I (fun n s hI=>?_) n h
  show wpAny _ _ ((compTurn (.ListComp elt [⟨target,iter,[],0⟩] scope pos) 0 it acc env).onRaise (fun x=>do noteFrame x env; theTreesLotGoes x)) _ _ s
  refine wpAny_noted ?_
  rw [compTurn_list1]
  refine wpAny_bind (wpAny_standAt (wpAny_bind (wpAny_mono (turn n s hI) (fun r s₁ h₁=>?_) fun _ _ h'=>h')))
  cases r with
  | none=>exact wpAny_pure h₁
  | some v =>
    refine wpAny_bind (wpAny_mono h₁ (fun _ s₁ h₁=>?_) fun _ _ h'=>h')
    exact wpAny_bind (wpAny_mono h₁ (fun _ s₂ h₂=>wpAny_bind (wpAny_bind (wpAny_mono h₂ (fun x s₃ h₃=>wpAny_bind (wpAny_mono h₃
      (fun _ s₄ h₄=>wpAny_pure (wpAny_pure ⟨rfl,h₄⟩)) fun _ _ h'=>h')) fun _ _ h'=>h'))) fun _ _ h'=>h')
end
theorem wpFalse {α:Type} {M:Model} {A:Around} {t:Sem α} {Q:α→Shared→Prop} {E:Value→Shared→Prop} {s:Shared} (h:wpAny M A t Q (fun _ _=>False) s):wpAny M A t Q E s :=
  wpAny_mono h (fun _ _ q=>q) fun _ _ z=>z.elim
theorem relabel_CF {scope:Scope} {env:Env} (hc:∀ y∈scope.names,y.2≠.cell) {x:Str} (h:(relabel scope env).names.lookup x=some .cell∨(relabel scope env).names.lookup x=some .free):(x,NameKind.free)∈scope.names:=by
  have key:∀ (l:List (Str × NameKind)),(∀ y∈l,y.2≠.cell)→((l.map fun (n,k)=>if (k == NameKind.free && env.scope.kind == .function && env.kindOf n == some .cell) then (n,NameKind.cell) else (n,k)).lookup x=some .cell ∨
      (l.map fun (n,k)=>if (k == NameKind.free && env.scope.kind == .function && env.kindOf n == some .cell) then (n,NameKind.cell) else (n,k)).lookup x=some .free)→(x,NameKind.free)∈l:=by
    intro l
    induction l with
    | nil=>intro _ h; simp at h
    | cons y r ih =>
      obtain ⟨n,k⟩:=y
      intro hc h
      have hr:∀ y∈r,y.2≠.cell:=fun y hy=>hc y (List.mem_cons_of_mem _ hy)
      have hk:k≠.cell:=hc (n,k) List.mem_cons_self
      rw [List.map_cons] at h
      by_cases hxn:x=n
      · subst hxn
        have hkf:k=.free:=by
          by_cases hb:(k == NameKind.free && env.scope.kind == .function && env.kindOf x == some .cell)=true
          · simp only [Bool.and_eq_true,beq_iff_eq] at hb
            exact hb.1.1
          · simp only [hb,if_neg,Bool.false_eq_true,if_false] at h
            simp only [List.lookup_cons,beq_self_eq_true] at h
            rcases h with h | h
            · exact absurd (Option.some.inj h) hk
            · exact Option.some.inj h
        rw [hkf]
        exact List.mem_cons_self
      · have hb:(x == n)=false:=by simpa using hxn
        refine List.mem_cons_of_mem _ (ih hr ?_)
        by_cases hq:(k == NameKind.free && env.scope.kind == .function && env.kindOf n == some .cell)=true
        · simp only [hq,if_true,List.lookup_cons,hb] at h
          exact h
        · simp only [hq,Bool.false_eq_true,if_false,List.lookup_cons,hb] at h
          exact h
  exact key scope.names hc h
theorem relabel_free {env:Env} {x:Str}:∀ {l:List (Str × NameKind)},l.lookup x=some .free →
    ((l.map fun (n,k)=>if (k == NameKind.free && env.scope.kind == .function && env.kindOf n == some .cell) then (n,NameKind.cell) else (n,k)).lookup x=some .cell ∨
     (l.map fun (n,k)=>if (k == NameKind.free && env.scope.kind == .function && env.kindOf n == some .cell) then (n,NameKind.cell) else (n,k)).lookup x=some .free)
  | [],h=>by simp at h
  | (n,k) :: r,h=>by
    rw [List.map_cons]
    by_cases hxn:x=n
    · subst hxn
      simp only [List.lookup_cons,beq_self_eq_true] at h
      have hk:=Option.some.inj h
      subst hk
      by_cases hq:(NameKind.free == NameKind.free && env.scope.kind == .function && env.kindOf x == some .cell)=true
      · left
        show List.lookup x ((if (NameKind.free == NameKind.free && env.scope.kind == .function && env.kindOf x == some .cell)=true then (x,NameKind.cell) else (x,NameKind.free)) :: _)=_
        rw [if_pos hq,List.lookup_cons,beq_self_eq_true]
      · right
        show List.lookup x ((if (NameKind.free == NameKind.free && env.scope.kind == .function && env.kindOf x == some .cell)=true then (x,NameKind.cell) else (x,NameKind.free)) :: _)=_
        rw [if_neg hq,List.lookup_cons,beq_self_eq_true]
    · have hb:(x == n)=false:=by simpa using hxn
      simp only [List.lookup_cons,hb] at h
      have ih:=relabel_free (env:=env) h
      by_cases hq:(k == NameKind.free && env.scope.kind == .function && env.kindOf n == some .cell)=true
      · simp only [hq,if_true,List.lookup_cons,hb]; exact ih
      · simp only [hq,Bool.false_eq_true,if_false,List.lookup_cons,hb]; exact ih
theorem mem_look {x:Str} {k:NameKind}:∀ {l:List (Str × NameKind)},l.lookup x=some k→(x,k)∈l
  | [],h=>by simp at h
  | (n,j) :: r,h=>by
    by_cases e:x=n
    · subst e
      simp only [List.lookup_cons,beq_self_eq_true] at h
      rw [← Option.some.inj h]
      exact List.mem_cons_self
    · have hb:(x == n)=false:=by simpa using e
      simp only [List.lookup_cons,hb] at h
      exact List.mem_cons_of_mem _ (mem_look h)
section
variable {X:Cx} {elt tg iter:Expr} {scope:Scope} {pos:Pos} {wi:TI} {g:TG} {te:TE} {N:List Str} {fr:List (Option Nat)}
theorem comp_entry {pins:List (Addr × Obj)} {σ:St} {H:Hp} {s s1:Shared} {cl:List (Str × Addr)} {ex:List Addr} {C:Addr} {m:Str→Option Value} (I:Inv X pins σ H s) (ck:CompChk X.env.scope X.N scope N fr)
    (c1:∀ x c,cl.lookup x=some c→X.env.cells.lookup x=some c) (c2:∀ x,(x,NameKind.free)∈scope.names→∃ c,cl.lookup x=some c) (hex:∀ b∈ex,FpOk X pins H b∧b < s.heap.objs.size) (hC:s.heap.objs.size≤C)
    (hn:s1.heap.Ns C m) (k:∀ b o,s.heap.get? b=some o→s1.heap.get? b=some o) (ho:s1.os=s.os) (hg:s1.gens=s.gens) :
    Inv (compCx X scope cl N C s H ex) [] (stC fr σ) H s1:=by
  have lt_ne:∀ {b:Addr} {o:Obj},s.heap.get? b=some o→b≠C:=fun e=>Nat.ne_of_lt (Nat.lt_of_lt_of_le (Heap.lt_size e) hC)
  have ok:(compCx X scope cl N C s H ex).Ok :=
    { mod:=I.ok.mod
      kind:=ck.kind
      glob:=I.ok.glob
      blt:=I.ok.blt
      above:=hC
      inj:=fun x y c e1 e2=>I.ok.inj x y c (c1 x c e1) (c1 y c e2)
      has:=fun x h=>c2 x (relabel_CF ck.nocell h)
      cab:=fun x c z=>by cases z
      hd:=I.ok.hd
      frames:=I.ok.frames
      stk:=.inl rfl
      exf:=fun b hb=>⟨Nat.ne_of_lt (Nat.lt_of_lt_of_le (hex b hb).2 hC),fun x c e=>(hex b hb).1.2.2.2.2.1 x c (c1 x c e)⟩
      bs:=I.bs
      bsz:=Nat.le_trans I.ok.bsz I.sz
      noex:=fun b o e hb=>by
        rcases (hex b hb).1.2.2.2.1 with z | z
        · exact I.ok.noex b o e z
        · exact absurd (Nat.lt_of_lt_of_le (Heap.lt_size e) (Nat.le_trans I.ok.bsz z)) (Nat.lt_irrefl _)
      exfs:=fun b hb hz=>by
        rcases List.mem_cons.mp (I.stkSub b hz) with z | z
        · exact (hex b hb).1.2.1 z
        · exact (hex b hb).1.2.2.1 z
      funs:=I.stack
      frf:=I.stkFree }
  refine ⟨ok,ho,by rw [hg]; exact I.bare,Un.kept k,⟨m,hn,fun j x v e1 e2 e3=>?_⟩,fun x c e=>?_,I.hok.fresh hC,fun x c e=>I.freeC x c (c1 x c e),fun p hp=>by simp at hp,I.hok.kept k,?_⟩
  · have e1':N[j]?=some x:=e1
    unfold stC at e2
    rw [List.getElem?_map] at e2
    cases q:fr[j]? with
    | none=>rw [q] at e2; cases e2
    | some o =>
      rw [q] at e2
      cases o with
      | none =>
        have:(none:Option V)=some v:=Option.some.inj e2
        cases this
      | some i =>
        have e2':(σ[i]?).join=some v:=Option.some.inj e2
        obtain ⟨s1',s2',s3'⟩:=ck.slots j x i e1' q
        have hσ:σ[i]?=some (some v):=by
          cases z:σ[i]? with
          | none=>rw [z] at e2'; cases e2'
          | some y=>rw [z] at e2'; exact congrArg some e2'
        have hcf:=isCF_of s2'
        obtain ⟨m0,hn0,hl⟩:=I.loc
        obtain ⟨u,r,lk⟩:=hl i x v s1' hσ (Or.inr hcf)
        refine ⟨u,r,Or.inr ⟨relabel_free s3',?_⟩⟩
        obtain ⟨c,hc⟩:=c2 x (mem_look s3')
        refine ⟨c,hc,?_⟩
        rcases lk with ⟨z,_⟩ | ⟨_,c',hc',hv⟩
        · rcases hcf with y | y
          · have z':X.env.scope.names.lookup x=some .local:=z
            rw [y] at z'; cases z'
          · have z':X.env.scope.names.lookup x=some .local:=z
            rw [y] at z'; cases z'
        · have:=c1 x c hc
          rw [hc'] at this
          cases this
          exact hv.keeps k
  · obtain ⟨v,z⟩:=I.cell x c (c1 x c e)
    exact ⟨v,z.keeps k⟩
  · unfold stC
    rw [List.length_map]
    exact ck.len.symm
theorem comp_core {pins:List (Addr × Obj)} {σ:St} {H:Hp} {s:Shared} {Q:VK} {cl:List (Str × Addr)} {R:Value→Addr→Result→Shared→Prop} (hc:X.calm=true) (I:Inv X pins σ H s) (hi:PI X tg iter wi)
    (hg:∀ cl C s H ex,PG (compCx X scope cl N C s H ex) tg g) (he:∀ cl C s H ex,PE (compCx X scope cl N C s H ex) elt te) (ck:CompChk X.env.scope X.N scope N fr)
    (c1:∀ x c,cl.lookup x=some c→X.env.cells.lookup x=some c) (c2:∀ x,(x,NameKind.free)∈scope.names→∃ c,cl.lookup x=some c)
    (h:tComp wi g te fr σ H Q)
    (hR:∀ acc C s' H' m,s'.heap.Ns C m→FpOk X pins H' C→Inv X pins σ H' s'→Q (.ref acc) H'→R (.ref acc) C (.ok .next) s') :
    wpAny (model X.prog X.w) X.A (eval iter X.env) (fun x s₁=>wpAny (model X.prog X.w) X.A (pyIter x) (fun it s₂=>wpAny (model X.prog X.w) X.A (newList []) (fun acc s₃ =>
      wpAny (model X.prog X.w) X.A (newFunctionEnv scope X.env.globals cl [] X.env.qual none .none (some X.env)) (fun cenv s₄ =>
        codeAny (model X.prog X.w) X.A (.compStart (.ListComp elt [⟨tg,iter,[],0⟩] scope pos) 0 it acc { cenv with scope:=relabel scope X.env }) (R acc cenv.locals) s₄) X.xe s₃) X.xe s₂) X.xe s₁) X.xe s:=by
  refine thn (hi pins s σ H _ I h) fun v s1 h1=>thn h1 fun itv s2 h2=>?_
  obtain ⟨it,fp,tn,J,H2,e,I2,T,st2,f2,q2⟩:=h2
  subst e
  refine wpAny_newObj_type (wpAny_newFunctionEnv ck.nocell (by intro y hy; simp at hy) (fun h₁ hns₁ hsb₁=>?_) ck.kind)
  dsimp only at hns₁ hsb₁ ⊢
  have I3:Inv X pins σ (upd H2 s2.heap.objs.size (.lst [])) { s2 with heap:=s2.heap.push { cls:=.type "list",dict:=none,data:=.seq ([]:List Value).toArray } }:=I2.lnew (t':=s2.toks) (its:=[]) .nil (Nat.zero_le _)
  have acc0:H2 s2.heap.objs.size=none:=I2.fresh
  obtain ⟨W,⟨m0,w0⟩,turn⟩:=q2 s2.heap.objs.size acc0
  generalize hH3:s2.heap.push { cls:=.type "list",dict:=none,data:=.seq ([]:List Value).toArray }=h3 at hns₁ hsb₁ I3 ⊢
  have hz3:h3.objs.size=s2.heap.objs.size+1:=by rw [← hH3,Heap.size_push]
  have k23:∀ b o,s2.heap.get? b=some o→h3.get? b=some o:=fun b o e=>by rw [← hH3]; exact Heap.get?_push_of_some _ e
  have k34:∀ b o,h3.get? b=some o→h₁.get? b=some o:=fun b o e=>hsb₁.extBut b o (Nat.ne_of_lt (Heap.lt_size e)) (Heap.get?_push_of_some _ e)
  have fpo:∀ b∈fp,∃ o,s2.heap.get? b=some o∧∀ v,o.data≠.cell v:=T.obj 0 _ st2
  have hex:∀ b∈fp,FpOk X pins (upd H2 s2.heap.objs.size (.lst [])) b∧b < h3.objs.size:=fun b hb=>by
    obtain ⟨o,eo,_⟩:=fpo b hb
    have lt:=Heap.lt_size eo
    obtain ⟨f0,fr'⟩:=f2 b hb
    exact ⟨⟨by rw [upd_ne (Nat.ne_of_lt lt)]; exact f0,fr'⟩,by rw [hz3]; exact Nat.lt_succ_of_lt lt⟩
  have I4:Inv (compCx X scope cl N h3.objs.size { s2 with heap:=h3 } (upd H2 s2.heap.objs.size (.lst [])) fp) [] (stC fr σ) (upd H2 s2.heap.objs.size (.lst [])) { s2 with heap:=h₁,toks:=s2.toks+([]:List (Str × Value)).length } :=
    comp_entry I3 ck c1 c2 hex (Nat.le_refl _) hns₁ k34 rfl rfl
  have stat:∀ {H':Hp},(∀ b∈fp,H' b=none)→∀ b∈fp,FpOk (compCx X scope cl N h3.objs.size { s2 with heap:=h3 } (upd H2 s2.heap.objs.size (.lst [])) fp) [] H' b:=fun hn b hb =>
    ⟨hn b hb,(I4.ok.exf b hb).1,I4.ok.exfs b hb,.inl hb,(I4.ok.exf b hb).2,fun p hp=>by simp at hp⟩
  have stn:∀ i h h',tn i h→(∀ b o,h.get? b=some o→h'.get? b=some o)→tn i h':=fun i h h' st kk=>T.keep i h h' st fun b _ o e=>kk b o e
  have loop:codeAny (model X.prog X.w) X.A (.compLoop (.ListComp elt [⟨tg,iter,[],0⟩] scope pos) 0 (.ref it) (.ref s2.heap.objs.size) (compEnvC scope cl h3.objs.size X.env)) (R (.ref s2.heap.objs.size) h3.objs.size)
      { s2 with heap:=h₁,toks:=s2.toks+([]:List (Str × Value)).length }:=by
    refine compLoop_any (fun n s'=>∃ i σ' H',Inv (compCx X scope cl N h3.objs.size { s2 with heap:=h3 } (upd H2 s2.heap.objs.size (.lst [])) fp) [] σ' H' s'∧tn i s'.heap∧(∀ b∈fp,H' b=none)∧W i n σ' H') ?_ m0
      ⟨0,_,_,I4,stn _ _ _ st2 fun b o e=>k34 b o (k23 b o e),fun b hb=>(hex b hb).1.1,w0⟩
    rintro n s3 ⟨i,σ3,H3,J3,st3,fr3,w3⟩
    rcases turn i n σ3 H3 w3 with ⟨stop,qn⟩ | ⟨go,step⟩
    · refine wpFalse (thn (T.done (compCx X scope cl N h3.objs.size { s2 with heap:=h3 } (upd H2 s2.heap.objs.size (.lst [])) fp) rfl rfl rfl hc i [] s3 σ3 H3 (fun _ _=>False) J3 (stat fr3) st3 stop) fun r s4 ⟨hr,J4⟩=>?_)
      subst hr
      obtain ⟨mc,hmc,_⟩:=J4.loc
      have I5:Inv X pins σ H3 s4:=I3.call' (ch:=fp) J4.os J4.base J4.hok J4.bare fun b hb=>⟨(hex b hb).1.2.2.2.1,(hex b hb).1.2.1,(hex b hb).1.2.2.2.2.1,(hex b hb).1.2.2.2.2.2⟩
      exact hR _ _ s4 H3 mc hmc (I3.fpOk (Nat.le_refl _) J4.free) I5 qn
    · refine wpFalse (thn (T.item (compCx X scope cl N h3.objs.size { s2 with heap:=h3 } (upd H2 s2.heap.objs.size (.lst [])) fp) rfl rfl rfl hc i [] s3 σ3 H3 (fun _ _=>False) J3 (stat fr3) st3 go) fun r s4 ⟨u,hr,h4⟩=>?_)
      subst hr
      refine wpFalse (thn h4 fun _ s5 ⟨x,H5,J5,r5,y5,st5,fr5⟩=>?_)
      have J5':=J5.pinned (stat fr5) (T.obj _ _ st5)
      refine wpFalse (thn (hg _ _ _ _ _ _ s5 σ3 H5 x u _ J5' r5 (step x H5 y5)) fun _ s6 ⟨σ6,H6,J6,q6⟩=>?_)
      refine wpFalse (thn (he _ _ _ _ _ _ s6 σ6 H6 _ J6 q6) fun y s7 ⟨v7,H7,J7,r7,xs,hx,hz,m',hm',w7⟩=>?_)
      refine wpFalse (thn (mt_append _ s7 σ6 H7 (.ref s2.heap.objs.size) [v7] (.ref s2.heap.objs.size) [y] (fun v H8=>H8=upd H7 s2.heap.objs.size (.lst (xs++[v7]))) J7 rfl (.cons r7 .nil) ⟨_,xs,v7,rfl,rfl,hx,hz,rfl⟩) fun _ s8 ⟨_,H8,J8,_,e8⟩=>?_)
      subst e8
      refine ⟨m',hm',i+1,σ6,_,J8.unpinned,T.keep _ _ _ st5 fun b hb o e=>(J8.pin (b,o) (List.mem_append_right _ (List.mem_append_right _ (mem_pinsAt hb e)))).1,fun b hb=>?_,w7⟩
      obtain ⟨o,e,d⟩:=T.obj _ _ st5 b hb
      exact (J8.pin (b,o) (List.mem_append_right _ (List.mem_append_right _ (mem_pinsAt hb e)))).2.1
  exact codeAny_compStart_list loop (T.self _ 0 _ _ _ (stn _ _ _ st2 fun b o e=>k34 b o (k23 b o e)) loop)
theorem comp_cl (I:X.Ok) (ck:CompChk X.env.scope X.N scope N fr):∃ cl,closureFor scope X.env=pure cl∧(∀ x c,cl.lookup x=some c→X.env.cells.lookup x=some c)∧(∀ x,(x,NameKind.free)∈scope.names→∃ c,cl.lookup x=some c) :=
  closure_of fun y hy e=>I.has y.1 (isCF_of (ck.free y hy e))
theorem pe_comp (hc:X.calm=true) (hi:PI X tg iter wi) (hg:∀ cl C s H ex,PG (compCx X scope cl N C s H ex) tg g) (he:∀ cl C s H ex,PE (compCx X scope cl N C s H ex) elt te)
    (hk:compChk X.env.scope X.N scope N fr=true:=by rfl) (hs:∀ x,foldedSetIterable iter X.env x=pure x:=by intro _; rfl):PE X (.ListComp elt [⟨tg,iter,[],0⟩] scope pos) (tComp wi g te fr):=by
  intro pins s σ H Q I h
  have ck:=compChk_of hk
  obtain ⟨cl,e1,c1,c2⟩:=comp_cl I.ok ck
  rw [eval_ListComp]
  refine wpAny_comprehension_free (use:=none) (Q:=EP X pins σ Q) rfl hs e1 ck.kind ck.loc (comp_core (R:=fun acc C=>compPost (model X.prog X.w) X.A X.xe none (EP X pins σ Q) acc C) hc I hi hg he ck c1 c2 h fun acc C s' H' m hn f I' q=>?_)
  obtain ⟨f0,f1,f2,f3,f4,f5⟩:=f
  exact ⟨m,hn,fun h' hs'=>⟨.ref acc,H',I'.turned (t':=s'.toks) (fun b o hb e=>hs'.extBut b o hb e) f0 f1 f3 f4 f5,rfl,q⟩⟩
theorem ps_setComp {y:Str} {py spos:Pos} {gy:TG} (hc:X.calm=true) (hy:PG X (.Name y py) gy) (hi:PI X tg iter wi) (hg:∀ cl C s H ex,PG (compCx X scope cl N C s H ex) tg g) (he:∀ cl C s H ex,PE (compCx X scope cl N C s H ex) elt te)
    (hk:compChk X.env.scope X.N scope N fr=true:=by rfl) (hsw:swapsWith (.ListComp elt [⟨tg,iter,[],0⟩] scope pos) (some (.Name y py)) spos.line X.env=pure true:=by rfl) (hs:∀ x,foldedSetIterable iter X.env x=pure x:=by intro _; rfl) :
    PS X (.Assign [.Name y py] (.ListComp elt [⟨tg,iter,[],0⟩] scope pos) spos) (tAsg (tComp wi g te fr) gy):=by
  intro pins s σ H D I h
  have ck:=compChk_of hk
  obtain ⟨cl,e1,c1,c2⟩:=comp_cl I.ok ck
  rw [exec_Assign_Name_used _ _ _ _ hsw]
  refine wpAny_bind (wpAny_standAt (wpAny_bind ?_))
  show wpAny _ X.A (do let _ ← comprehension (.ListComp elt [⟨tg,iter,[],0⟩] scope pos) scope X.env _ (newList []) false (eval iter X.env) (some (assign (.Name y py) X.env))) _ _ s
  refine wpAny_bind (wpAny_mono (wpAny_comprehension_free (use:=some (assign (.Name y py) X.env)) (Q:=fun _ s'=>SP X pins D .next s') rfl hs e1 ck.kind ck.loc
    (comp_core (R:=fun acc C=>compPost (model X.prog X.w) X.A X.xe (some (assign (.Name y py) X.env)) (fun _ s'=>SP X pins D .next s') acc C) hc I hi hg he ck c1 c2 h fun acc C s' H' m hn f I' q=>?_)) (fun _ s' hq=>wpAny_pure (wpAny_pure hq)) fun _ _ e=>e)
  show wpAny _ X.A (assign (.Name y py) X.env (.ref acc)) _ _ _
  obtain ⟨oC,es,ep,hoC,hdC,hrC⟩:=id hn
  have IP:=I'.pinned (fp:=[C]) (fun b hb=>by rw [List.mem_singleton.mp hb]; exact f) (fun b hb=>by rw [List.mem_singleton.mp hb]; exact ⟨oC,hoC,fun v z=>by rw [hdC] at z; cases z⟩)
  refine thn (hy _ s' σ H' (.ref acc) (.ref acc) _ IP rfl q) fun _ s'' ⟨σ6,H6,I6,q6⟩=>?_
  have pC:=I6.pin (C,oC) (List.mem_append_right _ (List.mem_append_right _ (mem_pinsAt (List.mem_singleton.mpr rfl) hoC)))
  obtain ⟨f0,f1,f2,f3,f4,f5⟩:=f
  exact ⟨m,⟨oC,es,ep,pC.1,hdC,hrC⟩,fun h' hs'=>⟨σ6,H6,I6.unpinned.turned (t':=s''.toks) (fun b o hb e=>hs'.extBut b o hb e) pC.2.1 f1 f3 f4 f5,q6⟩⟩
end
end L2
namespace L2
open PySem PySem.Spec PyProof.Rows
section
variable {X:Cx}
def CDivL (_ j:Int):Prop:=0 < j∧j.natAbs.log2 < 9000
theorem op_fdivL:OpR X (binaryOp .FloorDiv) (rI CDivL fun i j=>.int (i / j)):=opI fun i j _ _ _ _ _ hc q=>by
  have h1:(0:Int) < j:=hc.1
  exact floordiv_int (by omega) (by rw [Int.fdiv_eq_ediv_of_nonneg i (by omega)]; exact q) (.inl (PyProof.noPylong_of_log2 hc.2))
theorem op_mulL:OpR X (binaryOp .Mult) (rI IntMulOk fun i j=>.int (i * j)):=opI fun _ _ _ _ _ _ _ hc q=>mul_int q hc
theorem log2_lt_of {n k:Nat} (hk:0 < k) (h:n < 2^k):n.log2 < k:=by
  rcases Nat.eq_zero_or_pos n with h0 | hp
  · rw [h0]; simpa using hk
  · exact (Nat.log2_lt (Nat.ne_of_gt hp)).mpr h
theorem intBits_le {z:Int} {k:Nat} (hk:0 < k) (h:z.natAbs < 2^k):Builtin.Int.intBits z≤k:=by
  unfold Builtin.Int.intBits
  split
  · exact Nat.zero_le _
  · exact log2_lt_of hk h
theorem mulOk_of {a b:Int} (h1:a.natAbs < 2^128) (h2:b.natAbs < 2^128):IntMulOk a b:=by
  have e1:=intBits_le (by decide) h1
  have e2:=intBits_le (by decide) h2
  unfold IntMulOk Builtin.Int.intTooBig
  intro h
  simp only [Bool.and_eq_true,decide_eq_true_eq] at h
  have h3:=h.2
  have hb:(256:Int)≤(bitsLine:Int):=by decide +kernel
  omega
def tyO:Option HO→Option String
  | some (.lst _)=>some "list"
  | some (.frz _ (.lst _))=>some "list"
  | some (.tup _)=>some "tuple"
  | some (.dK _)=>some "dict"
  | some (.dT _)=>some "dict"
  | _=>none
def tyS (H:Hp):V→Option String
  | .non=>some "NoneType"
  | .bl _=>some "bool"
  | .int _=>some "int"
  | .str _=>some "str"
  | .ref a=>tyO (H a)
  | _=>none
theorem tyS_of {K:PySem.W.Frag} {H:Hp} {x:V} {T:String} (h:tyS H x=some T):TyOf K H x (.type T)∧(T="NoneType"∨T="bool"∨T="int"∨T="str"∨T="list"∨T="tuple"∨T="dict"):=by
  unfold tyS at h
  split at h
  · cases h; exact ⟨.non,by simp⟩
  · cases h; exact ⟨.bl _,by simp⟩
  · cases h; exact ⟨.int _,by simp⟩
  · cases h; exact ⟨.str _,by simp⟩
  · unfold tyO at h
    split at h
    · rename_i e; cases h; exact ⟨.lst e,by simp⟩
    · rename_i e; cases h; exact ⟨.frz e,by simp⟩
    · rename_i e; cases h; exact ⟨.tup e,by simp⟩
    · rename_i e; cases h; exact ⟨.dK e,by simp⟩
    · rename_i e; cases h; exact ⟨.dT e,by simp⟩
    · cases h
  · cases h
def isB (T c:String):Bool:=decide (T=c) || (decide (T="bool") && decide (c="int"))
theorem kit_isB {K:PySem.W.Frag} {T c:String} (h:T="NoneType"∨T="bool"∨T="int"∨T="str"∨T="list"∨T="tuple"∨T="dict") (hc:c="int"∨c="bool"∨c="tuple"∨c="list"∨c="str") :
    PySem.W.kitOne K (.type T) (.type c)=some (isB T c):=by
  rcases h with rfl | rfl | rfl | rfl | rfl | rfl | rfl <;> rcases hc with rfl | rfl | rfl | rfl | rfl <;> rfl
theorem call_isin:CallR X (.builtin "isinstance") (fun xs H Q=>∃ x T c,xs=[x,.ty c]∧tyS H x=some T∧(c="int"∨c="bool"∨c="tuple"∨c="list"∨c="str")∧Q (.bl (isB T c)) H):=by
  intro pins s σ H xs us Q I r h
  obtain ⟨x,T,c,rfl,hT,hc,q⟩:=h
  obtain ⟨u,w',rfl,rx,ry⟩:=vals2 r
  cases (show w'=Value.type c from ry)
  obtain ⟨ty,hl⟩:=tyS_of (K:=X.K) hT
  exact isinst_ok I rx ty (kit_isB hl hc) fun tk=>⟨.bl (isB T c),H,I.tok tk,rfl,q⟩
theorem bools_get {bs:List Bool} {its:List Value} (r:Vals (bs.map V.bl) its) {i:Nat} {v:Value} (h:its.toArray[i]?=some v):v=.bool (bs.getD i false):=by
  have hl:=r.length
  have hi:i < its.length:=by
    have:=(Array.getElem?_eq_some_iff.mp h).1
    simpa using this
  have hb:bs[i]?=some (bs.getD i false):=by
    have:i < bs.length:=by rw [List.length_map] at hl; omega
    rw [List.getD_eq_getElem?_getD,List.getElem?_eq_getElem this]; rfl
  obtain ⟨u,hu,ru⟩:=r.get (i:=i) (x:=.bl (bs.getD i false)) (by rw [List.getElem?_map,hb]; rfl)
  have h':its[i]?=some v:=by simpa using h
  rw [h'] at hu
  cases hu
  exact ru
theorem range_any {α:Type} (bs:List Bool):(List.range bs.length).any (fun i=>bs.getD i false)=bs.any id:=by
  have e:(List.range bs.length).map (fun i=>bs.getD i false)=bs:=by
    apply List.ext_getElem?
    intro i
    rw [List.getElem?_map]
    by_cases h:i < bs.length
    · rw [List.getElem?_range h,List.getElem?_eq_getElem h,Option.map_some,List.getD_eq_getElem?_getD,List.getElem?_eq_getElem h]; rfl
    · rw [List.getElem?_eq_none (by simpa using h),List.getElem?_eq_none (by omega)]; rfl
  conv=>rhs; rw [← e]
  rw [List.any_map]; rfl
theorem truth_bools {prog:Program} {w:World} {A:Around} {bs:List Bool} {its:List Value} (r:Vals (bs.map V.bl) its):TruthOf prog w A (fun i v=>its.toArray[i]?=some v) (fun i=>bs.getD i false):=by
  intro i v s Q E hv hq
  have e:=bools_get r hv
  subst e
  exact wpAny_truthy_bool hq
theorem call_any:CallR X (.builtin "any") (fun xs H Q=>∃ (p:Addr) (bs:List Bool),xs=[.ref p]∧SqL X.K H p (bs.map V.bl)∧X.calm=true∧Q (.bl (bs.any id)) H):=by
  intro pins s σ H xs us Q I r h
  obtain ⟨p,bs,rfl,hp,hc,q⟩:=h
  obtain ⟨u,rfl,ru⟩:=vals1 r
  cases ru
  obtain ⟨its,rv,pl,hz⟩:=I.list hp
  have hl:=rv.length
  rw [List.length_map] at hl
  refine call_any_walk (wpAny_pyIter_list pl.isList ?_)
  have hlt:p < s.heap.objs.size:=by obtain ⟨o,ho,_⟩:=pl.isList; exact Heap.lt_size ho
  refine ⟨s.heap.objs.size,_,_,_,_,_,_,rfl,Walks.list (show X.A.in1.handled=none from I.ok.hd hc) s.heap.objs.size p (Nat.ne_of_lt hlt) its.toArray,⟨⟨_,Heap.get?_push_size _ rfl,rfl,rfl⟩,let ⟨o,ho,r⟩:=pl.isList; ⟨o,Heap.get?_push_of_some _ ho,r⟩⟩,truth_bools rv,fun h' tk k=>?_⟩
  refine ⟨.bl (bs.any id),H,I.kept (t':=tk) fun b o e=>k b o (fun z=>?_) (Heap.get?_push_of_some _ e),?_,q⟩
  · have:b=s.heap.objs.size:=by simpa using z
    exact absurd (this ▸ Heap.lt_size e) (Nat.lt_irrefl _)
  · show Value.bool _=Value.bool _
    rw [List.size_toArray,← hl,range_any (α:=Nat)]
end
section
variable {X:Cx}
end
end L2
namespace L2
open PySem PySem.Spec PyProof.Rows
structure DefOk (P:Program) (w:World) (K:PySem.W.Frag) (mg:Str→Option Value) (base:Heap) (k:Nat) (x:Str) (ps:List Str) (sp:Sp):Prop where
  ex:∃ (f:Addr) (fd:FuncData),FnOk P w K mg base CX0 k f fd ps sp∧mg x=some (.ref f)∧PySem.W.keepIn K (.ref f)=true∧Binds K fd ps []
section
variable {X:Cx} {k j:Nat} {x:Str} {ps:List Str} {sp:Sp} {p pos:Pos} {e:Expr} {es:List Expr} {t:TA}
theorem pe_fn (D:DefOk X.prog X.w X.K X.mg X.base k x ps sp) (hr:Room j X.A) (ha:PA X (e :: es) t) (hj:k≤j:=by decide) (hg:Gl X x:=by rfl) (hdb:(x == ("__debug__":Str))=false:=by decide)
    (he:starEach (e :: es) X.env=(false,eval e X.env) :: starEach es X.env:=by rfl) (hpl:(backTo pos (starEach es X.env)).any (·.1)=false:=by rfl):PE X (.Call (.Name x p) (e :: es) [] pos) (tCall sp [] E0 t):=by
  obtain ⟨f,fd,F,hm,hk,hb⟩:=D.ex
  exact pe_call F (hr.mono hj) hg hm hk hb .nil pass0 ha hdb he hpl
end
theorem lenOk {xs:List V} (n:Nat) (h:xs.length=n:=by rfl) (h2:n≤1000:=by decide):xs.length≤sizeLine:=by rw [h]; exact Nat.le_of_lt (small1000 h2)
theorem iteP {c:Bool} {A B:Prop} (h:c=true) (a:A):if c=true then A else B:=by rw [if_pos h]; exact a
theorem iteN {c:Bool} {A B:Prop} (h:c=false) (b:B):if c=true then A else B:=by rw [if_neg (by rw [h]; exact Bool.false_ne_true)]; exact b
theorem ite3 {c:Bool} {A B:Prop} (h1:c=true→A) (h2:c=false→B):if c=true then A else B:=by
  cases c with
  | true=>exact iteT (h1 rfl)
  | false=>exact iteF (h2 rfl)
def SameX (p:Addr) (H H':Hp):Prop:=∀ b o,b≠p→H b=some o→H' b=some o
theorem SameX.refl {p:Addr} {H:Hp}:SameX p H H:=fun _ _ _ h=>h
theorem SameX.trans {p:Addr} {H H1 H2:Hp} (a:SameX p H H1) (b:SameX p H1 H2):SameX p H H2:=fun c o n h=>b c o n (a c o n h)
theorem SameX.upd {p:Addr} {H:Hp} {o:HO}:SameX p H (upd H p o):=fun b u n h=>by rw [upd_ne n]; exact h
theorem Same.new {l:Addr} {H:Hp} {o:HO} (h:H l=none):Same H (L2.upd H l o):=fun b u e=>by rw [upd_ne (ne_of_none e h)]; exact e
theorem SameX.same {p:Addr} {H H0 H':Hp} (a:SameX p H H') (s:Same H0 H) (h:H0 p=none):Same H0 H':=fun b o e=>a b o (ne_of_none e h) (s b o e)
theorem Same.x {p:Addr} {H H':Hp} (a:Same H H'):SameX p H H':=fun b o _ e=>a b o e
def cW (acc:Addr) (n:Nat) (Pv:Nat→List V→St→Hp→Prop) (i m:Nat) (σ:St) (H:Hp):Prop:=i≤n∧m=n - i∧∃ xs,xs.length=i∧H acc=some (.lst xs)∧Pv i xs σ H
def cNx (acc:Addr) (n:Nat) (Pv:Nat→List V→St→Hp→Prop) (i:Nat) (σ:St) (v:V) (H:Hp):Prop:=∃ xs,H acc=some (.lst xs)∧xs.length < sizeLine∧∃ m',m' < n - i∧cW acc n Pv (i+1) m' σ (upd H acc (.lst (xs++[v])))
theorem cNx.mk {acc:Addr} {n:Nat} {Pv:Nat→List V→St→Hp→Prop} {i:Nat} {σ:St} {v:V} {H:Hp} {xs:List V} (hn:n≤sizeLine) (hi:i < n) (hl:xs.length=i) (ha:H acc=some (.lst xs)) (hp:Pv (i+1) (xs++[v]) σ (upd H acc (.lst (xs++[v])))) :
    cNx acc n Pv i σ v H:=⟨xs,ha,by omega,n - (i+1),by omega,hi,rfl,xs++[v],by rw [List.length_append,hl]; rfl,upd_same,hp⟩
theorem comp_range {lo:Int} {n:Nat} {g:TG} {te:TE} {σ:St} {H1:Hp} {acc:Addr} {Qr:Hp→Prop} (Pv:Nat→List V→St→Hp→Prop) (h0:Pv 0 [] σ (upd H1 acc (.lst [])))
    (hs:∀ i xs σ H,i < n→xs.length=i→H acc=some (.lst xs)→Pv i xs σ H→g (.int (lo+i)) σ H fun σ2 H2=>te σ2 H2 fun v H3=>cNx acc n Pv i σ2 v H3)
    (hd:∀ xs σ H,xs.length=n→H acc=some (.lst xs)→Pv n xs σ H→Qr H) :
    ∃ W:Nat→Nat→St→Hp→Prop,(∃ m,W 0 m σ (upd H1 acc (.lst [])))∧∀ i m σ1 H2,W i m σ1 H2 →
      ((Itr lo n).stop i H2∧Qr H2)∨((Itr lo n).go i H2∧∀ x H3,(Itr lo n).yld i H2 x H3→g x σ1 H3 fun σ4 H4=>te σ4 H4 fun v H5=>∃ xs,H5 acc=some (.lst xs)∧xs.length < sizeLine∧∃ m',m' < m∧W (i+1) m' σ4 (upd H5 acc (.lst (xs++[v])))):=by
  refine ⟨cW acc n Pv,⟨n,Nat.zero_le _,rfl,[],rfl,upd_same,h0⟩,?_⟩
  rintro i m σ1 H2 ⟨hi,rfl,xs,hl,ha,hp⟩
  rcases Nat.lt_or_ge i n with h | h
  · refine .inr ⟨h,?_⟩
    rintro x H3 ⟨rfl,rfl⟩
    exact hs i xs σ1 H3 h hl ha hp
  · have e:i=n:=Nat.le_antisymm hi h
    subst e
    exact .inl ⟨Nat.le_refl _,hd xs σ1 H2 hl ha hp⟩
theorem comp_list {K:PySem.W.Frag} {a:Addr} {ys:List V} {g:TG} {te:TE} {σ:St} {H1:Hp} {acc:Addr} {Qr:Hp→Prop} (Pv:Nat→List V→St→Hp→Prop) (h0:Pv 0 [] σ (upd H1 acc (.lst [])))
    (hq:∀ i xs σ H,i≤ys.length→H acc=some (.lst xs)→Pv i xs σ H→SqL K H a ys)
    (hs:∀ i x xs σ H,ys[i]?=some x→i < ys.length→xs.length=i→H acc=some (.lst xs)→Pv i xs σ H→g x σ H fun σ2 H2=>te σ2 H2 fun v H3=>cNx acc ys.length Pv i σ2 v H3)
    (hd:∀ xs σ H,xs.length=ys.length→H acc=some (.lst xs)→Pv ys.length xs σ H→Qr H) :
    ∃ W:Nat→Nat→St→Hp→Prop,(∃ m,W 0 m σ (upd H1 acc (.lst [])))∧∀ i m σ1 H2,W i m σ1 H2 →
      ((Itl K a).stop i H2∧Qr H2)∨((Itl K a).go i H2∧∀ x H3,(Itl K a).yld i H2 x H3→g x σ1 H3 fun σ4 H4=>te σ4 H4 fun v H5=>∃ xs,H5 acc=some (.lst xs)∧xs.length < sizeLine∧∃ m',m' < m∧W (i+1) m' σ4 (upd H5 acc (.lst (xs++[v])))):=by
  refine ⟨cW acc ys.length Pv,⟨ys.length,Nat.zero_le _,rfl,[],rfl,upd_same,h0⟩,?_⟩
  rintro i m σ1 H2 ⟨hi,rfl,xs,hl,ha,hp⟩
  have hsq:=hq i xs σ1 H2 hi ha hp
  rcases Nat.lt_or_ge i ys.length with h | h
  · refine .inr ⟨⟨ys,ys[i],hsq,List.getElem?_eq_getElem h⟩,?_⟩
    rintro x H3 ⟨rfl,hx⟩
    exact hs i x xs σ1 H3 (hx ys hsq) h hl ha hp
  · have e:i=ys.length:=Nat.le_antisymm hi h
    subst e
    exact .inl ⟨⟨ys,hsq,Nat.le_refl _⟩,hd xs σ1 H2 hl ha hp⟩
end L2
namespace L2
open PySem PySem.Spec PyProof.Rows PySem.W
section
variable {cmp:Nat→Nat→(Bool→Shared→Prop)→Shared→Prop} {key:Nat→Int} {N:Nat} {s:Shared}
variable (hcmp:∀ i j (C:Bool→Shared→Prop),i < N→j < N→C (decide (key i < key j)) s→cmp i j C s)
include hcmp
end
end L2
namespace L2
open PySem PySem.Spec PyProof.Rows PySem.W
section
variable {prog:Program} {w:World} {A:Around} {E:Value→Shared→Prop} {s:Shared}
end
section
variable {X:Cx}
theorem refs_vals:∀ {ts:List Addr} {its:List Value},Vals (ts.map V.ref) its→its=ts.map Value.ref
  | [],_,.nil=>rfl
  | a :: r,_,.cons h t=>by
    cases (show _=Value.ref a from h)
    rw [List.map_cons,refs_vals t]
end
end L2
namespace L2
open PySem PySem.Spec PyProof.Rows
section
variable {κ:Type} [DecidableEq κ]
def valV (kvs:List (κ × V)) (k:κ):Option V:=(kvs.find? fun kv=>decide (kv.1=k)).map (·.2)
def putK (kvs:List (κ × V)) (k:κ) (v:V):List (κ × V) :=
  if (kvs.any fun kv=>decide (kv.1=k))=true then kvs.map (fun kv=>if kv.1=k then (kv.1,v) else kv) else kvs++[(k,v)]
theorem valV_pos {p:κ × V} {r:List (κ × V)} {k:κ} (e:p.1=k):valV (p :: r) k=some p.2:=by simp [valV,List.find?_cons,e]
theorem valV_neg {p:κ × V} {r:List (κ × V)} {k:κ} (e:¬ p.1=k):valV (p :: r) k=valV r k:=by simp [valV,List.find?_cons,e]
theorem valV_any (k:κ):∀ kvs:List (κ × V),(kvs.any fun kv=>decide (kv.1=k))=(valV kvs k).isSome
  | []=>rfl
  | p :: r=>by
    rw [List.any_cons]
    by_cases e:p.1=k
    · simp only [valV_pos e,decide_eq_true e,Bool.true_or,Option.isSome_some]
    · rw [valV_neg e,decide_eq_false e,Bool.false_or]; exact valV_any k r
theorem valV_map (k j:κ) (y:V):∀ kvs:List (κ × V),valV (kvs.map fun kv=>if kv.1=k then (kv.1,y) else kv) j=(valV kvs j).map fun x=>if j=k then y else x
  | []=>rfl
  | p :: r=>by
    have ih:=valV_map k j y r
    rw [List.map_cons]
    by_cases h:p.1=k
    · rw [if_pos h]
      by_cases e:p.1=j
      · rw [valV_pos (p:=(p.1,y)) e,valV_pos e,Option.map_some,if_pos (e.symm.trans h)]
      · rw [valV_neg (p:=(p.1,y)) e,valV_neg e,ih]
    · rw [if_neg h]
      by_cases e:p.1=j
      · rw [valV_pos (p:=p) e,valV_pos e,Option.map_some,if_neg (fun z=>h (e.trans z))]
      · rw [valV_neg (p:=p) e,valV_neg e,ih]
theorem valV_snoc (k j:κ) (y:V):∀ kvs:List (κ × V),valV kvs k=none→valV (kvs++[(k,y)]) j=if j=k then some y else valV kvs j
  | [],_=>by
    by_cases e:k=j
    · rw [if_pos e.symm]; exact valV_pos (p:=(k,y)) e
    · rw [if_neg (fun z=>e z.symm)]; exact valV_neg (p:=(k,y)) e
  | p :: r,hn=>by
    rw [List.cons_append]
    have hk:¬ p.1=k:=fun z=>by rw [valV_pos z] at hn; cases hn
    rw [valV_neg hk] at hn
    have ih:=valV_snoc k j y r hn
    by_cases e:p.1=j
    · rw [valV_pos e,valV_pos e,if_neg (fun z=>hk (e.trans z))]
    · rw [valV_neg e,valV_neg e,ih]
theorem valV_put (kvs:List (κ × V)) (k j:κ) (y:V):valV (putK kvs k y) j=if j=k then some y else valV kvs j:=by
  unfold putK
  by_cases a:(kvs.any fun kv=>decide (kv.1=k))=true
  · rw [if_pos a,valV_map]
    rw [valV_any] at a
    by_cases e:j=k
    · obtain ⟨x,hx⟩:=Option.isSome_iff_exists.mp a
      rw [if_pos e,e,hx,Option.map_some,if_pos rfl]
    · rw [if_neg e]
      cases valV kvs j with
      | none=>rfl
      | some x=>rw [Option.map_some,if_neg e]
  · rw [if_neg a]
    refine valV_snoc k j y kvs ?_
    rw [valV_any] at a
    cases q:valV kvs k with
    | none=>rfl
    | some x=>rw [q] at a; exact (a rfl).elim
theorem length_putK (kvs:List (κ × V)) (k:κ) (v:V):(putK kvs k v).length≤kvs.length+1:=by
  unfold putK
  split
  · rw [List.length_map]; omega
  · rw [List.length_append,List.length_cons,List.length_nil]; omega
theorem putK_new {kvs:List (κ × V)} {k:κ} (v:V) (h:valV kvs k=none):putK kvs k v=kvs++[(k,v)]:=by
  unfold putK
  rw [valV_any,h]
  exact if_neg (by decide)
theorem RelO.isSome_eq {o:Option V} {u:Option Value} (r:RelO o u):o.isSome=u.isSome:=by
  cases o with
  | none=>cases u with
    | none=>rfl
    | some _=>exact (show False from r).elim
  | some _=>cases u with
    | none=>exact (show False from r).elim
    | some _=>rfl
theorem KV.val {kvs:List (κ × V)} {vs:List (κ × Value)} (r:KV kvs vs) (k:κ):RelO (valV kvs k) (valueAt vs k):=by
  unfold KV at r
  induction r with
  | nil=>exact True.intro
  | @cons p q ps qs h t ih =>
    obtain ⟨h1,h2⟩:=h
    by_cases e:p.1=k
    · have e':q.1=k:=h1.symm.trans e
      have b:valueAt (q :: qs) k=some q.2:=by simp [valueAt,List.find?_cons,e']
      rw [valV_pos e,b]; exact h2
    · have e':¬ q.1=k:=fun z=>e (h1.trans z)
      have b:valueAt (q :: qs) k=valueAt qs k:=by simp [valueAt,List.find?_cons,e']
      rw [valV_neg e,b]; exact ih
theorem KV.any {kvs:List (κ × V)} {vs:List (κ × Value)} (r:KV kvs vs) (k:κ):(kvs.any fun kv=>decide (kv.1=k))=vs.any fun kv=>decide (kv.1=k):=by
  unfold KV at r
  induction r with
  | nil=>rfl
  | cons h t ih=>rw [List.any_cons,List.any_cons,ih,h.1]
theorem KV.repl {kvs:List (κ × V)} {vs:List (κ × Value)} (r:KV kvs vs) (k:κ) {y:V} {u:Value} (ry:RelV y u) :
    KV (kvs.map fun kv=>if kv.1=k then (kv.1,y) else kv) (vs.map fun kv=>if kv.1=k then (kv.1,u) else kv):=by
  unfold KV at r ⊢
  induction r with
  | nil=>exact .nil
  | @cons p q ps qs h t ih =>
    rw [List.map_cons,List.map_cons]
    refine .cons ?_ ih
    obtain ⟨h1,h2⟩:=h
    by_cases e:p.1=k
    · rw [if_pos e,if_pos (h1.symm.trans e)]; exact ⟨h1,ry⟩
    · rw [if_neg e,if_neg (fun z=>e (h1.trans z))]; exact ⟨h1,h2⟩
theorem KV.put {kvs:List (κ × V)} {vs:List (κ × Value)} (r:KV kvs vs) (k:κ) {y:V} {u:Value} (ry:RelV y u):KV (putK kvs k y) (stored vs k u):=by
  unfold putK stored
  rw [r.any k]
  by_cases e:(vs.any fun kv=>decide (kv.1=k))=true
  · rw [if_pos e,if_pos e]; exact r.repl k ry
  · rw [if_neg e,if_neg e]; exact Paired.snoc r ⟨rfl,ry⟩
theorem KV.length {kvs:List (κ × V)} {vs:List (κ × Value)} (r:KV kvs vs):kvs.length=vs.length:=Paired.length r
end
theorem kV_is {P:Program} {w:World} {k:Key} {u:Value} (r:RelV (kV k) u):(mixKind P w).is k u=true:=by
  cases k with
  | inl i=>obtain ⟨t,e⟩:=(show ∃ t,u=Value.int i t from r); subst e; exact mixKind_int P w i t
  | inr x=>obtain ⟨t,e⟩:=(show ∃ t,u=Value.str x t from r); subst e; exact mixKind_str P w x t
theorem items_are {P:Program} {w:World}:∀ {ks:List Key} {us:List Value},Vals (ks.map kV) us→ItemsAre (mixKind P w) ks us
  | [],_,r=>by rw [List.map_nil] at r; cases r; exact .nil
  | k :: ks,_,r=>by
    rw [List.map_cons] at r
    cases r with
    | cons h t=>exact .cons (kV_is h) (items_are t)
abbrev KT (H:Hp):List (List Key × V)→List (List Key × Addr × Value)→Prop:=Paired fun p q=>p.1=q.1∧H q.2.1=some (.tup (p.1.map kV))∧RelV p.2 q.2.2
theorem KT.val {H:Hp} {kvs:List (List Key × V)} {xs:List (List Key × Addr × Value)} (r:KT H kvs xs) (k:List Key):RelO (valV kvs k) ((atKey xs k).map (·.2)):=by
  induction r with
  | nil=>exact True.intro
  | @cons p q ps qs h t ih =>
    obtain ⟨h1,_,h2⟩:=h
    by_cases e:p.1=k
    · have e':q.1=k:=h1.symm.trans e
      have b:atKey (q :: qs) k=some q.2:=by simp [atKey,List.find?_cons,e']
      rw [valV_pos e,b]; exact h2
    · have e':¬ q.1=k:=fun z=>e (h1.trans z)
      have b:atKey (q :: qs) k=atKey qs k:=by simp [atKey,List.find?_cons,e']
      rw [valV_neg e,b]; exact ih
theorem KT.repl {H:Hp} {kvs:List (List Key × V)} {xs:List (List Key × Addr × Value)} (r:KT H kvs xs) (k:List Key) {y:V} {u:Value} (ry:RelV y u) :
    KT H (kvs.map fun kv=>if kv.1=k then (kv.1,y) else kv) (xs.map (putAt k u)):=by
  induction r with
  | nil=>exact .nil
  | @cons p q ps qs h t ih =>
    rw [List.map_cons,List.map_cons]
    refine .cons ?_ ih
    obtain ⟨h1,h2,h3⟩:=h
    unfold putAt
    by_cases e:p.1=k
    · rw [if_pos e,if_pos (h1.symm.trans e)]; exact ⟨h1,h2,ry⟩
    · rw [if_neg e,if_neg (fun z=>e (h1.trans z))]; exact ⟨h1,h2,h3⟩
theorem KT.put {H:Hp} {kvs:List (List Key × V)} {xs:List (List Key × Addr × Value)} (r:KT H kvs xs) (k:List Key) {b:Addr} {y:V} {u:Value} (hb:H b=some (.tup (k.map kV))) (ry:RelV y u) :
    KT H (putK kvs k y) (storedH xs k b u):=by
  have e:(kvs.any fun kv=>decide (kv.1=k))=(atKey xs k).isSome:=by
    rw [valV_any,(r.val k).isSome_eq,Option.isSome_map]
  unfold putK storedH
  rw [e]
  by_cases q:(atKey xs k).isSome=true
  · rw [if_pos q,if_pos q]; exact r.repl k ry
  · rw [if_neg q,if_neg q]; exact Paired.snoc r ⟨rfl,hb,ry⟩
theorem KT.keeps {H H':Hp} {kvs:List (List Key × V)} {xs:List (List Key × Addr × Value)} (r:KT H kvs xs) (ht:∀ b ys,H b=some (.tup ys)→H' b=some (.tup ys)):KT H' kvs xs :=
  Paired.mapP r fun _ _ z=>⟨z.1,ht _ _ z.2.1,z.2.2⟩
section
variable {P:Program} {w:World} {H:Hp} {h:Heap} {a:Addr}
theorem rd_of {u:HO} (ok:HOk P w H h) (e:Rd H a u):ObjOk P w H h a u:=e.ok ok
theorem dk_rd {kvs:List (Key × V)} (ok:HOk P w H h) (e:Rd H a (.dK kvs)):kvs.length≤sizeLine∧(a == sysModules)=false∧∃ vs,KV kvs vs∧h.DictOf (mixKind P w) a vs :=
  show ObjOk P w H h a (.dK kvs) from rd_of ok e
theorem dk_of {kvs:List (Key × V)} (ok:HOk P w H h) (e:H a=some (.dK kvs)):kvs.length≤sizeLine∧(a == sysModules)=false∧∃ vs,KV kvs vs∧h.DictOf (mixKind P w) a vs:=dk_rd ok (.inl e)
theorem key_of {ks:List Key} (ok:HOk P w H h) (e:H a=some (.tup (ks.map kV))):(tupleKind (mixKind P w)).is h ks a:=by
  obtain ⟨_,its,r,o,h1,h2,n,h3⟩:=(show ObjOk P w H h a (.tup (ks.map kV)) from ok a _ e)
  exact ⟨o,its.toArray,n,h1,h2,h3,by simpa using items_are r⟩
theorem dt_rd {kvs:List (List Key × V)} (ok:HOk P w H h) (e:Rd H a (.dT kvs)):kvs.length≤sizeLine∧(a == sysModules)=false ∧
    ∃ xs,KT H kvs xs∧h.DictOfH (tupleKind (mixKind P w)) a xs:=by
  obtain ⟨z,y,xs,r,o,es,ep,h1,h2,h3,h4,h5⟩:=(show ObjOk P w H h a (.dT kvs) from rd_of ok e)
  refine ⟨z,y,xs,r,o,es,ep,h1,h2,h3,h4,fun x hx=>?_,h5⟩
  have all:∀ {l:List (List Key × V)} {m:List (List Key × Addr × Value)},KT H l m→∀ x∈m,(tupleKind (mixKind P w)).is h x.1 x.2.1:=by
    intro l m q
    induction q with
    | nil=>intro x hx; exact nomatch hx
    | @cons p q ps qs hq t ih =>
      intro x hx
      rcases List.mem_cons.mp hx with e | hx
      · subst e
        exact key_of ok (by rw [← hq.1]; exact hq.2.1)
      · exact ih x hx
  exact all r x hx
theorem dt_of {kvs:List (List Key × V)} (ok:HOk P w H h) (e:H a=some (.dT kvs)):kvs.length≤sizeLine∧(a == sysModules)=false ∧
    ∃ xs,KT H kvs xs∧h.DictOfH (tupleKind (mixKind P w)) a xs:=dt_rd ok (.inl e)
end
def DGet (H:Hp) (a:Addr) (y:V) (r:Option V):Prop :=
  (∃ kvs k,Rd H a (.dK kvs)∧y=kV k∧r=valV kvs k)∨∃ kvs k b,Rd H a (.dT kvs)∧y=.ref b∧H b=some (.tup (k.map kV))∧r=valV kvs k
def DPut (H:Hp) (a:Addr) (y v:V) (H':Hp):Prop :=
  (∃ kvs k,H a=some (.dK kvs)∧y=kV k∧kvs.length < sizeLine∧H'=upd H a (.dK (putK kvs k v))) ∨
  ∃ kvs k b,H a=some (.dT kvs)∧y=.ref b∧H b=some (.tup (k.map kV))∧kvs.length < sizeLine∧H'=upd H a (.dT (putK kvs k v))
theorem DGet.k {H:Hp} {a:Addr} {kvs:List (Key × V)} {k:Key} (e:H a=some (.dK kvs)):DGet H a (kV k) (valV kvs k):=.inl ⟨kvs,k,.inl e,rfl,rfl⟩
theorem DPut.k {H:Hp} {a:Addr} {kvs:List (Key × V)} {k:Key} {v:V} (e:H a=some (.dK kvs)) (hl:kvs.length < sizeLine):DPut H a (kV k) v (upd H a (.dK (putK kvs k v))):=.inl ⟨kvs,k,e,rfl,hl,rfl⟩
section
variable {X:Cx} {pins:List (Addr × Obj)} {σ:St} {H:Hp} {s:Shared} {a:Addr} {y v:V} {u r:Value} {o:Option V} {A:Around} {E:Value→Shared→Prop}
theorem Inv.big (I:Inv X pins σ H s):sysModules < s.heap.objs.size:=by
  have h:mainGlobals < s.heap.objs.size:=(I.mod.glob.keeps I.bk).lt
  exact Nat.lt_trans (by decide) h
theorem d_getItem {Q:Value→Shared→Prop} (hu:A.units+1 < cLine) (I:Inv X pins σ H s) (g:DGet H a y (some v)) (ry:RelV y u) (h:∀ w' s',Inv X pins σ H s'→RelV v w'→Q w' s') :
    wpAny (model X.prog X.w) A (getItem (.ref a) u) Q E s:=by
  rcases g with ⟨kvs,k,e,ey,l⟩ | ⟨kvs,k,b,e,ey,eb,l⟩
  · subst ey
    obtain ⟨z,hd,vs,rel,dd⟩:=dk_rd I.hok e
    obtain ⟨w',hw,rw'⟩:=RelO.some_of (v:=v) (o:=valueAt vs k) (by rw [l]; exact rel.val k)
    exact wpAny_getItem_of (kV_is ry) dd.mapOf hw (h w' _ (I.tok _) rw')
  · subst ey
    cases (show u=Value.ref b from ry)
    obtain ⟨z,hd,xs,rel,dd⟩:=dt_rd I.hok e
    obtain ⟨w',hw,rw'⟩:=RelO.some_of (v:=v) (o:=(atKey xs k).map (·.2)) (by rw [l]; exact rel.val k)
    obtain ⟨p,hp,hp2⟩:=Option.map_eq_some_iff.mp hw
    refine wpAny_getItem_heap (tupleKind_room_in1 hu) (key_of I.hok eb) dd hp ?_
    rw [hp2]
    exact h w' _ (I.tok _) rw'
theorem d_in {Q:Value→Shared→Prop} (hu:A.units+1 < cLine) (I:Inv X pins σ H s) (g:DGet H a y o) (ry:RelV y u) (h:∀ s',Inv X pins σ H s'→Q (.bool o.isSome) s') :
    wpAny (model X.prog X.w) A (compareOp .In u (.ref a)) Q E s:=by
  rcases g with ⟨kvs,k,e,ey,l⟩ | ⟨kvs,k,b,e,ey,eb,l⟩
  · subst ey
    obtain ⟨z,hd,vs,rel,dd⟩:=dk_rd I.hok e
    refine wpAny_in_of (kV_is ry) hd dd.mapOf ?_
    rw [← (rel.val k).isSome_eq,← l]
    exact h _ (I.tok _)
  · subst ey
    cases (show u=Value.ref b from ry)
    obtain ⟨z,hd,xs,rel,dd⟩:=dt_rd I.hok e
    refine wpAny_in_heap (tupleKind_room_in1 hu) (key_of I.hok eb) hd dd ?_
    have q:=(rel.val k).isSome_eq
    rw [Option.isSome_map] at q
    rw [← q,← l]
    exact h _ (I.tok _)
theorem d_notIn {Q:Value→Shared→Prop} (hu:A.units+1 < cLine) (I:Inv X pins σ H s) (g:DGet H a y o) (ry:RelV y u) (h:∀ s',Inv X pins σ H s'→Q (.bool (!o.isSome)) s') :
    wpAny (model X.prog X.w) A (compareOp .NotIn u (.ref a)) Q E s:=by
  rcases g with ⟨kvs,k,e,ey,l⟩ | ⟨kvs,k,b,e,ey,eb,l⟩
  · subst ey
    obtain ⟨z,hd,vs,rel,dd⟩:=dk_rd I.hok e
    refine wpAny_notIn_of (kV_is ry) hd dd.mapOf ?_
    rw [← (rel.val k).isSome_eq,← l]
    exact h _ (I.tok _)
  · subst ey
    cases (show u=Value.ref b from ry)
    obtain ⟨z,hd,xs,rel,dd⟩:=dt_rd I.hok e
    refine wpAny_notIn_heap (tupleKind_room_in1 hu) (key_of I.hok eb) hd dd ?_
    have q:=(rel.val k).isSome_eq
    rw [Option.isSome_map] at q
    rw [← q,← l]
    exact h _ (I.tok _)
theorem d_write {h':Heap} {t':Nat} {ob:HO} (I:Inv X pins σ H s) (mu:Mut (H a)) (hs:Heap.SameBut a s.heap h') (he:∃ q,h'.get? a=some q) (new:ObjOk X.prog X.w (upd H a ob) h' a ob) :
    Inv X pins σ (upd H a ob) { s with heap:=h',toks:=t' } :=
  I.write (x:=a) (e:=a) mu (.inl rfl) (fun b q hb z=>(hs.2 b hb).trans z) he new
theorem dk_new {P:Program} {w:World} {H':Hp} {h':Heap} {kvs:List (Key × V)} {vs:List (Key × Value)} (z:kvs.length≤sizeLine) (hd:(a == sysModules)=false) (rel:KV kvs vs) (dd:h'.DictOf (mixKind P w) a vs) :
    ObjOk P w H' h' a (.dK kvs):=⟨z,hd,vs,rel,dd⟩
theorem d_setItem {H':Hp} {Q:Unit→Shared→Prop} (hu:A.units+1 < cLine) (I:Inv X pins σ H s) (g:DPut H a y v H') (ry:RelV y u) (rv:RelV v r) (h:∀ s',Inv X pins σ H' s'→Q () s') :
    wpAny (model X.prog X.w) A (setItem (.ref a) u r) Q E s:=by
  rcases g with ⟨kvs,k,e,ey,l,eH⟩ | ⟨kvs,k,b,e,ey,eb,l,eH⟩
  · subst ey eH
    obtain ⟨z,hd,vs,rel,dd⟩:=dk_of I.hok e
    have hz:vs.length≤sizeLine:=by rw [← rel.length]; exact z
    have hl:(putK kvs k v).length≤sizeLine:=by have:=length_putK kvs k v; omega
    refine wpAny_setItem_pairs (hsz:=hz) (kV_is ry) dd fun h' dd' hs=>h _ ?_
    have he:∃ q,h'.get? a=some q:=let ⟨q,_,_,hq,_⟩:=dd'; ⟨q,hq⟩
    exact d_write I (by rw [e]; exact True.intro) hs he (dk_new hl hd (rel.put k rv) dd')
  · subst ey eH
    cases (show u=Value.ref b from ry)
    obtain ⟨z,hd,xs,rel,dd⟩:=dt_of I.hok e
    have hz:xs.length≤sizeLine:=by rw [← Paired.length rel]; exact z
    have hl:(putK kvs k v).length≤sizeLine:=by have:=length_putK kvs k v; omega
    refine wpAny_setItem_heap (hsz:=hz) (tupleKind_room_in1 hu) (key_of I.hok eb) dd fun h' dd' hs=>h _ ?_
    obtain ⟨q,es,ep,hq,h2,h3,h4,_,h5⟩:=dd'
    refine d_write I (by rw [e]; exact True.intro) hs ⟨q,hq⟩ ⟨hl,hd,_,(rel.put k eb rv).keeps fun c ys ec=>?_,q,es,ep,hq,h2,h3,h4,h5⟩
    rw [upd_ne (ne_of ec e (fun z=>nomatch z))]
    exact ec
end
section
variable {X:Cx} {pins:List (Addr × Obj)} {σ:St} {H:Hp} {s:Shared} {a:Addr} {kvs:List (Key × V)} {k:Key} {u:Value} {A:Around} {E:Value→Shared→Prop}
end
def NoSl (i:Expr):Prop:=∀ ov iv,subscripted i false ov iv=operate [ov,iv] (getItem ov iv)
theorem subD_of {prog:Program} {w:World} {A:Around} {E:Value→Shared→Prop} {s:Shared} {env:Env} {value slice:Expr} {pos:Pos} {T id:String} {Q:Value→Shared→Prop}
    (hl:typeLookup (.type T) "__getitem__"=pure (some (.builtin id))) (hs:NoSl slice)
    (h:wpAny (model prog w) A (eval value env) (fun o s₁=>wpAny (model prog w) A (eval slice env) (fun i s₂=>s₂.TypeIs o T∧wpAny (model prog w) A (getItem o i) Q E s₂) E s₁) E s) :
    wpAny (model prog w) A (eval (.Subscript value slice pos) env) Q E s:=by
  refine Subscript_ (wpAny_mono h (fun o s₁ h₁=>wpAny_mono h₁ (fun i s₂ h₂=>?_) fun _ _ x=>x) fun _ _ x=>x)
  obtain ⟨hT,h₂⟩:=h₂
  unfold subscriptTail
  refine wpAny_bind ?_
  rw [getitemInPython_of_ne hT.not_modules]
  refine wpAny_bind (wpAny_specialOf hT hl ?_)
  have fin:wpAny (model prog w) A (subscripted slice false o i) (fun r s₃=>wpAny (model prog w) A (letTemporaryGo value o r >>= fun _=>pure r) Q E s₃) E s₂:=by
    rw [hs o i]
    exact wpAny_operating (wpAny_mono h₂ (fun r s₃ h₃=>wpAny_bind (wpAny_letTemporaryGo (wpAny_pure h₃))) fun _ _ x=>x)
  first
    | exact wpAny_pure (wpAny_bind fin)
    | exact wpAny_bind (wpAny_pure (wpAny_bind fin))
    | exact wpAny_bind fin
theorem dict_typeIs {X:Cx} {pins:List (Addr × Obj)} {σ:St} {H:Hp} {s:Shared} {a:Addr} {y:V} {o:Option V} (I:Inv X pins σ H s) (g:DGet H a y o):s.TypeIs (.ref a) "dict":=by
  rcases g with ⟨kvs,k,e,_,_⟩ | ⟨kvs,k,b,e,_,_,_⟩
  · obtain ⟨_,_,vs,_,dd⟩:=dk_rd I.hok e
    exact dd.typeIs
  · obtain ⟨_,_,xs,_,dd⟩:=dt_rd I.hok e
    exact dd.typeIs
def tDGet (td ty:TE):TE:=fun σ H Q=>td σ H fun x H1=>ty σ H1 fun y H2=>∃ a v,x=.ref a∧DGet H2 a y (some v)∧Q v H2
def tDIn (ty td:TE):TE:=fun σ H Q=>ty σ H fun y H1=>td σ H1 fun x H2=>∃ a o,x=.ref a∧DGet H2 a y o∧Q (.bl o.isSome) H2
def tDNotIn (ty td:TE):TE:=fun σ H Q=>ty σ H fun y H1=>td σ H1 fun x H2=>∃ a o,x=.ref a∧DGet H2 a y o∧Q (.bl (!o.isSome)) H2
def sDPut (td ty tv:TE):TS:=fun D σ H=>tv σ H fun v H1=>td σ H1 fun x H2=>ty σ H2 fun y H3=>∃ a H4,x=.ref a∧DPut H3 a y v H4∧D.nx σ H4
section
variable {X:Cx} {o i e value:Expr} {pos pos' tpos:Pos} {td ty tv:TE}
theorem pe_dget (hu:X.A.units+1 < cLine) (ho:PE X o td) (hi:PE X i ty) (hs:NoSl i):PE X (.Subscript o i pos) (tDGet td ty):=by
  intro pins s σ H Q I h
  refine subD_of PySem.F.slot_dict_getitem.lookup hs (thn (ho pins s σ H _ I h) fun u s1 ⟨x,H1,I1,rx,q1⟩=>thn (hi pins s1 σ H1 _ I1 q1) fun iv s2 ⟨y,H2,I2,ry,a,v,ex,g,q2⟩=>?_)
  subst ex
  obtain rfl:u=Value.ref a:=rx
  exact ⟨dict_typeIs I2 g,d_getItem hu I2 g ry fun w' s3 I3 rw'=>⟨v,H2,I3,rw',q2⟩⟩
theorem pc_din (hu:X.A.units+1 < cLine) (hi:PE X i ty) (ho:PE X o td):PC X .In i o (tDIn ty td):=by
  intro pins s σ H Q I h
  refine thn (hi pins s σ H _ I h) fun iv s1 ⟨y,H1,I1,ry,q1⟩=>thn (ho pins s1 σ H1 _ I1 q1) fun u s2 ⟨x,H2,I2,rx,a,ov,ex,g,q2⟩=>?_
  subst ex
  obtain rfl:u=Value.ref a:=rx
  exact d_in hu I2 g ry fun s3 I3=>⟨.bl ov.isSome,H2,I3,rfl,q2⟩
theorem pc_dnotin (hu:X.A.units+1 < cLine) (hi:PE X i ty) (ho:PE X o td):PC X .NotIn i o (tDNotIn ty td):=by
  intro pins s σ H Q I h
  refine thn (hi pins s σ H _ I h) fun iv s1 ⟨y,H1,I1,ry,q1⟩=>thn (ho pins s1 σ H1 _ I1 q1) fun u s2 ⟨x,H2,I2,rx,a,ov,ex,g,q2⟩=>?_
  subst ex
  obtain rfl:u=Value.ref a:=rx
  exact d_notIn hu I2 g ry fun s3 I3=>⟨.bl (!ov.isSome),H2,I3,rfl,q2⟩
theorem ps_dput (hu:X.A.units+1 < cLine) (ho:PE X o td) (hi:PE X i ty) (hv:PE X value tv) (hs:swapsWith value (some (.Subscript o i pos')) pos.line X.env=pure false) :
    PS X (.Assign [.Subscript o i pos'] value pos) (sDPut td ty tv):=by
  intro pins s σ H D I h
  refine wpAny_Assign_Subscript (thn (hv pins s σ H _ I h) fun r s1 ⟨v,H1,I1,rv,q1⟩=>thn (ho pins s1 σ H1 _ I1 q1) fun u s2 ⟨x,H2,I2,rx,q2⟩=>thn (hi pins s2 σ H2 _ I2 q2) fun iv s3 ⟨y,H3,I3,ry,a,H4,ex,g,q3⟩=>?_) hs
  subst ex
  obtain rfl:u=Value.ref a:=rx
  exact d_setItem hu I3 g ry rv fun s4 I4=>⟨σ,H4,I4,q3⟩
end
theorem dk_empty {P:Program} {w:World} {H:Hp} (h:Heap) (hb:sysModules < h.objs.size):ObjOk P w H (h.push { cls:=.type "dict",data:=.dict #[] }) h.objs.size (.dK []) :=
  ⟨Nat.zero_le _,beq_eq_false_iff_ne.mpr (Ne.symm (Nat.ne_of_lt hb)),[],.nil,Heap.DictOf.new h⟩
def tDNewK:TE:=fun _ H Q=>∀ p,H p=none→Q (.ref p) (upd H p (.dK []))
section
variable {X:Cx} {pos:Pos}
theorem pe_dnewK:PE X (.Dict [] [] pos) tDNewK:=fun pins s σ H Q I h =>
  wpAny_Dict_empty ⟨.ref s.heap.objs.size,_,I.laid (a:=s.heap.objs.size) (o:=.dK []) (t':=s.toks) (fun _ _ q=>Heap.get?_push_of_some _ q) (Nat.le_refl _) (dk_empty s.heap I.big),rfl,h _ (I.hok.fresh (Nat.le_refl _))⟩
end
def tPairs:List (TE × TE)→St→Hp→(List (V × V)→Hp→Prop)→Prop
  | [],_,H,Q=>Q [] H
  | (tk,tv) :: r,σ,H,Q=>tk σ H fun x H1=>tv σ H1 fun y H2=>tPairs r σ H2 fun ps H3=>Q ((x,y) :: ps) H3
abbrev VV:List (V × V)→List (Value × Value)→Prop:=Paired fun p q=>RelV p.1 q.1∧RelV p.2 q.2
def PPs (X:Cx) (pos:Pos) (keys:List (Option Expr)) (values:List Expr) (trs:List (TE × TE)):Prop :=
  ∀ (pins:List (Addr × Obj)) (s:Shared) (σ:St) (H:Hp) (Q:List (V × V)→Hp→Prop),Inv X pins σ H s→tPairs trs σ H Q →
    wpAny (model X.prog X.w) X.A (evalPairs (pairTrees keys values X.env pos)) (fun vs s'=>∃ ps H',Inv X pins σ H' s'∧VV ps vs∧Q ps H') X.xe s
theorem pps_nil {X:Cx} {pos:Pos}:PPs X pos [] [] []:=fun pins s σ H Q I h=>pairTrees_nil_walk ⟨[],H,I,.nil,h⟩
theorem pps_cons {X:Cx} {pos:Pos} {k v:Expr} {ks:List (Option Expr)} {vs:List Expr} {tk tv:TE} {trs:List (TE × TE)} (hk:PE X k tk) (hv:PE X v tv) (hr:PPs X pos ks vs trs) :
    PPs X pos (some k :: ks) (v :: vs) ((tk,tv) :: trs):=fun pins s σ H Q I h =>
  pairTrees_cons_walk (thn (hk pins s σ H _ I h) fun u s1 ⟨x,H1,I1,rx,q1⟩=>thn (hv pins s1 σ H1 _ I1 q1) fun w2 s2 ⟨y,H2,I2,ry,q2⟩ =>
    thn (hr pins s2 σ H2 _ I2 q2) fun ws s3 ⟨ps,H3,I3,rel,q3⟩=>⟨(x,y) :: ps,H3,I3,.cons ⟨rx,ry⟩ rel,q3⟩)
def mergeK (kvs more:List (Key × V)):List (Key × V):=more.foldl (fun acc kv=>putK acc kv.1 kv.2) kvs
theorem KV.merge:∀ {more:List (Key × V)} {rs:List (Key × Value)} {kvs:List (Key × V)} {vs:List (Key × Value)},KV more rs→KV kvs vs→KV (mergeK kvs more) (merged vs rs):=by
  intro more rs kvs vs r
  unfold KV at r
  induction r generalizing kvs vs with
  | nil=>intro q; exact q
  | @cons p q ps qs h t ih =>
    intro r0
    have e:KV (putK kvs p.1 p.2) (stored vs q.1 q.2):=by
      have:=r0.put p.1 h.2
      rw [← h.1]; exact this
    exact ih e
theorem length_mergeK:∀ (more kvs:List (Key × V)),(mergeK kvs more).length≤kvs.length+more.length
  | [],kvs=>by show kvs.length≤kvs.length+0; omega
  | p :: r,kvs=>by
    have h1:=length_mergeK r (putK kvs p.1 p.2)
    have h2:=length_putK kvs p.1 p.2
    show (mergeK (putK kvs p.1 p.2) r).length≤_
    rw [List.length_cons]; omega
theorem carries_of {P:Program} {w:World}:∀ {kvs:List (Key × V)} {ws:List (Value × Value)},VV (kvs.map fun kv=>(kV kv.1,kv.2)) ws→∃ rs,Carries (mixKind P w) ws rs∧KV kvs rs
  | [],_,r=>by rw [List.map_nil] at r; cases r; exact ⟨[],True.intro,.nil⟩
  | p :: kvs,_,r=>by
    rw [List.map_cons] at r
    cases r with
    | @cons a b as bs h t =>
      obtain ⟨rs,c,q⟩:=carries_of (P:=P) (w:=w) t
      obtain ⟨b1,b2⟩:=b
      exact ⟨(p.1,b2) :: rs,⟨kV_is h.1,rfl,c⟩,.cons ⟨rfl,h.2⟩ q⟩
def tDisp (trs:List (TE × TE)):TE:=fun σ H Q=>∀ p,H p=none→tPairs trs σ (upd H p (.dK [])) fun ps H2=>H2 p=some (.dK [])∧∃ kvs:List (Key × V),ps=kvs.map (fun kv=>(kV kv.1,kv.2))∧kvs.length≤15∧Q (.ref p) (upd H2 p (.dK (mergeK [] kvs)))
theorem pe_disp {X:Cx} {pos:Pos} {keys:List (Option Expr)} {values:List Expr} {trs:List (TE × TE)} (h:PPs X pos keys values trs) (hall:keys.all (·.isSome)=true) (hl:keys.length=values.length) (h0:keys≠[])
    (h15:keys.length≤15):PE X (.Dict keys values pos) (tDisp trs):=by
  intro pins s σ H Q I q
  have hn:=I.hok.fresh (Nat.le_refl s.heap.objs.size)
  have I1:=I.laid (a:=s.heap.objs.size) (o:=.dK []) (h':=s.heap.push { cls:=.type "dict",data:=.dict #[] }) (t':=s.toks) (fun _ _ q=>Heap.get?_push_of_some _ q) (Nat.le_refl _) (dk_empty s.heap I.big)
  refine wpAny_Dict_walk (knd:=mixKind X.prog X.w) hall hl h0 h15 (thn (h pins _ σ _ _ I1 (q _ hn)) fun ws s2 ⟨ps,H2,I2,rel,e,kvs,ep,lk,q2⟩=>?_)
  subst ep
  obtain ⟨rs,c,rk⟩:=carries_of (P:=X.prog) (w:=X.w) rel
  obtain ⟨z,hd,vs0,r0,dd⟩:=dk_of I2.hok e
  cases r0
  refine ⟨rs,c,dd,fun h' dd' hs=>⟨.ref s.heap.objs.size,_,?_,rfl,q2⟩⟩
  have hz:(mergeK [] kvs).length≤sizeLine:=by
    have h1:=length_mergeK kvs []
    rw [List.length_nil] at h1
    rw [sizeLine_eq]; omega
  have he:∃ q,h'.get? s.heap.objs.size=some q:=let ⟨q,_,_,hq,_⟩:=dd'; ⟨q,hq⟩
  exact d_write I2 (by rw [e]; exact True.intro) hs he (dk_new hz hd (rk.merge .nil) dd')
def IsD (H:Hp) (a:Addr):Prop:=(∃ kvs,Rd H a (.dK kvs))∨∃ kvs,Rd H a (.dT kvs)
theorem isD_at {X:Cx} {pins:List (Addr × Obj)} {σ:St} {H:Hp} {s:Shared} {a:Addr} (I:Inv X pins σ H s) (d:IsD H a) :
    s.TypeIs (.ref a) "dict"∧(∀ b,Value.ref a=.ref b→∃ ob,s.heap.get? b=some ob∧ob.dict=none)∧(a == sysModules)=false:=by
  rcases d with ⟨kvs,e⟩ | ⟨kvs,e⟩
  · obtain ⟨_,hd,vs,_,dd⟩:=dk_rd I.hok e
    refine ⟨dd.typeIs,fun b q=>?_,hd⟩
    cases q
    obtain ⟨ob,_,_,h1,h2,_⟩:=dd
    exact ⟨ob,h1,h2.2.1⟩
  · obtain ⟨_,hd,xs,_,dd⟩:=dt_rd I.hok e
    refine ⟨dd.typeIs,fun b q=>?_,hd⟩
    cases q
    obtain ⟨ob,_,_,h1,h2,_⟩:=dd
    exact ⟨ob,h1,h2.2.1⟩
section
variable {X:Cx} {pins:List (Addr × Obj)} {σ:St} {H:Hp} {s:Shared} {a:Addr} {y d:V} {u r:Value} {o:Option V} {A:Around} {E:Value→Shared→Prop}
end
section
variable {X:Cx} {o e f:Expr} {apos cpos:Pos} {td ty tx:TE}
end
section
variable {X:Cx} {pins:List (Addr × Obj)} {σ:St} {H:Hp} {s:Shared} {a:Addr} {kvs:List (Key × V)} {A:Around} {E:Value→Shared→Prop}
end
section
variable {X:Cx} {pins:List (Addr × Obj)} {σ:St} {H:Hp} {s:Shared} {a:Addr} {y:V} {u:Value} {A:Around} {E:Value→Shared→Prop}
end
section
variable {κ:Type} [DecidableEq κ]
end
section
variable {X:Cx}
end
end L2
namespace L2
open PySem PySem.Spec PyProof.Rows
def Ite (K:PySem.W.Frag) (a:Addr):It :=
  ⟨fun i H=>∃ xs x,SqL K H a xs∧xs[i]?=some x,fun i H y H'=>∃ t x,(∀ xs,SqL K H a xs→xs[i]?=some x)∧y=.ref t∧H t=none∧H'=upd H t (.tup [.int i,x]),fun i H=>∃ xs,SqL K H a xs∧xs.length≤i⟩
theorem enum_step {X:Cx} {pins:List (Addr × Obj)} {σ:St} {H:Hp} {s:Shared} {h':Heap} {e it:Addr} {t':Nat} {ys:List V} (I:Inv X pins σ H s) (fe:FpOk X pins H e) (fi:FpOk X pins H it)
    (k:∀ b o,b≠e→b≠it→s.heap.get? b=some o→h'.get? b=some o) (he:∃ o,h'.get? e=some o) (hi:∃ o,h'.get? it=some o)
    (new:ObjOk X.prog X.w (upd H s.heap.objs.size (.tup ys)) h' s.heap.objs.size (.tup ys)) :
    Inv X pins σ (upd H s.heap.objs.size (.tup ys)) { s with heap:=h',toks:=t' }:=by
  have hn:H s.heap.objs.size=none:=I.hok.fresh (Nat.le_refl _)
  obtain ⟨e0,e1,e2,e3,e4,e5⟩:=fe
  obtain ⟨i0,i1,i2,i3,i4,i5⟩:=fi
  have nt:∀ b u,H b=some u→b≠e∧b≠it:=fun b u q=>⟨fun z=>(by rw [z,e0] at q; cases q),fun z=>(by rw [z,i0] at q; cases q)⟩
  have nc:∀ b,b ∉ [e,it]→b≠e∧b≠it:=fun b hb=>⟨fun z=>hb (by simp [z]),fun z=>hb (by simp [z])⟩
  have ne:∀ b u,H b=some u→b≠s.heap.objs.size:=fun b u q=>ne_of_none q hn
  refine I.step (g':=s.gens) (d':=s.drawn) (ch:=[e,it]) (fun b hb=>?_) (fun b o _ _ hc q _=>k b o (nc b hc).1 (nc b hc).2 q) (fun b o _ _ hc q _=>⟨o.slots,k b o (nc b hc).1 (nc b hc).2 q⟩)
    (fun b o _ q n=>by rw [upd_ne (Nat.ne_of_lt (Heap.lt_size q))]; exact n) (fun b o hc q=>⟨o,k b o (nc b hc).1 (nc b hc).2 q⟩) (fun b xs q=>by rw [upd_ne (ne b _ q)]; exact q) (fun b o u q=>by rw [upd_ne (ne b _ q)]; exact q)
    (fun b ps q=>⟨#[],by rw [upd_ne (ne b _ q),q]; simp⟩) (fun m hm=>?_) (fun b u q=>?_) I.bare
  · rcases List.mem_cons.mp hb with rfl | hb
    · exact ⟨e3,e1,e4,e5⟩
    · rw [List.mem_singleton.mp hb]; exact ⟨i3,i1,i4,i5⟩
  · obtain ⟨o,es,ep,ho,r⟩:=hm
    exact ⟨o,es,ep,k _ o (Ne.symm e1) (Ne.symm i1) ho,r⟩
  · by_cases hb:b=s.heap.objs.size
    · subst hb; rw [upd_same] at q; cases q; exact new
    · rw [upd_ne hb] at q
      refine (I.hok b u q).stay (fun c v hc z=>k c v ?_ ?_ z) (fun c z=>by rw [upd_ne (ne c _ z)]; exact z) fun c xs z=>by rw [upd_ne (ne c _ z)]; exact z
      · rcases hc with rfl | hc
        · exact (nt c u q).1
        · exact (nt c _ hc).1
      · rcases hc with rfl | hc
        · exact (nt c u q).2
        · exact (nt c _ hc).2
theorem turn_enum {P:Program} {w:World} {K:PySem.W.Frag} {es:List Expr} {k:Nat} {pos:Pos} (a e it:Addr) (hei:e≠it) :
    Turn P w K (.Tuple es k pos) (Ite K a) [e,it] e (fun i h=>(∃ old,IsEnum h e it i old)∧h.IsListIter it a i) where
  mem:=by simp
  obj:=fun i h st b hb=>by
    obtain ⟨⟨old,he⟩,⟨o,eo,c,d⟩⟩:=st
    rcases List.mem_cons.mp hb with rfl | hb
    · exact ⟨_,he,fun v z=>by
        have z':Data.fields _=Data.cell v:=z
        cases z'⟩
    · rw [List.mem_singleton.mp hb]; exact ⟨o,eo,fun v z=>by rw [d] at z; cases z⟩
  keep:=fun i h h' st kk=>by
    obtain ⟨⟨old,he⟩,st⟩:=st
    exact ⟨⟨old,kk e (by simp) _ he⟩,st.at fun o z=>kk it (by simp) o z⟩
  item:=by
    intro X hP hw hK hc i pins s σ H E I hf st hg
    subst hP hw hK
    obtain ⟨⟨old,he⟩,st⟩:=st
    obtain ⟨xs,x,hq,hx⟩:=hg
    obtain ⟨its,rv,p,hz⟩:=I.list hq
    obtain ⟨u,hu,ru⟩:=rv.get hx
    have fe:=hf e (by simp)
    have fi:=hf it (by simp)
    refine wpAny_pyNext_enum_item he st p.isList (x:=u) (by simpa using hu) hei fun h' he' st' ht hz' kk=>?_
    refine ⟨_,rfl,?_⟩
    have ltE:e < s.heap.objs.size:=Heap.lt_size he
    have hn:H s.heap.objs.size=none:=I.hok.fresh (Nat.le_refl _)
    have I1:Inv X pins σ (upd H s.heap.objs.size (.tup [.int i,x])) { s with heap:=h',toks:=s.toks+1 }:=by
      refine enum_step I fe fi kk ⟨_,he'⟩ (let ⟨o,eo,_⟩:=st'; ⟨o,eo⟩) ⟨?_,[.int i s.toks,u],.cons ⟨_,rfl⟩ (.cons ru .nil),⟨_,ht,rfl,_,rfl⟩⟩
      show 2≤sizeLine
      decide
    refine wpAny_letOwnedTupleGo_enum (s:={ s with heap:=h',toks:=s.toks+1 }) he' fun h2 he2 sb=>?_
    have neE:e≠s.heap.objs.size:=Nat.ne_of_lt ltE
    have fe2:(upd H s.heap.objs.size (.tup [.int i,x])) e=none:=by rw [upd_ne neE]; exact fe.1
    have I2:Inv X pins σ (upd H s.heap.objs.size (.tup [.int i,x])) { ({ s with heap:=h',toks:=s.toks+1 }:Shared) with heap:=h2,toks:=s.toks+1 } :=
      I1.turned (t':=s.toks+1) (it:=e) (fun b o hb z=>(sb.2 b hb).trans z) fe2 fe.2.1 fe.2.2.2.1 fe.2.2.2.2.1 fe.2.2.2.2.2
    obtain ⟨oi,hoi,_⟩:=id st
    have ltI:it < s.heap.objs.size:=Heap.lt_size hoi
    refine ⟨.ref s.heap.objs.size,_,I2,rfl,⟨_,x,fun ys hy=>by rw [I.list_inj hy hq]; exact hx,rfl,hn,rfl⟩,⟨⟨u,?_⟩,?_⟩,fun b hb=>?_⟩
    · have e1:((i+1:Nat):Int)=(i:Int)+1:=by push_cast; rfl
      rw [e1]; exact he2
    · exact st'.at fun o z=>(sb.2 it (Ne.symm hei)).trans z
    · rcases List.mem_cons.mp hb with rfl | hb
      · exact fe2
      · rw [List.mem_singleton.mp hb,upd_ne (Nat.ne_of_lt ltI)]; exact fi.1
  done:=by
    intro X hP hw hK hc i pins s σ H E I hf st hg
    subst hP hw hK
    obtain ⟨⟨old,he⟩,st⟩:=st
    obtain ⟨xs,hq,hx⟩:=hg
    obtain ⟨its,rv,p,hz⟩:=I.list hq
    obtain ⟨f0,f1,f2,f3,f4,f5⟩:=hf it (by simp)
    have hl:=rv.length
    exact wpAny_pyNext_enum_end (I.ok.hd hc) he st p.isList (by simp; omega) fun h' eb=>⟨rfl,I.turned (t':=s.toks) (fun b o hb z=>eb b o hb z) f0 f1 f3 f4 f5⟩
  self:=fun _ _ _ _ _ st h=>by
    obtain ⟨⟨old,he⟩,_⟩:=st
    exact wpAny_pyIter_enum he h
def iEnum (K:PySem.W.Frag) (ta:TA):TI:=fun σ H R=>ta σ H fun vs H1=>∃ a,vs=[.ref a]∧(∃ xs,SqL K H1 a xs)∧R (Ite K a) H1
section
variable {X:Cx}
theorem pi_enum {a:Expr} {es:List Expr} {k:Nat} {tpos:Pos} {ta:TA} {p pos:Pos} (hg:Gl X "enumerate") (hm:X.mg "enumerate"=none) (ha:PA X [a] ta) (hs:starEach [a] X.env=[(false,eval a X.env)]:=by rfl) :
    PI X (.Tuple es k tpos) (.Call (.Name "enumerate" p) [a] [] pos) (iEnum X.K ta):=by
  intro pins s σ H R I h
  refine Call_ (ld_blt I hg hm boot_enumerate (PyProof.Rows.callWith_type1 (thn (ha pos pins s σ H _ I h) fun us s1 ⟨vs,H1,I1,r1,q1⟩=>?_) hs rfl))
  obtain ⟨b,e,⟨xs,hq⟩,q⟩:=q1
  subst e
  cases r1 with
  | cons r rr =>
    cases rr
    cases r
    obtain ⟨its,rv,pl,hz⟩:=I1.list hq
    refine call_enumerate_list pl.isList fun h' he hit hsz hk=>?_
    have I2:Inv X pins σ H1 { s1 with heap:=h' }:=I1.kept (t':=s1.toks) hk
    refine wpAny_pyIter_enum (s:={ s1 with heap:=h' }) he ?_
    refine ⟨s1.heap.objs.size+1,[s1.heap.objs.size+1,s1.heap.objs.size],_,_,H1,rfl,I2,turn_enum b _ _ (Nat.succ_ne_self _),⟨⟨_,he⟩,hit⟩,fun c hc=>?_,q⟩
    rcases List.mem_cons.mp hc with rfl | hc
    · exact I1.fpOk (Nat.le_succ _) (I1.hok.fresh (Nat.le_succ _))
    · rw [List.mem_singleton.mp hc]; exact I1.fpOk (Nat.le_refl _) (I1.hok.fresh (Nat.le_refl _))
end
theorem for_enum {K:PySem.W.Frag} {a:Addr} {xs:List V} {g:TG} {tb:TS} {D:Ends} {σ:St} {H:Hp} (Pv:Nat→St→Hp→Prop) (h0:Pv 0 σ H) (hl:∀ i σ H,i≤xs.length→Pv i σ H→SqL K H a xs)
    (hs:∀ i x σ H t,xs[i]?=some x→Pv i σ H→H t=none→g (.ref t) σ (upd H t (.tup [.int i,x])) fun σ2 H2=>tb { D with nx:=Pv (i+1),ct:=Pv (i+1),bk:=D.nx } σ2 H2) (hd:∀ σ H,Pv xs.length σ H→D.nx σ H) :
    ∃ W:Nat→Nat→St→Hp→Prop,(∃ m,W 0 m σ H)∧∀ i m σ H,W i m σ H →
      ((Ite K a).stop i H∧D.nx σ H)∨((Ite K a).go i H∧∃ N:St→Hp→Prop,(∀ σ' H',N σ' H'→∃ m',m' < m∧W (i+1) m' σ' H')∧∀ x H',(Ite K a).yld i H x H'→g x σ H' fun σ2 H2=>tb { D with nx:=N,ct:=N,bk:=D.nx } σ2 H2):=by
  refine ⟨fun i m σ H=>m=xs.length - i∧i≤xs.length∧Pv i σ H,⟨xs.length,by simp,Nat.zero_le _,h0⟩,?_⟩
  rintro i m σ H ⟨rfl,hi,p⟩
  have q:=hl i σ H hi p
  by_cases hlt:i < xs.length
  · refine .inr ⟨⟨xs,xs[i],q,by simp [hlt]⟩,Pv (i+1),fun σ' H' p'=>⟨xs.length - (i+1),by omega,rfl,hlt,p'⟩,fun x H' y=>?_⟩
    obtain ⟨t,z,hz,rfl,ht,rfl⟩:=y
    exact hs i z σ H t (hz xs q) p ht
  · have e:i=xs.length:=by omega
    subst e
    exact .inl ⟨⟨xs,q,Nat.le_refl _⟩,hd σ H p⟩
end L2
namespace L2
open PySem PySem.Spec PyProof.Rows PySem.SeqAt
mutual
inductive D where
  | at (v:V)
  | tup (xs:Ds)
  | lst (xs:Ds)
inductive Ds where
  | nil
  | cons (d:D) (r:Ds)
end
mutual
def DIs (K:PySem.W.Frag) (H:Hp):D→V→Prop
  | .at u,v=>v=u∧flatV u=true
  | .tup ds,v=>∃ a xs,v=.ref a∧SqT K H a xs∧DIss K H ds xs
  | .lst ds,v=>∃ a xs,v=.ref a∧SqL K H a xs∧DIss K H ds xs
def DIss (K:PySem.W.Frag) (H:Hp):Ds→List V→Prop
  | .nil,xs=>xs=[]
  | .cons d r,xs=>∃ x ys,xs=x :: ys∧DIs K H d x∧DIss K H r ys
end
mutual
def dep:D→Nat
  | .at _=>0
  | .tup ds=>deps ds+1
  | .lst ds=>deps ds+1
def deps:Ds→Nat
  | .nil=>0
  | .cons d r=>max (dep d) (deps r)
end
mutual
def deq:D→D→Bool
  | .at u,.at v=>eqV u v
  | .tup xs,.tup ys=>deqs xs ys
  | .lst xs,.lst ys=>deqs xs ys
  | _,_=>false
def deqs:Ds→Ds→Bool
  | .nil,.nil=>true
  | .cons d r,.cons e q=>deq d e && deqs r q
  | _,_=>false
end
def Ds.len:Ds→Nat
  | .nil=>0
  | .cons _ r=>r.len+1
def Ds.get:Ds→Nat→D
  | .nil,_=>.at .non
  | .cons d _,0=>d
  | .cons _ r,i+1=>r.get i
theorem deqs_all:∀ (ds es:Ds),((List.range (min ds.len es.len)).all (fun j=>deq (ds.get j) (es.get j)) && ds.len == es.len)=deqs ds es
  | .nil,.nil=>rfl
  | .nil,.cons e q=>by simp [Ds.len,deqs]
  | .cons d r,.nil=>by simp [Ds.len,deqs]
  | .cons d r,.cons e q=>by
    have ih:=deqs_all r q
    rw [show deqs (.cons d r) (.cons e q)=(deq d e && deqs r q) from by rw [deqs],← ih]
    show ((List.range (min (r.len+1) (q.len+1))).all _ && (r.len+1 == q.len+1))=_
    rw [show min (r.len+1) (q.len+1)=min r.len q.len+1 by omega,List.range_succ_eq_map,List.all_cons,List.all_map,Bool.and_assoc]
    congr 1
    rw [show (r.len+1 == q.len+1)=(r.len == q.len) by simp]
    rfl
mutual
theorem deq_refl:∀ {K:PySem.W.Frag} {H:Hp} (d:D) {v:V},DIs K H d v→deq d d=true
  | _,_,.at u,v,h=>by
    obtain ⟨_,hf⟩:=(show v=u∧flatV u=true by simpa [DIs] using h)
    rw [deq]
    cases u <;> simp_all [flatV,eqV]
  | _,_,.tup ds,v,h=>by
    rw [DIs] at h
    obtain ⟨a,xs,_,_,q⟩:=h
    rw [deq]; exact deqs_refl ds q
  | _,_,.lst ds,v,h=>by
    rw [DIs] at h
    obtain ⟨a,xs,_,_,q⟩:=h
    rw [deq]; exact deqs_refl ds q
theorem deqs_refl:∀ {K:PySem.W.Frag} {H:Hp} (ds:Ds) {xs:List V},DIss K H ds xs→deqs ds ds=true
  | _,_,.nil,_,_=>by rw [deqs]
  | _,_,.cons d r,xs,h=>by
    rw [DIss] at h
    obtain ⟨x,ys,_,h1,h2⟩:=h
    rw [deqs,deq_refl d h1,deqs_refl r h2]; rfl
end
theorem DIss.len {K:PySem.W.Frag} {H:Hp}:∀ {ds:Ds} {xs:List V},DIss K H ds xs→ds.len=xs.length
  | .nil,xs,h=>by rw [DIss] at h; rw [h]; rfl
  | .cons d r,xs,h=>by
    rw [DIss] at h
    obtain ⟨x,ys,rfl,_,h2⟩:=h
    show r.len+1=ys.length+1
    rw [DIss.len h2]
theorem DIss.get {K:PySem.W.Frag} {H:Hp}:∀ {ds:Ds} {xs:List V} {i:Nat} {x:V},DIss K H ds xs→xs[i]?=some x→DIs K H (ds.get i) x
  | .nil,xs,i,x,h,e=>by rw [DIss] at h; rw [h] at e; simp at e
  | .cons d r,xs,i,x,h,e=>by
    rw [DIss] at h
    obtain ⟨y,ys,rfl,h1,h2⟩:=h
    cases i with
    | zero=>simp at e; subst e; exact h1
    | succ i =>
      show DIs K H (r.get i) x
      exact DIss.get h2 (by simpa using e)
theorem dep_get:∀ (ds:Ds) (i:Nat),i < ds.len→dep (ds.get i)≤deps ds
  | .nil,i,h=>absurd h (by simp [Ds.len])
  | .cons d r,0,_=>by show dep d≤_; rw [deps]; omega
  | .cons d r,i+1,h=>by
    have:=dep_get r i (by simpa [Ds.len] using h)
    show dep (r.get i)≤_
    rw [deps]; omega
section
variable {X:Cx} {pins:List (Addr × Obj)} {σ:St} {H:Hp} {s:Shared}
mutual
theorem DIs.inj (I:Inv X pins σ H s):∀ {d e:D} {v:V},DIs X.K H d v→DIs X.K H e v→d=e
  | .at u,.at w',v,h,h'=>by
    rw [DIs] at h
    rw [DIs] at h'
    rw [← h.1,← h'.1]
  | .at u,.tup ds,v,h,h'=>by
    rw [DIs] at h
    rw [DIs] at h'
    obtain ⟨a,xs,e,_⟩:=h'
    have:=h.2
    rw [← h.1,e] at this
    cases this
  | .at u,.lst ds,v,h,h'=>by
    rw [DIs] at h
    rw [DIs] at h'
    obtain ⟨a,xs,e,_⟩:=h'
    have:=h.2
    rw [← h.1,e] at this
    cases this
  | .tup ds,.at u,v,h',h=>by
    rw [DIs] at h
    rw [DIs] at h'
    obtain ⟨a,xs,e,_⟩:=h'
    have:=h.2
    rw [← h.1,e] at this
    cases this
  | .lst ds,.at u,v,h',h=>by
    rw [DIs] at h
    rw [DIs] at h'
    obtain ⟨a,xs,e,_⟩:=h'
    have:=h.2
    rw [← h.1,e] at this
    cases this
  | .tup ds,.tup es,v,h,h'=>by
    rw [DIs] at h
    rw [DIs] at h'
    obtain ⟨a,xs,rfl,h1,h2⟩:=h
    obtain ⟨b,ys,e,k1,k2⟩:=h'
    cases e
    have e:=I.tuple_inj h1 k1
    subst e
    rw [DIss.inj I h2 k2]
  | .lst ds,.lst es,v,h,h'=>by
    rw [DIs] at h
    rw [DIs] at h'
    obtain ⟨a,xs,rfl,h1,h2⟩:=h
    obtain ⟨b,ys,e,k1,k2⟩:=h'
    cases e
    have e:=I.list_inj h1 k1
    subst e
    rw [DIss.inj I h2 k2]
  | .tup ds,.lst es,v,h,h'=>by
    rw [DIs] at h
    rw [DIs] at h'
    obtain ⟨a,xs,rfl,h1,h2⟩:=h
    obtain ⟨b,ys,e,k1,k2⟩:=h'
    cases e
    obtain ⟨_,_,t1,_⟩:=I.tuple h1
    obtain ⟨_,_,t2,_⟩:=I.list k1
    exact absurd rfl (ne_of_list_tuple t2.isList (show s.heap.IsTuple a _ from t1))
  | .lst ds,.tup es,v,h,h'=>by
    rw [DIs] at h
    rw [DIs] at h'
    obtain ⟨a,xs,rfl,h1,h2⟩:=h
    obtain ⟨b,ys,e,k1,k2⟩:=h'
    cases e
    obtain ⟨_,_,t1,_⟩:=I.tuple k1
    obtain ⟨_,_,t2,_⟩:=I.list h1
    exact absurd rfl (ne_of_list_tuple t2.isList (show s.heap.IsTuple a _ from t1))
theorem DIss.inj (I:Inv X pins σ H s):∀ {ds es:Ds} {xs:List V},DIss X.K H ds xs→DIss X.K H es xs→ds=es
  | .nil,.nil,xs,h,h'=>rfl
  | .nil,.cons d r,xs,h,h'=>by
    rw [DIss] at h
    rw [DIss] at h'
    obtain ⟨x,ys,e,_⟩:=h'
    rw [h] at e; cases e
  | .cons d r,.nil,xs,h',h=>by
    rw [DIss] at h
    rw [DIss] at h'
    obtain ⟨x,ys,e,_⟩:=h'
    rw [h] at e; cases e
  | .cons d r,.cons e q,xs,h,h'=>by
    rw [DIss] at h
    rw [DIss] at h'
    obtain ⟨x,ys,rfl,h1,h2⟩:=h
    obtain ⟨y,zs,e',k1,k2⟩:=h'
    cases e'
    rw [DIs.inj I h1 k1,DIss.inj I h2 k2]
end
theorem flat_tup {A:Around} {u:V} {x:Value} {l:Addr} {items:Array Value} (r:RelV u x) (f:flatV u=true) (hl:s.heap.IsTuple l items) (hu:A.units < cLine):EqAt A s x (.ref l) false∧EqAt A s (.ref l) x false:=by
  cases u with
  | non=>cases r; exact ⟨.none_tuple hl hu,.tuple_none hl hu⟩
  | bl b=>cases r; exact ⟨.bool_tuple b hl hu,.tuple_bool b hl hu⟩
  | int b=>obtain ⟨t,rfl⟩:=r; exact ⟨.int_tuple b t hl hu,.tuple_int b t hl hu⟩
  | str b=>obtain ⟨t,rfl⟩:=r; exact ⟨.str_tuple b t hl hu,.tuple_str b t hl hu⟩
  | _=>exact absurd (show false=true from f) Bool.false_ne_true
theorem flat_lst {A:Around} {u:V} {x:Value} {l:Addr} {items:Array Value} (r:RelV u x) (f:flatV u=true) (hl:s.heap.IsList l items) (hu:A.units < cLine):EqAt A s x (.ref l) false∧EqAt A s (.ref l) x false:=by
  cases u with
  | non=>cases r; exact ⟨.none_list hl hu,.list_none hl hu⟩
  | bl b=>cases r; exact ⟨.bool_list b hl hu,.list_bool b hl hu⟩
  | int b=>obtain ⟨t,rfl⟩:=r; exact ⟨.int_list b t hl hu,.list_int b t hl hu⟩
  | str b=>obtain ⟨t,rfl⟩:=r; exact ⟨.str_list b t hl hu,.list_str b t hl hu⟩
  | _=>exact absurd (show false=true from f) Bool.false_ne_true
theorem eqAt_D (I:Inv X pins σ H s):∀ (n:Nat) (A:Around) (d e:D) (x y:V) (u v:Value),dep d≤n→DIs X.K H d x→DIs X.K H e y→RelV x u→RelV y v→A.units+n < cLine→EqAt A s u v (deq d e):=by
  intro n
  induction n with
  | zero =>
    intro A d e x y u v hn hd he rx ry hu
    cases d with
    | tup ds=>rw [dep] at hn; omega
    | lst ds=>rw [dep] at hn; omega
    | «at» p =>
      rw [DIs] at hd
      obtain ⟨rfl,hf⟩:=hd
      cases e with
      | «at» q =>
        rw [DIs] at he
        obtain ⟨rfl,hg⟩:=he
        rw [deq]; exact eqAt_V rx ry hf hg
      | tup es =>
        rw [DIs] at he
        obtain ⟨b,ys,rfl,h1,_⟩:=he
        obtain ⟨_,_,t,_⟩:=I.tuple h1
        cases ry
        rw [deq]
        · exact (flat_tup rx hf (show s.heap.IsTuple b _ from t) hu).1
        all_goals (intros; simp_all)
      | lst es =>
        rw [DIs] at he
        obtain ⟨b,ys,rfl,h1,_⟩:=he
        obtain ⟨_,_,t,_⟩:=I.list h1
        cases ry
        rw [deq]
        · exact (flat_lst rx hf t.isList hu).1
        all_goals (intros; simp_all)
  | succ n ih =>
    intro A d e x y u v hn hd he rx ry hu
    have hu1:A.in1.units+n < cLine:=by show A.units+1+n < cLine; omega
    cases d with
    | «at» p =>
      rw [DIs] at hd
      obtain ⟨rfl,hf⟩:=hd
      cases e with
      | «at» q =>
        rw [DIs] at he
        obtain ⟨rfl,hg⟩:=he
        rw [deq]; exact eqAt_V rx ry hf hg
      | tup es =>
        rw [DIs] at he
        obtain ⟨b,ys,rfl,h1,_⟩:=he
        obtain ⟨_,_,t,_⟩:=I.tuple h1
        cases ry
        rw [deq]
        · exact (flat_tup rx hf (show s.heap.IsTuple b _ from t) (by omega)).1
        all_goals (intros; simp_all)
      | lst es =>
        rw [DIs] at he
        obtain ⟨b,ys,rfl,h1,_⟩:=he
        obtain ⟨_,_,t,_⟩:=I.list h1
        cases ry
        rw [deq]
        · exact (flat_lst rx hf t.isList (by omega)).1
        all_goals (intros; simp_all)
    | tup ds =>
      have hd0:=hd
      rw [dep] at hn
      rw [DIs] at hd
      obtain ⟨a,xs,rfl,h1,h2⟩:=hd
      obtain ⟨i1,r1,t1,_⟩:=I.tuple h1
      cases rx
      cases e with
      | «at» q =>
        rw [DIs] at he
        obtain ⟨rfl,hg⟩:=he
        rw [deq]
        · exact (flat_tup ry hg (show s.heap.IsTuple a _ from t1) (by omega)).2
        all_goals (intros; simp_all)
      | lst es =>
        rw [DIs] at he
        obtain ⟨b,ys,rfl,k1,_⟩:=he
        obtain ⟨_,_,t2,_⟩:=I.list k1
        cases ry
        rw [deq]
        · exact EqAt.tuple_list (show s.heap.IsTuple a _ from t1) t2.isList (by omega)
        all_goals (intros; simp_all)
      | tup es =>
        have he0:=he
        rw [DIs] at he
        obtain ⟨b,ys,rfl,k1,k2⟩:=he
        obtain ⟨i2,r2,t2,_⟩:=I.tuple k1
        cases ry
        by_cases hab:a=b
        · subst hab
          rw [DIs.inj I he0 hd0,deq_refl _ hd0]
          exact EqAt.same _
        · refine EqAt.of_refs hab ?_
          have:=RcAt.tuples (A:=A) (e:=fun j=>deq (ds.get j) (es.get j)) (show s.heap.IsTuple a i1.toArray from t1) (show s.heap.IsTuple b i2.toArray from t2) (by omega) fun j g1 g2=>?_
          · have l1:=r1.length
            have l2:=r2.length
            have m1:=h2.len
            have m2:=k2.len
            rw [List.size_toArray,List.size_toArray,← l1,← l2,← m1,← m2,deqs_all] at this
            rw [deq]; exact this
          · have l1:=r1.length
            have l2:=r2.length
            have m1:=h2.len
            have g1':j < xs.length:=by simp at g1; omega
            have g2':j < ys.length:=by simp at g2; omega
            obtain ⟨u1,e1,q1⟩:=r1.get (List.getElem?_eq_getElem g1')
            obtain ⟨u2,e2,q2⟩:=r2.get (List.getElem?_eq_getElem g2')
            have d1:i1.toArray[j]=u1:=by
              have:i1[j]?=some i1.toArray[j]:=by simp
              rw [e1] at this; exact (Option.some.inj this).symm
            have d2:i2.toArray[j]=u2:=by
              have:i2[j]?=some i2.toArray[j]:=by simp
              rw [e2] at this; exact (Option.some.inj this).symm
            rw [d1,d2]
            exact ih _ _ _ _ _ _ _ (Nat.le_trans (dep_get ds j (by omega)) (by omega)) (h2.get (List.getElem?_eq_getElem g1')) (k2.get (List.getElem?_eq_getElem g2')) q1 q2 hu1
    | lst ds =>
      have hd0:=hd
      rw [dep] at hn
      rw [DIs] at hd
      obtain ⟨a,xs,rfl,h1,h2⟩:=hd
      obtain ⟨i1,r1,t1,_⟩:=I.list h1
      cases rx
      cases e with
      | «at» q =>
        rw [DIs] at he
        obtain ⟨rfl,hg⟩:=he
        rw [deq]
        · exact (flat_lst ry hg t1.isList (by omega)).2
        all_goals (intros; simp_all)
      | tup es =>
        rw [DIs] at he
        obtain ⟨b,ys,rfl,k1,_⟩:=he
        obtain ⟨_,_,t2,_⟩:=I.tuple k1
        cases ry
        rw [deq]
        · exact EqAt.list_tuple t1.isList (show s.heap.IsTuple b _ from t2) (by omega)
        all_goals (intros; simp_all)
      | lst es =>
        have he0:=he
        rw [DIs] at he
        obtain ⟨b,ys,rfl,k1,k2⟩:=he
        obtain ⟨i2,r2,t2,_⟩:=I.list k1
        cases ry
        by_cases hab:a=b
        · subst hab
          rw [DIs.inj I he0 hd0,deq_refl _ hd0]
          exact EqAt.same _
        · refine EqAt.of_refs hab ?_
          have l1:=r1.length
          have l2:=r2.length
          have m1:=h2.len
          have m2:=k2.len
          rw [deq]
          rw [← deqs_all]
          by_cases hz:ds.len=es.len
          · have:=RcAt.lists (A:=A) (e:=fun j=>deq (ds.get j) (es.get j)) t1.isList t2.isList (by simp; omega) (by omega) fun j g1 g2=>?_
            · rw [List.size_toArray,← l1,← m1] at this
              rw [hz,Nat.min_self,beq_self_eq_true,Bool.and_true,← hz]
              exact this
            · have g1':j < xs.length:=by simp at g1; omega
              have g2':j < ys.length:=by simp at g2; omega
              obtain ⟨u1,e1,q1⟩:=r1.get (List.getElem?_eq_getElem g1')
              obtain ⟨u2,e2,q2⟩:=r2.get (List.getElem?_eq_getElem g2')
              have d1:i1.toArray[j]=u1:=by
                have:i1[j]?=some i1.toArray[j]:=by simp
                rw [e1] at this; exact (Option.some.inj this).symm
              have d2:i2.toArray[j]=u2:=by
                have:i2[j]?=some i2.toArray[j]:=by simp
                rw [e2] at this; exact (Option.some.inj this).symm
              rw [d1,d2]
              exact ih _ _ _ _ _ _ _ (Nat.le_trans (dep_get ds j (by omega)) (by omega)) (h2.get (List.getElem?_eq_getElem g1')) (k2.get (List.getElem?_eq_getElem g2')) q1 q2 hu1
          · have e0:(ds.len == es.len)=false:=by simpa using hz
            rw [e0,Bool.and_false]
            exact RcAt.lists_lengths t1.isList t2.isList (by simp; omega) (by omega)
end
section
variable {X:Cx}
theorem eqItems {pins:List (Addr × Obj)} {σ:St} {H:Hp} {s:Shared} (I:Inv X pins σ H s) {A:Around} {ds es:Ds} {xs ys:List V} {i1 i2:List Value} (h2:DIss X.K H ds xs) (k2:DIss X.K H es ys) (r1:Vals xs i1) (r2:Vals ys i2)
    (hu:A.units+60 < cLine) (hd:deps ds≤50):∀ j (g1:j < i1.toArray.size) (g2:j < i2.toArray.size),EqAt A.in1 s i1.toArray[j] i2.toArray[j] (deq (ds.get j) (es.get j)):=fun j g1 g2=>by
  have l1:=r1.length
  have l2:=r2.length
  have m1:=h2.len
  have g1':j < xs.length:=by simp at g1; omega
  have g2':j < ys.length:=by simp at g2; omega
  obtain ⟨u1,e1,q1⟩:=r1.get (List.getElem?_eq_getElem g1')
  obtain ⟨u2,e2,q2⟩:=r2.get (List.getElem?_eq_getElem g2')
  have d1:i1.toArray[j]=u1:=by
    have:i1[j]?=some i1.toArray[j]:=by simp
    rw [e1] at this; exact (Option.some.inj this).symm
  have d2:i2.toArray[j]=u2:=by
    have:i2[j]?=some i2.toArray[j]:=by simp
    rw [e2] at this; exact (Option.some.inj this).symm
  rw [d1,d2]
  exact eqAt_D I 50 _ _ _ _ _ _ _ (Nat.le_trans (dep_get ds j (by omega)) hd) (h2.get (List.getElem?_eq_getElem g1')) (k2.get (List.getElem?_eq_getElem g2')) q1 q2 (by show A.units+1+50 < cLine; omega)
def rEqD (K:PySem.W.Frag) (neg:Bool):R2:=fun x y H Q=>∃ d e,DIs K H d x∧DIs K H e y∧(∃ a,x=.ref a)∧(∃ b,y=.ref b)∧dep d≤50∧Q (.bl (if neg then !deq d e else deq d e)) H
theorem op_eqD {k:Nat} (hr:Room k X.A):OpR X (compareOp .Eq) (rEqD X.K false):=by
  intro pins s σ H x y v u Q I rx ry h
  obtain ⟨d,e,hd,he,⟨a,rfl⟩,⟨b,rfl⟩,hn,q⟩:=h
  cases rx
  cases ry
  have hu:=hr.units
  cases d with
  | «at» p=>rw [DIs] at hd; obtain ⟨rfl,hf⟩:=hd; cases hf
  | tup ds =>
    rw [dep] at hn
    rw [DIs] at hd
    obtain ⟨a',xs,e',h1,h2⟩:=hd
    cases e'
    obtain ⟨i1,r1,t1,_⟩:=I.tuple h1
    cases e with
    | «at» p=>rw [DIs] at he; obtain ⟨rfl,hf⟩:=he; cases hf
    | tup es =>
      rw [DIs] at he
      obtain ⟨b',ys,e',k1,k2⟩:=he
      cases e'
      obtain ⟨i2,r2,t2,_⟩:=I.tuple k1
      refine RcAt.tuples (show s.heap.IsTuple a i1.toArray from t1) (show s.heap.IsTuple b i2.toArray from t2) (by omega) (eqItems I h2 k2 r1 r2 (by omega) (by omega)) _ _ _ _ ⟨.bl _,H,I,?_,q⟩
      show Value.bool _=Value.bool _
      rw [List.size_toArray,List.size_toArray,← r1.length,← r2.length,← h2.len,← k2.len,deqs_all]
      simp only [Bool.false_eq_true,if_false]
      rw [deq]
    | lst es =>
      rw [DIs] at he
      obtain ⟨b',ys,e',k1,k2⟩:=he
      cases e'
      obtain ⟨i2,r2,t2,_⟩:=I.list k1
      refine RcAt.tuple_list (show s.heap.IsTuple a _ from t1) t2.isList (by omega) _ _ _ _ ⟨.bl _,H,I,?_,q⟩
      show Value.bool _=Value.bool _
      simp only [Bool.false_eq_true,if_false]
      rw [deq] <;> (intros; simp_all)
  | lst ds =>
    rw [dep] at hn
    rw [DIs] at hd
    obtain ⟨a',xs,e',h1,h2⟩:=hd
    cases e'
    obtain ⟨i1,r1,t1,_⟩:=I.list h1
    cases e with
    | «at» p=>rw [DIs] at he; obtain ⟨rfl,hf⟩:=he; cases hf
    | tup es =>
      rw [DIs] at he
      obtain ⟨b',ys,e',k1,k2⟩:=he
      cases e'
      obtain ⟨i2,r2,t2,_⟩:=I.tuple k1
      refine RcAt.list_tuple t1.isList (show s.heap.IsTuple b _ from t2) (by omega) _ _ _ _ ⟨.bl _,H,I,?_,q⟩
      show Value.bool _=Value.bool _
      simp only [Bool.false_eq_true,if_false]
      rw [deq] <;> (intros; simp_all)
    | lst es =>
      rw [DIs] at he
      obtain ⟨b',ys,e',k1,k2⟩:=he
      cases e'
      obtain ⟨i2,r2,t2,_⟩:=I.list k1
      have l1:=r1.length
      have l2:=r2.length
      have m1:=h2.len
      have m2:=k2.len
      by_cases hz:ds.len=es.len
      · refine RcAt.lists t1.isList t2.isList (by simp; omega) (by omega) (eqItems I h2 k2 r1 r2 (by omega) (by omega)) _ _ _ _ ⟨.bl _,H,I,?_,q⟩
        show Value.bool _=Value.bool _
        simp only [Bool.false_eq_true,if_false]
        rw [deq,← deqs_all,List.size_toArray,← l1,← m1,hz,Nat.min_self,beq_self_eq_true,Bool.and_true]
      · refine RcAt.lists_lengths t1.isList t2.isList (by simp; omega) (by omega) _ _ _ _ ⟨.bl _,H,I,?_,q⟩
        show Value.bool _=Value.bool _
        have e0:(ds.len == es.len)=false:=by simpa using hz
        simp only [Bool.false_eq_true,if_false]
        rw [deq,← deqs_all,e0,Bool.and_false]
theorem op_neD {k:Nat} (hr:Room k X.A):OpR X (compareOp .NotEq) (rEqD X.K true):=by
  intro pins s σ H x y v u Q I rx ry h
  obtain ⟨d,e,hd,he,⟨a,rfl⟩,⟨b,rfl⟩,hn,q⟩:=h
  cases rx
  cases ry
  have hu:=hr.units
  cases d with
  | «at» p=>rw [DIs] at hd; obtain ⟨rfl,hf⟩:=hd; cases hf
  | tup ds =>
    rw [dep] at hn
    rw [DIs] at hd
    obtain ⟨a',xs,e',h1,h2⟩:=hd
    cases e'
    obtain ⟨i1,r1,t1,_⟩:=I.tuple h1
    cases e with
    | «at» p=>rw [DIs] at he; obtain ⟨rfl,hf⟩:=he; cases hf
    | tup es =>
      rw [DIs] at he
      obtain ⟨b',ys,e',k1,k2⟩:=he
      cases e'
      obtain ⟨i2,r2,t2,_⟩:=I.tuple k1
      refine RcNeAt.tuples (show s.heap.IsTuple a i1.toArray from t1) (show s.heap.IsTuple b i2.toArray from t2) (by omega) (eqItems I h2 k2 r1 r2 (by omega) (by omega)) _ _ _ _ ⟨.bl _,H,I,?_,q⟩
      show Value.bool _=Value.bool _
      rw [List.size_toArray,List.size_toArray,← r1.length,← r2.length,← h2.len,← k2.len,deqs_all]
      simp only [if_true]
      rw [deq]
    | lst es =>
      rw [DIs] at he
      obtain ⟨b',ys,e',k1,k2⟩:=he
      cases e'
      obtain ⟨i2,r2,t2,_⟩:=I.list k1
      refine RcNeAt.tuple_list (show s.heap.IsTuple a _ from t1) t2.isList (by omega) _ _ _ _ ⟨.bl _,H,I,?_,q⟩
      show Value.bool _=Value.bool _
      simp only [if_true]
      rw [deq] <;> first | rfl | (intros; simp_all)
  | lst ds =>
    rw [dep] at hn
    rw [DIs] at hd
    obtain ⟨a',xs,e',h1,h2⟩:=hd
    cases e'
    obtain ⟨i1,r1,t1,_⟩:=I.list h1
    cases e with
    | «at» p=>rw [DIs] at he; obtain ⟨rfl,hf⟩:=he; cases hf
    | tup es =>
      rw [DIs] at he
      obtain ⟨b',ys,e',k1,k2⟩:=he
      cases e'
      obtain ⟨i2,r2,t2,_⟩:=I.tuple k1
      refine RcNeAt.list_tuple t1.isList (show s.heap.IsTuple b _ from t2) (by omega) _ _ _ _ ⟨.bl _,H,I,?_,q⟩
      show Value.bool _=Value.bool _
      simp only [if_true]
      rw [deq] <;> first | rfl | (intros; simp_all)
    | lst es =>
      rw [DIs] at he
      obtain ⟨b',ys,e',k1,k2⟩:=he
      cases e'
      obtain ⟨i2,r2,t2,_⟩:=I.list k1
      have l1:=r1.length
      have l2:=r2.length
      have m1:=h2.len
      have m2:=k2.len
      by_cases hz:ds.len=es.len
      · refine RcNeAt.lists t1.isList t2.isList (by simp; omega) (by omega) (eqItems I h2 k2 r1 r2 (by omega) (by omega)) _ _ _ _ ⟨.bl _,H,I,?_,q⟩
        show Value.bool _=Value.bool _
        simp only [if_true]
        rw [deq,← deqs_all,List.size_toArray,← l1,← m1,hz,Nat.min_self,beq_self_eq_true,Bool.and_true]
      · refine RcNeAt.lists_lengths t1.isList t2.isList (by simp; omega) (by omega) _ _ _ _ ⟨.bl _,H,I,?_,q⟩
        show Value.bool _=Value.bool _
        have e0:(ds.len == es.len)=false:=by simpa using hz
        simp only [if_true]
        rw [deq,← deqs_all,e0,Bool.and_false]; rfl
end
end L2
namespace L2
open PySem PySem.Spec PyProof.Rows
section
variable {X:Cx} {e st:Expr} {te ts:TE} {pos p2:Pos}
end
end L2
namespace L2
open PySem PySem.Spec PyProof.Rows
structure MkOk (P:Program) (w:World) (K:PySem.W.Frag) (mg:Str→Option Value) (base:Heap) (k:Nat) (x:Str) (C:Addr) (ps:List Str) (sp:Sp):Prop where
  ex:∃ (f:Addr) (fd:FuncData),Mk K C f∧FnOk P w K mg base CX0 k f fd ps sp∧mg x=some (.ref C)∧Binds K fd ps []
section
variable {X:Cx} {k j:Nat} {x m:Str} {C:Addr} {ps:List Str} {sp:Sp} {p pos apos:Pos} {e o:Expr} {es:List Expr} {t:TA} {ta:TE}
theorem pe_mk (D:MkOk X.prog X.w X.K X.mg X.base k x C ps sp) (hr:Room j X.A) (ha:PA X (e :: es) t) (hj:k+1≤j:=by decide) (hg:Gl X x:=by rfl) (hdb:(x == ("__debug__":Str))=false:=by decide)
    (he:starEach (e :: es) X.env=(false,eval e X.env) :: starEach es X.env:=by rfl) (hpl:(backTo pos (starEach es X.env)).any (·.1)=false:=by rfl):PE X (.Call (.Name x p) (e :: es) [] pos) (tMake C sp [] E0 t):=by
  obtain ⟨f,fd,M,F,hm,hb⟩:=D.ex
  exact pe_make M F (hr.mono hj) hg hm hb .nil pass0 ha hdb he hpl
end
section
variable {X:Cx} {K:PySem.W.Frag} {pos:Pos}
theorem pg_tupK {es:List Expr} {k:Nat} {t:TGs} {n:Nat} (hc:X.calm=true) (h:PGs X es t) (hK:X.K=K:=by rfl)
    (hn:(assignEach es X.env).length=n:=by rfl) (hst:(assignEach es X.env).findIdx? (·.1)=none:=by rfl):PG X (.Tuple es k pos) (gTup K n t):=by
  subst hK; exact pg_tup hc h hn hst
end
end L2
namespace GB
open PySem L2
def key:List Int→Int
  | [a,b,c,d]=>((a * 13+b) * 13+c) * 13+d
  | _=>0
end GB
namespace L2
open PySem PySem.Spec PyProof.Rows
section
variable {prog:Program} {w:World} {A:Around} {E:Value→Shared→Prop} {h:Heap} {g:Array GenState} {d:Drawn} {t:Nat} {os:OsState}
  {nm qn:Str} {C N:Addr} {bs bm bmB:List Value} {hdct:Bool} {sn:List Str} {sub:List Value} {ab:Bool} {col:Option Bool} {dd:Option Addr} {k0 k1 k2 k3 k5:Option Value} {B newId initId:String}
def rawExc (h:Heap) (C:Addr) (rest:List Value):Heap:=(h.push { cls:=.type "tuple",data:=.seq rest.toArray }).push { cls:=.ref C,data:=.fields #[.ref h.objs.size,.none,.none,.none,.bool false,.none] }
theorem rawExc_keep {C:Addr} {rest:List Value} {b:Addr} {o:Obj} (e:h.get? b=some o):(rawExc h C rest).get? b=some o:=Heap.get?_push_of_some _ (Heap.get?_push_of_some _ e)
theorem rawExc_at (C:Addr) (rest:List Value):(rawExc h C rest).get? (h.objs.size+1)=some { cls:=.ref C,data:=.fields #[.ref h.objs.size,.none,.none,.none,.bool false,.none] }:=by
  unfold rawExc; heap_get
theorem type_call_excT (F:ExcBaseFacts B newId initId bmB) (T:OwnTail h bmB bm) {mN:Str→Option Value} {rest:List Value} {fI:Addr} {oI:Obj} {Q:Fin→Shared→Prop}
    (hC:h.get? C=some (excClassObj nm qn C N bs bm hdct sn sub ab col dd k0 k1 k2 k3 k5 newId)) (hn:h.Ns N mN) (hi:mN "__init__"=some (.ref fI)) (hfI:h.get? fI=some oI) (hfc:oI.cls=.type "function") (hrest:rest.length≤sizeLine)
    (hq:wpAny (model prog w) A (call (.ref fI) (.ref (h.objs.size+1) :: rest)) (fun r s'=>r=.none∧Q (.done (.ret (.ref (h.objs.size+1)))) s') E ⟨rawExc h C rest,g,d,t,os⟩) :
    wpAny (model prog w) A (Builtin.«type.__call__» ⟨.ref C :: rest,[]⟩) Q E ⟨h,g,d,t,os⟩:=by
  repeat (first | with_reducible refine wpAny_loadPart_at hC ?_ | with_reducible refine wpAny_madeBy_exc hC ?_ | wp_step)
  refine codeAny_call_builtin_code (Code.quiet_builtin _ F.quiet) (wpAny_check_new_subT F T hC (codeAny_exc_new_subT F T hC ?_ hrest))
  show wpAny _ _ _ _ _ ⟨rawExc h C rest,g,d,t,os⟩
  have c1:(rawExc h C rest).get? C=_:=rawExc_keep hC
  have n1:(rawExc h C rest).Ns N mN:=let ⟨o,es,ep,e,r⟩:=hn; ⟨o,es,ep,rawExc_keep e,r⟩
  have e1:=rawExc_at (h:=h) C rest
  have T1:OwnTail (rawExc h C rest) bmB bm:=T.keeps fun _ _ e=>rawExc_keep e
  have cc:(Value.ref C :: bm).contains (.ref C)=true:=by simp
  unfold isInstance
  repeat (first | with_reducible refine wpAny_loadPart_at e1 ?_ | (with_reducible refine wpAny_isSubtype_exc c1 ?_; rw [cc]) | wp_step)
  show wpAny _ _ (typeLookup (.ref C) _) _ _ _
  refine wpAny_typeLookup_tail c1 n1 T1 F.mroIs F.init.lookup ?_
  rw [hi]
  refine wpAny_holding (wpAny_bind ?_)
  unfold bindSpecial
  refine wpAny_bind (wpAny_typeOf (T:="function") ⟨_,rawExc_keep hfI,hfc⟩ ?_)
  rw [if_pos (by decide)]
  refine wpAny_pure (wpAny_bind (wpAny_mono hq (fun r s' hr=>?_) fun _ _ x=>x))
  obtain ⟨rfl,hQ⟩:=hr
  wp_walk
  exact hQ
theorem call_excT (F:ExcBaseFacts B newId initId bmB) (T:OwnTail h bmB bm) {mN:Str→Option Value} {rest:List Value} {fI:Addr} {oI:Obj} {Q:Value→Shared→Prop}
    (hC:h.get? C=some (excClassObj nm qn C N bs bm hdct sn sub ab col dd k0 k1 k2 k3 k5 newId)) (hn:h.Ns N mN) (hi:mN "__init__"=some (.ref fI)) (hfI:h.get? fI=some oI) (hfc:oI.cls=.type "function") (hrest:rest.length≤sizeLine)
    (hq:wpAny (model prog w) (A.under (.builtin "type.__call__" ⟨.ref C :: rest,[]⟩)) (call (.ref fI) (.ref (h.objs.size+1) :: rest)) (fun r s'=>r=.none∧Q (.ref (h.objs.size+1)) s') E ⟨rawExc h C rest,g,d,t,os⟩) :
    wpAny (model prog w) A (call (.ref C) rest) Q E ⟨h,g,d,t,os⟩:=by
  have l1:=tc_lookup
  have l2:=tc_bind (.ref C)
  have ty:(⟨h,g,d,t,os⟩:Shared).TypeIs (.ref C) "type":=⟨_,hC,rfl⟩
  refine wpAny_call (codeAny_of_tree ?_)
  show wpAny _ _ (callAny (.ref C) _) _ _ _
  repeat (any_goals (first | assumption | with_reducible refine wpAny_loadPart_at hC ?_ | wp_step))
  exact ⟨rfl,codeAny_call_builtin_at (Code.quiet_builtin _ (by decide +kernel)) entry_typeCall (wpAny_check_type_call_sub hC (type_call_excT F T hC hn hi hfI hfc hrest hq))⟩
end
end L2
namespace L2
open PySem PySem.Spec PyProof.Rows PySem.W PySem.Builtin PySem.Builtin.ObjectAttr
def vErr:List Value:=[.type "ValueError",.type "Exception",.type "BaseException",.type "object"]
def excMro:List Value→Bool
  | []=>false
  | x :: r=>(match x with | .ref _=>excMro r | _=>false) || (x :: r == vErr)
theorem refuse_exc (self:Value):∀ {l:List Value},excMro l=true→refuseLoop self "__setattr__" l=pure ()
  | [],e=>by cases e
  | x :: r,e=>by
    unfold excMro at e
    rw [Bool.or_eq_true] at e
    rcases e with e | e
    · cases x <;> first | (rw [refuseLoop_ref]; exact refuse_exc self e) | cases e
    · rw [show x :: r=vErr from beq_iff_eq.mp e]
      exact PySem.F.store_ValueError.passes self
theorem exc_has {T:String} (hT:vErr.contains (.type T)=true):∀ {l:List Value},excMro l=true→l.contains (.type T)=true
  | [],e=>by cases e
  | x :: r,e=>by
    unfold excMro at e
    rw [Bool.or_eq_true] at e
    rcases e with e | e
    · cases x <;> first | (rw [List.contains_cons,exc_has hT e,Bool.or_true]) | cases e
    · rw [show x :: r=vErr from beq_iff_eq.mp e]; exact hT
def excIn (K:Frag) (C:Addr):Bool:=(clsIn K C).any fun cd=>excMro cd.mro
section
variable {prog:Program} {w:World} {A:Around} {E:Value→Shared→Prop} {R:Result→Shared→Prop} {s:Shared} {K:Frag} {x C:Addr} {ox:Obj} {od:Option Obj} {name:Str} {tk:Tok} {v:Value}
theorem osa_exc (X:K.In s.heap) (I:InstAt s.heap x ox C od) (hp:excIn K C=true) (ht:findIn K (.ref C) name=some none)
    (h:wpAny (model prog w) A.in1 (storeInOwnDict (.ref x) (.ref C) (.str name tk) name v false)
      (fun fin s'=>match fin with | .done f=>R (.ok f) s' | .again c'=>c'.quiet=true∧codeAny (model prog w) A c' R s') (fun e s'=>R (.error e) s') s) :
    codeAny (model prog w) A (.call (.builtin "object.__setattr__") ⟨[.ref x,.str name tk,v],[]⟩) R s:=by
  have SF:=PySem.F.store_object
  obtain ⟨cd,hc,ho⟩:=any_some hp
  have ne:cd.mro.isEmpty=false:=by cases q:cd.mro with | nil=>rw [q] at ho; cases ho | cons _ _=>rfl
  have tO:Looks (model prog w) s.heap (isInstance (.ref x) (.type "object")) true:=I.type.andThen (looks_mroIn X (by
    unfold mroIn
    rw [hc,Option.bind_some,ne]
    show some (cd.mro.contains (.type "object"))=some true
    rw [exc_has (by decide +kernel) ho]))
  have tM:Looks (model prog w) s.heap (mroOf (.ref C)) cd.mro:=(looks_clsIn X hc).andThen .now
  refine codeAny_call_builtin SF.slot.plain SF.entry (@check_slot (model prog w) _ _ s "object.__setattr__" "object" "__setattr__" (.ref x) [.str name tk,v] [] _ SF.kind SF.split tO (SF.args (.ref x) (.str name tk) v) ?_)
  rw [osa_eq,refuse_eq]
  refine wpAny_bind (wpAny_bind (I.type.here (wpAny_bind (tM.here ?_))))
  rw [refuse_exc _ ho]
  exact wpAny_pure (wpAny_bind (I.type.here (wpAny_bind ((looks_findIn X ht).here (wpAny_bind (wpAny_pure h))))))
theorem set_exc0 {vs:Array Value} {sl:Array (Option Value)} {Q:Unit→Shared→Prop} (X:K.In s.heap) (hx:s.heap.get? x=some ⟨.ref C,none,.fields vs,sl⟩) (hs:findIn K (.ref C) "__setattr__"=some (some (.builtin "object.__setattr__")))
    (hp:excIn K C=true) (hh:hasDictIn K C=true) (ht:findIn K (.ref C) name=some none)
    (h:∀ h',h'.get? x=some ⟨.ref C,some s.heap.objs.size,.fields vs,sl⟩→h'.Ns1 s.heap.objs.size (fun y=>if y=name then some v else none)→(∀ b o,b≠x→s.heap.get? b=some o→h'.get? b=some o)→Q () { s with heap:=h',toks:=s.toks+2 }) :
    wpAny (model prog w) A (setAttr (.ref x) name v) Q E s:=by
  have I:InstAt s.heap x ⟨.ref C,none,.fields vs,sl⟩ C none:=⟨hx,rfl,rfl,trivial⟩
  obtain ⟨cd,hc,hd'⟩:=any_some hh
  have nx:x≠s.heap.objs.size:=Nat.ne_of_lt (Heap.lt_size hx)
  refine set_plain X I hs (osa_exc (s:={ s with toks:=s.toks+1 }) X I hp ht ?_)
  refine wpAny_bind (wpAny_pure (wpAny_bind (wpAny_bind (wpAny_loadPart hx (wpAny_bind (Looks.here (s:={ s with toks:=s.toks+1 }) (looks_clsIn X hc) ?_))))))
  rw [hd']
  refine wpAny_bind (wpAny_alloc (wpAny_bind (wpAny_update (Heap.get?_push_of_some _ hx) (wpAny_pure ?_))))
  generalize hH:(s.heap.push { cls:=.type "dict",data:=.dict #[] }).update x (fun o=>{ o with dict:=some s.heap.objs.size })=H1
  have hx1:H1.get? x=some ⟨.ref C,some s.heap.objs.size,.fields vs,sl⟩:=by
    rw [← hH]; exact Heap.get?_update_self _ (Heap.get?_push_of_some _ hx) rfl
  have hd1:H1.get? s.heap.objs.size=some { cls:=.type "dict",data:=.dict #[] }:=by
    rw [← hH,Heap.get?_update_ne _ _ _ _ (Ne.symm nx)]; exact Heap.get?_push_size _ rfl
  have hk1:∀ b o,b≠x→s.heap.get? b=some o→H1.get? b=some o:=fun b o hb e=>by
    rw [← hH,Heap.get?_update_ne _ _ _ _ hb]; exact Heap.get?_push_of_some _ e
  have hn1:H1.Ns1 s.heap.objs.size (fun _=>none):=Heap.Ns1.of_empty ⟨_,#[],_,hd1,rfl,fun e he=>absurd he (by simp),fun _=>rfl⟩
  refine wpAny_bind (wpAny_pure (wpAny_bind (wpAny_nsSet1 (s:={ s with heap:=H1,toks:=s.toks+1 }) hn1 fun h' hn2 hs2=>?_)))
  obtain ⟨oD,esD,epD,hoD,hdD,hcD⟩:=hn2.count (Within.cons name v Within.nil)
  refine wpAny_bind (wpAny_lookBehind hoD (by rw [hdD]; exact pastItsLine_dict (Nat.le_trans hcD (by rw [List.length_cons,List.length_nil,sizeLine_eq]; omega))) ?_)
  exact wpAny_pure (h _ ((hs2.2 _ nx).trans hx1) hn2 fun b o hb e=>(hs2.2 _ (Nat.ne_of_lt (Heap.lt_size e))).trans (hk1 b o hb e))
theorem set_exc {vs:Array Value} {sl:Array (Option Value)} {dx:Addr} {mA:Str→Option Value} {ns:List Str} {Q:Unit→Shared→Prop} (X:K.In s.heap) (hx:s.heap.get? x=some ⟨.ref C,some dx,.fields vs,sl⟩) (hn:s.heap.Ns1 dx mA) (hne:dx≠x)
    (hs:findIn K (.ref C) "__setattr__"=some (some (.builtin "object.__setattr__"))) (hp:excIn K C=true) (hh:hasDictIn K C=true) (ht:findIn K (.ref C) name=some none) (hw:PySem.Within mA ns) (hsz:ns.length≤sizeLine)
    (h:∀ h',h'.get? x=some ⟨.ref C,some dx,.fields vs,sl⟩→h'.Ns1 dx (fun y=>if y=name then some v else mA y)→Heap.SameBut dx s.heap h'→Q () { s with heap:=h',toks:=s.toks+2 }) :
    wpAny (model prog w) A (setAttr (.ref x) name v) Q E s:=by
  obtain ⟨od,ho⟩:∃ o,s.heap.get? dx=some o:=let ⟨o,_,_,e,_⟩:=hn; ⟨o,e⟩
  have I:InstAt s.heap x ⟨.ref C,some dx,.fields vs,sl⟩ C (some od):=⟨hx,rfl,rfl,ho⟩
  obtain ⟨cd,hc,hd'⟩:=any_some hh
  refine set_plain X I hs (osa_exc (s:={ s with toks:=s.toks+1 }) X I hp ht ?_)
  refine wpAny_bind (wpAny_pure (wpAny_bind (wpAny_bind (wpAny_loadPart hx (wpAny_bind (Looks.here (s:={ s with toks:=s.toks+1 }) (looks_clsIn X hc) ?_))))))
  rw [hd']
  refine wpAny_pure (a:=some dx) (wpAny_bind (wpAny_pure (wpAny_bind (wpAny_nsSet1 (s:={ s with toks:=s.toks+1 }) hn fun h' hn2 hs2=>?_))))
  obtain ⟨oD,esD,epD,hoD,hdD,hcD⟩:=hn2.count (Within.cons name v hw)
  refine wpAny_bind (wpAny_lookBehind hoD (by rw [hdD]; exact pastItsLine_dict (Nat.le_trans hcD (by rw [List.length_cons]; omega))) ?_)
  exact wpAny_pure (h _ ((hs2.2 _ (Ne.symm hne)).trans hx) hn2 hs2)
end
end L2
namespace L2
open PySem PySem.Spec PyProof.Rows PySem.W PySem.Builtin PySem.Builtin.ObjectAttr
section
variable {prog:Program} {w:World} {A:Around} {E:Value→Shared→Prop} {R:Result→Shared→Prop} {s:Shared} {K:Frag} {x C:Addr} {ox:Obj} {od:Option Obj} {name:Str} {tk:Tok} {v:Value} {expr:Bool}
end
end L2
namespace L2
open PySem PySem.Spec PyProof.Rows PySem.W
def ExcN (C x:Addr):HO:=.ext fun h=>∃ vs sl,h.get? x=some ⟨.ref C,none,.fields vs,sl⟩∧vs[1]?=some Value.none
def ExcO (C dx x:Addr):HO:=.ext fun h=>∃ vs sl,h.get? x=some ⟨.ref C,some dx,.fields vs,sl⟩∧vs[1]?=some Value.none
def ExcT (C:Addr) (d:Option Addr) (x T:Addr):HO:=.ext fun h=>∃ vs sl,h.get? x=some ⟨.ref C,d,.fields vs,sl⟩∧vs[1]?=some (.ref T)
def ExcD (dx:Addr) (fs:List (Str × V)):HO:=.ext fun h=>∃ mA,h.Ns1 dx mA∧(∀ f,RelO (fs.lookup f) (mA f))∧PySem.Within mA (fs.map (·.1))
section
variable {P:Program} {w:World} {H:Hp} {h:Heap} {x C dx:Addr} {fs:List (Str × V)}
theorem excN_ok {vs:Array Value} {sl:Array (Option Value)} (e:h.get? x=some ⟨.ref C,none,.fields vs,sl⟩) (f:vs[1]?=some Value.none):ObjOk P w H h x (ExcN C x) :=
  ⟨⟨vs,sl,e,f⟩,⟨_,e⟩,fun _ _ ⟨vs,sl,e,f⟩ k=>⟨vs,sl,k _ e,f⟩⟩
theorem excO_ok {vs:Array Value} {sl:Array (Option Value)} (e:h.get? x=some ⟨.ref C,some dx,.fields vs,sl⟩) (f:vs[1]?=some Value.none):ObjOk P w H h x (ExcO C dx x) :=
  ⟨⟨vs,sl,e,f⟩,⟨_,e⟩,fun _ _ ⟨vs,sl,e,f⟩ k=>⟨vs,sl,k _ e,f⟩⟩
theorem excT_ok {d:Option Addr} {T:Addr} {vs:Array Value} {sl:Array (Option Value)} (e:h.get? x=some ⟨.ref C,d,.fields vs,sl⟩) (f:vs[1]?=some (.ref T)):ObjOk P w H h x (ExcT C d x T) :=
  ⟨⟨vs,sl,e,f⟩,⟨_,e⟩,fun _ _ ⟨vs,sl,e,f⟩ k=>⟨vs,sl,k _ e,f⟩⟩
theorem excD_ok {mA:Str→Option Value} (n:h.Ns1 dx mA) (r:∀ f,RelO (fs.lookup f) (mA f)) (wi:PySem.Within mA (fs.map (·.1))):ObjOk P w H h dx (ExcD dx fs) :=
  ⟨⟨mA,n,r,wi⟩,let ⟨o,_,_,e,_⟩:=n; ⟨o,e⟩,fun _ _ ⟨mA,n,r,wi⟩ k=>⟨mA,n.at k,r,wi⟩⟩
end
structure XCls (K:Frag) (C:Addr):Prop where
  ga:findIn K (.ref C) "__getattribute__"=some (some (.builtin "BaseException.__getattribute__"))
  gh:findIn K (.ref C) "__getattr__"=some none
  hd:hasDictIn K C=true
  sa:findIn K (.ref C) "__setattr__"=some (some (.builtin "object.__setattr__"))
  ex:L2.excIn K C=true
  ca:findIn K (.ref C) "__class__"=some (some (.builtin "object.__class__"))
  gn:specialIn K (.builtin "object.__class__") "__get__"=some (some (.builtin "getset_descriptor.__get__"))
  tk:takesIn K (.builtin "object.__class__")=some true
  mo:mroIn K C (.type "object")=some true
def xclsB (K:Frag) (C:Addr):Bool:=(findIn K (.ref C) "__getattribute__" == some (some (.builtin "BaseException.__getattribute__"))) && (findIn K (.ref C) "__getattr__" == some none) && hasDictIn K C && (findIn K (.ref C) "__setattr__" == some (some (.builtin "object.__setattr__"))) && L2.excIn K C &&
  (findIn K (.ref C) "__class__" == some (some (.builtin "object.__class__"))) && (specialIn K (.builtin "object.__class__") "__get__" == some (some (.builtin "getset_descriptor.__get__"))) &&
  (takesIn K (.builtin "object.__class__") == some true) && (mroIn K C (.type "object") == some true)
theorem XCls.of {K:Frag} {C:Addr} (h:xclsB K C=true):XCls K C:=by
  unfold xclsB at h
  simp only [Bool.and_eq_true,beq_iff_eq] at h
  obtain ⟨⟨⟨⟨⟨⟨⟨⟨a,a'⟩,b⟩,c⟩,d⟩,e⟩,f⟩,g⟩,i⟩:=h
  exact ⟨a,a',b,c,d,e,f,g,i⟩
section
variable {X:Cx} {pins:List (Addr × Obj)} {σ:St} {H:Hp} {s:Shared} {a C dx:Addr} {fs:List (Str × V)} {f:Str} {v:V} {A:Around} {E:Value→Shared→Prop}
theorem ext_ne_own {φ:Heap→Prop} {b c:Addr} (h:H b=some (.ext φ)):H b≠some (.own c):=fun e=>by rw [h] at e; cases e
theorem setexc0_ok {y:V} {u:Value} {Q:Unit→Shared→Prop} (I:Inv X pins σ H s) (e:H a=some (ExcN C a)) (c:XCls X.K C) (n:NoAttr X.K C f) (ry:RelV y u)
    (h:∀ s' d,H d=none→Inv X pins σ (upd (upd H d (ExcD d [(f,y)])) a (ExcO C d a)) s'→Q () s'):wpAny (model X.prog X.w) A (setAttr (.ref a) f u) Q E s:=by
  obtain ⟨⟨vs,sl,hx,hv1⟩,_⟩:=(show ObjOk X.prog X.w H s.heap a (ExcN C a) from I.hok a _ e)
  refine set_exc0 I.kIn hx c.sa c.ex c.hd n fun h' h1 h2 k=>?_
  have hn:H s.heap.objs.size=none:=I.hok.fresh (Nat.le_refl _)
  have nea:s.heap.objs.size≠a:=Ne.symm (ne_of_none e hn)
  refine h _ s.heap.objs.size hn ?_
  have e':∀ b o,H b=some o→b≠s.heap.objs.size:=fun b o q=>ne_of_none q hn
  have lt:∀ b o,s.heap.get? b=some o→b≠s.heap.objs.size:=fun b o q=>Nat.ne_of_lt (Heap.lt_size q)
  have na:∀ b o,H b=some o→(∀ φ,o≠.ext φ)→b≠a:=fun b o q z t=>by subst t; rw [e] at q; cases q; exact z _ rfl
  refine I.un (h':=h') (t':=s.toks+2) ⟨fun b o q m _ _=>k b o (fun z=>by rw [z,e] at m; cases m) q,fun b o q m _ _=>⟨o.slots,k b o (fun z=>by rw [z,e] at m; cases m) q⟩,
    fun b o q m _=>by rw [upd_ne (fun z=>by rw [z,e] at m; cases m),upd_ne (lt b o q)]; exact m,fun b o q _=>?_,fun b xs q=>by rw [upd_ne (na b _ q (fun φ z=>by cases z)),upd_ne (e' b _ q)]; exact q,
    fun b o u q=>by rw [upd_ne (na b _ q (fun φ z=>by cases z)),upd_ne (e' b _ q)]; exact q,fun b ps q=>⟨#[],by rw [upd_ne (na b _ q (fun φ z=>by cases z)),upd_ne (e' b _ q),q]; simp⟩⟩ fun b o q=>?_
  · by_cases hb:b=a
    · subst hb; exact ⟨_,h1⟩
    · exact ⟨o,k b o hb q⟩
  · by_cases hb:b=a
    · subst hb; rw [upd_same] at q; cases q; exact excO_ok h1 hv1
    · rw [upd_ne hb] at q
      by_cases hd:b=s.heap.objs.size
      · subst hd; rw [upd_same] at q; cases q
        refine excD_ok h2 (fun g=>?_) fun g hg=>?_
        · show RelO (List.lookup g [(f,y)]) (if g=f then some u else none)
          by_cases q:g=f
          · have hb:(g == f)=true:=beq_iff_eq.mpr q
            rw [if_pos q]; simp only [List.lookup,hb]; exact ry
          · have hb:(g == f)=false:=beq_eq_false_iff_ne.mpr q
            rw [if_neg q]; simp only [List.lookup,hb]; exact True.intro
        · by_cases q:g=f
          · rw [q]; simp
          · exact absurd (if_neg q) hg
      · rw [upd_ne hd] at q
        refine (I.hok b o q).stay (fun cc w' hc z=>k cc w' ?_ z) (fun cc z=>?_) fun cc xs z=>?_
        · rcases hc with rfl | hc
          · exact hb
          · exact fun t=>ext_ne_own e (t ▸ hc)
        · rw [upd_ne (fun t=>ext_ne_own e (t ▸ z)),upd_ne (e' cc _ z)]; exact z
        · rw [upd_ne (na cc _ z (fun φ t=>by cases t)),upd_ne (e' cc _ z)]; exact z
theorem setexc_ok {y:V} {u:Value} {Q:Unit→Shared→Prop} (I:Inv X pins σ H s) (e:H a=some (ExcO C dx a)) (ed:H dx=some (ExcD dx fs)) (c:XCls X.K C) (n:NoAttr X.K C f) (hl:fs.length < 1000) (ry:RelV y u)
    (h:∀ s',Inv X pins σ (upd H dx (ExcD dx (putF f y fs))) s'→Q () s'):wpAny (model X.prog X.w) A (setAttr (.ref a) f u) Q E s:=by
  obtain ⟨⟨vs,sl,hx,_⟩,_⟩:=(show ObjOk X.prog X.w H s.heap a (ExcO C dx a) from I.hok a _ e)
  obtain ⟨⟨mA,hn,r,wi⟩,_⟩:=(show ObjOk X.prog X.w H s.heap dx (ExcD dx fs) from I.hok dx _ ed)
  have hne:dx≠a:=fun z=>by
    subst z
    obtain ⟨o,es,ep,ho,hd,_⟩:=hn
    rw [hx] at ho
    cases ho
    cases hd
  have hz:(fs.map (·.1)).length≤sizeLine:=by rw [List.length_map,sizeLine_eq]; omega
  refine set_exc I.kIn hx hn hne c.sa c.ex c.hd n wi hz fun h' h1 h2 sb=>h _ ?_
  have hd:∃ o,h'.get? dx=some o:=let ⟨o,_,_,e',_⟩:=h2; ⟨o,e'⟩
  refine I.write (x:=dx) (e:=dx) (t':=s.toks+2) (by rw [ed]; exact True.intro) (.inl rfl) (fun b q hb z=>(sb.2 b hb).trans z) hd (excD_ok h2 (fun g=>?_) fun g hg=>?_)
  · show RelO ((putF f y fs).lookup g) (if g=f then some u else mA g)
    rw [lookup_putF]
    by_cases q:g=f
    · rw [if_pos q,if_pos q]; exact ry
    · rw [if_neg q,if_neg q]; exact r g
  · by_cases q:g=f
    · rw [q]; exact (keys_putF f y fs).1
    · refine (keys_putF f y fs).2 g (wi g fun z=>hg ?_)
      show (if g=f then some u else mA g)=none
      rw [if_neg q]; exact z
end
section
variable {X:Cx}
end
def sXFld (K:Frag) (ta tv:TE) (f:Str):TS:=fun D σ H=>tv σ H fun y H1=>ta σ H1 fun x H2=>∃ a C,x=.ref a∧XCls K C∧NoAttr K C f ∧
  ((H2 a=some (ExcN C a)∧∀ d,H2 d=none→D.nx σ (upd (upd H2 d (ExcD d [(f,y)])) a (ExcO C d a)))∨∃ dx fs,H2 a=some (ExcO C dx a)∧H2 dx=some (ExcD dx fs)∧fs.length < 1000∧D.nx σ (upd H2 dx (ExcD dx (putF f y fs))))
section
variable {X:Cx} {o e value:Expr} {f:Str} {pos pos':Pos} {ta tv:TE}
theorem ps_xfld (ha:PE X o ta) (hv:PE X value tv) (hs:swapsWith value (some (.Attribute o f pos')) pos.line X.env=pure false):PS X (.Assign [.Attribute o f pos'] value pos) (sXFld X.K ta tv f):=by
  intro pins s σ H D I h
  refine plainObj_wpAny_Assign_Attribute (thn (hv pins s σ H _ I h) fun u s1 ⟨y,H1,I1,ry,q⟩=>thn (ha pins s1 σ H1 _ I1 q) fun ov s2 ⟨x,H2,I2,rx,a,C,ex,c,n,q2⟩=>?_) hs
  subst ex
  obtain rfl:ov=Value.ref a:=rx
  rcases q2 with ⟨e0,q2⟩ | ⟨dx,fs,e1,e2,l,q2⟩
  · exact setexc0_ok I2 e0 c n ry fun s3 d hd I3=>⟨σ,_,I3,q2 d hd⟩
  · exact setexc_ok I2 e1 e2 c n l ry fun s3 I3=>⟨σ,_,I3,q2⟩
end
def excInI (K:Frag) (C:Addr) (fI:Addr):Bool:=match K.lookup C with
  | some ⟨.type "type",_,.cls cd,sl⟩=>(match cd.mro,sl.toList with
    | .ref C' :: bm,[_,_,_,_,some (.builtin n),_]=>C' == C && n == "ValueError.__new__" && !cd.hasDel && tailIn K vErr bm && nsOkIn K cd.ns && nsIn K cd.ns "__init__" == some (some (.ref fI))
    | _,_=>false)
  | _=>false
theorem ns_some_of {K:Frag} {h:Heap} {N:Addr} {mg:Str→Option Value} {n:Str} {v:Value} (X:K.In h) (G:h.Ns N mg) (e:nsIn K N n=some (some v)):mg n=some v:=by
  obtain ⟨o,es,ep,ho,hd,_,hf⟩:=G
  unfold nsIn at e
  split at e
  · rename_i c d es' n' sl q
    have:=X _ _ q
    rw [ho] at this
    cases this
    cases hd
    split at e
    · rename_i e' he
      cases e
      rw [← hf]
      unfold nsFind findBy
      rw [← Array.find?_toList,he]
      rfl
    · split at e <;> cases e
  · cases e
structure XMk (K:Frag) (C fI:Addr):Prop where
  cl:XCls K C
  ei:excInI K C fI=true
  kp:keepIn K (.ref C)=true
  fn:isFn K (.ref fI)=true
theorem XMk.call {K:Frag} {C fI:Addr} (M:XMk K C fI) {prog:Program} {w:World} {A:Around} {E:Value→Shared→Prop} {s:Shared} {rest:List Value} {Q:Value→Shared→Prop} (X:K.In s.heap) (hrest:rest.length≤sizeLine)
    (hq:wpAny (model prog w) (A.under (.builtin "type.__call__" ⟨.ref C :: rest,[]⟩)) (call (.ref fI) (.ref (s.heap.objs.size+1) :: rest)) (fun r s'=>r=.none∧Q (.ref (s.heap.objs.size+1)) s') E { s with heap:=rawExc s.heap C rest }) :
    wpAny (model prog w) A (call (.ref C) rest) Q E s:=by
  obtain ⟨hh,g,d,t,os⟩:=s
  have q:=M.ei
  have fnt:typeIn K (.ref fI)=some (.type "function"):=beq_iff_eq.mp M.fn
  have hfI:∃ oI:Obj,hh.get? fI=some oI∧oI.cls=.type "function":=by
    cases z:K.lookup fI with
    | none=>simp [typeIn,z] at fnt
    | some o=>exact ⟨o,X _ _ z,by simpa [typeIn,z] using fnt⟩
  obtain ⟨oI,hoI,hcI⟩:=hfI
  unfold excInI at q
  split at q
  · rename_i dd cd sl ho
    split at q
    · rename_i C' bm k0 k1 k2 k3 n k5 hm hs
      simp only [Bool.and_eq_true,beq_iff_eq,Bool.not_eq_true'] at q
      obtain ⟨⟨⟨⟨⟨rfl,rfl⟩,hdel⟩,ht⟩,hok⟩,hni⟩:=q
      obtain ⟨nm,bs,mro,ns,qn,hd,sn,sub,ab,col,del⟩:=cd
      dsimp only at hm hdel hok hni
      subst hm hdel
      have hsl:sl=#[k0,k1,k2,k3,some (.builtin "ValueError.__new__"),k5]:=by
        obtain ⟨l⟩:=sl
        simp only at hs
        rw [hs]
      subst hsl
      have G:hh.Ns ns (hh.nsMap ns):=.of_isNs (isNs_of_in X hok)
      exact call_excT PySem.F.excBase_ValueError (tail_of_in X ht) (X _ _ ho) G (ns_some_of X G hni) hoI hcI hrest hq
    · cases q
  · cases q
end L2
namespace L2
open PySem PySem.Spec PyProof.Rows PySem.W
theorem ObjOk.there {P:Program} {w:World} {H:Hp} {h:Heap} {a:Addr} {o:HO} (x:ObjOk P w H h a o):∃ u,h.get? a=some u:=by
  cases o with
  | lst xs=>obtain ⟨_,_,_,_,e⟩:=x; exact ⟨_,e⟩
  | tup xs=>obtain ⟨_,_,_,p⟩:=x; obtain ⟨_,e,_⟩:=p; exact ⟨_,e⟩
  | dK kvs=>obtain ⟨_,_,_,_,o,_,_,e,_⟩:=x; exact ⟨_,e⟩
  | dT kvs=>obtain ⟨_,_,_,_,o,_,_,e,_⟩:=x; exact ⟨_,e⟩
  | set S n=>obtain ⟨o,_,_,_,e,_⟩:=x; exact ⟨_,e⟩
  | ins C dx fs=>obtain ⟨_,_,_,e,_⟩:=x; exact ⟨_,e⟩
  | own y=>obtain ⟨_,e⟩:=x; exact ⟨_,e⟩
  | xd fs=>obtain ⟨_,⟨_,_,_,e,_⟩,_⟩:=x; exact ⟨_,e⟩
  | rng lo hi=>obtain ⟨_,_,_,e⟩:=x; exact ⟨_,e⟩
  | frz ob u=>obtain ⟨e,_⟩:=x; exact ⟨_,e⟩
  | tbl ps=>exact ⟨_,(show h.get? a=some _ from x)⟩
  | met f y=>exact ⟨_,(show h.get? a=some _ from x)⟩
  | ext φ=>obtain ⟨_,⟨_,e⟩,_⟩:=x; exact ⟨_,e⟩
def sp_x (C:Addr) (names:List Str):Sp:=fun vs H Q _=>∃ x ws,vs=.ref x :: ws∧ws.length=names.length∧H x=some (ExcN C x) ∧
  ∀ d H',H d=none→H' x=some (ExcO C d x)→H' d=some (ExcD d (names.zip ws))→(∀ a o,a≠x→H a=some o→H' a=some o)→Q .non H'
structure XMkOk (P:Program) (w:World) (K:PySem.W.Frag) (mg:Str→Option Value) (base:Heap) (k:Nat) (x:Str) (C:Addr) (ps names:List Str):Prop where
  few:names.length≤1000
  ex:∃ (f:Addr) (fd:FuncData),XMk K C f∧FnOk P w K mg base CX0 k f fd ps (sp_x C names)∧mg x=some (.ref C)∧Binds K fd ps []
section
variable {X:Cx} {CX:CXT} {k j:Nat} {f C:Addr} {fd:FuncData} {ps names:List Str} {sp:Sp} {E:XK} {x m:Str} {p pos apos:Pos} {e o:Expr} {es:List Expr} {ta:TE} {t:TA}
theorem run_xmk {pins:List (Addr × Obj)} {σ:St} {H:Hp} {s:Shared} {Q:VK} {us:List Value} {vs:List V} (M:XMk X.K C f) (F:FnOk X.prog X.w X.K X.mg X.base CX k f fd ps sp) (hr:Room (k+1) X.A) (hb:Binds X.K fd ps [])
    (hx:Passes CX X E) (I:Inv X pins σ H s) (r:Vals vs us) (hz:vs.length≤1000)
    (h:∀ x,H x=none→sp (.ref x :: vs) (upd H x (ExcN C x)) (fun v H2=>v=.non∧Q (.ref x) H2) E) :
    wpAny (model X.prog X.w) X.A (call (.ref C) us) (EP X pins σ Q) X.xe s:=by
  have hq:=h (s.heap.objs.size+1) (I.hok.fresh (Nat.le_succ _))
  have hus:us.length≤sizeLine:=by rw [← r.length,sizeLine_eq]; omega
  have I2:Inv X pins σ (upd H (s.heap.objs.size+1) (ExcN C (s.heap.objs.size+1))) { s with heap:=rawExc s.heap C us } :=
    I.laid (t':=s.toks) (fun b u z=>rawExc_keep z) (Nat.le_succ _) (excN_ok (rawExc_at C us) rfl)
  have r2:Vals (V.ref (s.heap.objs.size+1) :: vs) (Value.ref (s.heap.objs.size+1) :: us):=.cons rfl r
  have hl:(Value.ref (s.heap.objs.size+1) :: us++[]).length=ps.length:=by
    have e:=r2.length
    rw [F.len _ _ _ _ hq] at e
    rw [List.append_nil]
    exact e.symm
  have hb2:=hb { s with heap:=rawExc s.heap C us } (Value.ref (s.heap.objs.size+1) :: us) I2.kIn hl
  rw [List.append_nil] at hb2
  refine M.call I.kIn hus (wpAny_call (codeAny_mono (F.run _ X.stack _ _ ⟨Value.ref (s.heap.objs.size+1) :: us,[]⟩ (Value.ref (s.heap.objs.size+1) :: us) _ _ E (hr.make C us [])
    (I2.env0.make C us []) hb2 r2 hq) fun r s' hq'=>?_))
  cases r with
  | error e=>exact hx pins σ _ _ e s' I2 hq'
  | ok fl =>
    cases fl with
    | ret u =>
      obtain ⟨v,H',I3,rv,ev,q3⟩:=I2.after hq'
      subst ev
      exact ⟨rv,⟨V.ref (s.heap.objs.size+1),H',I3,rfl,q3⟩⟩
    | next=>exact False.elim hq'
    | brk=>exact False.elim hq'
    | cont=>exact False.elim hq'
end
end L2
namespace L2
open PySem PySem.Spec PyProof.Rows PySem.W
structure NoteTo (fr tt:List Addr) (e T:Addr) (fl cls:Value) (d:Option Addr) (h h':Heap):Prop where
  nT:h.get? T=none
  keep:∀ b o,b≠e→b ∉ fr→b ∉ tt→h.get? b=some o→h'.get? b=some o
  slot:∀ b o,b∈fr→h.get? b=some o→∃ sl,h'.get? b=some { o with slots:=sl }
  exc:∃ vs sl,h'.get? e=some ⟨cls,d,.fields vs,sl⟩∧vs[1]?=some (.ref T)
  tb:∃ o ts,h'.get? T=some o∧o.data=.fields ts∧ts[3]?=some fl
  old:∀ t o ts,t∈tt→t≠e→h.get? t=some o→o.data=.fields ts→3 < ts.size→∃ o' ts',h'.get? t=some o'∧o'.data=.fields ts'∧ts'[3]?=some Value.none
section
variable {M:Model} {A:Around} {E:Value→Shared→Prop} {s:Shared} {base:Heap} {env:Env} {outer:List Env} {L e:Addr} {cls:Value} {d:Option Addr} {vs:Array Value} {sl:Array (Option Value)} {Q:Unit→Shared→Prop}
theorem note_entry {head:Value} {hadNext:Bool} (hfr:A.frames=some (env :: outer)) (hl:s.heap.FunFrames base (env :: outer)) (hf:env.frame=some L) (he:s.heap.get? e=some ⟨cls,d,.fields vs,sl⟩) (hsz:1 < vs.size)
    (h:∀ h' T,NoteTo (frs (env :: outer)) [] e T (rawInt L) cls d s.heap h'→Q () { s with heap:=h' }) :
    wpAny M A (do
      let a ← frameOf env
      let pl ← entryPlaceOf L hadNext
      let b ← EntryCells.newEntry head a .none (rawInt L) .none pl
      setField (.ref e) 1 b) Q E s:=by
  have hne:e ∉ frs (env :: outer):=fun hm=>by
    obtain ⟨_,o,ho,hnf⟩:=hl.mem hm
    rw [he] at ho; cases ho; exact hnf vs rfl
  refine wpAny_bind (wpAny_frameOf_fun hfr hl hf fun h₁ hs=>wpAny_bind (wpAny_entryPlaceOf fun pl hpl=>?_))
  unfold EntryCells.newEntry newFields
  refine wpAny_bind (wpAny_newObj_type ?_ (hpl.sizeOk5 _ _ _ _ _))
  have e1:h₁.get? e=some ⟨cls,d,.fields vs,sl⟩:=(hs.2.1 e hne).trans he
  generalize hob:({ cls:=.type "traceback",dict:=none,data:=.fields ([head,.ref L,.none,rawInt L,.none]++(if pl.isEmpty then List.replicate 6 Value.none else pl)).toArray }:Obj)=ob
  have hfb:ob.isFreed=false:=by rw [← hob]; rfl
  have e2:=Heap.get?_push_of_some (h:=h₁) ob e1
  refine wpAny_setField e2 rfl hsz (h _ h₁.objs.size ?_)
  have nTe:h₁.objs.size≠e:=Nat.ne_of_gt (Heap.lt_size e1)
  have kp:∀ b o,b≠e→h₁.get? b=some o→((h₁.push ob).update e (Obj.mapFields (·.setIfInBounds 1 (Value.ref h₁.objs.size)))).get? b=some o:=fun b o nb hb=>by
    rw [Heap.get?_update_other _ _ (Ne.symm nb)]; exact Heap.get?_push_of_some _ hb
  refine ⟨Heap.get?_none_of_le (Nat.le_of_eq hs.1.symm),fun b o nb nf _ hb=>kp b o nb ((hs.2.1 b nf).trans hb),fun b o bf hb=>?_,⟨vs.setIfInBounds 1 (.ref h₁.objs.size),sl,?_,by simp [hsz]⟩,⟨ob,([head,.ref L,.none,rawInt L,.none]++(if pl.isEmpty then List.replicate 6 Value.none else pl)).toArray,?_,by rw [← hob],?_⟩,fun _ _ _ z=>nomatch z⟩
  · obtain ⟨sl',z⟩:=hs.2.2 b o hb
    exact ⟨sl',kp b _ (fun q=>hne (q ▸ bf)) z⟩
  · exact Heap.get?_update_self _ e2 rfl
  · rw [Heap.get?_update_other _ _ (Ne.symm nTe)]; exact Heap.get?_push_size _ hfb
  · simp
theorem note_new (hfr:A.frames=some (env :: outer)) (hl:s.heap.FunFrames base (env :: outer)) (hf:env.frame=some L) (he:s.heap.get? e=some ⟨cls,d,.fields vs,sl⟩) (h1:vs[1]?=some Value.none)
    (h:∀ h' T,NoteTo (frs (env :: outer)) [] e T (rawInt L) cls d s.heap h'→Q () { s with heap:=h' }):wpAny M A (noteFrame (.ref e) env) Q E s:=by
  unfold noteFrame
  simp only [hf]
  refine wpAny_bind (wpAny_field he rfl h1 ?_)
  rw [if_neg (by decide)]
  exact note_entry hfr hl hf he (Array.getElem?_eq_some_iff.mp h1).1 h
theorem note_next {T1:Addr} {oT:Obj} {ts:Array Value} (hfr:A.frames=some (env :: outer)) (hl:s.heap.FunFrames base (env :: outer)) (hf:env.frame=some L) (he:s.heap.get? e=some ⟨cls,d,.fields vs,sl⟩) (h1:vs[1]?=some (.ref T1))
    (hT:s.heap.get? T1=some oT) (hd:oT.data=.fields ts) (h3:ts[3]?=some Value.none) (ne:T1≠e)
    (h:∀ h' T,NoteTo (frs (env :: outer)) [T1] e T (rawInt L) cls d s.heap h'→Q () { s with heap:=h' }):wpAny M A (noteFrame (.ref e) env) Q E s:=by
  unfold noteFrame
  simp only [hf]
  refine wpAny_bind (wpAny_field he rfl h1 ?_)
  rw [if_pos (show (Value.ref T1 != Value.none)=true from by simp)]
  refine wpAny_bind (wpAny_field hT hd h3 ?_)
  rw [if_neg (show ¬ ((Value.none == rawInt L)=true) from by simp [rawInt])]
  have hs3:3 < ts.size:=(Array.getElem?_eq_some_iff.mp h3).1
  refine wpAny_bind (wpAny_setField hT hd hs3 ?_)
  have oth:∀ b,b≠T1→(s.heap.update T1 (Obj.mapFields (·.setIfInBounds 3 Value.none))).get? b=s.heap.get? b:=fun b hb=>Heap.get?_update_other _ _ (Ne.symm hb)
  have nT1:T1 ∉ frs (env :: outer):=fun hm=>by
    obtain ⟨_,o,ho,hnf⟩:=hl.mem hm
    rw [hT] at ho; cases ho; exact hnf ts hd
  have self:(s.heap.update T1 (Obj.mapFields (·.setIfInBounds 3 Value.none))).get? T1=some (Obj.mapFields (·.setIfInBounds 3 Value.none) oT):=Heap.get?_update_self _ hT (Obj.isFreed_of_fields (Obj.data_mapFields hd _))
  refine note_entry (s:={ s with heap:=s.heap.update T1 (Obj.mapFields (·.setIfInBounds 3 Value.none)) }) hfr (hl.of_keeps fun b o hb hnf=>⟨o,(oth b fun q=>?_).trans hb,rfl⟩) hf ((oth e (Ne.symm ne)).trans he) (Array.getElem?_eq_some_iff.mp h1).1 fun h' T n=>h h' T ?_
  · rw [q,hT] at hb; cases hb; exact hnf ts hd
  · have nT':s.heap.get? T=none:=by
      by_cases q:T=T1
      · have:=n.nT; rw [q] at this; rw [self] at this; cases this
      · rw [← oth T q]; exact n.nT
    refine ⟨nT',fun b o nb nf nt hb=>n.keep b o nb nf (by simp) ((oth b (by simpa using nt)).trans hb),fun b o bf hb=>n.slot b o bf ((oth b fun q=>nT1 (q ▸ bf)).trans hb),n.exc,n.tb,fun t o us ht hte hb hdo hsz=>?_⟩
    obtain rfl:t=T1:=by simpa using ht
    rw [hT] at hb; cases hb
    rw [hd] at hdo; cases hdo
    exact ⟨_,_,n.keep t _ hte nT1 (by simp) self,Obj.data_mapFields hd _,by simp [hs3]⟩
theorem flight_off {T:Addr} {oT:Obj} {ts:Array Value} (he:s.heap.get? e=some ⟨cls,d,.fields vs,sl⟩) (h1:vs[1]?=some (.ref T)) (hT:s.heap.get? T=some oT) (hd:oT.data=.fields ts) (hs3:3 < ts.size)
    (h:∀ h',(∀ b,b≠T→h'.get? b=s.heap.get? b)→(∃ o' ts',h'.get? T=some o'∧o'.data=.fields ts'∧ts'[3]?=some Value.none)→Q () { s with heap:=h' }):wpAny M A (setFlight (.ref e) none) Q E s:=by
  unfold setFlight
  refine wpAny_bind (wpAny_field he rfl h1 ?_)
  rw [if_pos (show (Value.ref T != Value.none)=true from by simp)]
  refine wpAny_setField hT hd hs3 (h _ (fun b hb=>Heap.get?_update_other _ _ (Ne.symm hb)) ⟨_,_,Heap.get?_update_self _ hT (Obj.isFreed_of_fields (Obj.data_mapFields hd _)),Obj.data_mapFields hd _,by simp [hs3]⟩)
end
end L2
namespace L2
open PySem PySem.Spec PyProof.Rows PySem.W
section
variable {prog:Program} {w:World} {A:Around} {E:Value→Shared→Prop} {s:Shared} {K:Frag} {C fI e:Addr} {d:Option Addr} {env:Env}
theorem raise_made {x:Sem Value} {Q:Flow→Shared→Prop} (M:XMk K C fI) (hh:A.handled=none)
    (h:wpAny (model prog w) A x (fun v s₁=>∃ e d vs sl,v=.ref e∧K.In s₁.heap∧s₁.heap.get? e=some ⟨.ref C,d,.fields vs,sl⟩∧vs[1]?=some Value.none∧E (.ref e) s₁) E s) :
    wpAny (model prog w) A (raiseStmt env (some x) none) Q E s:=by
  unfold raiseStmt
  refine wpAny_bind (wpAny_mono h (fun v s₁ h₁=>?_) fun _ _ x=>x)
  obtain ⟨e,d,vs,sl',rfl,X,he,h1,hE⟩:=h₁
  obtain ⟨hp,g,dr,tk,os⟩:=s₁
  have q:=M.ei
  unfold excInI at q
  split at q
  · rename_i dd cd sl ho
    split at q
    · rename_i C' bm k0 k1 k2 k3 n k5 hm hs
      simp only [Bool.and_eq_true,beq_iff_eq,Bool.not_eq_true'] at q
      obtain ⟨⟨⟨⟨⟨rfl,rfl⟩,hdel⟩,ht⟩,hok⟩,hni⟩:=q
      obtain ⟨nm,bs,mro,ns,qn,hd,sn,sub,ab,col,del⟩:=cd
      dsimp only at hm hdel hok hni
      subst hm hdel
      have hsl:sl=#[k0,k1,k2,k3,some (.builtin "ValueError.__new__"),k5]:=by
        obtain ⟨l⟩:=sl
        simp only at hs
        rw [hs]
      subst hsl
      have hC:hp.get? C'=some (excClassObj nm qn C' ns bs bm hd sn sub ab col dd k0 k1 k2 k3 k5 "ValueError.__new__"):=X _ _ ho
      have hcB:(Value.ref C' :: bm).contains (.type "BaseException")=true:=by
        rw [List.contains_cons,(tail_of_in X ht).hasType (show vErr.contains (.type "BaseException")=true by decide +kernel)]; exact Bool.or_true _
      repeat (first | with_reducible refine wpAny_field he rfl h1 ?_ | with_reducible refine wpAny_loadPart_at he ?_ | with_reducible refine wpAny_loadPart_at hC ?_ | (with_reducible refine wpAny_isSubtype_exc hC ?_; rw [hcB]) | wp_step)
      exact wpAny_raiseNew_none hh hE
    · cases q
  · cases q
end
end L2
namespace L2
open PySem PySem.Spec PyProof.Rows PySem.W
def TbO (T:Addr):HO:=.ext fun h=>∃ o ts,h.get? T=some o∧o.data=.fields ts∧ts[3]?=some Value.none
theorem tbO_ok {P:Program} {w:World} {H:Hp} {h:Heap} {T:Addr} (t:∃ o ts,h.get? T=some o∧o.data=.fields ts∧ts[3]?=some Value.none):ObjOk P w H h T (TbO T) :=
  ⟨t,let ⟨o,_,e,_⟩:=t; ⟨o,e⟩,fun _ _ ⟨o,ts,e,r⟩ k=>⟨o,ts,k _ e,r⟩⟩
def Fresh (H:Hp) (x C:Addr) (d:Option Addr):Prop:=(d=none∧H x=some (ExcN C x))∨∃ dx,d=some dx∧H x=some (ExcO C dx x)
def Flown (H:Hp) (x C:Addr) (d:Option Addr) (T:Addr):Prop:=H x=some (ExcT C d x T)∧H T=some (TbO T)∧T≠x
def thrown (H:Hp) (x C:Addr) (d:Option Addr) (T:Addr):Hp:=upd (upd H T (TbO T)) x (ExcT C d x T)
theorem thrown_x {H:Hp} {x C T:Addr} {d:Option Addr}:thrown H x C d T x=some (ExcT C d x T):=upd_same
theorem thrown_T {H:Hp} {x C T:Addr} {d:Option Addr} (n:T≠x):thrown H x C d T T=some (TbO T):=by unfold thrown; rw [upd_ne n,upd_same]
theorem thrown_ne {H:Hp} {x C T b:Addr} {d:Option Addr} (n:b≠x) (m:b≠T):thrown H x C d T b=H b:=by unfold thrown; rw [upd_ne n,upd_ne m]
section
variable {X:Cx} {pins:List (Addr × Obj)} {σ:St} {H:Hp} {s:Shared} {x C T:Addr} {d:Option Addr} {h1 h2:Heap} {fl:Value} {tt:List Addr}
theorem note_un (I:Inv X pins σ H s) {φ:Heap→Prop} (hx:H x=some (.ext φ)) (htt:∀ t∈tt,H t=some (TbO t)∧t≠x) (n:NoteTo (frs X.stack) tt x T fl (.ref C) d s.heap h1) (k2:∀ b,b≠T→h2.get? b=h1.get? b)
    (t2:∃ o ts,h2.get? T=some o∧o.data=.fields ts∧ts[3]?=some Value.none):H T=none∧T≠x∧Un (frs X.stack) [] H (thrown H x C d T) s.heap h2∧HOk X.prog X.w (thrown H x C d T) h2:=by
  have hT:H T=none:=by
    cases q:H T with
    | none=>rfl
    | some u =>
      obtain ⟨o,ho⟩:=(I.hok T u q).there
      rw [n.nT] at ho; cases ho
  have nTx:T≠x:=fun z=>by rw [z,hx] at hT; cases hT
  have tn:∀ b o,s.heap.get? b=some o→b≠T:=fun b o e z=>by rw [z,n.nT] at e; cases e
  have un:∀ b,H b=none→b≠x:=fun b e z=>by rw [z,hx] at e; cases e
  have ut:∀ b,H b=none→b ∉ tt:=fun b e z=>by rw [(htt b z).1] at e; cases e
  have hb:∀ b u,H b=some u→b≠T:=fun b u e z=>by rw [z,hT] at e; cases e
  have old:∀ t∈tt,∃ o' ts',h2.get? t=some o'∧o'.data=.fields ts'∧ts'[3]?=some Value.none:=fun t ht=>by
    obtain ⟨e,ne⟩:=htt t ht
    obtain ⟨⟨o,ts,e1,e2,e3⟩,_⟩:=(show ObjOk X.prog X.w H s.heap t (TbO t) from I.hok t _ e)
    obtain ⟨o',ts',f1,f2,f3⟩:=n.old t o ts ht ne e1 e2 (Array.getElem?_eq_some_iff.mp e3).1
    exact ⟨o',ts',(k2 t (hb t _ e)).trans f1,f2,f3⟩
  have exc:∃ vs sl,h2.get? x=some ⟨.ref C,d,.fields vs,sl⟩∧vs[1]?=some (.ref T):=by
    obtain ⟨vs,sl,e1,e2⟩:=n.exc
    exact ⟨vs,sl,(k2 x (Ne.symm nTx)).trans e1,e2⟩
  have ne_ext:∀ b u,H b=some u→(∀ ψ,u≠.ext ψ)→b≠x:=fun b u e z q=>by rw [q,hx] at e; cases e; exact z _ rfl
  refine ⟨hT,nTx,⟨fun b o q e nf _=>?_,fun b o q e bf _=>?_,fun b o q e _=>?_,fun b o q _=>?_,fun b xs e=>?_,fun b o u e=>?_,fun b ps e=>⟨#[],?_⟩⟩,fun b u e=>?_⟩
  · exact (k2 b (tn b o q)).trans (n.keep b o (un b e) nf (ut b e) q)
  · obtain ⟨sl,z⟩:=n.slot b o bf q
    exact ⟨sl,(k2 b (tn b o q)).trans z⟩
  · rw [thrown_ne (un b e) (tn b o q)]; exact e
  · by_cases z:b=x
    · obtain ⟨vs,sl,e1,_⟩:=exc; exact ⟨_,z ▸ e1⟩
    · by_cases zf:b∈frs X.stack
      · obtain ⟨sl,z⟩:=n.slot b o zf q
        exact ⟨_,(k2 b (tn b o q)).trans z⟩
      · by_cases zt:b∈tt
        · obtain ⟨o',_,e1,_⟩:=old b zt; exact ⟨o',e1⟩
        · exact ⟨o,(k2 b (tn b o q)).trans (n.keep b o z zf zt q)⟩
  · rw [thrown_ne (ne_ext b _ e fun ψ z=>by cases z) (hb b _ e)]; exact e
  · rw [thrown_ne (ne_ext b _ e fun ψ z=>by cases z) (hb b _ e)]; exact e
  · rw [thrown_ne (ne_ext b _ e fun ψ z=>by cases z) (hb b _ e),e]; simp
  · by_cases z:b=x
    · subst z; rw [thrown_x] at e; cases e
      obtain ⟨vs,sl,e1,e2⟩:=exc
      exact excT_ok e1 e2
    · by_cases zT:b=T
      · subst zT; rw [thrown_T nTx] at e; cases e
        exact tbO_ok t2
      · rw [thrown_ne z zT] at e
        by_cases zt:b∈tt
        · rw [(htt b zt).1] at e; cases e
          exact tbO_ok (old b zt)
        · have own_ne:∀ c,H c=some (.own b)→c≠x∧c≠T:=fun c hc=>⟨ne_ext c _ hc (fun ψ z=>by cases z),hb c _ hc⟩
          refine (I.hok b u e).stay (fun c v hc q=>?_) (fun c q=>?_) fun c xs q=>?_
          · have hcH:∃ y,H c=some y:=by
              rcases hc with rfl | hc
              · exact ⟨u,e⟩
              · exact ⟨_,hc⟩
            obtain ⟨y,hy⟩:=hcH
            refine (k2 c (hb c y hy)).trans (n.keep c v ?_ (fun zf=>by rw [I.stkFree c zf] at hy; cases hy) (fun zt'=>?_) q)
            · rcases hc with rfl | hc
              · exact z
              · exact (own_ne c hc).1
            · rcases hc with rfl | hc
              · exact zt zt'
              · rw [(htt c zt').1] at hc; cases hc
          · rw [thrown_ne (own_ne c q).1 (own_ne c q).2]; exact q
          · rw [thrown_ne (ne_ext c _ q fun ψ z=>by cases z) (hb c _ q)]; exact q
theorem note_flight {E:Value→Shared→Prop} {Q:Unit→Shared→Prop} (I:Inv X pins σ H s) (hst:X.stack=X.env :: X.outer) (hfr:X.env.frame=some X.env.locals) (hf:Fresh H x C d∨∃ T,Flown H x C d T)
    (h:∀ h' T,H T=none→T≠x→Inv X pins σ (thrown H x C d T) { s with heap:=h' }→Q () { s with heap:=h' }) :
    wpAny (model X.prog X.w) X.A (noteFrame (.ref x) X.env) (fun _ s₂=>wpAny (model X.prog X.w) X.A (setFlight (.ref x) none) Q E s₂) E s:=by
  have fr:X.A.frames=some (X.env :: X.outer):=hst ▸ I.ok.frames
  have ff:s.heap.FunFrames X.base (X.env :: X.outer):=hst ▸ I.stack
  have rest:∀ {φ:Heap→Prop} {tt:List Addr} (hx:H x=some (.ext φ)) (htt:∀ t∈tt,H t=some (TbO t)∧t≠x) (h1:Heap) (T:Addr),NoteTo (frs (X.env :: X.outer)) tt x T (rawInt X.env.locals) (.ref C) d s.heap h1 →
      wpAny (model X.prog X.w) X.A (setFlight (.ref x) none) Q E { s with heap:=h1 }:=fun {φ tt} hx htt h1 T n=>by
    obtain ⟨vs,sl,e1,e2⟩:=n.exc
    obtain ⟨o,ts,f1,f2,f3⟩:=n.tb
    refine flight_off (s:={ s with heap:=h1 }) e1 e2 f1 f2 (Array.getElem?_eq_some_iff.mp f3).1 fun h2 k2 t2=>?_
    obtain ⟨hT,nT,un,ok⟩:=note_un I hx htt (hst ▸ n) k2 t2
    exact h h2 T hT nT (I.call (g':=s.gens) (d':=s.drawn) (t':=s.toks) (ch:=[]) un ok I.bare (fun b z=>absurd z (by simp)))
  rcases hf with (⟨rfl,hx⟩ | ⟨dx,rfl,hx⟩) | ⟨T,hx,hT,ne⟩
  · obtain ⟨⟨vs,sl,e1,e2⟩,_⟩:=(show ObjOk X.prog X.w H s.heap x (ExcN C x) from I.hok x _ hx)
    exact note_new fr ff hfr e1 e2 fun h1 T n=>rest (tt:=[]) hx (fun t z=>absurd z (by simp)) h1 T n
  · obtain ⟨⟨vs,sl,e1,e2⟩,_⟩:=(show ObjOk X.prog X.w H s.heap x (ExcO C dx x) from I.hok x _ hx)
    exact note_new fr ff hfr e1 e2 fun h1 T n=>rest (tt:=[]) hx (fun t z=>absurd z (by simp)) h1 T n
  · obtain ⟨⟨vs,sl,e1,e2⟩,_⟩:=(show ObjOk X.prog X.w H s.heap x (ExcT C d x T) from I.hok x _ hx)
    obtain ⟨⟨o,ts,f1,f2,f3⟩,_⟩:=(show ObjOk X.prog X.w H s.heap T (TbO T) from I.hok T _ hT)
    exact note_next fr ff hfr e1 e2 f1 f2 f3 ne fun h1 T' n=>rest (tt:=[T]) hx (fun t z=>by rw [List.mem_singleton.mp z]; exact ⟨hT,ne⟩) h1 T' n
theorem leave_inv {E:Value→Shared→Prop} {Q:Unit→Shared→Prop} (I:Inv X pins σ H s) (hst:X.stack=X.env :: X.outer) (hfr:X.env.frame=some X.env.locals) (hf:Fresh H x C d∨∃ T,Flown H x C d T)
    (h:∀ h' T,H T=none→T≠x→Inv X pins σ (thrown H x C d T) { s with heap:=h' }→Q () { s with heap:=h' }):wpAny (model X.prog X.w) X.A (leaving X.env (.ref x)) Q E s:=by
  unfold leaving
  exact wpAny_bind (note_flight I hst hfr hf h)
end
end L2
namespace L2
open PySem PySem.Spec PyProof.Rows PySem.W
def CX1 (P:Program) (w:World):CXT:=fun outer H s E e s'=>∃ x T C d H',e=Value.ref x∧s'.os=s.os∧AllBare s'.gens∧Un (frs outer) [] H H' s.heap s'.heap∧HOk P w H' s'.heap∧Flown H' x C d T∧E (.ref x) d H'
def XeOk (X:Cx) (E:XK):Prop:=∀ (pins:List (Addr × Obj)) (σ:St) (H:Hp) (s:Shared) (x C:Addr) (d:Option Addr),Inv X pins σ H s→(Fresh H x C d∨∃ T,Flown H x C d T) →
  (∀ T,H T=none→T≠x→E (.ref x) d (thrown H x C d T))→X.xe (.ref x) s
section
variable {P:Program} {w:World} {K:PySem.W.Frag} {mg:Str→Option Value} {base:Heap} {N:List Str} {qual:Str} {scope:Scope} {f:Addr} {cd:Value} {A:Around} {outer:List Env} {s:Shared} {H:Hp} {E E₁:XK}
theorem xeok_cx:XeOk (cxOf (CX1 P w) P w K mg base N qual scope f cd A outer s H E) E:=by
  intro pins σ H1 s1 x C d I hf hE
  exact leave_inv I rfl rfl hf fun h' T hT nT I'=>⟨x,T,C,d,_,rfl,I'.os,I'.bare,I'.base,I'.hok,⟨thrown_x,thrown_T nT,nT⟩,hE T hT nT⟩
theorem own_cx:PassesOwn (model (cxOf (CX1 P w) P w K mg base N qual scope f cd A outer s H E).prog (cxOf (CX1 P w) P w K mg base N qual scope f cd A outer s H E).w) (cxOf (CX1 P w) P w K mg base N qual scope f cd A outer s H E).A (cxOf (CX1 P w) P w K mg base N qual scope f cd A outer s H E).env (cxOf (CX1 P w) P w K mg base N qual scope f cd A outer s H E).xe:=PassesOwn.leaving
end
section
variable {X:Cx} {E E₁:XK}
theorem pass_x (hX:XeOk X E) (h:∀ x C d T T2 H',E₁ (.ref x) d H'→Flown H' x C d T→H' T2=none→T2≠x→E (.ref x) d (thrown H' x C d T2)):Passes (CX1 X.prog X.w) X E₁:=by
  rintro pins σ H s e s' I ⟨x,T,C,d,H',rfl,os,bare,un,hok,fl,q⟩
  obtain ⟨hh,g,dr,t,os'⟩:=s'
  obtain rfl:os'=s.os:=os
  exact hX pins σ H' _ x C d (I.call (h':=hh) (g':=g) (d':=dr) (t':=t) (ch:=[]) un hok bare (fun b z=>absurd z (by simp))) (.inr ⟨T,fl⟩) fun T2 h2 n2=>h x C d T T2 H' q fl h2 n2
end
theorem Fun.okx {P:Program} {w:World} {K:PySem.W.Frag} {mg:Str→Option Value} {base:Heap} {x qual:Str} {st:Stmt} {f:Addr} {fd:FuncData} {N ps:List Str} {k:Nat} {sp:Sp} (F:Fun K x qual st f fd) (S:FnScope N ps (defScope st)) (len:∀ vs H Q E,sp vs H Q E→vs.length=ps.length)
    (hbody:∀ (cdv:Value) (A:Around) (outer:List Env) (s:Shared) (H:Hp) (vs:List V) (Q:VK) (E:XK),Room k (A.deeper (envOfC qual (defScope st) s.heap.objs.size f cdv))→sp vs H Q E →
      ∃ t,PSs (cxOf (CX1 P w) P w K mg base N qual (defScope st) f cdv A outer s H E) (defBody st) t∧t { nx:=fun _ H'=>Q .non H',rt:=Q } (start N vs) H):FnOk P w K mg base (CX1 P w) (k+1) f fd ps sp:=by
  obtain ⟨oc,od,kV,doc,pm,an,cdv,ct,osl,rfl,lk,hcd⟩:=F.ex
  exact fn_of lk hcd S len fun A outer s H vs Q E hr hsp=>hbody cdv A outer s H vs Q E hr hsp
structure DefOkX (P:Program) (w:World) (K:PySem.W.Frag) (mg:Str→Option Value) (base:Heap) (k:Nat) (x:Str) (ps:List Str) (sp:Sp):Prop where
  ex:∃ (f:Addr) (fd:FuncData),FnOk P w K mg base (CX1 P w) k f fd ps sp∧mg x=some (.ref f)∧PySem.W.keepIn K (.ref f)=true∧Binds K fd ps []
def sRaise (C:Addr) (names:List Str) (E:XK) (t:TA):TS:=fun _ σ H=>t σ H fun vs H1=>vs.length=names.length ∧
  ∀ y dx T H2,H1 y=none→Same H1 H2→H2 y=some (ExcO C dx y)→H2 dx=some (ExcD dx (names.zip vs))→dx≠y→H2 T=none→T≠y→E (.ref y) (some dx) (thrown H2 y C (some dx) T)
section
variable {X:Cx} {k j:Nat} {x:Str} {C:Addr} {ps names:List Str} {sp:Sp} {p pos cpos:Pos} {e:Expr} {es:List Expr} {t:TA} {E E₁:XK}
theorem pe_fnx (D:DefOkX X.prog X.w X.K X.mg X.base k x ps sp) (hr:Room j X.A) (hx:Passes (CX1 X.prog X.w) X E₁) (ha:PA X (e :: es) t) (hj:k≤j:=by decide) (hg:Gl X x:=by rfl) (hdb:(x == ("__debug__":Str))=false:=by decide)
    (he:starEach (e :: es) X.env=(false,eval e X.env) :: starEach es X.env:=by rfl) (hpl:(backTo pos (starEach es X.env)).any (·.1)=false:=by rfl):PE X (.Call (.Name x p) (e :: es) [] pos) (tCall sp [] E₁ t):=by
  obtain ⟨f,fd,F,hm,hk,hb⟩:=D.ex
  exact pe_call F (hr.mono hj) hg hm hk hb .nil hx ha hdb he hpl
theorem ps_raise (hX:XeOk X E) (D:XMkOk X.prog X.w X.K X.mg X.base k x C ps names) (hr:Room j X.A) (ha:PA X (e :: es) t) (hc:X.calm=true:=by rfl) (hj:k+1≤j:=by decide) (hg:Gl X x:=by rfl) (hdb:(x == ("__debug__":Str))=false:=by decide)
    (he:starEach (e :: es) X.env=(false,eval e X.env) :: starEach es X.env:=by rfl) (hpl:(backTo cpos (starEach es X.env)).any (·.1)=false:=by rfl):PS X (.Raise (some (.Call (.Name x p) (e :: es) [] cpos)) none pos) (sRaise C names E t):=by
  intro pins s σ H Dd I h
  obtain ⟨f,fd,M,F,hm,hb⟩:=D.ex
  have pe:wpAny (model X.prog X.w) X.A (eval (.Call (.Name x p) (e :: es) [] cpos) X.env) (EP X pins σ fun v H2=>∃ y d,v=V.ref y∧Fresh H2 y C d∧∀ T,H2 T=none→T≠y→E (.ref y) d (thrown H2 y C d T)) X.xe s:=by
    refine wpAny_Call_Name_kw (ld_glob I hg hm ?_ hdb)
    refine PySem.W.callWith_K (h₀:=X.base) I.ok.mod.kin M.kp (thn (ha cpos pins s σ H _ I h) fun us s1 ⟨vs,H1,I1,r,hl,q⟩=>⟨I1.kIn,?_⟩) he hpl
    refine run_xmk M F (hr.mono hj) hb pass0 I1 r (hl ▸ D.few) fun y hy=>⟨y,vs,rfl,hl,upd_same,fun d H' hd h1 h2 hs=>⟨rfl,y,some d,rfl,.inr ⟨d,rfl,h1⟩,fun T hT nT=>?_⟩⟩
    refine q y d T H' hy (fun a o ho=>hs a o (ne_of_none ho hy) ?_) h1 h2 (fun z=>by rw [z,upd_same] at hd; cases hd) hT nT
    rw [upd_ne (ne_of_none ho hy)]; exact ho
  rw [arm_exec_Raise]
  simp only [evalOpt,Option.map]
  refine wpAny_bind (wpAny_standAt (raise_made M (I.ok.hd hc) ?_))
  refine wpAny_bind (thn pe fun v s1 ⟨u,H2,I2,r,y,d,ey,fr,hE⟩=>wpAny_bind (wpAny_standAt (wpAny_pure ?_)))
  subst ey
  obtain rfl:v=Value.ref y:=r
  have ob:∃ vs sl,s1.heap.get? y=some ⟨.ref C,d,.fields vs,sl⟩∧vs[1]?=some Value.none:=by
    rcases fr with ⟨rfl,hx⟩ | ⟨dx,rfl,hx⟩
    · exact (show ObjOk X.prog X.w H2 s1.heap y (ExcN C y) from I2.hok y _ hx).1
    · exact (show ObjOk X.prog X.w H2 s1.heap y (ExcO C dx y) from I2.hok y _ hx).1
  obtain ⟨vs,sl,e1,e2⟩:=ob
  exact ⟨y,d,vs,sl,rfl,I2.kIn,e1,e2,hX pins σ H2 s1 y C d I2 (.inl fr) hE⟩
end
def emptyTo:Nat→Heap
  | 0=>{}
  | n+1=>(emptyTo n).push { cls:=.type "dict",data:=.dict #[] }
theorem emptyTo_size:∀ n,(emptyTo n).objs.size=n
  | 0=>rfl
  | n+1=>by rw [emptyTo,Heap.size_push,emptyTo_size n]
theorem excT_inj {C C' x T T':Addr} {d d':Option Addr} (h:ExcT C d x T=ExcT C' d' x T'):C=C'∧d=d'∧T=T':=by
  have h:(HO.ext fun h=>∃ vs sl,h.get? x=some ⟨.ref C,d,.fields vs,sl⟩∧vs[1]?=some (.ref T))=HO.ext fun h=>∃ vs sl,h.get? x=some ⟨.ref C',d',.fields vs,sl⟩∧vs[1]?=some (.ref T'):=h
  injection h with h
  have e:=congrFun h ((emptyTo x).push ⟨.ref C,d,.fields #[.none,.ref T],#[]⟩)
  have g:((emptyTo x).push ⟨.ref C,d,.fields #[.none,.ref T],#[]⟩).get? x=some ⟨.ref C,d,.fields #[.none,.ref T],#[]⟩:=Heap.get?_push_at (emptyTo_size x).symm rfl
  have q:=e.mp ⟨_,_,g,rfl⟩
  obtain ⟨vs,sl,e1,e2⟩:=q
  rw [g] at e1
  cases e1
  cases e2
  exact ⟨rfl,rfl,rfl⟩
def XR (H:Hp) (x C:Addr) (d:Option Addr) (fs:List (Str × V)):Prop:=(∃ dx,d=some dx∧dx≠x∧H dx=some (ExcD dx fs))∧∃ T,H x=some (ExcT C d x T)
theorem xr_new {H1 H2:Hp} {y C dx T:Addr} {fs:List (Str × V)} (hy:H1 y=none) (s:Same H1 H2) (e:H2 y=some (ExcO C dx y)) (ed:H2 dx=some (ExcD dx fs)) (hT:H2 T=none) (nd:dx≠y) :
    XR (thrown H2 y C (some dx) T) y C (some dx) fs∧Same H1 (thrown H2 y C (some dx) T) :=
  ⟨⟨⟨dx,rfl,nd,by rw [thrown_ne nd (ne_of_none ed hT)]; exact ed⟩,T,thrown_x⟩,fun a o ho=>by rw [thrown_ne (ne_of_none ho hy) (ne_of_none (s a o ho) hT)]; exact s a o ho⟩
theorem xr_on {H H1:Hp} {x C C':Addr} {d:Option Addr} {T T2:Addr} {fs:List (Str × V)} (hx:H1 x=none) (s:Same H1 H) (r:XR H x C d fs) (fl:Flown H x C' d T) (hT:H T2=none) :
    C=C'∧XR (thrown H x C' d T2) x C d fs∧Same H1 (thrown H x C' d T2):=by
  obtain ⟨⟨dx,rfl,nd,ed⟩,T',e⟩:=r
  have q:C=C':=by
    have:=fl.1
    rw [e] at this
    exact (excT_inj (Option.some.inj this)).1
  subst q
  exact ⟨rfl,⟨⟨dx,rfl,nd,by rw [thrown_ne nd (ne_of_none ed hT)]; exact ed⟩,T2,thrown_x⟩,fun a o ho=>by rw [thrown_ne (ne_of_none ho hx) (ne_of_none (s a o ho) hT)]; exact s a o ho⟩
def Rf (H:Hp) (E:XK) (C:Addr) (P:List (Str × V)→Hp→Prop):Prop:=∀ x d fs H',H x=none→Same H H'→XR H' x C (some d) fs→P fs H'→E (.ref x) (some d) H'
theorem Rf.raise {H H1 H2:Hp} {E:XK} {C y dx T:Addr} {P:List (Str × V)→Hp→Prop} {fs:List (Str × V)} (r:Rf H E C P) (s1:Same H H1) (hy:H1 y=none) (s:Same H1 H2) (e:H2 y=some (ExcO C dx y)) (ed:H2 dx=some (ExcD dx fs)) (nd:dx≠y)
    (hT:H2 T=none) (p:P fs (thrown H2 y C (some dx) T)):E (.ref y) (some dx) (thrown H2 y C (some dx) T):=by
  obtain ⟨a,b⟩:=xr_new hy s e ed hT nd
  have hy0:H y=none:=by
    cases q:H y with
    | none=>rfl
    | some o=>rw [s1 y o q] at hy; cases hy
  exact r y dx fs _ hy0 (s1.trans b) a p
def XE (H:Hp) (R:Addr→List (Str × V)→Hp→Prop):XK:=fun v d H'=>∃ x C dx fs,v=.ref x∧d=some dx∧H x=none∧Same H H'∧XR H' x C (some dx) fs∧R C fs H'
theorem XE.on {H H0:Hp} {R:Addr→List (Str × V)→Hp→Prop} {E:XK} (s0:Same H0 H) (st:∀ C fs H' x C' d T2,R C fs H'→(∃ φ,H' x=some (.ext φ))→H' T2=none→R C fs (thrown H' x C' d T2)) (hE:∀ C,Rf H0 E C (R C)) :
    ∀ x C d T T2 H',XE H R (.ref x) d H'→Flown H' x C d T→H' T2=none→T2≠x→E (.ref x) d (thrown H' x C d T2):=by
  rintro x C d T T2 H' ⟨x',C',dx,fs,ev,rfl,hx,s,r,p⟩ fl hT2 nT2
  obtain rfl:x=x':=Value.ref.inj ev
  have hx0:H0 x=none:=by
    cases q:H0 x with
    | none=>rfl
    | some o=>rw [s0 x o q] at hx; cases hx
  obtain ⟨rfl,r2,s2⟩:=xr_on hx s r fl hT2
  exact hE C' x dx fs _ hx0 (s0.trans s2) r2 (st C' fs H' x C' (some dx) T2 p ⟨_,fl.1⟩ hT2)
def Stb (P:List (Str × V)→Hp→Prop):Prop:=∀ fs H' x C' d T2,P fs H'→(∃ φ,H' x=some (.ext φ))→H' T2=none→P fs (thrown H' x C' d T2)
theorem stb_eq {l:List (Str × V)}:Stb fun fs _=>fs=l:=fun _ _ _ _ _ _ p _ _=>p
def RU (H:Hp) (E:XK):Addr→List (Str × V)→Hp→Prop:=fun C fs H'=>∃ P,Rf H E C P∧P fs H'∧Stb P
theorem pass_u {H:Hp} {E:XK}:∀ x C d T T2 H',XE H (RU H E) (.ref x) d H'→Flown H' x C d T→H' T2=none→T2≠x→E (.ref x) d (thrown H' x C d T2) :=
  XE.on (Same.refl H) (fun C fs H' x C' d T2 ⟨P,r,p,st⟩ hx hT=>⟨P,r,st fs H' x C' d T2 p hx hT,st⟩) fun C x d fs H' hx s r ⟨P,rf,p,_⟩=>rf x d fs H' hx s r p
theorem rf_u {H H2:Hp} {E:XK} {C:Addr} {P:List (Str × V)→Hp→Prop} (s:Same H H2) (r:Rf H E C P) (st:Stb P):Rf H2 (XE H (RU H E)) C P:=fun x d fs H' hx s2 xr p=>by
  have hx0:H x=none:=by
    cases q:H x with
    | none=>rfl
    | some o=>rw [s x o q] at hx; cases hx
  exact ⟨x,C,d,fs,rfl,rfl,hx0,s.trans s2,xr,P,r,p,st⟩
end L2
namespace L2
open PySem PySem.Spec PyProof.Rows PySem.W
section
variable {X:Cx} {pins:List (Addr × Obj)} {σ:St} {H:Hp} {s:Shared}
end
end L2
namespace L2
open PySem PySem.Spec PyProof.Rows PySem.W
section
variable {X:Cx} {k j:Nat} {x:Str} {C:Addr} {ps:List Str} {sp:Sp} {p pos:Pos} {e:Expr} {es:List Expr} {t:TA} {E:XK}
end
section
variable {X:Cx} {i im:Nat} {n m g:Str} {G:Addr} {value:Expr} {b₀:Stmt} {suite:List Stmt} {np apos gp hpos pos:Pos} {te:XK→TE} {ts:TS}
end
end L2
namespace L2
open PySem PySem.Spec PyProof.Rows
def tCompF (wi:TI) (g:TG) (tc:TT) (te:TE) (fr:List (Option Nat)):TE:=fun σ H Q=>wi σ H fun J H1=>∀ acc,H1 acc=none→∃ W:Nat→Nat→St→Hp→Prop,(∃ m,W 0 m (stC fr σ) (upd H1 acc (.lst [])))∧∀ i m σ1 H2,W i m σ1 H2 →
  (J.stop i H2∧Q (.ref acc) H2)∨(J.go i H2∧∀ x H3,J.yld i H2 x H3→g x σ1 H3 fun σ4 H4=>tc σ4 H4 fun b Hb=>match b with
    | true=>te σ4 Hb fun v H5=>∃ xs,H5 acc=some (.lst xs)∧xs.length < sizeLine∧∃ m',m' < m∧W (i+1) m' σ4 (upd H5 acc (.lst (xs++[v])))
    | false=>∃ m',m' < m∧W (i+1) m' σ4 Hb)
section
variable {prog:Program} {w:World} {A:Around} {R:Result→Shared→Prop} {s:Shared}
theorem compLoop_anyF {elt target iter cnd:Expr} {scope:Scope} {pos:Pos} {it acc:Value} {env:Env} (I:Nat→Shared→Prop)
    (turn:∀ n s,I n s→wpAny (model prog w) A (pyNext it) (fun r s₁=>match r with
      | none=>R (.ok .next) s₁
      | some v=>wpAny (model prog w) A (letOwnedTupleGo target it v) (fun _ s₁=>wpAny (model prog w) A (assign target env v) (fun _ s₂ =>
          wpAny (model prog w) A (forIn [cnd] true fun c r=>if r=true then do let ok ← isTrue c env (eval c env); pure (ForInStep.yield ok) else pure (ForInStep.yield r)) (fun ok s₃ =>
            if ok=true then wpAny (model prog w) A (eval elt env) (fun x s₄=>wpAny (model prog w) A (call (.builtin "list.append") [acc,x]) (fun _ s₅=>∃ m,m < n∧I m s₅) (notedBy (model prog w) A env fun e s'=>R (.error e) s') s₄)
              (notedBy (model prog w) A env fun e s'=>R (.error e) s') s₃
            else ∃ m,m < n∧I m s₃) (notedBy (model prog w) A env fun e s'=>R (.error e) s') s₂)
          (notedBy (model prog w) A env fun e s'=>R (.error e) s') s₁) (notedBy (model prog w) A env fun e s'=>R (.error e) s') s₁) (notedBy (model prog w) A env fun e s'=>R (.error e) s') s)
    (n:Nat) (h:I n s) :
    codeAny (model prog w) A (.compLoop (.ListComp elt [⟨target,iter,[cnd],0⟩] scope pos) 0 it acc env) R s:=by
  refine codeAny_loop rfl I (fun n s hI=>?_) n h
  show wpAny _ _ ((compTurn (.ListComp elt [⟨target,iter,[cnd],0⟩] scope pos) 0 it acc env).onRaise (fun x=>do noteFrame x env; theTreesLotGoes x)) _ _ s
  refine wpAny_noted ?_
  rw [compTurn_list]
  refine wpAny_bind (wpAny_standAt (wpAny_bind (wpAny_mono (turn n s hI) (fun r s₁ h₁=>?_) fun _ _ h'=>h')))
  cases r with
  | none=>exact wpAny_pure h₁
  | some v =>
    refine wpAny_bind (wpAny_mono h₁ (fun _ s₁ h₁=>?_) fun _ _ h'=>h')
    refine wpAny_bind (wpAny_mono h₁ (fun _ s₂ h₂=>wpAny_bind (wpAny_mono h₂ (fun ok s₃ h₃=>?_) fun _ _ h'=>h')) fun _ _ h'=>h')
    cases ok with
    | false=>exact wpAny_pure ⟨rfl,h₃⟩
    | true=>exact wpAny_bind (wpAny_bind (wpAny_mono h₃ (fun x s₄ h₄=>wpAny_bind (wpAny_mono h₄ (fun _ s₅ h₅=>wpAny_pure (wpAny_pure ⟨rfl,h₅⟩)) fun _ _ h'=>h')) fun _ _ h'=>h'))
end
section
variable {X:Cx} {elt tg iter:Expr} {scope:Scope} {pos:Pos} {wi:TI} {g:TG} {te:TE} {N:List Str} {fr:List (Option Nat)}
variable {cnd:Expr} {tc:TT}
theorem comp_coreF {pins:List (Addr × Obj)} {σ:St} {H:Hp} {s:Shared} {Q:VK} {cl:List (Str × Addr)} {R:Value→Addr→Result→Shared→Prop} (hc:X.calm=true) (I:Inv X pins σ H s) (hi:PI X tg iter wi)
    (hg:∀ cl C s H ex,PG (compCx X scope cl N C s H ex) tg g) (hcn:∀ cl C s H ex,PT (compCx X scope cl N C s H ex) cnd tc) (he:∀ cl C s H ex,PE (compCx X scope cl N C s H ex) elt te) (ck:CompChk X.env.scope X.N scope N fr)
    (c1:∀ x c,cl.lookup x=some c→X.env.cells.lookup x=some c) (c2:∀ x,(x,NameKind.free)∈scope.names→∃ c,cl.lookup x=some c)
    (h:tCompF wi g tc te fr σ H Q)
    (hR:∀ acc C s' H' m,s'.heap.Ns C m→FpOk X pins H' C→Inv X pins σ H' s'→Q (.ref acc) H'→R (.ref acc) C (.ok .next) s') :
    wpAny (model X.prog X.w) X.A (eval iter X.env) (fun x s₁=>wpAny (model X.prog X.w) X.A (pyIter x) (fun it s₂=>wpAny (model X.prog X.w) X.A (newList []) (fun acc s₃ =>
      wpAny (model X.prog X.w) X.A (newFunctionEnv scope X.env.globals cl [] X.env.qual none .none (some X.env)) (fun cenv s₄ =>
        codeAny (model X.prog X.w) X.A (.compStart (.ListComp elt [⟨tg,iter,[cnd],0⟩] scope pos) 0 it acc { cenv with scope:=relabel scope X.env }) (R acc cenv.locals) s₄) X.xe s₃) X.xe s₂) X.xe s₁) X.xe s:=by
  refine thn (hi pins s σ H _ I h) fun v s1 h1=>thn h1 fun itv s2 h2=>?_
  obtain ⟨it,fp,tn,J,H2,e,I2,T,st2,f2,q2⟩:=h2
  subst e
  refine wpAny_newObj_type (wpAny_newFunctionEnv ck.nocell (by intro y hy; simp at hy) (fun h₁ hns₁ hsb₁=>?_) ck.kind)
  dsimp only at hns₁ hsb₁ ⊢
  have I3:Inv X pins σ (upd H2 s2.heap.objs.size (.lst [])) { s2 with heap:=s2.heap.push { cls:=.type "list",dict:=none,data:=.seq ([]:List Value).toArray } }:=I2.lnew (t':=s2.toks) (its:=[]) .nil (Nat.zero_le _)
  have acc0:H2 s2.heap.objs.size=none:=I2.fresh
  obtain ⟨W,⟨m0,w0⟩,turn⟩:=q2 s2.heap.objs.size acc0
  generalize hH3:s2.heap.push { cls:=.type "list",dict:=none,data:=.seq ([]:List Value).toArray }=h3 at hns₁ hsb₁ I3 ⊢
  have hz3:h3.objs.size=s2.heap.objs.size+1:=by rw [← hH3,Heap.size_push]
  have k23:∀ b o,s2.heap.get? b=some o→h3.get? b=some o:=fun b o e=>by rw [← hH3]; exact Heap.get?_push_of_some _ e
  have k34:∀ b o,h3.get? b=some o→h₁.get? b=some o:=fun b o e=>hsb₁.extBut b o (Nat.ne_of_lt (Heap.lt_size e)) (Heap.get?_push_of_some _ e)
  have fpo:∀ b∈fp,∃ o,s2.heap.get? b=some o∧∀ v,o.data≠.cell v:=T.obj 0 _ st2
  have hex:∀ b∈fp,FpOk X pins (upd H2 s2.heap.objs.size (.lst [])) b∧b < h3.objs.size:=fun b hb=>by
    obtain ⟨o,eo,_⟩:=fpo b hb
    have lt:=Heap.lt_size eo
    obtain ⟨f0,fr'⟩:=f2 b hb
    exact ⟨⟨by rw [upd_ne (Nat.ne_of_lt lt)]; exact f0,fr'⟩,by rw [hz3]; exact Nat.lt_succ_of_lt lt⟩
  have I4:Inv (compCx X scope cl N h3.objs.size { s2 with heap:=h3 } (upd H2 s2.heap.objs.size (.lst [])) fp) [] (stC fr σ) (upd H2 s2.heap.objs.size (.lst [])) { s2 with heap:=h₁,toks:=s2.toks+([]:List (Str × Value)).length } :=
    comp_entry I3 ck c1 c2 hex (Nat.le_refl _) hns₁ k34 rfl rfl
  have stat:∀ {H':Hp},(∀ b∈fp,H' b=none)→∀ b∈fp,FpOk (compCx X scope cl N h3.objs.size { s2 with heap:=h3 } (upd H2 s2.heap.objs.size (.lst [])) fp) [] H' b:=fun hn b hb =>
    ⟨hn b hb,(I4.ok.exf b hb).1,I4.ok.exfs b hb,.inl hb,(I4.ok.exf b hb).2,fun p hp=>by simp at hp⟩
  have stn:∀ i h h',tn i h→(∀ b o,h.get? b=some o→h'.get? b=some o)→tn i h':=fun i h h' st kk=>T.keep i h h' st fun b _ o e=>kk b o e
  have loop:codeAny (model X.prog X.w) X.A (.compLoop (.ListComp elt [⟨tg,iter,[cnd],0⟩] scope pos) 0 (.ref it) (.ref s2.heap.objs.size) (compEnvC scope cl h3.objs.size X.env)) (R (.ref s2.heap.objs.size) h3.objs.size)
      { s2 with heap:=h₁,toks:=s2.toks+([]:List (Str × Value)).length }:=by
    refine compLoop_anyF (fun n s'=>∃ i σ' H',Inv (compCx X scope cl N h3.objs.size { s2 with heap:=h3 } (upd H2 s2.heap.objs.size (.lst [])) fp) [] σ' H' s'∧tn i s'.heap∧(∀ b∈fp,H' b=none)∧W i n σ' H') ?_ m0
      ⟨0,_,_,I4,stn _ _ _ st2 fun b o e=>k34 b o (k23 b o e),fun b hb=>(hex b hb).1.1,w0⟩
    rintro n s3 ⟨i,σ3,H3,J3,st3,fr3,w3⟩
    rcases turn i n σ3 H3 w3 with ⟨stop,qn⟩ | ⟨go,step⟩
    · refine wpFalse (thn (T.done (compCx X scope cl N h3.objs.size { s2 with heap:=h3 } (upd H2 s2.heap.objs.size (.lst [])) fp) rfl rfl rfl hc i [] s3 σ3 H3 (fun _ _=>False) J3 (stat fr3) st3 stop) fun r s4 ⟨hr,J4⟩=>?_)
      subst hr
      obtain ⟨mc,hmc,_⟩:=J4.loc
      have I5:Inv X pins σ H3 s4:=I3.call' (ch:=fp) J4.os J4.base J4.hok J4.bare fun b hb=>⟨(hex b hb).1.2.2.2.1,(hex b hb).1.2.1,(hex b hb).1.2.2.2.2.1,(hex b hb).1.2.2.2.2.2⟩
      exact hR _ _ s4 H3 mc hmc (I3.fpOk (Nat.le_refl _) J4.free) I5 qn
    · refine wpFalse (thn (T.item (compCx X scope cl N h3.objs.size { s2 with heap:=h3 } (upd H2 s2.heap.objs.size (.lst [])) fp) rfl rfl rfl hc i [] s3 σ3 H3 (fun _ _=>False) J3 (stat fr3) st3 go) fun r s4 ⟨u,hr,h4⟩=>?_)
      subst hr
      refine wpFalse (thn h4 fun _ s5 ⟨x,H5,J5,r5,y5,st5,fr5⟩=>?_)
      have J5':=J5.pinned (stat fr5) (T.obj _ _ st5)
      refine wpFalse (thn (hg _ _ _ _ _ _ s5 σ3 H5 x u _ J5' r5 (step x H5 y5)) fun _ s6 ⟨σ6,H6,J6,q6⟩=>?_)
      refine wpAny_tests_one (wpFalse (thn (hcn _ _ _ _ _ _ s6 σ6 H6 _ J6 q6) fun b sb ⟨Hb,Jb,qb⟩=>?_))
      cases b with
      | false =>
        obtain ⟨m',hm',w7⟩:=qb
        refine ite_ff ⟨m',hm',i+1,σ6,_,Jb.unpinned,T.keep _ _ _ st5 fun b hb o e=>(Jb.pin (b,o) (List.mem_append_right _ (List.mem_append_right _ (mem_pinsAt hb e)))).1,fun b hb=>?_,w7⟩
        obtain ⟨o,e,d⟩:=T.obj _ _ st5 b hb
        exact (Jb.pin (b,o) (List.mem_append_right _ (List.mem_append_right _ (mem_pinsAt hb e)))).2.1
      | true =>
        refine ite_tt ?_
        refine wpFalse (thn (he _ _ _ _ _ _ sb σ6 Hb _ Jb qb) fun y s7 ⟨v7,H7,J7,r7,xs,hx,hz,m',hm',w7⟩=>?_)
        refine wpFalse (thn (mt_append _ s7 σ6 H7 (.ref s2.heap.objs.size) [v7] (.ref s2.heap.objs.size) [y] (fun v H8=>H8=upd H7 s2.heap.objs.size (.lst (xs++[v7]))) J7 rfl (.cons r7 .nil) ⟨_,xs,v7,rfl,rfl,hx,hz,rfl⟩) fun _ s8 ⟨_,H8,J8,_,e8⟩=>?_)
        subst e8
        refine ⟨m',hm',i+1,σ6,_,J8.unpinned,T.keep _ _ _ st5 fun b hb o e=>(J8.pin (b,o) (List.mem_append_right _ (List.mem_append_right _ (mem_pinsAt hb e)))).1,fun b hb=>?_,w7⟩
        obtain ⟨o,e,d⟩:=T.obj _ _ st5 b hb
        exact (J8.pin (b,o) (List.mem_append_right _ (List.mem_append_right _ (mem_pinsAt hb e)))).2.1
  exact codeAny_compStart_list loop (T.self _ 0 _ _ _ (stn _ _ _ st2 fun b o e=>k34 b o (k23 b o e)) loop)
theorem pe_compF (hc:X.calm=true) (hi:PI X tg iter wi) (hg:∀ cl C s H ex,PG (compCx X scope cl N C s H ex) tg g) (hcn:∀ cl C s H ex,PT (compCx X scope cl N C s H ex) cnd tc) (he:∀ cl C s H ex,PE (compCx X scope cl N C s H ex) elt te)
    (hk:compChk X.env.scope X.N scope N fr=true:=by rfl) (hs:∀ x,foldedSetIterable iter X.env x=pure x:=by intro _; rfl):PE X (.ListComp elt [⟨tg,iter,[cnd],0⟩] scope pos) (tCompF wi g tc te fr):=by
  intro pins s σ H Q I h
  have ck:=compChk_of hk
  obtain ⟨cl,e1,c1,c2⟩:=comp_cl I.ok ck
  rw [eval_ListComp]
  refine wpAny_comprehension_free (use:=none) (Q:=EP X pins σ Q) rfl hs e1 ck.kind ck.loc (comp_coreF (R:=fun acc C=>compPost (model X.prog X.w) X.A X.xe none (EP X pins σ Q) acc C) hc I hi hg hcn he ck c1 c2 h fun acc C s' H' m hn f I' q=>?_)
  obtain ⟨f0,f1,f2,f3,f4,f5⟩:=f
  exact ⟨m,hn,fun h' hs'=>⟨.ref acc,H',I'.turned (t':=s'.toks) (fun b o hb e=>hs'.extBut b o hb e) f0 f1 f3 f4 f5,rfl,q⟩⟩
theorem ps_setCompF {y:Str} {py spos:Pos} {gy:TG} (hc:X.calm=true) (hy:PG X (.Name y py) gy) (hi:PI X tg iter wi) (hg:∀ cl C s H ex,PG (compCx X scope cl N C s H ex) tg g) (hcn:∀ cl C s H ex,PT (compCx X scope cl N C s H ex) cnd tc) (he:∀ cl C s H ex,PE (compCx X scope cl N C s H ex) elt te)
    (hk:compChk X.env.scope X.N scope N fr=true:=by rfl) (hsw:swapsWith (.ListComp elt [⟨tg,iter,[cnd],0⟩] scope pos) (some (.Name y py)) spos.line X.env=pure true:=by rfl) (hs:∀ x,foldedSetIterable iter X.env x=pure x:=by intro _; rfl) :
    PS X (.Assign [.Name y py] (.ListComp elt [⟨tg,iter,[cnd],0⟩] scope pos) spos) (tAsg (tCompF wi g tc te fr) gy):=by
  intro pins s σ H D I h
  have ck:=compChk_of hk
  obtain ⟨cl,e1,c1,c2⟩:=comp_cl I.ok ck
  rw [exec_Assign_Name_used _ _ _ _ hsw]
  refine wpAny_bind (wpAny_standAt (wpAny_bind ?_))
  show wpAny _ X.A (do let _ ← comprehension (.ListComp elt [⟨tg,iter,[cnd],0⟩] scope pos) scope X.env _ (newList []) false (eval iter X.env) (some (assign (.Name y py) X.env))) _ _ s
  refine wpAny_bind (wpAny_mono (wpAny_comprehension_free (use:=some (assign (.Name y py) X.env)) (Q:=fun _ s'=>SP X pins D .next s') rfl hs e1 ck.kind ck.loc
    (comp_coreF (R:=fun acc C=>compPost (model X.prog X.w) X.A X.xe (some (assign (.Name y py) X.env)) (fun _ s'=>SP X pins D .next s') acc C) hc I hi hg hcn he ck c1 c2 h fun acc C s' H' m hn f I' q=>?_)) (fun _ s' hq=>wpAny_pure (wpAny_pure hq)) fun _ _ e=>e)
  show wpAny _ X.A (assign (.Name y py) X.env (.ref acc)) _ _ _
  obtain ⟨oC,es,ep,hoC,hdC,hrC⟩:=id hn
  have IP:=I'.pinned (fp:=[C]) (fun b hb=>by rw [List.mem_singleton.mp hb]; exact f) (fun b hb=>by rw [List.mem_singleton.mp hb]; exact ⟨oC,hoC,fun v z=>by rw [hdC] at z; cases z⟩)
  refine thn (hy _ s' σ H' (.ref acc) (.ref acc) _ IP rfl q) fun _ s'' ⟨σ6,H6,I6,q6⟩=>?_
  have pC:=I6.pin (C,oC) (List.mem_append_right _ (List.mem_append_right _ (mem_pinsAt (List.mem_singleton.mpr rfl) hoC)))
  obtain ⟨f0,f1,f2,f3,f4,f5⟩:=f
  exact ⟨m,⟨oC,es,ep,pC.1,hdC,hrC⟩,fun h' hs'=>⟨σ6,H6,I6.unpinned.turned (t':=s''.toks) (fun b o hb e=>hs'.extBut b o hb e) pC.2.1 f1 f3 f4 f5,q6⟩⟩
end
end L2
namespace L2
open PySem PySem.Spec PyProof.Rows
section
variable {X:Cx} {a b c d:Expr} {ta tb tc td:TE} {pos:Pos}
theorem ix_tupK {K:PySem.W.Frag} (hK:X.K=K:=by rfl):IxR X (rIxT K):=by subst hK; exact ix_tup
theorem ix_listK {K:PySem.W.Frag} (hK:X.K=K:=by rfl):IxR X (rIxL K):=by subst hK; exact ix_list
end
def fW (acc:Addr) (n:Nat) (Pv:Nat→List V→St→Hp→Prop) (i m:Nat) (σ:St) (H:Hp):Prop:=i≤n∧m=n - i∧∃ xs,xs.length≤i∧H acc=some (.lst xs)∧Pv i xs σ H
def fNx (acc:Addr) (n:Nat) (Pv:Nat→List V→St→Hp→Prop) (i:Nat) (σ:St) (v:V) (H:Hp):Prop:=∃ xs,H acc=some (.lst xs)∧xs.length < sizeLine∧∃ m',m' < n - i∧fW acc n Pv (i+1) m' σ (upd H acc (.lst (xs++[v])))
def fSk (acc:Addr) (n:Nat) (Pv:Nat→List V→St→Hp→Prop) (i:Nat) (σ:St) (H:Hp):Prop:=∃ m',m' < n - i∧fW acc n Pv (i+1) m' σ H
theorem fNx.mk {acc:Addr} {n:Nat} {Pv:Nat→List V→St→Hp→Prop} {i:Nat} {σ:St} {v:V} {H:Hp} {xs:List V} (hn:n≤sizeLine) (hi:i < n) (hl:xs.length≤i) (ha:H acc=some (.lst xs)) (hp:Pv (i+1) (xs++[v]) σ (upd H acc (.lst (xs++[v])))) :
    fNx acc n Pv i σ v H:=⟨xs,ha,by omega,n - (i+1),by omega,hi,rfl,xs++[v],by rw [List.length_append,List.length_singleton]; omega,upd_same,hp⟩
theorem fSk.mk {acc:Addr} {n:Nat} {Pv:Nat→List V→St→Hp→Prop} {i:Nat} {σ:St} {H:Hp} {xs:List V} (hi:i < n) (hl:xs.length≤i) (ha:H acc=some (.lst xs)) (hp:Pv (i+1) xs σ H):fSk acc n Pv i σ H:=⟨n - (i+1),by omega,hi,rfl,xs,by omega,ha,hp⟩
theorem comp_listF {K:PySem.W.Frag} {a:Addr} {ys:List V} {g:TG} {tc:TT} {te:TE} {σ:St} {H1:Hp} {acc:Addr} {Qr:Hp→Prop} (Pv:Nat→List V→St→Hp→Prop) (h0:Pv 0 [] σ (upd H1 acc (.lst [])))
    (hq:∀ i xs σ H,i≤ys.length→H acc=some (.lst xs)→Pv i xs σ H→SqL K H a ys)
    (hs:∀ i x xs σ H,ys[i]?=some x→i < ys.length→xs.length≤i→H acc=some (.lst xs)→Pv i xs σ H→g x σ H fun σ2 H2=>tc σ2 H2 fun b Hb=>match b with
      | true=>te σ2 Hb fun v H3=>fNx acc ys.length Pv i σ2 v H3
      | false=>fSk acc ys.length Pv i σ2 Hb)
    (hd:∀ xs σ H,xs.length≤ys.length→H acc=some (.lst xs)→Pv ys.length xs σ H→Qr H) :
    ∃ W:Nat→Nat→St→Hp→Prop,(∃ m,W 0 m σ (upd H1 acc (.lst [])))∧∀ i m σ1 H2,W i m σ1 H2 →
      ((Itl K a).stop i H2∧Qr H2)∨((Itl K a).go i H2∧∀ x H3,(Itl K a).yld i H2 x H3→g x σ1 H3 fun σ4 H4=>tc σ4 H4 fun b Hb=>match b with
        | true=>te σ4 Hb fun v H5=>∃ xs,H5 acc=some (.lst xs)∧xs.length < sizeLine∧∃ m',m' < m∧W (i+1) m' σ4 (upd H5 acc (.lst (xs++[v])))
        | false=>∃ m',m' < m∧W (i+1) m' σ4 Hb):=by
  refine ⟨fW acc ys.length Pv,⟨ys.length,Nat.zero_le _,rfl,[],Nat.le_refl _,upd_same,h0⟩,?_⟩
  rintro i m σ1 H2 ⟨hi,rfl,xs,hl,ha,hp⟩
  have hsq:=hq i xs σ1 H2 hi ha hp
  rcases Nat.lt_or_ge i ys.length with h | h
  · refine .inr ⟨⟨ys,ys[i],hsq,List.getElem?_eq_getElem h⟩,?_⟩
    rintro x H3 ⟨rfl,hx⟩
    exact hs i x xs σ1 H3 (hx ys hsq) h hl ha hp
  · have e:i=ys.length:=Nat.le_antisymm hi h
    subst e
    exact .inl ⟨⟨ys,hsq,Nat.le_refl _⟩,hd xs σ1 H2 hl ha hp⟩
end L2
namespace L2
open PySem PySem.Spec PyProof.Rows PySem.W
section
variable {X:Cx}
theorem pass_no:Passes (CX1 X.prog X.w) X (fun _ _ _=>False):=by
  rintro pins σ H s e s' I ⟨x,T,C,d,H',rfl,os,bare,un,hok,fl,q⟩
  exact False.elim q
end
end L2
namespace L2
open PySem PySem.Spec PyProof.Rows
theorem Paired.get {α β:Type} {F:α→β→Prop}:∀ {l₁:List α} {l₂:List β},Paired F l₁ l₂→∀ {i:Nat} {a:α},l₁[i]?=some a→∃ b,l₂[i]?=some b∧F a b
  | _,_,.nil,i,a,h=>by simp at h
  | _,_,.cons f t,0,a,h=>by
    simp only [List.getElem?_cons_zero,Option.some.injEq] at h
    subst h
    exact ⟨_,rfl,f⟩
  | _,_,.cons f t,i+1,a,h=>by
    simp only [List.getElem?_cons_succ] at h ⊢
    exact Paired.get t h
theorem kV_rel {P:Program} {w:World} {k:Key} {u:Value} (h:(mixKind P w).is k u=true):RelV (kV k) u:=by
  rcases keyIs_shape (show keyIs k u=true from h) with ⟨i,t,rfl,rfl⟩ | ⟨x,t,rfl,rfl⟩
  · exact ⟨t,rfl⟩
  · exact ⟨t,rfl⟩
def Itm (a:Addr) (ob:Obj):It :=
  ⟨fun i H=>∃ kvs p,H a=some (.frz ob (.dK kvs))∧kvs[i]?=some p,
   fun i H y H'=>∃ t p,(∀ kvs,H a=some (.frz ob (.dK kvs))→kvs[i]?=some p)∧y=.ref t∧H t=none∧H'=upd H t (.tup [kV p.1,p.2]),
   fun i H=>∃ kvs,H a=some (.frz ob (.dK kvs))∧kvs.length≤i⟩
theorem frz_at {P:Program} {w:World} {H:Hp} {h:Heap} {a:Addr} {ob:Obj} {kvs:List (Key × V)} {ents:Array DictEntry} {n ep:Nat} (ok:HOk P w H h) (e:H a=some (.frz ob (.dK kvs))) (hd:ob.data=.dict ents ep) (hn:ents.size=n) :
    ∃ vs,KV kvs vs∧h.DictAt (mixKind P w) a vs ep∧vs.length=n:=by
  obtain ⟨ho,_,_,vs,rel,o,es,ep',h1,h2,h3,h4,h5,h6⟩:=(show ObjOk P w H h a (.frz ob (.dK kvs)) from ok a _ e)
  rw [ho] at h1
  cases h1
  rw [hd] at h3
  cases h3
  refine ⟨vs,rel,⟨_,_,ho,h2,hd,h4,h5,h6⟩,?_⟩
  rw [← h5.length,Array.length_toList]
  exact hn
theorem turn_items {P:Program} {w:World} {K:PySem.W.Frag} {es:List Expr} {k:Nat} {pos:Pos} (a it:Addr) {ob:Obj} {ents:Array DictEntry} {n ep:Nat} (hd:ob.data=.dict ents ep) (hn:ents.size=n) :
    Turn P w K (.Tuple es k pos) (Itm a ob) [it] it (fun i h=>∃ ok ov,IsItemIter h it a i n ep ok ov) where
  mem:=by simp
  obj:=fun i h st b hb=>by
    obtain ⟨ok,ov,he⟩:=st
    rw [List.mem_singleton.mp hb]
    exact ⟨_,he,fun v z=>by
      have z':Data.fields _=Data.cell v:=z
      cases z'⟩
  keep:=fun i h h' st kk=>by
    obtain ⟨ok,ov,he⟩:=st
    exact ⟨ok,ov,kk it (by simp) _ he⟩
  item:=by
    intro X hP hw hK hc i pins s σ H E I hf st hg
    subst hP hw hK
    obtain ⟨ok,ov,he⟩:=st
    obtain ⟨kvs,p,hq,hx⟩:=hg
    obtain ⟨vs,rel,hat,hl⟩:=frz_at I.hok hq hd hn
    obtain ⟨⟨k',u⟩,hu,hk',ru⟩:=Paired.get rel hx
    have fi:=hf it (by simp)
    subst hl
    refine wpAny_pyNext_items_item he hat hu fun key h' hkey ho hT hsz kk=>?_
    refine ⟨_,rfl,?_⟩
    have hfr:H s.heap.objs.size=none:=I.hok.fresh (Nat.le_refl _)
    have ltI:it < s.heap.objs.size:=Heap.lt_size he
    have rk:RelV (kV p.1) key:=by
      have e:p.1=k':=hk'
      rw [e]
      exact kV_rel hkey
    have I1:Inv X pins σ (upd H s.heap.objs.size (.tup [kV p.1,p.2])) { s with heap:=h',toks:=s.toks }:=by
      refine enum_step I fi fi (fun b o nb _ z=>kk b o nb z) ⟨_,ho⟩ ⟨_,ho⟩ ⟨?_,[key,u],.cons rk (.cons ru .nil),⟨_,hT,rfl,_,rfl⟩⟩
      show 2≤sizeLine
      decide
    refine wpAny_letOwnedTupleGo_items (s:={ s with heap:=h' }) ho fun h2 he2 sb=>?_
    have nI:it≠s.heap.objs.size:=Nat.ne_of_lt ltI
    have fi2:(upd H s.heap.objs.size (.tup [kV p.1,p.2])) it=none:=by rw [upd_ne nI]; exact fi.1
    have I2:Inv X pins σ (upd H s.heap.objs.size (.tup [kV p.1,p.2])) { ({ s with heap:=h',toks:=s.toks }:Shared) with heap:=h2,toks:=s.toks } :=
      I1.turned (t':=s.toks) (it:=it) (fun b o hb z=>(sb.2 b hb).trans z) fi2 fi.2.1 fi.2.2.2.1 fi.2.2.2.2.1 fi.2.2.2.2.2
    refine ⟨.ref s.heap.objs.size,_,I2,rfl,⟨_,p,fun ys hy=>?_,rfl,hfr,rfl⟩,⟨_,_,he2⟩,fun b hb=>?_⟩
    · rw [hq] at hy
      cases hy
      exact hx
    · rw [List.mem_singleton.mp hb]; exact fi2
  done:=by
    intro X hP hw hK hc i pins s σ H E I hf st hg
    subst hP hw hK
    obtain ⟨ok,ov,he⟩:=st
    obtain ⟨kvs,hq,hx⟩:=hg
    obtain ⟨vs,rel,hat,hl⟩:=frz_at I.hok hq hd hn
    obtain ⟨f0,f1,f2,f3,f4,f5⟩:=hf it (by simp)
    have hle:kvs.length=vs.length:=rel.length
    subst hl
    exact wpAny_pyNext_items_end (I.ok.hd hc) he hat (List.getElem?_eq_none (by omega)) fun h' eb=>⟨rfl,I.turned (t':=s.toks) (fun b o hb z=>eb b o hb z) f0 f1 f3 f4 f5⟩
  self:=fun _ _ _ _ _ st h=>by
    obtain ⟨ok,ov,he⟩:=st
    exact PySem.W.kcp_self he h
def iItems (td:TE):TI:=fun σ H R=>td σ H fun x H1=>∃ a kvs,x=.ref a∧H1 a=some (.dK kvs)∧∀ ob,R (Itm a ob) (upd H1 a (.frz ob (.dK kvs)))
section
variable {X:Cx}
theorem pi_items {o:Expr} {es:List Expr} {k:Nat} {tpos apos cpos:Pos} {td:TE} (hp:PE X o td)
    (hb:attributeBase o "items" X.env (eval o X.env)=eval o X.env:=by rfl) (hline:(apos.endLine == cpos.line)=true:=by rfl) :
    PI X (.Tuple es k tpos) (.Call (.Attribute o "items" apos) [] [] cpos) (iItems td):=by
  intro pins s σ H R I h
  refine wpAny_Call_method0_late hb hline (thn (hp pins s σ H _ I h) fun v s1 ⟨x,H1,I1,r1,q1⟩=>?_)
  obtain ⟨a,kvs,e,ea,q⟩:=q1
  subst e
  cases r1
  obtain ⟨hty,hnd,hsys⟩:=isD_at I1 (.inl ⟨kvs,.inl ea⟩)
  obtain ⟨_,_,vs,rel,dd⟩:=dk_of I1.hok ea
  refine ⟨"dict","dict.items",PySem.F.plainAttrs_dict,PySem.F.slot_dict_items,PySem.F.type_dict_items,hty,hnd,Calls.callWith_builtin rfl (PySem.evalArgs_none ?_)⟩
  refine call_meetsIn PySem.F.slot_dict_items dd.typeIs PySem.F.entry_dict_items (PySem.F.args_dict_items_1 _) (meets_dict_items (mixKind X.prog X.w) a hsys) ⟨⟨vs,dd⟩,?_⟩
  obtain ⟨ob,ents,ep,g1,g2,g3,g4,g5,g6⟩:=id dd
  have hat:s1.heap.DictAt (mixKind X.prog X.w) a vs ep:=⟨ob,ents,g1,g2,g3,g4,g5,g6⟩
  refine wpAny_pyIter_items (knd:=mixKind X.prog X.w) ⟨_,Heap.get?_push_size _ rfl,rfl,rfl⟩ (hat.push _) ?_
  have I2:Inv X pins σ H1 { s1 with heap:=s1.heap.push { cls:=.type "dict_items",data:=.fields #[.ref a] },toks:=s1.toks }:=I1.kept fun b u z=>Heap.get?_push_of_some _ z
  have I3:=I2.kept (h':=(s1.heap.push { cls:=.type "dict_items",data:=.fields #[.ref a] }).push { cls:=.type "dict_itemiterator",data:=.fields #[.none,.bool false,.ref a,.int 0 0,.int vs.length 0,.int ep 0,.none,.none] }) (t':=s1.toks) fun b u z=>Heap.get?_push_of_some _ z
  have g1':((s1.heap.push { cls:=.type "dict_items",data:=.fields #[.ref a] }).push { cls:=.type "dict_itemiterator",data:=.fields #[.none,.bool false,.ref a,.int 0 0,.int vs.length 0,.int ep 0,.none,.none] }).get? a=some ob:=Heap.get?_push_of_some _ (Heap.get?_push_of_some _ g1)
  have I4:=I3.write (x:=a) (e:=a) (o:=.frz ob (.dK kvs)) (h':=(s1.heap.push { cls:=.type "dict_items",data:=.fields #[.ref a] }).push { cls:=.type "dict_itemiterator",data:=.fields #[.none,.bool false,.ref a,.int 0 0,.int vs.length 0,.int ep 0,.none,.none] }) (t':=s1.toks)
    (by rw [ea]; exact True.intro) (.inl rfl) (fun b u _ z=>z) ⟨ob,g1'⟩ ⟨g1',I3.hok a _ ea⟩
  have hsz:ents.size=vs.length:=by rw [← g5.length,Array.length_toList]
  have na:s1.heap.objs.size+1≠a:=Nat.ne_of_gt (Nat.lt_succ_of_lt (Heap.lt_size g1))
  refine ⟨(s1.heap.push { cls:=.type "dict_items",data:=.fields #[.ref a] }).objs.size,[(s1.heap.push { cls:=.type "dict_items",data:=.fields #[.ref a] }).objs.size],_,_,_,rfl,I4,turn_items a _ g3 hsz,⟨_,_,Heap.get?_push_size _ rfl⟩,fun b hb'=>?_,q ob⟩
  rw [List.mem_singleton.mp hb']
  refine I2.fpOk (Nat.le_refl _) ?_
  rw [upd_ne (by rw [Heap.size_push]; exact na)]
  exact I2.hok.fresh (Nat.le_refl _)
end
theorem for_items {a:Addr} {ob:Obj} {kvs:List (Key × V)} {g:TG} {tb:TS} {D:Ends} {σ:St} {H:Hp} (Pv:Nat→St→Hp→Prop) (h0:Pv 0 σ H) (hl:∀ i σ H,i≤kvs.length→Pv i σ H→H a=some (.frz ob (.dK kvs)))
    (hs:∀ i p σ H t,kvs[i]?=some p→Pv i σ H→H t=none→g (.ref t) σ (upd H t (.tup [kV p.1,p.2])) fun σ2 H2=>tb { D with nx:=Pv (i+1),ct:=Pv (i+1),bk:=D.nx } σ2 H2) (hd:∀ σ H,Pv kvs.length σ H→D.nx σ H) :
    ∃ W:Nat→Nat→St→Hp→Prop,(∃ m,W 0 m σ H)∧∀ i m σ H,W i m σ H →
      ((Itm a ob).stop i H∧D.nx σ H)∨((Itm a ob).go i H∧∃ N:St→Hp→Prop,(∀ σ' H',N σ' H'→∃ m',m' < m∧W (i+1) m' σ' H')∧∀ x H',(Itm a ob).yld i H x H'→g x σ H' fun σ2 H2=>tb { D with nx:=N,ct:=N,bk:=D.nx } σ2 H2):=by
  refine ⟨fun i m σ H=>m=kvs.length - i∧i≤kvs.length∧Pv i σ H,⟨kvs.length,by simp,Nat.zero_le _,h0⟩,?_⟩
  rintro i m σ H ⟨rfl,hi,p⟩
  have q:=hl i σ H hi p
  by_cases hlt:i < kvs.length
  · refine .inr ⟨⟨kvs,kvs[i],q,by simp [hlt]⟩,Pv (i+1),fun σ' H' p'=>⟨kvs.length - (i+1),by omega,rfl,hlt,p'⟩,fun x H' y=>?_⟩
    obtain ⟨t,z,hz,rfl,ht,rfl⟩:=y
    exact hs i z σ H t (hz kvs q) p ht
  · have e:i=kvs.length:=by omega
    subst e
    exact .inl ⟨⟨kvs,q,Nat.le_refl _⟩,hd σ H p⟩
section
variable {X:Cx}
theorem mt_bits:MtR X "int.bit_length" (fun x vs H Q=>∃ i,x=.int i∧vs=[]∧Q (.int (Builtin.Int.intBits i)) H):=by
  intro pins s σ H x xs v us Q I rx rv h
  obtain ⟨i,rfl,rfl,q⟩:=h
  obtain ⟨t,rfl⟩:=rx
  cases rv
  exact PyProof.Rows.call_int_bit_length ⟨.int _,H,I.tok _,⟨_,rfl⟩,q⟩
end
section
variable {prog:Program} {w:World} {A:Around} {E:Value→Shared→Prop} {s:Shared}
theorem least_at {its:List Value} {ns:List Int} {xs:Array (Int × Tok)} (hi:IntsAre its ns) (e:its.toArray=intItems xs) (hn:ns≠[]) {v:Value}
    (hv:(intItems xs)[argBest (fun i j=>decide (numAt xs i < numAt xs j)) (xs.size - 1)]?=some v):∃ m t,v=.int m t∧m∈ns∧∀ z∈ns,m≤z:=by
  have hns:ns=xs.toList.map (·.1):=by rw [← hi.numsOf,← nums_intItems,← e]
  have hsz:0 < xs.size:=by
    rcases Nat.eq_zero_or_pos xs.size with z | z
    · exact absurd (by rw [hns,List.map_eq_nil_iff,← List.length_eq_zero_iff,Array.length_toList]; exact z) hn
    · exact z
  obtain ⟨t,rfl⟩:=intItems_at hv
  obtain ⟨b1,b2⟩:=argBest_lt (numAt xs) (xs.size - 1)
  refine ⟨_,t,rfl,?_,fun z hz=>?_⟩
  · rw [hns,numAt_eq]; exact getD_mem (by rw [List.length_map,Array.length_toList]; omega)
  · rw [hns] at hz
    obtain ⟨j,hj,rfl⟩:=mem_getD hz
    rw [List.length_map,Array.length_toList] at hj
    rw [← numAt_eq]; exact b2 j (by omega)
end
section
variable {X:Cx}
theorem call_min1:CallR X (.builtin "min") (fun xs H Q=>∃ (p:Addr) (ns:List Int),xs=[.ref p]∧SqL X.K H p (ns.map V.int)∧X.calm=true∧ns≠[]∧∀ m,m∈ns→(∀ z∈ns,m≤z)→Q (.int m) H):=by
  intro pins s σ H xs us Q I r h
  obtain ⟨p,ns,rfl,hp,hc,hn,q⟩:=h
  obtain ⟨u,rfl,ru⟩:=vals1 r
  cases ru
  obtain ⟨its,rv,pl,hz⟩:=I.list hp
  have hi:=intsAre_of rv
  obtain ⟨xs,e⟩:=hi.allInts.items
  have hl:s.heap.IsList p (intItems xs):=e ▸ pl.isList
  have hsz:0 < xs.size:=by
    have l1:ns.length=its.length:=by rw [← hi.length]
    have l2:its.length=xs.size:=by
      have:=congrArg Array.size e
      simpa [intItems] using this
    have l3:0 < ns.length:=List.length_pos_iff.mpr hn
    omega
  refine min_intList (I.ok.hd hc) hl hsz fun v h' tk hv hk=>?_
  obtain ⟨m,t,rfl,hm,hle⟩:=least_at hi e hn hv
  exact ⟨.int m,H,I.kept (t':=tk) hk,⟨t,rfl⟩,q m hm hle⟩
end
section
variable {prog:Program} {w:World} {A:Around} {E:Value→Shared→Prop} {s:Shared} {R:Result→Shared→Prop} {I:Addr} {fp wr:List Addr} {n:Nat} {P:Nat→Value→Prop} {St:Nat→Heap→Prop}
theorem args_min_or (a v:Value):argsOk "min" ⟨[a],[(Str.ofString "default",v)]⟩:=by unfold argsOk; kernel_rfl
theorem minLoop_on (wk:Walks prog w A.in1 I fp wr n P St) (lt:Nat→Nat→Bool) (cmp:CmpOf prog w A.in1 .Lt P lt) (B:Addr) (hB:B ∉ fp) (dv:Value) :
    ∀ (r j:Nat) (s:Shared) (cur:Value) (c:Nat),n - (j+1)=r→j+1≤n→St (j+1) s.heap→P (argBest lt j) cur→s.heap.get? B=some { cls:=.type "list",dict:=none,data:=.seq #[cur,cur] c,slots:=#[] } →
    (∀ v h' tk,P (argBest lt (n - 1)) v→(∀ b o,b ∉ wr→b≠B→s.heap.get? b=some o→h'.get? b=some o)→R (.ok (.ret v)) { s with heap:=h',toks:=tk }) →
    codeAny (model prog w) A (.builtin "min.loop" ⟨[.ref I,.none,.ref B],[(Str.ofString "default",dv)]⟩) R s:=by
  have nB:B ∉ wr:=fun z=>hB (wk.sub _ z)
  have name:(toString "min"++toString ".loop":String)="min.loop":=by decide
  intro r
  induction r with
  | zero =>
    intro j s cur c hr hj st pc gB fin
    have hend:j+1=n:=by omega
    refine codeAny_builtin PySem.F.entry_min_loop ?_
    rw [Around.under_plainId PySem.F.plain_min_loop _]
    show wpAny (model prog w) A.in1 (seqItems? (.ref B) >>= _) _ _ s
    refine wpAny_bind (wpAny_seqItems gB rfl ?_)
    show wpAny (model prog w) A.in1 (tryCatch (pyNext (.ref I)) _ >>= _) _ _ s
    refine wpAny_bind (wpAny_tryCatch (wk.done s _ _ (hend ▸ st) fun h1 tk kp=>?_))
    have gB1:=kp B _ nB gB
    show wpAny (model prog w) A.in1 (updateSeq B (fun _=>#[]) >>= _) _ _ _
    refine wpAny_bind ?_
    refine wpAny_updateSeq gB1 rfl (wpAny_bind (wpAny_letGo (wpAny_pure ?_)))
    refine fin cur _ tk (by rw [← hend]; exact pc) fun b o bw bB z=>?_
    exact (Heap.get?_update_other _ _ (Ne.symm bB)).trans (kp b o bw z)
  | succ r ih =>
    intro j s cur c hr hj st pc gB fin
    have more:j+1 < n:=by omega
    refine codeAny_builtin PySem.F.entry_min_loop ?_
    rw [Around.under_plainId PySem.F.plain_min_loop _]
    show wpAny (model prog w) A.in1 (seqItems? (.ref B) >>= _) _ _ s
    refine wpAny_bind (wpAny_seqItems gB rfl ?_)
    show wpAny (model prog w) A.in1 (tryCatch (pyNext (.ref I)) _ >>= _) _ _ s
    refine wpAny_bind (wpAny_tryCatch (wk.item (j+1) s _ _ more st fun v h1 tk pv st1 kp=>?_))
    have gB1:=kp B _ nB gB
    show wpAny (model prog w) A.in1 (tryCatch (holding [v,v] (richCompare .Lt v cur >>= _)) _ >>= _) _ _ _
    refine wpAny_bind (wpAny_tryCatch (wpAny_holding (wpAny_bind (cmp (j+1) (argBest lt j) v cur _ _ _ pv pc ?_))))
    refine wpAny_bind (wpAny_holding (wpAny_truthy_bool (wpAny_bind (wpAny_letGo (wpAny_pure ?_)))))
    cases q:lt (j+1) (argBest lt j) with
    | true =>
      simp only [if_true]
      refine wpAny_bind ?_
      refine wpAny_updateSeq gB1 rfl (wpAny_bind (wpAny_letGo ?_))
      rw [name]
      refine wpAny_pure ⟨plainId_quiet PySem.F.plain_min_loop _,ih (j+1) _ v _ (by omega) more (wk.frame _ _ _ st1 fun b bf o z=>?_) (by simp only [argBest,q,if_true]; exact pv) (Heap.get?_update_self _ gB1 rfl) fun v2 h2 tk2 p2 k2=>?_⟩
      · have ne:B≠b:=fun z2=>hB (by rw [z2]; exact bf)
        exact (Heap.get?_update_other _ _ ne).trans z
      · exact fin v2 h2 tk2 p2 fun b o bw bB z=>k2 b o bw bB ((Heap.get?_update_other _ _ (Ne.symm bB)).trans (kp b o bw z))
    | false =>
      simp only [Bool.false_eq_true,if_false]
      refine wpAny_bind (wpAny_letGo ?_)
      rw [name]
      refine wpAny_pure ⟨plainId_quiet PySem.F.plain_min_loop _,ih (j+1) _ cur c (by omega) more st1 (by simp only [argBest,q,Bool.false_eq_true,if_false]; exact pc) gB1 fun v2 h2 tk2 p2 k2=>?_⟩
      exact fin v2 h2 tk2 p2 fun b o bw bB z=>k2 b o bw bB (kp b o bw z)
theorem minLoop_or (wk:Walks prog w A.in1 I fp wr n P St) (lt:Nat→Nat→Bool) (cmp:CmpOf prog w A.in1 .Lt P lt) (B:Addr) (hB:B ∉ fp) (dv:Value) {s:Shared} {c:Nat} (st:St 0 s.heap)
    (gB:s.heap.get? B=some { cls:=.type "list",dict:=none,data:=.seq #[] c,slots:=#[] })
    (fin:∀ v h' tk,(n=0∧v=dv∨0 < n∧P (argBest lt (n - 1)) v)→(∀ b o,b ∉ wr→b≠B→s.heap.get? b=some o→h'.get? b=some o)→R (.ok (.ret v)) { s with heap:=h',toks:=tk }) :
    codeAny (model prog w) A (.builtin "min.loop" ⟨[.ref I,.none,.ref B],[(Str.ofString "default",dv)]⟩) R s:=by
  have nB:B ∉ wr:=fun z=>hB (wk.sub _ z)
  have name:(toString "min"++toString ".loop":String)="min.loop":=by decide
  refine codeAny_builtin PySem.F.entry_min_loop ?_
  rw [Around.under_plainId PySem.F.plain_min_loop _]
  show wpAny (model prog w) A.in1 (seqItems? (.ref B) >>= _) _ _ s
  refine wpAny_bind (wpAny_seqItems gB rfl ?_)
  show wpAny (model prog w) A.in1 (tryCatch (pyNext (.ref I)) _ >>= _) _ _ s
  rcases Nat.eq_zero_or_pos n with h0 | h0
  · refine wpAny_bind (wpAny_tryCatch (wk.done s _ _ (h0 ▸ st) fun h1 tk kp=>?_))
    refine wpAny_bind (wpAny_rule (wpAny_pure ?_))
    exact fin dv h1 tk (.inl ⟨h0,rfl⟩) fun b o bw _ z=>kp b o bw z
  · refine wpAny_bind (wpAny_tryCatch (wk.item 0 s _ _ h0 st fun v h1 tk pv st1 kp=>?_))
    have gB1:=kp B _ nB gB
    show wpAny (model prog w) A.in1 (updateSeq B (fun _=>#[v,v]) >>= _) _ _ _
    refine wpAny_bind ?_
    refine wpAny_updateSeq gB1 rfl ?_
    rw [name]
    refine wpAny_pure ⟨plainId_quiet PySem.F.plain_min_loop _,minLoop_on wk lt cmp B hB dv _ 0 _ v _ rfl h0 (wk.frame _ _ _ st1 fun b bf o z=>?_) pv (Heap.get?_update_self _ gB1 rfl) fun v2 h2 tk2 p2 k2=>?_⟩
    · have ne:B≠b:=fun z2=>hB (by rw [z2]; exact bf)
      exact (Heap.get?_update_other _ _ ne).trans z
    · exact fin v2 h2 tk2 (.inr ⟨h0,p2⟩) fun b o bw bB z=>k2 b o bw bB ((Heap.get?_update_other _ _ (Ne.symm bB)).trans (kp b o bw z))
theorem min_or {Q:Value→Shared→Prop} {l:Addr} {xs:Array (Int × Tok)} {dv:Value} (hh:A.handled=none) (hl:s.heap.IsList l (intItems xs))
    (fin:∀ v h' tk,(xs.size=0∧v=dv∨0 < xs.size∧(intItems xs)[argBest (fun i j=>decide (numAt xs i < numAt xs j)) (xs.size - 1)]?=some v)→(∀ b o,s.heap.get? b=some o→h'.get? b=some o)→Q v { s with heap:=h',toks:=tk }) :
    wpAny (model prog w) A (call (.builtin "min") [.ref l] [(Str.ofString "default",dv)]) Q E s:=by
  have name:(toString "min"++toString ".loop":String)="min.loop":=by decide
  refine kmk_tree PySem.F.kind_min PySem.F.plain_min PySem.F.entry_min (args_min_or _ _) ?_
  show wpAny (model prog w) A.in1 (Builtin.Builtins.bindParams "min" ["key","default"] 0 ⟨[],[(Str.ofString "default",dv)]⟩ >>= _) _ _ s
  refine wpAny_bind (wpAny_of_eq (show Builtin.Builtins.bindParams "min" ["key","default"] 0 ⟨[],[(Str.ofString "default",dv)]⟩=pure [none,some dv] from rfl) ?_)
  refine wpAny_bind (wpAny_pure ?_)
  refine wpAny_bind (wpAny_pyIter_list hl ?_)
  refine wpAny_bind (wpAny_newList ?_ (Nat.zero_le _))
  rw [name]
  obtain ⟨ol,hol,rl⟩:=id hl
  have hlt:l < s.heap.objs.size:=Heap.lt_size hol
  have sz:(s.heap.push { cls:=.type "list_iterator",data:=.fields #[.ref l,.int 0 0] }).objs.size=s.heap.objs.size+1:=Heap.size_push ..
  have wk:=Walks.list (prog:=prog) (w:=w) (A:=A.in1) hh s.heap.objs.size l (Nat.ne_of_lt hlt) (intItems xs)
  have nn:(intItems xs).size=xs.size:=by simp [intItems]
  refine wpAny_pure ⟨plainId_quiet PySem.F.plain_min_loop _,minLoop_or wk (fun i j=>decide (numAt xs i < numAt xs j)) (CmpOf.ints_lt (numAt xs) (fun _ _=>intItems_at)) _ (fun z=>?_) dv
    ⟨⟨_,Heap.get?_push_of_some _ (Heap.get?_push_size _ rfl),rfl,rfl⟩,ol,Heap.get?_push_of_some _ (Heap.get?_push_of_some _ hol),rl⟩ (Heap.get?_push_size _ rfl) fun v h' tk hv kp=>?_⟩
  · rw [sz] at z
    rcases List.mem_cons.mp z with z | z
    · exact absurd z (Nat.succ_ne_self _)
    · have z:=List.mem_singleton.mp z
      exact absurd hlt (by rw [← z]; exact Nat.not_lt.mpr (Nat.le_succ _))
  · rw [nn] at hv
    refine fin v h' tk hv fun b o z=>kp b o (fun z2=>?_) (fun z2=>?_) (Heap.get?_push_of_some _ (Heap.get?_push_of_some _ z))
    · have z2:=List.mem_singleton.mp z2
      exact absurd (Heap.lt_size z) (by rw [z2]; exact Nat.lt_irrefl _)
    · rw [sz] at z2
      exact absurd (Heap.lt_size z) (by rw [z2]; exact Nat.not_lt.mpr (Nat.le_succ _))
end
def tMinD (K:PySem.W.Frag) (ta:TA) (td:TE):TE:=fun σ H Q=>ta σ H fun xs H1=>td σ H1 fun y H2=>∃ (p:Addr) (ns:List Int),xs=[.ref p]∧SqL K H2 p (ns.map V.int)∧(ns=[]→Q y H2)∧∀ m,m∈ns→(∀ z∈ns,m≤z)→Q (.int m) H2
section
variable {X:Cx}
theorem pe_minD {e d:Expr} {p kp pos:Pos} {ta:TA} {td:TE} (hc:X.calm=true) (hg:Gl X "min") (hm:X.mg "min"=none) (ha:PA X [e] ta) (hd:PE X d td)
    (he:backTo pos (starEach [e] X.env)=(false,eval e X.env) :: backTo pos (starEach [] X.env):=by rfl) (hn:(backTo pos (starEach [e] X.env)).any (·.1)=false:=by rfl) :
    PE X (.Call (.Name "min" p) [e] [⟨some "default",d,kp⟩] pos) (tMinD X.K ta td):=by
  intro pins s σ H Q I h
  refine wpAny_Call_Name_kw (ld_blt I hg hm boot_min ?_)
  refine PyProof.Rows.callWith_kw (thn (ha pos pins s σ H _ I h) fun us s1 ⟨vs,H1,I1,r1,q1⟩=>?_) he hn
  refine PyProof.Rows.kws_cons (thn (hd pins s1 σ H1 _ I1 q1) fun dv s2 ⟨y,H2,I2,ry,q2⟩=>PyProof.Rows.kws_nil ?_)
  obtain ⟨l,ns,rfl,hp,q0,qm⟩:=q2
  obtain ⟨u,rfl,ru⟩:=vals1 r1
  cases ru
  obtain ⟨its,rv,pl,hz⟩:=I2.list hp
  have hi:=intsAre_of rv
  obtain ⟨xs,ex⟩:=hi.allInts.items
  have hl:s2.heap.IsList l (intItems xs):=ex ▸ pl.isList
  have l0:ns.length=xs.size:=by
    have l1:ns.length=its.length:=by rw [← hi.length]
    have l2:its.length=xs.size:=by
      have:=congrArg Array.size ex
      simpa [intItems] using this
    omega
  show wpAny (model X.prog X.w) X.A (call (.builtin "min") [.ref l] [(Str.ofString "default",dv)]) _ _ s2
  refine min_or (I2.ok.hd hc) hl fun v h' tk hv kk=>?_
  rcases hv with ⟨n0,rfl⟩ | ⟨n0,hv⟩
  · have hn:ns=[]:=List.length_eq_zero_iff.mp (by omega)
    exact ⟨y,H2,I2.kept (t':=tk) kk,ry,q0 hn⟩
  · have hn:ns≠[]:=fun z=>by rw [z] at l0; simp at l0; omega
    obtain ⟨m,t,rfl,h1,h2⟩:=least_at hi ex hn hv
    exact ⟨.int m,H2,I2.kept (t':=tk) kk,⟨t,rfl⟩,qm m h1 h2⟩
end
def tInt (ta:TE):TT:=fun σ H Q=>ta σ H fun x H'=>∃ i,x=.int i∧Q (i != 0) H'
section
variable {X:Cx} {a:Expr} {ta:TE}
theorem pt_int (ha:PE X a ta) (he:∀ whole,isTrue a X.env whole=(do let v ← whole; standAt a.pos; holding [v] (truthy v)):=by intro _; rfl):PT X a (tInt ta):=by
  intro pins s σ H Q I h
  refine isTrue_plain (thn (ha pins s σ H _ I h) fun v s1 ⟨x,H1,I1,r1,q1⟩=>?_) (he _)
  obtain ⟨i,rfl,q⟩:=q1
  obtain ⟨t,rfl⟩:=r1
  exact PySem.P.truthy_int ⟨H1,I1,q⟩
end
theorem comp_rangeF {lo:Int} {n:Nat} {g:TG} {tc:TT} {te:TE} {σ:St} {H1:Hp} {acc:Addr} {Qr:Hp→Prop} (Pv:Nat→List V→St→Hp→Prop) (h0:Pv 0 [] σ (upd H1 acc (.lst [])))
    (hs:∀ i xs σ H,i < n→xs.length≤i→H acc=some (.lst xs)→Pv i xs σ H→g (.int (lo+i)) σ H fun σ2 H2=>tc σ2 H2 fun b Hb=>match b with
      | true=>te σ2 Hb fun v H3=>fNx acc n Pv i σ2 v H3
      | false=>fSk acc n Pv i σ2 Hb)
    (hd:∀ xs σ H,xs.length≤n→H acc=some (.lst xs)→Pv n xs σ H→Qr H) :
    ∃ W:Nat→Nat→St→Hp→Prop,(∃ m,W 0 m σ (upd H1 acc (.lst [])))∧∀ i m σ1 H2,W i m σ1 H2 →
      ((Itr lo n).stop i H2∧Qr H2)∨((Itr lo n).go i H2∧∀ x H3,(Itr lo n).yld i H2 x H3→g x σ1 H3 fun σ4 H4=>tc σ4 H4 fun b Hb=>match b with
        | true=>te σ4 Hb fun v H5=>∃ xs,H5 acc=some (.lst xs)∧xs.length < sizeLine∧∃ m',m' < m∧W (i+1) m' σ4 (upd H5 acc (.lst (xs++[v])))
        | false=>∃ m',m' < m∧W (i+1) m' σ4 Hb):=by
  refine ⟨fW acc n Pv,⟨n,Nat.zero_le _,rfl,[],Nat.le_refl _,upd_same,h0⟩,?_⟩
  rintro i m σ1 H2 ⟨hi,rfl,xs,hl,ha,hp⟩
  rcases Nat.lt_or_ge i n with h | h
  · refine .inr ⟨h,?_⟩
    rintro x H3 ⟨rfl,rfl⟩
    exact hs i xs σ1 H3 h hl ha hp
  · have e:i=n:=Nat.le_antisymm hi h
    subst e
    exact .inl ⟨Nat.le_refl _,hd xs σ1 H2 hl ha hp⟩
end L2
namespace L2
open PySem PySem.Spec PyProof.Rows
section
variable {X:Cx}
end
end L2
namespace L2
open PySem PySem.Spec PyProof.Rows
section
variable {X:Cx} {k j:Nat} {x y:Str} {ps:List Str} {sp:Sp} {p pos:Pos} {e:Expr} {es:List Expr} {tv:TE} {t:TA}
end
section
variable {prog:Program} {w:World} {A:Around} {E:Value→Shared→Prop} {s:Shared} {it d v:Addr} {i n ep:Nat} {od:Obj} {es:Array DictEntry} {k0 v0:Value}
end
section
variable {X:Cx}
end
end L2
namespace L2
open PySem PySem.Spec PyProof.Rows
section
variable {prog:Program} {w:World} {A:Around} {E:Value→Shared→Prop} {s:Shared} {d:Addr} {od:Obj} {es:Array DictEntry} {ep:Nat}
end
section
variable {X:Cx}
end
section
variable {X:Cx}
end
end L2
namespace L2
open PySem PySem.Spec PyProof.Rows
section
variable {prog:Program} {w:World} {A:Around} {E:Value→Shared→Prop} {s:Shared} {it d:Addr} {i ep:Nat} {od:Obj} {es:Array DictEntry}
end
section
variable {X:Cx}
end
end L2
namespace L2
open PySem PySem.Spec PyProof.Rows
section
variable {X:Cx}
end
end L2
namespace L2
open PySem PySem.Spec PyProof.Rows
section
variable {X:Cx}
end
section
variable {X:Cx}
end
end L2
namespace L2
open PySem PySem.Spec PyProof.Rows
section
open HT
variable {prog:Program} {w:World} {A:Around} {E:Value→Shared→Prop} {s:Shared}
end
section
variable {X:Cx} {e st:Expr} {te ts:TE} {pos p2:Pos}
end
end L2
namespace L2
open PySem PySem.Spec PyProof.Rows
section
variable {prog:Program} {w:World} {A:Around} {E:Value→Shared→Prop} {s:Shared} {R:Result→Shared→Prop} {I:Addr} {fp wr:List Addr} {n:Nat} {P:Nat→Value→Prop} {St:Nat→Heap→Prop}
def CmpG (prog:Program) (w:World) (A:Around) (G:Heap→Prop) (P:Nat→Value→Prop) (lt:Nat→Nat→Bool):Prop :=
  ∀ i j vi vj (s:Shared) (Q:Value→Shared→Prop) (E:Value→Shared→Prop),G s.heap→P i vi→P j vj→Q (.bool (lt i j)) s→wpAny (model prog w) A (richCompare .Lt vi vj) Q E s
theorem minLoop_G (wk:Walks prog w A.in1 I fp wr n P St) (lt:Nat→Nat→Bool) (B:Addr) (hB:B ∉ fp) {G:Heap→Prop} (hG:∀ h h',G h→(∀ b o,b ∉ wr→b≠B→h.get? b=some o→h'.get? b=some o)→G h') (cmp:CmpG prog w A.in1 G P lt) :
    ∀ (r j:Nat) (s:Shared) (cur:Value) (c:Nat),n - (j+1)=r→j+1≤n→G s.heap→St (j+1) s.heap→P (argBest lt j) cur→s.heap.get? B=some { cls:=.type "list",dict:=none,data:=.seq #[cur,cur] c,slots:=#[] } →
    (∀ v h' tk,P (argBest lt (n - 1)) v→(∀ b o,b ∉ wr→b≠B→s.heap.get? b=some o→h'.get? b=some o)→R (.ok (.ret v)) { s with heap:=h',toks:=tk }) →
    codeAny (model prog w) A (.builtin "min.loop" ⟨[.ref I,.none,.ref B],[]⟩) R s:=by
  have nB:B ∉ wr:=fun z=>hB (wk.sub _ z)
  have name:(toString "min"++toString ".loop":String)="min.loop":=by decide
  intro r
  induction r with
  | zero =>
    intro j s cur c hr hj gs st pc gB fin
    have hend:j+1=n:=by omega
    refine codeAny_builtin PySem.F.entry_min_loop ?_
    rw [Around.under_plainId PySem.F.plain_min_loop _]
    show wpAny (model prog w) A.in1 (seqItems? (.ref B) >>= _) _ _ s
    refine wpAny_bind (wpAny_seqItems gB rfl ?_)
    show wpAny (model prog w) A.in1 (tryCatch (pyNext (.ref I)) _ >>= _) _ _ s
    refine wpAny_bind (wpAny_tryCatch (wk.done s _ _ (hend ▸ st) fun h1 tk kp=>?_))
    have gB1:=kp B _ nB gB
    show wpAny (model prog w) A.in1 (updateSeq B (fun _=>#[]) >>= _) _ _ _
    refine wpAny_bind ?_
    refine wpAny_updateSeq gB1 rfl (wpAny_bind (wpAny_letGo (wpAny_pure ?_)))
    refine fin cur _ tk (by rw [← hend]; exact pc) fun b o bw bB z=>?_
    exact (Heap.get?_update_other _ _ (Ne.symm bB)).trans (kp b o bw z)
  | succ r ih =>
    intro j s cur c hr hj gs st pc gB fin
    have more:j+1 < n:=by omega
    refine codeAny_builtin PySem.F.entry_min_loop ?_
    rw [Around.under_plainId PySem.F.plain_min_loop _]
    show wpAny (model prog w) A.in1 (seqItems? (.ref B) >>= _) _ _ s
    refine wpAny_bind (wpAny_seqItems gB rfl ?_)
    show wpAny (model prog w) A.in1 (tryCatch (pyNext (.ref I)) _ >>= _) _ _ s
    refine wpAny_bind (wpAny_tryCatch (wk.item (j+1) s _ _ more st fun v h1 tk pv st1 kp=>?_))
    have gB1:=kp B _ nB gB
    have gs1:G h1:=hG _ _ gs fun b o bw _ z=>kp b o bw z
    show wpAny (model prog w) A.in1 (tryCatch (holding [v,v] (richCompare .Lt v cur >>= _)) _ >>= _) _ _ _
    refine wpAny_bind (wpAny_tryCatch (wpAny_holding (wpAny_bind (cmp (j+1) (argBest lt j) v cur _ _ _ gs1 pv pc ?_))))
    refine wpAny_bind (wpAny_holding (wpAny_truthy_bool (wpAny_bind (wpAny_letGo (wpAny_pure ?_)))))
    cases q:lt (j+1) (argBest lt j) with
    | true =>
      simp only [if_true]
      refine wpAny_bind ?_
      refine wpAny_updateSeq gB1 rfl (wpAny_bind (wpAny_letGo ?_))
      rw [name]
      refine wpAny_pure ⟨plainId_quiet PySem.F.plain_min_loop _,ih (j+1) _ v _ (by omega) more (hG _ _ gs1 fun b o _ bB z=>?_) (wk.frame _ _ _ st1 fun b bf o z=>?_) (by simp only [argBest,q,if_true]; exact pv) (Heap.get?_update_self _ gB1 rfl) fun v2 h2 tk2 p2 k2=>?_⟩
      · exact (Heap.get?_update_other _ _ (Ne.symm bB)).trans z
      · have ne:B≠b:=fun z2=>hB (by rw [z2]; exact bf)
        exact (Heap.get?_update_other _ _ ne).trans z
      · exact fin v2 h2 tk2 p2 fun b o bw bB z=>k2 b o bw bB ((Heap.get?_update_other _ _ (Ne.symm bB)).trans (kp b o bw z))
    | false =>
      simp only [Bool.false_eq_true,if_false]
      refine wpAny_bind (wpAny_letGo ?_)
      rw [name]
      refine wpAny_pure ⟨plainId_quiet PySem.F.plain_min_loop _,ih (j+1) _ cur c (by omega) more gs1 st1 (by simp only [argBest,q,Bool.false_eq_true,if_false]; exact pc) gB1 fun v2 h2 tk2 p2 k2=>?_⟩
      exact fin v2 h2 tk2 p2 fun b o bw bB z=>k2 b o bw bB (kp b o bw z)
theorem min_G {Q:Value→Shared→Prop} {l:Addr} {items:Array Value} {lt:Nat→Nat→Bool} (hh:A.handled=none) (hl:s.heap.IsList l items) (hne:0 < items.size)
    (cmp:CmpG prog w A.in1 (fun h=>∀ b o,s.heap.get? b=some o→h.get? b=some o) (fun i v=>items[i]?=some v) lt)
    (fin:∀ v h' tk,items[argBest lt (items.size - 1)]?=some v→(∀ b o,s.heap.get? b=some o→h'.get? b=some o)→Q v { s with heap:=h',toks:=tk }) :
    wpAny (model prog w) A (call (.builtin "min") [.ref l]) Q E s:=by
  have name:(toString "min"++toString ".loop":String)="min.loop":=by decide
  refine call_function_tree PySem.F.kind_min PySem.F.plain_min PySem.F.entry_min (PySem.F.args_min1 _) ?_
  show wpAny (model prog w) A.in1 (Builtin.Builtins.bindParams "min" ["key","default"] 0 ⟨[],[]⟩ >>= _) _ _ s
  refine wpAny_bind (wpAny_of_eq (show Builtin.Builtins.bindParams "min" ["key","default"] 0 ⟨[],[]⟩=pure [none,none] from rfl) ?_)
  refine wpAny_bind (wpAny_pure ?_)
  refine wpAny_bind (wpAny_pyIter_list hl ?_)
  refine wpAny_bind (wpAny_newList ?_ (Nat.zero_le _))
  rw [name]
  obtain ⟨ol,hol,rl⟩:=id hl
  have hlt:l < s.heap.objs.size:=Heap.lt_size hol
  have sz:(s.heap.push { cls:=.type "list_iterator",data:=.fields #[.ref l,.int 0 0] }).objs.size=s.heap.objs.size+1:=Heap.size_push ..
  have wk:=Walks.list (prog:=prog) (w:=w) (A:=A.in1) hh s.heap.objs.size l (Nat.ne_of_lt hlt) items
  have st0:(((s.heap.push { cls:=.type "list_iterator",data:=.fields #[.ref l,.int 0 0] }).push { cls:=.type "list",data:=.seq #[] }).IsListIter s.heap.objs.size l 0)∧((s.heap.push { cls:=.type "list_iterator",data:=.fields #[.ref l,.int 0 0] }).push { cls:=.type "list",data:=.seq #[] }).IsList l items:=⟨⟨_,Heap.get?_push_of_some _ (Heap.get?_push_size _ rfl),rfl,rfl⟩,ol,Heap.get?_push_of_some _ (Heap.get?_push_of_some _ hol),rl⟩
  have nB:(s.heap.push { cls:=.type "list_iterator",data:=.fields #[.ref l,.int 0 0] }).objs.size ∉ [s.heap.objs.size,l]:=fun z=>by
    rw [sz] at z
    rcases List.mem_cons.mp z with z | z
    · exact absurd z (Nat.succ_ne_self _)
    · have z:=List.mem_singleton.mp z
      exact absurd hlt (by rw [← z]; exact Nat.not_lt.mpr (Nat.le_succ _))
  have nW:(s.heap.push { cls:=.type "list_iterator",data:=.fields #[.ref l,.int 0 0] }).objs.size ∉ [s.heap.objs.size]:=fun z=>nB (by rw [List.mem_singleton.mp z]; simp)
  have old:∀ b o,s.heap.get? b=some o→b ∉ [s.heap.objs.size]∧b≠(s.heap.push { cls:=.type "list_iterator",data:=.fields #[.ref l,.int 0 0] }).objs.size:=fun b o z=>by
    have lt:=Heap.lt_size z
    refine ⟨fun z2=>?_,fun z2=>?_⟩
    · have z2:=List.mem_singleton.mp z2
      rw [z2] at lt
      exact absurd lt (Nat.lt_irrefl _)
    · rw [sz] at z2
      rw [z2] at lt
      exact absurd lt (Nat.not_lt.mpr (Nat.le_succ _))
  have hG:∀ h h':Heap,(∀ b o,s.heap.get? b=some o→h.get? b=some o)→(∀ b o,b ∉ [s.heap.objs.size]→b≠(s.heap.push { cls:=.type "list_iterator",data:=.fields #[.ref l,.int 0 0] }).objs.size→h.get? b=some o→h'.get? b=some o)→(∀ b o,s.heap.get? b=some o→h'.get? b=some o):=fun h h' g k b o z=>k b o (old b o z).1 (old b o z).2 (g b o z)
  have g0:∀ b o,s.heap.get? b=some o→((s.heap.push { cls:=.type "list_iterator",data:=.fields #[.ref l,.int 0 0] }).push { cls:=.type "list",data:=.seq #[] }).get? b=some o:=fun b o z=>Heap.get?_push_of_some _ (Heap.get?_push_of_some _ z)
  have gB:=Heap.get?_push_size (s.heap.push { cls:=.type "list_iterator",data:=.fields #[.ref l,.int 0 0] }) (o:={ cls:=.type "list",data:=.seq #[] }) rfl
  refine wpAny_pure ⟨plainId_quiet PySem.F.plain_min_loop _,?_⟩
  refine codeAny_builtin PySem.F.entry_min_loop ?_
  rw [Around.under_plainId PySem.F.plain_min_loop _]
  show wpAny (model prog w) A.in1 (seqItems? (.ref _) >>= _) _ _ _
  refine wpAny_bind (wpAny_seqItems gB rfl ?_)
  show wpAny (model prog w) A.in1 (tryCatch (pyNext (.ref _)) _ >>= _) _ _ _
  refine wpAny_bind (wpAny_tryCatch (wk.item 0 _ _ _ hne st0 fun v h1 tk pv st1 kp=>?_))
  have gB1:=kp _ _ nW gB
  show wpAny (model prog w) A.in1 (updateSeq _ (fun _=>#[v,v]) >>= _) _ _ _
  refine wpAny_bind ?_
  refine wpAny_updateSeq gB1 rfl ?_
  rw [name]
  have g1:∀ b o,s.heap.get? b=some o→h1.get? b=some o:=fun b o z=>kp b o (old b o z).1 (g0 b o z)
  refine wpAny_pure ⟨plainId_quiet PySem.F.plain_min_loop _,minLoop_G wk lt _ nB hG cmp _ 0 _ v _ rfl hne (fun b o z=>(Heap.get?_update_other _ _ (Ne.symm (old b o z).2)).trans (g1 b o z)) (wk.frame _ _ _ st1 fun b bf o z=>?_) pv (Heap.get?_update_self _ gB1 rfl) fun v2 h2 tk2 p2 k2=>?_⟩
  · exact (Heap.get?_update_other _ _ (fun z2=>nB (by rw [z2]; exact bf))).trans z
  · exact fin v2 h2 tk2 p2 fun b o z=>k2 b o (old b o z).1 (old b o z).2 ((Heap.get?_update_other _ _ (Ne.symm (old b o z).2)).trans (g1 b o z))
end
theorem lex2 {a b c d:Int}:(HT.lexLt [a,b] [c,d]=true→a≤c)∧(HT.lexLt [a,b] [c,d]=false→c≤a):=by
  rw [HT.lexLt_cons]
  by_cases e:a=c
  · exact ⟨fun _=>by omega,fun _=>by omega⟩
  · rw [if_neg e]
    exact ⟨fun h=>by have:=of_decide_eq_true h; omega,fun h=>by have:=of_decide_eq_false h; omega⟩
theorem best2 (f:Nat→Int × Int):∀ k,argBest (fun i j=>HT.lexLt [(f i).1,(f i).2] [(f j).1,(f j).2]) k≤k∧∀ j,j≤k→(f (argBest (fun i j=>HT.lexLt [(f i).1,(f i).2] [(f j).1,(f j).2]) k)).1≤(f j).1
  | 0=>⟨Nat.le_refl _,fun j hj=>by rw [Nat.le_zero.mp hj]; exact Int.le_refl _⟩
  | k+1=>by
    obtain ⟨h1,h2⟩:=best2 f k
    unfold argBest
    cases q:HT.lexLt [(f (k+1)).1,(f (k+1)).2] [(f (argBest (fun i j=>HT.lexLt [(f i).1,(f i).2] [(f j).1,(f j).2]) k)).1,(f (argBest (fun i j=>HT.lexLt [(f i).1,(f i).2] [(f j).1,(f j).2]) k)).2] with
    | true =>
      rw [if_pos rfl]
      have:=lex2.1 q
      refine ⟨Nat.le_refl _,fun j hj=>?_⟩
      rcases Nat.lt_or_ge j (k+1) with l | l
      · exact Int.le_trans this (h2 j (by omega))
      · rw [show j=k+1 from by omega]; exact Int.le_refl _
    | false =>
      rw [if_neg Bool.false_ne_true]
      have:=lex2.2 q
      refine ⟨by omega,fun j hj=>?_⟩
      rcases Nat.lt_or_ge j (k+1) with l | l
      · exact h2 j (by omega)
      · rw [show j=k+1 from by omega]; exact this
section
variable {X:Cx}
theorem call_minT (hu:X.A.units+1 < cLine):CallR X (.builtin "min") (fun xs H Q=>∃ (p:Addr) (ts:List (Addr × Int × Int)),xs=[.ref p]∧SqL X.K H p (ts.map fun t=>V.ref t.1)∧X.calm=true∧ts≠[]∧(∀ t∈ts,H t.1=some (.tup [.int t.2.1,.int t.2.2])) ∧
    ∀ t∈ts,(∀ u∈ts,t.2.1≤u.2.1)→Q (.ref t.1) H):=by
  intro pins s σ H xs us Q I r h
  obtain ⟨p,ts,rfl,hp,hc,hn,ht,q⟩:=h
  obtain ⟨u,rfl,ru⟩:=vals1 r
  cases ru
  obtain ⟨its,rv,pl,hz⟩:=I.list hp
  have hits:its=ts.map fun t=>Value.ref t.1:=by
    have:=refs_vals (ts:=ts.map (·.1)) (its:=its) (by rw [List.map_map]; exact rv)
    rw [this,List.map_map]; rfl
  subst hits
  have tup:∀ t∈ts,∃ items,IsTup s.heap t.1 items∧IntsAre items.toList [t.2.1,t.2.2]:=fun t htm=>by
    obtain ⟨_,zs,rz,tz⟩:=(show ObjOk X.prog X.w H s.heap t.1 (.tup ([t.2.1,t.2.2].map V.int)) from I.hok _ _ (ht t htm))
    exact ⟨_,tz,by simpa using intsAre_of rz⟩
  have len:0 < ts.length:=List.length_pos_iff.mpr hn
  have at_:∀ (i:Nat) (v:Value),(ts.map fun t=>Value.ref t.1).toArray[i]?=some v→∃ t,ts[i]?=some t∧v=.ref t.1:=fun i v e=>by
    rw [List.getElem?_toArray,List.getElem?_map] at e
    cases z:ts[i]? with
    | none=>rw [z] at e; cases e
    | some t=>rw [z] at e; exact ⟨t,rfl,(Option.some.inj e).symm⟩
  have gd:∀ (i:Nat) (t:Addr × Int × Int),ts[i]?=some t→((ts.map (·.2)).getD i (0,0))=t.2:=fun i t e=>by
    rw [List.getD_eq_getElem?_getD,List.getElem?_map,e]; rfl
  refine min_G (lt:=fun i j=>HT.lexLt [((ts.map (·.2)).getD i (0,0)).1,((ts.map (·.2)).getD i (0,0)).2] [((ts.map (·.2)).getD j (0,0)).1,((ts.map (·.2)).getD j (0,0)).2]) (I.ok.hd hc) pl.isList (by simpa using len) ?_ fun v h' tk hv hk=>?_
  · intro i j vi vj s' Q' E' g hi hj hq
    obtain ⟨ti,e1,rfl⟩:=at_ i vi hi
    obtain ⟨tj,e2,rfl⟩:=at_ j vj hj
    dsimp only at hq
    rw [gd i ti e1,gd j tj e2] at hq
    obtain ⟨its1,⟨o1,a1,b1⟩,c1⟩:=tup ti (List.mem_of_getElem? e1)
    obtain ⟨its2,⟨o2,a2,b2⟩,c2⟩:=tup tj (List.mem_of_getElem? e2)
    exact HT.lt_tupInts (s:=s') ⟨o1,g _ _ a1,b1⟩ ⟨o2,g _ _ a2,b2⟩ c1 c2 (by show X.A.units+1 < cLine; exact hu) hq
  · obtain ⟨b1,b2⟩:=best2 (fun i=>(ts.map (·.2)).getD i (0,0)) ((ts.map fun t=>Value.ref t.1).toArray.size - 1)
    obtain ⟨t,e1,rfl⟩:=at_ _ v hv
    refine ⟨.ref t.1,H,I.kept (t':=tk) hk,rfl,q t (List.mem_of_getElem? e1) fun u hu'=>?_⟩
    obtain ⟨j,hj⟩:=List.mem_iff_getElem?.mp hu'
    have:=b2 j (by have:=(List.getElem?_eq_some_iff.mp hj).1; simp; omega)
    rw [gd j u hj,gd _ t e1] at this
    exact this
end
end L2
namespace L2
open PySem PySem.Spec PyProof.Rows
theorem comp_enumF {K:PySem.W.Frag} {a:Addr} {ys:List V} {g:TG} {tc:TT} {te:TE} {σ:St} {H1:Hp} {acc:Addr} {Qr:Hp→Prop} (Pv:Nat→List V→St→Hp→Prop) (h0:Pv 0 [] σ (upd H1 acc (.lst [])))
    (hq:∀ i xs σ H,i≤ys.length→H acc=some (.lst xs)→Pv i xs σ H→SqL K H a ys)
    (hs:∀ i x t xs σ H,ys[i]?=some x→i < ys.length→xs.length≤i→H acc=some (.lst xs)→Pv i xs σ H→H t=none→g (.ref t) σ (upd H t (.tup [.int i,x])) fun σ2 H2=>tc σ2 H2 fun b Hb=>match b with
      | true=>te σ2 Hb fun v H3=>fNx acc ys.length Pv i σ2 v H3
      | false=>fSk acc ys.length Pv i σ2 Hb)
    (hd:∀ xs σ H,xs.length≤ys.length→H acc=some (.lst xs)→Pv ys.length xs σ H→Qr H) :
    ∃ W:Nat→Nat→St→Hp→Prop,(∃ m,W 0 m σ (upd H1 acc (.lst [])))∧∀ i m σ1 H2,W i m σ1 H2 →
      ((Ite K a).stop i H2∧Qr H2)∨((Ite K a).go i H2∧∀ x H3,(Ite K a).yld i H2 x H3→g x σ1 H3 fun σ4 H4=>tc σ4 H4 fun b Hb=>match b with
        | true=>te σ4 Hb fun v H5=>∃ xs,H5 acc=some (.lst xs)∧xs.length < sizeLine∧∃ m',m' < m∧W (i+1) m' σ4 (upd H5 acc (.lst (xs++[v])))
        | false=>∃ m',m' < m∧W (i+1) m' σ4 Hb):=by
  refine ⟨fW acc ys.length Pv,⟨ys.length,Nat.zero_le _,rfl,[],Nat.le_refl _,upd_same,h0⟩,?_⟩
  rintro i m σ1 H2 ⟨hi,rfl,xs,hl,ha,hp⟩
  have hsq:=hq i xs σ1 H2 hi ha hp
  rcases Nat.lt_or_ge i ys.length with h | h
  · refine .inr ⟨⟨ys,ys[i],hsq,by simp [h]⟩,fun x H3 y=>?_⟩
    obtain ⟨t,z,hz,rfl,ht,rfl⟩:=y
    exact hs i z t xs σ1 H2 (hz ys hsq) h hl ha hp ht
  · have e:i=ys.length:=Nat.le_antisymm hi h
    subst e
    exact .inl ⟨⟨ys,hsq,Nat.le_refl _⟩,hd xs σ1 H2 hl ha hp⟩
end L2
namespace L2
open PySem PySem.Spec PyProof.Rows
section
variable {X:Cx}
end
end L2
namespace L2
open PySem PySem.Spec PyProof.Rows
def kLt:Key→Key→Bool
  | .inl a,.inl b=>decide (a < b)
  | .inr x,.inr y=>decide (x.cps.toList < y.cps.toList)
  | _,_=>false
def kAs:Key→Key→Bool
  | .inl _,.inl _=>true
  | .inr _,.inr _=>true
  | _,_=>false
def lexQ:List Key→List Key→Bool
  | x :: xs,y :: ys=>if x=y then lexQ xs ys else kLt x y
  | _,_=>false
inductive KeysAre:List Value→List Key→Prop
  | nil:KeysAre [] []
  | cons {v:Value} {k:Key} {vs:List Value} {ks:List Key}:keyIs k v=true→KeysAre vs ks→KeysAre (v :: vs) (k :: ks)
theorem KeysAre.length {vs:List Value} {ks:List Key} (h:KeysAre vs ks):vs.length=ks.length:=by
  induction h with
  | nil=>rfl
  | cons _ _ ih=>rw [List.length_cons,List.length_cons,ih]
inductive Alike:List Key→List Key→Prop
  | nil:Alike [] []
  | cons {x y:Key} {xs ys:List Key}:kAs x y=true→Alike xs ys→Alike (x :: xs) (y :: ys)
theorem eqAt_key (A:Around) (s:Shared) {x y:Key} {v u:Value} (hv:keyIs x v=true) (hu:keyIs y u=true) (h:kAs x y=true):∃ e,SeqAt.EqAt A s v u e∧(e=true↔x=y):=by
  rcases keyIs_shape hv with ⟨i,t,rfl,rfl⟩ | ⟨a,t,rfl,rfl⟩
  · rcases keyIs_shape hu with ⟨j,t',rfl,rfl⟩ | ⟨b,t',rfl,rfl⟩
    · exact ⟨(i == j),SeqAt.EqAt.int_int i t j t',by simp⟩
    · cases h
  · rcases keyIs_shape hu with ⟨j,t',rfl,rfl⟩ | ⟨b,t',rfl,rfl⟩
    · cases h
    · exact ⟨(a == b),SeqAt.EqAt.str_str a t b t',by simp⟩
theorem rcLt_key (A:Around) (s:Shared) {x y:Key} {v u:Value} (hv:keyIs x v=true) (hu:keyIs y u=true) (h:kAs x y=true) (prog:Program) (w:World) (E:Value→Shared→Prop) (Q:Value→Shared→Prop) (q:Q (.bool (kLt x y)) s) :
    wpAny (model prog w) A (richCompare .Lt v u) Q E s:=by
  rcases keyIs_shape hv with ⟨i,t,rfl,rfl⟩ | ⟨a,t,rfl,rfl⟩
  · rcases keyIs_shape hu with ⟨j,t',rfl,rfl⟩ | ⟨b,t',rfl,rfl⟩
    · exact (PyProof.Rows.lt_int q:wpAny (model prog w) A (compareOp .Lt (.int i t) (.int j t')) Q E s)
    · cases h
  · rcases keyIs_shape hu with ⟨j,t',rfl,rfl⟩ | ⟨b,t',rfl,rfl⟩
    · cases h
    · exact (PyProof.Rows.lt_str q:wpAny (model prog w) A (compareOp .Lt (.str a t) (.str b t')) Q E s)
section
open PySem.SeqAt
open PySem.AutoSeq1 (wpAny_loadPart')
open PySem.MeetsSeq PySem.MeetsSeq2 PySem.MeetsSeq3
theorem tuple_lt_keys (l b:Addr) (items items2:Array Value) (n n2:Nat) (dd dd2:Option Addr) (sl sl2:Array (Option Value)) (ns ms:List Key) (hi:KeysAre items.toList ns) (hj:KeysAre items2.toList ms) (al:Alike ns ms) :
    Meets (Builtin.«tuple.__lt__» ⟨[.ref l,.ref b],[]⟩)
      (fun _ R s=>s.heap.get? l=some { cls:=.type "tuple",dict:=dd,data:=.seq items n,slots:=sl }∧s.heap.get? b=some { cls:=.type "tuple",dict:=dd2,data:=.seq items2 n2,slots:=sl2 } ∧
        R (.ok (.ret (.bool (lexQ ns ms)))) s) :=
  .of_wp fun prog w A R s h=>by
    obtain ⟨hp,g,d,tk,os⟩:=s; obtain ⟨hl,hb,h⟩:=h
    have f2:=AutoSeq1.sub_tuple_tuple
    have z1:items.size=ns.length:=by rw [← hi.length]; simp
    have z2:items2.size=ms.length:=by rw [← hj.length]; simp
    have z3:ns.length=ms.length:=by
      clear z1 z2 hi hj h
      induction al with
      | nil=>rfl
      | cons _ _ ih=>rw [List.length_cons,List.length_cons,ih]
    wp_walk using wpAny_loadPart' hl,wpAny_loadPart' hb,wpAny_forIn_list _ (fun rest b s'=>b.1=none∧s'=⟨hp,g,d,tk,os⟩∧∃ (vs ws:List Value) (ns' ms':List Key),rest=vs.zip ws ∧
      KeysAre vs ns'∧KeysAre ws ms'∧Alike ns' ms'∧R (.ok (.ret (.bool (lexQ ns' ms')))) ⟨hp,g,d,tk,os⟩) _
    case turn =>
      rintro ⟨y,x⟩ rest b s' ⟨hb',rfl,vs,ws,ns',ms',hz,hvi,hwi,al',hR⟩
      cases al' with
      | nil=>cases hvi; cases hwi; cases hz
      | cons ka al2 =>
        cases hvi with
        | cons kv hvi' =>
          cases hwi with
          | cons kw hwi' =>
            rw [List.zip_cons_cons] at hz
            injection hz with hyx hrest
            injection hyx with hy hx
            subst hy hx
            obtain ⟨e,he,hiff⟩:=eqAt_key A.in1 ⟨hp,g,d,tk,os⟩ kv kw ka
            refine wpAny_bind (he prog w _ _ ?_)
            cases e with
            | true =>
              rw [lexQ,if_pos (hiff.mp rfl)] at hR
              wp_walk
              exact ⟨rfl,rfl,_,_,_,_,hrest,hvi',hwi',al2,hR⟩
            | false =>
              rw [lexQ,if_neg (fun q=>absurd (hiff.mpr q) Bool.false_ne_true)] at hR
              have hri:=rcLt_key A.in1 ⟨hp,g,d,tk,os⟩ kv kw ka prog w
              wp_walk using hri
              exact ⟨_,rfl,by simpa using hR⟩
    case fin =>
      rintro ⟨b1,b2⟩ s' ⟨hb',rfl,vs,ws,ns',ms',hz,hvi,hwi,al',hR⟩
      simp only at hb'
      subst hb'
      have hv:lexQ ns' ms'=decide (items.size < items2.size):=by
        cases al' with
        | nil=>exact (decide_eq_false (by omega)).symm
        | cons ka al2 =>
          cases hvi with
          | cons kv hvi' =>
            cases hwi with
            | cons kw hwi' =>
              rw [List.zip_cons_cons] at hz
              cases hz
      rw [hv] at hR
      wp_walk
      exact ⟨_,rfl,by simpa [Builtin.Tuple.tupleCompareSizes] using hR⟩
    exact ⟨rfl,rfl,_,_,_,_,rfl,hi,hj,al,h⟩
variable {prog:Program} {w:World} {A:Around} {E:Value→Shared→Prop} {s:Shared}
theorem lt_tupKeys {l b:Addr} {items items2:Array Value} {ns ms:List Key} {Q:Value→Shared→Prop} (hl:IsTup s.heap l items) (hb:IsTup s.heap b items2) (hi:KeysAre items.toList ns) (hj:KeysAre items2.toList ms) (al:Alike ns ms)
    (hu:A.units < cLine) (h:Q (.bool (lexQ ns ms)) s):wpAny (model prog w) A (compareOp .Lt (.ref l) (.ref b)) Q E s:=by
  obtain ⟨⟨cls,dd,data,sl⟩,ho,hc,n,hd⟩:=id hl
  obtain ⟨⟨cls2,dd2,data2,sl2⟩,ho2,hc2,n2,hd2⟩:=id hb
  simp only at hc hd hc2 hd2
  subst hc hd hc2 hd2
  exact richCompare_meets_room (op:=.Lt) ⟨_,ho,rfl⟩ ⟨_,ho2,rfl⟩ PySem.F.slot_tuple_lt PySem.F.entry_tuple_lt (PySem.F.args_tuple_lt_2 _ _) (tuple_lt_keys l b items items2 n n2 dd dd2 sl sl2 ns ms hi hj al)
    ⟨ho,ho2,show Value.bool (lexQ ns ms)≠Value.notImplemented∧Q (.bool (lexQ ns ms)) s from ⟨(fun x=>nomatch x),h⟩⟩ hu
end
abbrev Rw4:=Int × List Key
def rowK (r:Rw4):List Key:=.inl r.1 :: r.2
theorem lexQ_first {a b:Rw4}:(lexQ (rowK a) (rowK b)=true→a.1≤b.1)∧(lexQ (rowK a) (rowK b)=false→b.1≤a.1):=by
  unfold rowK
  rw [lexQ]
  by_cases e:(Sum.inl a.1:Key)=Sum.inl b.1
  · injection e with e; exact ⟨fun _=>by omega,fun _=>by omega⟩
  · rw [if_neg e]
    exact ⟨fun h=>by have:=of_decide_eq_true h; omega,fun h=>by have:=of_decide_eq_false h; omega⟩
theorem bestQ (f:Nat→Rw4):∀ k,argBest (fun i j=>lexQ (rowK (f i)) (rowK (f j))) k≤k∧∀ j,j≤k→(f (argBest (fun i j=>lexQ (rowK (f i)) (rowK (f j))) k)).1≤(f j).1
  | 0=>⟨Nat.le_refl _,fun j hj=>by rw [Nat.le_zero.mp hj]; exact Int.le_refl _⟩
  | k+1=>by
    obtain ⟨h1,h2⟩:=bestQ f k
    unfold argBest
    cases q:lexQ (rowK (f (k+1))) (rowK (f (argBest (fun i j=>lexQ (rowK (f i)) (rowK (f j))) k))) with
    | true =>
      rw [if_pos rfl]
      have:=lexQ_first.1 q
      refine ⟨Nat.le_refl _,fun j hj=>?_⟩
      rcases Nat.lt_or_ge j (k+1) with l | l
      · exact Int.le_trans this (h2 j (by omega))
      · rw [show j=k+1 from by omega]; exact Int.le_refl _
    | false =>
      rw [if_neg Bool.false_ne_true]
      have:=lexQ_first.2 q
      refine ⟨by omega,fun j hj=>?_⟩
      rcases Nat.lt_or_ge j (k+1) with l | l
      · exact h2 j (by omega)
      · rw [show j=k+1 from by omega]; exact this
theorem keysAre_of {ks:List Key} {zs:List Value}:Vals (ks.map kV) zs→KeysAre zs ks:=by
  intro r
  induction ks generalizing zs with
  | nil=>cases r; exact .nil
  | cons k ks ih =>
    rw [List.map_cons] at r
    cases r with
    | cons h t =>
      refine .cons ?_ (ih t)
      cases k with
      | inl i=>obtain ⟨t,rfl⟩:=(show ∃ t,_=Value.int i t from h); exact keyIs_int i t
      | inr x=>obtain ⟨t,rfl⟩:=(show ∃ t,_=Value.str x t from h); exact keyIs_str x t
section
variable {X:Cx}
theorem call_minQ (hu:X.A.units+1 < cLine):CallR X (.builtin "min") (fun xs H Q=>∃ (p:Addr) (ts:List (Addr × Rw4)),xs=[.ref p]∧SqL X.K H p (ts.map fun t=>V.ref t.1)∧X.calm=true∧ts≠[]∧(∀ t∈ts,H t.1=some (.tup ((rowK t.2).map kV))) ∧
    (∀ t∈ts,∀ u∈ts,Alike t.2.2 u.2.2)∧∀ t∈ts,(∀ u∈ts,t.2.1≤u.2.1)→Q (.ref t.1) H):=by
  intro pins s σ H xs us Q I r h
  obtain ⟨p,ts,rfl,hp,hc,hn,ht,al,q⟩:=h
  obtain ⟨u,rfl,ru⟩:=vals1 r
  cases ru
  obtain ⟨its,rv,pl,hz⟩:=I.list hp
  have hits:its=ts.map fun t=>Value.ref t.1:=by
    have:=refs_vals (ts:=ts.map (·.1)) (its:=its) (by rw [List.map_map]; exact rv)
    rw [this,List.map_map]; rfl
  subst hits
  have tup:∀ t∈ts,∃ items,IsTup s.heap t.1 items∧KeysAre items.toList (rowK t.2):=fun t htm=>by
    obtain ⟨_,zs,rz,tz⟩:=(show ObjOk X.prog X.w H s.heap t.1 (.tup ((rowK t.2).map kV)) from I.hok _ _ (ht t htm))
    exact ⟨_,tz,by simpa using keysAre_of rz⟩
  have len:0 < ts.length:=List.length_pos_iff.mpr hn
  have at_:∀ (i:Nat) (v:Value),(ts.map fun t=>Value.ref t.1).toArray[i]?=some v→∃ t,ts[i]?=some t∧v=.ref t.1:=fun i v e=>by
    rw [List.getElem?_toArray,List.getElem?_map] at e
    cases z:ts[i]? with
    | none=>rw [z] at e; cases e
    | some t=>rw [z] at e; exact ⟨t,rfl,(Option.some.inj e).symm⟩
  have gd:∀ (i:Nat) (t:Addr × Rw4),ts[i]?=some t→((ts.map (·.2)).getD i (0,[]))=t.2:=fun i t e=>by
    rw [List.getD_eq_getElem?_getD,List.getElem?_map,e]; rfl
  refine min_G (lt:=fun i j=>lexQ (rowK ((ts.map (·.2)).getD i (0,[]))) (rowK ((ts.map (·.2)).getD j (0,[])))) (I.ok.hd hc) pl.isList (by simpa using len) ?_ fun v h' tk hv hk=>?_
  · intro i j vi vj s' Q' E' g hi hj hq
    obtain ⟨ti,e1,rfl⟩:=at_ i vi hi
    obtain ⟨tj,e2,rfl⟩:=at_ j vj hj
    dsimp only at hq
    rw [gd i ti e1,gd j tj e2] at hq
    obtain ⟨its1,⟨o1,a1,b1⟩,c1⟩:=tup ti (List.mem_of_getElem? e1)
    obtain ⟨its2,⟨o2,a2,b2⟩,c2⟩:=tup tj (List.mem_of_getElem? e2)
    exact lt_tupKeys (s:=s') ⟨o1,g _ _ a1,b1⟩ ⟨o2,g _ _ a2,b2⟩ c1 c2 (.cons rfl (al _ (List.mem_of_getElem? e1) _ (List.mem_of_getElem? e2))) (by show X.A.units+1 < cLine; exact hu) hq
  · obtain ⟨b1,b2⟩:=bestQ (fun i=>(ts.map (·.2)).getD i (0,[])) ((ts.map fun t=>Value.ref t.1).toArray.size - 1)
    obtain ⟨t,e1,rfl⟩:=at_ _ v hv
    refine ⟨.ref t.1,H,I.kept (t':=tk) hk,rfl,q t (List.mem_of_getElem? e1) fun u hu'=>?_⟩
    obtain ⟨j,hj⟩:=List.mem_iff_getElem?.mp hu'
    have:=b2 j (by have:=(List.getElem?_eq_some_iff.mp hj).1; simp; omega)
    rw [gd j u hj,gd _ t e1] at this
    exact this
end
end L2
namespace L2
open PySem PySem.Spec PyProof.Rows
structure ICls (K:PySem.W.Frag) (C:Addr):Prop where
  cl:Cls K C
  ha:PySem.W.findIn K (.ref C) "__class__"=some (some (.builtin "object.__class__"))
  hn:PySem.W.specialIn K (.builtin "object.__class__") "__get__"=some (some (.builtin "getset_descriptor.__get__"))
  htk:PySem.W.takesIn K (.builtin "object.__class__")=some true
  hm:PySem.W.mroIn K C (.type "object")=some true
section
variable {X:Cx}
theorem call_isinI:CallR X (.builtin "isinstance") (fun xs H Q=>∃ a C dx fs c u b,xs=[.ref a,c]∧H a=some (.ins C dx fs)∧ICls X.K C∧RelV c u∧(∀ u',RelV c u'→u'=u)∧PySem.W.kitOne X.K (.ref C) u=some b∧Q (.bl b) H):=by
  intro pins s σ H xs us Q I r h
  obtain ⟨a,C,dx,fs,c,u,b,rfl,he,hc,ru,uq,hk,q⟩:=h
  obtain ⟨v1,v2,rfl,r1,r2⟩:=vals2 r
  have:=uq v2 r2
  subst this
  exact isinst_ok I r1 (.ins he hc.cl hc.ha hc.hn hc.htk hc.hm) hk fun tk=>⟨.bl b,H,I.tok tk,rfl,q⟩
end
section
variable {X:Cx} {tg:Expr}
end
end L2
namespace L2
open PySem PySem.Spec PyProof.Rows PySem.W
section
variable {X:Cx} {k j:Nat} {m:Str} {ps:List Str} {sp:Sp} {pos apos:Pos} {e o:Expr} {es:List Expr} {t:TA} {ta:TE} {S:Addr→Prop}
end
section
variable {X:Cx} {g:Str} {G:Addr} {value:Expr} {b₀:Stmt} {suite:List Stmt} {apos gp hpos pos:Pos} {te:XK→TE} {ts:TS}
end
end L2
namespace L2
open PySem PySem.Spec PyProof.Rows PySem.W
structure FunD (K:PySem.W.Frag) (x qual:Str) (st:Stmt) (f:Addr) (fd:FuncData):Prop where
  ex:∃ (oc:Value) (od:Option Addr) (T:Addr) (kV doc pm:Value) (an:Option Addr) (cdv ct:Value) (osl:Array (Option Value)) (o:Obj) (n:Nat),
    fd=PySem.W.fnOf x qual (defArgs st) (defBody st) (defScope st) (.ref T) kV doc pm an cdv ct∧K.lookup f=some ⟨oc,od,.func fd,osl⟩∧PySem.W.codeIn K cdv qual=true∧K.lookup T=some o∧o.data=.seq #[.none] n
  kp:PySem.W.keepIn K (.ref f)=true
section
variable {P:Program} {w:World} {K:PySem.W.Frag} {mg:Str→Option Value} {base:Heap}
theorem FunD.ok {x qual:Str} {st:Stmt} {f:Addr} {fd:FuncData} {N ps:List Str} {k:Nat} {sp:Sp} (F:FunD K x qual st f fd) (S:FnScope N ps (defScope st)) (len:∀ vs H Q E,sp vs H Q E→vs.length=ps.length)
    (hbody:∀ (cdv:Value) (A:Around) (outer:List Env) (s:Shared) (H:Hp) (vs:List V) (Q:VK) (E:XK),Room k (A.deeper (envOfC qual (defScope st) s.heap.objs.size f cdv))→sp vs H Q E →
      ∃ t,PSs (cxOf CX0 P w K mg base N qual (defScope st) f cdv A outer s H E).nox (defBody st) t∧t { nx:=fun _ H'=>Q .non H',rt:=Q } (start N vs) H):FnOk P w K mg base CX0 (k+1) f fd ps sp:=by
  obtain ⟨oc,od,T,kV,doc,pm,an,cdv,ct,osl,o,n,rfl,lk,hcd,lT,dT⟩:=F.ex
  refine fn_of lk hcd S len fun A outer s H vs Q E hr hsp=>?_
  obtain ⟨t,h,q⟩:=hbody cdv A outer s H vs Q E hr hsp
  exact ⟨t,h.nox,q⟩
theorem FunD.binds {x qual:Str} {st:Stmt} {f:Addr} {fd:FuncData} {ps:List Str} {ds:List Value} (F:FunD K x qual st f fd)
    (h:∀ (T:Addr) (kV doc pm:Value) (an:Option Addr) (cdv ct:Value) (us:List Value),(us++ds).length=ps.length→∃ k:Option (Array Value)→Sem (List (Str × Value)),
      bindArgs (PySem.W.fnOf x qual (defArgs st) (defBody st) (defScope st) (.ref T) kV doc pm an cdv ct) ⟨us,[]⟩=seqItems? (.ref T) >>= k∧k (some #[.none])=pure (ps.zip (us++ds))):Binds K fd ps ds:=by
  obtain ⟨oc,od,T,kV,doc,pm,an,cdv,ct,osl,o,n,rfl,lk,hcd,lT,dT⟩:=F.ex
  intro s us X hl
  obtain ⟨k,h1,h2⟩:=h T kV doc pm an cdv ct us hl
  exact .of_defaults rfl (X _ _ lT) dT h1 h2
end
end L2
namespace L2
open PySem PySem.Spec PyProof.Rows PySem.W
structure MkOk0 (P:Program) (w:World) (K:PySem.W.Frag) (mg:Str→Option Value) (base:Heap) (k:Nat) (x:Str) (C:Addr) (ps:List Str) (sp:Sp) (dvs:List V):Prop where
  ex:∃ (f:Addr) (fd:FuncData) (ds:List Value),Mk K C f∧FnOk P w K mg base CX0 k f fd ps sp∧mg x=some (.ref C)∧Binds K fd ps ds∧Vals dvs ds
theorem pe_mk0 {X:Cx} {k j:Nat} {x:Str} {C:Addr} {ps:List Str} {sp:Sp} {p pos:Pos} {dvs:List V} (D:MkOk0 X.prog X.w X.K X.mg X.base k x C ps sp dvs) (hr:Room j X.A) (hj:k+1≤j:=by decide) (hg:Gl X x:=by rfl) (hdb:(x == ("__debug__":Str))=false:=by decide) :
    PE X (.Call (.Name x p) [] [] pos) (tMake C sp dvs E0 tNil):=by
  obtain ⟨f,fd,ds,M,F,hm,hb,hv⟩:=D.ex
  exact pe_make0 M F (hr.mono hj) hg hm hb hv pass0 hdb
end L2
namespace L2
open PySem PySem.Spec PyProof.Rows
section
variable {X:Cx} {elt tg iter:Expr} {scope:Scope} {pos:Pos} {wi:TI} {g:TG} {te:TE} {N:List Str} {fr:List (Option Nat)}
end
end L2
namespace L2
open PySem PySem.Spec PyProof.Rows PySem.W
section
variable {M:Model} {A:Around} {E:Value→Shared→Prop} {s:Shared} {e:Addr} {cls:Value} {d:Option Addr} {vs:Array Value} {sl:Array (Option Value)}
end
section
variable {M:Model} {A:Around} {E:Value→Shared→Prop} {s:Shared} {base:Heap} {env:Env} {outer:List Env} {L e:Addr} {cls:Value} {d:Option Addr} {vs:Array Value} {sl:Array (Option Value)} {Q:Unit→Shared→Prop}
end
end L2
namespace L2
open PySem PySem.Spec PyProof.Rows PySem.W
section
variable {X:Cx} {pins:List (Addr × Obj)} {σ:St} {H:Hp} {s:Shared} {x C T:Addr} {d:Option Addr} {h1 h2:Heap} {fl:Value} {tt:List Addr} {nw:HO}
end
end L2
namespace L2
open PySem PySem.Spec PyProof.Rows PySem.W
section
variable {X:Cx} {elt tg iter:Expr} {scope:Scope} {pos:Pos} {wi:TI} {g:TG} {te:TE} {N:List Str} {fr:List (Option Nat)}
end
section
variable {P:Program} {w:World} {K:PySem.W.Frag} {mg:Str→Option Value} {base:Heap} {N:List Str} {qual:Str} {scope:Scope} {f:Addr} {cd:Value} {A:Around} {outer:List Env} {s:Shared} {H:Hp} {E:XK} {Hs:Hp}
end
end L2
namespace L2
open PySem PySem.Spec PyProof.Rows PySem.W
section
variable {X:Cx} {i im:Nat} {n m g:Str} {G:Addr} {value c:Expr} {b₀ st su:Stmt} {suite:List Stmt} {np apos gp hpos pos:Pos} {te:XK→TE} {ts:TS} {t u:XK→TS} {tc:TT}
end
end L2
namespace L2
open PySem PySem.Spec PyProof.Rows PySem.W
section
variable {X:Cx}
end
end L2
namespace K63
open PySem L2
def top (i:Nat):Stmt:=PySem.Challenge.pw_glazebench_k63_whole_any_tree_is_on_the.main.body.getD i (.Pass ⟨0,0,0,0⟩)
abbrev s_NoPlan_init:Stmt:=inClass (top 6) 0
abbrev s_is_whole:Stmt:=top 9
abbrev s_is_side:Stmt:=top 10
abbrev s_Whole_init:Stmt:=inClass (top 16) 0
abbrev s_Upright_init:Stmt:=inClass (top 17) 0
abbrev s_Level_init:Stmt:=inClass (top 18) 0
abbrev s_cut_from:Stmt:=top 22
abbrev s_is_want:Stmt:=top 28
abbrev s_check_wants:Stmt:=top 29
abbrev s_ways_to_lie:Stmt:=top 30
abbrev s_ways_held:Stmt:=top 31
abbrev s_is_alone:Stmt:=top 32
abbrev s_number_alone:Stmt:=top 33
abbrev s_all_parts:Stmt:=top 34
abbrev s_parts_with_least:Stmt:=top 35
abbrev s_cuts_to:Stmt:=top 36
abbrev s_least_height:Stmt:=top 37
abbrev s_heights_of_parts:Stmt:=top 38
abbrev s_stair:Stmt:=top 39
abbrev s_all_bits:Stmt:=top 40
abbrev s_stairs:Stmt:=top 41
abbrev s_cut_off:Stmt:=top 42
abbrev s_tree_alone:Stmt:=top 43
abbrev s_tree_for:Stmt:=top 44
abbrev s_is_sheet:Stmt:=top 47
abbrev s_check_sheets:Stmt:=top 48
abbrev s_heights_for:Stmt:=top 49
abbrev s_cheapest_sheets:Stmt:=top 50
abbrev s_first_sheets:Stmt:=top 51
abbrev s_glass_by_set:Stmt:=top 52
abbrev s_least_glass:Stmt:=top 53
abbrev s_check_served:Stmt:=top 54
abbrev s_plan:Stmt:=top 55
abbrev s__law_at:Stmt:=top 57
abbrev s__law_more:Stmt:=top 58
abbrev s__law_knead:Stmt:=top 59
abbrev s__law_mark:Stmt:=top 60
abbrev s__law_drawn:Stmt:=top 61
abbrev s__law_rectangles:Stmt:=top 62
abbrev s__law_leaves:Stmt:=top 63
abbrev s__law_serves:Stmt:=top 64
abbrev s__law_from:Stmt:=top 65
abbrev s__law_bits:Stmt:=top 66
abbrev s__law_planned:Stmt:=top 67
abbrev s_law:Stmt:=top 68
def upto (n:Nat):List Int:=(List.range n).map fun k:Nat=>1+(k:Int)
theorem upto_succ (n:Nat):upto (n+1)=upto n++[1+(n:Int)]:=by unfold upto; rw [List.range_succ,List.map_append]; rfl
theorem mem_upto {n:Nat} {z:Int}:z∈upto n↔1≤z∧z≤n:=by
 unfold upto
 rw [List.mem_map]
 constructor
 ·rintro ⟨k,hk,rfl⟩
  have:=List.mem_range.mp hk
  omega
 ·rintro ⟨a,b⟩
  exact ⟨(z - 1).toNat,List.mem_range.mpr (by omega),by omega⟩
theorem upto_len (n:Nat):(upto n).length=n:=by unfold upto; rw [List.length_map,List.length_range]
def isPart (b p:Int):Bool:=decide (Builtin.bitAnd p b=p)
def partsOf (b:Int):List Int:=(upto b.toNat).filter (isPart b)
def inL (b p:Int):Bool:=(Builtin.bitAnd p (Builtin.bitAnd b (-b)) != 0) && !decide (p=b)
def plist (b:Int):List Int:=(partsOf b).filter (inL b)
def alone (b:Int):Bool:=decide (Builtin.bitAnd b (b - 1)=0)
def rat (r:List Int) (i:Int):Int:=r.getD i.toNat 0
def mx (i j:Int):Int:=if j > i then j else i
theorem le_mx {i j z:Int} (a:i≤z) (b:j≤z):mx i j≤z:=by unfold mx; split <;> assumption
theorem mx_l (i j:Int):i≤mx i j:=by unfold mx; split <;> omega
theorem mx_r (i j:Int):j≤mx i j:=by unfold mx; split <;> omega
def cutU (h:Int→List Int) (b w p a:Int):Int:=mx (rat (h p) a) (rat (h (b - p)) (w - a))
def cutP (h:Int→List Int) (b w p:Int):List Int:=(upto (w - 1).toNat).map (cutU h b w p)++[rat (h p) w+rat (h (b - p)) w]
def cutH (h:Int→List Int) (b w:Int):List Int:=(plist b).flatMap (cutP h b w)
abbrev Want:=Int × Int × Bool
def WOk (t:Want):Prop:=1≤t.1∧t.1≤12∧1≤t.2.1∧t.2.1≤12
def waysOf (t:Want):List (Int × Int):=if t.2.2=true then [(t.1,t.2.1),(t.2.1,t.1)] else [(t.1,t.2.1)]
def lows (t:Want) (w:Int):List Int:=((waysOf t).filter fun z=>decide (z.1≤w)).map (·.2)
def Low (ws:List Want) (h:Int→List Int) (b w z:Int):Prop :=
 (alone b=true→∃ t,ws[(((Builtin.Int.intBits b:Nat):Int) - 1).toNat]?=some t∧((lows t w=[]∧z=13)∨(z∈lows t w∧∀ y∈lows t w,z≤y))) ∧
 (alone b=false→∃ m,m∈cutH h b w∧(∀ y∈cutH h b w,m≤y)∧z=if m < 13 then m else 13)
def Row (ws:List Want) (h:Int→List Int) (p:Int):Prop:=rat (h p) 0=13∧∀ w,1≤w→w≤12→Low ws h p w (rat (h p) w)
theorem mem_plist {b p:Int} (h:p∈plist b):1≤p∧p < b:=by
 obtain ⟨h1,h2⟩:=List.mem_filter.mp h
 obtain ⟨h1,_⟩:=List.mem_filter.mp h1
 have:=mem_upto.mp h1
 unfold inL at h2
 rw [Bool.and_eq_true,Bool.not_eq_true',decide_eq_false_iff_not] at h2
 omega
theorem plist_len (b:Int):(plist b).length≤b.toNat:=by
 unfold plist partsOf
 exact Nat.le_trans (List.length_filter_le _ _) (Nat.le_trans (List.length_filter_le _ _) (Nat.le_of_eq (upto_len _)))
theorem flatMap_ext {α β:Type} {f g:α→List β}:∀ {l:List α},(∀ x∈l,f x=g x)→l.flatMap f=l.flatMap g
 | [],_=>rfl
 | x :: l,h=>by rw [List.flatMap_cons,List.flatMap_cons,h x (by simp),flatMap_ext fun y hy=>h y (by simp [hy])]
theorem cut_congr {h h':Int→List Int} {b w:Int} (e:∀ x,1≤x→x < b→h x=h' x):cutH h b w=cutH h' b w:=by
 unfold cutH
 refine flatMap_ext fun p hp=>?_
 obtain ⟨p1,p2⟩:=mem_plist hp
 have e1:=e p p1 p2
 have e2:=e (b - p) (by omega) (by omega)
 unfold cutP cutU
 rw [e1,e2]
theorem Low.congr {ws:List Want} {h h':Int→List Int} {b w z:Int} (l:Low ws h b w z) (e:∀ x,1≤x→x < b→h x=h' x):Low ws h' b w z :=
 ⟨l.1,fun a=>by rw [← cut_congr e]; exact l.2 a⟩
theorem at_rat {r:List Int} {i:Int} (h0:0≤i) (h1:i < r.length):atI (r.map V.int) i=some (.int (rat r i)):=by
 have hk:i.toNat < r.length:=by omega
 have hz:(r.map V.int)[i.toNat]?=some (.int (rat r i)):=by
  unfold rat
  rw [List.getElem?_map,List.getD_eq_getElem?_getD,List.getElem?_eq_getElem hk]; rfl
 have e:=atI_nat hz
 rw [Int.toNat_of_nonneg h0] at e
 exact e
theorem mem_waysOf {t:Want} {z:Int × Int} (ok:WOk t) (h:z∈waysOf t):z.2≤12:=by
 obtain ⟨a,b,c,d⟩:=ok
 unfold waysOf at h
 split at h
 ·simp only [List.mem_cons,List.not_mem_nil,or_false] at h
  rcases h with rfl | rfl
  ·exact d
  ·exact b
 ·rw [List.mem_singleton.mp h]; exact d
theorem mem_lows {t:Want} {w y:Int} (ok:WOk t) (h:y∈lows t w):y≤12:=by
 obtain ⟨z,hz,rfl⟩:=List.mem_map.mp h
 exact mem_waysOf ok (List.mem_filter.mp hz).1
theorem lows_more {t:Want} {w w' y:Int} (hw:w≤w') (h:y∈lows t w):y∈lows t w':=by
 obtain ⟨z,hz,rfl⟩:=List.mem_map.mp h
 obtain ⟨h1,h2⟩:=List.mem_filter.mp hz
 have h2:=of_decide_eq_true h2
 exact List.mem_map.mpr ⟨z,List.mem_filter.mpr ⟨h1,decide_eq_true (by omega)⟩,rfl⟩
theorem mem_cutH {h:Int→List Int} {b w y:Int} (hy:y∈cutH h b w):∃ p,p∈plist b∧((∃ a,1≤a∧a < w∧y=cutU h b w p a)∨y=rat (h p) w+rat (h (b - p)) w):=by
 obtain ⟨p,hp,hy⟩:=List.mem_flatMap.mp hy
 unfold cutP at hy
 refine ⟨p,hp,?_⟩
 rcases List.mem_append.mp hy with hy | hy
 ·obtain ⟨a,ha,rfl⟩:=List.mem_map.mp hy
  have:=mem_upto.mp ha
  exact .inl ⟨a,by omega,by omega,rfl⟩
 ·exact .inr (List.mem_singleton.mp hy)
theorem cutU_in {h:Int→List Int} {b w p a:Int} (hp:p∈plist b) (a1:1≤a) (a2:a < w):cutU h b w p a∈cutH h b w :=
 List.mem_flatMap.mpr ⟨p,hp,List.mem_append_left _ (List.mem_map.mpr ⟨a,mem_upto.mpr (by omega),rfl⟩)⟩
theorem cutL_in {h:Int→List Int} {b w p:Int} (hp:p∈plist b):rat (h p) w+rat (h (b - p)) w∈cutH h b w :=
 List.mem_flatMap.mpr ⟨p,hp,List.mem_append_right _ (List.mem_singleton.mpr rfl)⟩
section
variable {ws:List Want} {h:Int→List Int} {N:Int}
theorem row_top (ok:∀ t∈ws,WOk t) (rows:∀ p,1≤p→p≤N→Row ws h p) {p w:Int} (p1:1≤p) (p2:p≤N) (w1:1≤w) (w2:w≤12):rat (h p) w≤13:=by
 obtain ⟨l1,l2⟩:=(rows p p1 p2).2 w w1 w2
 cases ha:alone p with
 | true =>
  obtain ⟨t,ht,z⟩:=l1 ha
  rcases z with ⟨_,z⟩ | ⟨z,_⟩
  ·omega
  ·have:=mem_lows (ok t (List.mem_of_getElem? ht)) z
   omega
 | false =>
  obtain ⟨m,_,_,e⟩:=l2 ha
  rw [e]; split <;> omega
theorem row_least (rows:∀ p,1≤p→p≤N→Row ws h p) {p w y:Int} (p1:1≤p) (p2:p≤N) (w1:1≤w) (w2:w≤12) (ha:alone p=false) (hy:y∈cutH h p w):rat (h p) w≤y:=by
 obtain ⟨m,_,hm,e⟩:=((rows p p1 p2).2 w w1 w2).2 ha
 have:=hm y hy
 rw [e]; split <;> omega
theorem row_mono (ok:∀ t∈ws,WOk t) (rows:∀ p,1≤p→p≤N→Row ws h p):∀ (k:Nat) (p w:Int),p.toNat=k→1≤p→p≤N→1≤w→w+1≤12→rat (h p) (w+1)≤rat (h p) w:=by
 intro k
 induction k using Nat.strongRecOn with
 | ind k ih =>
  intro p w hk p1 p2 w1 w2
  obtain ⟨l1,l2⟩:=(rows p p1 p2).2 w w1 (by omega)
  cases ha:alone p with
  | true =>
   obtain ⟨t,ht,z⟩:=l1 ha
   obtain ⟨t',ht',z'⟩:=((rows p p1 p2).2 (w+1) (by omega) w2).1 ha
   rw [ht] at ht'
   cases ht'
   rcases z with ⟨_,z⟩ | ⟨z,_⟩
   ·have:=row_top ok rows p1 p2 (w:=w+1) (by omega) w2
    omega
   ·have z2:=lows_more (w':=w+1) (by omega) z
    rcases z' with ⟨e,_⟩ | ⟨_,z'⟩
    ·rw [e] at z2; cases z2
    ·exact z' _ z2
  | false =>
   obtain ⟨m,hm,_,e⟩:=l2 ha
   have top:=row_top ok rows p1 p2 (w:=w+1) (by omega) w2
   have le:rat (h p) (w+1)≤m:=by
    obtain ⟨q,hq,c⟩:=mem_cutH hm
    obtain ⟨q1,q2⟩:=mem_plist hq
    rcases c with ⟨a,a1,a2,rfl⟩ | rfl
    ·refine Int.le_trans (row_least rows p1 p2 (by omega) w2 ha (cutU_in hq a1 (by omega))) ?_
     unfold cutU
     refine le_mx (mx_l _ _) (Int.le_trans ?_ (mx_r _ _))
     have:=ih (p - q).toNat (by omega) (p - q) (w - a) rfl (by omega) (by omega) (by omega) (by omega)
     rw [show w+1 - a=w - a+1 from by omega]
     exact this
    ·refine Int.le_trans (row_least rows p1 p2 (by omega) w2 ha (cutL_in hq)) ?_
     have r1:=ih q.toNat (by omega) q w rfl (by omega) (by omega) w1 w2
     have r2:=ih (p - q).toNat (by omega) (p - q) w rfl (by omega) (by omega) w1 w2
     omega
   rw [e]; split <;> omega
theorem row_down (ok:∀ t∈ws,WOk t) (rows:∀ p,1≤p→p≤N→Row ws h p) {p:Int} (p1:1≤p) (p2:p≤N) {w:Int} (w1:1≤w):∀ (k:Nat),w+(k:Int)≤12→rat (h p) (w+(k:Int))≤rat (h p) w
 | 0,_=>by rw [show w+((0:Nat):Int)=w from by omega]; exact Int.le_refl _
 | k+1,hk=>by
  have a:=row_down ok rows p1 p2 w1 k (by omega)
  have b:=row_mono ok rows _ p (w+(k:Int)) rfl p1 p2 (by omega) (by omega)
  rw [show w+((k+1:Nat):Int)=w+(k:Int)+1 from by omega]
  omega
theorem row_le (ok:∀ t∈ws,WOk t) (rows:∀ p,1≤p→p≤N→Row ws h p) {p w w':Int} (p1:1≤p) (p2:p≤N) (w1:1≤w) (hw:w≤w') (w2:w'≤12):rat (h p) w'≤rat (h p) w:=by
 have:=row_down ok rows p1 p2 w1 (w' - w).toNat (by omega)
 rw [show w+((w' - w).toNat:Int)=w' from by omega] at this
 exact this
end
def partB (b p:Int):Bool:=decide (Builtin.bitAnd p b=p→p≠b→alone b=false∧Builtin.bitXor b p=b - p∧Builtin.bitAnd (b - p) b=b - p∧p < b∧(Builtin.bitAnd p (Builtin.bitAnd b (-b))≠0∨Builtin.bitAnd (b - p) (Builtin.bitAnd b (-b))≠0))
theorem part_ok:(upto 63).all (fun b=>(upto 63).all fun p=>partB b p)=true:=by decide +kernel
theorem part_of {b p:Int} (b1:1≤b) (b2:b≤63) (p1:1≤p) (p2:p≤63) (h:Builtin.bitAnd p b=p) (n:p≠b):alone b=false∧Builtin.bitXor b p=b - p∧p < b∧(p∈plist b∨b - p∈plist b):=by
 have e:=List.all_eq_true.mp (List.all_eq_true.mp part_ok b (mem_upto.mpr ⟨b1,b2⟩)) p (mem_upto.mpr ⟨p1,p2⟩)
 obtain ⟨a1,a2,a3,a4,a5⟩:=of_decide_eq_true e h n
 refine ⟨a1,a2,a4,?_⟩
 have mk:∀ q,1≤q→q < b→Builtin.bitAnd q b=q→Builtin.bitAnd q (Builtin.bitAnd b (-b))≠0→q∈plist b:=fun q q1 q2 q3 q4 =>
  List.mem_filter.mpr ⟨List.mem_filter.mpr ⟨mem_upto.mpr (by omega),decide_eq_true q3⟩,by
   unfold inL
   rw [Bool.and_eq_true,bne_iff_ne,Bool.not_eq_true',decide_eq_false_iff_not]
   exact ⟨q4,by omega⟩⟩
 rcases a5 with a5 | a5
 ·exact .inl (mk p p1 a4 h a5)
 ·exact .inr (mk (b - p) (by omega) (by omega) a3 a5)
theorem full_ok:∀ n:Nat,n < 7→partsOf (1 * 2^((n:Nat):Int).toNat - 1)=upto (2^n - 1):=by decide +kernel
def soleB (n:Nat) (b:Int):Bool:=(!alone b || (decide (0≤((Builtin.Int.intBits b:Nat):Int) - 1) && decide ((((Builtin.Int.intBits b:Nat):Int) - 1).toNat < n))) && (alone b || !(plist b).isEmpty)
theorem sole_ok:∀ n:Nat,n < 7→(upto (2^n - 1)).all (soleB n)=true:=by decide +kernel
theorem sole_of {n:Nat} {b:Int} (hn:n < 7) (b1:1≤b) (b2:b≤((2^n - 1:Nat):Int)):(alone b=true→0≤((Builtin.Int.intBits b:Nat):Int) - 1∧(((Builtin.Int.intBits b:Nat):Int) - 1).toNat < n)∧(alone b=false→plist b≠[]):=by
 have e:=List.all_eq_true.mp (sole_ok n hn) b (mem_upto.mpr ⟨b1,b2⟩)
 unfold soleB at e
 rw [Bool.and_eq_true,Bool.or_eq_true,Bool.or_eq_true,Bool.and_eq_true,Bool.not_eq_true',Bool.not_eq_true',decide_eq_true_eq,decide_eq_true_eq] at e
 refine ⟨fun a=>?_,fun a=>?_⟩
 ·rcases e.1 with z | z
  ·rw [a] at z; cases z
  ·exact z
 ·rcases e.2 with z | z
  ·rw [a] at z; cases z
  ·intro q; rw [q] at z; cases z
def isStep (r:List Int) (w:Int):Bool:=decide (rat r w < rat r (w - 1))
def stairOf (r:List Int):List (Int × Int):=((upto 12).filter (isStep r)).map fun w=>(w,rat r w)
theorem stair_len (r:List Int):(stairOf r).length≤12:=by
 unfold stairOf
 rw [List.length_map]
 exact Nat.le_trans (List.length_filter_le _ _) (Nat.le_of_eq (upto_len _))
theorem mem_stair {r:List Int} {z:Int × Int} (h:z∈stairOf r):1≤z.1∧z.1≤12∧z.2=rat r z.1:=by
 obtain ⟨w,hw,rfl⟩:=List.mem_map.mp h
 have:=mem_upto.mp (List.mem_filter.mp hw).1
 exact ⟨this.1,this.2,rfl⟩
theorem stair_at {r:List Int} (r0:rat r 0=13) {T:Int} (hT:T≤12):∀ (k:Nat),1+(k:Int)≤12→rat r (1+(k:Int))≤T→∃ z∈stairOf r,z.1≤1+(k:Int)∧z.2≤T:=by
 intro k
 induction k with
 | zero =>
  intro h1 h2
  refine ⟨(1,rat r 1),List.mem_map.mpr ⟨1,List.mem_filter.mpr ⟨mem_upto.mpr (by omega),decide_eq_true ?_⟩,rfl⟩,?_,?_⟩
  ·have e:rat r (1 - 1)=13:=r0
   have h2:rat r 1≤T:=h2
   omega
  ·show (1:Int)≤1+((0:Nat):Int)
   omega
  ·exact h2
 | succ k ih =>
  intro h1 h2
  by_cases c:rat r (1+(k:Int))≤T
  ·obtain ⟨z,hz,a,b⟩:=ih (by omega) c
   exact ⟨z,hz,by omega,b⟩
  ·refine ⟨(1+((k+1:Nat):Int),rat r (1+((k+1:Nat):Int))),List.mem_map.mpr ⟨1+((k+1:Nat):Int),List.mem_filter.mpr ⟨mem_upto.mpr (by omega),decide_eq_true ?_⟩,rfl⟩,Int.le_refl _,h2⟩
   rw [show 1+((k+1:Nat):Int) - 1=1+(k:Int) from by omega]
   omega
def lowV (t:Want) (w:Int):Int:=(lows t w).foldl (fun m y=>if y < m then y else m) 13
theorem fold_min:∀ (l:List Int) (m:Int),(l.foldl (fun m y=>if y < m then y else m) m=m∨l.foldl (fun m y=>if y < m then y else m) m∈l)∧(l.foldl (fun m y=>if y < m then y else m) m≤m∧∀ y∈l,l.foldl (fun m y=>if y < m then y else m) m≤y)
 | [],m=>⟨.inl rfl,Int.le_refl _,fun y hy=>nomatch hy⟩
 | x :: l,m=>by
  obtain ⟨h1,h2,h3⟩:=fold_min l (if x < m then x else m)
  have e:(x :: l).foldl (fun m y=>if y < m then y else m) m=l.foldl (fun m y=>if y < m then y else m) (if x < m then x else m):=rfl
  rw [e]
  generalize l.foldl (fun m y=>if y < m then y else m) (if x < m then x else m)=r at h1 h2 h3
  refine ⟨?_,?_,fun y hy=>?_⟩
  ·rcases h1 with z | z
   ·by_cases c:x < m
    ·rw [if_pos c] at z; exact .inr (by rw [z]; simp)
    ·rw [if_neg c] at z; exact .inl z
   ·exact .inr (List.mem_cons_of_mem _ z)
  ·split at h2 <;> omega
  ·rcases List.mem_cons.mp hy with rfl | hy
   ·split at h2 <;> omega
   ·exact h3 y hy
theorem lowV_of {t:Want} {w z:Int} (ok:WOk t) (h:(lows t w=[]∧z=13)∨(z∈lows t w∧∀ y∈lows t w,z≤y)):z=lowV t w:=by
 obtain ⟨h1,h2,h3⟩:=fold_min (lows t w) 13
 unfold lowV
 rcases h with ⟨e,rfl⟩ | ⟨m,le⟩
 ·rw [e]; rfl
 ·rcases h1 with c | c
  ·have:=mem_lows ok m
   have:=h3 z m
   omega
  ·have a:=h3 z m
   have b:=le _ c
   omega
theorem rat_ext {r r':List Int} (h1:r.length=13) (h2:r'.length=13) (h:∀ w:Int,0≤w→w≤12→rat r w=rat r' w):r=r':=by
 refine List.ext_getElem (by omega) fun i a b=>?_
 have:=h (i:Int) (by omega) (by omega)
 unfold rat at this
 rw [Int.toNat_natCast,List.getD_eq_getElem?_getD,List.getD_eq_getElem?_getD,List.getElem?_eq_getElem a,List.getElem?_eq_getElem b] at this
 exact this
def aloneB (n:Nat) (k:Nat):Bool:=decide (k < n→alone (1 * 2^((k:Nat):Int).toNat)=true∧(((Builtin.Int.intBits (1 * 2^((k:Nat):Int).toNat):Nat):Int) - 1).toNat=k∧(1:Int)≤1 * 2^((k:Nat):Int).toNat∧(1 * 2^((k:Nat):Int).toNat:Int)≤((2^n - 1:Nat):Int))
theorem alone_ok:(List.range 7).all (fun n=>(List.range 7).all (aloneB n))=true:=by decide +kernel
theorem alone_of {n k:Nat} (hn:n < 7) (hk:k < n):alone (1 * 2^((k:Nat):Int).toNat)=true∧(((Builtin.Int.intBits (1 * 2^((k:Nat):Int).toNat):Nat):Int) - 1).toNat=k∧(1:Int)≤1 * 2^((k:Nat):Int).toNat∧(1 * 2^((k:Nat):Int).toNat:Int)≤((2^n - 1:Nat):Int) :=
 of_decide_eq_true (List.all_eq_true.mp (List.all_eq_true.mp alone_ok n (List.mem_range.mpr hn)) k (List.mem_range.mpr (by omega))) hk
def minO:List Int→Option Int
 | []=>none
 | x :: l=>some (l.foldl (fun m y=>if y < m then y else m) x)
theorem minO_mem {l:List Int} {m:Int} (h:minO l=some m):m∈l∧∀ y∈l,m≤y:=by
 cases l with
 | nil=>cases h
 | cons x l =>
  obtain ⟨h1,h2,h3⟩:=fold_min l x
  have e:l.foldl (fun m y=>if y < m then y else m) x=m:=Option.some.inj h
  rw [e] at h1 h2 h3
  refine ⟨?_,fun y hy=>?_⟩
  ·rcases h1 with z | z
   ·rw [z]; simp
   ·exact List.mem_cons_of_mem _ z
  ·rcases List.mem_cons.mp hy with rfl | hy
   ·exact h2
   ·exact h3 y hy
theorem minO_none {l:List Int} (h:minO l=none):l=[]:=by
 cases l with
 | nil=>rfl
 | cons x l=>cases h
theorem minO_of {l:List Int} {m:Int} (hm:m∈l) (le:∀ y∈l,m≤y):minO l=some m:=by
 cases e:minO l with
 | none=>rw [minO_none e] at hm; cases hm
 | some z =>
  obtain ⟨a,b⟩:=minO_mem e
  rw [Int.le_antisymm (b m hm) (le z a)]
theorem minO_le {l:List Int} {x:Int} (h:x∈l):∃ m,minO l=some m∧m≤x:=by
 cases e:minO l with
 | none=>rw [minO_none e] at h; cases h
 | some m=>exact ⟨m,rfl,(minO_mem e).2 x h⟩
def serves (r:List Int) (z:Int × Int):Bool:=decide (rat r z.1≤z.2)
def area (z:Int × Int):Int:=z.1 * z.2
def cost (r:List Int) (ss:List (Int × Int)):Option Int:=minO ((ss.filter (serves r)).map area)
def wayOf (co G:Int→Option Int) (b p:Int):Option (Int × Int) :=
 match co p with
 | none=>none
 | some c=>match G (b - p) with
  | none=>none
  | some g=>some (c+g,p)
def waysL (co G:Int→Option Int) (b:Int):List (Int × Int):=(plist b++[b]).filterMap (wayOf co G b)
def GlassP (co G:Int→Option Int) (n:Nat):Prop:=G 0=some 0∧∀ b:Int,1≤b→b≤n→G b=minO ((waysL co G b).map (·.1))
def SOk (z:Int × Int):Prop:=1≤z.1∧z.1≤12∧1≤z.2∧z.2≤12
theorem mem_ways {co G:Int→Option Int} {b y:Int}:y∈(waysL co G b).map (·.1)↔∃ p c g,p∈plist b++[b]∧co p=some c∧G (b - p)=some g∧y=c+g:=by
 unfold waysL
 rw [List.mem_map]
 constructor
 ·rintro ⟨z,hz,rfl⟩
  obtain ⟨p,hp,e⟩:=List.mem_filterMap.mp hz
  unfold wayOf at e
  cases ec:co p with
  | none=>rw [ec] at e; cases e
  | some c =>
   rw [ec] at e
   cases eg:G (b - p) with
   | none=>simp only [eg] at e; cases e
   | some g =>
    simp only [eg] at e
    have:=Option.some.inj e
    exact ⟨p,c,g,hp,ec,eg,by rw [← this]⟩
 ·rintro ⟨p,c,g,hp,ec,eg,rfl⟩
  refine ⟨(c+g,p),List.mem_filterMap.mpr ⟨p,hp,?_⟩,rfl⟩
  unfold wayOf
  rw [ec]
  simp only [eg]
def refs {α:Type} (ts:List (Addr × α)):List V:=ts.map fun t=>V.ref t.1
theorem refs_get {α:Type} {ts:List (Addr × α)} {i:Nat} {x:V} (h:(refs ts)[i]?=some x):∃ u,ts[i]?=some u∧x=.ref u.1:=by
 rw [refs,List.getElem?_map] at h
 cases e:ts[i]? with
 | none=>rw [e] at h; cases h
 | some u=>rw [e] at h; exact ⟨u,rfl,(Option.some.inj h).symm⟩
theorem refs_len {α:Type} (ts:List (Addr × α)):(refs ts).length=ts.length:=List.length_map ..
theorem ints_get {xs:List Int} {i:Nat} {x:V} (h:(xs.map V.int)[i]?=some x):∃ z,xs[i]?=some z∧x=.int z:=by
 rw [List.getElem?_map] at h
 cases e:xs[i]? with
 | none=>rw [e] at h; cases h
 | some z=>rw [e] at h; exact ⟨z,rfl,(Option.some.inj h).symm⟩
def TupL (H:Hp) (l:Addr) (zs:List (Int × Int)):Prop:=∃ ts:List (Addr × Int × Int),H l=some (.lst (refs ts))∧(∀ t∈ts,H t.1=some (.tup [.int t.2.1,.int t.2.2]))∧ts.map (·.2)=zs
theorem TupL.same {H H':Hp} {l:Addr} {zs:List (Int × Int)} (h:TupL H l zs) (s:Same H H'):TupL H' l zs :=
 let ⟨ts,a,b,c⟩:=h; ⟨ts,s _ _ a,fun t ht=>s _ _ (b t ht),c⟩
def WantsAt (H:Hp) (a:Addr) (ws:List Want):Prop:=∃ ts:List (Addr × Want),H a=some (.lst (refs ts))∧(∀ t∈ts,H t.1=some (.tup [.int t.2.1,.int t.2.2.1,.bl t.2.2.2]))∧ts.map (·.2)=ws
theorem WantsAt.same {H H':Hp} {a:Addr} {ws:List Want} (h:WantsAt H a ws) (s:Same H H'):WantsAt H' a ws :=
 let ⟨ts,a,b,c⟩:=h; ⟨ts,s _ _ a,fun t ht=>s _ _ (b t ht),c⟩
def kvN (ad:Int→Addr):Nat→List (Key × V)
 | 0=>[]
 | n+1=>putK (kvN ad n) (Sum.inl (1+(n:Int))) (.ref (ad (1+(n:Int))))
theorem kv_val (ad:Int→Addr):∀ (n:Nat) (q:Int),valV (kvN ad n) (Sum.inl q)=if 1≤q∧q≤n then some (.ref (ad q)) else none
 | 0,q=>by rw [if_neg (by omega)]; rfl
 | n+1,q=>by
  show valV (putK (kvN ad n) (Sum.inl (1+(n:Int))) (.ref (ad (1+(n:Int))))) (Sum.inl q)=_
  rw [valV_put]
  by_cases e:q=1+(n:Int)
  ·rw [if_pos (by rw [e]),if_pos (by omega),e]
  ·rw [if_neg (fun z=>e (Sum.inl.inj z)),kv_val ad n q]
   by_cases c:1≤q∧q≤n
   ·rw [if_pos c,if_pos (by omega)]
   ·rw [if_neg c,if_neg (by omega)]
theorem kv_congr {ad ad':Int→Addr}:∀ (n:Nat),(∀ q:Int,1≤q→q≤n→ad q=ad' q)→kvN ad n=kvN ad' n
 | 0,_=>rfl
 | n+1,h=>by
  show putK (kvN ad n) _ _=putK (kvN ad' n) _ _
  rw [kv_congr n fun q a b=>h q a (by omega),h (1+(n:Int)) (by omega) (by omega)]
theorem kv_eq (ad:Int→Addr):∀ (n:Nat),kvN ad n=(List.range n).map fun k:Nat=>((Sum.inl (1+(k:Int)):Key),V.ref (ad (1+(k:Int))))
 | 0=>rfl
 | n+1=>by
  have z:valV (kvN ad n) (Sum.inl (1+(n:Int)))=none:=by rw [kv_val,if_neg (by omega)]
  have e:((kvN ad n).any fun kv=>decide (kv.1=Sum.inl (1+(n:Int))))=false:=by rw [valV_any,z]; rfl
  show putK (kvN ad n) _ _=_
  unfold putK
  rw [e,if_neg Bool.false_ne_true,kv_eq ad n,List.range_succ,List.map_append]
  rfl
theorem kv_len (ad:Int→Addr) (n:Nat):(kvN ad n).length=n:=by rw [kv_eq,List.length_map,List.length_range]
theorem kv_get {ad:Int→Addr} {n i:Nat} {p:Key × V} (h:(kvN ad n)[i]?=some p):i < n∧p=(Sum.inl (1+(i:Int)),V.ref (ad (1+(i:Int)))):=by
 have hl:=(List.getElem?_eq_some_iff.mp h).1
 rw [kv_len] at hl
 rw [kv_eq,List.getElem?_map,List.getElem?_range hl] at h
 exact ⟨hl,(Option.some.inj h).symm⟩
def Tab (H:Hp) (d:Addr) (n:Nat) (ad:Int→Addr) (h:Int→List Int):Prop:=H d=some (.dK (kvN ad n))∧∀ p:Int,1≤p→p≤n→H (ad p)=some (.lst ((h p).map V.int))∧(h p).length=13
theorem Tab.same {H H':Hp} {d:Addr} {n:Nat} {ad:Int→Addr} {h:Int→List Int} (t:Tab H d n ad h) (s:Same H H'):Tab H' d n ad h:=⟨s _ _ t.1,fun p a b=>⟨s _ _ (t.2 p a b).1,(t.2 p a b).2⟩⟩
def TabS (H:Hp) (d:Addr) (n:Nat) (ad:Int→Addr) (st:Int→List (Int × Int)):Prop:=H d=some (.dK (kvN ad n))∧∀ p:Int,1≤p→p≤n→TupL H (ad p) (st p)∧(st p).length≤12
theorem TabS.same {H H':Hp} {d:Addr} {n:Nat} {ad:Int→Addr} {st:Int→List (Int × Int)} (t:TabS H d n ad st) (s:Same H H'):TabS H' d n ad st:=⟨s _ _ t.1,fun p a b=>⟨(t.2 p a b).1.same s,(t.2 p a b).2⟩⟩
theorem TabS.get {H:Hp} {d:Addr} {n:Nat} {ad:Int→Addr} {st:Int→List (Int × Int)} (t:TabS H d n ad st) {p:Int} (p1:1≤p) (p2:p≤n):DGet H d (.int p) (some (.ref (ad p))):=by
 have:=DGet.k (k:=Sum.inl p) t.1
 rw [kv_val,if_pos ⟨p1,p2⟩] at this
 exact this
theorem wasNone {H H':Hp} (s:Same H H') {a:Addr} (h:H' a=none):H a=none:=by
 cases q:H a with
 | none=>rfl
 | some o=>rw [s a o q] at h; cases h
def intsD:List Int→Ds
 | []=>.nil
 | i :: r=>.cons (.at (.int i)) (intsD r)
theorem intsD_is {K:PySem.W.Frag} {H:Hp}:∀ (ns:List Int),DIss K H (intsD ns) (ns.map V.int)
 | []=>by
  show DIss K H .nil []
  rw [DIss]
 | i :: r=>by
  show DIss K H (.cons (.at (.int i)) (intsD r)) (.int i :: r.map V.int)
  rw [DIss]
  exact ⟨_,_,rfl,by rw [DIs]; exact ⟨rfl,rfl⟩,intsD_is r⟩
theorem intsD_dep:∀ (ns:List Int),deps (intsD ns)=0
 | []=>by rw [intsD,deps]
 | i :: r=>by rw [intsD,deps,dep,intsD_dep r]; rfl
theorem intsD_nil:∀ (ns:List Int),deqs (intsD ns) .nil=decide (ns=[])
 | []=>by rw [intsD,deqs]; rfl
 | i :: r=>by rw [intsD,deqs] <;> simp
theorem intsL {K:PySem.W.Frag} {H:Hp} {a:Addr} {ns:List Int} (h:SqL K H a (ns.map V.int)):DIs K H (.lst (intsD ns)) (.ref a):=by
 rw [DIs]
 exact ⟨a,_,rfl,h,intsD_is _⟩
theorem nilL {K:PySem.W.Frag} {H:Hp} {a:Addr} (h:H a=some (.lst [])):DIs K H (.lst .nil) (.ref a):=by
 rw [DIs]
 exact ⟨a,[],rfl,SqL.of h,by rw [DIss]⟩
theorem intsL_dep (ns:List Int):dep (.lst (intsD ns))≤50:=by rw [dep,intsD_dep]; omega
theorem rows_eq {ws:List Want} {h h':Int→List Int} {N:Int} (ok:∀ t∈ws,WOk t) (rows:∀ p,1≤p→p≤N→Row ws h p) (rows':∀ p,1≤p→p≤N→Row ws h' p) (l:∀ p,1≤p→p≤N→(h p).length=13) (l':∀ p,1≤p→p≤N→(h' p).length=13) :
  ∀ (k:Nat) (p:Int),p.toNat=k→1≤p→p≤N→h p=h' p:=by
 intro k
 induction k using Nat.strongRecOn with
 | ind k ih =>
  intro p hk p1 p2
  refine rat_ext (l p p1 p2) (l' p p1 p2) fun w w0 w2=>?_
  by_cases c:w=0
  ·rw [c,(rows p p1 p2).1,(rows' p p1 p2).1]
  ·have a:=(rows p p1 p2).2 w (by omega) w2
   have b:=(rows' p p1 p2).2 w (by omega) w2
   cases e:alone p with
   | true =>
    obtain ⟨t,ht,z⟩:=a.1 e
    obtain ⟨t',ht',z'⟩:=b.1 e
    rw [ht] at ht'
    cases ht'
    have okt:=ok t (List.mem_of_getElem? ht)
    rw [lowV_of okt z,lowV_of okt z']
   | false =>
    obtain ⟨m,hm,le,q⟩:=a.2 e
    obtain ⟨m',hm',le',q'⟩:=b.2 e
    have ce:cutH h p w=cutH h' p w:=cut_congr fun x x1 x2=>ih x.toNat (by omega) x rfl x1 (by omega)
    rw [ce] at hm le
    have:m=m':=Int.le_antisymm (le _ hm') (le' _ hm)
    rw [q,q',this]
theorem at_refs {α:Type} {ts:List (Addr × α)} {i:Int} {u:Addr × α} (h0:0≤i) (h:ts[i.toNat]?=some u):atI (refs ts) i=some (.ref u.1):=by
 have e:=atI_nat (xs:=refs ts) (j:=i.toNat) (v:=.ref u.1) (by rw [refs,List.getElem?_map,h]; rfl)
 rw [Int.toNat_of_nonneg h0] at e
 exact e
theorem pow_of {n:Nat} (h:n≤6):(1:Int) * 2^((n:Nat):Int).toNat=((2^n - 1:Nat):Int)+1∧2^n - 1≤63:=by
 have:∀ n:Nat,n≤6→(1:Int) * 2^((n:Nat):Int).toNat=((2^n - 1:Nat):Int)+1∧2^n - 1≤63:=by decide +kernel
 exact this n h
def gv:Option Int→V
 | none=>.non
 | some i=>.int i
def gkv (G:Int→Option Int):Nat→List (Key × V)
 | 0=>[(Sum.inl 0,gv (G 0))]
 | n+1=>putK (gkv G n) (Sum.inl (1+(n:Int))) (gv (G (1+(n:Int))))
theorem gk_val (G:Int→Option Int):∀ (n:Nat) (q:Int),valV (gkv G n) (Sum.inl q)=if 0≤q∧q≤n then some (gv (G q)) else none
 | 0,q=>by
  by_cases e:q=0
  ·rw [if_pos (by omega),e]; rfl
  ·rw [if_neg (by omega)]
   show ((([(Sum.inl 0,gv (G 0))]:List (Key × V)).find? fun kv=>decide (kv.1=Sum.inl q)).map (·.2))=none
   rw [List.find?_cons,decide_eq_false (fun z=>e (Sum.inl.inj z).symm)]; rfl
 | n+1,q=>by
  show valV (putK (gkv G n) (Sum.inl (1+(n:Int))) (gv (G (1+(n:Int))))) (Sum.inl q)=_
  rw [valV_put]
  by_cases e:q=1+(n:Int)
  ·rw [if_pos (by rw [e]),if_pos (by omega),e]
  ·rw [if_neg (fun z=>e (Sum.inl.inj z)),gk_val G n q]
   by_cases c:0≤q∧q≤n
   ·rw [if_pos c,if_pos (by omega)]
   ·rw [if_neg c,if_neg (by omega)]
theorem gk_congr {G G':Int→Option Int}:∀ (n:Nat),(∀ q:Int,0≤q→q≤n→G q=G' q)→gkv G n=gkv G' n
 | 0,h=>by
  show [(Sum.inl 0,gv (G 0))]=[(Sum.inl 0,gv (G' 0))]
  rw [h 0 (by omega) (by omega)]
 | n+1,h=>by
  show putK (gkv G n) _ _=putK (gkv G' n) _ _
  rw [gk_congr n fun q a b=>h q a (by omega),h (1+(n:Int)) (by omega) (by omega)]
theorem gk_new (G:Int→Option Int) (n:Nat) (v:V):putK (gkv G n) (Sum.inl (1+(n:Int))) v=gkv G n++[(Sum.inl (1+(n:Int)),v)]:=by
 have z:valV (gkv G n) (Sum.inl (1+(n:Int)))=none:=by rw [gk_val,if_neg (by omega)]
 have e:((gkv G n).any fun kv=>decide (kv.1=Sum.inl (1+(n:Int))))=false:=by rw [valV_any,z]; rfl
 unfold putK
 rw [e,if_neg Bool.false_ne_true]
theorem gk_eq (G:Int→Option Int):∀ (n:Nat),gkv G n=(List.range (n+1)).map fun k:Nat=>((Sum.inl (k:Int):Key),gv (G (k:Int)))
 | 0=>rfl
 | n+1=>by
  show putK (gkv G n) _ _=_
  rw [gk_new,gk_eq G n,List.range_succ (n:=n+1),List.map_append]
  show _++_=_++[((Sum.inl ((n+1:Nat):Int):Key),gv (G ((n+1:Nat):Int)))]
  rw [show ((n+1:Nat):Int)=1+(n:Int) from by omega]
theorem gk_len (G:Int→Option Int) (n:Nat):(gkv G n).length=n+1:=by rw [gk_eq,List.length_map,List.length_range]
def Chp (H:Hp) (c:Addr) (n:Nat) (co:Int→Option Int):Prop:=∃ kvs:List (Key × V),H c=some (.dK kvs)∧kvs.length≤n∧(∀ q:Int,q < 1∨(n:Int) < q→valV kvs (Sum.inl q)=none) ∧
 ∀ q:Int,1≤q→q≤n→(co q=none∧valV kvs (Sum.inl q)=none)∨∃ m a x,co q=some m∧valV kvs (Sum.inl q)=some (.ref a)∧H a=some (.tup [.int m,x])
theorem Chp.same {H H':Hp} {c:Addr} {n:Nat} {co:Int→Option Int} (h:Chp H c n co) (s:Same H H'):Chp H' c n co:=by
 obtain ⟨kvs,a,b,d,e⟩:=h
 refine ⟨kvs,s _ _ a,b,d,fun q q1 q2=>?_⟩
 rcases e q q1 q2 with z | ⟨m,a',x,z1,z2,z3⟩
 ·exact .inl z
 ·exact .inr ⟨m,a',x,z1,z2,s _ _ z3⟩
def ShOk (r:List Int) (ss:List (Int × Int)) (y:Int × Int):Prop:=∃ (k:Nat) (z:Int × Int),y.2=k∧ss[k]?=some z∧serves r z=true∧y.1=area z
def ChpS (H:Hp) (c:Addr) (n:Nat) (h:Int→List Int) (ss:List (Int × Int)):Prop:=∃ kvs:List (Key × V),H c=some (.dK kvs)∧kvs.length≤n∧(∀ q:Int,q < 1∨(n:Int) < q→valV kvs (Sum.inl q)=none) ∧
 ∀ q:Int,1≤q→q≤n→(cost (h q) ss=none∧valV kvs (Sum.inl q)=none)∨∃ (m:Int) (a:Addr) (y:Int),cost (h q) ss=some m∧valV kvs (Sum.inl q)=some (.ref a)∧H a=some (.tup [.int m,.int y])∧ShOk (h q) ss (m,y)
theorem ChpS.same {H H':Hp} {c:Addr} {n:Nat} {h:Int→List Int} {ss:List (Int × Int)} (x:ChpS H c n h ss) (s:Same H H'):ChpS H' c n h ss:=by
 obtain ⟨kvs,a,b,d,e⟩:=x
 refine ⟨kvs,s _ _ a,b,d,fun q q1 q2=>?_⟩
 rcases e q q1 q2 with z | ⟨m,a',x,z1,z2,z3,z4⟩
 ·exact .inl z
 ·exact .inr ⟨m,a',x,z1,z2,s _ _ z3,z4⟩
theorem ChpS.chp {H:Hp} {c:Addr} {n:Nat} {h:Int→List Int} {ss:List (Int × Int)} (x:ChpS H c n h ss):Chp H c n (fun q=>cost (h q) ss):=by
 obtain ⟨kvs,a,b,d,e⟩:=x
 refine ⟨kvs,a,b,d,fun q q1 q2=>?_⟩
 rcases e q q1 q2 with z | ⟨m,a',x,z1,z2,z3,z4⟩
 ·exact .inl z
 ·exact .inr ⟨m,a',_,z1,z2,z3⟩
inductive Tr where
 | whole (m:Option Int)
 | cut (u:Bool) (k:Int) (x y:Tr)
def Tr.dp:Tr→Nat
 | .whole _=>0
 | .cut _ _ x y=>max x.dp y.dp+1
def Tr.sz:Tr→Nat
 | .whole _=>1
 | .cut _ _ x y=>x.sz+y.sz
def wd:Bool→Str
 | true=>"upright"
 | false=>"level"
theorem wd_dec (u v:Bool):decide (V.str (wd u)=V.str (wd v))=(u == v):=by cases u <;> cases v <;> decide +kernel
theorem wd_whole (u:Bool):decide (V.str (wd u)=V.str "whole")=false:=by cases u <;> decide +kernel
def markV:Option Int→V
 | none=>.non
 | some i=>.int i
def Told (H:Hp):Tr→V→Prop
 | .whole m,v=>∃ a,v=.ref a∧H a=some (.tup [.str "whole",markV m])
 | .cut u k x y,v=>∃ a vx vy,v=.ref a∧H a=some (.tup [.str (wd u),.int k,vx,vy])∧Told H x vx∧Told H y vy
theorem Told.same {H H':Hp} (s:Same H H'):∀ {t:Tr} {v:V},Told H t v→Told H' t v
 | .whole m,v,h=>by
  rw [Told] at h ⊢
  obtain ⟨a,e,h⟩:=h
  exact ⟨a,e,s _ _ h⟩
 | .cut u k x y,v,h=>by
  rw [Told] at h ⊢
  obtain ⟨a,vx,vy,e,h,h1,h2⟩:=h
  exact ⟨a,vx,vy,e,s _ _ h,Told.same s h1,Told.same s h2⟩
theorem Told.samex {l:Addr} {xs:List V} {H H':Hp} (s:SameX l H H') (hl:H l=some (.lst xs)):∀ {t:Tr} {v:V},Told H t v→Told H' t v
 | .whole m,v,h=>by
  rw [Told] at h ⊢
  obtain ⟨a,e,h⟩:=h
  exact ⟨a,e,s _ _ (ne_of h hl (by intro z; cases z)) h⟩
 | .cut u k x y,v,h=>by
  rw [Told] at h ⊢
  obtain ⟨a,vx,vy,e,h,h1,h2⟩:=h
  exact ⟨a,vx,vy,e,s _ _ (ne_of h hl (by intro z; cases z)) h,Told.samex s hl h1,Told.samex s hl h2⟩
def Fit:Tr→Int→Int→Prop
 | .whole _,_,_=>True
 | .cut u k x y,w,h=>if u then (1≤k∧k < w∧Fit x k h∧Fit y (w - k) h) else (1≤k∧k < h∧Fit x w k∧Fit y w (h - k))
theorem fit_dp:∀ {t:Tr} {w h:Int},1≤w→1≤h→Fit t w h→(t.dp:Int)+2≤w+h
 | .whole _,w,h,hw,hh,_=>by show ((0:Nat):Int)+2≤_; omega
 | .cut u k x y,w,h,hw,hh,f=>by
  rw [Fit] at f
  show ((max x.dp y.dp+1:Nat):Int)+2≤_
  cases u with
  | true =>
   obtain ⟨a,b,c,d⟩:=f
   have:=fit_dp a hh c
   have:=fit_dp (by omega) hh d
   omega
  | false =>
   obtain ⟨a,b,c,d⟩:=f
   have:=fit_dp hw a c
   have:=fit_dp hw (by omega) d
   omega
theorem fit_sz:∀ {t:Tr} {w h:Int},1≤w→1≤h→Fit t w h→(t.sz:Int)≤w * h
 | .whole _,w,h,hw,hh,_=>by
  show ((1:Nat):Int)≤_
  have:=Int.mul_le_mul hw hh (by omega) (by omega)
  omega
 | .cut u k x y,w,h,hw,hh,f=>by
  rw [Fit] at f
  show ((x.sz+y.sz:Nat):Int)≤_
  cases u with
  | true =>
   obtain ⟨a,b,c,d⟩:=f
   have h1:=fit_sz a hh c
   have h2:=fit_sz (by omega) hh d
   rw [Int.sub_mul] at h2
   omega
  | false =>
   obtain ⟨a,b,c,d⟩:=f
   have h1:=fit_sz hw a c
   have h2:=fit_sz hw (by omega) d
   rw [Int.mul_sub] at h2
   omega
def bitB (m:Int) (i:Nat):Bool:=decide (Builtin.bitAnd (m / 2^i) 1=1)
def pc (b:Int):Nat:=((List.range 6).filter (bitB b)).length
def transB (b p:Int):Bool:=!isPart b p || (plist p).all fun q=>isPart b q && isPart b (p - q)
theorem trans_ok:(upto 63).all (fun b=>(upto 63).all (transB b))=true:=by decide +kernel
def halfB (p:Int):Bool:=(plist p).all fun q=>decide (pc q < pc p) && decide (pc (p - q) < pc p) && (List.range 6).all fun i=>!(bitB q i && bitB (p - q) i) && (!bitB q i || bitB p i) && (!bitB (p - q) i || bitB p i)
theorem half_ok:(upto 63).all halfB=true:=by decide +kernel
theorem plist_up {p q:Int} (h:q∈plist p):1≤q∧q < p∧1≤p - q:=by
 obtain ⟨a,b⟩:=mem_plist h
 exact ⟨a,b,by omega⟩
theorem part_trans {b p q:Int} (b1:1≤b) (b2:b≤63) (p1:1≤p) (p2:p≤63) (h:isPart b p=true) (hq:q∈plist p):isPart b q=true∧isPart b (p - q)=true:=by
 have t:=List.all_eq_true.mp (List.all_eq_true.mp trans_ok b (mem_upto.mpr ⟨b1,b2⟩)) p (mem_upto.mpr ⟨p1,p2⟩)
 unfold transB at t
 rw [h,Bool.not_true,Bool.false_or] at t
 have:=List.all_eq_true.mp t q hq
 rwa [Bool.and_eq_true] at this
theorem half_of {p q:Int} (p1:1≤p) (p2:p≤63) (hq:q∈plist p):pc q < pc p∧pc (p - q) < pc p∧∀ i,i < 6→(bitB q i=true→bitB (p - q) i=true→False)∧(bitB q i=true→bitB p i=true)∧(bitB (p - q) i=true→bitB p i=true):=by
 have t:=List.all_eq_true.mp (List.all_eq_true.mp half_ok p (mem_upto.mpr ⟨p1,p2⟩)) q hq
 simp only [Bool.and_eq_true,decide_eq_true_eq] at t
 obtain ⟨⟨a,b⟩,c⟩:=t
 refine ⟨a,b,fun i hi=>?_⟩
 have:=List.all_eq_true.mp c i (List.mem_range.mpr hi)
 revert this
 cases bitB q i <;> cases bitB (p - q) i <;> cases bitB p i <;> simp
def addB (m:Int) (i:Nat):Bool:=bitB m i || (decide (m+1 * 2^i≤63) && (List.range 6).all fun j=>bitB (m+1 * 2^i) j == (bitB m j || j == i))
theorem add_ok:(List.range 64).all (fun m=>(List.range 6).all (addB m))=true:=by decide +kernel
theorem add_of {m:Int} {i:Nat} (m0:0≤m) (m1:m≤63) (hi:i < 6) (h:bitB m i=false):m+1 * 2^i≤63∧∀ j,j < 6→bitB (m+1 * 2^i) j=(bitB m j || j == i):=by
 have t:=List.all_eq_true.mp (List.all_eq_true.mp add_ok m.toNat (List.mem_range.mpr (by omega))) i (List.mem_range.mpr hi)
 rw [Int.toNat_of_nonneg m0] at t
 unfold addB at t
 rw [h,Bool.false_or,Bool.and_eq_true,decide_eq_true_eq] at t
 exact ⟨t.1,fun j hj=>beq_iff_eq.mp (List.all_eq_true.mp t.2 j (List.mem_range.mpr hj))⟩
def oneB (b:Int):Bool:=!alone b || (decide (1≤((Builtin.Int.intBits b:Nat):Int)) && decide (1 * 2^(((Builtin.Int.intBits b:Nat):Int) - 1).toNat=b) && decide ((((Builtin.Int.intBits b:Nat):Int) - 1).toNat < 6) && bitB b (((Builtin.Int.intBits b:Nat):Int) - 1).toNat)
theorem one_ok:(upto 63).all oneB=true:=by decide +kernel
def nOne (b:Int):Int:=((Builtin.Int.intBits b:Nat):Int) - 1
theorem one_of {b:Int} (b1:1≤b) (b2:b≤63) (h:alone b=true):0≤nOne b∧1 * 2^(nOne b).toNat=b∧(nOne b).toNat < 6∧bitB b (nOne b).toNat=true:=by
 have t:=List.all_eq_true.mp one_ok b (mem_upto.mpr ⟨b1,b2⟩)
 unfold oneB at t
 rw [h,Bool.not_true,Bool.false_or] at t
 simp only [Bool.and_eq_true,decide_eq_true_eq] at t
 obtain ⟨⟨⟨a,b⟩,c⟩,d⟩:=t
 exact ⟨by unfold nOne; omega,b,c,d⟩
theorem zero_bits:∀ j,j < 6→bitB 0 j=false:=by decide +kernel
theorem pc_small:∀ b:Nat,b < 64→pc b < 7:=by decide +kernel
theorem part_self:(upto 63).all (fun b=>isPart b b)=true:=by decide +kernel
theorem mem_partsOf {b p:Int}:p∈partsOf b↔(1≤p∧p≤b)∧isPart b p=true:=by
 unfold partsOf
 rw [List.mem_filter,mem_upto]
 constructor
 ·rintro ⟨⟨a,c⟩,d⟩; exact ⟨⟨a,by omega⟩,d⟩
 ·rintro ⟨⟨a,c⟩,d⟩; exact ⟨⟨a,by omega⟩,d⟩
theorem upto_sorted:∀ n:Nat,(upto n).Pairwise (· < ·)
 | 0=>.nil
 | n+1=>by
  rw [upto_succ,List.pairwise_append]
  refine ⟨upto_sorted n,List.pairwise_singleton _ _,fun a ha b hb=>?_⟩
  have:=mem_upto.mp ha
  rw [List.mem_singleton.mp hb]; omega
theorem parts_sorted (b:Int):(partsOf b).Pairwise (· < ·):=(upto_sorted _).filter _
theorem take_lt {ks:List Int} (h:ks.Pairwise (· < ·)) {i:Nat} {p q:Int} (hp:ks[i]?=some p):q∈ks.take i↔q∈ks∧q < p:=by
 obtain ⟨hi,rfl⟩:=List.getElem?_eq_some_iff.mp hp
 have pw:=List.pairwise_iff_getElem.mp h
 constructor
 ·intro hq
  obtain ⟨j,hj,rfl⟩:=List.mem_take_iff_getElem.mp hq
  exact ⟨List.getElem_mem _,pw j i (by omega) hi (by omega)⟩
 ·rintro ⟨hq,lt⟩
  obtain ⟨j,hj,rfl⟩:=List.getElem_of_mem hq
  refine List.mem_take_iff_getElem.mpr ⟨j,?_,rfl⟩
  rcases Nat.lt_trichotomy j i with z | z | z
  ·omega
  ·subst z; omega
  ·have:=pw i j hi hj z; omega
def cutQ (h:Int→List Int) (b w p:Int):List Rw4:=(upto (w - 1).toNat).map (fun a=>(cutU h b w p a,[Sum.inr (wd true),Sum.inl a,Sum.inl p]))++[(rat (h p) w+rat (h (b - p)) w,[Sum.inr (wd false),Sum.inl (rat (h p) w),Sum.inl p])]
def cutsF (h:Int→List Int) (b w:Int):List Rw4:=(plist b).flatMap (cutQ h b w)
theorem cutQ_fst (h:Int→List Int) (b w p:Int):(cutQ h b w p).map (·.1)=cutP h b w p:=by
 unfold cutQ cutP
 rw [List.map_append,List.map_map]; rfl
theorem cutsF_fst (h:Int→List Int) (b w:Int):(cutsF h b w).map (·.1)=cutH h b w:=by
 unfold cutsF cutH
 rw [List.map_flatMap]
 exact flatMap_ext fun p _=>cutQ_fst h b w p
theorem mem_cutsF {h:Int→List Int} {b w:Int} {r:Rw4} (hr:r∈cutsF h b w):∃ p,p∈plist b∧((∃ a,1≤a∧a < w∧r=(cutU h b w p a,[Sum.inr (wd true),Sum.inl a,Sum.inl p]))∨r=(rat (h p) w+rat (h (b - p)) w,[Sum.inr (wd false),Sum.inl (rat (h p) w),Sum.inl p])):=by
 obtain ⟨p,hp,hr⟩:=List.mem_flatMap.mp hr
 refine ⟨p,hp,?_⟩
 rcases List.mem_append.mp hr with hr | hr
 ·obtain ⟨a,ha,rfl⟩:=List.mem_map.mp hr
  obtain ⟨a1,a2⟩:=mem_upto.mp ha
  exact .inl ⟨a,a1,by omega,rfl⟩
 ·exact .inr (List.mem_singleton.mp hr)
theorem cutsF_alike {h:Int→List Int} {b w:Int} {r r':Rw4} (hr:r∈cutsF h b w) (hr':r'∈cutsF h b w):Alike r.2 r'.2:=by
 have k:∀ r:Rw4,r∈cutsF h b w→∃ x y z,r.2=[Sum.inr x,Sum.inl y,Sum.inl z]:=fun r hr=>by
  obtain ⟨p,_,⟨a,_,_,rfl⟩ | rfl⟩:=mem_cutsF hr
  ·exact ⟨_,_,_,rfl⟩
  ·exact ⟨_,_,_,rfl⟩
 obtain ⟨x,y,z,e⟩:=k r hr
 obtain ⟨x',y',z',e'⟩:=k r' hr'
 rw [e,e']
 exact .cons rfl (.cons rfl (.cons rfl .nil))
def offT (m:Int) (z:Int × Int) (w h:Int):Tr :=
 if z.1 < w then .cut true z.1 (if z.2 < h then .cut false z.2 (.whole (some m)) (.whole none) else .whole (some m)) (.whole none) else if z.2 < h then .cut false z.2 (.whole (some m)) (.whole none) else .whole (some m)
inductive Sv (ws:List Want):Tr→Int→Int→Int→Prop
 | one {b w h:Int} {t:Want} {z:Int × Int} (ha:alone b=true) (ht:ws[(nOne b).toNat]?=some t) (hz:z∈waysOf t) (hw:z.1≤w) (hh:z.2≤h):Sv ws (offT (nOne b) z w h) b w h
 | up {b p a w h:Int} {x y:Tr} (hp:p∈plist b) (a1:1≤a) (a2:a < w) (sx:Sv ws x p a h) (sy:Sv ws y (b - p) (w - a) h):Sv ws (.cut true a x y) b w h
 | lev {b p a w h:Int} {x y:Tr} (hp:p∈plist b) (a1:1≤a) (a2:a < h) (sx:Sv ws x p w a) (sy:Sv ws y (b - p) w (h - a)):Sv ws (.cut false a x y) b w h
def SzOk (ws:List Want) (m w h:Int):Prop:=∃ t:Want,0≤m∧m.toNat < 6∧ws[m.toNat]?=some t∧((w=t.1∧h=t.2.1)∨(t.2.2=true∧w=t.2.1∧h=t.1))
def Gd (ws:List Want):Tr→Int→Int→Prop
 | .whole none,_,_=>True
 | .whole (some m),w,h=>SzOk ws m w h
 | .cut u k x y,w,h=>if u then (Gd ws x k h∧Gd ws y (w - k) h) else (Gd ws x w k∧Gd ws y w (h - k))
def marks:Tr→List Nat
 | .whole none=>[]
 | .whole (some m)=>[m.toNat]
 | .cut _ _ x y=>marks x++marks y
def msum:List Nat→Int
 | []=>0
 | i :: r=>1 * 2^i+msum r
theorem msum_app:∀ (a b:List Nat),msum (a++b)=msum a+msum b
 | [],b=>by show msum b=0+msum b; omega
 | i :: a,b=>by
  show 1 * 2^i+msum (a++b)=1 * 2^i+msum a+msum b
  rw [msum_app a b]; omega
theorem waysOf_ok {t:Want} {z:Int × Int} (ok:WOk t) (h:z∈waysOf t):1≤z.1∧1≤z.2∧((z.1=t.1∧z.2=t.2.1)∨(t.2.2=true∧z.1=t.2.1∧z.2=t.1)):=by
 obtain ⟨a,b,c,d⟩:=ok
 unfold waysOf at h
 by_cases e:t.2.2=true
 ·rw [if_pos e] at h
  simp only [List.mem_cons,List.not_mem_nil,or_false] at h
  rcases h with rfl | rfl
  ·exact ⟨a,c,.inl ⟨rfl,rfl⟩⟩
  ·exact ⟨c,a,.inr ⟨e,rfl,rfl⟩⟩
 ·rw [if_neg e] at h
  rw [List.mem_singleton.mp h]
  exact ⟨a,c,.inl ⟨rfl,rfl⟩⟩
theorem offT_ok {ws:List Want} {m:Int} {z:Int × Int} {w h:Int} (hw:z.1≤w) (hh:z.2≤h) (z1:1≤z.1) (z2:1≤z.2) (s:SzOk ws m z.1 z.2):Fit (offT m z w h) w h∧Gd ws (offT m z w h) w h∧marks (offT m z w h)=[m.toNat]:=by
 unfold offT
 by_cases e1:z.1 < w
 ·rw [if_pos e1]
  by_cases e2:z.2 < h
  ·rw [if_pos e2]
   refine ⟨?_,?_,rfl⟩
   ·simp only [Fit,if_true,Bool.false_eq_true,if_false]
    exact ⟨z1,e1,⟨z2,e2,trivial,trivial⟩,trivial⟩
   ·simp only [Gd,if_true,Bool.false_eq_true,if_false]
    exact ⟨⟨s,trivial⟩,trivial⟩
  ·rw [if_neg e2]
   have:z.2=h:=by omega
   subst this
   refine ⟨?_,?_,rfl⟩
   ·simp only [Fit,if_true]
    exact ⟨z1,e1,trivial,trivial⟩
   ·simp only [Gd,if_true]
    exact ⟨s,trivial⟩
 ·rw [if_neg e1]
  have:z.1=w:=by omega
  subst this
  by_cases e2:z.2 < h
  ·rw [if_pos e2]
   refine ⟨?_,?_,rfl⟩
   ·simp only [Fit,Bool.false_eq_true,if_false]
    exact ⟨z2,e2,trivial,trivial⟩
   ·simp only [Gd,Bool.false_eq_true,if_false]
    exact ⟨s,trivial⟩
  ·rw [if_neg e2]
   have:z.2=h:=by omega
   subst this
   exact ⟨trivial,s,rfl⟩
theorem sv_ok {ws:List Want} (ok:∀ t∈ws,WOk t) {t:Tr} {b w h:Int} (s:Sv ws t b w h):1≤b→b≤63→Fit t w h∧Gd ws t w h∧(marks t).Nodup∧(∀ i∈marks t,i < 6∧bitB b i=true)∧msum (marks t)=b:=by
 induction s with
 | @one b w h t z ha ht hz hw hh =>
  intro b1 b2
  obtain ⟨o1,o2,o3,o4⟩:=one_of b1 b2 ha
  obtain ⟨w1,w2,w3⟩:=waysOf_ok (ok _ (List.mem_of_getElem? ht)) hz
  obtain ⟨f,g,m⟩:=offT_ok (ws:=ws) (m:=nOne b) hw hh w1 w2 ⟨t,o1,o3,ht,w3⟩
  refine ⟨f,g,by rw [m]; simp,fun i hi=>?_,?_⟩
  ·rw [m,List.mem_singleton] at hi
   rw [hi]; exact ⟨o3,o4⟩
  ·rw [m]
   show 1 * 2^(nOne b).toNat+0=b
   omega
 | @up b p a w h x y hp a1 a2 sx sy ihx ihy =>
  intro b1 b2
  obtain ⟨p1,p2,p3⟩:=plist_up hp
  obtain ⟨f1,g1,n1,m1,s1⟩:=ihx p1 (by omega)
  obtain ⟨f2,g2,n2,m2,s2⟩:=ihy p3 (by omega)
  obtain ⟨_,_,bits⟩:=half_of b1 b2 hp
  refine ⟨by simp only [Fit,if_true]; exact ⟨a1,a2,f1,f2⟩,by simp only [Gd,if_true]; exact ⟨g1,g2⟩,?_,fun i hi=>?_,?_⟩
  ·show (marks x++marks y).Nodup
   rw [List.nodup_append]
   refine ⟨n1,n2,fun i hi j hj e=>?_⟩
   subst e
   exact (bits i (m1 i hi).1).1 (m1 i hi).2 (m2 i hj).2
  ·rcases List.mem_append.mp hi with hi | hi
   ·exact ⟨(m1 i hi).1,(bits i (m1 i hi).1).2.1 (m1 i hi).2⟩
   ·exact ⟨(m2 i hi).1,(bits i (m2 i hi).1).2.2 (m2 i hi).2⟩
  ·show msum (marks x++marks y)=b
   rw [msum_app,s1,s2]; omega
 | @lev b p a w h x y hp a1 a2 sx sy ihx ihy =>
  intro b1 b2
  obtain ⟨p1,p2,p3⟩:=plist_up hp
  obtain ⟨f1,g1,n1,m1,s1⟩:=ihx p1 (by omega)
  obtain ⟨f2,g2,n2,m2,s2⟩:=ihy p3 (by omega)
  obtain ⟨_,_,bits⟩:=half_of b1 b2 hp
  refine ⟨by simp only [Fit,Bool.false_eq_true,if_false]; exact ⟨a1,a2,f1,f2⟩,by simp only [Gd,Bool.false_eq_true,if_false]; exact ⟨g1,g2⟩,?_,fun i hi=>?_,?_⟩
  ·show (marks x++marks y).Nodup
   rw [List.nodup_append]
   refine ⟨n1,n2,fun i hi j hj e=>?_⟩
   subst e
   exact (bits i (m1 i hi).1).1 (m1 i hi).2 (m2 i hj).2
  ·rcases List.mem_append.mp hi with hi | hi
   ·exact ⟨(m1 i hi).1,(bits i (m1 i hi).1).2.1 (m1 i hi).2⟩
   ·exact ⟨(m2 i hi).1,(bits i (m2 i hi).1).2.2 (m2 i hi).2⟩
  ·show msum (marks x++marks y)=b
   rw [msum_app,s1,s2]; omega
structure Lf where
 t:Int
 l:Int
 b:Int
 r:Int
 m:Option Int
def lvs:Tr→Int→Int→Int→Int→List Lf
 | .whole m,t,l,b,r=>[⟨t,l,b,r,m⟩]
 | .cut u k x y,t,l,b,r=>if u then lvs x t l b (l+k)++lvs y t (l+k) b r else lvs x t l (t+k) r++lvs y (t+k) l b r
def lmarks (L:List Lf):List Nat:=L.filterMap fun e=>e.m.map Int.toNat
theorem lmarks_app (A B:List Lf):lmarks (A++B)=lmarks A++lmarks B:=List.filterMap_append
theorem lvs_marks:∀ (x:Tr) (t l b r:Int),lmarks (lvs x t l b r)=marks x
 | .whole none,_,_,_,_=>rfl
 | .whole (some m),_,_,_,_=>rfl
 | .cut true k x y,t,l,b,r=>by
  show lmarks (lvs x t l b (l+k)++lvs y t (l+k) b r)=marks x++marks y
  rw [lmarks_app,lvs_marks x,lvs_marks y]
 | .cut false k x y,t,l,b,r=>by
  show lmarks (lvs x t l (t+k) r++lvs y (t+k) l b r)=marks x++marks y
  rw [lmarks_app,lvs_marks x,lvs_marks y]
theorem lvs_ok {ws:List Want}:∀ (x:Tr) (t l b r:Int),Gd ws x (r - l) (b - t)→∀ e∈lvs x t l b r,∀ m,e.m=some m→SzOk ws m (e.r - e.l) (e.b - e.t)
 | .whole none,t,l,b,r,_,e,he,m,hm=>by rw [List.mem_singleton.mp he] at hm; cases hm
 | .whole (some m'),t,l,b,r,g,e,he,m,hm=>by
  rw [List.mem_singleton.mp he] at hm ⊢
  cases hm
  exact g
 | .cut true k x y,t,l,b,r,g,e,he,m,hm=>by
  simp only [Gd,if_true] at g
  simp only [lvs,if_true] at he
  rcases List.mem_append.mp he with he | he
  ·exact lvs_ok x t l b (l+k) (by rw [show l+k - l=k by omega]; exact g.1) e he m hm
  ·exact lvs_ok y t (l+k) b r (by rw [show r - (l+k)=r - l - k by omega]; exact g.2) e he m hm
 | .cut false k x y,t,l,b,r,g,e,he,m,hm=>by
  simp only [Gd,Bool.false_eq_true,if_false] at g
  simp only [lvs,Bool.false_eq_true,if_false] at he
  rcases List.mem_append.mp he with he | he
  ·exact lvs_ok x t l (t+k) r (by rw [show t+k - t=k by omega]; exact g.1) e he m hm
  ·exact lvs_ok y (t+k) l b r (by rw [show b - (t+k)=b - t - k by omega]; exact g.2) e he m hm
theorem lvs_len:∀ (x:Tr) (t l b r:Int),(lvs x t l b r).length=x.sz
 | .whole _,_,_,_,_=>rfl
 | .cut true k x y,t,l,b,r=>by
  show (lvs x t l b (l+k)++lvs y t (l+k) b r).length=x.sz+y.sz
  rw [List.length_append,lvs_len x,lvs_len y]
 | .cut false k x y,t,l,b,r=>by
  show (lvs x t l (t+k) r++lvs y (t+k) l b r).length=x.sz+y.sz
  rw [List.length_append,lvs_len x,lvs_len y]
theorem rowP_pos {ws:List Want} {h:Int→List Int} {B:Int} (ok:∀ t∈ws,WOk t) (B1:1≤B) (B2:B≤63) (rows:∀ p,1≤p→p≤B→isPart B p=true→Row ws h p):∀ (k:Nat) (p w:Int),p.toNat=k→1≤p→p≤B→isPart B p=true→1≤w→w≤12→1≤rat (h p) w:=by
 intro k
 induction k using Nat.strongRecOn with
 | ind k ih =>
  intro p w hk p1 p2 hp w1 w2
  obtain ⟨_,low⟩:=rows p p1 p2 hp
  obtain ⟨la,ln⟩:=low w w1 w2
  cases c:alone p with
  | true =>
   obtain ⟨t,ht,⟨_,e⟩ | ⟨hm,_⟩⟩:=la c
   ·omega
   ·unfold lows at hm
    obtain ⟨z,hz,e⟩:=List.mem_map.mp hm
    have:=(waysOf_ok (ok t (List.mem_of_getElem? ht)) (List.mem_filter.mp hz).1).2.1
    omega
  | false =>
   obtain ⟨m,hm,_,e⟩:=ln c
   have m1:1≤m:=by
    obtain ⟨q,hq,⟨a,a1,a2,rfl⟩ | rfl⟩:=mem_cutH hm
    ·obtain ⟨q1,q2,q3⟩:=plist_up hq
     have t:=part_trans B1 B2 p1 (by omega) hp hq
     have:=ih q.toNat (by omega) q a rfl q1 (by omega) t.1 a1 (by omega)
     have:=mx_l (rat (h q) a) (rat (h (p - q)) (w - a))
     unfold cutU
     omega
    ·obtain ⟨q1,q2,q3⟩:=plist_up hq
     have t:=part_trans B1 B2 p1 (by omega) hp hq
     have:=ih q.toNat (by omega) q w rfl q1 (by omega) t.1 w1 w2
     have:=ih (p - q).toNat (by omega) (p - q) w rfl q3 (by omega) t.2 w1 w2
     omega
   rw [e]
   split <;> omega
def sp_whole:Sp:=fun vs H Q _=>∃ i:Int,vs=[.int i]∧Q (.bl true) H
def sp_side:Sp:=fun vs H Q _=>∃ i:Int,vs=[.int i]∧1≤i∧i≤12∧Q (.bl true) H
def sp_want:Sp:=fun vs H Q _=>∃ (a:Addr) (t:Want),vs=[.ref a]∧H a=some (.tup [.int t.1,.int t.2.1,.bl t.2.2])∧WOk t∧Q (.bl true) H
def sp_check:Sp:=fun vs H Q _=>∃ (a:Addr) (ws:List Want),vs=[.ref a]∧WantsAt H a ws∧ws.length≤6∧(∀ t∈ws,WOk t)∧∀ H',Same H H'→Q .non H'
def sp_ways:Sp:=fun vs H Q _=>∃ (a:Addr) (t:Want),vs=[.ref a]∧H a=some (.tup [.int t.1,.int t.2.1,.bl t.2.2])∧∀ l H',Same H H'→H l=none→TupL H' l (waysOf t)→Q (.ref l) H'
def sp_alone:Sp:=fun vs H Q _=>∃ b:Int,vs=[.int b]∧Q (.bl (alone b)) H
def sp_number:Sp:=fun vs H Q _=>∃ b:Int,vs=[.int b]∧Q (.int (((Builtin.Int.intBits b:Nat):Int) - 1)) H
def sp_parts:Sp:=fun vs H Q _=>∃ b:Int,vs=[.int b]∧0≤b∧b≤63∧∀ l H',Same H H'→H l=none→H' l=some (.lst ((partsOf b).map V.int))→Q (.ref l) H'
def sp_least:Sp:=fun vs H Q _=>∃ b:Int,vs=[.int b]∧0≤b∧b≤63∧∀ l H',Same H H'→H l=none→H' l=some (.lst ((plist b).map V.int))→Q (.ref l) H'
def sp_stair:Sp:=fun vs H Q _=>∃ (l:Addr) (r:List Int),vs=[.ref l]∧H l=some (.lst (r.map V.int))∧r.length=13∧∀ l' H',Same H H'→H l'=none→TupL H' l' (stairOf r)→Q (.ref l') H'
def sp_bits:Sp:=fun vs H Q _=>∃ (a:Addr) (xs:List V),vs=[.ref a]∧H a=some (.lst xs)∧xs.length≤6∧Q (.int (1 * 2^((xs.length:Nat):Int).toNat - 1)) H
def sp_at (K:PySem.W.Frag):Sp:=fun vs H Q _=>∃ (a:Addr) (ns:List Int) (k:Int),vs=[.ref a,.int k]∧SqL K H a (ns.map V.int)∧0≤k∧k < 1000∧∀ z H',Same H H'→Q (.int z) H'
def sp_knead:Sp:=fun vs H Q _=>∃ (n b:Int),vs=[.int n,.int b]∧0≤b∧b≤100∧∀ r,0≤r→Q (.int r) H
def sp_law (K:PySem.W.Frag):Sp:=fun vs H Q _=>∃ (a:Addr) (ns:List Int),vs=[.ref a]∧SqL K H a (ns.map V.int)∧ns.length≤63∧∀ H',Q (.bl true) H'
def sp_sheet:Sp:=fun vs H Q _=>∃ (a:Addr) (z:Int × Int),vs=[.ref a]∧H a=some (.tup [.int z.1,.int z.2])∧SOk z∧Q (.bl true) H
def sp_csheets:Sp:=fun vs H Q _=>∃ (a:Addr) (ss:List (Int × Int)),vs=[.ref a]∧TupL H a ss∧1≤ss.length∧ss.length≤4∧(∀ z∈ss,SOk z)∧∀ H',Same H H'→Q .non H'
def sp_hfor:Sp:=fun vs H Q _=>∃ (a b:Addr) (ws:List Want) (ss:List (Int × Int)),vs=[.ref a,.ref b]∧WantsAt H a ws∧ws.length≤6∧(∀ t∈ws,WOk t)∧TupL H b ss∧1≤ss.length∧ss.length≤4∧(∀ z∈ss,SOk z) ∧
 ∀ d ad h H',Same H H'→H d=none→Tab H' d (2^ws.length - 1) ad h→(∀ p:Int,1≤p→p≤((2^ws.length - 1:Nat):Int)→Row ws h p)→Q (.ref d) H'
def sp_cheap:Sp:=fun vs H Q _=>∃ (d b:Addr) (ss:List (Int × Int)) (n:Nat) (ad:Int→Addr) (h:Int→List Int),vs=[.ref d,.ref b]∧Tab H d n ad h∧n≤63∧TupL H b ss∧ss.length≤4∧(∀ z∈ss,SOk z) ∧
 ∀ c H',SameX d H H'→Rd H' d (.dK (kvN ad n))→H c=none→ChpS H' c n h ss→Q (.ref c) H'
def sp_first:Sp:=fun vs H Q _=>∃ (c g:Addr) (n i n0:Nat) (co G:Int→Option Int),vs=[.ref c,.ref g,.int (1+(i:Int))]∧Chp H c n co∧n≤63∧i < n∧i≤n0∧H g=some (.dK (gkv G n0)) ∧
 ∀ l H',Same H H'→H l=none→TupL H' l (waysL co G (1+(i:Int)))→Q (.ref l) H'
def sp_glass:Sp:=fun vs H Q _=>∃ (c:Addr) (k:Nat) (co:Int→Option Int),vs=[.ref c,.int (1 * 2^((k:Nat):Int).toNat - 1)]∧k≤6∧Chp H c (2^k - 1) co ∧
 ∀ g G H',Same H H'→H g=none→H' g=some (.dK (gkv G (2^k - 1)))→GlassP co G (2^k - 1)→Q (.ref g) H'
def sp_lg:Sp:=fun vs H Q _=>∃ (a b:Addr) (ws:List Want) (ss:List (Int × Int)),vs=[.ref a,.ref b]∧WantsAt H a ws∧ws.length≤6∧(∀ t∈ws,WOk t)∧TupL H b ss∧1≤ss.length∧ss.length≤4∧(∀ z∈ss,SOk z) ∧
 ∀ g G h H',Same H H'→H g=none→H' g=some (.dK (gkv G (2^ws.length - 1)))→(∀ p:Int,1≤p→p≤((2^ws.length - 1:Nat):Int)→Row ws h p)→(∀ p:Int,1≤p→p≤((2^ws.length - 1:Nat):Int)→(h p).length=13)→GlassP (fun q=>cost (h q) ss) G (2^ws.length - 1)→Q (.ref g) H'
structure Txt (mg:Str→Option Value) (t1 t2 t3 t4 t5 t6:Tok):Prop where
 z_isinstance:mg "isinstance"=none
 z_int:mg "int"=none
 z_bool:mg "bool"=none
 z_tuple:mg "tuple"=none
 z_len:mg "len"=none
 z_enumerate:mg "enumerate"=none
 z_range:mg "range"=none
 z_max:mg "max"=none
 z_min:mg "min"=none
 z_any:mg "any"=none
 z_list:mg "list"=none
 z_abs:mg "abs"=none
 g_LONGEST_SIDE:mg "LONGEST_SIDE"=some (.int 12 t1)
 g_MOST_WANTS:mg "MOST_WANTS"=some (.int 6 t2)
 g_TOO_HIGH:mg "TOO_HIGH"=some (.int 13 t3)
 g_UPRIGHT:mg "UPRIGHT"=some (.str "upright" t4)
 g_LEVEL:mg "LEVEL"=some (.str "level" t5)
 g_MOST_SHEETS:mg "MOST_SHEETS"=some (.int 4 t6)
theorem at3_0 {x0 x1 x2:V}:atI [x0,x1,x2] 0=some x0:=rfl
theorem at3_1 {x0 x1 x2:V}:atI [x0,x1,x2] 1=some x1:=rfl
theorem at3_2 {x0 x1 x2:V}:atI [x0,x1,x2] 2=some x2:=rfl
theorem at2_0 {x0 x1:V}:atI [x0,x1] 0=some x0:=rfl
theorem at2_1 {x0 x1:V}:atI [x0,x1] 1=some x1:=rfl
theorem pow18:CPow 10 18:=⟨by decide,by decide,by decide⟩
theorem divL {j:Int} (z:Int) (h:0 < j) (h2:j < 18446744073709551616):CDivL z j:=⟨h,Nat.lt_trans (log2_lt_of (k:=64) (by decide) (by omega)) (by decide)⟩
theorem mul64 {a b:Int} (h1:-18446744073709551616 < a) (h2:a < 18446744073709551616) (h3:-18446744073709551616 < b) (h4:b < 18446744073709551616):IntMulOk a b:=by
 have c:(2:Nat)^128=340282366920938463463374607431768211456:=by decide +kernel
 refine mulOk_of ?_ ?_ <;> rw [c] <;> omega
theorem atI_in {L:List V} {i:Int} (h0:0≤i) (h1:i < L.length):∃ v,atI L i=some v∧v∈L:=by
 have h:i.toNat < L.length:=by omega
 have e:=atI_nat (List.getElem?_eq_getElem h)
 rw [Int.toNat_of_nonneg h0] at e
 exact ⟨_,e,List.getElem_mem h⟩
theorem at_ints {ns:List Int} {k:Int} (h0:0≤k) (h1:k < (ns.length:Int)):∃ z,atI (ns.map V.int) k=some (.int z):=⟨_,at_rat h0 h1⟩
section
variable {P:Program} {w:World} {K:PySem.W.Frag} {mg:Str→Option Value} {base:Heap} {t1 t2 t3 t4 t5 t6:Tok} {cT cW cU cL cG cS cN cD cA cM cP:Addr}
def cutC (cU cL:Addr) (u:Bool):Addr:=if u then cU else cL
abbrev wF (m:V):List (Str × V):=putF "mark" m []
abbrev cF (k:Int) (vx vy:V):List (Str × V):=putF "other" vy (putF "first" vx (putF "at" (.int k) []))
def Obj (cW cU cL:Addr) (H:Hp):Tr→V→Prop
 | .whole m,v=>∃ a dx,v=.ref a∧H a=some (.ins cW dx (wF (markV m)))
 | .cut u k x y,v=>∃ a dx vx vy,v=.ref a∧H a=some (.ins (cutC cU cL u) dx (cF k vx vy))∧Obj cW cU cL H x vx∧Obj cW cU cL H y vy
theorem Obj.same {H H':Hp} (s:Same H H'):∀ {t:Tr} {v:V},Obj cW cU cL H t v→Obj cW cU cL H' t v
 | .whole m,v,h=>by
  rw [Obj] at h ⊢
  obtain ⟨a,dx,e,h⟩:=h
  exact ⟨a,dx,e,s _ _ h⟩
 | .cut u k x y,v,h=>by
  rw [Obj] at h ⊢
  obtain ⟨a,dx,vx,vy,e,h,h1,h2⟩:=h
  exact ⟨a,dx,vx,vy,e,s _ _ h,Obj.same s h1,Obj.same s h2⟩
structure RT (mg:Str→Option Value) (K:PySem.W.Frag) (cT cW cU cL:Addr):Prop where
 g_Tree:mg "Tree"=some (.ref cT)
 g_Whole:mg "Whole"=some (.ref cW)
 g_Upright:mg "Upright"=some (.ref cU)
 g_Level:mg "Level"=some (.ref cL)
 iW:ICls K cW
 iC:∀ u,ICls K (cutC cU cL u)
 n_mark:NoAttr K cW "mark"
 n_at:∀ u,NoAttr K (cutC cU cL u) "at"
 n_first:∀ u,NoAttr K (cutC cU cL u) "first"
 n_other:∀ u,NoAttr K (cutC cU cL u) "other"
 kWW:PySem.W.kitOne K (.ref cW) (.ref cW)=some true
 kWC:∀ u,PySem.W.kitOne K (.ref cW) (.ref (cutC cU cL u))=some false
 kCW:∀ u,PySem.W.kitOne K (.ref (cutC cU cL u)) (.ref cW)=some false
 kCC:∀ u v,PySem.W.kitOne K (.ref (cutC cU cL u)) (.ref (cutC cU cL v))=some (u == v)
 kWT:PySem.W.kitOne K (.ref cW) (.ref cT)=some true
 kCT:∀ u,PySem.W.kitOne K (.ref (cutC cU cL u)) (.ref cT)=some true
def sp_iW (C:Addr):Sp:=fun vs H Q _=>∃ (a dx:Addr) (m:V),vs=[.ref a,m]∧H a=some (.ins C dx [])∧Q .non (upd H a (.ins C dx (wF m)))
def sp_iC (C:Addr):Sp:=fun vs H Q _=>∃ (a dx:Addr) (k:Int) (vx vy:V),vs=[.ref a,.int k,vx,vy]∧H a=some (.ins C dx [])∧∀ H',SameX a H H'→H' a=some (.ins C dx (cF k vx vy))→Q .non H'
theorem S_Whole_init:FnScope ["self","mark"] ["self","mark"] (defScope s_Whole_init):=⟨rfl,rfl,rfl,by decide +kernel,rfl,by decide +kernel,by decide +kernel⟩
theorem ok_Whole_init {f:Addr} {fd:FuncData} (F:FunD K "__init__" "Whole.__init__" s_Whole_init f fd) (R:RT mg K cT cW cU cL):FnOk P w K mg base CX0 1 f fd ["self","mark"] (sp_iW cW):=by
 have S:=S_Whole_init
 refine F.ok S (fun vs H Q E h=>?_) (fun cdv A outer s H vs Q E hr h=>?_)
 ·obtain ⟨a,dx,m,rfl,_⟩:=h; rfl
 ·obtain ⟨a,dx,m,rfl,ha,q⟩:=h
  refine ⟨_,(pss_one (ps_fld (pv 0) (pv 1) rfl)),?_⟩
  exact ⟨_,rfl,_,rfl,a,cW,dx,_,rfl,ha,R.iW.cl,R.n_mark,(by show 0 < 1000; decide),q⟩
theorem S_Upright_init:FnScope ["self","at","first","other"] ["self","at","first","other"] (defScope s_Upright_init):=⟨rfl,rfl,rfl,by decide +kernel,rfl,by decide +kernel,by decide +kernel⟩
theorem ok_Upright_init {f:Addr} {fd:FuncData} (F:Fun K "__init__" "Upright.__init__" s_Upright_init f fd) (R:RT mg K cT cW cU cL):FnOk P w K mg base CX0 1 f fd ["self","at","first","other"] (sp_iC cU):=by
 have S:=S_Upright_init
 refine F.ok S (fun vs H Q E h=>?_) (fun cdv A outer s H vs Q E hr h=>?_)
 ·obtain ⟨a,dx,k,vx,vy,rfl,_⟩:=h; rfl
 ·obtain ⟨a,dx,k,vx,vy,rfl,ha,q⟩:=h
  refine ⟨_,(pss_cons (ps_fld (pv 0) (pv 1) rfl)
   (pss_cons (ps_fld (pv 0) (pv 2) rfl)
   (pss_one (ps_fld (pv 0) (pv 3) rfl)))),?_⟩
  refine ⟨_,rfl,_,rfl,a,cU,dx,_,rfl,ha,(R.iC true).cl,R.n_at true,(by show 0 < 1000; decide),?_⟩
  refine ⟨_,rfl,_,rfl,a,cU,dx,_,rfl,upd_same,(R.iC true).cl,R.n_first true,(by show 1 < 1000; decide),?_⟩
  refine ⟨_,rfl,_,rfl,a,cU,dx,_,rfl,upd_same,(R.iC true).cl,R.n_other true,(by show 2 < 1000; decide),?_⟩
  exact q _ ((SameX.upd.trans SameX.upd).trans SameX.upd) upd_same
theorem S_Level_init:FnScope ["self","at","first","other"] ["self","at","first","other"] (defScope s_Level_init):=⟨rfl,rfl,rfl,by decide +kernel,rfl,by decide +kernel,by decide +kernel⟩
theorem ok_Level_init {f:Addr} {fd:FuncData} (F:Fun K "__init__" "Level.__init__" s_Level_init f fd) (R:RT mg K cT cW cU cL):FnOk P w K mg base CX0 1 f fd ["self","at","first","other"] (sp_iC cL):=by
 have S:=S_Level_init
 refine F.ok S (fun vs H Q E h=>?_) (fun cdv A outer s H vs Q E hr h=>?_)
 ·obtain ⟨a,dx,k,vx,vy,rfl,_⟩:=h; rfl
 ·obtain ⟨a,dx,k,vx,vy,rfl,ha,q⟩:=h
  refine ⟨_,(pss_cons (ps_fld (pv 0) (pv 1) rfl)
   (pss_cons (ps_fld (pv 0) (pv 2) rfl)
   (pss_one (ps_fld (pv 0) (pv 3) rfl)))),?_⟩
  refine ⟨_,rfl,_,rfl,a,cL,dx,_,rfl,ha,(R.iC false).cl,R.n_at false,(by show 0 < 1000; decide),?_⟩
  refine ⟨_,rfl,_,rfl,a,cL,dx,_,rfl,upd_same,(R.iC false).cl,R.n_first false,(by show 1 < 1000; decide),?_⟩
  refine ⟨_,rfl,_,rfl,a,cL,dx,_,rfl,upd_same,(R.iC false).cl,R.n_other false,(by show 2 < 1000; decide),?_⟩
  exact q _ ((SameX.upd.trans SameX.upd).trans SameX.upd) upd_same
theorem made_same {H:Hp} {x dx:Addr} {o1 o2:HO} (hx:H x=none) (hd:H dx=none):Same H (upd (upd H dx o1) x o2):=fun b o e=>by
 rw [upd_ne (ne_of_none e hx),upd_ne (ne_of_none e hd)]; exact e
theorem fW (m:V):(wF m).lookup ("mark":Str)=some m:=by rw [lookup_putF,if_pos rfl]
theorem fC_at (k:Int) (vx vy:V):(cF k vx vy).lookup ("at":Str)=some (.int k):=by rw [lookup_putF,if_neg (by decide +kernel),lookup_putF,if_neg (by decide +kernel),lookup_putF,if_pos rfl]
theorem fC_first (k:Int) (vx vy:V):(cF k vx vy).lookup ("first":Str)=some vx:=by rw [lookup_putF,if_neg (by decide +kernel),lookup_putF,if_pos rfl]
theorem fC_other (k:Int) (vx vy:V):(cF k vx vy).lookup ("other":Str)=some vy:=by rw [lookup_putF,if_pos rfl]
theorem refU {C:Addr}:∀ u',RelV (.ref C) u'→u'=.ref C:=fun _ z=>z
structure TabG (H:Hp) (d:Addr) (ok:Int→Prop) (ad:Int→Addr) (h:Int→List Int):Prop where
 dic:∃ kvs,Rd H d (.dK kvs)∧∀ p,ok p→valV kvs (Sum.inl p)=some (.ref (ad p))
 row:∀ p,ok p→H (ad p)=some (.lst ((h p).map V.int))∧(h p).length=13
theorem TabG.same {H H':Hp} {d:Addr} {ok:Int→Prop} {ad:Int→Addr} {h:Int→List Int} (t:TabG H d ok ad h) (s:Same H H'):TabG H' d ok ad h:=by
 obtain ⟨⟨kvs,e,v⟩,r⟩:=t
 exact ⟨⟨kvs,(by rcases e with e | ⟨ob,e⟩; exact .inl (s _ _ e); exact .inr ⟨ob,s _ _ e⟩),v⟩,fun p hp=>⟨s _ _ (r p hp).1,(r p hp).2⟩⟩
theorem TabG.get {H:Hp} {d:Addr} {ok:Int→Prop} {ad:Int→Addr} {h:Int→List Int} (t:TabG H d ok ad h) {p:Int} (hp:ok p):DGet H d (.int p) (some (.ref (ad p))):=by
 obtain ⟨⟨kvs,e,v⟩,r⟩:=t
 exact .inl ⟨kvs,Sum.inl p,e,rfl,(v p hp).symm⟩
def kvL (ad:Int→Addr) (ks:List Int):List (Key × V):=ks.map fun p=>(Sum.inl p,V.ref (ad p))
theorem kvL_val (ad:Int→Addr):∀ (ks:List Int) (q:Int),valV (kvL ad ks) (Sum.inl q)=if q∈ks then some (.ref (ad q)) else none
 | [],q=>rfl
 | k :: ks,q=>by
  have ih:=kvL_val ad ks q
  unfold valV kvL at ih ⊢
  rw [List.map_cons,List.find?_cons]
  by_cases e:k=q
  ·subst e
   rw [decide_eq_true rfl,if_pos List.mem_cons_self]; rfl
  ·have n:¬ (Sum.inl k:Key)=Sum.inl q:=fun z=>e (Sum.inl.inj z)
   rw [decide_eq_false n]
   show Option.map _ _=_
   rw [ih]
   by_cases m:q∈ks
   ·rw [if_pos m,if_pos (List.mem_cons_of_mem _ m)]
   ·rw [if_neg m,if_neg (fun z=>by rcases List.mem_cons.mp z with z | z; exact e z.symm; exact m z)]
theorem kvL_put {ad:Int→Addr} {ks:List Int} {p:Int} {r:Addr} (h:p ∉ ks):putK (kvL ad ks) (Sum.inl p) (.ref r)=kvL (fun z=>if z=p then r else ad z) (ks++[p]):=by
 rw [putK_new _ (by rw [kvL_val,if_neg h])]
 unfold kvL
 rw [List.map_append,List.map_singleton]
 have e1:(fun z:Int=>if z=p then r else ad z) p=r:=if_pos rfl
 rw [e1]
 refine congrArg (·++[((Sum.inl p:Key),V.ref r)]) (List.map_congr_left fun q hq=>?_)
 have e2:(fun z:Int=>if z=p then r else ad z) q=ad q:=if_neg fun z=>h (by rw [← z]; exact hq)
 rw [e2]
theorem kvL_len (ad:Int→Addr) (ks:List Int):(kvL ad ks).length=ks.length:=List.length_map _
theorem kvL_upto (ad:Int→Addr) (n:Nat):kvL ad (upto n)=kvN ad n:=by
 rw [kv_eq]
 unfold kvL upto
 rw [List.map_map]; rfl
def CutsQ (H:Hp) (ts:List (Addr × Rw4)):Prop:=∀ t∈ts,H t.1=some (.tup ((rowK t.2).map kV))
def sp_cuts:Sp:=fun vs H Q _=>∃ (d:Addr) (b w:Int) (ok:Int→Prop) (ad:Int→Addr) (h:Int→List Int),vs=[.ref d,.int b,.int w]∧TabG H d ok ad h∧1≤b∧b≤63∧(∀ q∈plist b,ok q∧ok (b - q))∧1≤w∧w≤12 ∧
 ∀ l ts H',Same H H'→H l=none→H' l=some (.lst (refs ts))→CutsQ H' ts→ts.map (·.2)=cutsF h b w→ts.length≤1000→Q (.ref l) H'
def sp_low:Sp:=fun vs H Q _=>∃ (a d:Addr) (ws:List Want) (b w:Int) (ok:Int→Prop) (ad:Int→Addr) (h:Int→List Int),vs=[.ref a,.ref d,.int b,.int w]∧WantsAt H a ws∧TabG H d ok ad h∧1≤b∧b≤63∧(∀ q∈plist b,ok q∧ok (b - q)) ∧
 (alone b=true→0≤((Builtin.Int.intBits b:Nat):Int) - 1∧(((Builtin.Int.intBits b:Nat):Int) - 1).toNat < ws.length)∧(alone b=false→plist b≠[])∧1≤w∧w≤12∧∀ z H',Same H H'→Low ws h b w z→Q (.int z) H'
def sp_heights:Sp:=fun vs H Q _=>∃ (a:Addr) (ws:List Want) (b:Int),vs=[.ref a,.int b]∧WantsAt H a ws∧ws.length≤6∧0≤b∧b≤((2^ws.length - 1:Nat):Int) ∧
 ∀ d ad h H',Same H H'→H d=none→H' d=some (.dK (kvL ad (partsOf b)))→(∀ p∈partsOf b,H' (ad p)=some (.lst ((h p).map V.int))∧(h p).length=13)→(∀ p∈partsOf b,Row ws h p)→Q (.ref d) H'
def sp_stairs:Sp:=fun vs H Q _=>∃ (a:Addr) (ws:List Want),vs=[.ref a]∧WantsAt H a ws∧ws.length≤6∧(∀ t∈ws,WOk t) ∧
 ∀ d ad h H',Same H H'→TabS H' d (2^ws.length - 1) ad (fun p=>stairOf (h p))→(∀ p:Int,1≤p→p≤((2^ws.length - 1:Nat):Int)→Row ws h p)→Q (.ref d) H'
def heldW (t:Want) (w h:Int):List (Int × Int):=(waysOf t).filter fun z=>decide (z.1≤w) && decide (z.2≤h)
def sp_wheld:Sp:=fun vs H Q _=>∃ (a:Addr) (t:Want) (w h:Int),vs=[.ref a,.int w,.int h]∧H a=some (.tup [.int t.1,.int t.2.1,.bl t.2.2])∧∀ l H',Same H H'→H l=none→TupL H' l (heldW t w h)→Q (.ref l) H'
def sp_off (cW cU cL:Addr):Sp:=fun vs H Q _=>∃ (m:Int) (a:Addr) (z:Int × Int) (w h:Int),vs=[.int m,.ref a,.int w,.int h]∧H a=some (.tup [.int z.1,.int z.2])∧∀ v H',Same H H'→Obj cW cU cL H' (offT m z w h) v→Q v H'
def sp_talone (cW cU cL:Addr):Sp:=fun vs H Q _=>∃ (a:Addr) (ws:List Want) (m:Int) (t:Want) (w h:Int),vs=[.ref a,.int m,.int w,.int h]∧WantsAt H a ws∧0≤m∧ws[m.toNat]?=some t∧heldW t w h≠[]∧∀ v z H',Same H H'→z∈waysOf t→z.1≤w→z.2≤h→Obj cW cU cL H' (offT m z w h) v→Q v H'
def okB (B:Int) (p:Int):Prop:=1≤p∧p≤B∧isPart B p=true
def sp_tree (cW cU cL:Addr) (n:Nat):Sp:=fun vs H Q _=>∃ (a d:Addr) (ws:List Want) (B b w hh:Int) (ad:Int→Addr) (h:Int→List Int),vs=[.ref a,.ref d,.int b,.int w,.int hh]∧WantsAt H a ws∧ws.length≤6∧(∀ t∈ws,WOk t)∧TabG H d (okB B) ad h∧1≤B∧B≤((2^ws.length - 1:Nat):Int)∧okB B b∧pc b < n ∧
 (1≤w∧w≤12)∧(1≤hh∧hh≤12)∧(∀ p,okB B p→Row ws h p)∧rat (h b) w≤hh∧∀ v t H',Same H H'→Obj cW cU cL H' t v→Sv ws t b w hh→Q v H'
theorem tree0 {cW cU cL:Addr} {vs:List V} {H:Hp} {Q:VK} {E:XK}:¬ sp_tree cW cU cL 0 vs H Q E:=by
 rintro ⟨a,d,ws,B,b,w,hh,ad,h,_,_,_,_,_,_,_,_,z,_⟩
 omega
def sp_cutfrom (cW cU cL:Addr):Sp:=fun vs H Q _=>∃ (u:Bool) (k:Int) (v1 v2:V) (y1 y2:Tr),vs=[.str (wd u),.int k,v1,v2]∧Obj cW cU cL H y1 v1∧Obj cW cU cL H y2 v2∧∀ v' H',Same H H'→Obj cW cU cL H' (.cut u k y1 y2) v'→Q v' H'
theorem S_cut_from:FnScope ["word","at","first","other"] ["word","at","first","other"] (defScope s_cut_from):=⟨rfl,rfl,rfl,by decide +kernel,rfl,by decide +kernel,by decide +kernel⟩
theorem ok_cut_from {f:Addr} {fd:FuncData} (F:Fun K "cut_from" "cut_from" s_cut_from f fd) (T:Txt mg t1 t2 t3 t4 t5 t6) (K_Upright:MkOk P w K mg base 1 "Upright" cU ["self","at","first","other"] (sp_iC cU)) (K_Level:MkOk P w K mg base 1 "Level" cL ["self","at","first","other"] (sp_iC cL)) :
  FnOk P w K mg base CX0 3 f fd ["word","at","first","other"] (sp_cutfrom cW cU cL):=by
 have S:=S_cut_from
 refine F.ok S (fun vs H Q E h=>?_) (fun cdv A outer s H vs Q E hr h=>?_)
 ·obtain ⟨u,k,v1,v2,y1,y2,rfl,_⟩:=h; rfl
 ·obtain ⟨u,k,v1,v2,y1,y2,rfl,o1,o2,q⟩:=h
  refine ⟨_,(pss_cons (ps_if (pt_cmpR op_eq (pv 0) (pe_glob (v:=.str "upright") rfl T.g_UPRIGHT ⟨_,rfl⟩) (nomark _)) (pss_one (ps_ret (pe_mk K_Upright hr (pa_cons (pv 1) (pa_cons (pv 2) (pa_cons (pv 3) pa_nil)))))) pss_nil)
   (pss_one (ps_ret (pe_mk K_Level hr (pa_cons (pv 1) (pa_cons (pv 2) (pa_cons (pv 3) pa_nil))))))),?_⟩
  cases u with
  | true =>
   refine ⟨_,rfl,rfl,_,rfl,iteP (wd_dec true true) ⟨_,rfl,_,rfl,_,rfl,fun x dx nx ndx nex=>⟨x,dx,k,v1,v2,rfl,upd_same,fun H3 s3 e3=>⟨rfl,?_⟩⟩⟩⟩
   have s4:Same H H3:=fun b o e=>s3 b o (ne_of_none e nx) (made_same nx ndx b o e)
   exact q _ _ s4 (by rw [Obj]; exact ⟨x,dx,v1,v2,rfl,e3,o1.same s4,o2.same s4⟩)
  | false =>
   refine ⟨_,rfl,rfl,_,rfl,iteN (wd_dec false true) ⟨_,rfl,_,rfl,_,rfl,fun x dx nx ndx nex=>⟨x,dx,k,v1,v2,rfl,upd_same,fun H3 s3 e3=>⟨rfl,?_⟩⟩⟩⟩
   have s4:Same H H3:=fun b o e=>s3 b o (ne_of_none e nx) (made_same nx ndx b o e)
   exact q _ _ s4 (by rw [Obj]; exact ⟨x,dx,v1,v2,rfl,e3,o1.same s4,o2.same s4⟩)
theorem S_is_whole:FnScope ["thing"] ["thing"] (defScope s_is_whole):=⟨rfl,rfl,rfl,by decide +kernel,rfl,by decide +kernel,by decide +kernel⟩
theorem ok_is_whole {f:Addr} {fd:FuncData} (F:Fun K "is_whole" "is_whole" s_is_whole f fd) (T:Txt mg t1 t2 t3 t4 t5 t6):FnOk P w K mg base CX0 1 f fd ["thing"] sp_whole:=by
 have S:=S_is_whole
 refine F.ok S (fun vs H Q E h=>?_) (fun cdv A outer s H vs Q E hr h=>?_)
 ·obtain ⟨i,rfl,_⟩:=h; rfl
 ·obtain ⟨i,rfl,q⟩:=h
  refine ⟨_,(pss_one (ps_ret (pe_and (pe_callB call_isin rfl T.z_isinstance rfl (pa_cons (pv 0) (pa_cons (pe_bltn (v:=.ty "int") rfl T.z_int rfl rfl) pa_nil))) (pe_one (pe_not (pe_callB call_isin rfl T.z_isinstance rfl (pa_cons (pv 0) (pa_cons (pe_bltn (v:=.ty "bool") rfl T.z_bool rfl rfl) pa_nil)))))))),?_⟩
  refine ⟨_,rfl,.int i,"int","int",rfl,rfl,.inl rfl,_,rfl,ite3 (fun h=>?_) (fun h=>absurd h (by decide))⟩
  refine ⟨_,rfl,.int i,"int","bool",rfl,rfl,.inr (.inl rfl),_,rfl,?_⟩
  have e:(!isB "int" "bool")=true:=by decide
  rw [e]
  exact q
theorem S_is_side:FnScope ["thing"] ["thing"] (defScope s_is_side):=⟨rfl,rfl,rfl,by decide +kernel,rfl,by decide +kernel,by decide +kernel⟩
theorem ok_is_side {f:Addr} {fd:FuncData} (F:Fun K "is_side" "is_side" s_is_side f fd) (T:Txt mg t1 t2 t3 t4 t5 t6) (D_is_whole:DefOk P w K mg base 1 "is_whole" ["thing"] sp_whole):FnOk P w K mg base CX0 2 f fd ["thing"] sp_side:=by
 have S:=S_is_side
 refine F.ok S (fun vs H Q E h=>?_) (fun cdv A outer s H vs Q E hr h=>?_)
 ·obtain ⟨i,rfl,_⟩:=h; rfl
 ·obtain ⟨i,rfl,i1,i2,q⟩:=h
  refine ⟨_,(pss_one (ps_ret (pe_and (pe_fn D_is_whole hr (pa_cons (pv 0) pa_nil)) (pe_one (pe_chain op_le op_le pe_int (pv 0) (pe_glob (v:=.int 12) rfl T.g_LONGEST_SIDE ⟨_,rfl⟩)))))),?_⟩
  refine ⟨_,rfl,i,rfl,_,rfl,iteT ⟨_,rfl,_,_,rfl,rfl,_,rfl,ite3 (fun h=>?_) (fun h=>absurd i1 (of_decide_eq_false h))⟩⟩
  refine ⟨_,_,rfl,rfl,?_⟩
  show Q (.bl (decide (i≤12))) H
  rw [decide_eq_true i2]
  exact q
theorem S_is_want:FnScope ["thing"] ["thing"] (defScope s_is_want):=⟨rfl,rfl,rfl,by decide +kernel,rfl,by decide +kernel,by decide +kernel⟩
theorem ty_tup {H:Hp} {a:Addr} {xs:List V} (h:H a=some (.tup xs)):tyS H (.ref a)=some "tuple":=by
 show tyO (H a)=some "tuple"
 rw [h]; rfl
theorem ok_is_want {f:Addr} {fd:FuncData} (F:Fun K "is_want" "is_want" s_is_want f fd) (T:Txt mg t1 t2 t3 t4 t5 t6) (D_is_side:DefOk P w K mg base 2 "is_side" ["thing"] sp_side):FnOk P w K mg base CX0 3 f fd ["thing"] sp_want:=by
 have S:=S_is_want
 refine F.ok S (fun vs H Q E h=>?_) (fun cdv A outer s H vs Q E hr h=>?_)
 ·obtain ⟨a,t,rfl,_⟩:=h; rfl
 ·obtain ⟨a,t,rfl,ha,⟨w1,w2,h1,h2⟩,q⟩:=h
  refine ⟨_,(pss_cons (ps_if (PW.pt (pw_or (pt_not (pt_val (pe_callB call_isin rfl T.z_isinstance rfl (pa_cons (pv 0) (pa_cons (pe_bltn (v:=.ty "tuple") rfl T.z_tuple rfl rfl) pa_nil))))) (pw_or1 (pt_cmpR op_ne (pe_callB call_len_seq rfl T.z_len rfl (pa_cons (pv 0) pa_nil)) pe_int (nomark _))))) (pss_one (ps_ret pe_bl)) pss_nil)
   (pss_one (ps_ret (pe_and (pe_fn D_is_side hr (pa_cons (pe_ix ix_tup (pv 0) pe_int (fun _ _=>rfl)) pa_nil)) (pe_and (pe_fn D_is_side hr (pa_cons (pe_ix ix_tup (pv 0) pe_int (fun _ _=>rfl)) pa_nil)) (pe_one (pe_callB call_isin rfl T.z_isinstance rfl (pa_cons (pe_ix ix_tup (pv 0) pe_int (fun _ _=>rfl)) (pa_cons (pe_bltn (v:=.ty "bool") rfl T.z_bool rfl rfl) pa_nil))))))))),?_⟩
  refine ⟨_,rfl,.ref a,"tuple","tuple",rfl,ty_tup ha,.inr (.inr (.inl rfl)),_,rfl,ite3 (fun z=>absurd z (by decide)) (fun _=>?_)⟩
  refine ⟨_,rfl,a,_,rfl,.inr (SqT.of ha),rfl,_,rfl,iteN (show (!decide (V.int ((3:Nat):Int)=V.int 3))=false from by decide) ?_⟩
  refine ⟨_,rfl,a,_,_,_,rfl,rfl,SqT.of ha,at3_0,t.1,rfl,w1,w2,_,rfl,iteT ⟨_,rfl,a,_,_,_,rfl,rfl,SqT.of ha,at3_1,t.2.1,rfl,h1,h2,_,rfl,iteT ?_⟩⟩
  refine ⟨_,rfl,a,_,_,_,rfl,rfl,SqT.of ha,at3_2,.bl t.2.2,"bool","bool",rfl,rfl,.inr (.inl rfl),?_⟩
  have e1:isB "bool" "bool"=true:=by decide
  rw [e1]
  exact q
theorem S_check_wants:FnScope ["wants","place","want"] ["wants"] (defScope s_check_wants):=⟨rfl,rfl,rfl,by decide +kernel,rfl,by decide +kernel,by decide +kernel⟩
theorem ok_check_wants {f:Addr} {fd:FuncData} (F:Fun K "check_wants" "check_wants" s_check_wants f fd) (T:Txt mg t1 t2 t3 t4 t5 t6) (D_is_want:DefOk P w K mg base 3 "is_want" ["thing"] sp_want):FnOk P w K mg base CX0 4 f fd ["wants"] sp_check:=by
 have S:=S_check_wants
 refine F.ok S (fun vs H Q E h=>?_) (fun cdv A outer s H vs Q E hr h=>?_)
 ·obtain ⟨a,ws,rfl,_⟩:=h; rfl
 ·obtain ⟨a,ws,rfl,⟨ts,ha,ht,rfl⟩,few,ok,q⟩:=h
  rw [List.length_map] at few
  refine ⟨_,(pss_cons (ps_if (pt_cmpR op_gt (pe_callB call_len_seq rfl T.z_len rfl (pa_cons (pv 0) pa_nil)) (pe_glob (v:=.int 6) rfl T.g_MOST_WANTS ⟨_,rfl⟩) (nomark _)) (pss_one ps_never) pss_nil)
   (pss_one (ps_for PassesOwn.never rfl (pi_enum rfl T.z_enumerate (pa_cons (pv 0) pa_nil)) (pg_tup rfl (pgs_cons (pg_name (i:=1) S.nd rfl (Or.inl rfl)) (pgs_cons (pg_name (i:=2) S.nd rfl (Or.inl rfl)) pgs_nil))) (pss_one (ps_if (pt_not (pt_val (pe_fn D_is_want hr (pa_cons (pv 2) pa_nil)))) (pss_one ps_never) pss_nil))))),?_⟩
  refine ⟨_,rfl,a,_,rfl,.inl (SqL.of ha),_,_,rfl,rfl,_,rfl,iteN (decide_eq_false (by rw [refs_len]; omega)) ?_⟩
  refine ⟨_,rfl,a,rfl,⟨_,SqL.of ha⟩,for_enum (K:=K) (a:=a) (xs:=refs ts) (fun i σ H'=>(∃ x y,σ=[some (.ref a),x,y])∧Same H H') ⟨⟨none,none,rfl⟩,Same.refl H⟩ (fun i σ H' _ hp=>SqL.of (hp.2 _ _ ha)) ?_ ?_⟩
  ·rintro i x σ H1 t hx ⟨⟨x0,y0,rfl⟩,s1⟩ nt
   obtain ⟨u,hu,rfl⟩:=refs_get hx
   have hm:=List.mem_of_getElem? hu
   have s2:Same H1 (upd H1 t (.tup [.int i,.ref u.1])):=Same.new nt
   refine ⟨t,_,rfl,SqT.of upd_same,rfl,_,_,rfl,_,_,rfl,rfl,_,rfl,u.1,u.2,rfl,s2 _ _ (s1 _ _ (ht u hm)),ok _ (List.mem_map.mpr ⟨u,hm,rfl⟩),_,rfl,iteF ⟨⟨_,_,rfl⟩,s1.trans s2⟩⟩
  ·rintro σ H1 ⟨_,s1⟩
   exact q H1 s1
theorem S_ways_to_lie:FnScope ["want"] ["want"] (defScope s_ways_to_lie):=⟨rfl,rfl,rfl,by decide +kernel,rfl,by decide +kernel,by decide +kernel⟩
theorem ok_ways_to_lie {f:Addr} {fd:FuncData} (F:Fun K "ways_to_lie" "ways_to_lie" s_ways_to_lie f fd):FnOk P w K mg base CX0 1 f fd ["want"] sp_ways:=by
 have S:=S_ways_to_lie
 refine F.ok S (fun vs H Q E h=>?_) (fun cdv A outer s H vs Q E hr h=>?_)
 ·obtain ⟨a,t,rfl,_⟩:=h; rfl
 ·obtain ⟨a,t,rfl,ha,q⟩:=h
  refine ⟨_,(pss_cons (ps_if (pt_truth (pe_ix ix_tup (pv 0) pe_int (fun _ _=>rfl)) (fun _=>rfl)) (pss_one (ps_ret (pe_lst (pa_cons (pe_tup (pa_cons (pe_ix ix_tup (pv 0) pe_int (fun _ _=>rfl)) (pa_cons (pe_ix ix_tup (pv 0) pe_int (fun _ _=>rfl)) pa_nil))) (pa_cons (pe_tup (pa_cons (pe_ix ix_tup (pv 0) pe_int (fun _ _=>rfl)) (pa_cons (pe_ix ix_tup (pv 0) pe_int (fun _ _=>rfl)) pa_nil))) pa_nil))))) pss_nil)
   (pss_one (ps_ret (pe_lst (pa_cons (pe_tup (pa_cons (pe_ix ix_tup (pv 0) pe_int (fun _ _=>rfl)) (pa_cons (pe_ix ix_tup (pv 0) pe_int (fun _ _=>rfl)) pa_nil))) pa_nil))))),?_⟩
  refine ⟨_,rfl,a,_,_,_,rfl,rfl,SqT.of ha,at3_2,_,rfl,ite3 (fun h=>?_) (fun h=>?_)⟩
  ·refine ⟨_,rfl,a,_,_,_,rfl,rfl,SqT.of ha,at3_0,_,rfl,a,_,_,_,rfl,rfl,SqT.of ha,at3_1,lenOk 2,fun p hp=>?_⟩
   have s1:Same H (upd H p (.tup [.int t.1,.int t.2.1])):=Same.new hp
   refine ⟨_,rfl,a,_,_,_,rfl,rfl,SqT.of (s1 _ _ ha),at3_1,_,rfl,a,_,_,_,rfl,rfl,SqT.of (s1 _ _ ha),at3_0,lenOk 2,fun p' hp'=>⟨lenOk 2,fun l hl=>?_⟩⟩
   have s2:Same (upd H p (.tup [.int t.1,.int t.2.1])) (upd (upd H p (.tup [.int t.1,.int t.2.1])) p' (.tup [.int t.2.1,.int t.1])):=Same.new hp'
   have s3:Same (upd (upd H p (.tup [.int t.1,.int t.2.1])) p' (.tup [.int t.2.1,.int t.1])) (upd (upd (upd H p (.tup [.int t.1,.int t.2.1])) p' (.tup [.int t.2.1,.int t.1])) l (.lst [.ref p,.ref p'])):=Same.new hl
   refine q l _ (s1.trans (s2.trans s3)) (wasNone (s1.trans s2) hl) ⟨[(p,t.1,t.2.1),(p',t.2.1,t.1)],upd_same,fun u hu=>?_,?_⟩
   ·simp only [List.mem_cons,List.not_mem_nil,or_false] at hu
    rcases hu with rfl | rfl
    ·exact s3 _ _ (s2 _ _ upd_same)
    ·exact s3 _ _ upd_same
   ·unfold waysOf; rw [if_pos h]; rfl
  ·refine ⟨_,rfl,a,_,_,_,rfl,rfl,SqT.of ha,at3_0,_,rfl,a,_,_,_,rfl,rfl,SqT.of ha,at3_1,lenOk 2,fun p hp=>⟨lenOk 1,fun l hl=>?_⟩⟩
   have s1:Same H (upd H p (.tup [.int t.1,.int t.2.1])):=Same.new hp
   have s3:Same (upd H p (.tup [.int t.1,.int t.2.1])) (upd (upd H p (.tup [.int t.1,.int t.2.1])) l (.lst [.ref p])):=Same.new hl
   refine q l _ (s1.trans s3) (wasNone s1 hl) ⟨[(p,t.1,t.2.1)],upd_same,fun u hu=>?_,?_⟩
   ·rw [List.mem_singleton.mp hu]
    exact s3 _ _ upd_same
   ·unfold waysOf; rw [if_neg (by rw [h]; exact Bool.false_ne_true)]; rfl
theorem S_is_alone:FnScope ["bits"] ["bits"] (defScope s_is_alone):=⟨rfl,rfl,rfl,by decide +kernel,rfl,by decide +kernel,by decide +kernel⟩
theorem dec_eq {i j:Int}:decide (V.int i=V.int j)=decide (i=j):=by
 by_cases h:i=j
 ·rw [decide_eq_true h,decide_eq_true (congrArg V.int h)]
 ·rw [decide_eq_false h,decide_eq_false (fun z=>h (V.int.inj z))]
theorem ok_is_alone {f:Addr} {fd:FuncData} (F:Fun K "is_alone" "is_alone" s_is_alone f fd):FnOk P w K mg base CX0 1 f fd ["bits"] sp_alone:=by
 have S:=S_is_alone
 refine F.ok S (fun vs H Q E h=>?_) (fun cdv A outer s H vs Q E hr h=>?_)
 ·obtain ⟨b,rfl,_⟩:=h; rfl
 ·obtain ⟨b,rfl,q⟩:=h
  refine ⟨_,(pss_one (ps_ret (pe_cmpR op_eq (pe_op op_and (pv 0) (pe_op op_sub (pv 0) pe_int)) pe_int (nomark _)))),?_⟩
  refine ⟨_,rfl,_,rfl,_,_,rfl,rfl,_,_,rfl,rfl,rfl,?_⟩
  rw [dec_eq]
  exact q
theorem S_number_alone:FnScope ["bits"] ["bits"] (defScope s_number_alone):=⟨rfl,rfl,rfl,by decide +kernel,rfl,by decide +kernel,by decide +kernel⟩
theorem ok_number_alone {f:Addr} {fd:FuncData} (F:Fun K "number_alone" "number_alone" s_number_alone f fd):FnOk P w K mg base CX0 1 f fd ["bits"] sp_number:=by
 have S:=S_number_alone
 refine F.ok S (fun vs H Q E h=>?_) (fun cdv A outer s H vs Q E hr h=>?_)
 ·obtain ⟨b,rfl,_⟩:=h; rfl
 ·obtain ⟨b,rfl,q⟩:=h
  refine ⟨_,(pss_one (ps_ret (pe_op op_sub (pe_bm0 PySem.F.plainAttrs_int PySem.F.slot_int_bit_length PySem.F.type_int_bit_length mt_bits (pv 0)) pe_int))),?_⟩
  exact ⟨_,rfl,rfl,b,rfl,rfl,_,_,rfl,rfl,q⟩
theorem S_all_parts:FnScope ["bits"] ["bits"] (defScope s_all_parts):=⟨rfl,rfl,rfl,by decide +kernel,rfl,by decide +kernel,by decide +kernel⟩
theorem filt_yes {f:Int→Bool} {n:Nat} (h:f (1+(n:Int))=true):(upto (n+1)).filter f=(upto n).filter f++[1+(n:Int)]:=by
 rw [upto_succ,List.filter_append,List.filter_cons,if_pos h]; rfl
theorem filt_no {f:Int→Bool} {n:Nat} (h:f (1+(n:Int))=false):(upto (n+1)).filter f=(upto n).filter f:=by
 rw [upto_succ,List.filter_append,List.filter_cons,if_neg (by rw [h]; exact Bool.false_ne_true)]; exact List.append_nil _
theorem ok_all_parts {f:Addr} {fd:FuncData} (F:Fun K "all_parts" "all_parts" s_all_parts f fd) (T:Txt mg t1 t2 t3 t4 t5 t6):FnOk P w K mg base CX0 1 f fd ["bits"] sp_parts:=by
 have S:=S_all_parts
 refine F.ok S (fun vs H Q E h=>?_) (fun cdv A outer s H vs Q E hr h=>?_)
 ·obtain ⟨b,rfl,_⟩:=h; rfl
 ·obtain ⟨b,rfl,b0,b1,q⟩:=h
  refine ⟨_,(pss_one (ps_ret (pe_compF rfl (pi_range2 rfl T.z_range (pa_cons pe_int (pa_cons (pe_op op_add (pv 0) pe_int) pa_nil))) (fun _ _ _ _ _=>(pg_name (i:=0) (show List.Nodup (["part","bits"]:List Str) from by decide +kernel) rfl (Or.inl rfl))) (fun _ _ _ _ _=>(pt_cmpR op_eq (pe_op op_and (pv 0) (pv 1)) (pv 0) (nomark _))) (fun _ _ _ _ _=>(pv 0)) (N:=["part","bits"]) (fr:=[none,some 0])))),?_⟩
  have e0:(b+1 - 1).toNat=b.toNat:=by rw [show b+1 - 1=b from by omega]
  refine ⟨_,rfl,_,_,rfl,rfl,1,b+1,rfl,⟨by omega,by omega,by omega,by omega⟩,fun acc hacc=>comp_rangeF (lo:=1) (n:=(b+1 - 1).toNat) (fun i zs σ H'=>(∃ y,σ=[y,some (.int b)])∧Same H H'∧zs=((upto i).filter (isPart b)).map V.int) ⟨⟨none,rfl⟩,Same.new hacc,rfl⟩ ?_ ?_⟩
  ·rintro i zs σ H1 hi hl ha ⟨⟨y,rfl⟩,s1,hz⟩
   have sz:(b+1 - 1).toNat≤sizeLine:=Nat.le_of_lt (small1000 (by omega))
   cases c:isPart b (1+(i:Int)) with
   | true =>
    refine ⟨_,rfl,_,rfl,_,_,rfl,rfl,_,rfl,rfl,true,by rw [dec_eq]; exact congrArg V.bl c,_,rfl,fNx.mk sz hi hl ha ⟨⟨_,rfl⟩,fun d o e=>by rw [upd_ne (ne_of_none e hacc)]; exact s1 d o e,?_⟩⟩
    rw [filt_yes c,List.map_append,hz]; rfl
   | false =>
    refine ⟨_,rfl,_,rfl,_,_,rfl,rfl,_,rfl,rfl,false,by rw [dec_eq]; exact congrArg V.bl c,fSk.mk hi hl ha ⟨⟨_,rfl⟩,s1,?_⟩⟩
    rw [filt_no c,hz]
  ·rintro zs σ H1 hl ha ⟨_,s1,hz⟩
   rw [e0] at hz
   exact q acc H1 s1 hacc (by rw [ha,hz]; rfl)
theorem S_parts_with_least:FnScope ["bits","least"] ["bits"] (defScope s_parts_with_least):=⟨rfl,rfl,rfl,by decide +kernel,rfl,by decide +kernel,by decide +kernel⟩
theorem ok_parts_with_least {f:Addr} {fd:FuncData} (F:Fun K "parts_with_least" "parts_with_least" s_parts_with_least f fd) (D_all_parts:DefOk P w K mg base 1 "all_parts" ["bits"] sp_parts):FnOk P w K mg base CX0 2 f fd ["bits"] sp_least:=by
 have S:=S_parts_with_least
 refine F.ok S (fun vs H Q E h=>?_) (fun cdv A outer s H vs Q E hr h=>?_)
 ·obtain ⟨b,rfl,_⟩:=h; rfl
 ·obtain ⟨b,rfl,b0,b1,q⟩:=h
  refine ⟨_,(pss_cons (ps_set (i:=1) S.nd rfl (Or.inr rfl) (pe_op op_and (pv 0) (pe_un un_neg (pv 0))))
   (pss_one (ps_ret (pe_compF rfl (pi_list (pe_fn D_all_parts hr (pa_cons (pv 0) pa_nil))) (fun _ _ _ _ _=>(pg_name (i:=0) (show List.Nodup (["part","least","bits"]:List Str) from by decide +kernel) rfl (Or.inl rfl))) (fun _ _ _ _ _=>(PW.pt (pw_and (pt_int (pe_op op_and (pv 0) (pv 1))) (pw_and1 (pt_cmpR op_ne (pv 0) (pv 2) (nomark _)))))) (fun _ _ _ _ _=>(pv 0)) (N:=["part","least","bits"]) (fr:=[none,some 1,some 0]))))),?_⟩
  refine ⟨_,rfl,_,rfl,_,rfl,_,_,rfl,rfl,_,rfl,b,rfl,b0,b1,fun l H1 s1 nl hl=>?_⟩
  have sz:((partsOf b).map V.int).length≤sizeLine:=by
   have:=List.length_filter_le (isPart b) (upto b.toNat)
   rw [upto_len] at this
   rw [List.length_map]
   exact Nat.le_of_lt (small1000 (by unfold partsOf; omega))
  refine ⟨l,rfl,⟨_,SqL.of hl⟩,fun acc hacc=>comp_listF (K:=K) (a:=l) (ys:=(partsOf b).map V.int) (fun i zs σ H'=>(∃ y,σ=[y,some (.int (Builtin.bitAnd b (-b))),some (.int b)])∧Same H1 H'∧zs=(((partsOf b).take i).filter (inL b)).map V.int) ⟨⟨none,rfl⟩,Same.new hacc,rfl⟩ (fun i zs σ H' _ _ hp=>SqL.of (hp.2.1 _ _ hl)) ?_ ?_⟩
  ·rintro i x zs σ H2 hx hi hl' ha ⟨⟨y,rfl⟩,s2,hz⟩
   obtain ⟨p,hp,rfl⟩:=ints_get hx
   have tk1:(partsOf b).take (i+1)=(partsOf b).take i++[p]:=by rw [List.take_succ,hp]; rfl
   have yes:inL b p=true→fNx acc ((partsOf b).map V.int).length (fun i zs σ H'=>(∃ y,σ=[y,some (.int (Builtin.bitAnd b (-b))),some (.int b)])∧Same H1 H'∧zs=(((partsOf b).take i).filter (inL b)).map V.int) i [some (.int p),some (.int (Builtin.bitAnd b (-b))),some (.int b)] (.int p) H2:=fun c =>
    fNx.mk sz hi hl' ha ⟨⟨_,rfl⟩,fun d o e=>by rw [upd_ne (ne_of_none e hacc)]; exact s2 d o e,by rw [tk1,List.filter_append,List.filter_cons,if_pos c,List.map_append,hz]; rfl⟩
   have no:inL b p=false→fSk acc ((partsOf b).map V.int).length (fun i zs σ H'=>(∃ y,σ=[y,some (.int (Builtin.bitAnd b (-b))),some (.int b)])∧Same H1 H'∧zs=(((partsOf b).take i).filter (inL b)).map V.int) i [some (.int p),some (.int (Builtin.bitAnd b (-b))),some (.int b)] H2:=fun c =>
    fSk.mk hi hl' ha ⟨⟨_,rfl⟩,s2,by rw [tk1,List.filter_append,List.filter_cons,if_neg (by rw [c]; exact Bool.false_ne_true),hz]; exact congrArg (List.map V.int) (List.append_nil _).symm⟩
   refine ⟨_,rfl,_,rfl,_,_,rfl,rfl,_,rfl,ite3 (fun c1=>?_) (fun c1=>no (by unfold inL; rw [c1]; rfl))⟩
   cases c2:decide (p=b) with
   | true=>exact ⟨_,rfl,_,rfl,rfl,false,by rw [dec_eq,c2]; rfl,no (by unfold inL; rw [c1,c2]; rfl)⟩
   | false=>exact ⟨_,rfl,_,rfl,rfl,true,by rw [dec_eq,c2]; rfl,_,rfl,yes (by unfold inL; rw [c1,c2]; rfl)⟩
  ·rintro zs σ H2 hl' ha ⟨_,s2,hz⟩
   rw [List.length_map,List.take_length] at hz
   exact q acc H2 (s1.trans s2) (wasNone s1 hacc) (by rw [ha,hz]; rfl)
theorem S_cuts_to:FnScope ["heights","bits","width","found","part","one","other"] ["heights","bits","width"] (defScope s_cuts_to):=⟨rfl,rfl,rfl,by decide +kernel,rfl,by decide +kernel,by decide +kernel⟩
def cI (H1:Hp) (acc:Addr) (st:St) (g:Int→Rw4) (j:Nat) (zs:List V) (σ:St) (H':Hp):Prop :=
 (∃ y,σ=y :: st)∧Same H1 H'∧∃ us:List (Addr × Rw4),zs=refs us∧(∀ t∈us,H' t.1=some (.tup ((rowK t.2).map kV))∧t.1≠acc)∧us.map (·.2)=(upto j).map g
theorem cI.next {H1 H2:Hp} {acc t:Addr} {st:St} {g:Int→Rw4} {j n:Nat} {zs:List V} {σ:St} {y:Option V} (c:cI H1 acc st g j zs σ H2) (na:H1 acc=none) (ha:H2 acc=some (.lst zs)) (hn:n≤12) (hj:j < n) (hz:zs.length=j) (nt:H2 t=none) :
  cNx acc n (cI H1 acc st g) j (y :: st) (.ref t) (upd H2 t (.tup ((rowK (g (1+(j:Int)))).map kV))):=by
 obtain ⟨_,s1,us,rfl,h1,h2⟩:=c
 have nt':t≠acc:=fun z=>by rw [z,ha] at nt; cases nt
 have s2:Same H2 (upd H2 t (.tup ((rowK (g (1+(j:Int)))).map kV))):=Same.new nt
 refine cNx.mk (Nat.le_of_lt (small1000 (by omega))) hj hz (s2 _ _ ha) ⟨⟨_,rfl⟩,fun b o e=>?_,us++[(t,g (1+(j:Int)))],?_,fun u hu=>?_,?_⟩
 ·rw [upd_ne (ne_of_none e na)]
  exact s2 _ _ (s1 b o e)
 ·rw [refs,refs,List.map_append]; rfl
 ·rcases List.mem_append.mp hu with hu | hu
  ·obtain ⟨e,n⟩:=h1 u hu
   exact ⟨by rw [upd_ne n]; exact s2 _ _ e,n⟩
  ·rw [List.mem_singleton.mp hu]
   exact ⟨by rw [upd_ne nt']; exact upd_same,nt'⟩
 ·rw [List.map_append,h2,upto_succ,List.map_append]; rfl
def gU (h:Int→List Int) (b w p:Int) (a:Int):Rw4:=(cutU h b w p a,[Sum.inr (wd true),Sum.inl a,Sum.inl p])
theorem ok_cuts_to {f:Addr} {fd:FuncData} (F:Fun K "cuts_to" "cuts_to" s_cuts_to f fd) (T:Txt mg t1 t2 t3 t4 t5 t6) (D_parts_with_least:DefOk P w K mg base 2 "parts_with_least" ["bits"] sp_least):FnOk P w K mg base CX0 3 f fd ["heights","bits","width"] sp_cuts:=by
 have S:=S_cuts_to
 refine F.ok S (fun vs H Q E h=>?_) (fun cdv A outer s H vs Q E hr h=>?_)
 ·obtain ⟨d,b,w,okk,ad,h,rfl,_⟩:=h; rfl
 ·obtain ⟨d,b,w,okk,ad,h,rfl,tab,b1,b2,bn,w1,w2,q⟩:=h
  have hu:=hu_of hr
  refine ⟨_,(pss_cons (ps_set (i:=3) S.nd rfl (Or.inl rfl) (pe_lst pa_nil))
   (pss_cons (ps_for PassesOwn.never rfl (pi_list (pe_fn D_parts_with_least hr (pa_cons (pv 1) pa_nil))) (pg_name (i:=4) S.nd rfl (Or.inr rfl)) (pss_cons (ps_set (i:=5) S.nd rfl (Or.inr rfl) (pe_dget hu (pv 0) (pv 4) (fun _ _=>rfl)))
   (pss_cons (ps_set (i:=6) S.nd rfl (Or.inr rfl) (pe_dget hu (pv 0) (pe_op op_sub (pv 1) (pv 4)) (fun _ _=>rfl)))
   (pss_cons (ps_expr (pe_bm PySem.F.plainAttrs_list PySem.F.slot_list_extend PySem.F.type_list_extend mt_extend (pv 3) (pa_cons (pe_comp rfl (pi_range2 rfl T.z_range (pa_cons pe_int (pa_cons (pv 2) pa_nil))) (fun _ _ _ _ _=>(pg_name (i:=0) (show List.Nodup (["at","part","one","other","width"]:List Str) from by decide +kernel) rfl (Or.inl rfl))) (fun _ _ _ _ _=>(pe_tup (pa_cons (pe_callB (call_max2 rfl) rfl T.z_max rfl (pa_cons (pe_ix (ix_listK (K:=K)) (pv 2) (pv 0) (fun _ _=>rfl)) (pa_cons (pe_ix (ix_listK (K:=K)) (pv 3) (pe_op op_sub (pv 4) (pv 0)) (fun _ _=>rfl)) pa_nil))) (pa_cons (pe_glob (v:=.str "upright") rfl T.g_UPRIGHT ⟨_,rfl⟩) (pa_cons (pv 0) (pa_cons (pv 1) pa_nil)))))) (N:=["at","part","one","other","width"]) (fr:=[none,some 4,some 5,some 6,some 2])) pa_nil)))
   (pss_one (ps_expr (pe_bm PySem.F.plainAttrs_list PySem.F.slot_list_append PySem.F.type_list_append mt_append (pv 3) (pa_cons (pe_tup (pa_cons (pe_op op_add (pe_ix ix_list (pv 5) (pv 2) (fun _ _=>rfl)) (pe_ix ix_list (pv 6) (pv 2) (fun _ _=>rfl))) (pa_cons (pe_glob (v:=.str "level") rfl T.g_LEVEL ⟨_,rfl⟩) (pa_cons (pe_ix ix_list (pv 5) (pv 2) (fun _ _=>rfl)) (pa_cons (pv 4) pa_nil))))) pa_nil))))))))
   (pss_one (ps_ret (pv 3))))),?_⟩
  refine ⟨lenOk 0,fun l hl=>⟨_,rfl,b,rfl,by omega,b2,fun pl H1 s1 npl hpl=>?_⟩⟩
  have s01:Same H H1:=fun c o e=>s1 c o ((Same.new (o:=.lst []) hl) c o e)
  have hl1:H1 l=some (.lst []):=s1 _ _ upd_same
  have nlp:pl≠l:=fun z=>by rw [z,upd_same] at npl; cases npl
  have pll:=plist_len b
  refine ⟨pl,rfl,⟨_,SqL.of hpl⟩,for_list (K:=K) (a:=pl) (xs:=(plist b).map V.int) (fun i σ H'=>(∃ x y z,σ=[some (.ref d),some (.int b),some (.int w),some (.ref l),x,y,z])∧SameX l H1 H'∧∃ ts:List (Addr × Rw4),H' l=some (.lst (refs ts))∧CutsQ H' ts∧ts.map (·.2)=((plist b).take i).flatMap (cutQ h b w)∧ts.length≤12 * i)
   ⟨⟨none,none,none,rfl⟩,SameX.refl,[],hl1,(fun t ht=>nomatch ht),rfl,Nat.le_refl _⟩ (fun i σ H' _ hp=>SqL.of (hp.2.1 _ _ nlp hpl)) ?_ ?_⟩
  ·rintro i x σ H2 hx ⟨⟨x0,y0,z0,rfl⟩,s2,ts,hl2,hc,hts,few⟩
   obtain ⟨p,hp,rfl⟩:=ints_get hx
   obtain ⟨p1,p2⟩:=mem_plist (List.mem_of_getElem? hp)
   obtain ⟨k1,k2⟩:=bn p (List.mem_of_getElem? hp)
   have hi:i < (plist b).length:=(List.getElem?_eq_some_iff.mp hp).1
   have s02:Same H H2:=s2.same s01 hl
   have tb:=tab.same s02
   obtain ⟨r1,l1⟩:=tb.row p k1
   obtain ⟨r2,l2⟩:=tb.row (b - p) k2
   refine ⟨_,rfl,_,rfl,d,_,rfl,tb.get k1,_,rfl,_,rfl,_,rfl,_,_,rfl,rfl,d,_,rfl,tb.get k2,?_⟩
   refine ⟨_,rfl,.inl ⟨rfl,_,SqL.of hl2⟩,_,rfl,1,w,rfl,⟨by omega,by omega,by omega,by omega⟩,fun acc na=>comp_range (lo:=1) (n:=(w - 1).toNat) (cI H2 acc [some (.int p),some (.ref (ad p)),some (.ref (ad (b - p))),some (.int w)] (gU h b w p)) ⟨⟨none,rfl⟩,Same.new na,[],rfl,(fun t ht=>nomatch ht),rfl⟩ ?_ ?_⟩
   ·rintro j zs σ H3 hj hz ha c
    obtain ⟨⟨y,rfl⟩,s3,_⟩:=id c
    have a1:=at_rat (r:=h p) (i:=1+(j:Int)) (by omega) (by omega)
    have a2:=at_rat (r:=h (b - p)) (i:=w - (1+(j:Int))) (by omega) (by omega)
    exact ⟨_,rfl,_,rfl,ad p,_,_,_,rfl,rfl,SqL.of (s3 _ _ r1),a1,_,rfl,_,rfl,_,rfl,_,_,rfl,rfl,ad (b - p),_,_,_,rfl,rfl,SqL.of (s3 _ _ r2),a2,_,_,rfl,_,rfl,_,rfl,lenOk 4,fun t nt=>c.next na ha (by omega) hj hz nt⟩
   ·rintro zs σ H3 hz ha ⟨_,s3,us,rfl,hus,hm⟩
    have la:l≠acc:=fun z=>by rw [z,na] at hl2; cases hl2
    have ul:us.length=(w - 1).toNat:=by rw [← hz,refs_len]
    have hl3:=s3 _ _ hl2
    refine ⟨l,acc,_,_,rfl,rfl,hl3,ha,Nat.le_of_lt (small1000 (by rw [refs_len,refs_len]; omega)),?_⟩
    have s4:SameX l H2 (upd H3 l (.lst (refs ts++refs us))):=fun c o nc e=>by rw [upd_ne nc]; exact s3 c o e
    have hl4:(upd H3 l (.lst (refs ts++refs us))) l=some (.lst (refs (ts++us))):=by rw [upd_same,refs,refs,refs,List.map_append]
    have c4:CutsQ (upd H3 l (.lst (refs ts++refs us))) (ts++us):=fun t ht=>by
     rcases List.mem_append.mp ht with ht | ht
     ·have e:=hc t ht
      exact s4 _ _ (fun q=>by rw [q,hl2] at e; cases e) e
     ·obtain ⟨e,_⟩:=hus t ht
      rw [upd_ne (fun q=>by rw [q,hl3] at e; cases e)]; exact e
    generalize upd H3 l (.lst (refs ts++refs us))=H4 at s4 hl4 c4 ⊢
    have nl1:ad p≠l:=ne_of_none (tab.row p k1).1 hl
    have nl2:ad (b - p)≠l:=ne_of_none (tab.row (b - p) k2).1 hl
    have r1':=s4 _ _ nl1 r1
    have r2':=s4 _ _ nl2 r2
    have a1:=at_rat (r:=h p) (i:=w) (by omega) (by omega)
    have a2:=at_rat (r:=h (b - p)) (i:=w) (by omega) (by omega)
    refine ⟨_,rfl,.inl ⟨rfl,_,SqL.of hl4⟩,_,rfl,_,rfl,ad p,_,_,_,rfl,rfl,SqL.of r1',a1,_,rfl,_,rfl,ad (b - p),_,_,_,rfl,rfl,SqL.of r2',a2,_,_,rfl,rfl,_,rfl,_,rfl,ad p,_,_,_,rfl,rfl,SqL.of r1',a1,_,rfl,lenOk 4,fun t nt=>?_⟩
    have tl:t≠l:=fun q=>by rw [q,hl4] at nt; cases nt
    have s5:Same H4 (upd H4 t (.tup [.int (rat (h p) w+rat (h (b - p)) w),.str "level",.int (rat (h p) w),.int p])):=Same.new nt
    refine ⟨l,_,_,rfl,rfl,s5 _ _ hl4,small1000 (by rw [refs_len,List.length_append]; omega),⟨_,_,_,rfl⟩,fun c o nc e=>?_,ts++us++[(t,(rat (h p) w+rat (h (b - p)) w,[Sum.inr (wd false),Sum.inl (rat (h p) w),Sum.inl p]))],?_,fun u hu=>?_,?_,?_⟩
    ·rw [upd_ne nc]
     exact s5 _ _ (s4 c o nc (s2 c o nc e))
    ·rw [upd_same]
     exact congrArg (fun z=>some (HO.lst z)) (by simp [refs])
    ·rcases List.mem_append.mp hu with hu | hu
     ·have e:=c4 u hu
      rw [upd_ne (fun q=>by rw [q,hl4] at e; cases e)]; exact s5 _ _ e
     ·rw [List.mem_singleton.mp hu,upd_ne tl]
      exact upd_same
    ·have tk1:(plist b).take (i+1)=(plist b).take i++[p]:=by rw [List.take_succ,hp]; rfl
     rw [tk1,List.flatMap_append,List.map_append,List.map_append,hts,hm]
     show _=_++(cutQ h b w p++[])
     rw [List.append_nil,List.append_assoc]
     rfl
    ·rw [List.length_append,List.length_append,List.length_singleton]
     omega
  ·rintro σ H2 ⟨⟨x0,y0,z0,rfl⟩,s2,ts,hl2,hc,hts,few⟩
   rw [List.length_map,List.take_length] at hts
   rw [List.length_map] at few
   exact ⟨_,rfl,q l ts H2 (s2.same s01 hl) hl hl2 hc hts (by omega)⟩
theorem S_least_height:FnScope ["wants","heights","bits","width","ways"] ["wants","heights","bits","width"] (defScope s_least_height):=⟨rfl,rfl,rfl,by decide +kernel,rfl,by decide +kernel,by decide +kernel⟩
theorem ok_least_height {f:Addr} {fd:FuncData} (F:Fun K "least_height" "least_height" s_least_height f fd) (T:Txt mg t1 t2 t3 t4 t5 t6) (D_is_alone:DefOk P w K mg base 1 "is_alone" ["bits"] sp_alone) (D_number_alone:DefOk P w K mg base 1 "number_alone" ["bits"] sp_number) (D_ways_to_lie:DefOk P w K mg base 1 "ways_to_lie" ["want"] sp_ways) (D_cuts_to:DefOk P w K mg base 3 "cuts_to" ["heights","bits","width"] sp_cuts):FnOk P w K mg base CX0 4 f fd ["wants","heights","bits","width"] sp_low:=by
 have S:=S_least_height
 refine F.ok S (fun vs H Q E h=>?_) (fun cdv A outer s H vs Q E hr h=>?_)
 ·obtain ⟨a,d,ws,b,w,okk,ad,h,rfl,_⟩:=h; rfl
 ·obtain ⟨a,d,ws,b,w,okk,ad,h,rfl,hw,tab,b1,b2,bn,al,nal,w1,w2,q⟩:=h
  refine ⟨_,(pss_cons (ps_if (pt_val (pe_fn D_is_alone hr (pa_cons (pv 2) pa_nil))) (pss_cons (ps_set (i:=4) S.nd rfl (Or.inl rfl) (pe_fn D_ways_to_lie hr (pa_cons (pe_ix ix_list (pv 0) (pe_fn D_number_alone hr (pa_cons (pv 2) pa_nil)) (fun _ _=>rfl)) pa_nil)))
   (pss_one (ps_ret (pe_minD rfl rfl T.z_min (pa_cons (pe_compF rfl (pi_list (pv 4)) (fun _ _ _ _ _=>(pg_tupK (K:=K) (n:=2) rfl (pgs_cons (pg_name (i:=0) (show List.Nodup (["wide","high","width"]:List Str) from by decide +kernel) rfl (Or.inl rfl)) (pgs_cons (pg_name (i:=1) (show List.Nodup (["wide","high","width"]:List Str) from by decide +kernel) rfl (Or.inl rfl)) pgs_nil)))) (fun _ _ _ _ _=>(pt_cmpR op_le (pv 0) (pv 2) (nomark _))) (fun _ _ _ _ _=>(pv 1)) (N:=["wide","high","width"]) (fr:=[none,none,some 3])) pa_nil) (pe_glob (v:=.int 13) rfl T.g_TOO_HIGH ⟨_,rfl⟩))))) pss_nil)
   (pss_one (ps_ret (pe_callB (call_min2 rfl) rfl T.z_min rfl (pa_cons (pe_glob (v:=.int 13) rfl T.g_TOO_HIGH ⟨_,rfl⟩) (pa_cons (pe_callB call_min1 rfl T.z_min rfl (pa_cons (pe_comp rfl (pi_list (pe_fn D_cuts_to hr (pa_cons (pv 1) (pa_cons (pv 2) (pa_cons (pv 3) pa_nil))))) (fun _ _ _ _ _=>(pg_name (i:=0) (show List.Nodup (["cut"]:List Str) from by decide +kernel) rfl (Or.inl rfl))) (fun _ _ _ _ _=>(pe_ix (ix_tupK (K:=K)) (pv 0) pe_int (fun _ _=>rfl))) (N:=["cut"]) (fr:=[none])) pa_nil)) pa_nil)))))),?_⟩
  refine ⟨_,rfl,b,rfl,_,rfl,ite3 (fun c=>?_) (fun c=>?_)⟩
  ·obtain ⟨g0,g1⟩:=al c
   obtain ⟨ts,ha,ht,rfl⟩:=hw
   rw [List.length_map] at g1
   have hg:ts[(((Builtin.Int.intBits b:Nat):Int) - 1).toNat]?=some ts[(((Builtin.Int.intBits b:Nat):Int) - 1).toNat]:=List.getElem?_eq_getElem g1
   generalize ts[(((Builtin.Int.intBits b:Nat):Int) - 1).toNat]=u at hg
   have hat:atI (refs ts) (((Builtin.Int.intBits b:Nat):Int) - 1)=some (.ref u.1):=by
    have e:=atI_nat (xs:=refs ts) (j:=(((Builtin.Int.intBits b:Nat):Int) - 1).toNat) (v:=.ref u.1) (by rw [refs,List.getElem?_map,hg]; rfl)
    rw [Int.toNat_of_nonneg g0] at e
    exact e
   have hgw:(ts.map (·.2))[(((Builtin.Int.intBits b:Nat):Int) - 1).toNat]?=some u.2:=by rw [List.getElem?_map,hg]; rfl
   refine ⟨_,rfl,_,rfl,b,rfl,a,_,_,_,rfl,rfl,SqL.of ha,hat,u.1,u.2,rfl,ht u (List.mem_of_getElem? hg),fun l H1 s1 nl hl=>?_⟩
   obtain ⟨us,e1,e2,e3⟩:=hl
   have sz:(refs us).length≤sizeLine:=by
    have z:us.length=(waysOf u.2).length:=by rw [← e3,List.length_map]
    have z2:(waysOf u.2).length≤2:=by unfold waysOf; split <;> simp
    exact Nat.le_of_lt (small1000 (by rw [refs_len]; omega))
   refine ⟨_,rfl,l,rfl,⟨_,SqL.of e1⟩,fun acc na=>comp_listF (K:=K) (a:=l) (ys:=refs us) (fun i zs σ H'=>(∃ x y,σ=[x,y,some (.int w)])∧Same H1 H'∧zs=((((waysOf u.2).take i).filter fun z=>decide (z.1≤w)).map (·.2)).map V.int) ⟨⟨none,none,rfl⟩,Same.new na,rfl⟩ (fun i zs σ H' _ _ hp=>SqL.of (hp.2.1 _ _ e1)) ?_ ?_⟩
   ·rintro i x zs σ H2 hx hi hl' ha' ⟨⟨x0,y0,rfl⟩,s2,hz⟩
    obtain ⟨v,hv,rfl⟩:=refs_get hx
    have hv2:=s2 _ _ (e2 v (List.mem_of_getElem? hv))
    have tk1:(waysOf u.2).take (i+1)=(waysOf u.2).take i++[v.2]:=by rw [← e3,List.take_succ,List.getElem?_map,hv]; rfl
    cases c2:decide (v.2.1≤w) with
    | true =>
     refine ⟨v.1,_,rfl,SqT.of hv2,rfl,_,_,rfl,_,_,rfl,rfl,_,rfl,_,rfl,_,_,rfl,rfl,true,congrArg V.bl c2,_,rfl,fNx.mk sz hi hl' ha' ⟨⟨_,_,rfl⟩,fun d o e=>by rw [upd_ne (ne_of_none e na)]; exact s2 d o e,?_⟩⟩
     rw [tk1,List.filter_append,List.filter_cons,if_pos c2,List.map_append,List.map_append,hz]; rfl
    | false =>
     refine ⟨v.1,_,rfl,SqT.of hv2,rfl,_,_,rfl,_,_,rfl,rfl,_,rfl,_,rfl,_,_,rfl,rfl,false,congrArg V.bl c2,fSk.mk hi hl' ha' ⟨⟨_,_,rfl⟩,s2,?_⟩⟩
     rw [tk1,List.filter_append,List.filter_cons,if_neg (by rw [c2]; exact Bool.false_ne_true),List.map_append,hz]
     simp
   ·rintro zs σ H2 hl' ha' ⟨_,s2,hz⟩
    have z:(refs us).length=(waysOf u.2).length:=by rw [refs_len,← e3,List.length_map]
    rw [z,List.take_length] at hz
    refine ⟨acc,lows u.2 w,rfl,SqL.of (by rw [ha',hz]; rfl),fun e=>q 13 H2 (s1.trans s2) ⟨fun _=>⟨u.2,hgw,.inl ⟨e,rfl⟩⟩,fun z=>?_⟩,fun m hm hle=>q m H2 (s1.trans s2) ⟨fun _=>⟨u.2,hgw,.inr ⟨hm,hle⟩⟩,fun z=>?_⟩⟩
    ·rw [c] at z; cases z
    ·rw [c] at z; cases z
  ·refine ⟨_,rfl,_,rfl,_,rfl,d,b,w,okk,ad,h,rfl,tab,b1,b2,bn,w1,w2,fun l ts H1 s1 nl hl hc hts few=>?_⟩
   have sz:(refs ts).length≤sizeLine:=Nat.le_of_lt (Nat.lt_of_le_of_lt (by rw [refs_len]; exact few) (by decide:1000 < sizeLine))
   refine ⟨l,rfl,⟨_,SqL.of hl⟩,fun acc na=>comp_list (K:=K) (a:=l) (ys:=refs ts) (fun i zs σ H'=>(∃ x,σ=[x])∧Same H1 H'∧zs=((ts.take i).map (·.2.1)).map V.int) ⟨⟨none,rfl⟩,Same.new na,rfl⟩ (fun i zs σ H' _ _ hp=>SqL.of (hp.2.1 _ _ hl)) ?_ ?_⟩
   ·rintro i x zs σ H2 hx hi hl' ha' ⟨⟨x0,rfl⟩,s2,hz⟩
    obtain ⟨v,hv,rfl⟩:=refs_get hx
    have e:=hc v (List.mem_of_getElem? hv)
    refine ⟨_,rfl,v.1,_,_,_,rfl,rfl,SqT.of (s2 _ _ e),atI_nat (j:=0) rfl,cNx.mk sz hi hl' ha' ⟨⟨_,rfl⟩,fun d o e=>by rw [upd_ne (ne_of_none e na)]; exact s2 d o e,?_⟩⟩
    rw [List.take_succ,hv,List.map_append,List.map_append,hz]; rfl
   ·rintro zs σ H2 hl' ha' ⟨_,s2,hz⟩
    have hts1:ts.map (·.2.1)=cutH h b w:=by rw [← cutsF_fst,← hts,List.map_map]; rfl
    rw [refs_len,List.take_length,hts1] at hz
    have ne:cutH h b w≠[]:=fun z=>by
     cases e:plist b with
     | nil=>exact nal c e
     | cons p r =>
      have:=cutL_in (h:=h) (w:=w) (show p∈plist b from by rw [e]; simp)
      rw [z] at this
      cases this
    refine ⟨acc,cutH h b w,rfl,SqL.of (by rw [ha',hz]),rfl,ne,fun m hm hle=>⟨13,m,rfl,?_⟩⟩
    exact q _ H2 (s1.trans s2) ⟨fun z=>(by rw [c] at z; cases z),fun _=>⟨m,hm,hle,rfl⟩⟩
theorem S_heights_of_parts:FnScope ["wants","bits","heights","part","least"] ["wants","bits"] (defScope s_heights_of_parts):=⟨rfl,rfl,rfl,by decide +kernel,rfl,by decide +kernel,by decide +kernel⟩
theorem rat_cons {z:Int} {r:List Int} {k:Nat}:rat (z :: r) (1+(k:Int))=r.getD k 0:=by
 unfold rat
 rw [show (1+(k:Int)).toNat=k+1 from by omega]
 rfl
theorem getD_snoc {r:List Int} {z:Int} {k:Nat}:(r++[z]).getD k 0=if k < r.length then r.getD k 0 else if k=r.length then z else 0:=by
 rw [List.getD_eq_getElem?_getD,List.getD_eq_getElem?_getD,List.getElem?_append]
 by_cases h:k < r.length
 ·rw [if_pos h,if_pos h]
 ·rw [if_neg h,if_neg h]
  by_cases e:k=r.length
  ·rw [if_pos e,e,Nat.sub_self]; rfl
  ·rw [if_neg e,List.getElem?_eq_none (by simp; omega)]; rfl
theorem ok_heights_of_parts {f:Addr} {fd:FuncData} (F:Fun K "heights_of_parts" "heights_of_parts" s_heights_of_parts f fd) (T:Txt mg t1 t2 t3 t4 t5 t6) (D_all_parts:DefOk P w K mg base 1 "all_parts" ["bits"] sp_parts) (D_least_height:DefOk P w K mg base 4 "least_height" ["wants","heights","bits","width"] sp_low):FnOk P w K mg base CX0 5 f fd ["wants","bits"] sp_heights:=by
 have S:=S_heights_of_parts
 refine F.ok S (fun vs H Q E h=>?_) (fun cdv A outer s H vs Q E hr h=>?_)
 ·obtain ⟨a,ws,b,rfl,_⟩:=h; rfl
 ·obtain ⟨a,ws,b,rfl,hw,few,hb0,hb1,q⟩:=h
  have hu:=hu_of hr
  have hb2:2^ws.length - 1≤63:=by
   have:∀ n:Nat,n≤6→2^n - 1≤63:=by decide +kernel
   exact this _ few
  have sole:=fun b=>sole_of (n:=ws.length) (b:=b) (by omega)
  generalize 2^ws.length - 1=n at hb1 hb2 sole
  have srt:=parts_sorted b
  have memk:∀ {p:Int},p∈partsOf b→1≤p∧p≤b∧isPart b p=true:=fun {p} hp=>by
   obtain ⟨⟨a,c⟩,d⟩:=mem_partsOf.mp hp
   exact ⟨a,c,d⟩
  have lenk:(partsOf b).length≤63:=by
   have:=List.length_filter_le (isPart b) (upto b.toNat)
   rw [upto_len] at this
   unfold partsOf
   omega
  have step:∀ {i:Nat} {p:Int},(partsOf b)[i]?=some p→∀ q∈plist p,q∈(partsOf b).take i∧p - q∈(partsOf b).take i:=fun {i p} hp q hq=>by
   obtain ⟨a1,a2,a3⟩:=memk (List.mem_of_getElem? hp)
   obtain ⟨q1,q2,q3⟩:=plist_up hq
   obtain ⟨t1,t2⟩:=part_trans (b:=b) (by omega) (by omega) a1 (by omega) a3 hq
   exact ⟨(take_lt srt hp).mpr ⟨mem_partsOf.mpr ⟨⟨q1,by omega⟩,t1⟩,q2⟩,(take_lt srt hp).mpr ⟨mem_partsOf.mpr ⟨⟨q3,by omega⟩,t2⟩,by omega⟩⟩
  refine ⟨_,(pss_cons (ps_set (i:=2) S.nd rfl (Or.inr rfl) pe_dnewK)
   (pss_cons (ps_for PassesOwn.never rfl (pi_list (pe_fn D_all_parts hr (pa_cons (pv 1) pa_nil))) (pg_name (i:=3) S.nd rfl (Or.inr rfl)) (pss_cons (ps_setComp rfl (pg_name (i:=4) S.nd rfl (Or.inl rfl)) (pi_range2 rfl T.z_range (pa_cons pe_int (pa_cons (pe_op op_add (pe_glob (v:=.int 12) rfl T.g_LONGEST_SIDE ⟨_,rfl⟩) pe_int) pa_nil))) (fun _ _ _ _ _=>(pg_name (i:=0) (show List.Nodup (["width","wants","heights","part"]:List Str) from by decide +kernel) rfl (Or.inl rfl))) (fun _ _ _ _ _=>(pe_fn D_least_height hr (pa_cons (pv 1) (pa_cons (pv 2) (pa_cons (pv 3) (pa_cons (pv 0) pa_nil)))))) (N:=["width","wants","heights","part"]) (fr:=[none,some 0,some 2,some 3]))
   (pss_one (ps_dput hu (pv 2) (pv 3) (pe_op op_cat (pe_lst (pa_cons (pe_glob (v:=.int 13) rfl T.g_TOO_HIGH ⟨_,rfl⟩) pa_nil)) (pv 4)) rfl))))
   (pss_one (ps_ret (pv 2))))),?_⟩
  refine fun d nd=>⟨_,rfl,b,rfl,hb0,by omega,fun pl H1 s1 npl hpl=>?_⟩
  have s01:Same H H1:=fun c o e=>s1 c o ((Same.new (o:=.dK []) nd) c o e)
  have hd1:H1 d=some (.dK []):=s1 _ _ upd_same
  have ndp:pl≠d:=fun z=>by rw [z,upd_same] at npl; cases npl
  refine ⟨pl,rfl,⟨_,SqL.of hpl⟩,for_list (K:=K) (a:=pl) (xs:=(partsOf b).map V.int) (fun i σ H'=>(∃ x y,σ=[some (.ref a),some (.int b),some (.ref d),x,y])∧SameX d H1 H'∧∃ ad h,H' d=some (.dK (kvL ad ((partsOf b).take i)))∧(∀ p∈(partsOf b).take i,H' (ad p)=some (.lst ((h p).map V.int))∧(h p).length=13)∧∀ p∈(partsOf b).take i,Row ws h p)
   ⟨⟨none,none,rfl⟩,SameX.refl,(fun _=>0),(fun _=>[]),hd1,(fun p hp=>nomatch hp),(fun p hp=>nomatch hp)⟩ (fun i σ H' _ hp=>SqL.of (hp.2.1 _ _ ndp hpl)) ?_ ?_⟩
  ·rintro i x σ H2 hx ⟨⟨x0,y0,rfl⟩,s2,ad,h,hd2,row2,rows⟩
   obtain ⟨p,hp,rfl⟩:=ints_get hx
   obtain ⟨p1,p2,p3⟩:=memk (List.mem_of_getElem? hp)
   have tk:(partsOf b).take (i+1)=(partsOf b).take i++[p]:=by rw [List.take_succ,hp]; rfl
   have lti:∀ q∈(partsOf b).take i,q < p:=fun q hq=>((take_lt srt hp).mp hq).2
   have npk:p ∉ (partsOf b).take i:=fun z=>absurd (lti p z) (Int.lt_irrefl p)
   have s02:Same H H2:=s2.same s01 nd
   have tab:TabG H2 d (fun q=>q∈(partsOf b).take i) ad h:=⟨⟨_,.inl hd2,fun q hq=>by rw [kvL_val,if_pos hq]⟩,row2⟩
   obtain ⟨so1,so2⟩:=sole p p1 (by omega)
   refine ⟨_,_,rfl,rfl,1,13,rfl,⟨by omega,by omega,by omega,by omega⟩,fun acc na=>comp_range (lo:=1) (n:=((13:Int) - 1).toNat) (fun j zs σ H'=>(∃ y,σ=[y,some (.ref a),some (.ref d),some (.int p)])∧Same H2 H'∧∃ rs:List Int,zs=rs.map V.int∧∀ k,k < j→Low ws h p (1+(k:Int)) (rs.getD k 0)) ⟨⟨none,rfl⟩,Same.new na,[],rfl,fun k hk=>by omega⟩ ?_ ?_⟩
   ·rintro j zs σ H3 hj hz ha ⟨⟨y,rfl⟩,s3,rs,rfl,low⟩
    have hj:j < 12:=hj
    rw [List.length_map] at hz
    refine ⟨_,rfl,_,rfl,_,rfl,_,rfl,a,d,ws,p,1+(j:Int),_,ad,h,rfl,hw.same (s02.trans s3),tab.same s3,p1,by omega,step hp,so1,so2,by omega,by omega,fun z H4 s4 lo=>?_⟩
    refine cNx.mk (by decide) hj (by rw [List.length_map]; exact hz) (s4 _ _ ha) ⟨⟨_,rfl⟩,fun c o e=>by rw [upd_ne (ne_of_none e na)]; exact s4 _ _ (s3 c o e),rs++[z],by rw [List.map_append]; rfl,fun k hk=>?_⟩
    rw [getD_snoc,hz]
    by_cases e:k < j
    ·rw [if_pos e]; exact low k e
    ·have e:k=j:=by omega
     rw [if_neg (by omega),if_pos e,e]; exact lo
   ·rintro zs σ H3 hz ha ⟨_,s3,rs,rfl,low⟩
    rw [List.length_map] at hz
    have hz:rs.length=12:=hz
    refine ⟨lenOk 1,fun q1 nq=>?_⟩
    have s4:Same H3 (upd H3 q1 (.lst [.int 13])):=Same.new nq
    refine ⟨_,rfl,q1,acc,_,_,rfl,rfl,upd_same,s4 _ _ ha,Nat.le_of_lt (small1000 (by rw [List.length_map,hz]; decide)),fun r nr=>?_⟩
    have s5:Same (upd H3 q1 (.lst [.int 13])) (upd (upd H3 q1 (.lst [.int 13])) r (.lst ([.int 13]++rs.map V.int))):=Same.new nr
    have e5:(upd (upd H3 q1 (.lst [.int 13])) r (.lst ([.int 13]++rs.map V.int))) r=some (.lst ((13 :: rs).map V.int)):=upd_same
    have s25:Same H2 (upd (upd H3 q1 (.lst [.int 13])) r (.lst ([.int 13]++rs.map V.int))):=s3.trans (s4.trans s5)
    generalize upd (upd H3 q1 (.lst [.int 13])) r (.lst ([.int 13]++rs.map V.int))=H5 at e5 s25 ⊢
    clear s4 s5
    have hd5:=s25 _ _ hd2
    have rd:r≠d:=fun z=>by rw [z,hd5] at e5; cases e5
    refine ⟨_,rfl,_,rfl,d,_,rfl,DPut.k (k:=Sum.inl p) hd5 (small1000 (by rw [kvL_len,List.length_take]; omega)),⟨_,_,rfl⟩,fun c o nc e=>?_,fun z=>if z=p then r else ad z,fun z=>if z=p then 13 :: rs else h z,?_,fun q hq=>?_,fun q hq=>?_⟩
    ·rw [upd_ne nc]
     exact s25 _ _ (s2 c o nc e)
    ·rw [upd_same,tk,kvL_put npk]
    ·show (upd H5 d _) (if q=p then r else ad q)=some (.lst ((if q=p then 13 :: rs else h q).map V.int))∧(if q=p then 13 :: rs else h q).length=13
     by_cases e:q=p
     ·rw [if_pos e,if_pos e,upd_ne rd]
      exact ⟨e5,by rw [List.length_cons,hz]⟩
     ·rw [tk] at hq
      have hq:q∈(partsOf b).take i:=by
       rcases List.mem_append.mp hq with z | z
       ·exact z
       ·exact absurd (List.mem_singleton.mp z) e
      obtain ⟨o1,o2⟩:=row2 q hq
      have o1:=s25 _ _ o1
      rw [if_neg e,if_neg e,upd_ne (fun z=>by rw [z,hd5] at o1; cases o1)]
      exact ⟨o1,o2⟩
    ·have same:∀ x,1≤x→x < p→h x=(fun z=>if z=p then 13 :: rs else h z) x:=fun x _ x2=>by
      show h x=if x=p then 13 :: rs else h x
      rw [if_neg (by omega)]
     by_cases e:q=p
     ·subst e
      have er:(fun z=>if z=q then 13 :: rs else h z) q=13 :: rs:=if_pos rfl
      refine ⟨by rw [er]; rfl,fun w w1 w2=>?_⟩
      have lo:=low (w - 1).toNat (by show (w - 1).toNat < 12; omega)
      rw [← rat_cons (z:=13),show 1+((w - 1).toNat:Int)=w from by omega] at lo
      rw [er]
      exact lo.congr same
     ·rw [tk] at hq
      have hq:q∈(partsOf b).take i:=by
       rcases List.mem_append.mp hq with z | z
       ·exact z
       ·exact absurd (List.mem_singleton.mp z) e
      have lt:=lti q hq
      obtain ⟨o1,o2⟩:=rows q hq
      have er:(fun z=>if z=p then 13 :: rs else h z) q=h q:=if_neg e
      refine ⟨by rw [er]; exact o1,fun w w1 w2=>?_⟩
      rw [er]
      exact (o2 w w1 w2).congr fun x x1 x2=>same x x1 (by omega)
  ·rintro σ H2 ⟨⟨x0,y0,rfl⟩,s2,ad,h,hd2,row2,rows⟩
   rw [List.length_map,List.take_length] at hd2 row2 rows
   exact ⟨_,rfl,q d ad h H2 (s2.same s01 nd) nd hd2 row2 rows⟩
theorem S_stair:FnScope ["least"] ["least"] (defScope s_stair):=⟨rfl,rfl,rfl,by decide +kernel,rfl,by decide +kernel,by decide +kernel⟩
theorem ok_stair {f:Addr} {fd:FuncData} (F:Fun K "stair" "stair" s_stair f fd) (T:Txt mg t1 t2 t3 t4 t5 t6):FnOk P w K mg base CX0 1 f fd ["least"] sp_stair:=by
 have S:=S_stair
 refine F.ok S (fun vs H Q E h=>?_) (fun cdv A outer s H vs Q E hr h=>?_)
 ·obtain ⟨l,r,rfl,_⟩:=h; rfl
 ·obtain ⟨l,r,rfl,hl,hlen,q⟩:=h
  refine ⟨_,(pss_one (ps_ret (pe_compF rfl (pi_range2 rfl T.z_range (pa_cons pe_int (pa_cons (pe_op op_add (pe_glob (v:=.int 12) rfl T.g_LONGEST_SIDE ⟨_,rfl⟩) pe_int) pa_nil))) (fun _ _ _ _ _=>(pg_name (i:=0) (show List.Nodup (["width","least"]:List Str) from by decide +kernel) rfl (Or.inl rfl))) (fun _ _ _ _ _=>(pt_cmpR op_lt (pe_ix (ix_listK (K:=K)) (pv 1) (pv 0) (fun _ _=>rfl)) (pe_ix (ix_listK (K:=K)) (pv 1) (pe_op op_sub (pv 0) pe_int) (fun _ _=>rfl)) (nomark _))) (fun _ _ _ _ _=>(pe_tup (pa_cons (pv 0) (pa_cons (pe_ix (ix_listK (K:=K)) (pv 1) (pv 0) (fun _ _=>rfl)) pa_nil)))) (N:=["width","least"]) (fr:=[none,some 0])))),?_⟩
  refine ⟨_,_,rfl,rfl,1,13,rfl,⟨by omega,by omega,by omega,by omega⟩,fun acc na=>comp_rangeF (lo:=1) (n:=((13:Int) - 1).toNat) (fun i zs σ H'=>(∃ y,σ=[y,some (.ref l)])∧Same H H'∧∃ us:List (Addr × Int × Int),zs=refs us∧(∀ t∈us,H' t.1=some (.tup [.int t.2.1,.int t.2.2])∧t.1≠acc)∧us.map (·.2)=((upto i).filter (isStep r)).map fun w=>(w,rat r w)) ⟨⟨none,rfl⟩,Same.new na,[],rfl,(fun t ht=>nomatch ht),rfl⟩ ?_ ?_⟩
  ·rintro i zs σ H1 hi hz ha ⟨⟨y,rfl⟩,s1,us,rfl,hus,hm⟩
   have hi:i < 12:=hi
   have a1:=at_rat (r:=r) (i:=1+(i:Int)) (by omega) (by omega)
   have a2:=at_rat (r:=r) (i:=1+(i:Int) - 1) (by omega) (by omega)
   cases c:isStep r (1+(i:Int)) with
   | true =>
    refine ⟨_,rfl,_,rfl,l,_,_,_,rfl,rfl,SqL.of (s1 _ _ hl),a1,_,rfl,_,rfl,_,_,rfl,rfl,l,_,_,_,rfl,rfl,SqL.of (s1 _ _ hl),a2,_,_,rfl,rfl,true,congrArg V.bl c,?_⟩
    refine ⟨_,rfl,_,rfl,_,rfl,l,_,_,_,rfl,rfl,SqL.of (s1 _ _ hl),a1,lenOk 2,fun t nt=>?_⟩
    have nt':t≠acc:=fun z=>by rw [z,ha] at nt; cases nt
    have s2:Same H1 (upd H1 t (.tup [.int (1+(i:Int)),.int (rat r (1+(i:Int)))])):=Same.new nt
    refine fNx.mk (by decide) hi hz (s2 _ _ ha) ⟨⟨_,rfl⟩,fun d o e=>by rw [upd_ne (ne_of_none e na)]; exact s2 _ _ (s1 d o e),us++[(t,1+(i:Int),rat r (1+(i:Int)))],by rw [refs,refs,List.map_append]; rfl,fun u hu=>?_,?_⟩
    ·rcases List.mem_append.mp hu with hu | hu
     ·obtain ⟨e,n⟩:=hus u hu
      exact ⟨by rw [upd_ne n]; exact s2 _ _ e,n⟩
     ·rw [List.mem_singleton.mp hu]
      exact ⟨by rw [upd_ne nt']; exact upd_same,nt'⟩
    ·rw [filt_yes c,List.map_append,List.map_append,hm]; rfl
   | false =>
    refine ⟨_,rfl,_,rfl,l,_,_,_,rfl,rfl,SqL.of (s1 _ _ hl),a1,_,rfl,_,rfl,_,_,rfl,rfl,l,_,_,_,rfl,rfl,SqL.of (s1 _ _ hl),a2,_,_,rfl,rfl,false,congrArg V.bl c,fSk.mk hi hz ha ⟨⟨_,rfl⟩,s1,us,rfl,hus,by rw [filt_no c,hm]⟩⟩
  ·rintro zs σ H1 hz ha ⟨_,s1,us,rfl,hus,hm⟩
   exact q acc H1 s1 na ⟨us,ha,fun t ht=>(hus t ht).1,hm⟩
theorem S_all_bits:FnScope ["wants"] ["wants"] (defScope s_all_bits):=⟨rfl,rfl,rfl,by decide +kernel,rfl,by decide +kernel,by decide +kernel⟩
theorem ok_all_bits {f:Addr} {fd:FuncData} (F:Fun K "all_bits" "all_bits" s_all_bits f fd) (T:Txt mg t1 t2 t3 t4 t5 t6):FnOk P w K mg base CX0 1 f fd ["wants"] sp_bits:=by
 have S:=S_all_bits
 refine F.ok S (fun vs H Q E h=>?_) (fun cdv A outer s H vs Q E hr h=>?_)
 ·obtain ⟨a,xs,rfl,_⟩:=h; rfl
 ·obtain ⟨a,xs,rfl,ha,few,q⟩:=h
  refine ⟨_,(pss_one (ps_ret (pe_op op_sub (pe_op op_shl pe_int (pe_callB call_len_seq rfl T.z_len rfl (pa_cons (pv 0) pa_nil))) pe_int))),?_⟩
  exact ⟨_,rfl,a,_,rfl,.inl (SqL.of ha),_,_,rfl,rfl,⟨by omega,by omega,by decide⟩,_,_,rfl,rfl,q⟩
theorem S_stairs:FnScope ["wants","found","bits","least"] ["wants"] (defScope s_stairs):=⟨rfl,rfl,rfl,by decide +kernel,rfl,by decide +kernel,by decide +kernel⟩
theorem ok_stairs {f:Addr} {fd:FuncData} (F:Fun K "stairs" "stairs" s_stairs f fd) (D_check_wants:DefOk P w K mg base 4 "check_wants" ["wants"] sp_check) (D_all_bits:DefOk P w K mg base 1 "all_bits" ["wants"] sp_bits) (D_heights_of_parts:DefOk P w K mg base 5 "heights_of_parts" ["wants","bits"] sp_heights) (D_stair:DefOk P w K mg base 1 "stair" ["least"] sp_stair):FnOk P w K mg base CX0 6 f fd ["wants"] sp_stairs:=by
 have S:=S_stairs
 refine F.ok S (fun vs H Q E h=>?_) (fun cdv A outer s H vs Q E hr h=>?_)
 ·obtain ⟨a,ws,rfl,_⟩:=h; rfl
 ·obtain ⟨a,ws,rfl,hw,few,ok,q⟩:=h
  have hu:=hu_of hr
  refine ⟨_,(pss_cons (ps_expr (pe_fn D_check_wants hr (pa_cons (pv 0) pa_nil)))
   (pss_cons (ps_set (i:=1) S.nd rfl (Or.inl rfl) pe_dnewK)
   (pss_cons (ps_for PassesOwn.never rfl (pi_items (pe_fn D_heights_of_parts hr (pa_cons (pv 0) (pa_cons (pe_fn D_all_bits hr (pa_cons (pv 0) pa_nil)) pa_nil)))) (pg_tup rfl (pgs_cons (pg_name (i:=2) S.nd rfl (Or.inl rfl)) (pgs_cons (pg_name (i:=3) S.nd rfl (Or.inl rfl)) pgs_nil))) (pss_one (ps_dput hu (pv 1) (pv 2) (pe_fn D_stair hr (pa_cons (pv 3) pa_nil)) rfl)))
   (pss_one (ps_ret (pv 1)))))),?_⟩
  refine ⟨_,rfl,a,ws,rfl,hw,by omega,ok,fun H1 s1=>fun fd' nf=>?_⟩
  have s2:Same H1 (upd H1 fd' (.dK [])):=Same.new nf
  have hw2:=hw.same (s1.trans s2)
  obtain ⟨ts,ha,ht,hts⟩:=id hw2
  have tl:(refs ts).length=ws.length:=by rw [refs_len,← hts,List.length_map]
  have hb:(0:Int)≤1 * 2^((ws.length:Nat):Int).toNat - 1∧1 * 2^((ws.length:Nat):Int).toNat - 1≤((2^ws.length - 1:Nat):Int):=by
   have:∀ n:Nat,n≤6→(0:Int)≤1 * 2^((n:Nat):Int).toNat - 1∧1 * 2^((n:Nat):Int).toNat - 1≤((2^n - 1:Nat):Int):=by decide +kernel
   exact this _ few
  refine ⟨_,rfl,_,rfl,a,refs ts,rfl,ha,by omega,a,ws,1 * 2^((ws.length:Nat):Int).toNat - 1,by rw [tl]; rfl,hw2,few,hb.1,hb.2,fun d ad h H3 s3 nd hd3 row3 rows3=>?_⟩
  rw [full_ok ws.length (by omega)] at hd3 row3 rows3
  rw [kvL_upto] at hd3
  have tab:Tab H3 d (2^ws.length - 1) ad h:=⟨hd3,fun p p1 p2=>row3 p (mem_upto.mpr ⟨p1,p2⟩)⟩
  have rows:∀ p:Int,1≤p→p≤((2^ws.length - 1:Nat):Int)→Row ws h p:=fun p p1 p2=>rows3 p (mem_upto.mpr ⟨p1,p2⟩)
  have hn:2^ws.length - 1≤63:=by
   have:∀ n:Nat,n≤6→2^n - 1≤63:=by decide +kernel
   exact this _ (by omega)
  generalize 2^ws.length - 1=n at tab rows q hn
  have ef:H3 fd'=some (.dK []):=s3 _ _ upd_same
  have ndf:d≠fd':=fun z=>by rw [z,upd_same] at nd; cases nd
  have s13:Same H1 H3:=s2.trans s3
  refine ⟨d,_,rfl,tab.1,fun ob=>for_items (a:=d) (ob:=ob) (kvs:=kvN ad n) (fun i σ H'=>(∃ x y,σ=[some (.ref a),some (.ref fd'),x,y])∧SameX fd' (upd H3 d (.frz ob (.dK (kvN ad n)))) H'∧∃ ad',TabS H' fd' i ad' (fun p=>stairOf (h p)))
   ⟨⟨none,none,rfl⟩,SameX.refl,(fun _=>0),⟨by rw [upd_ne (Ne.symm ndf)]; exact ef,fun p a b=>by omega⟩⟩ (fun i σ H' _ hp=>hp.2.1 _ _ ndf upd_same) ?_ ?_⟩
  ·rintro i p σ H4 t hp ⟨⟨x0,y0,rfl⟩,s4,ad',tabS⟩ nt
   obtain ⟨hi,rfl⟩:=kv_get hp
   obtain ⟨r1,r2⟩:=tab.2 (1+(i:Int)) (by omega) (by omega)
   have nrd:ad (1+(i:Int))≠d:=fun z=>by rw [z,tab.1] at r1; cases r1
   have nrf:ad (1+(i:Int))≠fd':=fun z=>by rw [z,ef] at r1; cases r1
   have r4:=s4 _ _ nrf (show (upd H3 d (.frz ob (.dK (kvN ad n)))) (ad (1+(i:Int)))=_ from by rw [upd_ne nrd]; exact r1)
   have s5:Same H4 (upd H4 t (.tup [kV (Sum.inl (1+(i:Int))),.ref (ad (1+(i:Int)))])):=Same.new nt
   refine ⟨t,_,rfl,SqT.of upd_same,rfl,_,_,rfl,_,_,rfl,rfl,?_⟩
   generalize upd H4 t (.tup [kV (Sum.inl (1+(i:Int))),.ref (ad (1+(i:Int)))])=H5 at s5 ⊢
   refine ⟨_,rfl,ad (1+(i:Int)),h (1+(i:Int)),rfl,s5 _ _ r4,r2,fun l' H6 s6 nl hl=>?_⟩
   have tab6:=tabS.same (s5.trans s6)
   have nlf:l'≠fd':=fun z=>by
    have:=s5 _ _ tabS.1
    rw [z,this] at nl; cases nl
   refine ⟨_,rfl,_,rfl,fd',_,rfl,DPut.k (k:=Sum.inl (1+(i:Int))) tab6.1 (small1000 (by rw [kv_len]; omega)),⟨_,_,rfl⟩,fun c o nc e=>?_,fun z=>if z=1+(i:Int) then l' else ad' z,?_,fun p p1 p2=>?_⟩
   ·rw [upd_ne nc]
    exact s6 _ _ (s5 _ _ (s4 c o nc e))
   ·rw [upd_same]
    show some (HO.dK (putK (kvN ad' i) (Sum.inl (1+(i:Int))) (.ref l')))=some (HO.dK (putK (kvN (fun z=>if z=1+(i:Int) then l' else ad' z) i) (Sum.inl (1+(i:Int))) (.ref (if 1+(i:Int)=1+(i:Int) then l' else ad' (1+(i:Int))))))
    rw [if_pos rfl,kv_congr (ad:=ad') (ad':=fun z=>if z=1+(i:Int) then l' else ad' z) i fun p p1 p2=>by rw [if_neg (by omega)]]
   ·have off:∀ {x:Addr} {zs:List (Int × Int)},TupL H6 x zs→x≠fd'→TupL (upd H6 fd' (.dK (putK (kvN ad' i) (Sum.inl (1+(i:Int))) (.ref l')))) x zs:=fun {x zs} tl nx=>by
     obtain ⟨us,e1,e2,e3⟩:=tl
     exact ⟨us,by rw [upd_ne nx]; exact e1,fun u hu=>by rw [upd_ne (fun z=>by have:=e2 u hu; rw [z,tab6.1] at this; cases this)]; exact e2 u hu,e3⟩
    show TupL (upd H6 fd' _) (if p=1+(i:Int) then l' else ad' p) (stairOf (h p))∧(stairOf (h p)).length≤12
    refine ⟨?_,stair_len _⟩
    by_cases e:p=1+(i:Int)
    ·rw [if_pos e,e]
     exact off hl nlf
    ·rw [if_neg e]
     have o1:=(tab6.2 p p1 (by omega)).1
     refine off o1 fun z=>?_
     obtain ⟨us,e1,_⟩:=o1
     rw [z,tab6.1] at e1; cases e1
  ·rintro σ H4 ⟨⟨x0,y0,rfl⟩,s4,ad',tabS⟩
   rw [kv_len] at tabS
   refine ⟨_,rfl,q fd' ad' h H4 (s1.trans fun c o e=>?_) tabS rows⟩
   have ncf:c≠fd':=ne_of_none e nf
   have ncd:c≠d:=fun z=>by
    have:=s2 _ _ e
    rw [z,nd] at this; cases this
   exact s4 c o ncf (by rw [upd_ne ncd]; exact s13 c o e)
theorem S_is_sheet:FnScope ["thing"] ["thing"] (defScope s_is_sheet):=⟨rfl,rfl,rfl,by decide +kernel,rfl,by decide +kernel,by decide +kernel⟩
theorem ok_is_sheet {f:Addr} {fd:FuncData} (F:Fun K "is_sheet" "is_sheet" s_is_sheet f fd) (T:Txt mg t1 t2 t3 t4 t5 t6) (D_is_side:DefOk P w K mg base 2 "is_side" ["thing"] sp_side):FnOk P w K mg base CX0 3 f fd ["thing"] sp_sheet:=by
 have S:=S_is_sheet
 refine F.ok S (fun vs H Q E h=>?_) (fun cdv A outer s H vs Q E hr h=>?_)
 ·obtain ⟨a,z,rfl,_⟩:=h; rfl
 ·obtain ⟨a,z,rfl,ha,⟨w1,w2,h1,h2⟩,q⟩:=h
  refine ⟨_,(pss_cons (ps_if (PW.pt (pw_or (pt_not (pt_val (pe_callB call_isin rfl T.z_isinstance rfl (pa_cons (pv 0) (pa_cons (pe_bltn (v:=.ty "tuple") rfl T.z_tuple rfl rfl) pa_nil))))) (pw_or1 (pt_cmpR op_ne (pe_callB call_len_seq rfl T.z_len rfl (pa_cons (pv 0) pa_nil)) pe_int (nomark _))))) (pss_one (ps_ret pe_bl)) pss_nil)
   (pss_one (ps_ret (pe_and (pe_fn D_is_side hr (pa_cons (pe_ix ix_tup (pv 0) pe_int (fun _ _=>rfl)) pa_nil)) (pe_one (pe_fn D_is_side hr (pa_cons (pe_ix ix_tup (pv 0) pe_int (fun _ _=>rfl)) pa_nil))))))),?_⟩
  refine ⟨_,rfl,.ref a,"tuple","tuple",rfl,ty_tup ha,.inr (.inr (.inl rfl)),_,rfl,ite3 (fun z=>absurd z (by decide)) (fun _=>?_)⟩
  refine ⟨_,rfl,a,_,rfl,.inr (SqT.of ha),rfl,_,rfl,iteN (show (!decide (V.int ((2:Nat):Int)=V.int 2))=false from by decide) ?_⟩
  exact ⟨_,rfl,a,_,_,_,rfl,rfl,SqT.of ha,at2_0,z.1,rfl,w1,w2,_,rfl,iteT ⟨_,rfl,a,_,_,_,rfl,rfl,SqT.of ha,at2_1,z.2,rfl,h1,h2,q⟩⟩
theorem S_check_sheets:FnScope ["sheets","place","sheet"] ["sheets"] (defScope s_check_sheets):=⟨rfl,rfl,rfl,by decide +kernel,rfl,by decide +kernel,by decide +kernel⟩
theorem ok_check_sheets {f:Addr} {fd:FuncData} (F:Fun K "check_sheets" "check_sheets" s_check_sheets f fd) (T:Txt mg t1 t2 t3 t4 t5 t6) (D_is_sheet:DefOk P w K mg base 3 "is_sheet" ["thing"] sp_sheet):FnOk P w K mg base CX0 4 f fd ["sheets"] sp_csheets:=by
 have S:=S_check_sheets
 refine F.ok S (fun vs H Q E h=>?_) (fun cdv A outer s H vs Q E hr h=>?_)
 ·obtain ⟨a,ss,rfl,_⟩:=h; rfl
 ·obtain ⟨a,ss,rfl,⟨ts,ha,ht,rfl⟩,l1,l2,so,q⟩:=h
  rw [List.length_map] at l1 l2
  refine ⟨_,(pss_cons (ps_if (pt_not (pt_chain op_le op_le pe_int (pe_callB call_len_seq rfl T.z_len rfl (pa_cons (pv 0) pa_nil)) (pe_glob (v:=.int 4) rfl T.g_MOST_SHEETS ⟨_,rfl⟩))) (pss_one ps_never) pss_nil)
   (pss_one (ps_for PassesOwn.never rfl (pi_enum rfl T.z_enumerate (pa_cons (pv 0) pa_nil)) (pg_tup rfl (pgs_cons (pg_name (i:=1) S.nd rfl (Or.inl rfl)) (pgs_cons (pg_name (i:=2) S.nd rfl (Or.inl rfl)) pgs_nil))) (pss_one (ps_if (pt_not (pt_val (pe_fn D_is_sheet hr (pa_cons (pv 2) pa_nil)))) (pss_one ps_never) pss_nil))))),?_⟩
  refine ⟨_,rfl,a,_,rfl,.inl (SqL.of ha),_,_,rfl,rfl,_,rfl,ite3 (fun _=>?_) (fun z=>absurd (of_decide_eq_false z) (by rw [refs_len]; omega))⟩
  refine ⟨_,_,rfl,rfl,_,rfl,iteN (show (!decide (((refs ts).length:Int)≤4))=false from by rw [decide_eq_true (by rw [refs_len]; omega)]; rfl) ?_⟩
  refine ⟨_,rfl,a,rfl,⟨_,SqL.of ha⟩,for_enum (K:=K) (a:=a) (xs:=refs ts) (fun i σ H'=>(∃ x y,σ=[some (.ref a),x,y])∧Same H H') ⟨⟨none,none,rfl⟩,Same.refl H⟩ (fun i σ H' _ hp=>SqL.of (hp.2 _ _ ha)) ?_ ?_⟩
  ·rintro i x σ H1 t hx ⟨⟨x0,y0,rfl⟩,s1⟩ nt
   obtain ⟨u,hu,rfl⟩:=refs_get hx
   have hm:=List.mem_of_getElem? hu
   have s2:Same H1 (upd H1 t (.tup [.int i,.ref u.1])):=Same.new nt
   refine ⟨t,_,rfl,SqT.of upd_same,rfl,_,_,rfl,_,_,rfl,rfl,_,rfl,u.1,u.2,rfl,s2 _ _ (s1 _ _ (ht u hm)),so _ (List.mem_map.mpr ⟨u,hm,rfl⟩),_,rfl,iteF ⟨⟨_,_,rfl⟩,s1.trans s2⟩⟩
  ·rintro σ H1 ⟨_,s1⟩
   exact q H1 s1
theorem S_heights_for:FnScope ["wants","sheets"] ["wants","sheets"] (defScope s_heights_for):=⟨rfl,rfl,rfl,by decide +kernel,rfl,by decide +kernel,by decide +kernel⟩
theorem ok_heights_for {f:Addr} {fd:FuncData} (F:Fun K "heights_for" "heights_for" s_heights_for f fd) (D_check_wants:DefOk P w K mg base 4 "check_wants" ["wants"] sp_check) (D_check_sheets:DefOk P w K mg base 4 "check_sheets" ["sheets"] sp_csheets) (D_all_bits:DefOk P w K mg base 1 "all_bits" ["wants"] sp_bits) (D_heights_of_parts:DefOk P w K mg base 5 "heights_of_parts" ["wants","bits"] sp_heights):FnOk P w K mg base CX0 6 f fd ["wants","sheets"] sp_hfor:=by
 have S:=S_heights_for
 refine F.ok S (fun vs H Q E h=>?_) (fun cdv A outer s H vs Q E hr h=>?_)
 ·obtain ⟨a,b,ws,ss,rfl,_⟩:=h; rfl
 ·obtain ⟨a,b,ws,ss,rfl,hw,few,ok,tb,l1,l2,so,q⟩:=h
  refine ⟨_,(pss_cons (ps_expr (pe_fn D_check_wants hr (pa_cons (pv 0) pa_nil)))
   (pss_cons (ps_expr (pe_fn D_check_sheets hr (pa_cons (pv 1) pa_nil)))
   (pss_one (ps_ret (pe_fn D_heights_of_parts hr (pa_cons (pv 0) (pa_cons (pe_fn D_all_bits hr (pa_cons (pv 0) pa_nil)) pa_nil))))))),?_⟩
  refine ⟨_,rfl,a,ws,rfl,hw,by omega,ok,fun H1 s1=>⟨_,rfl,b,ss,rfl,tb.same s1,l1,l2,so,fun H2 s2=>?_⟩⟩
  have hw2:=hw.same (s1.trans s2)
  obtain ⟨ts,ha,ht,hts⟩:=id hw2
  have tl:(refs ts).length=ws.length:=by rw [refs_len,← hts,List.length_map]
  have hb:(0:Int)≤1 * 2^((ws.length:Nat):Int).toNat - 1∧1 * 2^((ws.length:Nat):Int).toNat - 1≤((2^ws.length - 1:Nat):Int):=by
   have:∀ n:Nat,n≤6→(0:Int)≤1 * 2^((n:Nat):Int).toNat - 1∧1 * 2^((n:Nat):Int).toNat - 1≤((2^n - 1:Nat):Int):=by decide +kernel
   exact this _ few
  refine ⟨_,rfl,_,rfl,a,refs ts,rfl,ha,by omega,a,ws,1 * 2^((ws.length:Nat):Int).toNat - 1,by rw [tl]; rfl,hw2,few,hb.1,hb.2,fun d ad h H3 s3 nd hd3 row3 rows3=>?_⟩
  rw [full_ok ws.length (by omega)] at hd3 row3 rows3
  rw [kvL_upto] at hd3
  exact q d ad h H3 (s1.trans (s2.trans s3)) (wasNone (s1.trans s2) nd) ⟨hd3,fun p p1 p2=>row3 p (mem_upto.mpr ⟨p1,p2⟩)⟩ fun p p1 p2=>rows3 p (mem_upto.mpr ⟨p1,p2⟩)
theorem S_cheapest_sheets:FnScope ["heights","sheets","cheapest","bits","least","large"] ["heights","sheets"] (defScope s_cheapest_sheets):=⟨rfl,rfl,rfl,by decide +kernel,rfl,by decide +kernel,by decide +kernel⟩
theorem ChpS.put {H:Hp} {c:Addr} {i:Nat} {h:Int→List Int} {ss:List (Int × Int)} {kvs:List (Key × V)} {t:Addr} {m x:Int} (hl:kvs.length≤i) (h0:∀ q:Int,q < 1∨(i:Int) < q→valV kvs (Sum.inl q)=none)
  (h1:∀ q:Int,1≤q→q≤i→(cost (h q) ss=none∧valV kvs (Sum.inl q)=none)∨∃ (m:Int) (a:Addr) (y:Int),cost (h q) ss=some m∧valV kvs (Sum.inl q)=some (.ref a)∧H a=some (.tup [.int m,.int y])∧ShOk (h q) ss (m,y)) (hc:H c=some (.dK kvs)) (e:cost (h (1+(i:Int))) ss=some m) (ht:H t=some (.tup [.int m,.int x])) (sh:ShOk (h (1+(i:Int))) ss (m,x)) :
  ChpS (upd H c (.dK (putK kvs (Sum.inl (1+(i:Int))) (.ref t)))) c (i+1) h ss:=by
 have off:∀ {a:Addr} {xs:List V},H a=some (.tup xs)→(upd H c (.dK (putK kvs (Sum.inl (1+(i:Int))) (.ref t)))) a=some (.tup xs):=fun {a xs} e=>by rw [upd_ne (fun z=>by rw [z,hc] at e; cases e)]; exact e
 refine ⟨_,upd_same,?_,fun q hq=>?_,fun q q1 q2=>?_⟩
 ·have z:valV kvs (Sum.inl (1+(i:Int)))=none:=h0 _ (.inr (by omega))
  have e:(kvs.any fun kv=>decide (kv.1=Sum.inl (1+(i:Int))))=false:=by rw [valV_any,z]; rfl
  unfold putK
  rw [e,if_neg Bool.false_ne_true,List.length_append,List.length_singleton]
  omega
 ·rw [valV_put,if_neg (fun z=>by have:=Sum.inl.inj z; omega)]
  exact h0 q (by omega)
 ·rw [valV_put]
  by_cases eq:q=1+(i:Int)
  ·rw [if_pos (by rw [eq]),eq]
   exact .inr ⟨m,t,x,e,rfl,off ht,sh⟩
  ·rw [if_neg (fun z=>eq (Sum.inl.inj z))]
   rcases h1 q q1 (by omega) with z | ⟨m',a',x',z1,z2,z3,z4⟩
   ·exact .inl z
   ·exact .inr ⟨m',a',x',z1,z2,off z3,z4⟩
theorem ok_cheapest_sheets {f:Addr} {fd:FuncData} (F:Fun K "cheapest_sheets" "cheapest_sheets" s_cheapest_sheets f fd) (T:Txt mg t1 t2 t3 t4 t5 t6):FnOk P w K mg base CX0 1 f fd ["heights","sheets"] sp_cheap:=by
 have S:=S_cheapest_sheets
 refine F.ok S (fun vs H Q E h=>?_) (fun cdv A outer s H vs Q E hr h=>?_)
 ·obtain ⟨d,b,ss,n,ad,h,rfl,_⟩:=h; rfl
 ·obtain ⟨d,b,ss,n,ad,h,rfl,tab,hn,tb,l2,so,q⟩:=h
  have hu:=hu_of hr
  refine ⟨_,(pss_cons (ps_set (i:=2) S.nd rfl (Or.inl rfl) pe_dnewK)
   (pss_cons (ps_for PassesOwn.never rfl (pi_items (pv 0)) (pg_tup rfl (pgs_cons (pg_name (i:=3) S.nd rfl (Or.inl rfl)) (pgs_cons (pg_name (i:=4) S.nd rfl (Or.inr rfl)) pgs_nil))) (pss_cons (ps_setCompF rfl (pg_name (i:=5) S.nd rfl (Or.inl rfl)) (pi_enum rfl T.z_enumerate (pa_cons (pv 1) pa_nil)) (fun _ _ _ _ _=>(pg_tupK (K:=K) (n:=2) rfl (pgs_cons (pg_name (i:=0) (show List.Nodup (["number","size","least"]:List Str) from by decide +kernel) rfl (Or.inl rfl)) (pgs_cons (pg_name (i:=1) (show List.Nodup (["number","size","least"]:List Str) from by decide +kernel) rfl (Or.inl rfl)) pgs_nil)))) (fun _ _ _ _ _=>(pt_cmpR op_le (pe_ix (ix_listK (K:=K)) (pv 2) (pe_ix (ix_tupK (K:=K)) (pv 1) pe_int (fun _ _=>rfl)) (fun _ _=>rfl)) (pe_ix (ix_tupK (K:=K)) (pv 1) pe_int (fun _ _=>rfl)) (nomark _))) (fun _ _ _ _ _=>(pe_tup (pa_cons (pe_op op_mulL (pe_ix (ix_tupK (K:=K)) (pv 1) pe_int (fun _ _=>rfl)) (pe_ix (ix_tupK (K:=K)) (pv 1) pe_int (fun _ _=>rfl))) (pa_cons (pv 0) pa_nil)))) (N:=["number","size","least"]) (fr:=[none,none,some 4]))
   (pss_one (ps_if (pt_truth (pv 5) (fun _=>rfl)) (pss_one (ps_dput hu (pv 2) (pv 3) (pe_callB (call_minT hu) rfl T.z_min rfl (pa_cons (pv 5) pa_nil)) rfl)) pss_nil))))
   (pss_one (ps_ret (pv 2))))),?_⟩
  refine fun c nc=>?_
  have s1:Same H (upd H c (.dK [])):=Same.new nc
  have ec:(upd H c (.dK [])) c=some (.dK []):=upd_same
  have ncd:d≠c:=ne_of_none tab.1 nc
  have tab1:=tab.same s1
  obtain ⟨ts,hb,ht,rfl⟩:=tb.same s1
  rw [List.length_map] at l2
  generalize upd H c (.dK [])=H1 at s1 ec tab1 hb ht ⊢
  refine ⟨_,rfl,d,_,rfl,tab1.1,fun ob=>for_items (a:=d) (ob:=ob) (kvs:=kvN ad n) (fun i σ H'=>(∃ x y z,σ=[some (.ref d),some (.ref b),some (.ref c),x,y,z])∧SameX c (upd H1 d (.frz ob (.dK (kvN ad n)))) H'∧ChpS H' c i h (ts.map (·.2)))
   ⟨⟨none,none,none,rfl⟩,SameX.refl,[],by rw [upd_ne (Ne.symm ncd)]; exact ec,Nat.le_refl _,fun q _=>rfl,fun q a b=>by omega⟩ (fun i σ H' _ hp=>hp.2.1 _ _ ncd upd_same) ?_ ?_⟩
  ·rintro i p σ H4 t hp ⟨⟨x0,y0,z0,rfl⟩,s4,chp⟩ nt
   obtain ⟨hi,rfl⟩:=kv_get hp
   obtain ⟨r1,r2⟩:=tab1.2 (1+(i:Int)) (by omega) (by omega)
   have keep:∀ {x:Addr} {o:HO},H1 x=some o→(∀ kvs,o≠.dK kvs)→H4 x=some o:=fun {x o} e no=>s4 _ _ (fun z=>by rw [z,ec] at e; exact no _ (Option.some.inj e).symm) (by rw [upd_ne (fun z=>by rw [z,tab1.1] at e; exact no _ (Option.some.inj e).symm)]; exact e)
   have s5:Same H4 (upd H4 t (.tup [kV (Sum.inl (1+(i:Int))),.ref (ad (1+(i:Int)))])):=Same.new nt
   refine ⟨t,_,rfl,SqT.of upd_same,rfl,_,_,rfl,_,_,rfl,rfl,?_⟩
   generalize upd H4 t (.tup [kV (Sum.inl (1+(i:Int))),.ref (ad (1+(i:Int)))])=H5 at s5 ⊢
   have r5:=s5 _ _ (keep r1 (fun kvs z=>nomatch z))
   have hb5:=s5 _ _ (keep hb (fun kvs z=>nomatch z))
   have ht5:=fun u hu'=>s5 _ _ (keep (ht u hu') (fun kvs z=>nomatch z))
   have chp5:=chp.same s5
   have sz:(refs ts).length≤sizeLine:=Nat.le_of_lt (small1000 (by rw [refs_len]; omega))
   refine ⟨_,rfl,b,rfl,⟨_,SqL.of hb5⟩,fun acc na=>comp_enumF (K:=K) (a:=b) (ys:=refs ts) (fun j zs σ H'=>(∃ y0 y1,σ=[y0,y1,some (.ref (ad (1+(i:Int))))])∧Same H5 H'∧∃ us:List (Addr × Int × Int),zs=refs us∧(∀ u∈us,(H' u.1=some (.tup [.int u.2.1,.int u.2.2])∧ShOk (h (1+(i:Int))) (ts.map (·.2)) u.2)∧u.1≠acc)∧us.map (·.2.1)=(((ts.map (·.2)).take j).filter (serves (h (1+(i:Int))))).map area)
    ⟨⟨none,none,rfl⟩,Same.new na,[],rfl,(fun u hu'=>nomatch hu'),rfl⟩ (fun j zs σ H' _ _ hp=>SqL.of (hp.2.1 _ _ hb5)) ?_ ?_⟩
   ·rintro j x t2 zs σ H6 hx hj hl ha ⟨⟨y0,y1,rfl⟩,s6,us,rfl,hus,hm⟩ nt2
    obtain ⟨u,hu',rfl⟩:=refs_get hx
    have um:=List.mem_of_getElem? hu'
    obtain ⟨g1,g2,g3,g4⟩:=so u.2 (List.mem_map.mpr ⟨u,um,rfl⟩)
    have s7:Same H6 (upd H6 t2 (.tup [.int j,.ref u.1])):=Same.new nt2
    have ha7:=s7 _ _ ha
    refine ⟨t2,_,rfl,SqT.of upd_same,rfl,_,_,rfl,_,_,rfl,rfl,?_⟩
    generalize upd H6 t2 (.tup [.int j,.ref u.1])=H7 at s7 ha7 ⊢
    have u7:=s7 _ _ (s6 _ _ (ht5 u um))
    have r7:=s7 _ _ (s6 _ _ r5)
    have a1:=at_rat (r:=h (1+(i:Int))) (i:=u.2.1) (by omega) (by omega)
    have tk1:(ts.map (·.2)).take (j+1)=(ts.map (·.2)).take j++[u.2]:=by rw [List.take_succ,List.getElem?_map,hu']; rfl
    have hus7:∀ v∈us,(H7 v.1=some (.tup [.int v.2.1,.int v.2.2])∧ShOk (h (1+(i:Int))) (ts.map (·.2)) v.2)∧v.1≠acc:=fun v hv=>⟨⟨s7 _ _ (hus v hv).1.1,(hus v hv).1.2⟩,(hus v hv).2⟩
    cases c2:serves (h (1+(i:Int))) u.2 with
    | true =>
     refine ⟨_,rfl,_,rfl,u.1,_,_,_,rfl,rfl,SqT.of u7,at2_0,ad (1+(i:Int)),_,_,_,rfl,rfl,SqL.of r7,a1,_,rfl,u.1,_,_,_,rfl,rfl,SqT.of u7,at2_1,_,_,rfl,rfl,true,congrArg V.bl c2,?_⟩
     refine ⟨_,rfl,u.1,_,_,_,rfl,rfl,SqT.of u7,at2_0,_,rfl,u.1,_,_,_,rfl,rfl,SqT.of u7,at2_1,_,_,rfl,rfl,mul64 (by omega) (by omega) (by omega) (by omega),_,rfl,lenOk 2,fun t3 nt3=>?_⟩
     have nta:t3≠acc:=fun z=>by rw [z,ha7] at nt3; cases nt3
     have s8:Same H7 (upd H7 t3 (.tup [.int (u.2.1 * u.2.2),.int j])):=Same.new nt3
     refine fNx.mk sz hj hl (s8 _ _ ha7) ⟨⟨_,_,rfl⟩,fun x o e=>by rw [upd_ne (ne_of_none e na)]; exact s8 _ _ (s7 _ _ (s6 x o e)),us++[(t3,u.2.1 * u.2.2,(j:Int))],by rw [refs,refs,List.map_append]; rfl,fun v hv=>?_,?_⟩
     ·rcases List.mem_append.mp hv with hv | hv
      ·exact ⟨⟨by rw [upd_ne (hus7 v hv).2]; exact s8 _ _ (hus7 v hv).1.1,(hus7 v hv).1.2⟩,(hus7 v hv).2⟩
      ·rw [List.mem_singleton.mp hv]
       exact ⟨⟨by rw [upd_ne nta]; exact upd_same,j,u.2,rfl,by rw [List.getElem?_map,hu']; rfl,c2,rfl⟩,nta⟩
     ·rw [tk1,List.filter_append,List.filter_cons,if_pos c2,List.map_append,List.map_append,hm]; rfl
    | false =>
     refine ⟨_,rfl,_,rfl,u.1,_,_,_,rfl,rfl,SqT.of u7,at2_0,ad (1+(i:Int)),_,_,_,rfl,rfl,SqL.of r7,a1,_,rfl,u.1,_,_,_,rfl,rfl,SqT.of u7,at2_1,_,_,rfl,rfl,false,congrArg V.bl c2,fSk.mk hj hl ha7 ⟨⟨_,_,rfl⟩,s6.trans s7,us,rfl,hus7,?_⟩⟩
     rw [tk1,List.filter_append,List.filter_cons,if_neg (by rw [c2]; exact Bool.false_ne_true),List.map_append,hm]
     simp
   ·rintro zs σ H6 hl ha ⟨_,s6,us,rfl,hus,hm⟩
    rw [refs_len,← List.length_map (f:=(·.2)) (as:=ts),List.take_length] at hm
    have chp6:=chp5.same s6
    obtain ⟨kvs,c1,c2,c3,c4⟩:=id chp6
    have s46:Same H4 H6:=s5.trans s6
    have stay:SameX c (upd H1 d (.frz ob (.dK (kvN ad n)))) H6:=fun x o nx e=>s46 _ _ (s4 x o nx e)
    refine ⟨_,rfl,_,.inl ⟨_,SqL.of ha,rfl⟩,?_⟩
    cases us with
    | nil =>
     refine iteN rfl ⟨⟨_,_,_,rfl⟩,stay,kvs,c1,by omega,fun q hq=>c3 q (by omega),fun q q1 q2=>?_⟩
     by_cases e:q=1+(i:Int)
     ·refine .inl ⟨?_,c3 q (by omega)⟩
      show cost (h q) (ts.map (·.2))=none
      unfold cost
      rw [e,← hm]; rfl
     ·exact c4 q q1 (by omega)
    | cons u0 us =>
     refine iteP rfl ⟨_,rfl,acc,u0 :: us,rfl,SqL.of ha,rfl,(fun z=>nomatch z),fun u hu'=>(hus u hu').1.1,fun u hu' least=>?_⟩
     have e:cost (h (1+(i:Int))) (ts.map (·.2))=some u.2.1:=by
      unfold cost
      rw [← hm]
      refine minO_of (List.mem_map.mpr ⟨u,hu',rfl⟩) fun y hy=>?_
      obtain ⟨v,hv,rfl⟩:=List.mem_map.mp hy
      exact least v hv
     exact ⟨_,rfl,_,rfl,c,_,rfl,DPut.k (k:=Sum.inl (1+(i:Int))) c1 (small1000 (by omega)),⟨_,_,_,rfl⟩,fun x o nx e=>by rw [upd_ne nx]; exact stay x o nx e,ChpS.put c2 c3 c4 c1 e (hus u hu').1.1 (hus u hu').1.2⟩
  ·rintro σ H4 ⟨⟨x0,y0,z0,rfl⟩,s4,chp⟩
   rw [kv_len] at chp
   exact ⟨_,rfl,q c H4 (fun x o nx e=>s4 x o (ne_of_none e nc) (by rw [upd_ne nx]; exact s1 x o e)) (.inr ⟨ob,s4 _ _ ncd upd_same⟩) nc chp⟩
theorem S_first_sheets:FnScope ["cheapest","glass","bits","parts"] ["cheapest","glass","bits"] (defScope s_first_sheets):=⟨rfl,rfl,rfl,by decide +kernel,rfl,by decide +kernel,by decide +kernel⟩
theorem S_glass_by_set:FnScope ["cheapest","bits","glass","part","ways"] ["cheapest","bits"] (defScope s_glass_by_set):=⟨rfl,rfl,rfl,by decide +kernel,rfl,by decide +kernel,by decide +kernel⟩
theorem S_least_glass:FnScope ["wants","sheets","heights"] ["wants","sheets"] (defScope s_least_glass):=⟨rfl,rfl,rfl,by decide +kernel,rfl,by decide +kernel,by decide +kernel⟩
theorem Chp.is {H:Hp} {c:Addr} {n:Nat} {co:Int→Option Int} (h:Chp H c n co):∃ kvs:List (Key × V),H c=some (.dK kvs)∧∀ q:Int,1≤q→q≤n→(valV kvs (Sum.inl q)).isSome=(co q).isSome∧∀ m,co q=some m→∃ a x,valV kvs (Sum.inl q)=some (.ref a)∧H a=some (.tup [.int m,x]):=by
 obtain ⟨kvs,a,_,_,e⟩:=h
 refine ⟨kvs,a,fun q q1 q2=>?_⟩
 rcases e q q1 q2 with ⟨z1,z2⟩ | ⟨m,a',x,z1,z2,z3⟩
 ·rw [z1,z2]
  exact ⟨rfl,fun m hm=>nomatch hm⟩
 ·rw [z1,z2]
  exact ⟨rfl,fun m' hm=>by cases hm; exact ⟨a',x,rfl,z3⟩⟩
theorem filt_ways {co G:Int→Option Int} {b:Int}:∀ l:List Int,(l.filter fun p=>(co p).isSome).filterMap (wayOf co G b)=l.filterMap (wayOf co G b)
 | []=>rfl
 | p :: l=>by
  cases e:co p with
  | none =>
   have w0:wayOf co G b p=none:=by unfold wayOf; rw [e]
   rw [List.filter_cons,if_neg (by rw [e]; exact Bool.false_ne_true),filt_ways l,List.filterMap_cons,w0]
  | some c =>
   rw [List.filter_cons,if_pos (by rw [e]; rfl),List.filterMap_cons,List.filterMap_cons,filt_ways l]
theorem way_some {co G:Int→Option Int} {b p c g:Int} (e:co p=some c) (e2:G (b - p)=some g):wayOf co G b p=some (c+g,p):=by unfold wayOf; rw [e]; simp only [e2]
theorem way_none {co G:Int→Option Int} {b p c:Int} (e:co p=some c) (e2:G (b - p)=none):wayOf co G b p=none:=by unfold wayOf; rw [e]; simp only [e2]
theorem in_parts {b p:Int} (b1:1≤b) (h:p∈plist b++[b]):1≤p∧p≤b:=by
 rcases List.mem_append.mp h with h | h
 ·have:=mem_plist h; omega
 ·rw [List.mem_singleton.mp h]; omega
theorem filterMap_ext {α β:Type} {f g:α→Option β}:∀ {l:List α},(∀ x∈l,f x=g x)→l.filterMap f=l.filterMap g
 | [],_=>rfl
 | x :: l,h=>by rw [List.filterMap_cons,List.filterMap_cons,h x (by simp),filterMap_ext fun y hy=>h y (by simp [hy])]
theorem ways_congr {co G G':Int→Option Int} {b:Int} (b1:1≤b) (h:∀ x,0≤x→x < b→G x=G' x):waysL co G b=waysL co G' b:=by
 unfold waysL
 refine filterMap_ext fun p hp=>?_
 obtain ⟨p1,p2⟩:=in_parts b1 hp
 unfold wayOf
 rw [h (b - p) (by omega) (by omega)]
theorem ok_first_sheets {f:Addr} {fd:FuncData} (F:Fun K "first_sheets" "first_sheets" s_first_sheets f fd) (D_parts_with_least:DefOk P w K mg base 2 "parts_with_least" ["bits"] sp_least):FnOk P w K mg base CX0 3 f fd ["cheapest","glass","bits"] sp_first:=by
 have S:=S_first_sheets
 refine F.ok S (fun vs H Q E h=>?_) (fun cdv A outer s H vs Q E hr h=>?_)
 ·obtain ⟨c,g,n,i,n0,co,G,rfl,_⟩:=h; rfl
 ·obtain ⟨c,g,n,i,n0,co,G,rfl,chp,hn,hi,hi0,hg,q⟩:=h
  have hu:=hu_of hr
  have b1:(1:Int)≤1+(i:Int):=by omega
  have bn:1+(i:Int)≤n:=by omega
  have bi:1+(i:Int) - 1≤(i:Int):=by omega
  generalize hbe:1+(i:Int)=b at b1 bn bi q ⊢
  refine ⟨_,(pss_cons (ps_setCompF rfl (pg_name (i:=3) S.nd rfl (Or.inl rfl)) (pi_list (pe_op op_cat (pe_fn D_parts_with_least hr (pa_cons (pv 2) pa_nil)) (pe_lst (pa_cons (pv 2) pa_nil)))) (fun _ _ _ _ _=>(pg_name (i:=0) (show List.Nodup (["part","cheapest"]:List Str) from by decide +kernel) rfl (Or.inl rfl))) (fun _ _ _ _ _=>(pt_cmp (pc_din hu (pv 0) (pv 1)))) (fun _ _ _ _ _=>(pv 0)) (N:=["part","cheapest"]) (fr:=[none,some 0]))
   (pss_one (ps_ret (pe_compF rfl (pi_list (pv 3)) (fun _ _ _ _ _=>(pg_name (i:=0) (show List.Nodup (["part","glass","cheapest","bits"]:List Str) from by decide +kernel) rfl (Or.inl rfl))) (fun _ _ _ _ _=>(pt_cmpR op_notN (pe_dget hu (pv 1) (pe_op op_sub (pv 3) (pv 0)) (fun _ _=>rfl)) pe_non (nomark _))) (fun _ _ _ _ _=>(pe_tup (pa_cons (pe_op op_add (pe_ix (ix_tupK (K:=K)) (pe_dget hu (pv 2) (pv 0) (fun _ _=>rfl)) pe_int (fun _ _=>rfl)) (pe_dget hu (pv 1) (pe_op op_sub (pv 3) (pv 0)) (fun _ _=>rfl))) (pa_cons (pv 0) pa_nil)))) (N:=["part","glass","cheapest","bits"]) (fr:=[none,some 1,some 0,some 2]))))),?_⟩
  refine ⟨_,rfl,b,rfl,by omega,by omega,fun pl H1 s1 npl hpl=>?_⟩
  refine ⟨_,rfl,lenOk 1,fun l1 nl1=>?_⟩
  have s2:Same H1 (upd H1 l1 (.lst [.int b])):=Same.new nl1
  have e2:(upd H1 l1 (.lst [.int b])) l1=some (.lst [.int b]):=upd_same
  generalize upd H1 l1 (.lst [.int b])=H2 at s2 e2 ⊢
  have pll:=plist_len b
  refine ⟨pl,l1,_,_,rfl,rfl,s2 _ _ hpl,e2,Nat.le_of_lt (small1000 (by rw [List.length_map,List.length_singleton]; omega)),fun r nr=>?_⟩
  have s3:Same H2 (upd H2 r (.lst ((plist b).map V.int++[.int b]))):=Same.new nr
  have e3:(upd H2 r (.lst ((plist b).map V.int++[.int b]))) r=some (.lst ((plist b++[b]).map V.int)):=by rw [upd_same,List.map_append]; rfl
  generalize upd H2 r (.lst ((plist b).map V.int++[.int b]))=H3 at s3 e3 ⊢
  have s03:Same H H3:=s1.trans (s2.trans s3)
  obtain ⟨kvs,c1,c2⟩:=(chp.same s03).is
  have sz:((plist b++[b]).map V.int).length≤sizeLine:=Nat.le_of_lt (small1000 (by rw [List.length_map,List.length_append,List.length_singleton]; omega))
  refine ⟨r,rfl,⟨_,SqL.of e3⟩,fun acc na=>comp_listF (K:=K) (a:=r) (ys:=(plist b++[b]).map V.int) (fun j zs σ H'=>(∃ y,σ=[y,some (.ref c)])∧Same H3 H'∧zs=(((plist b++[b]).take j).filter fun p=>(co p).isSome).map V.int) ⟨⟨none,rfl⟩,Same.new na,rfl⟩ (fun j zs σ H' _ _ hp=>SqL.of (hp.2.1 _ _ e3)) ?_ ?_⟩
  ·rintro j x zs σ H4 hx hj hl ha ⟨⟨y,rfl⟩,s4,hz⟩
   obtain ⟨p,hp,rfl⟩:=ints_get hx
   obtain ⟨p1,p2⟩:=in_parts b1 (List.mem_of_getElem? hp)
   have tk1:(plist b++[b]).take (j+1)=(plist b++[b]).take j++[p]:=by rw [List.take_succ,hp]; rfl
   have is:=(c2 p p1 (by omega)).1
   cases e:(co p).isSome with
   | true =>
    refine ⟨_,rfl,_,rfl,c,_,rfl,DGet.k (k:=Sum.inl p) (s4 _ _ c1),true,congrArg V.bl (is.trans e),_,rfl,fNx.mk sz hj hl ha ⟨⟨_,rfl⟩,fun d o h=>by rw [upd_ne (ne_of_none h na)]; exact s4 d o h,?_⟩⟩
    rw [tk1,List.filter_append,List.filter_cons,if_pos e,List.map_append,hz]; rfl
   | false =>
    refine ⟨_,rfl,_,rfl,c,_,rfl,DGet.k (k:=Sum.inl p) (s4 _ _ c1),false,congrArg V.bl (is.trans e),fSk.mk hj hl ha ⟨⟨_,rfl⟩,s4,?_⟩⟩
    rw [tk1,List.filter_append,List.filter_cons,if_neg (by rw [e]; exact Bool.false_ne_true),hz]
    exact congrArg (List.map V.int) (List.append_nil _).symm
  ·rintro zs σ H4 hl ha ⟨_,s4,hz⟩
   rw [List.length_map,List.take_length] at hz
   subst hz
   have hpe:∀ p∈(plist b++[b]).filter (fun p=>(co p).isSome),p∈plist b++[b]∧(co p).isSome=true:=fun p hp=>List.mem_filter.mp hp
   have hle:((plist b++[b]).filter fun p=>(co p).isSome).length≤64:=Nat.le_trans (List.length_filter_le _ _) (by rw [List.length_append,List.length_singleton]; omega)
   have fw:=filt_ways (co:=co) (G:=G) (b:=b) (plist b++[b])
   generalize ((plist b++[b]).filter fun p=>(co p).isSome)=ps at ha hpe hle fw ⊢
   have s04:Same H H4:=s03.trans s4
   have sz2:(ps.map V.int).length≤sizeLine:=Nat.le_of_lt (small1000 (by rw [List.length_map]; omega))
   refine ⟨_,rfl,acc,rfl,⟨_,SqL.of ha⟩,fun acc2 na2=>comp_listF (K:=K) (a:=acc) (ys:=ps.map V.int) (fun j zs σ H'=>(∃ y,σ=[y,some (.ref g),some (.ref c),some (.int b)])∧Same H4 H'∧∃ us:List (Addr × Int × Int),zs=refs us∧(∀ u∈us,H' u.1=some (.tup [.int u.2.1,.int u.2.2])∧u.1≠acc2)∧us.map (·.2)=(ps.take j).filterMap (wayOf co G b))
    ⟨⟨none,rfl⟩,Same.new na2,[],rfl,(fun u hu'=>nomatch hu'),rfl⟩ (fun j zs σ H' _ _ hp=>SqL.of (hp.2.1 _ _ ha)) ?_ ?_⟩
   ·rintro j x zs σ H5 hx hj hl5 ha5 ⟨⟨y,rfl⟩,s5,us,rfl,hus,hm⟩
    obtain ⟨p,hp,rfl⟩:=ints_get hx
    obtain ⟨pm,pi⟩:=hpe p (List.mem_of_getElem? hp)
    obtain ⟨p1,p2⟩:=in_parts b1 pm
    obtain ⟨m,em⟩:=Option.isSome_iff_exists.mp pi
    have tk1:ps.take (j+1)=ps.take j++[p]:=by rw [List.take_succ,hp]; rfl
    have dg:DGet H5 g (.int (b - p)) (some (gv (G (b - p)))):=by
     have:=DGet.k (k:=Sum.inl (b - p)) (s5 _ _ (s04 _ _ hg))
     rw [gk_val,if_pos (by omega)] at this
     exact this
    cases eg:G (b - p) with
    | none =>
     rw [eg] at dg
     refine ⟨_,rfl,_,rfl,_,rfl,_,_,rfl,rfl,g,_,rfl,dg,rfl,false,rfl,fSk.mk hj hl5 ha5 ⟨⟨_,rfl⟩,s5,us,rfl,hus,?_⟩⟩
     rw [tk1,List.filterMap_append,List.filterMap_cons,way_none em eg,hm]
     exact (List.append_nil _).symm
    | some gg =>
     rw [eg] at dg
     obtain ⟨a,x,v1,v2⟩:=(c2 p p1 (by omega)).2 m em
     have dc:DGet H5 c (.int p) (some (.ref a)):=by
      have:=DGet.k (k:=Sum.inl p) (s5 _ _ (s4 _ _ c1))
      rw [v1] at this
      exact this
     refine ⟨_,rfl,_,rfl,_,rfl,_,_,rfl,rfl,g,_,rfl,dg,rfl,true,rfl,?_⟩
     refine ⟨_,rfl,_,rfl,c,_,rfl,dc,a,_,_,_,rfl,rfl,SqT.of (s5 _ _ (s4 _ _ v2)),at2_0,_,rfl,_,rfl,_,rfl,_,_,rfl,rfl,g,_,rfl,dg,_,_,rfl,rfl,_,rfl,lenOk 2,fun t nt=>?_⟩
     have nta:t≠acc2:=fun z=>by rw [z,ha5] at nt; cases nt
     have s6:Same H5 (upd H5 t (.tup [.int (m+gg),.int p])):=Same.new nt
     refine fNx.mk sz2 hj hl5 (s6 _ _ ha5) ⟨⟨_,rfl⟩,fun d o h=>by rw [upd_ne (ne_of_none h na2)]; exact s6 _ _ (s5 d o h),us++[(t,m+gg,p)],by rw [refs,refs,List.map_append]; rfl,fun u hu'=>?_,?_⟩
     ·rcases List.mem_append.mp hu' with hu' | hu'
      ·obtain ⟨e,n⟩:=hus u hu'
       exact ⟨by rw [upd_ne n]; exact s6 _ _ e,n⟩
      ·rw [List.mem_singleton.mp hu']
       exact ⟨by rw [upd_ne nta]; exact upd_same,nta⟩
     ·rw [tk1,List.filterMap_append,List.filterMap_cons,way_some em eg,List.map_append,hm]; rfl
   ·rintro zs σ H5 hl5 ha5 ⟨_,s5,us,rfl,hus,hm⟩
    rw [List.length_map,List.take_length,fw] at hm
    exact q acc2 H5 (s04.trans s5) (wasNone s04 na2) ⟨us,ha5,fun u hu'=>(hus u hu').1,hm⟩
theorem ok_glass_by_set {f:Addr} {fd:FuncData} (F:Fun K "glass_by_set" "glass_by_set" s_glass_by_set f fd) (T:Txt mg t1 t2 t3 t4 t5 t6) (D_all_parts:DefOk P w K mg base 1 "all_parts" ["bits"] sp_parts) (D_first_sheets:DefOk P w K mg base 3 "first_sheets" ["cheapest","glass","bits"] sp_first):FnOk P w K mg base CX0 4 f fd ["cheapest","bits"] sp_glass:=by
 have S:=S_glass_by_set
 refine F.ok S (fun vs H Q E h=>?_) (fun cdv A outer s H vs Q E hr h=>?_)
 ·obtain ⟨c,k,co,rfl,_⟩:=h; rfl
 ·obtain ⟨c,k,co,rfl,hk,chp,q⟩:=h
  have hu:=hu_of hr
  have full:=full_ok k (by omega)
  have hb:0≤(1 * 2^((k:Nat):Int).toNat - 1:Int)∧1 * 2^((k:Nat):Int).toNat - 1≤(63:Int)∧2^k - 1≤63:=by
   have:∀ n:Nat,n≤6→0≤(1 * 2^((n:Nat):Int).toNat - 1:Int)∧1 * 2^((n:Nat):Int).toNat - 1≤(63:Int)∧2^n - 1≤63:=by decide +kernel
   exact this _ hk
  obtain ⟨hb0,hb1,hb2⟩:=hb
  generalize 2^k - 1=n at full hb2 chp q
  generalize (1 * 2^((k:Nat):Int).toNat - 1:Int)=b at full hb0 hb1
  refine ⟨_,(pss_cons (ps_set (i:=2) S.nd rfl (Or.inl rfl) (pe_disp (pps_cons pe_int pe_int pps_nil) rfl rfl (by decide) (by decide)))
   (pss_cons (ps_for PassesOwn.never rfl (pi_list (pe_fn D_all_parts hr (pa_cons (pv 1) pa_nil))) (pg_name (i:=3) S.nd rfl (Or.inl rfl)) (pss_cons (ps_set (i:=4) S.nd rfl (Or.inl rfl) (pe_fn D_first_sheets hr (pa_cons (pv 0) (pa_cons (pv 2) (pa_cons (pv 3) pa_nil)))))
   (pss_one (ps_dput hu (pv 2) (pv 3) (pe_ifExp (pt_truth (pv 4) (fun _=>rfl)) (pe_ix ix_tup (pe_callB (call_minT hu) rfl T.z_min rfl (pa_cons (pv 4) pa_nil)) pe_int (fun _ _=>rfl)) pe_non) rfl))))
   (pss_one (ps_ret (pv 2))))),?_⟩
  refine fun g ng=>⟨upd_same,[(Sum.inl 0,.int 0)],rfl,by decide,?_⟩
  have s1:Same H (upd (upd H g (.dK [])) g (.dK (mergeK [] [(Sum.inl 0,.int 0)]))):=fun x o e=>by rw [upd_ne (ne_of_none e ng),upd_ne (ne_of_none e ng)]; exact e
  have eg:(upd (upd H g (.dK [])) g (.dK (mergeK [] [(Sum.inl 0,.int 0)]))) g=some (.dK (gkv (fun _=>some 0) 0)):=upd_same
  generalize upd (upd H g (.dK [])) g (.dK (mergeK [] [(Sum.inl 0,.int 0)]))=H1 at s1 eg ⊢
  refine ⟨_,rfl,b,rfl,hb0,hb1,fun pl H2 s2 npl hpl=>?_⟩
  rw [full] at hpl
  have ngp:pl≠g:=fun z=>by rw [z,eg] at npl; cases npl
  have chp2:=chp.same (s1.trans s2)
  have off:∀ {H':Hp},SameX g H2 H'→H' g≠none→Chp H' c n co:=fun {H'} sx hx=>by
   obtain ⟨kvs,a1,a2,a3,a4⟩:=chp
   have st:Same H H':=sx.same (s1.trans s2) ng
   exact Chp.same ⟨kvs,a1,a2,a3,a4⟩ st
  refine ⟨pl,rfl,⟨_,SqL.of hpl⟩,for_list (K:=K) (a:=pl) (xs:=(upto n).map V.int) (fun i σ H'=>(∃ x y,σ=[some (.ref c),some (.int b),some (.ref g),x,y])∧SameX g H2 H'∧∃ G,H' g=some (.dK (gkv G i))∧GlassP co G i)
   ⟨⟨none,none,rfl⟩,SameX.refl,(fun _=>some 0),s2 _ _ eg,rfl,fun x x1 x2=>by omega⟩ (fun i σ H' _ hp=>SqL.of (hp.2.1 _ _ ngp hpl)) ?_ ?_⟩
  ·rintro i x σ H3 hx ⟨⟨x0,y0,rfl⟩,s3,G,hg,gp⟩
   obtain ⟨p,hp,rfl⟩:=ints_get hx
   have hi:i < n:=by
    have:=(List.getElem?_eq_some_iff.mp hp).1
    rw [upto_len] at this
    exact this
   have ep:p=1+(i:Int):=by
    unfold upto at hp
    rw [List.getElem?_map,List.getElem?_range hi] at hp
    exact (Option.some.inj hp).symm
   subst ep
   refine ⟨_,rfl,_,rfl,_,rfl,c,g,n,i,i,co,G,rfl,off s3 (by rw [hg]; exact fun z=>nomatch z),hb2,hi,Nat.le_refl _,hg,fun l H4 s4 nl tl=>?_⟩
   have hg4:=s4 _ _ hg
   have stepv:∀ v:Option Int,v=minO ((waysL co G (1+(i:Int))).map (·.1))→(∃ x y,[some (V.ref c),some (.int b),some (.ref g),some (.int (1+(i:Int))),some (.ref l)]=[some (V.ref c),some (.int b),some (.ref g),x,y])∧SameX g H2 (upd H4 g (.dK (putK (gkv G i) (Sum.inl (1+(i:Int))) (gv v))))∧∃ G',(upd H4 g (.dK (putK (gkv G i) (Sum.inl (1+(i:Int))) (gv v)))) g=some (.dK (gkv G' (i+1)))∧GlassP co G' (i+1):=fun v hv=>by
    refine ⟨⟨_,_,rfl⟩,fun x o nx e=>by rw [upd_ne nx]; exact s4 _ _ (s3 x o nx e),fun z=>if z=1+(i:Int) then v else G z,?_,?_,fun z z1 z2=>?_⟩
    ·rw [upd_same]
     show some (HO.dK (putK (gkv G i) (Sum.inl (1+(i:Int))) (gv v)))=some (HO.dK (putK (gkv (fun z=>if z=1+(i:Int) then v else G z) i) (Sum.inl (1+(i:Int))) (gv (if 1+(i:Int)=1+(i:Int) then v else G (1+(i:Int))))))
     rw [if_pos rfl,gk_congr (G:=G) (G':=fun z=>if z=1+(i:Int) then v else G z) i fun x x1 x2=>by rw [if_neg (by omega)]]
    ·show (if (0:Int)=1+(i:Int) then v else G 0)=some 0
     rw [if_neg (by omega)]; exact gp.1
    ·have wc:waysL co G z=waysL co (fun z=>if z=1+(i:Int) then v else G z) z:=ways_congr z1 fun x x1 x2=>by
      show G x=if x=1+(i:Int) then v else G x
      rw [if_neg (by omega)]
     rw [← wc]
     show (if z=1+(i:Int) then v else G z)=_
     by_cases e:z=1+(i:Int)
     ·rw [if_pos e,e]; exact hv
     ·rw [if_neg e]; exact gp.2 z z1 (by omega)
   have room:(gkv G i).length < sizeLine:=small1000 (by rw [gk_len]; omega)
   obtain ⟨ts,e1,e2,e3⟩:=tl
   refine ⟨_,rfl,_,.inl ⟨_,SqL.of e1,rfl⟩,?_⟩
   cases ts with
   | nil =>
    exact iteN rfl ⟨_,rfl,_,rfl,g,_,rfl,DPut.k (k:=Sum.inl (1+(i:Int))) hg4 room,stepv none (by rw [← e3]; rfl)⟩
   | cons u0 us =>
    refine iteP rfl ⟨_,rfl,l,u0 :: us,rfl,SqL.of e1,rfl,(fun z=>nomatch z),e2,fun u hu' least=>⟨u.1,_,_,_,rfl,rfl,SqT.of (e2 u hu'),at2_0,_,rfl,_,rfl,g,_,rfl,DPut.k (k:=Sum.inl (1+(i:Int))) hg4 room,stepv (some u.2.1) ?_⟩⟩
    refine (minO_of (List.mem_map.mpr ⟨u.2,by rw [← e3]; exact List.mem_map.mpr ⟨u,hu',rfl⟩,rfl⟩) fun y hy=>?_).symm
    obtain ⟨z,hz,rfl⟩:=List.mem_map.mp hy
    rw [← e3] at hz
    obtain ⟨v,hv,rfl⟩:=List.mem_map.mp hz
    exact least v hv
  ·rintro σ H3 ⟨⟨x0,y0,rfl⟩,s3,G,hg,gp⟩
   rw [List.length_map,upto_len] at hg gp
   exact ⟨_,rfl,q g G H3 (s3.same (s1.trans s2) ng) ng hg gp⟩
theorem ok_least_glass {f:Addr} {fd:FuncData} (F:Fun K "least_glass" "least_glass" s_least_glass f fd) (D_all_bits:DefOk P w K mg base 1 "all_bits" ["wants"] sp_bits) (D_heights_for:DefOk P w K mg base 6 "heights_for" ["wants","sheets"] sp_hfor) (D_cheapest_sheets:DefOk P w K mg base 1 "cheapest_sheets" ["heights","sheets"] sp_cheap) (D_glass_by_set:DefOk P w K mg base 4 "glass_by_set" ["cheapest","bits"] sp_glass):FnOk P w K mg base CX0 7 f fd ["wants","sheets"] sp_lg:=by
 have S:=S_least_glass
 refine F.ok S (fun vs H Q E h=>?_) (fun cdv A outer s H vs Q E hr h=>?_)
 ·obtain ⟨a,b,ws,ss,rfl,_⟩:=h; rfl
 ·obtain ⟨a,b,ws,ss,rfl,hw,few,ok,tb,l1,l2,so,q⟩:=h
  refine ⟨_,(pss_cons (ps_set (i:=2) S.nd rfl (Or.inl rfl) (pe_fn D_heights_for hr (pa_cons (pv 0) (pa_cons (pv 1) pa_nil))))
   (pss_one (ps_ret (pe_fn D_glass_by_set hr (pa_cons (pe_fn D_cheapest_sheets hr (pa_cons (pv 2) (pa_cons (pv 1) pa_nil))) (pa_cons (pe_fn D_all_bits hr (pa_cons (pv 0) pa_nil)) pa_nil)))))),?_⟩
  refine ⟨_,rfl,_,rfl,a,b,ws,ss,rfl,hw,few,ok,tb,l1,l2,so,fun d ad h H1 s1 nd tab rows=>?_⟩
  have hn:=(pow_of (n:=ws.length) (by omega)).2
  refine ⟨_,rfl,_,rfl,d,b,ss,_,ad,h,rfl,tab,hn,tb.same s1,l2,so,fun c H2 s2 rd2 nc chp=>?_⟩
  have s02:Same H H2:=s2.same s1 nd
  obtain ⟨ts,ha,ht,hts⟩:=id (hw.same s02)
  have tl:(refs ts).length=ws.length:=by rw [refs_len,← hts,List.length_map]
  exact ⟨_,rfl,a,refs ts,rfl,ha,by omega,c,ws.length,_,by rw [tl]; rfl,by omega,chp.chp,fun g G H3 s3 ng hg gp=>q g G h H3 (s02.trans s3) (wasNone s02 ng) hg rows (fun p p1 p2=>(tab.2 p p1 p2).2) gp⟩
theorem S_law_at:FnScope ["_law_script","_law_k","_law_cell"] ["_law_script","_law_k"] (defScope s__law_at):=⟨rfl,rfl,rfl,by decide +kernel,rfl,by decide +kernel,by decide +kernel⟩
theorem ok_law_at {f:Addr} {fd:FuncData} (F:Fun K "_law_at" "_law_at" s__law_at f fd) (T:Txt mg t1 t2 t3 t4 t5 t6):FnOk P w K mg base CX0 1 f fd ["_law_script","_law_k"] (sp_at K):=by
 have S:=S_law_at
 refine F.ok S (fun vs H Q E h=>?_) (fun cdv A outer s H vs Q E hr h=>?_)
 ·obtain ⟨a,ns,k,rfl,_⟩:=h; rfl
 ·obtain ⟨a,ns,k,rfl,hS,hk0,hk1,q⟩:=h
  refine ⟨_,(pss_cons (ps_if (pt_cmpR op_lt (pv 1) (pe_callB call_len_seq rfl T.z_len rfl (pa_cons (pv 0) pa_nil)) (nomark _)) (pss_one (ps_ret (pe_ix ix_list (pv 0) (pv 1) (fun _ _=>rfl)))) pss_nil)
   (pss_cons (ps_set (i:=2) S.nd rfl (Or.inl rfl) pe_int)
   (pss_cons (ps_if (pt_cmpR (op_neD hr) (pv 0) (pe_lst pa_nil) (nomark _)) (pss_one (ps_set (i:=2) S.nd rfl (Or.inl rfl) (pe_ix ix_list (pv 0) (pe_op op_mod (pv 1) (pe_callB call_len_seq rfl T.z_len rfl (pa_cons (pv 0) pa_nil))) (fun _ _=>rfl)))) pss_nil)
   (pss_one (ps_ret (pe_op op_mod (pe_op op_mulL (pe_op op_add (pe_op op_add (pe_op op_mod (pv 2) pe_int) (pe_op op_mulL pe_int (pv 1))) pe_int) pe_int) pe_int)))))),?_⟩
  have fin:∀ z:Int,IntMulOk (z % 1000003+104729 * k+13) 48271:=fun z=>by
   have a:=Int.emod_nonneg z (b:=1000003) (by decide)
   have b:=Int.emod_lt_of_pos z (b:=1000003) (by decide)
   exact mul64 (by omega) (by omega) (by decide) (by decide)
  refine ⟨_,rfl,_,rfl,a,_,rfl,.inl hS,_,_,rfl,rfl,_,rfl,ite3 (fun h=>?_) (fun h=>?_)⟩
  ·have h':=of_decide_eq_true h
   rw [List.length_map] at h'
   obtain ⟨z,hz⟩:=at_ints hk0 h'
   exact ⟨_,rfl,_,rfl,a,_,_,_,rfl,rfl,hS,hz,q _ H (Same.refl H)⟩
  ·refine ⟨_,rfl,lenOk 0,fun e he=>?_⟩
   have s1:Same H (upd H e (.lst [])):=Same.new he
   have e1:(upd H e (.lst [])) e=some (.lst []):=upd_same
   generalize upd H e (.lst [])=H1 at s1 e1 ⊢
   refine ⟨_,_,intsL (s1.seq hS),nilL e1,⟨_,rfl⟩,⟨_,rfl⟩,intsL_dep _,_,rfl,ite3 (fun h1=>?_) (fun h1=>?_)⟩
   ·rw [if_pos rfl,deq,intsD_nil] at h1
    have hne:ns≠[]:=fun z=>by rw [decide_eq_true z] at h1; cases h1
    have hpos:0 < ns.length:=List.length_pos_iff.mpr hne
    obtain ⟨z,hz⟩:=at_ints (ns:=ns) (k:=k % (((ns.map V.int).length:Nat):Int)) (Int.emod_nonneg _ (by rw [List.length_map]; omega)) (by rw [List.length_map]; exact Int.emod_lt_of_pos _ (by omega))
    refine ⟨_,rfl,_,rfl,_,rfl,a,_,rfl,.inl (s1.seq hS),_,_,rfl,rfl,(by rw [List.length_map]; omega),a,_,_,_,rfl,rfl,s1.seq hS,hz,?_⟩
    exact ⟨_,rfl,_,_,rfl,rfl,(show (0:Int) < 1000003 from by decide),_,rfl,_,_,rfl,rfl,mul64 (by decide) (by decide) (by omega) (by omega),_,_,rfl,rfl,_,_,rfl,rfl,_,_,rfl,rfl,fin _,_,_,rfl,rfl,(show (0:Int) < 2147483647 from by decide),q _ H1 s1⟩
   ·exact ⟨_,rfl,_,_,rfl,rfl,(show (0:Int) < 1000003 from by decide),_,rfl,_,_,rfl,rfl,mul64 (by decide) (by decide) (by omega) (by omega),_,_,rfl,rfl,_,_,rfl,rfl,_,_,rfl,rfl,fin _,_,_,rfl,rfl,(show (0:Int) < 2147483647 from by decide),q _ H1 s1⟩
theorem S_law_knead:FnScope ["_law_number","_law_by","_law_digits","_law_k","_law_found"] ["_law_number","_law_by"] (defScope s__law_knead):=⟨rfl,rfl,rfl,by decide +kernel,rfl,by decide +kernel,by decide +kernel⟩
theorem ok_law_knead {f:Addr} {fd:FuncData} (F:Fun K "_law_knead" "_law_knead" s__law_knead f fd) (T:Txt mg t1 t2 t3 t4 t5 t6):FnOk P w K mg base CX0 1 f fd ["_law_number","_law_by"] sp_knead:=by
 have S:=S_law_knead
 refine F.ok S (fun vs H Q E h=>?_) (fun cdv A outer s H vs Q E hr h=>?_)
 ·obtain ⟨n,b,rfl,_⟩:=h; rfl
 ·obtain ⟨n,b,rfl,b0,b1,q⟩:=h
  obtain ⟨tt,htt,fin⟩:∃ rd,PSs (cxOf CX0 P w K mg base ["_law_number","_law_by","_law_digits","_law_k","_law_found"] "_law_knead" (defScope s__law_knead) f cdv A outer s H E).nox ((defBody s__law_knead).drop 2) rd ∧
    ∀ (d:Int) (x3:Option V),0≤d→rd { nx:=fun _ H'=>Q .non H',rt:=Q } [some (.int n),some (.int b),some (.int d),x3,none] H:=by
   refine ⟨_,(pss_cons (ps_if (pt_cmpR op_gt (pv 2) pe_int (nomark _)) (pss_one (ps_ret (pe_op op_mod (pv 2) pe_int))) pss_nil)
   (pss_cons (ps_set (i:=0) S.nd rfl (Or.inl rfl) (pe_op op_add (pe_op op_mod (pv 0) pe_int) (pe_op op_mulL pe_int (pv 1))))
   (pss_cons (ps_set (i:=4) S.nd rfl (Or.inl rfl) (pe_op op_add pe_int (pv 1)))
   (pss_cons (ps_for PassesOwn.never rfl (pi_range1 rfl T.z_range (pa_cons pe_int pa_nil)) (pg_name (i:=3) S.nd rfl (Or.inl rfl)) (pss_cons (ps_set (i:=4) S.nd rfl (Or.inl rfl) (pe_op op_mod (pe_op op_mulL (pe_op op_add (pe_op op_mulL (pv 4) pe_int) (pv 0)) (pe_op op_add (pe_op op_mod (pv 0) pe_int) pe_int)) pe_int))
   (pss_one (ps_set (i:=0) S.nd rfl (Or.inl rfl) (pe_op op_add (pe_op op_add (pe_op op_fdivL (pv 0) pe_int) (pe_op op_mod (pv 4) pe_int)) (pv 3))))))
   (pss_one (ps_ret (pv 4))))))),?_⟩
   intro d x3 d0
   refine ⟨_,rfl,_,_,rfl,rfl,_,rfl,ite3 (fun h=>?_) (fun h=>?_)⟩
   ·exact ⟨_,rfl,_,_,rfl,rfl,(show (0:Int) < 1000000000 from by decide),q _ (Int.emod_nonneg _ (by decide))⟩
   ·have a:=Int.emod_nonneg n (b:=900001) (by decide)
    have c:=Int.emod_lt_of_pos n (b:=900001) (by decide)
    refine ⟨_,rfl,_,_,rfl,rfl,(show (0:Int) < 900001 from by decide),_,rfl,_,_,rfl,rfl,mul64 (by decide) (by decide) (by omega) (by omega),_,_,rfl,rfl,_,rfl,_,_,rfl,rfl,3,rfl,by decide,by decide,?_⟩
    refine for_range (lo:=0) (n:=(3:Int).toNat) (fun i σ H'=>H'=H∧∃ N F x2 x3,σ=[some (.int N),some (.int b),x2,x3,some (.int F)]∧0≤N∧N≤1000000∧0≤F∧F≤715827883) ⟨rfl,_,_,_,_,rfl,by omega,by omega,by omega,by omega⟩ ?_ ?_
    ·rintro i σ H' hi ⟨rfl,N,F,x2,x3,rfl,n0,n1,f0,f1⟩
     have hi3:i < 3:=hi
     have m0:=Int.emod_nonneg N (b:=8887) (by decide)
     have m1:=Int.emod_lt_of_pos N (b:=8887) (by decide)
     refine ⟨_,rfl,_,_,rfl,rfl,mul64 (by omega) (by omega) (by decide) (by decide),_,rfl,_,_,rfl,rfl,_,rfl,_,_,rfl,rfl,(show (0:Int) < 8887 from by decide),_,_,rfl,rfl,_,_,rfl,rfl,mul64 (by omega) (by omega) (by omega) (by omega),_,_,rfl,rfl,(show (0:Int) < 715827883 from by decide),?_⟩
     have g0:=Int.emod_nonneg ((F * 8191+N) * (N % 8887+5501)) (b:=715827883) (by decide)
     have g1:=Int.emod_lt_of_pos ((F * 8191+N) * (N % 8887+5501)) (b:=715827883) (by decide)
     generalize (F * 8191+N) * (N % 8887+5501) % 715827883=F' at g0 g1 ⊢
     refine ⟨_,rfl,_,_,rfl,rfl,divL _ (by decide) (by decide),_,rfl,_,_,rfl,rfl,(show (0:Int) < 1013 from by decide),_,_,rfl,rfl,_,rfl,_,_,rfl,rfl,rfl,_,_,_,_,rfl,?_,?_,by omega,by omega⟩
     ·omega
     ·omega
    ·rintro σ H' ⟨rfl,N,F,x2,x3,rfl,n0,n1,f0,f1⟩
     exact ⟨_,rfl,q _ f0⟩
  refine ⟨_,(pss_cons (ps_set (i:=2) S.nd rfl (Or.inl rfl) pe_int)
   (pss_cons (ps_if (PW.pt (pw_or (pt_cmpR op_lt (pv 0) pe_int (nomark _)) (pw_or1 (pt_cmpR op_ge (pv 0) (pe_op op_pow pe_int pe_int) (nomark _))))) (pss_cons (ps_set (i:=2) S.nd rfl (Or.inl rfl) (pe_callB call_abs rfl T.z_abs rfl (pa_cons (pv 0) pa_nil)))
   (pss_one (ps_for PassesOwn.never rfl (pi_range1 rfl T.z_range (pa_cons (pv 1) pa_nil)) (pg_name (i:=3) S.nd rfl (Or.inl rfl)) (pss_one (ps_set (i:=2) S.nd rfl (Or.inl rfl) (pe_op op_fdivL (pv 2) pe_int)))))) pss_nil)
   htt)),?_⟩
  have loop:∀ (d:Int),0≤d→(if d < 0 then -d else d)=d:=fun d h=>by rw [if_neg (by omega)]
  refine ⟨_,rfl,_,_,rfl,rfl,_,rfl,ite3 (fun h=>?_) (fun h=>?_)⟩
  ·refine iteT ⟨_,rfl,_,rfl,_,rfl,b,rfl,by omega,by omega,for_range (lo:=0) (n:=b.toNat) (fun i σ H'=>H'=H∧∃ d x3,σ=[some (.int n),some (.int b),some (.int d),x3,none]∧0≤d) ⟨rfl,_,_,rfl,by split <;> omega⟩ ?_ ?_⟩
   ·rintro i σ H' hi ⟨rfl,d,x3,rfl,d0⟩
    exact ⟨_,rfl,_,_,rfl,rfl,divL _ (by decide) (by decide),rfl,_,_,rfl,by omega⟩
   ·rintro σ H' ⟨rfl,d,x3,rfl,d0⟩
    exact fin d x3 d0
  ·refine ⟨_,rfl,_,_,rfl,rfl,pow18,_,_,rfl,rfl,_,rfl,ite3 (fun h1=>?_) (fun h1=>fin 0 none (by omega))⟩
   refine ⟨_,rfl,_,rfl,_,rfl,b,rfl,by omega,by omega,for_range (lo:=0) (n:=b.toNat) (fun i σ H'=>H'=H∧∃ d x3,σ=[some (.int n),some (.int b),some (.int d),x3,none]∧0≤d) ⟨rfl,_,_,rfl,by split <;> omega⟩ ?_ ?_⟩
   ·rintro i σ H' hi ⟨rfl,d,x3,rfl,d0⟩
    exact ⟨_,rfl,_,_,rfl,rfl,divL _ (by decide) (by decide),rfl,_,_,rfl,by omega⟩
   ·rintro σ H' ⟨rfl,d,x3,rfl,d0⟩
    exact fin d x3 d0
def nth (b:List Stmt) (i:Nat):Stmt:=b.getD i (.Pass ⟨0,0,0,0⟩)
def forBody:Stmt→List Stmt
 | .For _ _ b _ _=>b
 | _=>[]
theorem S_ways_held:FnScope ["want","width","height"] ["want","width","height"] (defScope s_ways_held):=⟨rfl,rfl,rfl,by decide +kernel,rfl,by decide +kernel,by decide +kernel⟩
theorem waysOf_len (t:Want):(waysOf t).length≤2:=by unfold waysOf; split <;> simp
theorem ok_ways_held {f:Addr} {fd:FuncData} (F:Fun K "ways_held" "ways_held" s_ways_held f fd) (D_ways_to_lie:DefOk P w K mg base 1 "ways_to_lie" ["want"] sp_ways):FnOk P w K mg base CX0 2 f fd ["want","width","height"] sp_wheld:=by
 have S:=S_ways_held
 refine F.ok S (fun vs H Q E h=>?_) (fun cdv A outer s H vs Q E hr h=>?_)
 ·obtain ⟨a,t,w,h,rfl,_⟩:=h; rfl
 ·obtain ⟨a,t,ww,hh,rfl,ha,q⟩:=h
  refine ⟨_,(pss_one (ps_ret (pe_compF rfl (pi_list (pe_fn D_ways_to_lie hr (pa_cons (pv 0) pa_nil))) (fun _ _ _ _ _=>(pg_name (i:=0) (show List.Nodup (["size","width","height"]:List Str) from by decide +kernel) rfl (Or.inl rfl))) (fun _ _ _ _ _=>(PW.pt (pw_and (pt_cmpR op_le (pe_ix (ix_tupK (K:=K)) (pv 0) pe_int (fun _ _=>rfl)) (pv 1) (nomark _)) (pw_and1 (pt_cmpR op_le (pe_ix (ix_tupK (K:=K)) (pv 0) pe_int (fun _ _=>rfl)) (pv 2) (nomark _)))))) (fun _ _ _ _ _=>(pv 0)) (N:=["size","width","height"]) (fr:=[none,some 1,some 2])))),?_⟩
  refine ⟨_,rfl,a,t,rfl,ha,fun l H1 s1 nl hl=>?_⟩
  obtain ⟨us,e1,e2,e3⟩:=hl
  have ul:us.length=(waysOf t).length:=by rw [← e3,List.length_map]
  have sz:(refs us).length≤sizeLine:=Nat.le_of_lt (small1000 (by rw [refs_len]; have:=waysOf_len t; omega))
  refine ⟨l,rfl,⟨_,SqL.of e1⟩,fun acc na=>comp_listF (K:=K) (a:=l) (ys:=refs us) (fun i zs σ H'=>(∃ x,σ=[x,some (.int ww),some (.int hh)])∧Same H1 H'∧∃ vs:List (Addr × Int × Int),zs=refs vs∧(∀ v∈vs,v∈us)∧vs.map (·.2)=((waysOf t).take i).filter fun z=>decide (z.1≤ww) && decide (z.2≤hh))
   ⟨⟨none,rfl⟩,Same.new na,[],rfl,(fun v hv=>nomatch hv),rfl⟩ (fun i zs σ H' _ _ hp=>SqL.of (hp.2.1 _ _ e1)) ?_ ?_⟩
  ·rintro i x zs σ H2 hx hi hl' ha' ⟨⟨x0,rfl⟩,s2,vs,rfl,hvs,hm⟩
   obtain ⟨v,hv,rfl⟩:=refs_get hx
   have hv2:=s2 _ _ (e2 v (List.mem_of_getElem? hv))
   have tk1:(waysOf t).take (i+1)=(waysOf t).take i++[v.2]:=by rw [← e3,List.take_succ,List.getElem?_map,hv]; rfl
   refine ⟨_,rfl,v.1,_,_,_,rfl,rfl,SqT.of hv2,at2_0,_,rfl,_,_,rfl,rfl,_,rfl,ite3 (fun c1=>?_) (fun c1=>?_)⟩
   ·refine ⟨_,rfl,v.1,_,_,_,rfl,rfl,SqT.of hv2,at2_1,_,rfl,_,_,rfl,rfl,?_⟩
    cases c2:decide (v.2.2≤hh) with
    | true =>
     refine ⟨true,congrArg V.bl c2,_,rfl,fNx.mk sz hi hl' ha' ⟨⟨_,rfl⟩,fun d o e=>by rw [upd_ne (ne_of_none e na)]; exact s2 d o e,vs++[v],by rw [refs,refs,List.map_append]; rfl,fun u hu=>?_,?_⟩⟩
     ·rcases List.mem_append.mp hu with hu | hu
      ·exact hvs u hu
      ·rw [List.mem_singleton.mp hu]; exact List.mem_of_getElem? hv
     ·rw [tk1,List.filter_append,List.filter_cons,if_pos (by rw [c1,c2]; rfl),List.map_append,hm]; rfl
    | false =>
     refine ⟨false,congrArg V.bl c2,fSk.mk hi hl' ha' ⟨⟨_,rfl⟩,s2,vs,rfl,hvs,?_⟩⟩
     rw [tk1,List.filter_append,List.filter_cons,if_neg (by rw [c2,Bool.and_false]; exact Bool.false_ne_true),hm]
     simp
   ·refine fSk.mk hi hl' ha' ⟨⟨_,rfl⟩,s2,vs,rfl,hvs,?_⟩
    rw [tk1,List.filter_append,List.filter_cons,if_neg (by rw [c1,Bool.false_and]; exact Bool.false_ne_true),hm]
    simp
  ·rintro zs σ H2 hl' ha' ⟨_,s2,vs,rfl,hvs,hm⟩
   rw [refs_len,ul,List.take_length] at hm
   exact q acc H2 (s1.trans s2) (wasNone s1 na) ⟨vs,ha',fun v hv=>s2 _ _ (e2 v (hvs v hv)),hm⟩
abbrev N_off:List Str:=["mark","size","width","height","tree"]
theorem S_cut_off:FnScope N_off ["mark","size","width","height"] (defScope s_cut_off):=⟨rfl,rfl,rfl,by decide +kernel,rfl,by decide +kernel,by decide +kernel⟩
def off1 (m:Int) (z:Int × Int) (h:Int):Tr:=if z.2 < h then .cut false z.2 (.whole (some m)) (.whole none) else .whole (some m)
theorem offT_eq (m:Int) (z:Int × Int) (w h:Int):offT m z w h=if z.1 < w then .cut true z.1 (off1 m z h) (.whole none) else off1 m z h:=rfl
theorem made_w {H:Hp} {x dx:Addr} {m:V} (nx:H x=none) (ndx:H dx=none):Same H (upd (upd (upd H dx (.own x)) x (.ins cW dx [])) x (.ins cW dx (wF m))):=fun b o e=>by rw [upd_ne (ne_of_none e nx)]; exact made_same nx ndx b o e
theorem ok_cut_off {f:Addr} {fd:FuncData} (F:Fun K "cut_off" "cut_off" s_cut_off f fd) (K_Whole:MkOk P w K mg base 1 "Whole" cW ["self","mark"] (sp_iW cW)) (K0_Whole:MkOk0 P w K mg base 1 "Whole" cW ["self","mark"] (sp_iW cW) [.non])
  (K_Upright:MkOk P w K mg base 1 "Upright" cU ["self","at","first","other"] (sp_iC cU)) (K_Level:MkOk P w K mg base 1 "Level" cL ["self","at","first","other"] (sp_iC cL)):FnOk P w K mg base CX0 3 f fd ["mark","size","width","height"] (sp_off cW cU cL):=by
 have S:=S_cut_off
 refine F.ok S (fun vs H Q E h=>?_) (fun cdv A outer s H vs Q E hr h=>?_)
 ·obtain ⟨m,a,z,w,h,rfl,_⟩:=h; rfl
 ·obtain ⟨m,a,z,ww,hh,rfl,ha,q⟩:=h
  obtain ⟨tB,hB,kB⟩:∃ rd,PSs (cxOf CX0 P w K mg base N_off "cut_off" (defScope s_cut_off) f cdv A outer s H E).nox ((defBody s_cut_off).drop 2) rd∧∀ (v:V) (H2:Hp),Same H H2→Obj cW cU cL H2 (off1 m z hh) v→rd { nx:=fun _ H'=>Q .non H',rt:=Q } [some (.int m),some (.ref a),some (.int ww),some (.int hh),some v] H2:=by
   refine ⟨_,(pss_cons (ps_if (pt_cmpR op_lt (pe_ix ix_tup (pv 1) pe_int (fun _ _=>rfl)) (pv 2) (nomark _)) (pss_one (ps_set (i:=4) S.nd rfl (Or.inl rfl) (pe_mk K_Upright hr (pa_cons (pe_ix ix_tup (pv 1) pe_int (fun _ _=>rfl)) (pa_cons (pv 4) (pa_cons (pe_mk0 K0_Whole hr) pa_nil)))))) pss_nil)
   (pss_one (ps_ret (pv 4)))),?_⟩
   intro v H2 s2 o2
   have ha2:=s2 _ _ ha
   refine ⟨_,rfl,a,_,_,_,rfl,rfl,SqT.of ha2,at2_0,_,rfl,_,_,rfl,rfl,_,rfl,ite3 (fun c=>?_) (fun c=>?_)⟩
   ·have c:=of_decide_eq_true c
    refine ⟨_,rfl,a,_,_,_,rfl,rfl,SqT.of ha2,at2_0,_,rfl,fun x dx nx ndx nex=>⟨x,dx,_,rfl,upd_same,rfl,?_⟩⟩
    have s3:Same H2 (upd (upd (upd H2 dx (.own x)) x (.ins cW dx [])) x (.ins cW dx (wF .non))):=made_w nx ndx
    have o3:Obj cW cU cL (upd (upd (upd H2 dx (.own x)) x (.ins cW dx [])) x (.ins cW dx (wF .non))) (.whole none) (.ref x):=by rw [Obj]; exact ⟨x,dx,rfl,upd_same⟩
    generalize upd (upd (upd H2 dx (.own x)) x (.ins cW dx [])) x (.ins cW dx (wF .non))=H3 at s3 o3 ⊢
    refine fun y dy ny ndy ney=>⟨y,dy,z.1,v,.ref x,rfl,upd_same,fun H4 s4 e4=>⟨rfl,?_⟩⟩
    have s34:Same H3 H4:=fun b o e=>s4 b o (ne_of_none e ny) (made_same ny ndy b o e)
    refine ⟨_,rfl,q _ _ (s2.trans (s3.trans s34)) ?_⟩
    rw [offT_eq,if_pos c,Obj]
    exact ⟨y,dy,v,.ref x,rfl,e4,(o2.same s3).same s34,o3.same s34⟩
   ·have c:=of_decide_eq_false c
    refine ⟨_,rfl,q _ _ s2 ?_⟩
    rw [offT_eq,if_neg c]
    exact o2
  refine ⟨_,(pss_cons (ps_set (i:=4) S.nd rfl (Or.inl rfl) (pe_mk K_Whole hr (pa_cons (pv 0) pa_nil)))
   (pss_cons (ps_if (pt_cmpR op_lt (pe_ix ix_tup (pv 1) pe_int (fun _ _=>rfl)) (pv 3) (nomark _)) (pss_one (ps_set (i:=4) S.nd rfl (Or.inl rfl) (pe_mk K_Level hr (pa_cons (pe_ix ix_tup (pv 1) pe_int (fun _ _=>rfl)) (pa_cons (pv 4) (pa_cons (pe_mk0 K0_Whole hr) pa_nil)))))) pss_nil)
   hB)),?_⟩
  refine ⟨_,rfl,fun x dx nx ndx nex=>⟨x,dx,_,rfl,upd_same,rfl,?_⟩⟩
  have s1:Same H (upd (upd (upd H dx (.own x)) x (.ins cW dx [])) x (.ins cW dx (wF (.int m)))):=made_w nx ndx
  have o1:Obj cW cU cL (upd (upd (upd H dx (.own x)) x (.ins cW dx [])) x (.ins cW dx (wF (.int m)))) (.whole (some m)) (.ref x):=by rw [Obj]; exact ⟨x,dx,rfl,upd_same⟩
  generalize upd (upd (upd H dx (.own x)) x (.ins cW dx [])) x (.ins cW dx (wF (.int m)))=H1 at s1 o1 ⊢
  have ha1:=s1 _ _ ha
  refine ⟨_,rfl,a,_,_,_,rfl,rfl,SqT.of ha1,at2_1,_,rfl,_,_,rfl,rfl,_,rfl,ite3 (fun c=>?_) (fun c=>?_)⟩
  ·have c:=of_decide_eq_true c
   refine ⟨_,rfl,a,_,_,_,rfl,rfl,SqT.of ha1,at2_1,_,rfl,fun y dy ny ndy ney=>⟨y,dy,_,rfl,upd_same,rfl,?_⟩⟩
   have s3:Same H1 (upd (upd (upd H1 dy (.own y)) y (.ins cW dy [])) y (.ins cW dy (wF .non))):=made_w ny ndy
   have o3:Obj cW cU cL (upd (upd (upd H1 dy (.own y)) y (.ins cW dy [])) y (.ins cW dy (wF .non))) (.whole none) (.ref y):=by rw [Obj]; exact ⟨y,dy,rfl,upd_same⟩
   generalize upd (upd (upd H1 dy (.own y)) y (.ins cW dy [])) y (.ins cW dy (wF .non))=H3 at s3 o3 ⊢
   refine fun u du nu ndu neu=>⟨u,du,z.2,.ref x,.ref y,rfl,upd_same,fun H4 s4 e4=>⟨rfl,?_⟩⟩
   have s34:Same H3 H4:=fun b o e=>s4 b o (ne_of_none e nu) (made_same nu ndu b o e)
   refine kB _ H4 (s1.trans (s3.trans s34)) ?_
   unfold off1
   rw [if_pos c,Obj]
   exact ⟨u,du,.ref x,.ref y,rfl,e4,(o1.same s3).same s34,o3.same s34⟩
  ·have c:=of_decide_eq_false c
   refine kB _ H1 s1 ?_
   unfold off1
   rw [if_neg c]
   exact o1
theorem S_tree_alone:FnScope ["wants","number","width","height","held"] ["wants","number","width","height"] (defScope s_tree_alone):=⟨rfl,rfl,rfl,by decide +kernel,rfl,by decide +kernel,by decide +kernel⟩
theorem ok_tree_alone {f:Addr} {fd:FuncData} (F:Fun K "tree_alone" "tree_alone" s_tree_alone f fd) (D_ways_held:DefOk P w K mg base 2 "ways_held" ["want","width","height"] sp_wheld) (D_cut_off:DefOk P w K mg base 3 "cut_off" ["mark","size","width","height"] (sp_off cW cU cL)):FnOk P w K mg base CX0 4 f fd ["wants","number","width","height"] (sp_talone cW cU cL):=by
 have S:=S_tree_alone
 refine F.ok S (fun vs H Q E h=>?_) (fun cdv A outer s H vs Q E hr h=>?_)
 ·obtain ⟨a,ws,m,t,w,h,rfl,_⟩:=h; rfl
 ·obtain ⟨a,ws,m,t,ww,hh,rfl,⟨ts,ha,ht,rfl⟩,m0,hm,ne,q⟩:=h
  rw [List.getElem?_map] at hm
  obtain ⟨u,hu',rfl⟩:=Option.map_eq_some_iff.mp hm
  have hat:atI (refs ts) m=some (.ref u.1):=by
   have e:=atI_nat (xs:=refs ts) (j:=m.toNat) (v:=.ref u.1) (by rw [refs,List.getElem?_map,hu']; rfl)
   rw [Int.toNat_of_nonneg m0] at e
   exact e
  refine ⟨_,(pss_cons (ps_set (i:=4) S.nd rfl (Or.inl rfl) (pe_fn D_ways_held hr (pa_cons (pe_ix ix_list (pv 0) (pv 1) (fun _ _=>rfl)) (pa_cons (pv 2) (pa_cons (pv 3) pa_nil)))))
   (pss_one (ps_ret (pe_fn D_cut_off hr (pa_cons (pv 1) (pa_cons (pe_ix ix_list (pv 4) pe_int (fun _ _=>rfl)) (pa_cons (pv 2) (pa_cons (pv 3) pa_nil)))))))),?_⟩
  refine ⟨_,rfl,_,rfl,a,_,_,_,rfl,rfl,SqL.of ha,hat,_,rfl,_,rfl,u.1,u.2,ww,hh,rfl,ht u (List.mem_of_getElem? hu'),fun l H1 s1 nl hl=>?_⟩
  obtain ⟨vs,e1,e2,e3⟩:=hl
  cases vs with
  | nil=>exact absurd (show heldW u.2 ww hh=[] from e3.symm) ne
  | cons z r =>
   have hz:z.2∈heldW u.2 ww hh:=by rw [← e3]; exact List.mem_cons_self
   unfold heldW at hz
   obtain ⟨z1,z2⟩:=List.mem_filter.mp hz
   rw [Bool.and_eq_true,decide_eq_true_eq,decide_eq_true_eq] at z2
   exact ⟨_,rfl,_,rfl,l,_,_,_,rfl,rfl,SqL.of e1,atI_nat (j:=0) rfl,_,rfl,_,rfl,m,z.1,z.2,ww,hh,rfl,e2 z List.mem_cons_self,fun v H2 s2 o=>q v z.2 H2 (s1.trans s2) z1 z2.1 z2.2 o⟩
theorem S_tree_for:FnScope ["wants","heights","bits","width","height","cut","word","at","part","first","other"] ["wants","heights","bits","width","height"] (defScope s_tree_for):=⟨rfl,rfl,rfl,by decide +kernel,rfl,by decide +kernel,by decide +kernel⟩
theorem at1 {x0 x1 x2 x3:V}:atI [x0,x1,x2,x3] 1=some x1:=rfl
theorem at2 {x0 x1 x2 x3:V}:atI [x0,x1,x2,x3] 2=some x2:=rfl
theorem at3 {x0 x1 x2 x3:V}:atI [x0,x1,x2,x3] 3=some x3:=rfl
theorem pow31 {n:Nat} (h:n≤6):2^n - 1≤63:=by
 have:∀ n:Nat,n≤6→2^n - 1≤63:=by decide +kernel
 exact this n h
theorem ok_tree_for {f:Addr} {fd:FuncData} {n:Nat} (F:Fun K "tree_for" "tree_for" s_tree_for f fd) (T:Txt mg t1 t2 t3 t4 t5 t6) (D_is_alone:DefOk P w K mg base 1 "is_alone" ["bits"] sp_alone) (D_number_alone:DefOk P w K mg base 1 "number_alone" ["bits"] sp_number) (D_tree_alone:DefOk P w K mg base 4 "tree_alone" ["wants","number","width","height"] (sp_talone cW cU cL))
  (D_cuts_to:DefOk P w K mg base 3 "cuts_to" ["heights","bits","width"] sp_cuts) (D_cut_from:DefOk P w K mg base 3 "cut_from" ["word","at","first","other"] (sp_cutfrom cW cU cL)) (D_tree_for:DefOk P w K mg base (n+4) "tree_for" ["wants","heights","bits","width","height"] (sp_tree cW cU cL n)) :
  FnOk P w K mg base CX0 (n+5) f fd ["wants","heights","bits","width","height"] (sp_tree cW cU cL (n+1)):=by
 have S:=S_tree_for
 refine F.ok S (fun vs H Q E h=>?_) (fun cdv A outer s H vs Q E hr h=>?_)
 ·obtain ⟨a,d,ws,B,b,w,hh,ad,h,rfl,_⟩:=h; rfl
 ·obtain ⟨a,d,ws,B,b,ww,hh,ad,h,rfl,hw,few,ok,tab,B1,B2,okb,hpc,bw,bh,rows,on,q⟩:=h
  have hu:=hu_of hr
  have B3:=pow31 few
  obtain ⟨b1,b2,b3⟩:=id okb
  obtain ⟨la,ln⟩:=(rows b okb).2 ww bw.1 bw.2
  refine ⟨_,(pss_cons (ps_if (pt_val (pe_fn D_is_alone hr (pa_cons (pv 2) pa_nil) (by omega))) (pss_one (ps_ret (pe_fn D_tree_alone hr (pa_cons (pv 0) (pa_cons (pe_fn D_number_alone hr (pa_cons (pv 2) pa_nil) (by omega)) (pa_cons (pv 3) (pa_cons (pv 4) pa_nil)))) (by omega)))) pss_nil)
   (pss_cons (ps_set (i:=5) S.nd rfl (Or.inl rfl) (pe_callB (call_minQ hu) rfl T.z_min rfl (pa_cons (pe_fn D_cuts_to hr (pa_cons (pv 1) (pa_cons (pv 2) (pa_cons (pv 3) pa_nil))) (by omega)) pa_nil)))
   (pss_cons (ps_set (i:=6) S.nd rfl (Or.inl rfl) (pe_ix ix_tup (pv 5) pe_int (fun _ _=>rfl)))
   (pss_cons (ps_set (i:=7) S.nd rfl (Or.inl rfl) (pe_ix ix_tup (pv 5) pe_int (fun _ _=>rfl)))
   (pss_cons (ps_set (i:=8) S.nd rfl (Or.inl rfl) (pe_ix ix_tup (pv 5) pe_int (fun _ _=>rfl)))
   (pss_cons (ps_if (pt_cmpR op_eq (pv 6) (pe_glob (v:=.str "upright") rfl T.g_UPRIGHT ⟨_,rfl⟩) (nomark _)) (pss_cons (ps_set (i:=9) S.nd rfl (Or.inl rfl) (pe_fn D_tree_for hr (pa_cons (pv 0) (pa_cons (pv 1) (pa_cons (pv 8) (pa_cons (pv 7) (pa_cons (pv 4) pa_nil))))) (by omega)))
   (pss_one (ps_set (i:=10) S.nd rfl (Or.inl rfl) (pe_fn D_tree_for hr (pa_cons (pv 0) (pa_cons (pv 1) (pa_cons (pe_op op_sub (pv 2) (pv 8)) (pa_cons (pe_op op_sub (pv 3) (pv 7)) (pa_cons (pv 4) pa_nil))))) (by omega))))) (pss_cons (ps_set (i:=9) S.nd rfl (Or.inl rfl) (pe_fn D_tree_for hr (pa_cons (pv 0) (pa_cons (pv 1) (pa_cons (pv 8) (pa_cons (pv 3) (pa_cons (pv 7) pa_nil))))) (by omega)))
   (pss_one (ps_set (i:=10) S.nd rfl (Or.inl rfl) (pe_fn D_tree_for hr (pa_cons (pv 0) (pa_cons (pv 1) (pa_cons (pe_op op_sub (pv 2) (pv 8)) (pa_cons (pv 3) (pa_cons (pe_op op_sub (pv 4) (pv 7)) pa_nil))))) (by omega))))))
   (pss_one (ps_ret (pe_fn D_cut_from hr (pa_cons (pv 6) (pa_cons (pv 7) (pa_cons (pv 9) (pa_cons (pv 10) pa_nil)))) (by omega)))))))))),?_⟩
  refine ⟨_,rfl,b,rfl,_,rfl,ite3 (fun c=>?_) (fun c=>?_)⟩
  ·obtain ⟨o1,o2,o3,o4⟩:=one_of b1 (by omega) c
   obtain ⟨t,ht,alt⟩:=la c
   have ht:ws[(nOne b).toNat]?=some t:=ht
   have ne:heldW t ww hh≠[]:=by
    rcases alt with ⟨_,e⟩ | ⟨hm,_⟩
    ·omega
    ·unfold lows at hm
     obtain ⟨z,hz,e⟩:=List.mem_map.mp hm
     obtain ⟨z1,z2⟩:=List.mem_filter.mp hz
     intro e0
     have:z∈heldW t ww hh:=by
      unfold heldW
      refine List.mem_filter.mpr ⟨z1,?_⟩
      rw [z2,Bool.true_and]
      exact decide_eq_true (by omega)
     rw [e0] at this
     cases this
   exact ⟨_,rfl,_,rfl,b,rfl,_,rfl,_,rfl,a,ws,nOne b,t,ww,hh,rfl,hw,o1,ht,ne,fun v z H' s' z1 z2 z3 o=>q v _ H' s' o (Sv.one c ht z1 z2 z3)⟩
  ·obtain ⟨m,hm,hmin,em⟩:=ln c
   have hmh:m≤hh:=by
    by_cases z:m < 13
    ·rw [if_pos z] at em; omega
    ·rw [if_neg z] at em; omega
   have pl:∀ q∈plist b,okB B q∧okB B (b - q):=fun q hq=>by
    obtain ⟨q1,q2,q3⟩:=plist_up hq
    obtain ⟨t1,t2⟩:=part_trans (b:=B) B1 (by omega) b1 (by omega) b3 hq
    exact ⟨⟨q1,by omega,t1⟩,⟨q3,by omega,t2⟩⟩
   refine ⟨_,rfl,_,rfl,_,rfl,d,b,ww,okB B,ad,h,rfl,tab,b1,by omega,pl,bw.1,bw.2,fun l ts H1 s1 nl hl hc hts few'=>?_⟩
   have mem:∀ t∈ts,t.2∈cutsF h b ww:=fun t ht=>by rw [← hts]; exact List.mem_map.mpr ⟨t,ht,rfl⟩
   have hfst:ts.map (·.2.1)=cutH h b ww:=by rw [← cutsF_fst,← hts,List.map_map]; rfl
   have ne:ts≠[]:=fun z=>by rw [z] at hfst; rw [← hfst] at hm; cases hm
   refine ⟨l,ts,rfl,SqL.of hl,rfl,ne,hc,fun t ht u hu'=>cutsF_alike (mem t ht) (mem u hu'),fun t ht least=>?_⟩
   have hcm:t.2.1≤m:=by
    rw [← hfst] at hm
    obtain ⟨u,hu',rfl⟩:=List.mem_map.mp hm
    exact least u hu'
   have htc:=hc t ht
   have hw1:=hw.same s1
   have tab1:=tab.same s1
   obtain ⟨p,hp,⟨at_,a1,a2,e⟩ | e⟩:=mem_cutsF (mem t ht)
   ·rw [e] at htc hcm
    have htc:H1 t.1=some (.tup [.int (cutU h b ww p at_),.str (wd true),.int at_,.int p]):=htc
    have hcm:cutU h b ww p at_≤m:=hcm
    unfold cutU at hcm
    obtain ⟨k1,k2⟩:=pl p hp
    obtain ⟨c1,c2,_⟩:=half_of b1 (by omega) hp
    have x1:=mx_l (rat (h p) at_) (rat (h (b - p)) (ww - at_))
    have x2:=mx_r (rat (h p) at_) (rat (h (b - p)) (ww - at_))
    refine ⟨_,rfl,t.1,_,_,_,rfl,rfl,SqT.of htc,at1,_,rfl,t.1,_,_,_,rfl,rfl,SqT.of htc,at2,_,rfl,t.1,_,_,_,rfl,rfl,SqT.of htc,at3,?_⟩
    refine ⟨_,rfl,rfl,_,rfl,iteP (wd_dec true true) ?_⟩
    refine ⟨_,rfl,_,rfl,_,rfl,_,rfl,_,rfl,a,d,ws,B,p,at_,hh,ad,h,rfl,hw1,few,ok,tab1,B1,B2,k1,by omega,⟨by omega,by omega⟩,bh,rows,by omega,fun v1 y1 H2 s2 o1 sv1=>?_⟩
    refine ⟨_,rfl,_,rfl,_,rfl,_,rfl,_,_,rfl,rfl,_,rfl,_,rfl,_,_,rfl,rfl,_,rfl,a,d,ws,B,b - p,ww - at_,hh,ad,h,rfl,hw1.same s2,few,ok,tab1.same s2,B1,B2,k2,by omega,⟨by omega,by omega⟩,bh,rows,by omega,fun v2 y2 H3 s3 o2 sv2=>?_⟩
    exact ⟨_,rfl,_,rfl,_,rfl,_,rfl,true,at_,v1,v2,y1,y2,rfl,o1.same s3,o2,fun v' H' s' o=>q v' _ H' (s1.trans (s2.trans (s3.trans s'))) o (Sv.up hp a1 a2 sv1 sv2)⟩
   ·rw [e] at htc hcm
    have htc:H1 t.1=some (.tup [.int (rat (h p) ww+rat (h (b - p)) ww),.str (wd false),.int (rat (h p) ww),.int p]):=htc
    have hcm:rat (h p) ww+rat (h (b - p)) ww≤m:=hcm
    obtain ⟨k1,k2⟩:=pl p hp
    obtain ⟨c1,c2,_⟩:=half_of b1 (by omega) hp
    have rp:=fun x (hx:okB B x)=>rowP_pos ok B1 (by omega) (fun p p1 p2 p3=>rows p ⟨p1,p2,p3⟩) x.toNat x ww rfl hx.1 hx.2.1 hx.2.2 bw.1 bw.2
    have r1:=rp p k1
    have r2:=rp (b - p) k2
    refine ⟨_,rfl,t.1,_,_,_,rfl,rfl,SqT.of htc,at1,_,rfl,t.1,_,_,_,rfl,rfl,SqT.of htc,at2,_,rfl,t.1,_,_,_,rfl,rfl,SqT.of htc,at3,?_⟩
    refine ⟨_,rfl,rfl,_,rfl,iteN (wd_dec false true) ?_⟩
    refine ⟨_,rfl,_,rfl,_,rfl,_,rfl,_,rfl,a,d,ws,B,p,ww,rat (h p) ww,ad,h,rfl,hw1,few,ok,tab1,B1,B2,k1,by omega,bw,⟨by omega,by omega⟩,rows,Int.le_refl _,fun v1 y1 H2 s2 o1 sv1=>?_⟩
    refine ⟨_,rfl,_,rfl,_,rfl,_,rfl,_,_,rfl,rfl,_,rfl,_,rfl,_,rfl,_,_,rfl,rfl,a,d,ws,B,b - p,ww,hh - rat (h p) ww,ad,h,rfl,hw1.same s2,few,ok,tab1.same s2,B1,B2,k2,by omega,bw,⟨by omega,by omega⟩,rows,by omega,fun v2 y2 H3 s3 o2 sv2=>?_⟩
    exact ⟨_,rfl,_,rfl,_,rfl,_,rfl,false,rat (h p) ww,v1,v2,y1,y2,rfl,o1.same s3,o2,fun v' H' s' o=>q v' _ H' (s1.trans (s2.trans (s3.trans s'))) o (Sv.lev hp r1 (by omega) sv1 sv2)⟩
theorem part_selfB {b:Int} (b1:1≤b) (b2:b≤63):isPart b b=true:=List.all_eq_true.mp part_self b (mem_upto.mpr ⟨b1,b2⟩)
def LfAt (H:Hp) (e:Lf) (v:V):Prop:=∃ a r,v=.ref a∧H a=some (.tup [.ref r,markV e.m])∧H r=some (.tup [.int e.t,.int e.l,.int e.b,.int e.r])
theorem LfAt.same {H H':Hp} {e:Lf} {v:V} (h:LfAt H e v) (s:Same H H'):LfAt H' e v:=by
 obtain ⟨a,r,e1,e2,e3⟩:=h
 exact ⟨a,r,e1,s _ _ e2,s _ _ e3⟩
inductive LsAt (H:Hp):List Lf→List V→Prop
 | nil:LsAt H [] []
 | cons {e:Lf} {v:V} {L:List Lf} {xs:List V}:LfAt H e v→LsAt H L xs→LsAt H (e :: L) (v :: xs)
theorem LsAt.same {H H':Hp} (s:Same H H'):∀ {L:List Lf} {xs:List V},LsAt H L xs→LsAt H' L xs
 | _,_,.nil=>.nil
 | _,_,.cons h t=>.cons (h.same s) (LsAt.same s t)
theorem LsAt.app {H:Hp}:∀ {L M:List Lf} {xs ys:List V},LsAt H L xs→LsAt H M ys→LsAt H (L++M) (xs++ys)
 | _,_,_,_,.nil,h=>h
 | _,_,_,_,.cons h t,h'=>.cons h (LsAt.app t h')
theorem LsAt.len {H:Hp}:∀ {L:List Lf} {xs:List V},LsAt H L xs→xs.length=L.length
 | _,_,.nil=>rfl
 | _,_,.cons _ t=>by rw [List.length_cons,List.length_cons,LsAt.len t]
theorem LsAt.get {H:Hp}:∀ {L:List Lf} {xs:List V},LsAt H L xs→∀ {i:Nat} {x:V},xs[i]?=some x→∃ e,L[i]?=some e∧LfAt H e x
 | _,_,.nil,i,x,h=>by cases h
 | _,_,.cons h t,0,x,hx=>by cases hx; exact ⟨_,rfl,h⟩
 | _,_,.cons _ t,i+1,x,hx=>LsAt.get t hx
def sp_leaves (cW cU cL:Addr) (n:Nat):Sp:=fun vs H Q _=>∃ (v:V) (x:Tr) (t l b r:Int),vs=[v,.int t,.int l,.int b,.int r]∧Obj cW cU cL H x v∧Fit x (r - l) (b - t)∧x.dp < n∧x.sz≤144∧∀ a xs H',Same H H'→H' a=some (.lst xs)→LsAt H' (lvs x t l b r) xs→Q (.ref a) H'
theorem leaves0 {cW cU cL:Addr} {vs:List V} {H:Hp} {Q:VK} {E:XK}:¬ sp_leaves cW cU cL 0 vs H Q E:=by
 rintro ⟨v,x,t,l,b,r,_,_,_,h,_⟩
 omega
theorem S_law_leaves:FnScope ["_law_tree","_law_top","_law_left","_law_bottom","_law_right","_law_at_here","_law_first"] ["_law_tree","_law_top","_law_left","_law_bottom","_law_right"] (defScope s__law_leaves):=⟨rfl,rfl,rfl,by decide +kernel,rfl,by decide +kernel,by decide +kernel⟩
theorem ok_law_leaves {f:Addr} {fd:FuncData} {n:Nat} (F:Fun K "_law_leaves" "_law_leaves" s__law_leaves f fd) (T:Txt mg t1 t2 t3 t4 t5 t6) (R:RT mg K cT cW cU cL) (D__law_leaves:DefOk P w K mg base (n+1) "_law_leaves" ["_law_tree","_law_top","_law_left","_law_bottom","_law_right"] (sp_leaves cW cU cL n)) :
  FnOk P w K mg base CX0 (n+2) f fd ["_law_tree","_law_top","_law_left","_law_bottom","_law_right"] (sp_leaves cW cU cL (n+1)):=by
 have S:=S_law_leaves
 refine F.ok S (fun vs H Q E h=>?_) (fun cdv A outer s H vs Q E hr h=>?_)
 ·obtain ⟨v,x,t,l,b,r,rfl,_⟩:=h; rfl
 ·obtain ⟨v,x,tp,lf,bt,rt,rfl,ho,fit,hd,hsz,q⟩:=h
  refine ⟨_,(pss_cons (ps_if (pt_val (pe_callB call_isinI rfl T.z_isinstance rfl (pa_cons (pv 0) (pa_cons (pe_glob (v:=.ref (cW)) rfl R.g_Whole rfl) pa_nil)))) (pss_one (ps_ret (pe_lst (pa_cons (pe_tup (pa_cons (pe_tup (pa_cons (pv 1) (pa_cons (pv 2) (pa_cons (pv 3) (pa_cons (pv 4) pa_nil))))) (pa_cons (pe_fld (pv 0) rfl) pa_nil))) pa_nil)))) pss_nil)
   (pss_cons (ps_set (i:=5) S.nd rfl (Or.inl rfl) (pe_fld (pv 0) rfl))
   (pss_cons (ps_if (pt_val (pe_callB call_isinI rfl T.z_isinstance rfl (pa_cons (pv 0) (pa_cons (pe_glob (v:=.ref (cU)) rfl R.g_Upright rfl) pa_nil)))) (pss_cons (ps_if (pt_not (pt_chain op_le op_lt pe_int (pv 5) (pe_op op_sub (pv 4) (pv 2)))) (pss_one (ps_ret (pe_lst (pa_cons pe_non pa_nil)))) pss_nil)
   (pss_cons (ps_set (i:=6) S.nd rfl (Or.inl rfl) (pe_fn D__law_leaves hr (pa_cons (pe_fld (pv 0) rfl) (pa_cons (pv 1) (pa_cons (pv 2) (pa_cons (pv 3) (pa_cons (pe_op op_add (pv 2) (pv 5)) pa_nil))))) (by omega)))
   (pss_one (ps_ret (pe_op op_cat (pv 6) (pe_fn D__law_leaves hr (pa_cons (pe_fld (pv 0) rfl) (pa_cons (pv 1) (pa_cons (pe_op op_add (pv 2) (pv 5)) (pa_cons (pv 3) (pa_cons (pv 4) pa_nil))))) (by omega))))))) pss_nil)
   (pss_cons (ps_if (PW.pt (pw_or (pt_not (pt_val (pe_callB call_isinI rfl T.z_isinstance rfl (pa_cons (pv 0) (pa_cons (pe_glob (v:=.ref (cL)) rfl R.g_Level rfl) pa_nil))))) (pw_or1 (pt_not (pt_chain op_le op_lt pe_int (pv 5) (pe_op op_sub (pv 3) (pv 1))))))) (pss_one (ps_ret (pe_lst (pa_cons pe_non pa_nil)))) pss_nil)
   (pss_cons (ps_set (i:=6) S.nd rfl (Or.inl rfl) (pe_fn D__law_leaves hr (pa_cons (pe_fld (pv 0) rfl) (pa_cons (pv 1) (pa_cons (pv 2) (pa_cons (pe_op op_add (pv 1) (pv 5)) (pa_cons (pv 4) pa_nil))))) (by omega)))
   (pss_one (ps_ret (pe_op op_cat (pv 6) (pe_fn D__law_leaves hr (pa_cons (pe_fld (pv 0) rfl) (pa_cons (pe_op op_add (pv 1) (pv 5)) (pa_cons (pv 2) (pa_cons (pv 3) (pa_cons (pv 4) pa_nil))))) (by omega)))))))))),?_⟩
  cases x with
  | whole m =>
   rw [Obj] at ho
   obtain ⟨a,dx,rfl,ha⟩:=ho
   refine ⟨_,rfl,a,cW,dx,_,_,.ref cW,true,rfl,ha,R.iW,rfl,refU,R.kWW,_,rfl,iteP rfl ?_⟩
   refine ⟨_,rfl,_,rfl,_,rfl,_,rfl,lenOk 4,fun r nr=>?_⟩
   have s1:Same H (upd H r (.tup [.int tp,.int lf,.int bt,.int rt])):=Same.new nr
   refine ⟨_,rfl,a,cW,dx,_,_,rfl,s1 _ _ ha,R.iW.cl,R.n_mark,fW _,lenOk 2,fun t nt=>?_⟩
   have s2:=Same.new (o:=.tup [.ref r,markV m]) nt
   refine ⟨lenOk 1,fun l nl=>?_⟩
   have s3:=Same.new (o:=.lst [.ref t]) nl
   exact q l _ _ (s1.trans (s2.trans s3)) upd_same (.cons ⟨t,r,rfl,s3 _ _ upd_same,s3 _ _ (s2 _ _ upd_same)⟩ .nil)
  | cut u k y1 y2 =>
   rw [Obj] at ho
   obtain ⟨a,dx,v1,v2,rfl,ha,o1,o2⟩:=ho
   have hd:max y1.dp y2.dp+1 < n+1:=hd
   have hsz:y1.sz+y2.sz≤144:=hsz
   refine ⟨_,rfl,a,cutC cU cL u,dx,_,_,.ref cW,false,rfl,ha,R.iC u,rfl,refU,R.kCW u,_,rfl,iteN rfl ?_⟩
   refine ⟨_,rfl,a,cutC cU cL u,dx,_,_,rfl,ha,(R.iC u).cl,R.n_at u,fC_at _ _ _,?_⟩
   cases u with
   | true =>
    simp only [Fit,if_true] at fit
    obtain ⟨k1,k2,f1,f2⟩:=fit
    refine ⟨_,rfl,a,cutC cU cL true,dx,_,_,.ref cU,true,rfl,ha,R.iC true,rfl,refU,R.kCC true true,_,rfl,iteP rfl ?_⟩
    refine ⟨_,rfl,_,_,rfl,rfl,_,rfl,ite3 (fun _=>?_) (fun z=>absurd k1 (of_decide_eq_false z))⟩
    refine ⟨_,rfl,_,rfl,_,_,rfl,rfl,_,_,rfl,rfl,_,rfl,iteN (by rw [decide_eq_true k2]; rfl) ?_⟩
    refine ⟨_,rfl,a,cutC cU cL true,dx,_,_,rfl,ha,(R.iC true).cl,R.n_first true,fC_first _ _ _,_,rfl,_,rfl,_,rfl,_,rfl,_,rfl,_,_,rfl,rfl,v1,y1,tp,lf,bt,lf+k,rfl,o1,by rw [show lf+k - lf=k by omega]; exact f1,by omega,by omega,fun l1 xs1 H1 s1 hl1 L1=>?_⟩
    refine ⟨_,rfl,_,rfl,a,cutC cU cL true,dx,_,_,rfl,s1 _ _ ha,(R.iC true).cl,R.n_other true,fC_other _ _ _,_,rfl,_,rfl,_,rfl,_,_,rfl,rfl,_,rfl,_,rfl,v2,y2,tp,lf+k,bt,rt,rfl,o2.same s1,by rw [show rt - (lf+k)=rt - lf - k by omega]; exact f2,by omega,by omega,fun l2 xs2 H2 s2 hl2 L2=>?_⟩
    have n1:=L1.len
    have n2:=L2.len
    rw [lvs_len] at n1 n2
    refine ⟨l1,l2,xs1,xs2,rfl,rfl,s2 _ _ hl1,hl2,Nat.le_of_lt (small1000 (by omega)),fun p np=>?_⟩
    have s3:=Same.new (o:=.lst (xs1++xs2)) np
    refine q p _ _ (s1.trans (s2.trans s3)) upd_same ?_
    show LsAt _ (lvs y1 tp lf bt (lf+k)++lvs y2 tp (lf+k) bt rt) _
    exact ((L1.same s2).same s3).app (L2.same s3)
   | false =>
    simp only [Fit,Bool.false_eq_true,if_false] at fit
    obtain ⟨k1,k2,f1,f2⟩:=fit
    refine ⟨_,rfl,a,cutC cU cL false,dx,_,_,.ref cU,false,rfl,ha,R.iC false,rfl,refU,R.kCC false true,_,rfl,iteN rfl ?_⟩
    refine ⟨_,rfl,a,cutC cU cL false,dx,_,_,.ref cL,true,rfl,ha,R.iC false,rfl,refU,R.kCC false false,_,rfl,iteN rfl ?_⟩
    refine ⟨_,rfl,_,_,rfl,rfl,_,rfl,ite3 (fun _=>?_) (fun z=>absurd k1 (of_decide_eq_false z))⟩
    refine ⟨_,rfl,_,rfl,_,_,rfl,rfl,_,_,rfl,rfl,_,rfl,iteN (by rw [decide_eq_true k2]; rfl) ?_⟩
    refine ⟨_,rfl,a,cutC cU cL false,dx,_,_,rfl,ha,(R.iC false).cl,R.n_first false,fC_first _ _ _,_,rfl,_,rfl,_,rfl,_,rfl,_,_,rfl,rfl,_,rfl,v1,y1,tp,lf,tp+k,rt,rfl,o1,by rw [show tp+k - tp=k by omega]; exact f1,by omega,by omega,fun l1 xs1 H1 s1 hl1 L1=>?_⟩
    refine ⟨_,rfl,_,rfl,a,cutC cU cL false,dx,_,_,rfl,s1 _ _ ha,(R.iC false).cl,R.n_other false,fC_other _ _ _,_,rfl,_,rfl,_,_,rfl,rfl,_,rfl,_,rfl,_,rfl,v2,y2,tp+k,lf,bt,rt,rfl,o2.same s1,by rw [show bt - (tp+k)=bt - tp - k by omega]; exact f2,by omega,by omega,fun l2 xs2 H2 s2 hl2 L2=>?_⟩
    have n1:=L1.len
    have n2:=L2.len
    rw [lvs_len] at n1 n2
    refine ⟨l1,l2,xs1,xs2,rfl,rfl,s2 _ _ hl1,hl2,Nat.le_of_lt (small1000 (by omega)),fun p np=>?_⟩
    have s3:=Same.new (o:=.lst (xs1++xs2)) np
    refine q p _ _ (s1.trans (s2.trans s3)) upd_same ?_
    show LsAt _ (lvs y1 tp lf (tp+k) rt++lvs y2 (tp+k) lf bt rt) _
    exact ((L1.same s2).same s3).app (L2.same s3)
def sp_serves (cW cU cL:Addr):Sp:=fun vs H Q _=>∃ (v:V) (a:Addr) (ws:List Want) (x:Tr) (b w h:Int),vs=[v,.ref a,.int b,.int w,.int h]∧WantsAt H a ws∧ws.length≤6∧(∀ t∈ws,WOk t)∧Obj cW cU cL H x v∧Sv ws x b w h∧1≤b∧b≤63∧(1≤w∧w≤12)∧(1≤h∧h≤12)∧∀ H',Same H H'→Q (.bl true) H'
abbrev N_srv:List Str:=["_law_tree","_law_wants","_law_bits_here","_law_width","_law_height","_law_met","_law_leaf","_law_top","_law_left","_law_bottom","_law_right","_law_size","_law_wide","_law_high","_law_turns"]
theorem S_law_serves:FnScope N_srv ["_law_tree","_law_wants","_law_bits_here","_law_width","_law_height"] (defScope s__law_serves):=⟨rfl,rfl,rfl,by decide +kernel,rfl,by decide +kernel,by decide +kernel⟩
theorem tupD2 {K:PySem.W.Frag} {H:Hp} {t:Addr} {i j:Int} (h:H t=some (.tup [.int i,.int j])):DIs K H (.tup (.cons (.at (.int i)) (.cons (.at (.int j)) .nil))) (.ref t):=by
 rw [DIs]
 refine ⟨t,_,rfl,SqT.of h,?_⟩
 rw [DIss]; refine ⟨_,_,rfl,by rw [DIs]; exact ⟨rfl,rfl⟩,?_⟩
 rw [DIss]; refine ⟨_,_,rfl,by rw [DIs]; exact ⟨rfl,rfl⟩,?_⟩
 rw [DIss]
theorem tupD2_dep (i j:Int):dep (.tup (.cons (.at (.int i)) (.cons (.at (.int j)) .nil)))≤50:=by
 rw [dep,deps,deps,deps,dep,dep]; omega
theorem tupD2_eq {i j i' j':Int}:deq (.tup (.cons (.at (.int i)) (.cons (.at (.int j)) .nil))) (.tup (.cons (.at (.int i')) (.cons (.at (.int j')) .nil)))=(decide (i=i') && decide (j=j')):=by
 rw [deq,deqs,deqs,deqs,deq,deq,Bool.and_true]
 rfl
theorem lmarks_snoc (L:List Lf) (e:Lf):lmarks (L++[e])=lmarks L++(e.m.map Int.toNat).toList:=by
 rw [lmarks_app]
 unfold lmarks
 cases h:e.m <;> simp [h]
theorem ok_srvT {f:Addr} {cdv:Value} {A:Around} {outer:List Env} {s:Shared} {H:Hp} {E:XK} :
  ∃ rd,PSs (cxOf CX0 P w K mg base N_srv "_law_serves" (defScope s__law_serves) f cdv A outer s H E).nox ((forBody (nth (defBody s__law_serves) 1)).drop 7) rd ∧
   ∀ (D:Ends) (x0 x1 x2 x3 x4 x7 x8 x9 x10 x11 x12 x13 x14:Option V) (met m:Int) (t:Addr) (y:V) (H1:Hp),H1 t=some (.tup [y,.int m])→0≤m→m.toNat < 6→bitB met m.toNat=false →
    D.nx [x0,x1,x2,x3,x4,some (.int (met+1 * 2^m.toNat)),some (.ref t),x7,x8,x9,x10,x11,x12,x13,x14] H1→rd D [x0,x1,x2,x3,x4,some (.int met),some (.ref t),x7,x8,x9,x10,x11,x12,x13,x14] H1:=by
 have S:=S_law_serves
 refine ⟨_,(pss_cons (ps_if (pt_cmpR op_eq (pe_op op_and (pe_op op_shr (pv 5) (pe_ix ix_tup (pv 6) pe_int (fun _ _=>rfl))) pe_int) pe_int (nomark _)) (pss_one (ps_ret pe_bl)) pss_nil)
   (pss_one (ps_set (i:=5) S.nd rfl (Or.inl rfl) (pe_op op_add (pv 5) (pe_op op_shl pe_int (pe_ix ix_tup (pv 6) pe_int (fun _ _=>rfl))))))),?_⟩
 intro D x0 x1 x2 x3 x4 x7 x8 x9 x10 x11 x12 x13 x14 met m t y H1 ht m0 m5 hb q
 refine ⟨_,rfl,_,rfl,t,_,_,_,rfl,rfl,SqT.of ht,at2_1,_,_,rfl,rfl,m0,_,_,rfl,rfl,rfl,_,rfl,iteN ?_ ?_⟩
 ·rw [dec_eq]; exact hb
 ·exact ⟨_,rfl,_,rfl,t,_,_,_,rfl,rfl,SqT.of ht,at2_1,_,_,rfl,rfl,⟨by omega,by omega,by omega⟩,_,_,rfl,rfl,q⟩
def SrvI (v:V) (a:Addr) (b ww hh:Int) (LL:List Lf) (H1:Hp) (i:Nat) (σ:St) (H':Hp):Prop:=(∃ met x6 x7 x8 x9 x10 x11 x12 x13 x14,σ=[some v,some (.ref a),some (.int b),some (.int ww),some (.int hh),some (.int met),x6,x7,x8,x9,x10,x11,x12,x13,x14]∧0≤met∧met≤63∧met=msum (lmarks (LL.take i))∧∀ j,j < 6→bitB met j=decide (j∈lmarks (LL.take i)))∧Same H1 H'
theorem ok_law_serves {f:Addr} {fd:FuncData} (F:Fun K "_law_serves" "_law_serves" s__law_serves f fd) (T:Txt mg t1 t2 t3 t4 t5 t6) (D__law_leaves:DefOk P w K mg base 25 "_law_leaves" ["_law_tree","_law_top","_law_left","_law_bottom","_law_right"] (sp_leaves cW cU cL 24)):FnOk P w K mg base CX0 26 f fd ["_law_tree","_law_wants","_law_bits_here","_law_width","_law_height"] (sp_serves cW cU cL):=by
 have S:=S_law_serves
 refine F.ok S (fun vs H Q E h=>?_) (fun cdv A outer s H vs Q E hr h=>?_)
 ·obtain ⟨v,a,ws,x,b,w,h,rfl,_⟩:=h; rfl
 ·obtain ⟨v,a,ws,x,b,ww,hh,rfl,hw,few,ok,ho,sv,b1,b2,bw,bh,q⟩:=h
  obtain ⟨fit,gd,nd,mk,sm⟩:=sv_ok ok sv b1 b2
  have dp:=fit_dp bw.1 bh.1 fit
  have sz:x.sz≤144:=by
   have:=fit_sz bw.1 bh.1 fit
   have h1:ww * hh≤12 * hh:=Int.mul_le_mul_of_nonneg_right bw.2 (by omega)
   omega
  obtain ⟨tT,hT,kT⟩:=ok_srvT (f:=f) (cdv:=cdv) (A:=A) (outer:=outer) (s:=s) (H:=H) (E:=E) (P:=P) (w:=w) (K:=K) (mg:=mg) (base:=base)
  refine ⟨_,(pss_cons (ps_set (i:=5) S.nd rfl (Or.inl rfl) pe_int)
   (pss_cons (ps_for PassesOwn.never rfl (pi_list (pe_fn D__law_leaves hr (pa_cons (pv 0) (pa_cons pe_int (pa_cons pe_int (pa_cons (pv 4) (pa_cons (pv 3) pa_nil))))))) (pg_name (i:=6) S.nd rfl (Or.inl rfl)) (pss_cons (ps_if (pt_cmpR op_isN (pv 6) pe_non (nomark _)) (pss_one (ps_ret pe_bl)) pss_nil)
   (pss_cons (ps_if (pt_cmpR op_isN (pe_ix ix_tup (pv 6) pe_int (fun _ _=>rfl)) pe_non (nomark _)) (pss_one ps_continue) pss_nil)
   (pss_cons (ps_if (PW.pt (pw_or (pt_not (pt_val (pe_callB call_isin rfl T.z_isinstance rfl (pa_cons (pe_ix ix_tup (pv 6) pe_int (fun _ _=>rfl)) (pa_cons (pe_bltn (v:=.ty "int") rfl T.z_int rfl rfl) pa_nil))))) (pw_or (pt_val (pe_callB call_isin rfl T.z_isinstance rfl (pa_cons (pe_ix ix_tup (pv 6) pe_int (fun _ _=>rfl)) (pa_cons (pe_bltn (v:=.ty "bool") rfl T.z_bool rfl rfl) pa_nil)))) (pw_or (pt_cmpR op_lt (pe_ix ix_tup (pv 6) pe_int (fun _ _=>rfl)) pe_int (nomark _)) (pw_or1 (pt_cmpR op_ge (pe_ix ix_tup (pv 6) pe_int (fun _ _=>rfl)) (pe_callB call_len_seq rfl T.z_len rfl (pa_cons (pv 1) pa_nil)) (nomark _))))))) (pss_one (ps_ret pe_bl)) pss_nil)
   (pss_cons (ps_asg (pe_ix ix_tup (pv 6) pe_int (fun _ _=>rfl)) (pg_tup rfl (pgs_cons (pg_name (i:=7) S.nd rfl (Or.inl rfl)) (pgs_cons (pg_name (i:=8) S.nd rfl (Or.inl rfl)) (pgs_cons (pg_name (i:=9) S.nd rfl (Or.inl rfl)) (pgs_cons (pg_name (i:=10) S.nd rfl (Or.inl rfl)) pgs_nil))))))
   (pss_cons (ps_set (i:=11) S.nd rfl (Or.inl rfl) (pe_tup (pa_cons (pe_op op_sub (pv 10) (pv 8)) (pa_cons (pe_op op_sub (pv 9) (pv 7)) pa_nil))))
   (pss_cons (ps_asg (pe_ix ix_list (pv 1) (pe_ix ix_tup (pv 6) pe_int (fun _ _=>rfl)) (fun _ _=>rfl)) (pg_tup rfl (pgs_cons (pg_name (i:=12) S.nd rfl (Or.inl rfl)) (pgs_cons (pg_name (i:=13) S.nd rfl (Or.inl rfl)) (pgs_cons (pg_name (i:=14) S.nd rfl (Or.inl rfl)) pgs_nil)))))
   (pss_cons (ps_if (PW.pt (pw_and (pt_cmpR (op_neD hr) (pv 11) (pe_tup (pa_cons (pv 12) (pa_cons (pv 13) pa_nil))) (nomark _)) (pw_and1 (pt_not (PW.pt (pw_and (pt_truth (pv 14) (fun _=>rfl)) (pw_and1 (pt_cmpR (op_eqD hr) (pv 11) (pe_tup (pa_cons (pv 13) (pa_cons (pv 12) pa_nil))) (nomark _))))))))) (pss_one (ps_ret pe_bl)) pss_nil)
   hT))))))))
   (pss_one (ps_ret (pe_cmpR op_eq (pv 5) (pv 2) (nomark _)))))),?_⟩
  refine ⟨_,rfl,_,rfl,_,rfl,v,x,0,0,hh,ww,rfl,ho,by rw [Int.sub_zero,Int.sub_zero]; exact fit,by omega,sz,fun l xs H1 s1 hl L=>?_⟩
  have hw1:=hw.same s1
  obtain ⟨ts,ha,ht,hts⟩:=id hw1
  have lm:=lvs_marks x 0 0 hh ww
  have lok:=lvs_ok x 0 0 hh ww (by rw [Int.sub_zero,Int.sub_zero]; exact gd)
  generalize lvs x 0 0 hh ww=LL at L lm lok
  refine ⟨l,rfl,⟨_,SqL.of hl⟩,for_list (K:=K) (a:=l) (xs:=xs) (SrvI v a b ww hh LL H1)
   ⟨⟨0,_,_,_,_,_,_,_,_,_,rfl,by omega,by omega,rfl,fun j hj=>by rw [zero_bits j hj]; rfl⟩,Same.refl _⟩ (fun i σ H' _ hp=>SqL.of (hp.2 _ _ hl)) ?_ ?_⟩
  ·rintro i y σ H2 hy ⟨⟨met,x6,x7,x8,x9,x10,x11,x12,x13,x14,rfl,m0,m31,em,bits⟩,s2⟩
   obtain ⟨e,he,t,r,rfl,ht1,hr1⟩:=L.get hy
   have ht2:=s2 _ _ ht1
   have hr2:=s2 _ _ hr1
   have tk:LL.take (i+1)=LL.take i++[e]:=by rw [List.take_succ,he]; rfl
   refine ⟨_,rfl,rfl,_,rfl,iteN (decide_eq_false (by intro z; cases z)) ?_⟩
   refine ⟨_,rfl,t,_,_,_,rfl,rfl,SqT.of ht2,at2_1,rfl,_,rfl,?_⟩
   cases hm:e.m with
   | none =>
    have e0:lmarks (LL.take (i+1))=lmarks (LL.take i):=by
     rw [tk,lmarks_snoc,hm]; exact List.append_nil _
    exact iteP (decide_eq_true rfl) ⟨⟨met,_,_,_,_,_,_,_,_,_,rfl,m0,m31,by rw [e0]; exact em,fun j hj=>by rw [e0]; exact bits j hj⟩,s2⟩
   | some m =>
    rw [hm] at ht2
    have ht2:H2 t=some (.tup [.ref r,.int m]):=ht2
    obtain ⟨wt,g0,g5,hwt,alt⟩:=lok e (List.mem_of_getElem? he) m hm
    refine iteN (decide_eq_false (by intro z; cases z)) ?_
    have em2:(e.m.map Int.toNat).toList=[m.toNat]:=by rw [hm]; rfl
    have nin:m.toNat ∉ lmarks (LL.take i):=fun z=>by
     have:(lmarks (LL.take (i+1))).Nodup:=by
      have:(lmarks LL).Nodup:=by rw [lm]; exact nd
      rw [← List.take_append_drop (i+1) LL,lmarks_app,List.nodup_append] at this
      exact this.1
     rw [tk,lmarks_snoc,em2,List.nodup_append] at this
     exact this.2.2 _ z _ (List.mem_singleton.mpr rfl) rfl
    have hbit:bitB met m.toNat=false:=by rw [bits _ g5]; exact decide_eq_false nin
    obtain ⟨ad1,ad2⟩:=add_of m0 m31 g5 hbit
    have wl:m.toNat < ws.length:=(List.getElem?_eq_some_iff.mp hwt).1
    have hwt':=hwt
    rw [← hts,List.getElem?_map] at hwt'
    obtain ⟨u,hu',eu⟩:=Option.map_eq_some_iff.mp hwt'
    have hat:atI (refs ts) m=some (.ref u.1):=by
     have e:=atI_nat (xs:=refs ts) (j:=m.toNat) (v:=.ref u.1) (by rw [refs,List.getElem?_map,hu']; rfl)
     rw [Int.toNat_of_nonneg g0] at e
     exact e
    have hu2:H2 u.1=some (.tup [.int wt.1,.int wt.2.1,.bl wt.2.2]):=by
     have:=s2 _ _ (ht u (List.mem_of_getElem? hu'))
     rw [eu] at this
     exact this
    have tl:(refs ts).length=ws.length:=by rw [refs_len,← hts,List.length_map]
    refine ⟨_,rfl,t,_,_,_,rfl,rfl,SqT.of ht2,at2_1,.int m,"int","int",rfl,rfl,.inl rfl,_,rfl,iteN (by decide) ?_⟩
    refine ⟨_,rfl,t,_,_,_,rfl,rfl,SqT.of ht2,at2_1,.int m,"int","bool",rfl,rfl,.inr (.inl rfl),_,rfl,iteN (by decide) ?_⟩
    refine ⟨_,rfl,t,_,_,_,rfl,rfl,SqT.of ht2,at2_1,_,_,rfl,rfl,_,rfl,iteN (decide_eq_false (by omega)) ?_⟩
    refine ⟨_,rfl,t,_,_,_,rfl,rfl,SqT.of ht2,at2_1,_,rfl,a,_,rfl,.inl (SqL.of (s2 _ _ ha)),_,_,rfl,rfl,_,rfl,iteN (decide_eq_false (by rw [tl]; omega)) ?_⟩
    refine ⟨_,rfl,t,_,_,_,rfl,rfl,SqT.of ht2,at2_0,r,_,rfl,SqT.of hr2,rfl,_,_,rfl,_,_,rfl,_,_,rfl,_,_,rfl,rfl,?_⟩
    refine ⟨_,rfl,_,rfl,_,_,rfl,rfl,_,rfl,_,rfl,_,_,rfl,rfl,lenOk 2,fun z nz=>?_⟩
    have s3:Same H2 (upd H2 z (.tup [.int (e.r - e.l),.int (e.b - e.t)])):=Same.new nz
    have hz3:(upd H2 z (.tup [.int (e.r - e.l),.int (e.b - e.t)])) z=some (.tup [.int (e.r - e.l),.int (e.b - e.t)]):=upd_same
    generalize upd H2 z (.tup [.int (e.r - e.l),.int (e.b - e.t)])=H3 at s3 hz3 ⊢
    refine ⟨_,rfl,_,rfl,t,_,_,_,rfl,rfl,SqT.of (s3 _ _ ht2),at2_1,a,_,_,_,rfl,rfl,SqL.of (s3 _ _ (s2 _ _ ha)),hat,u.1,_,rfl,SqT.of (s3 _ _ hu2),rfl,_,_,rfl,_,_,rfl,_,_,rfl,rfl,?_⟩
    have fin:∀ (H4:Hp) (y6 y7 y8 y9 y10 y11 y12 y13 y14:Option V),Same H3 H4→SrvI v a b ww hh LL H1 (i+1) [some v,some (.ref a),some (.int b),some (.int ww),some (.int hh),some (.int (met+1 * 2^m.toNat)),y6,y7,y8,y9,y10,y11,y12,y13,y14] H4:=fun H4 y6 y7 y8 y9 y10 y11 y12 y13 y14 s4=>by
     refine ⟨⟨_,_,_,_,_,_,_,_,_,_,rfl,?_,ad1,?_,fun j hj=>?_⟩,s2.trans (s3.trans s4)⟩
     ·have:(0:Int)≤1 * 2^m.toNat:=by
       rw [Int.one_mul]
       exact Int.le_of_lt (Int.pow_pos (by decide))
      omega
     ·rw [tk,lmarks_snoc,em2,msum_app,← em]
      show met+1 * 2^m.toNat=met+(1 * 2^m.toNat+0)
      omega
     ·rw [ad2 j hj,bits j hj,tk,lmarks_snoc,em2]
      rw [Bool.eq_iff_iff]
      simp only [Bool.or_eq_true,decide_eq_true_eq,beq_iff_eq,List.mem_append,List.mem_singleton]
    refine ⟨_,rfl,_,rfl,_,rfl,lenOk 2,fun q1 nq1=>?_⟩
    have s4:Same H3 (upd H3 q1 (.tup [.int wt.1,.int wt.2.1])):=Same.new nq1
    have hq4:(upd H3 q1 (.tup [.int wt.1,.int wt.2.1])) q1=some (.tup [.int wt.1,.int wt.2.1]):=upd_same
    generalize upd H3 q1 (.tup [.int wt.1,.int wt.2.1])=H4 at s4 hq4 ⊢
    refine ⟨_,_,tupD2 (s4 _ _ hz3),tupD2 hq4,⟨_,rfl⟩,⟨_,rfl⟩,tupD2_dep _ _,_,rfl,?_⟩
    rw [if_pos rfl,tupD2_eq]
    rcases alt with ⟨z1,z2⟩ | ⟨z0,z1,z2⟩
    ·rw [decide_eq_true z1,decide_eq_true z2]
     exact iteN rfl (iteN rfl (kT _ _ _ _ _ _ _ _ _ _ _ _ _ _ met m t _ H4 (s4 _ _ (s3 _ _ ht2)) g0 g5 hbit (fin H4 _ _ _ _ _ _ _ _ _ s4)))
    ·refine ite3 (fun _=>?_) (fun _=>iteN rfl (kT _ _ _ _ _ _ _ _ _ _ _ _ _ _ met m t _ H4 (s4 _ _ (s3 _ _ ht2)) g0 g5 hbit (fin H4 _ _ _ _ _ _ _ _ _ s4)))
     refine ⟨_,rfl,wt.2.2,rfl,iteP z0 ?_⟩
     refine ⟨_,rfl,_,rfl,_,rfl,lenOk 2,fun q2 nq2=>?_⟩
     have s5:Same H4 (upd H4 q2 (.tup [.int wt.2.1,.int wt.1])):=Same.new nq2
     have hq5:(upd H4 q2 (.tup [.int wt.2.1,.int wt.1])) q2=some (.tup [.int wt.2.1,.int wt.1]):=upd_same
     generalize upd H4 q2 (.tup [.int wt.2.1,.int wt.1])=H5 at s5 hq5 ⊢
     refine ⟨_,_,tupD2 (s5 _ _ (s4 _ _ hz3)),tupD2 hq5,⟨_,rfl⟩,⟨_,rfl⟩,tupD2_dep _ _,_,rfl,?_⟩
     rw [if_neg (by decide),tupD2_eq,decide_eq_true z1,decide_eq_true z2]
     exact iteN rfl (kT _ _ _ _ _ _ _ _ _ _ _ _ _ _ met m t _ H5 (s5 _ _ (s4 _ _ (s3 _ _ ht2))) g0 g5 hbit (fin H5 _ _ _ _ _ _ _ _ _ (s4.trans s5)))
  ·rintro σ H2 ⟨⟨met,x6,x7,x8,x9,x10,x11,x12,x13,x14,rfl,m0,m31,em,bits⟩,s2⟩
   have n1:=L.len
   rw [n1,List.take_length,lm,sm] at em
   refine ⟨_,rfl,_,rfl,rfl,?_⟩
   rw [dec_eq,decide_eq_true em]
   exact q H2 (s1.trans s2)
theorem glass_uniq {co G G':Int→Option Int} {n:Nat} (g:GlassP co G n) (g':GlassP co G' n):∀ (k:Nat) (b:Int),b.toNat=k→0≤b→b≤n→G b=G' b:=by
 intro k
 induction k using Nat.strongRecOn with
 | ind k ih =>
  intro b hk b0 b2
  by_cases e:b=0
  ·rw [e,g.1,g'.1]
  ·rw [g.2 b (by omega) b2,g'.2 b (by omega) b2,ways_congr (G':=G') (by omega) fun x x0 x1=>ih x.toNat (by omega) x rfl x0 (by omega)]
def leastB (b:Int):Bool:=(List.range 6).any fun i=>decide ((1:Int) * 2^i∈plist b++[b]) && (plist (1 * 2^i)).isEmpty
theorem least_ok:(upto 63).all leastB=true:=by decide +kernel
theorem glass_all {co G:Int→Option Int} {n m:Nat} (hm:n=2^m - 1) (m5:m≤6) (g:GlassP co G n) (h:∀ i:Nat,i < m→co (1 * 2^i)≠none):∀ (k:Nat) (b:Int),b.toNat=k→0≤b→b≤n→∃ z,G b=some z:=by
 have n31:n≤63:=by rw [hm]; exact pow31 m5
 intro k
 induction k using Nat.strongRecOn with
 | ind k ih =>
  intro b hk b0 b2
  by_cases e:b=0
  ·exact ⟨0,by rw [e]; exact g.1⟩
  ·have t:=List.all_eq_true.mp least_ok b (mem_upto.mpr ⟨by omega,by omega⟩)
   unfold leastB at t
   rw [List.any_eq_true] at t
   obtain ⟨i,hi,t⟩:=t
   rw [Bool.and_eq_true,decide_eq_true_eq] at t
   obtain ⟨p1,p2⟩:=in_parts (by omega) t.1
   have im:i < m:=by
    have hi5:=List.mem_range.mp hi
    have:∀ i:Nat,i < 6→∀ m:Nat,m≤6→(1:Int) * 2^i≤((2^m - 1:Nat):Int)→i < m:=by decide +kernel
    exact this i hi5 m m5 (by rw [← hm]; omega)
   cases ec:co (1 * 2^i) with
   | none=>exact absurd ec (h i im)
   | some c =>
    obtain ⟨y,hy⟩:=ih (b - 1 * 2^i).toNat (by omega) (b - 1 * 2^i) rfl (by omega) (by omega)
    rw [g.2 b (by omega) b2]
    obtain ⟨z,hz,_⟩:=minO_le (mem_ways.mpr ⟨_,c,y,t.1,ec,hy,rfl⟩)
    exact ⟨z,hz⟩
abbrev PRow:=Nat × Tr × Int
inductive Pl (ws:List Want) (ss:List (Int × Int)) (B:Int):List PRow→Int→Int→Prop
 | nil:Pl ws ss B [] B 0
 | snoc {D:List PRow} {b g p:Int} {k:Nat} {x:Tr} {z:Int × Int} (h:Pl ws ss B D b g) (b1:1≤b) (hp:p∈plist b++[b]) (hz:ss[k]?=some z) (sv:Sv ws x p z.1 z.2):Pl ws ss B (D++[(k,x,p)]) (b - p) (g+area z)
theorem Pl.at {ws:List Want} {ss:List (Int × Int)} {B:Int} {D:List PRow} {b g:Int} (h:Pl ws ss B D b g):∀ {i:Nat} {r:PRow},D[i]?=some r→∃ b' g' z,Pl ws ss B (D.take i) b' g'∧1≤b'∧r.2.2∈plist b'++[b']∧ss[r.1]?=some z∧Sv ws r.2.1 r.2.2 z.1 z.2∧Pl ws ss B (D.take (i+1)) (b' - r.2.2) (g'+area z):=by
 induction h with
 | nil=>intro i r h; cases h
 | @snoc D b g p k x z h b1 hp hz sv ih =>
  intro i r hr
  rcases Nat.lt_trichotomy i D.length with l | l | l
  ·rw [List.getElem?_append_left l] at hr
   obtain ⟨b',g',z',q1,q2,q3,q4,q5,q6⟩:=ih hr
   exact ⟨b',g',z',by rw [List.take_append_of_le_length (by omega)]; exact q1,q2,q3,q4,q5,by rw [List.take_append_of_le_length (by omega)]; exact q6⟩
  ·rw [List.getElem?_append_right (by omega),l,Nat.sub_self] at hr
   cases hr
   refine ⟨b,g,z,by rw [l,List.take_append_of_le_length (Nat.le_refl _),List.take_length]; exact h,b1,hp,hz,sv,?_⟩
   rw [l,List.take_of_length_le (by rw [List.length_append]; exact Nat.le_refl _)]
   exact .snoc h b1 hp hz sv
  ·rw [List.getElem?_eq_none (by rw [List.length_append]; show D.length+1≤i; omega)] at hr; cases hr
def lo5 (b:Int):Int:=(((List.range 6).find? (bitB b)).getD 9:Nat)
def stepB (B b:Int):Bool:=!isPart B b || (plist b++[b]).all fun p=>isPart B (b - p) && decide (Builtin.bitAnd p (B - b)=0) && decide (Builtin.bitOr (B - b) p=B - (b - p)) && decide (1≤p) && decide (p≤b) && isPart B p && decide (lo5 p=lo5 b) && (decide (b - p=0) || decide (lo5 b < lo5 (b - p))) && decide (lo5 b < 9)
theorem step_ok:(upto 63).all (fun B=>(upto 63).all (stepB B))=true:=by decide +kernel
theorem step_of {B b p:Int} (B1:1≤B) (B2:B≤63) (b1:1≤b) (b2:b≤63) (h:isPart B b=true) (hp:p∈plist b++[b]):isPart B (b - p)=true∧Builtin.bitAnd p (B - b)=0∧Builtin.bitOr (B - b) p=B - (b - p)∧1≤p∧p≤b∧isPart B p=true∧lo5 p=lo5 b∧(b - p=0∨lo5 b < lo5 (b - p))∧lo5 b < 9:=by
 have t:=List.all_eq_true.mp (List.all_eq_true.mp step_ok B (mem_upto.mpr ⟨B1,B2⟩)) b (mem_upto.mpr ⟨b1,b2⟩)
 unfold stepB at t
 rw [h,Bool.not_true,Bool.false_or] at t
 have:=List.all_eq_true.mp t p hp
 simp only [Bool.and_eq_true,Bool.or_eq_true,decide_eq_true_eq] at this
 obtain ⟨⟨⟨⟨⟨⟨⟨⟨a,b⟩,c⟩,d⟩,e⟩,f⟩,g⟩,h⟩,i⟩:=this
 exact ⟨a,b,c,d,e,f,g,h,i⟩
theorem Pl.ok {ws:List Want} {ss:List (Int × Int)} {B:Int} (B1:1≤B) (B2:B≤63) {D:List PRow} {b g:Int} (h:Pl ws ss B D b g):0≤b∧b≤B∧isPart B b=true∧D.length+b.toNat≤B.toNat:=by
 induction h with
 | nil=>exact ⟨by omega,Int.le_refl _,part_selfB B1 B2,by show 0+B.toNat≤B.toNat; omega⟩
 | @snoc D b g p k x z h b1 hp hz sv ih =>
  obtain ⟨i1,i2,i3,i4⟩:=ih
  obtain ⟨s1,_,_,s4,s5,_⟩:=step_of B1 B2 b1 (by omega) i3 hp
  refine ⟨by omega,by omega,s1,?_⟩
  rw [List.length_append,List.length_singleton]
  omega
theorem full_part:∀ n:Nat,n≤6→(upto (2^n - 1)).all (fun p=>isPart ((2^n - 1:Nat):Int) p)=true:=by decide +kernel
def sp_served (cP:Addr):Sp:=fun vs H Q E=>∃ (a c:Addr) (ws:List Want) (n:Nat) (co:Int→Option Int),vs=[.ref a,.ref c]∧WantsAt H a ws∧ws.length≤6∧Chp H c n co∧n=2^ws.length - 1 ∧
 ((∀ i:Nat,i < ws.length→co (1 * 2^i)≠none)→∀ H',Same H H'→Q .non H')∧∀ i:Nat,i < ws.length→(∀ j:Nat,j < i→co (1 * 2^j)≠none)→co (1 * 2^i)=none→Rf H E cP fun fs _=>fs=[(("want":Str),.int i)]
def RwAt (cW cU cL:Addr) (H:Hp) (r:PRow) (v:V):Prop:=∃ t u,v=.ref t∧H t=some (.tup [.int r.1,u])∧Obj cW cU cL H r.2.1 u
inductive RwsAt (cW cU cL:Addr) (H:Hp):List PRow→List V→Prop
 | nil:RwsAt cW cU cL H [] []
 | snoc {D:List PRow} {xs:List V} {r:PRow} {v:V}:RwsAt cW cU cL H D xs→RwAt cW cU cL H r v→RwsAt cW cU cL H (D++[r]) (xs++[v])
theorem RwAt.kp {H H':Hp} {r:PRow} {v:V} (s:∀ b o,H b=some o→(∀ xs,o≠.lst xs)→H' b=some o) (h:RwAt cW cU cL H r v):RwAt cW cU cL H' r v:=by
 obtain ⟨t,u,e,ht,ho⟩:=h
 refine ⟨t,u,e,s _ _ ht (fun xs z=>by cases z),?_⟩
 generalize r.2.1=x at ho
 clear e ht
 induction x generalizing u with
 | whole m=>rw [Obj] at ho ⊢; obtain ⟨a,dx,e,h⟩:=ho; exact ⟨a,dx,e,s _ _ h (fun xs z=>by cases z)⟩
 | cut w k x y ihx ihy=>rw [Obj] at ho ⊢; obtain ⟨a,dx,vx,vy,e,h,h1,h2⟩:=ho; exact ⟨a,dx,vx,vy,e,s _ _ h (fun xs z=>by cases z),ihx _ h1,ihy _ h2⟩
theorem RwsAt.kp {H H':Hp} (s:∀ b o,H b=some o→(∀ xs,o≠.lst xs)→H' b=some o) {D:List PRow} {xs:List V} (h:RwsAt cW cU cL H D xs):RwsAt cW cU cL H' D xs:=by
 induction h with
 | nil=>exact .nil
 | snoc _ r ih=>exact .snoc ih (r.kp s)
theorem RwsAt.len {H:Hp} {D:List PRow} {xs:List V} (h:RwsAt cW cU cL H D xs):xs.length=D.length:=by
 induction h with
 | nil=>rfl
 | snoc _ _ ih=>rw [List.length_append,List.length_append,ih]; rfl
theorem RwsAt.get {H:Hp} {D:List PRow} {xs:List V} (h:RwsAt cW cU cL H D xs):∀ {i:Nat} {v:V},xs[i]?=some v→∃ r,D[i]?=some r∧RwAt cW cU cL H r v:=by
 induction h with
 | nil=>intro i v h; cases h
 | @snoc D xs r v h hr ih =>
  intro i u hu
  have n:=h.len
  rcases Nat.lt_trichotomy i xs.length with l | l | l
  ·rw [List.getElem?_append_left l] at hu
   obtain ⟨r',h1,h2⟩:=ih hu
   exact ⟨r',by rw [List.getElem?_append_left (by omega)]; exact h1,h2⟩
  ·rw [List.getElem?_append_right (by omega),l,Nat.sub_self] at hu
   cases hu
   exact ⟨r,by rw [List.getElem?_append_right (by omega),l,n,Nat.sub_self]; rfl,hr⟩
  ·rw [List.getElem?_eq_none (by rw [List.length_append]; show xs.length+1≤i; omega)] at hu; cases hu
def sp_plan (cW cU cL cP:Addr):Sp:=fun vs H Q E=>∃ (a b:Addr) (ws:List Want) (ss:List (Int × Int)) (n:Nat) (h:Int→List Int) (G:Int→Option Int),vs=[.ref a,.ref b]∧WantsAt H a ws∧ws.length≤6∧(∀ t∈ws,WOk t)∧TupL H b ss∧1≤ss.length∧ss.length≤4∧(∀ z∈ss,SOk z)∧n=2^ws.length - 1 ∧
 (∀ p:Int,1≤p→p≤(n:Int)→Row ws h p)∧(∀ p:Int,1≤p→p≤(n:Int)→(h p).length=13)∧GlassP (fun q=>cost (h q) ss) G n ∧
 ((∀ i:Nat,i < ws.length→cost (h (1 * 2^i)) ss≠none)→∀ l xs D g H',Same H H'→H l=none→H' l=some (.lst xs)→RwsAt cW cU cL H' D xs→Pl ws ss n D 0 g→G n=some g→Q (.ref l) H') ∧
 ∀ i:Nat,i < ws.length→(∀ j:Nat,j < i→cost (h (1 * 2^j)) ss≠none)→cost (h (1 * 2^i)) ss=none→Rf H E cP fun fs _=>fs=[(("want":Str),.int i)]
theorem S_check_served:FnScope ["wants","cheapest","number"] ["wants","cheapest"] (defScope s_check_served):=⟨rfl,rfl,rfl,by decide +kernel,rfl,by decide +kernel,by decide +kernel⟩
theorem pow_lt {i m:Nat} (hm:m≤6) (h:i < m):(1:Int)≤1 * 2^i∧(1:Int) * 2^i≤((2^m - 1:Nat):Int):=by
 have:∀ m:Nat,m≤6→∀ i:Nat,i < m→(1:Int)≤1 * 2^i∧(1:Int) * 2^i≤((2^m - 1:Nat):Int):=by decide +kernel
 exact this m hm i h
theorem ok_check_served {f:Addr} {fd:FuncData} (F:Fun K "check_served" "check_served" s_check_served f fd) (T:Txt mg t1 t2 t3 t4 t5 t6) (X_NoPlan:XMkOk P w K mg base 1 "NoPlan" cP ["self","want"] ["want"]):FnOk P w K mg base (CX1 P w) 3 f fd ["wants","cheapest"] (sp_served cP):=by
 have S:=S_check_served
 refine F.okx S (fun vs H Q E h=>?_) (fun cdv A outer s H vs Q E hr h=>?_)
 ·obtain ⟨a,c,ws,n,co,rfl,_⟩:=h; rfl
 ·obtain ⟨a,c,ws,n,co,rfl,⟨ts,ha,ht,hts⟩,few,chp,hn,q,r⟩:=h
  have hu:=hu_of hr
  have tl:(refs ts).length=ws.length:=by rw [refs_len,← hts,List.length_map]
  obtain ⟨kvs,c1,c2⟩:=chp.is
  refine ⟨_,(pss_one (ps_for own_cx rfl (pi_range1 rfl T.z_range (pa_cons (pe_callB call_len_seq rfl T.z_len rfl (pa_cons (pv 0) pa_nil)) pa_nil)) (pg_name (i:=2) S.nd rfl (Or.inl rfl)) (pss_one (ps_if (pt_cmp (pc_dnotin hu (pe_op op_shl pe_int (pv 2)) (pv 1))) (pss_one (ps_raise xeok_cx X_NoPlan hr (pa_cons (pv 2) pa_nil))) pss_nil)))),?_⟩
  refine ⟨_,rfl,a,_,rfl,.inl (SqL.of ha),_,rfl,by rw [tl]; omega,by rw [tl]; omega,?_⟩
  rw [tl,Int.toNat_natCast]
  refine for_range (lo:=0) (n:=ws.length) (fun i σ H'=>(∃ y,σ=[some (.ref a),some (.ref c),y])∧Same H H'∧∀ j:Nat,j < i→co (1 * 2^j)≠none) ⟨⟨none,rfl⟩,Same.refl _,fun j hj=>absurd hj (Nat.not_lt_zero _)⟩ ?_ ?_
  ·rintro i σ H1 hi ⟨⟨y,rfl⟩,s1,all⟩
   rw [Int.zero_add]
   obtain ⟨p1,p2⟩:=pow_lt few hi
   obtain ⟨is,_⟩:=c2 (1 * 2^i) p1 (by rw [hn]; exact p2)
   refine ⟨_,rfl,_,_,rfl,rfl,⟨by omega,by omega,by omega⟩,_,rfl,c,_,rfl,DGet.k (k:=Sum.inl (1 * 2^((i:Nat):Int).toNat)) (s1 _ _ c1),_,rfl,?_⟩
   rw [Int.toNat_natCast,is]
   cases ec:co (1 * 2^i) with
   | none=>exact iteP rfl ⟨_,rfl,rfl,fun y dx T H3 hy s3 e ed nd hT nT=>(r i hi all ec).raise s1 hy s3 e ed nd hT rfl⟩
   | some m =>
    refine iteN rfl ⟨⟨_,rfl⟩,s1,fun j hj=>?_⟩
    rcases Nat.lt_or_ge j i with h | h
    ·exact all j h
    ·rw [show j=i by omega,ec]; exact fun z=>nomatch z
  ·rintro σ H1 ⟨_,s1,all⟩
   exact q all H1 s1
theorem ChpS.congr {H:Hp} {c:Addr} {n:Nat} {h h':Int→List Int} {ss:List (Int × Int)} (x:ChpS H c n h ss) (e:∀ q:Int,1≤q→q≤n→h q=h' q):ChpS H c n h' ss:=by
 obtain ⟨kvs,a,b,d,r⟩:=x
 exact ⟨kvs,a,b,d,fun q q1 q2=>by rw [← e q q1 q2]; exact r q q1 q2⟩
theorem cost_some {r:List Int} {ss:List (Int × Int)} {m y:Int} (h:ShOk r ss (m,y)):∃ (k:Nat) (z:Int × Int),y=k∧ss[k]?=some z∧rat r z.1≤z.2∧m=area z:=by
 obtain ⟨k,z,e1,e2,e3,e4⟩:=h
 exact ⟨k,z,e1,e2,of_decide_eq_true e3,e4⟩
abbrev N_plan:List Str:=["wants","sheets","heights","cheapest","bits","glass","told","part","number","size"]
theorem S_plan:FnScope N_plan ["wants","sheets"] (defScope s_plan):=⟨rfl,rfl,rfl,by decide +kernel,rfl,by decide +kernel,by decide +kernel⟩
def muP:St→Nat
 | [_,_,_,_,some (.int b),_,_,_,_,_]=>b.toNat
 | _=>0
theorem ok_plan {f:Addr} {fd:FuncData} (F:Fun K "plan" "plan" s_plan f fd) (T:Txt mg t1 t2 t3 t4 t5 t6) (D_heights_for:DefOk P w K mg base 6 "heights_for" ["wants","sheets"] sp_hfor) (D_cheapest_sheets:DefOk P w K mg base 1 "cheapest_sheets" ["heights","sheets"] sp_cheap) (D_check_served:DefOkX P w K mg base 3 "check_served" ["wants","cheapest"] (sp_served cP))
  (D_all_bits:DefOk P w K mg base 1 "all_bits" ["wants"] sp_bits) (D_glass_by_set:DefOk P w K mg base 4 "glass_by_set" ["cheapest","bits"] sp_glass) (D_first_sheets:DefOk P w K mg base 3 "first_sheets" ["cheapest","glass","bits"] sp_first) (D_tree_for:DefOk P w K mg base 11 "tree_for" ["wants","heights","bits","width","height"] (sp_tree cW cU cL 7)) :
  FnOk P w K mg base (CX1 P w) 12 f fd ["wants","sheets"] (sp_plan cW cU cL cP):=by
 have S:=S_plan
 refine F.okx S (fun vs H Q E h=>?_) (fun cdv A outer s H vs Q E hr h=>?_)
 ·obtain ⟨a,b,ws,ss,n,h,G,rfl,_⟩:=h; rfl
 ·obtain ⟨a,b0,ws,ss,n,h,G,rfl,hw,few,ok,tb,l1,l2,so,hn,rows,len,gp,qT,qR⟩:=h
  have hu:=hu_of hr
  have n31:n≤63:=by rw [hn]; exact pow31 few
  refine ⟨_,(pss_cons (ps_set (i:=2) S.nd rfl (Or.inl rfl) (pe_fn D_heights_for hr (pa_cons (pv 0) (pa_cons (pv 1) pa_nil))))
   (pss_cons (ps_set (i:=3) S.nd rfl (Or.inl rfl) (pe_fn D_cheapest_sheets hr (pa_cons (pv 2) (pa_cons (pv 1) pa_nil))))
   (pss_cons (ps_expr (pe_fnx D_check_served hr (pass_x xeok_cx (pass_u (H:=H) (E:=E))) (pa_cons (pv 0) (pa_cons (pv 3) pa_nil))))
   (pss_cons (ps_set (i:=4) S.nd rfl (Or.inl rfl) (pe_fn D_all_bits hr (pa_cons (pv 0) pa_nil)))
   (pss_cons (ps_set (i:=5) S.nd rfl (Or.inl rfl) (pe_fn D_glass_by_set hr (pa_cons (pv 3) (pa_cons (pv 4) pa_nil))))
   (pss_cons (ps_set (i:=6) S.nd rfl (Or.inl rfl) (pe_lst pa_nil))
   (pss_cons (ps_while own_cx (pt_cmpR op_gt (pv 4) pe_int (nomark _)) (pss_cons (ps_set (i:=7) S.nd rfl (Or.inl rfl) (pe_ix ix_tup (pe_callB (call_minT hu) rfl T.z_min rfl (pa_cons (pe_fn D_first_sheets hr (pa_cons (pv 3) (pa_cons (pv 5) (pa_cons (pv 4) pa_nil)))) pa_nil)) pe_int (fun _ _=>rfl)))
   (pss_cons (ps_set (i:=8) S.nd rfl (Or.inl rfl) (pe_ix ix_tup (pe_dget hu (pv 3) (pv 7) (fun _ _=>rfl)) pe_int (fun _ _=>rfl)))
   (pss_cons (ps_set (i:=9) S.nd rfl (Or.inl rfl) (pe_ix ix_list (pv 1) (pv 8) (fun _ _=>rfl)))
   (pss_cons (ps_expr (pe_bm PySem.F.plainAttrs_list PySem.F.slot_list_append PySem.F.type_list_append mt_append (pv 6) (pa_cons (pe_tup (pa_cons (pv 8) (pa_cons (pe_fn D_tree_for hr (pa_cons (pv 0) (pa_cons (pv 2) (pa_cons (pv 7) (pa_cons (pe_ix ix_tup (pv 9) pe_int (fun _ _=>rfl)) (pa_cons (pe_ix ix_tup (pv 9) pe_int (fun _ _=>rfl)) pa_nil)))))) pa_nil))) pa_nil)))
   (pss_one (ps_aug (i:=4) S.nd rfl (Or.inl rfl) (pv 7) ip_sub)))))))
   (pss_one (ps_ret (pv 6)))))))))),?_⟩
  refine ⟨_,rfl,_,rfl,a,b0,ws,ss,rfl,hw,few,ok,tb,l1,l2,so,fun d ad h' H1 s1 nd tab rows'=>?_⟩
  rw [← hn] at tab rows'
  have heq:=rows_eq ok rows' rows (fun p p1 p2=>(tab.2 p p1 p2).2) len
  have heq:∀ p:Int,1≤p→p≤n→h' p=h p:=fun p p1 p2=>heq p.toNat p rfl p1 p2
  refine ⟨_,rfl,_,rfl,d,b0,ss,n,ad,h',rfl,tab,by omega,tb.same s1,l2,so,fun c H2 s2 rd2 nc chp=>?_⟩
  have s02:Same H H2:=s2.same s1 nd
  have chp:=chp.congr heq
  have full:∀ p:Int,1≤p→p≤(n:Int)→isPart (n:Int) p=true:=fun p p1 p2=>by
   have:=List.all_eq_true.mp (full_part ws.length few) p (mem_upto.mpr ⟨p1,by rw [← hn]; exact p2⟩)
   rw [← hn] at this
   exact this
  have okB':∀ p:Int,1≤p→p≤(n:Int)→okB n p:=fun p p1 p2=>⟨p1,p2,full p p1 p2⟩
  have tabg:TabG H2 d (okB n) ad h:=by
   refine ⟨⟨_,rd2,fun p hp=>by rw [kv_val,if_pos ⟨hp.1,hp.2.1⟩]⟩,fun p hp=>?_⟩
   obtain ⟨r1,r2⟩:=tab.2 p hp.1 hp.2.1
   rw [heq p hp.1 hp.2.1] at r1 r2
   exact ⟨s2 _ _ (fun z=>by rw [z,tab.1] at r1; cases r1) r1,r2⟩
  refine ⟨_,rfl,_,rfl,a,c,ws,n,_,rfl,hw.same s02,few,chp.chp,hn,fun all H3 s3=>?_,fun i hi al ec=>rf_u s02 (qR i hi al ec) stb_eq⟩
  have s03:=s02.trans s3
  have hw3:=hw.same s03
  have tabg3:=tabg.same s3
  have chp3:=chp.same s3
  have tb3:=tb.same s03
  obtain ⟨ts,ha,ht,hts⟩:=id hw3
  have tl:(refs ts).length=ws.length:=by rw [refs_len,← hts,List.length_map]
  refine ⟨_,rfl,a,refs ts,rfl,ha,by omega,?_⟩
  refine ⟨_,rfl,_,rfl,c,ws.length,_,by rw [tl]; rfl,by omega,by rw [← hn]; exact chp3.chp,fun g G' H4 s4 ng hg gp'=>?_⟩
  rw [← hn] at hg gp'
  have geq:∀ x:Int,0≤x→x≤n→G' x=G x:=fun x x0 x1=>glass_uniq gp' gp x.toNat x rfl x0 x1
  rw [gk_congr n geq] at hg
  refine ⟨lenOk 0,fun l nl=>?_⟩
  have s5:Same H4 (upd H4 l (.lst [])):=Same.new nl
  have hl5:(upd H4 l (.lst [])) l=some (.lst []):=upd_same
  have nl0:H l=none:=wasNone (s03.trans s4) nl
  generalize upd H4 l (.lst [])=H5 at s5 hl5 ⊢
  have bits:((1:Int) * 2^(((refs ts).length:Nat):Int).toNat - 1)=(n:Int):=by
   rw [tl]
   have:∀ m:Nat,m≤6→(1:Int) * 2^((m:Nat):Int).toNat - 1=((2^m - 1:Nat):Int):=by decide +kernel
   rw [this _ few,← hn]
  have s04:=s03.trans s4
  have wt4:=hw.same s04
  have tg4:=tabg3.same s4
  have ch4:=chp3.same s4
  have tb4:=tb.same s04
  obtain ⟨TT,hTT⟩:=glass_all hn few gp all (n:Int).toNat (n:Int) rfl (by omega) (Int.le_refl _)
  refine while_by (fun σ H'=>∃ (b:Int) (xs:List V) (D:List PRow) (g0:Int) (x7 x8 x9:Option V),σ=[some (.ref a),some (.ref b0),some (.ref d),some (.ref c),some (.int b),some (.ref g),some (.ref l),x7,x8,x9]∧SameX l H5 H'∧H' l=some (.lst xs)∧RwsAt cW cU cL H' D xs∧Pl ws ss n D b g0∧0≤b∧b≤n∧∃ gr,G b=some gr∧g0+gr=TT)
   (fun σ _=>muP σ) ⟨n,[],[],0,none,none,none,by rw [bits]; rfl,SameX.refl,hl5,.nil,.nil,by omega,Int.le_refl _,TT,hTT,by omega⟩ ?_ ?_
  ·rintro σ H6 ⟨b,xs,D,g0,x7,x8,x9,rfl,s6,hl6,rw6,pl,b0',b2,gr,hgr,sum⟩
   have s46:Same H4 H6:=fun x o e=>s6 x o (ne_of_none e nl) (s5 x o e)
   refine ⟨_,rfl,_,_,rfl,rfl,_,rfl,ite3 (fun c0=>?_) (fun c0=>?_)⟩
   ·have c0:=of_decide_eq_true c0
    obtain ⟨i,rfl⟩:∃ i:Nat,b=1+(i:Int):=⟨(b - 1).toNat,by omega⟩
    have b1:1≤1+(i:Int):=by omega
    refine ⟨_,rfl,_,rfl,_,rfl,c,g,n,i,n,_,G,rfl,(ch4.same s46).chp,by omega,by omega,by omega,s46 _ _ hg,fun lw H7 s7 nlw tw=>?_⟩
    obtain ⟨us,e1,e2,e3⟩:=tw
    have gb:=gp.2 (1+(i:Int)) b1 b2
    rw [hgr] at gb
    have ne:us≠[]:=fun z=>by
     rw [z] at e3
     rw [← e3] at gb
     cases gb
    refine ⟨lw,us,rfl,SqL.of e1,rfl,ne,e2,fun u hu' least=>⟨u.1,_,_,_,rfl,rfl,SqT.of (e2 u hu'),at2_1,?_⟩⟩
    have um:u.2∈waysL (fun q=>cost (h q) ss) G (1+(i:Int)):=by rw [← e3]; exact List.mem_map.mpr ⟨u,hu',rfl⟩
    obtain ⟨p,hp,hway⟩:=List.mem_filterMap.mp (show u.2∈(plist (1+(i:Int))++[1+(i:Int)]).filterMap _ from um)
    unfold wayOf at hway
    cases ec:cost (h p) ss with
    | none=>simp only [ec] at hway; cases hway
    | some cst =>
     simp only [ec] at hway
     cases eg:G (1+(i:Int) - p) with
     | none=>simp only [eg] at hway; cases hway
     | some g' =>
      simp only [eg] at hway
      have eu:u.2=(cst+g',p):=(Option.some.inj hway).symm
      have hmin:minO ((waysL (fun q=>cost (h q) ss) G (1+(i:Int))).map (·.1))=some u.2.1:=minO_of (List.mem_map.mpr ⟨u.2,um,rfl⟩) fun y hy=>by
       obtain ⟨z,hz,rfl⟩:=List.mem_map.mp hy
       rw [← e3] at hz
       obtain ⟨v,hv,rfl⟩:=List.mem_map.mp hz
       exact least v hv
      rw [hmin] at gb
      have egr:gr=cst+g':=by
       rw [eu] at gb
       exact Option.some.inj gb
      have n1:(1:Int)≤n:=by omega
      obtain ⟨f1,f2,f3,f4,f5,f6,_⟩:=step_of n1 (by omega) b1 (by omega) (full _ b1 b2) hp
      have eu2:u.2.2=p:=by rw [eu]
      rw [eu2]
      have s47:=s46.trans s7
      obtain ⟨kvs,k1,k2,k3,k4⟩:=ch4.same s47
      rcases k4 p f4 (by omega) with ⟨z,_⟩ | ⟨m,a',y,z1,z2,z3,z4⟩
      ·rw [ec] at z; cases z
      obtain ⟨k,z,rfl,hz,hrat,earea⟩:=cost_some z4
      have em:m=cst:=by rw [ec] at z1; exact (Option.some.inj z1).symm
      have dg:DGet H7 c (.int p) (some (.ref a')):=.inl ⟨kvs,Sum.inl p,.inl k1,rfl,z2.symm⟩
      refine ⟨_,rfl,_,rfl,c,_,rfl,dg,a',_,_,_,rfl,rfl,SqT.of z3,at2_1,?_⟩
      obtain ⟨ts7,t1,t2,t3⟩:=tb4.same s47
      have hzt:=hz
      rw [← t3,List.getElem?_map] at hzt
      obtain ⟨v,hv,rfl⟩:=Option.map_eq_some_iff.mp hzt
      have hvs:=t2 v (List.mem_of_getElem? hv)
      obtain ⟨o1,o2,o3,o4⟩:=so v.2 (List.mem_of_getElem? hz)
      refine ⟨_,rfl,_,rfl,b0,_,_,_,rfl,rfl,SqL.of t1,at_refs (by omega) (by rw [Int.toNat_natCast]; exact hv),?_⟩
      have hl7:=s7 _ _ hl6
      refine ⟨_,rfl,.inl ⟨rfl,_,SqL.of hl7⟩,_,rfl,_,rfl,_,rfl,_,rfl,_,rfl,v.1,_,_,_,rfl,rfl,SqT.of hvs,at2_0,_,rfl,v.1,_,_,_,rfl,rfl,SqT.of hvs,at2_1,a,d,ws,n,p,v.2.1,v.2.2,ad,h,rfl,wt4.same s47,few,ok,tg4.same s47,n1,by rw [← hn]; exact Int.le_refl _,⟨f4,by omega,f6⟩,?_,⟨o1,o2⟩,⟨o3,o4⟩,fun q hq=>rows q hq.1 hq.2.1,hrat,fun w x H8 s8 o sv=>⟨lenOk 2,fun t nt=>?_⟩⟩
      ·have:=pc_small p.toNat (by omega)
       rw [Int.toNat_of_nonneg (by omega)] at this
       exact this
      have s9:=Same.new (o:=.tup [.int (k:Int),w]) nt
      have hl8:=s8 _ _ hl7
      have xl:=rw6.len
      have dl:=(pl.ok n1 (by omega)).2.2.2
      refine ⟨l,_,_,rfl,rfl,s9 _ _ hl8,small1000 (by omega),?_⟩
      refine ⟨_,rfl,_,rfl,_,_,rfl,rfl,⟨1+(i:Int) - p,_,D++[(k,x,p)],g0+area v.2,_,_,_,rfl,?_,upd_same,?_,.snoc pl b1 hp hz sv,by omega,by omega,g',eg,by omega⟩,?_⟩
      ·exact ((s6.trans (s7.trans (s8.trans s9)).x).trans SameX.upd)
      ·have kp:∀ (b:Addr) (o:HO),(upd H8 t (.tup [.int (k:Int),w])) b=some o→(∀ xs,o≠.lst xs)→(upd (upd H8 t (.tup [.int (k:Int),w])) l (.lst (xs++[.ref t]))) b=some o:=fun b o e no=>by rw [upd_ne (ne_of e (s9 _ _ hl8) (no _))]; exact e
       refine .snoc ((rw6.kp fun b o e _=>s9 _ _ (s8 _ _ (s7 _ _ e))).kp kp) (RwAt.kp kp ⟨t,w,rfl,upd_same,o.same s9⟩)
      ·show (1+(i:Int) - p).toNat < (1+(i:Int)).toNat
       omega
   ·have c0:=of_decide_eq_false c0
    have eb:b=0:=by omega
    subst eb
    have:gr=0:=by rw [gp.1] at hgr; exact (Option.some.inj hgr).symm
    exact ⟨_,rfl,qT all l xs D g0 H6 (s6.same (s04.trans s5) nl0) nl0 hl6 rw6 pl (by rw [hTT]; congr 1; omega)⟩
  ·intro σ H6 Q1 Q2 hq hc
   obtain ⟨v,e1,i,j,e2,e3,k,e4,q⟩:=hc
   exact ⟨v,e1,i,j,e2,e3,k,e4,hq _ _ q⟩
def sp_more (K:PySem.W.Frag):Sp:=fun vs H Q _=>∃ (a:Addr) (ns:List Int) (k m:Int),vs=[.ref a,.int k,.int m]∧SqL K H a (ns.map V.int)∧0≤k∧k≤100∧0≤m∧m≤100∧∀ l ms H',Same H H'→H l=none→H' l=some (.lst ((ms:List Int).map V.int))→Q (.ref l) H'
def sp_mark:Sp:=fun vs H Q _=>∃ (n:Int),vs=[.int n]∧∀ m H',Same H H'→Q (markV m) H'
def sp_drawn (n:Nat):Sp:=fun vs H Q _=>∃ (l:Addr) (ms:List Int) (w h:Int),vs=[.ref l,.int w,.int h]∧H l=some (.lst (ms.map V.int))∧1≤w∧1≤h∧w+h < n∧w≤12∧h≤12 ∧
 ∀ v t H' ms',SameX l H H'→H' l=some (.lst ((ms':List Int).map V.int))→Told H' t v→Fit t w h→Q v H'
theorem S_law_more:FnScope ["_law_script","_law_at_here","_law_many"] ["_law_script","_law_at_here","_law_many"] (defScope s__law_more):=⟨rfl,rfl,rfl,by decide +kernel,rfl,by decide +kernel,by decide +kernel⟩
theorem ok_law_more {f:Addr} {fd:FuncData} (F:Fun K "_law_more" "_law_more" s__law_more f fd) (T:Txt mg t1 t2 t3 t4 t5 t6) (D__law_at:DefOk P w K mg base 1 "_law_at" ["_law_script","_law_k"] (sp_at K)):FnOk P w K mg base CX0 2 f fd ["_law_script","_law_at_here","_law_many"] (sp_more K):=by
 have S:=S_law_more
 refine F.ok S (fun vs H Q E h=>?_) (fun cdv A outer s H vs Q E hr h=>?_)
 ·obtain ⟨a,ns,k,m,rfl,_⟩:=h; rfl
 ·obtain ⟨a,ns,k,m,rfl,hS,k0,k1,m0,m1,q⟩:=h
  refine ⟨_,(pss_one (ps_ret (pe_comp rfl (pi_range1 rfl T.z_range (pa_cons (pv 2) pa_nil)) (fun _ _ _ _ _=>(pg_name (i:=0) (show List.Nodup (["_law_k","_law_script","_law_at_here"]:List Str) from by decide +kernel) rfl (Or.inl rfl))) (fun _ _ _ _ _=>(pe_fn D__law_at hr (pa_cons (pv 1) (pa_cons (pe_op op_add (pv 2) (pv 0)) pa_nil)))) (N:=["_law_k","_law_script","_law_at_here"]) (fr:=[none,some 0,some 1])))),?_⟩
  refine ⟨_,rfl,m,rfl,by omega,by omega,fun acc hacc=>comp_range (lo:=0) (n:=m.toNat)
   (fun i xs σ H'=>(∃ y,σ=[y,some (.ref a),some (.int k)])∧Same H H'∧∃ ms:List Int,xs=ms.map V.int) ⟨⟨none,rfl⟩,Same.new hacc,[],rfl⟩ ?_ ?_⟩
  ·rintro i xs σ H' hi hl hacc' ⟨⟨y,rfl⟩,hs,ms,rfl⟩
   refine ⟨_,rfl,_,rfl,_,rfl,_,_,rfl,rfl,a,ns,_,rfl,hs.seq hS,by omega,by omega,fun z H2 s2=>cNx.mk (Nat.le_of_lt (small1000 (by omega))) hi hl (s2 _ _ hacc') ⟨⟨_,rfl⟩,fun b o e=>?_,ms++[z],by rw [List.map_append]; rfl⟩⟩
   rw [upd_ne (ne_of_none e hacc)]; exact s2 b o (hs b o e)
  ·rintro xs σ H' hl hacc' ⟨_,hs,ms,rfl⟩
   exact q acc ms H' hs hacc hacc'
theorem S_law_mark:FnScope ["_law_number"] ["_law_number"] (defScope s__law_mark):=⟨rfl,rfl,rfl,by decide +kernel,rfl,by decide +kernel,by decide +kernel⟩
theorem ok_law_mark {f:Addr} {fd:FuncData} (F:Fun K "_law_mark" "_law_mark" s__law_mark f fd):FnOk P w K mg base CX0 1 f fd ["_law_number"] sp_mark:=by
 have S:=S_law_mark
 refine F.ok S (fun vs H Q E h=>?_) (fun cdv A outer s H vs Q E hr h=>?_)
 ·obtain ⟨n,rfl,_⟩:=h; rfl
 ·obtain ⟨n,rfl,q⟩:=h
  refine ⟨_,(pss_one (ps_ret (pe_ix ix_list (pe_lst (pa_cons pe_non (pa_cons (pe_op op_mod (pe_op op_fdivL (pv 0) pe_int) pe_int) (pa_cons (pe_op op_mod (pe_op op_fdivL (pv 0) pe_int) pe_int) (pa_cons pe_non pa_nil))))) (pe_op op_mod (pv 0) pe_int) (fun _ _=>rfl)))),?_⟩
  refine ⟨_,rfl,_,_,rfl,rfl,divL _ (by decide) (by decide),_,_,rfl,rfl,(show (0:Int) < 1000 from by decide),_,rfl,_,_,rfl,rfl,divL _ (by decide) (by decide),_,_,rfl,rfl,(show (0:Int) < 7 from by decide),lenOk 4,fun t ht=>?_⟩
  obtain ⟨m,hm⟩:∃ m,atI [V.non,V.int (n / 4 % 1000),V.int (n / 4 % 7),V.non] (n % 4)=some (markV m):=by
   have h0:=Int.emod_nonneg n (b:=4) (by decide)
   have h1:=Int.emod_lt_of_pos n (b:=4) (by decide)
   obtain e | e | e | e:n % 4=0∨n % 4=1∨n % 4=2∨n % 4=3:=by omega
   ·rw [e]; exact ⟨none,rfl⟩
   ·rw [e]; exact ⟨some _,rfl⟩
   ·rw [e]; exact ⟨some _,rfl⟩
   ·rw [e]; exact ⟨none,rfl⟩
  exact ⟨_,rfl,_,_,rfl,rfl,(show (0:Int) < 4 from by decide),t,_,_,_,rfl,rfl,SqL.of upd_same,hm,q m _ (Same.new ht)⟩
theorem pairs_dat {K:PySem.W.Frag} {H:Hp}:∀ {xs:List V},(∀ v∈xs,∃ t s i,v=.ref t∧H t=some (.tup [.str s,.int i]))→∃ ds,DIss K H ds xs∧deps ds≤1∧deqs ds .nil=decide (xs=[])
 | [],_=>⟨.nil,by rw [DIss],by rw [deps]; omega,by rw [deqs,decide_eq_true rfl]⟩
 | v :: r,h=>by
  obtain ⟨ds,h1,h2,_⟩:=pairs_dat (K:=K) (xs:=r) fun u hu=>h u (List.mem_cons_of_mem _ hu)
  obtain ⟨t,s,i,rfl,ht⟩:=h v List.mem_cons_self
  refine ⟨.cons (.tup (.cons (.at (.str s)) (.cons (.at (.int i)) .nil))) ds,?_,?_,?_⟩
  ·rw [DIss]
   refine ⟨_,r,rfl,?_,h1⟩
   rw [DIs]
   refine ⟨t,_,rfl,SqT.of ht,?_⟩
   rw [DIss]
   refine ⟨_,_,rfl,by rw [DIs]; exact ⟨rfl,rfl⟩,?_⟩
   rw [DIss]
   exact ⟨_,_,rfl,by rw [DIs]; exact ⟨rfl,rfl⟩,by rw [DIss]⟩
  ·rw [deps,dep,deps,deps,deps,dep,dep]; omega
  ·rw [decide_eq_false (fun z=>by cases z),deqs]
   all_goals (intros; contradiction)
theorem one_or {x:Int} (h:1≤x):∃ k:Int,V.int (if decide (1 < x)=true then (1:Int) else 0)=V.int k∧((1 < x∧k=1)∨(x=1∧k=0)):=by
 by_cases e:1 < x
 ·exact ⟨1,by rw [decide_eq_true e]; rfl,.inl ⟨e,rfl⟩⟩
 ·exact ⟨0,by rw [decide_eq_false e]; rfl,.inr ⟨by omega,rfl⟩⟩
theorem rep_in {t v:V} {n:Nat} (h:v∈(List.replicate n [t]).flatten):v=t∧n≠0:=by
 obtain ⟨l,hl,hv⟩:=List.mem_flatten.mp h
 obtain ⟨h1,h2⟩:=List.mem_replicate.mp hl
 rw [h2] at hv
 exact ⟨List.mem_singleton.mp hv,h1⟩
abbrev N_drawn:List Str:=["_law_cells","_law_width","_law_height","_law_number","_law_some","_law_word","_law_side","_law_at_here","_law_first"]
theorem S_law_drawn:FnScope N_drawn ["_law_cells","_law_width","_law_height"] (defScope s__law_drawn):=⟨rfl,rfl,rfl,by decide +kernel,rfl,by decide +kernel,by decide +kernel⟩
theorem drawn0 {vs:List V} {H:Hp} {Q:VK} {E:XK}:¬ sp_drawn 0 vs H Q E:=by
 rintro ⟨l,ms,w,h,_,_,h1,h2,h3,_⟩
 omega
theorem ok_law_drawn {f:Addr} {fd:FuncData} {n:Nat} (F:Fun K "_law_drawn" "_law_drawn" s__law_drawn f fd) (T:Txt mg t1 t2 t3 t4 t5 t6) (D__law_knead:DefOk P w K mg base 1 "_law_knead" ["_law_number","_law_by"] sp_knead) (D__law_mark:DefOk P w K mg base 1 "_law_mark" ["_law_number"] sp_mark)
  (D__law_drawn:DefOk P w K mg base (n+3) "_law_drawn" ["_law_cells","_law_width","_law_height"] (sp_drawn n)):FnOk P w K mg base CX0 (n+4) f fd ["_law_cells","_law_width","_law_height"] (sp_drawn (n+1)):=by
 have S:=S_law_drawn
 refine F.ok S (fun vs H Q E h=>?_) (fun cdv A outer s H vs Q E hr h=>?_)
 ·obtain ⟨l,ms,ww,hh,rfl,_⟩:=h; rfl
 ·obtain ⟨l,ms,ww,hh,rfl,hl,w1,h1,wh,w12,h12,q⟩:=h
  obtain ⟨t4,h4,k4⟩:∃ rd,PSs (cxOf CX0 P w K mg base N_drawn "_law_drawn" (defScope s__law_drawn) f cdv A outer s H E).nox ((defBody s__law_drawn).drop 4) rd∧∀ (num:Int) (ls:Addr) (xs:List V) (ms2:List Int) (H4:Hp),0≤num→xs≠[]→xs.length≤2→H4 ls=some (.lst xs)→(∀ v∈xs,∃ t u,v=.ref t∧H4 t=some (.tup [.str (wd u),.int (if u then ww else hh)])∧1 < (if u then ww else hh))→SameX l H H4→H4 l=some (.lst (ms2.map V.int))→rd { nx:=fun _ H'=>Q .non H',rt:=Q } [some (.ref l),some (.int ww),some (.int hh),some (.int num),some (.ref ls),none,none,none,none] H4:=by
   refine ⟨_,(pss_cons (ps_asg (pe_ix ix_list (pv 4) (pe_op op_mod (pe_op op_fdivL (pv 3) pe_int) (pe_callB call_len_seq rfl T.z_len rfl (pa_cons (pv 4) pa_nil))) (fun _ _=>rfl)) (pg_tup rfl (pgs_cons (pg_name (i:=5) S.nd rfl (Or.inl rfl)) (pgs_cons (pg_name (i:=6) S.nd rfl (Or.inl rfl)) pgs_nil))))
   (pss_cons (ps_set (i:=7) S.nd rfl (Or.inl rfl) (pe_op op_add pe_int (pe_op op_mod (pe_op op_fdivL (pv 3) pe_int) (pe_op op_sub (pv 6) pe_int))))
   (pss_cons (ps_if (pt_cmpR op_eq (pv 5) pe_str (nomark _)) (pss_cons (ps_set (i:=8) S.nd rfl (Or.inl rfl) (pe_fn D__law_drawn hr (pa_cons (pv 0) (pa_cons (pv 7) (pa_cons (pv 2) pa_nil))) (by omega)))
   (pss_one (ps_ret (pe_tup (pa_cons (pv 5) (pa_cons (pv 7) (pa_cons (pv 8) (pa_cons (pe_fn D__law_drawn hr (pa_cons (pv 0) (pa_cons (pe_op op_sub (pv 1) (pv 7)) (pa_cons (pv 2) pa_nil))) (by omega)) pa_nil)))))))) pss_nil)
   (pss_cons (ps_set (i:=8) S.nd rfl (Or.inl rfl) (pe_fn D__law_drawn hr (pa_cons (pv 0) (pa_cons (pv 1) (pa_cons (pv 7) pa_nil))) (by omega)))
   (pss_one (ps_ret (pe_tup (pa_cons (pv 5) (pa_cons (pv 7) (pa_cons (pv 8) (pa_cons (pe_fn D__law_drawn hr (pa_cons (pv 0) (pa_cons (pv 1) (pa_cons (pe_op op_sub (pv 2) (pv 7)) pa_nil))) (by omega)) pa_nil))))))))))),?_⟩
   intro num ls xs ms2 H4 n0 xne hxl L4 hx4 T4 C4
   have xpos:0 < xs.length:=List.length_pos_iff.mpr xne
   obtain ⟨v,hv,hm⟩:=atI_in (L:=xs) (i:=num / 5 % (xs.length:Int)) (Int.emod_nonneg _ (by omega)) (Int.emod_lt_of_pos _ (by omega))
   obtain ⟨t,u,rfl,ht,hs1⟩:=hx4 v hm
   refine ⟨_,rfl,_,rfl,_,_,rfl,rfl,divL _ (by decide) (by decide),_,rfl,ls,_,rfl,.inl (SqL.of L4),_,_,rfl,rfl,(by omega),ls,_,_,_,rfl,rfl,SqL.of L4,hv,t,_,rfl,SqT.of ht,rfl,_,_,rfl,_,_,rfl,rfl,?_⟩
   have a0:=Int.emod_nonneg (num / 10) (b:=(if u then ww else hh) - 1) (by omega)
   have a1:=Int.emod_lt_of_pos (num / 10) (b:=(if u then ww else hh) - 1) (by omega)
   refine ⟨_,rfl,_,_,rfl,rfl,divL _ (by decide) (by decide),_,rfl,_,_,rfl,rfl,_,_,rfl,rfl,(by omega),_,_,rfl,rfl,?_⟩
   generalize num / 10 % ((if u then ww else hh) - 1)=x at a0 a1 ⊢
   cases u with
   | true =>
    have a1:x < ww - 1:=a1
    refine ⟨_,rfl,rfl,_,rfl,iteP (wd_dec true true) ?_⟩
    refine ⟨_,rfl,_,rfl,_,rfl,l,ms2,1+x,hh,rfl,C4,by omega,by omega,by omega,by omega,by omega,fun v1 y1 H5 ms3 s5 e5 told1 fit1=>?_⟩
    refine ⟨_,rfl,_,rfl,_,rfl,_,rfl,_,rfl,_,rfl,_,_,rfl,rfl,_,rfl,l,ms3,ww - (1+x),hh,rfl,e5,by omega,by omega,by omega,by omega,by omega,fun v2 y2 H6 ms4 s6 e6 told2 fit2=>⟨lenOk 4,fun t' ht'=>?_⟩⟩
    have s7:Same H6 (upd H6 t' (.tup [.str (wd true),.int (1+x),v1,v2])):=Same.new ht'
    refine q (.ref t') (.cut true (1+x) y1 y2) _ ms4 (((T4.trans s5).trans s6).trans s7.x) (s7 _ _ e6) ?_ ?_
    ·rw [Told]; exact ⟨t',v1,v2,rfl,upd_same,(told1.samex s6 e5).same s7,told2.same s7⟩
    ·rw [Fit]; exact ⟨by omega,by omega,fit1,fit2⟩
   | false =>
    have a1:x < hh - 1:=a1
    refine ⟨_,rfl,rfl,_,rfl,iteN (wd_dec false true) ?_⟩
    refine ⟨_,rfl,_,rfl,_,rfl,l,ms2,ww,1+x,rfl,C4,by omega,by omega,by omega,by omega,by omega,fun v1 y1 H5 ms3 s5 e5 told1 fit1=>?_⟩
    refine ⟨_,rfl,_,rfl,_,rfl,_,rfl,_,rfl,_,rfl,_,rfl,_,_,rfl,rfl,l,ms3,ww,hh - (1+x),rfl,e5,by omega,by omega,by omega,by omega,by omega,fun v2 y2 H6 ms4 s6 e6 told2 fit2=>⟨lenOk 4,fun t' ht'=>?_⟩⟩
    have s7:Same H6 (upd H6 t' (.tup [.str (wd false),.int (1+x),v1,v2])):=Same.new ht'
    refine q (.ref t') (.cut false (1+x) y1 y2) _ ms4 (((T4.trans s5).trans s6).trans s7.x) (s7 _ _ e6) ?_ ?_
    ·rw [Told]; exact ⟨t',v1,v2,rfl,upd_same,(told1.samex s6 e5).same s7,told2.same s7⟩
    ·rw [Fit]; exact ⟨by omega,by omega,fit1,fit2⟩
  obtain ⟨t3,h3,k3⟩:∃ rd,PSs (cxOf CX0 P w K mg base N_drawn "_law_drawn" (defScope s__law_drawn) f cdv A outer s H E).nox ((defBody s__law_drawn).drop 3) rd∧∀ (num:Int) (ls:Addr) (xs:List V) (ms2:List Int) (H4:Hp),0≤num→xs.length≤2→H4 ls=some (.lst xs)→(∀ v∈xs,∃ t u,v=.ref t∧H4 t=some (.tup [.str (wd u),.int (if u then ww else hh)])∧1 < (if u then ww else hh))→SameX l H H4→H4 l=some (.lst (ms2.map V.int))→rd { nx:=fun _ H'=>Q .non H',rt:=Q } [some (.ref l),some (.int ww),some (.int hh),some (.int num),some (.ref ls),none,none,none,none] H4:=by
   refine ⟨_,(pss_cons (ps_if (PW.pt (pw_or (pt_cmpR (op_eqD hr) (pv 4) (pe_lst pa_nil) (nomark _)) (pw_or1 (pt_cmpR op_eq (pe_op op_mod (pv 3) pe_int) pe_int (nomark _))))) (pss_one (ps_ret (pe_tup (pa_cons pe_str (pa_cons (pe_fn D__law_mark hr (pa_cons (pe_op op_fdivL (pv 3) pe_int) pa_nil) (by omega)) pa_nil))))) pss_nil)
   h4),?_⟩
   intro num ls xs ms2 H3 n0 hxl L3 hx3 T3 C3
   have wholeR:∀ H4,Same H3 H4→∀ m t,H4 t=none→Q (.ref t) (upd H4 t (.tup [.str "whole",markV m])):=fun H4 s4 m t ht=>q (.ref t) (.whole m) _ ms2 (T3.trans (s4.trans (Same.new ht)).x) ((s4.trans (Same.new ht)) _ _ C3) (by rw [Told]; exact ⟨t,rfl,upd_same⟩) (by rw [Fit]; trivial)
   refine ⟨_,rfl,lenOk 0,fun e2 he2=>?_⟩
   have s4:Same H3 (upd H3 e2 (.lst [])):=Same.new he2
   obtain ⟨ds,hds,dds,dnil⟩:=pairs_dat (K:=K) (H:=upd H3 e2 (.lst [])) (xs:=xs) fun v hv=>let ⟨t,u,a,b,_⟩:=hx3 v hv; ⟨t,wd u,_,a,s4 _ _ b⟩
   have dx:DIs K (upd H3 e2 (.lst [])) (.lst ds) (.ref ls):=by rw [DIs]; exact ⟨ls,xs,rfl,SqL.of (s4 _ _ L3),hds⟩
   refine ⟨_,_,dx,nilL upd_same,⟨_,rfl⟩,⟨_,rfl⟩,by rw [dep]; omega,_,rfl,ite3 (fun b2=>?_) (fun b2=>?_)⟩
   ·exact iteT ⟨_,rfl,_,_,rfl,rfl,divL _ (by decide) (by decide),_,rfl,fun m H5 s5=>⟨lenOk 2,fun t ht=>wholeR H5 (s4.trans s5) m t ht⟩⟩
   refine ⟨_,rfl,_,_,rfl,rfl,(show (0:Int) < 5 from by decide),rfl,_,rfl,ite3 (fun b3=>?_) (fun b3=>?_)⟩
   ·exact ⟨_,rfl,_,_,rfl,rfl,divL _ (by decide) (by decide),_,rfl,fun m H5 s5=>⟨lenOk 2,fun t ht=>wholeR H5 (s4.trans s5) m t ht⟩⟩
   have xne:xs≠[]:=fun z=>by rw [if_neg Bool.false_ne_true,deq,dnil,decide_eq_true z] at b2; cases b2
   exact k4 num ls xs ms2 _ n0 xne hxl (s4 _ _ L3) (fun v hv=>let ⟨t,u,a,b,c⟩:=hx3 v hv; ⟨t,u,a,s4 _ _ b,c⟩) (T3.trans s4.x) (s4 _ _ C3)
  obtain ⟨t2,h2,k2⟩:∃ rd,PSs (cxOf CX0 P w K mg base N_drawn "_law_drawn" (defScope s__law_drawn) f cdv A outer s H E).nox ((defBody s__law_drawn).drop 2) rd∧∀ (num:Int) (ms2:List Int) (H2:Hp),0≤num→SameX l H H2→H2 l=some (.lst (ms2.map V.int))→rd { nx:=fun _ H'=>Q .non H',rt:=Q } [some (.ref l),some (.int ww),some (.int hh),some (.int num),none,none,none,none,none] H2:=by
   refine ⟨_,(pss_cons (ps_set (i:=4) S.nd rfl (Or.inl rfl) (pe_op op_cat (pe_op op_rep (pe_lst (pa_cons (pe_tup (pa_cons pe_str (pa_cons (pv 1) pa_nil))) pa_nil)) (pe_callTy call_int1 rfl T.z_int rfl (pa_cons (pe_cmpR op_gt (pv 1) pe_int (nomark _)) pa_nil))) (pe_op op_rep (pe_lst (pa_cons (pe_tup (pa_cons pe_str (pa_cons (pv 2) pa_nil))) pa_nil)) (pe_callTy call_int1 rfl T.z_int rfl (pa_cons (pe_cmpR op_gt (pv 2) pe_int (nomark _)) pa_nil)))))
   h3),?_⟩
   intro num ms2 H2 n0 S2 L2
   obtain ⟨k1,ek1,c1⟩:=one_or w1
   obtain ⟨k2,ek2,c2⟩:=one_or h1
   refine ⟨_,rfl,lenOk 2,fun t1 ht1=>⟨lenOk 1,fun l1 hl1'=>?_⟩⟩
   have sa:Same H2 (upd H2 t1 (.tup [.str "upright",.int ww])):=Same.new ht1
   have ea:(upd H2 t1 (.tup [.str "upright",.int ww])) t1=some (.tup [.str "upright",.int ww]):=upd_same
   generalize upd H2 t1 (.tup [.str "upright",.int ww])=Ha at sa ea hl1' ⊢
   have sb:Same Ha (upd Ha l1 (.lst [.ref t1])):=Same.new hl1'
   have eb:(upd Ha l1 (.lst [.ref t1])) l1=some (.lst [.ref t1]):=upd_same
   generalize upd Ha l1 (.lst [.ref t1])=Hb at sb eb ⊢
   refine ⟨_,rfl,_,_,rfl,rfl,.inr ⟨_,rfl,l1,k1,_,rfl,ek1,eb,by omega,by omega,Nat.le_of_lt (small1000 (by rw [List.length_singleton]; omega)),fun p1 hp1=>?_⟩⟩
   have sc:Same Hb (upd Hb p1 (.lst (List.replicate k1.toNat [V.ref t1]).flatten)):=Same.new hp1
   have ec:(upd Hb p1 (.lst (List.replicate k1.toNat [V.ref t1]).flatten)) p1=some (.lst (List.replicate k1.toNat [V.ref t1]).flatten):=upd_same
   generalize upd Hb p1 (.lst (List.replicate k1.toNat [V.ref t1]).flatten)=Hc at sc ec ⊢
   refine ⟨_,rfl,lenOk 2,fun t2 ht2=>⟨lenOk 1,fun l2 hl2'=>?_⟩⟩
   have sd:Same Hc (upd Hc t2 (.tup [.str "level",.int hh])):=Same.new ht2
   have ed:(upd Hc t2 (.tup [.str "level",.int hh])) t2=some (.tup [.str "level",.int hh]):=upd_same
   generalize upd Hc t2 (.tup [.str "level",.int hh])=Hd at sd ed hl2' ⊢
   have se:Same Hd (upd Hd l2 (.lst [.ref t2])):=Same.new hl2'
   have ee:(upd Hd l2 (.lst [.ref t2])) l2=some (.lst [.ref t2]):=upd_same
   generalize upd Hd l2 (.lst [.ref t2])=He at se ee ⊢
   refine ⟨_,rfl,_,_,rfl,rfl,.inr ⟨_,rfl,l2,k2,_,rfl,ek2,ee,by omega,by omega,Nat.le_of_lt (small1000 (by rw [List.length_singleton]; omega)),fun p2 hp2=>?_⟩⟩
   have sf:Same He (upd He p2 (.lst (List.replicate k2.toNat [V.ref t2]).flatten)):=Same.new hp2
   have ef:(upd He p2 (.lst (List.replicate k2.toNat [V.ref t2]).flatten)) p2=some (.lst (List.replicate k2.toNat [V.ref t2]).flatten):=upd_same
   generalize upd He p2 (.lst (List.replicate k2.toNat [V.ref t2]).flatten)=Hf at sf ef ⊢
   have len1:=len_rep [V.ref t1] k1.toNat
   have len2:=len_rep [V.ref t2] k2.toNat
   rw [List.length_singleton] at len1 len2
   refine ⟨p1,p2,_,_,rfl,rfl,sf _ _ (se _ _ (sd _ _ ec)),ef,Nat.le_of_lt (small1000 (by omega)),fun ls hls=>?_⟩
   have hx:∀ v∈(List.replicate k1.toNat [V.ref t1]).flatten++(List.replicate k2.toNat [V.ref t2]).flatten,∃ t u,v=.ref t∧Hf t=some (.tup [.str (wd u),.int (if u then ww else hh)])∧1 < (if u then ww else hh):=fun v hv=>by
    rcases List.mem_append.mp hv with hv | hv
    ·obtain ⟨rfl,hk⟩:=rep_in hv
     exact ⟨t1,true,rfl,sf _ _ (se _ _ (sd _ _ (sc _ _ (sb _ _ ea)))),by show 1 < ww; omega⟩
    ·obtain ⟨rfl,hk⟩:=rep_in hv
     exact ⟨t2,false,rfl,sf _ _ (se _ _ ed),by show 1 < hh; omega⟩
   have hxl:((List.replicate k1.toNat [V.ref t1]).flatten++(List.replicate k2.toNat [V.ref t2]).flatten).length≤2:=by rw [List.length_append]; omega
   have S3:Same H2 (upd Hf ls (.lst ((List.replicate k1.toNat [V.ref t1]).flatten++(List.replicate k2.toNat [V.ref t2]).flatten))):=(((((sa.trans sb).trans sc).trans sd).trans se).trans sf).trans (Same.new hls)
   have L3:(upd Hf ls (.lst ((List.replicate k1.toNat [V.ref t1]).flatten++(List.replicate k2.toNat [V.ref t2]).flatten))) ls=some (.lst ((List.replicate k1.toNat [V.ref t1]).flatten++(List.replicate k2.toNat [V.ref t2]).flatten)):=upd_same
   have hx3:∀ v∈(List.replicate k1.toNat [V.ref t1]).flatten++(List.replicate k2.toNat [V.ref t2]).flatten,∃ t u,v=.ref t∧(upd Hf ls (.lst ((List.replicate k1.toNat [V.ref t1]).flatten++(List.replicate k2.toNat [V.ref t2]).flatten))) t=some (.tup [.str (wd u),.int (if u then ww else hh)])∧1 < (if u then ww else hh):=fun v hv =>
    let ⟨t,u,a,b,c⟩:=hx v hv; ⟨t,u,a,Same.new hls _ _ b,c⟩
   generalize upd Hf ls (.lst ((List.replicate k1.toNat [V.ref t1]).flatten++(List.replicate k2.toNat [V.ref t2]).flatten))=H3 at S3 L3 hx3 ⊢
   exact k3 num ls _ ms2 _ n0 hxl L3 hx3 (S2.trans S3.x) (S3 _ _ L2)
  refine ⟨_,(pss_cons (ps_if (pt_cmpR (op_eqD hr) (pv 0) (pe_lst pa_nil) (nomark _)) (pss_one (ps_ret (pe_tup (pa_cons pe_str (pa_cons pe_non pa_nil))))) pss_nil)
   (pss_cons (ps_set (i:=3) S.nd rfl (Or.inl rfl) (pe_fn D__law_knead hr (pa_cons (pe_bm0 PySem.F.plainAttrs_list PySem.F.slot_list_pop PySem.F.type_list_pop mt_pop (pv 0)) (pa_cons pe_int pa_nil)) (by omega)))
   h2)),?_⟩
  refine ⟨_,rfl,lenOk 0,fun e he=>?_⟩
  have s1:Same H (upd H e (.lst [])):=Same.new he
  have e1:(upd H e (.lst [])) e=some (.lst []):=upd_same
  generalize upd H e (.lst [])=H1 at s1 e1 ⊢
  have hl1:=s1 _ _ hl
  refine ⟨_,_,intsL (SqL.of hl1),nilL e1,⟨_,rfl⟩,⟨_,rfl⟩,intsL_dep _,_,rfl,ite3 (fun b1=>?_) (fun b1=>?_)⟩
  ·refine ⟨lenOk 2,fun t ht=>?_⟩
   have s2:Same H1 (upd H1 t (.tup [.str "whole",.non])):=Same.new ht
   exact q (.ref t) (.whole none) _ ms ((s1.trans s2).x) (s2 _ _ hl1) (by rw [Told]; exact ⟨t,rfl,upd_same⟩) (by rw [Fit]; trivial)
  have hne:ms≠[]:=fun z=>by rw [if_neg Bool.false_ne_true,deq,intsD_nil,decide_eq_true z] at b1; cases b1
  obtain ⟨ms2,z,rfl⟩:∃ ms2 z,ms=ms2++[z]:=⟨ms.dropLast,ms.getLast hne,(List.dropLast_concat_getLast hne).symm⟩
  have hlast:((ms2++[z]).map V.int)[((ms2++[z]).map V.int).length - 1]?=some (.int z):=by
   rw [List.length_map,List.length_append,List.length_singleton,Nat.add_sub_cancel,List.getElem?_map,List.getElem?_append_right (Nat.le_refl _),Nat.sub_self]; rfl
  refine ⟨_,rfl,.inl ⟨rfl,_,SqL.of hl1⟩,l,_,_,rfl,rfl,hl1,hlast,_,1,rfl,by decide,by decide,fun num n0=>?_⟩
  have hdl:((ms2++[z]).map V.int).dropLast=ms2.map V.int:=by rw [List.map_append,List.map_singleton,List.dropLast_concat]
  rw [hdl]
  have S2:SameX l H (upd H1 l (.lst (ms2.map V.int))):=s1.x.trans SameX.upd
  have L2:(upd H1 l (.lst (ms2.map V.int))) l=some (.lst (ms2.map V.int)):=upd_same
  generalize upd H1 l (.lst (ms2.map V.int))=H2 at S2 L2 ⊢
  exact k2 num ms2 H2 n0 S2 L2
def disB (p q:Int):Bool:=(List.range 6).any (fun j=>bitB p j && bitB q j) || (decide (Builtin.bitAnd p (p+q)=p) && decide (p+q≤63))
theorem dis_ok:(upto 63).all (fun p=>(upto 63).all (disB p))=true:=by decide +kernel
theorem dis_of {p q:Int} (p1:1≤p) (p2:p≤63) (q1:1≤q) (q2:q≤63) (h:∀ j,j < 6→bitB p j=true→bitB q j=true→False):Builtin.bitAnd p (p+q)=p∧p+q≤63:=by
 have t:=List.all_eq_true.mp (List.all_eq_true.mp dis_ok p (mem_upto.mpr ⟨p1,p2⟩)) q (mem_upto.mpr ⟨q1,q2⟩)
 unfold disB at t
 rw [Bool.or_eq_true,Bool.and_eq_true,decide_eq_true_eq,decide_eq_true_eq] at t
 rcases t with t | t
 ·obtain ⟨j,hj,c⟩:=List.any_eq_true.mp t
  rw [Bool.and_eq_true] at c
  exact (h j (List.mem_range.mp hj) c.1 c.2).elim
 ·exact t
theorem pow1 (i:Nat):(1:Int)≤1 * 2^i:=by
 rw [Int.one_mul]
 have:(0:Int) < 2^i:=Int.pow_pos (by decide)
 omega
theorem msum_bits:∀ (S:List Nat),S.Nodup→(∀ i∈S,i < 6)→0≤msum S∧msum S≤63∧∀ j,j < 6→bitB (msum S) j=decide (j∈S)
 | [],_,_=>⟨by decide,by decide,fun j hj=>by rw [show msum []=0 from rfl,zero_bits j hj]; rfl⟩
 | i :: S,nd,hl=>by
  obtain ⟨m0,m1,mb⟩:=msum_bits S (List.nodup_cons.mp nd).2 (fun j hj=>hl j (List.mem_cons_of_mem _ hj))
  have hi:=hl i List.mem_cons_self
  have nb:bitB (msum S) i=false:=by rw [mb i hi]; exact decide_eq_false (List.nodup_cons.mp nd).1
  obtain ⟨a1,a2⟩:=add_of m0 m1 hi nb
  have e:msum (i :: S)=msum S+1 * 2^i:=by show 1 * 2^i+msum S=_; omega
  have:=pow1 i
  rw [e]
  refine ⟨by omega,a1,fun j hj=>?_⟩
  rw [a2 j hj,mb j hj,Bool.eq_iff_iff]
  simp [List.mem_cons,or_comm]
theorem msum_pos {S:List Nat} (nd:S.Nodup) (hl:∀ i∈S,i < 6) (ne:S≠[]):1≤msum S:=by
 cases S with
 | nil=>exact absurd rfl ne
 | cons i S =>
  have:=(msum_bits S (List.nodup_cons.mp nd).2 (fun j hj=>hl j (List.mem_cons_of_mem _ hj))).1
  have:=pow1 i
  show 1≤1 * 2^i+msum S
  omega
theorem cut_up {ws:List Want} {h:Int→List Int} {N p q a c T:Int} (rows:∀ p,1≤p→p≤N→Row ws h p) (hN:N≤63) (p1:1≤p) (q1:1≤q) (hb:Builtin.bitAnd p (p+q)=p) (b2:p+q≤N) (a1:1≤a) (c1:1≤c) (hW:a+c≤12) (hp:rat (h p) a≤T) (hq:rat (h q) c≤T):rat (h (p+q)) (a+c)≤T:=by
 obtain ⟨n1,_,_,n4⟩:=part_of (b:=p+q) (by omega) (by omega) p1 (by omega) hb (by omega)
 rcases n4 with n4 | n4
 ·refine Int.le_trans (row_least rows (by omega) b2 (by omega) hW n1 (cutU_in (a:=a) n4 a1 (by omega))) ?_
  unfold cutU
  rw [show p+q - p=q by omega,show a+c - a=c by omega]
  exact le_mx hp hq
 ·refine Int.le_trans (row_least rows (by omega) b2 (by omega) hW n1 (cutU_in (a:=c) n4 c1 (by omega))) ?_
  unfold cutU
  rw [show p+q - (p+q - p)=p by omega,show p+q - p=q by omega,show a+c - c=a by omega]
  exact le_mx hq hp
theorem cut_lv {ws:List Want} {h:Int→List Int} {N p q a c W:Int} (rows:∀ p,1≤p→p≤N→Row ws h p) (hN:N≤63) (p1:1≤p) (q1:1≤q) (hb:Builtin.bitAnd p (p+q)=p) (b2:p+q≤N) (w1:1≤W) (hW:W≤12) (hp:rat (h p) W≤a) (hq:rat (h q) W≤c):rat (h (p+q)) W≤a+c:=by
 obtain ⟨n1,_,_,n4⟩:=part_of (b:=p+q) (by omega) (by omega) p1 (by omega) hb (by omega)
 rcases n4 with n4 | n4
 ·have:=row_least rows (by omega) b2 w1 hW n1 (cutL_in n4)
  rw [show p+q - p=q by omega] at this
  omega
 ·have:=row_least rows (by omega) b2 w1 hW n1 (cutL_in n4)
  rw [show p+q - (p+q - p)=p by omega,show p+q - p=q by omega] at this
  omega
abbrev Lab:=Lf × Option Nat
def Fits (e:Lf) (t:Want):Prop:=(t.1=e.r - e.l∧t.2.1=e.b - e.t)∨(t.2.2=true∧t.2.1=e.r - e.l∧t.1=e.b - e.t)
def LabOk (ws:List Want) (e:Lab):Prop:=∀ i,e.2=some i→∃ t,ws[i]?=some t∧Fits e.1 t
theorem one_lies {ws:List Want} {h:Int→List Int} {N:Int} (rows:∀ p,1≤p→p≤N→Row ws h p) {i:Nat} (hi:i < 6) (hN:1 * 2^i≤N) {t:Want} (ht:ws[i]?=some t) {w T:Int} (w1:1≤w) (w2:w≤12) (f:(t.1=w∧t.2.1=T)∨(t.2.2=true∧t.2.1=w∧t.1=T)):rat (h (1 * 2^i)) w≤T:=by
 have al:=alone_of (n:=6) (k:=i) (by omega) hi
 rw [Int.toNat_natCast] at al
 obtain ⟨l1,_⟩:=(rows _ al.2.2.1 hN).2 w w1 w2
 obtain ⟨t',ht',z⟩:=l1 al.1
 rw [al.2.1,ht] at ht'
 cases ht'
 have mem:T∈lows t w:=by
  unfold lows waysOf
  rcases f with ⟨e1,e2⟩ | ⟨e0,e1,e2⟩
  ·refine List.mem_map.mpr ⟨(t.1,t.2.1),List.mem_filter.mpr ⟨?_,decide_eq_true (by show t.1≤w; omega)⟩,e2⟩
   split
   ·exact List.mem_cons_self
   ·exact List.mem_cons_self
  ·refine List.mem_map.mpr ⟨(t.2.1,t.1),List.mem_filter.mpr ⟨?_,decide_eq_true (by show t.2.1≤w; omega)⟩,e2⟩
   rw [if_pos e0]
   exact List.mem_cons_of_mem _ List.mem_cons_self
 rcases z with ⟨z,_⟩ | ⟨_,z⟩
 ·rw [z] at mem; cases mem
 ·exact z _ mem
theorem lies {ws:List Want} {h:Int→List Int} {N:Int} (ok:∀ t∈ws,WOk t) (rows:∀ p,1≤p→p≤N→Row ws h p) (hN:N≤63):∀ (x:Tr) (t l b r:Int) (L:List Lab),Fit x (r - l) (b - t)→1≤r - l→r - l≤12→1≤b - t→L.map (·.1)=lvs x t l b r→(∀ e∈L,LabOk ws e)→(L.filterMap (·.2)).Nodup→(∀ i∈L.filterMap (·.2),i < 6)→msum (L.filterMap (·.2))≤N→L.filterMap (·.2)≠[]→rat (h (msum (L.filterMap (·.2)))) (r - l)≤b - t
 | .whole m,t,l,b,r,L,fit,w1,w2,h1,eL,lok,nd,six,le,ne=>by
  have eL:L.map (·.1)=[⟨t,l,b,r,m⟩]:=eL
  obtain ⟨e,rfl,ee⟩:∃ e,L=[e]∧e.1=⟨t,l,b,r,m⟩:=by
   match L,eL with
   | [],eL=>cases eL
   | [e],eL=>exact ⟨e,rfl,(List.cons.inj eL).1⟩
   | _ :: _ :: _,eL=>cases (List.cons.inj eL).2
  cases hi:e.2 with
  | none=>exact absurd (by simp [hi]) ne
  | some i =>
   have eS:[e].filterMap (·.2)=[i]:=by simp [hi]
   rw [eS] at six le ⊢
   obtain ⟨tt,ht,f⟩:=lok e List.mem_cons_self i hi
   have em:msum [i]=1 * 2^i:=by show 1 * 2^i+0=_; omega
   rw [em] at le ⊢
   unfold Fits at f
   rw [ee] at f
   exact one_lies rows (six i List.mem_cons_self) le ht w1 w2 f
 | .cut true k x y,t,l,b,r,L,fit,w1,w2,h1,eL,lok,nd,six,le,ne=>by
  simp only [Fit,if_true] at fit
  obtain ⟨k1,k2,f1,f2⟩:=fit
  have eL:L.map (·.1)=lvs x t l b (l+k)++lvs y t (l+k) b r:=eL
  obtain ⟨A,B,rfl,eA,eB⟩:=List.map_eq_append_iff.mp eL
  rw [List.filterMap_append] at nd six le ne ⊢
  obtain ⟨n1,n2,n3⟩:=List.nodup_append.mp nd
  have sA:=fun i hi=>six i (List.mem_append_left _ hi)
  have sB:=fun i hi=>six i (List.mem_append_right _ hi)
  obtain ⟨a0,a1,a2⟩:=msum_bits _ n1 sA
  obtain ⟨b0,b1,b2⟩:=msum_bits _ n2 sB
  rw [msum_app] at le ⊢
  have iA:=lies ok rows hN x t l b (l+k) A (by rw [show l+k - l=k by omega]; exact f1) (by omega) (by omega) h1 eA (fun e he=>lok e (List.mem_append_left _ he)) n1 sA (by omega)
  have iB:=lies ok rows hN y t (l+k) b r B (by rw [show r - (l+k)=r - l - k by omega]; exact f2) (by omega) (by omega) h1 eB (fun e he=>lok e (List.mem_append_right _ he)) n2 sB (by omega)
  by_cases zA:A.filterMap (·.2)=[]
  ·rw [zA,List.nil_append] at ne
   have zm:msum (A.filterMap (·.2))=0:=by rw [zA]; rfl
   rw [zm,Int.zero_add]
   exact Int.le_trans (row_le ok rows (msum_pos n2 sB ne) (by omega) (by omega) (by omega) w2) (iB ne)
  by_cases zB:B.filterMap (·.2)=[]
  ·have zm:msum (B.filterMap (·.2))=0:=by rw [zB]; rfl
   rw [zm,Int.add_zero]
   exact Int.le_trans (row_le ok rows (msum_pos n1 sA zA) (by omega) (by omega) (by omega) w2) (iA zA)
  have pA:=msum_pos n1 sA zA
  have pB:=msum_pos n2 sB zB
  obtain ⟨d1,d2⟩:=dis_of pA a1 pB b1 fun j hj ja jb=>by
   rw [a2 j hj,decide_eq_true_eq] at ja
   rw [b2 j hj,decide_eq_true_eq] at jb
   exact n3 j ja j jb rfl
  have:=cut_up rows hN pA pB d1 le (a:=l+k - l) (c:=r - (l+k)) (by omega) (by omega) (by omega) (iA zA) (iB zB)
  rw [show l+k - l+(r - (l+k))=r - l by omega] at this
  exact this
 | .cut false k x y,t,l,b,r,L,fit,w1,w2,h1,eL,lok,nd,six,le,ne=>by
  simp only [Fit,Bool.false_eq_true,if_false] at fit
  obtain ⟨k1,k2,f1,f2⟩:=fit
  have eL:L.map (·.1)=lvs x t l (t+k) r++lvs y (t+k) l b r:=eL
  obtain ⟨A,B,rfl,eA,eB⟩:=List.map_eq_append_iff.mp eL
  rw [List.filterMap_append] at nd six le ne ⊢
  obtain ⟨n1,n2,n3⟩:=List.nodup_append.mp nd
  have sA:=fun i hi=>six i (List.mem_append_left _ hi)
  have sB:=fun i hi=>six i (List.mem_append_right _ hi)
  obtain ⟨a0,a1,a2⟩:=msum_bits _ n1 sA
  obtain ⟨b0,b1,b2⟩:=msum_bits _ n2 sB
  rw [msum_app] at le ⊢
  have iA:=lies ok rows hN x t l (t+k) r A (by rw [show t+k - t=k by omega]; exact f1) (by omega) (by omega) (by omega) eA (fun e he=>lok e (List.mem_append_left _ he)) n1 sA (by omega)
  have iB:=lies ok rows hN y (t+k) l b r B (by rw [show b - (t+k)=b - t - k by omega]; exact f2) (by omega) (by omega) (by omega) eB (fun e he=>lok e (List.mem_append_right _ he)) n2 sB (by omega)
  by_cases zA:A.filterMap (·.2)=[]
  ·rw [zA,List.nil_append] at ne
   have zm:msum (A.filterMap (·.2))=0:=by rw [zA]; rfl
   rw [zm,Int.zero_add]
   have:=iB ne
   omega
  by_cases zB:B.filterMap (·.2)=[]
  ·have zm:msum (B.filterMap (·.2))=0:=by rw [zB]; rfl
   rw [zm,Int.add_zero]
   have:=iA zA
   omega
  have pA:=msum_pos n1 sA zA
  have pB:=msum_pos n2 sB zB
  obtain ⟨d1,d2⟩:=dis_of pA a1 pB b1 fun j hj ja jb=>by
   rw [a2 j hj,decide_eq_true_eq] at ja
   rw [b2 j hj,decide_eq_true_eq] at jb
   exact n3 j ja j jb rfl
  have:=cut_lv rows hN pA pB d1 le w1 w2 (iA zA) (iB zB)
  omega
theorem perm_map {α β:Type} {f:α→β} {l1 l2:List β} (p:l1.Perm l2):∀ {L:List α},L.map f=l1→∃ L',L.Perm L'∧L'.map f=l2:=by
 induction p with
 | nil=>intro L e; exact ⟨L,.refl _,e⟩
 | cons x _ ih =>
  intro L e
  obtain ⟨y,L1,rfl,rfl,e2⟩:=List.map_eq_cons_iff.mp e
  obtain ⟨L',h1,h2⟩:=ih e2
  exact ⟨y :: L',.cons _ h1,by rw [List.map_cons,h2]⟩
 | swap x y l =>
  intro L e
  obtain ⟨a,L1,rfl,rfl,e2⟩:=List.map_eq_cons_iff.mp e
  obtain ⟨b,L2,rfl,rfl,rfl⟩:=List.map_eq_cons_iff.mp e2
  exact ⟨b :: a :: L2,.swap _ _ _,rfl⟩
 | trans _ _ ih1 ih2 =>
  intro L e
  obtain ⟨L1,a1,a2⟩:=ih1 e
  obtain ⟨L2,b1,b2⟩:=ih2 a2
  exact ⟨L2,a1.trans b1,b2⟩
theorem q4_0 {x0 x1 x2 x3:V}:atI [x0,x1,x2,x3] 0=some x0:=rfl
theorem q4_1 {x0 x1 x2 x3:V}:atI [x0,x1,x2,x3] 1=some x1:=rfl
theorem q4_2 {x0 x1 x2 x3:V}:atI [x0,x1,x2,x3] 2=some x2:=rfl
theorem q4_3 {x0 x1 x2 x3:V}:atI [x0,x1,x2,x3] 3=some x3:=rfl
def RcL (H:Hp) (a:Addr) (LL:List Lf):Prop:=∃ ts:List (Addr × Lf),H a=some (.lst (refs ts))∧(∀ u∈ts,H u.1=some (.tup [.int u.2.t,.int u.2.l,.int u.2.b,.int u.2.r]))∧ts.map (·.2)=LL
def sp_rect (n:Nat):Sp:=fun vs H Q _=>∃ (v:V) (x:Tr) (t l b r:Int),vs=[v,.int t,.int l,.int b,.int r]∧Told H x v∧x.dp < n∧x.sz≤144∧∀ a H',Same H H'→RcL H' a (lvs x t l b r)→Q (.ref a) H'
theorem rect0 {vs:List V} {H:Hp} {Q:VK} {E:XK}:¬ sp_rect 0 vs H Q E:=by
 rintro ⟨v,x,t,l,b,r,_,_,h,_⟩
 omega
theorem S_law_rectangles:FnScope ["_law_told","_law_top","_law_left","_law_bottom","_law_right","_law_at_here","_law_first"] ["_law_told","_law_top","_law_left","_law_bottom","_law_right"] (defScope s__law_rectangles):=⟨rfl,rfl,rfl,by decide +kernel,rfl,by decide +kernel,by decide +kernel⟩
theorem ok_law_rectangles {f:Addr} {fd:FuncData} {n:Nat} (F:Fun K "_law_rectangles" "_law_rectangles" s__law_rectangles f fd) (D__law_rectangles:DefOk P w K mg base (n+1) "_law_rectangles" ["_law_told","_law_top","_law_left","_law_bottom","_law_right"] (sp_rect n)) :
  FnOk P w K mg base CX0 (n+2) f fd ["_law_told","_law_top","_law_left","_law_bottom","_law_right"] (sp_rect (n+1)):=by
 have S:=S_law_rectangles
 refine F.ok S (fun vs H Q E h=>?_) (fun cdv A outer s H vs Q E hr h=>?_)
 ·obtain ⟨v,x,t,l,b,r,rfl,_⟩:=h; rfl
 ·obtain ⟨v,x,tp,lf,bt,rt,rfl,ho,hd,hsz,q⟩:=h
  refine ⟨_,(pss_cons (ps_if (pt_cmpR op_eq (pe_ix ix_tup (pv 0) pe_int (fun _ _=>rfl)) pe_str (nomark _)) (pss_one (ps_ret (pe_lst (pa_cons (pe_tup (pa_cons (pv 1) (pa_cons (pv 2) (pa_cons (pv 3) (pa_cons (pv 4) pa_nil))))) pa_nil)))) pss_nil)
   (pss_cons (ps_set (i:=5) S.nd rfl (Or.inl rfl) (pe_ix ix_tup (pv 0) pe_int (fun _ _=>rfl)))
   (pss_cons (ps_if (pt_cmpR op_eq (pe_ix ix_tup (pv 0) pe_int (fun _ _=>rfl)) pe_str (nomark _)) (pss_cons (ps_set (i:=6) S.nd rfl (Or.inl rfl) (pe_fn D__law_rectangles hr (pa_cons (pe_ix ix_tup (pv 0) pe_int (fun _ _=>rfl)) (pa_cons (pv 1) (pa_cons (pv 2) (pa_cons (pv 3) (pa_cons (pe_op op_add (pv 2) (pv 5)) pa_nil))))) (by omega)))
   (pss_one (ps_ret (pe_op op_cat (pv 6) (pe_fn D__law_rectangles hr (pa_cons (pe_ix ix_tup (pv 0) pe_int (fun _ _=>rfl)) (pa_cons (pv 1) (pa_cons (pe_op op_add (pv 2) (pv 5)) (pa_cons (pv 3) (pa_cons (pv 4) pa_nil))))) (by omega)))))) pss_nil)
   (pss_cons (ps_set (i:=6) S.nd rfl (Or.inl rfl) (pe_fn D__law_rectangles hr (pa_cons (pe_ix ix_tup (pv 0) pe_int (fun _ _=>rfl)) (pa_cons (pv 1) (pa_cons (pv 2) (pa_cons (pe_op op_add (pv 1) (pv 5)) (pa_cons (pv 4) pa_nil))))) (by omega)))
   (pss_one (ps_ret (pe_op op_cat (pv 6) (pe_fn D__law_rectangles hr (pa_cons (pe_ix ix_tup (pv 0) pe_int (fun _ _=>rfl)) (pa_cons (pe_op op_add (pv 1) (pv 5)) (pa_cons (pv 2) (pa_cons (pv 3) (pa_cons (pv 4) pa_nil))))) (by omega))))))))),?_⟩
  have two:∀ (l1 l2:Addr) (A B:List Lf) (H2:Hp),RcL H2 l1 A→RcL H2 l2 B→A.length+B.length≤144→Same H H2→(∀ p,RcL (upd H2 p (.lst [])) p []→True)→∃ xs ys,H2 l1=some (.lst xs)∧H2 l2=some (.lst ys)∧xs.length+ys.length≤sizeLine∧∀ p,H2 p=none→RcL (upd H2 p (.lst (xs++ys))) p (A++B):=by
   rintro l1 l2 A B H2 ⟨ts,a1,a2,a3⟩ ⟨us,b1,b2,b3⟩ le _ _
   refine ⟨_,_,a1,b1,?_,fun p np=>?_⟩
   ·rw [refs_len,refs_len]
    have e1:ts.length=A.length:=by rw [← a3,List.length_map]
    have e2:us.length=B.length:=by rw [← b3,List.length_map]
    exact Nat.le_of_lt (small1000 (by omega))
   ·have s3:=Same.new (o:=.lst (refs ts++refs us)) np
    refine ⟨ts++us,by rw [upd_same,refs,refs,refs,List.map_append],fun u hu=>?_,by rw [List.map_append,a3,b3]⟩
    rcases List.mem_append.mp hu with hu | hu
    ·exact s3 _ _ (a2 u hu)
    ·exact s3 _ _ (b2 u hu)
  have same:∀ {l1:Addr} {A:List Lf} {H1 H2:Hp},RcL H1 l1 A→Same H1 H2→RcL H2 l1 A:=fun {l1 A H1 H2} ⟨ts,a1,a2,a3⟩ s=>⟨ts,s _ _ a1,fun u hu=>s _ _ (a2 u hu),a3⟩
  cases x with
  | whole m =>
   rw [Told] at ho
   obtain ⟨a,rfl,ha⟩:=ho
   refine ⟨_,rfl,a,_,_,_,rfl,rfl,SqT.of ha,at2_0,rfl,_,rfl,iteP (decide_eq_true rfl) ?_⟩
   refine ⟨_,rfl,_,rfl,_,rfl,_,rfl,lenOk 4,fun r nr=>?_⟩
   have s1:Same H (upd H r (.tup [.int tp,.int lf,.int bt,.int rt])):=Same.new nr
   refine ⟨lenOk 1,fun l nl=>?_⟩
   have s2:=Same.new (o:=.lst [.ref r]) nl
   refine q l _ (s1.trans s2) ⟨[(r,⟨tp,lf,bt,rt,m⟩)],upd_same,fun u hu=>?_,rfl⟩
   rw [List.mem_singleton.mp hu]
   exact s2 _ _ upd_same
  | cut u k y1 y2 =>
   rw [Told] at ho
   obtain ⟨a,v1,v2,rfl,ha,o1,o2⟩:=ho
   have hd:max y1.dp y2.dp+1 < n+1:=hd
   have hsz:y1.sz+y2.sz≤144:=hsz
   refine ⟨_,rfl,a,_,_,_,rfl,rfl,SqT.of ha,q4_0,rfl,_,rfl,iteN (wd_whole u) ?_⟩
   refine ⟨_,rfl,a,_,_,_,rfl,rfl,SqT.of ha,q4_1,?_⟩
   refine ⟨_,rfl,a,_,_,_,rfl,rfl,SqT.of ha,q4_0,rfl,_,rfl,?_⟩
   cases u with
   | true =>
    refine iteP (decide_eq_true rfl) ?_
    refine ⟨_,rfl,a,_,_,_,rfl,rfl,SqT.of ha,q4_2,_,rfl,_,rfl,_,rfl,_,rfl,_,rfl,_,_,rfl,rfl,v1,y1,tp,lf,bt,lf+k,rfl,o1,by omega,by omega,fun l1 H1 s1 L1=>?_⟩
    refine ⟨_,rfl,_,rfl,a,_,_,_,rfl,rfl,SqT.of (s1 _ _ ha),q4_3,_,rfl,_,rfl,_,rfl,_,_,rfl,rfl,_,rfl,_,rfl,v2,y2,tp,lf+k,bt,rt,rfl,o2.same s1,by omega,by omega,fun l2 H2 s2 L2=>?_⟩
    obtain ⟨xs,ys,e1,e2,e3,e4⟩:=two l1 l2 _ _ H2 (same L1 s2) L2 (by rw [lvs_len,lvs_len]; exact hsz) (s1.trans s2) (fun _ _=>trivial)
    exact ⟨l1,l2,xs,ys,rfl,rfl,e1,e2,e3,fun p np=>q p _ (s1.trans (s2.trans (Same.new np))) (e4 p np)⟩
   | false =>
    refine iteN (decide_eq_false (by intro z; injection z with z; exact absurd z (by decide))) ?_
    refine ⟨_,rfl,a,_,_,_,rfl,rfl,SqT.of ha,q4_2,_,rfl,_,rfl,_,rfl,_,rfl,_,_,rfl,rfl,_,rfl,v1,y1,tp,lf,tp+k,rt,rfl,o1,by omega,by omega,fun l1 H1 s1 L1=>?_⟩
    refine ⟨_,rfl,_,rfl,a,_,_,_,rfl,rfl,SqT.of (s1 _ _ ha),q4_3,_,rfl,_,rfl,_,_,rfl,rfl,_,rfl,_,rfl,_,rfl,v2,y2,tp+k,lf,bt,rt,rfl,o2.same s1,by omega,by omega,fun l2 H2 s2 L2=>?_⟩
    obtain ⟨xs,ys,e1,e2,e3,e4⟩:=two l1 l2 _ _ H2 (same L1 s2) L2 (by rw [lvs_len,lvs_len]; exact hsz) (s1.trans s2) (fun _ _=>trivial)
    exact ⟨l1,l2,xs,ys,rfl,rfl,e1,e2,e3,fun p np=>q p _ (s1.trans (s2.trans (Same.new np))) (e4 p np)⟩
theorem erase_refs {α:Type}:∀ (ts:List (Addr × α)) (k:Nat),(refs ts).eraseIdx k=refs (ts.eraseIdx k)
 | [],_=>rfl
 | _ :: _,0=>rfl
 | t :: r,k+1=>by show V.ref t.1 :: (refs r).eraseIdx k=_; rw [erase_refs r k]; rfl
theorem erase_perm {α:Type}:∀ {L:List α} {k:Nat} {y:α},L[k]?=some y→(y :: L.eraseIdx k).Perm L
 | [],_,_,h=>by cases h
 | _ :: _,0,_,h=>by cases h; exact .refl _
 | x :: L,k+1,y,h=>(List.Perm.swap _ _ _).trans (.cons _ (erase_perm (L:=L) (k:=k) h))
theorem pop_ix {n:Nat} {z:Int} (h0:0≤z) (h1:z < n):seqIndex? z n=some z.toNat:=(ixN_seq (by unfold ixN; rw [if_pos h0,if_pos h1])).1
def LfB (e:Lf):Prop:=(1≤e.r - e.l∧e.r - e.l≤12)∧(1≤e.b - e.t∧e.b - e.t≤12)
def Drew (LL:List Lf) (ws:List Want):Prop:=∃ es rest:List Lf,(es++rest).Perm LL∧es.length=ws.length∧∀ (i:Nat) (e:Lf) (t:Want),es[i]?=some e→ws[i]?=some t→Fits e t
def sp_from:Sp:=fun vs H Q _=>∃ (l:Addr) (c:Int) (LL:List Lf),vs=[.ref l,.int c]∧RcL H l LL∧LL.length≤144∧(∀ e∈LL,LfB e) ∧
 ∀ a ws H',Same H H'→H a=none→WantsAt H' a ws→ws.length≤6→(∀ t∈ws,WOk t)→Drew LL ws→Q (.ref a) H'
abbrev N_from:List Str:=["_law_pieces_told","_law_cell","_law_left","_law_found","_law_k","_law_number","_law_top","_law_west","_law_bottom","_law_east","_law_size","_law_turns"]
theorem S_law_from:FnScope N_from ["_law_pieces_told","_law_cell"] (defScope s__law_from):=⟨rfl,rfl,rfl,by decide +kernel,rfl,by decide +kernel,by decide +kernel⟩
structure FrI (LL:List Lf) (H:Hp) (p g:Addr) (i:Nat) (H':Hp):Prop where
 at':∃ (lt:List (Addr × Lf)) (us:List (Addr × Want)) (es:List Lf),H' p=some (.lst (refs lt))∧H' g=some (.lst (refs us))∧(∀ u∈lt,H' u.1=some (.tup [.int u.2.t,.int u.2.l,.int u.2.b,.int u.2.r]))∧(∀ u∈us,H' u.1=some (.tup [.int u.2.1,.int u.2.2.1,.bl u.2.2.2])) ∧
  (es++lt.map (·.2)).Perm LL∧es.length=i∧us.length=i∧(∀ u∈us,WOk u.2)∧∀ (j:Nat) (e:Lf) (t:Want),es[j]?=some e→(us.map (·.2))[j]?=some t→Fits e t
 same:Same H H'
theorem ok_law_from {f:Addr} {fd:FuncData} (F:Fun K "_law_from" "_law_from" s__law_from f fd) (T:Txt mg t1 t2 t3 t4 t5 t6) (D__law_knead:DefOk P w K mg base 1 "_law_knead" ["_law_number","_law_by"] sp_knead):FnOk P w K mg base CX0 2 f fd ["_law_pieces_told","_law_cell"] sp_from:=by
 have S:=S_law_from
 refine F.ok S (fun vs H Q E h=>?_) (fun cdv A outer s H vs Q E hr h=>?_)
 ·obtain ⟨l,c,LL,rfl,_⟩:=h; rfl
 ·obtain ⟨l,c,LL,rfl,⟨ts,e1,e2,e3⟩,few,bd,q⟩:=h
  refine ⟨_,(pss_cons (ps_set (i:=2) S.nd rfl (Or.inl rfl) (pe_callTy call_list_of rfl T.z_list rfl (pa_cons (pv 0) pa_nil)))
   (pss_cons (ps_set (i:=3) S.nd rfl (Or.inl rfl) (pe_lst pa_nil))
   (pss_cons (ps_for PassesOwn.never rfl (pi_range1 rfl T.z_range (pa_cons (pe_callB (call_min2 rfl) rfl T.z_min rfl (pa_cons (pe_callB call_len_seq rfl T.z_len rfl (pa_cons (pv 2) pa_nil)) (pa_cons (pe_ix ix_list (pe_lst (pa_cons pe_int (pa_cons pe_int (pa_cons pe_int (pa_cons pe_int (pa_cons pe_int (pa_cons pe_int (pa_cons pe_int (pa_cons pe_int pa_nil))))))))) (pe_op op_mod (pe_fn D__law_knead hr (pa_cons (pv 1) (pa_cons pe_int pa_nil))) pe_int) (fun _ _=>rfl)) pa_nil))) pa_nil)) (pg_name (i:=4) S.nd rfl (Or.inl rfl)) (pss_cons (ps_set (i:=5) S.nd rfl (Or.inl rfl) (pe_fn D__law_knead hr (pa_cons (pv 1) (pa_cons (pe_op op_add pe_int (pv 4)) pa_nil))))
   (pss_cons (ps_asg (pe_bm PySem.F.plainAttrs_list PySem.F.slot_list_pop PySem.F.type_list_pop mt_popAt (pv 2) (pa_cons (pe_op op_mod (pv 5) (pe_callB call_len_seq rfl T.z_len rfl (pa_cons (pv 2) pa_nil))) pa_nil)) (pg_tup rfl (pgs_cons (pg_name (i:=6) S.nd rfl (Or.inl rfl)) (pgs_cons (pg_name (i:=7) S.nd rfl (Or.inl rfl)) (pgs_cons (pg_name (i:=8) S.nd rfl (Or.inl rfl)) (pgs_cons (pg_name (i:=9) S.nd rfl (Or.inl rfl)) pgs_nil))))))
   (pss_cons (ps_set (i:=10) S.nd rfl (Or.inl rfl) (pe_tup (pa_cons (pe_op op_sub (pv 9) (pv 7)) (pa_cons (pe_op op_sub (pv 8) (pv 6)) pa_nil))))
   (pss_cons (ps_set (i:=11) S.nd rfl (Or.inl rfl) (pe_cmpR op_eq (pe_op op_mod (pe_op op_fdivL (pv 5) pe_int) pe_int) pe_int (nomark _)))
   (pss_cons (ps_if (PW.pt (pw_and (pt_truth (pv 11) (fun _=>rfl)) (pw_and1 (pt_cmpR op_eq (pe_op op_mod (pe_op op_fdivL (pv 5) pe_int) pe_int) pe_int (nomark _))))) (pss_one (ps_set (i:=10) S.nd rfl (Or.inl rfl) (pe_tup (pa_cons (pe_ix ix_tup (pv 10) pe_int (fun _ _=>rfl)) (pa_cons (pe_ix ix_tup (pv 10) pe_int (fun _ _=>rfl)) pa_nil))))) pss_nil)
   (pss_one (ps_expr (pe_bm PySem.F.plainAttrs_list PySem.F.slot_list_append PySem.F.type_list_append mt_append (pv 3) (pa_cons (pe_op op_catT (pv 10) (pe_tup (pa_cons (pv 11) pa_nil))) pa_nil))))))))))
   (pss_one (ps_ret (pv 3)))))),?_⟩
  refine ⟨_,rfl,l,_,rfl,.inl (SqL.of e1),fun p np=>?_⟩
  have s1:Same H (upd H p (.lst (refs ts))):=Same.new np
  have hp1:(upd H p (.lst (refs ts))) p=some (.lst (refs ts)):=upd_same
  generalize upd H p (.lst (refs ts))=H1 at s1 hp1 ⊢
  refine ⟨lenOk 0,fun g ng=>?_⟩
  have s2:Same H1 (upd H1 g (.lst [])):=Same.new ng
  have hg2:(upd H1 g (.lst [])) g=some (.lst []):=upd_same
  generalize upd H1 g (.lst [])=H2 at s2 hg2 ⊢
  have npg:p≠g:=fun z=>by rw [z,ng] at hp1; cases hp1
  have ng0:H g=none:=wasNone s1 ng
  have s02:=s1.trans s2
  have lt0:ts.length=LL.length:=by rw [← e3,List.length_map]
  refine ⟨_,rfl,p,_,rfl,.inl (SqL.of (s2 _ _ hp1)),?_⟩
  refine ⟨lenOk 8,fun k0 nk0=>?_⟩
  have s3:Same H2 (upd H2 k0 (.lst [.int 1,.int 2,.int 3,.int 4,.int 2,.int 3,.int 4,.int 6])):=Same.new nk0
  have hk3:(upd H2 k0 (.lst [.int 1,.int 2,.int 3,.int 4,.int 2,.int 3,.int 4,.int 6])) k0=some (.lst [.int 1,.int 2,.int 3,.int 4,.int 2,.int 3,.int 4,.int 6]):=upd_same
  generalize upd H2 k0 (.lst [.int 1,.int 2,.int 3,.int 4,.int 2,.int 3,.int 4,.int 6])=H3 at s3 hk3 ⊢
  refine ⟨_,rfl,c,2,rfl,by decide,by decide,fun r r0=>⟨_,_,rfl,rfl,(show (0:Int) < 8 by decide),?_⟩⟩
  obtain ⟨m,hm,m0,m6⟩:∃ m:Int,atI [V.int 1,V.int 2,V.int 3,V.int 4,V.int 2,V.int 3,V.int 4,V.int 6] (r % 8)=some (.int m)∧0≤m∧m≤6:=by
   have a:=Int.emod_nonneg r (show (8:Int)≠0 by decide)
   have b:=Int.emod_lt_of_pos r (show (0:Int) < 8 by decide)
   obtain ⟨v,hv,hin⟩:=atI_in (L:=[V.int 1,V.int 2,V.int 3,V.int 4,V.int 2,V.int 3,V.int 4,V.int 6]) a b
   have:∀ v∈[V.int 1,V.int 2,V.int 3,V.int 4,V.int 2,V.int 3,V.int 4,V.int 6],∃ m:Int,v=.int m∧0≤m∧m≤6:=by
    intro v hv
    simp only [List.mem_cons,List.not_mem_nil,or_false] at hv
    rcases hv with e | e | e | e | e | e | e | e <;> exact ⟨_,e,by decide,by decide⟩
   obtain ⟨m,rfl,c1,c2⟩:=this v hin
   exact ⟨m,hv,c1,c2⟩
  refine ⟨k0,_,_,_,rfl,rfl,SqL.of hk3,hm,?_⟩
  have s03:=s02.trans s3
  have hN:∃ n:Nat,(if m < ((refs ts).length:Int) then m else ((refs ts).length:Int))=(n:Int)∧n≤6∧n≤LL.length:=by
   rw [refs_len,lt0]
   refine ⟨(if m < (LL.length:Int) then m else (LL.length:Int)).toNat,?_,?_,?_⟩ <;> split <;> omega
  refine ⟨_,_,rfl,?_⟩
  obtain ⟨n,en,n6,nL⟩:=hN
  rw [en]
  refine ⟨_,rfl,by omega,by omega,for_range (lo:=0) (n:=(n:Int).toNat) (fun i σ H'=>(∃ x4 x5 x6 x7 x8 x9 x10 x11,σ=[some (.ref l),some (.int c),some (.ref p),some (.ref g),x4,x5,x6,x7,x8,x9,x10,x11])∧FrI LL H p g i H') ⟨⟨_,_,_,_,_,_,_,_,rfl⟩,⟨ts,[],[],s3 _ _ (s2 _ _ hp1),s3 _ _ hg2,fun u hu=>s03 _ _ (e2 u hu),(fun u hu=>nomatch hu),by rw [e3]; exact .refl _,rfl,rfl,(fun u hu=>nomatch hu),(fun j e t h1 h2=>nomatch h1)⟩,s03⟩ ?_ ?_⟩
  ·rintro i σ H4 hi ⟨⟨x4,x5,x6,x7,x8,x9,x10,x11,rfl⟩,⟨lt,us,es,f1,f2,f3,f4,f5,f6,f7,f8,f9⟩,s4⟩
   rw [Int.zero_add]
   have hi:i < n:=by omega
   have hlen:es.length+lt.length=LL.length:=by
    have:=f5.length_eq
    rw [List.length_append,List.length_map] at this
    exact this
   have lpos:0 < lt.length:=by omega
   refine ⟨_,rfl,_,rfl,_,_,rfl,rfl,c,3+(i:Int),rfl,by omega,by omega,fun nm nm0=>?_⟩
   have z0:=Int.emod_nonneg nm (show ((lt.length:Nat):Int)≠0 by omega)
   have z1:=Int.emod_lt_of_pos nm (show (0:Int) < ((lt.length:Nat):Int) by omega)
   have hk:(nm % (lt.length:Int)).toNat < lt.length:=by omega
   have hu:lt[(nm % (lt.length:Int)).toNat]?=some lt[(nm % (lt.length:Int)).toNat]:=List.getElem?_eq_getElem hk
   generalize lt[(nm % (lt.length:Int)).toNat]=u at hu
   have hum:=List.mem_of_getElem? hu
   refine ⟨_,rfl,.inl ⟨rfl,_,SqL.of f1⟩,_,rfl,_,rfl,p,_,rfl,.inl (SqL.of f1),_,_,rfl,rfl,by rw [refs_len]; omega,p,_,_,(nm % (lt.length:Int)).toNat,.ref u.1,rfl,by rw [refs_len],f1,by omega,by omega,by rw [refs_len]; exact pop_ix z0 z1,by rw [refs,List.getElem?_map,hu]; rfl,?_⟩
   rw [erase_refs]
   have hv:=f3 u hum
   have nup:u.1≠p:=ne_of hv f1 (by intro z; cases z)
   have kp:∀ {y:Addr} {o:HO},H4 y=some o→y≠p→(upd H4 p (.lst (refs (lt.eraseIdx (nm % (lt.length:Int)).toNat)))) y=some o:=fun {y o} e ny=>by rw [upd_ne ny]; exact e
   have g1:(upd H4 p (.lst (refs (lt.eraseIdx (nm % (lt.length:Int)).toNat)))) p=some (.lst (refs (lt.eraseIdx (nm % (lt.length:Int)).toNat))):=upd_same
   have tupN:∀ {y:Addr} {xs:List V},H4 y=some (.tup xs)→y≠p:=fun {y xs} e=>ne_of e f1 (by intro z; cases z)
   have g2:=kp f2 (Ne.symm npg)
   have g3:∀ w∈lt.eraseIdx (nm % (lt.length:Int)).toNat,(upd H4 p (.lst (refs (lt.eraseIdx (nm % (lt.length:Int)).toNat)))) w.1=some (.tup [.int w.2.t,.int w.2.l,.int w.2.b,.int w.2.r]):=fun w hw=>kp (f3 w (List.mem_of_mem_eraseIdx hw)) (tupN (f3 w (List.mem_of_mem_eraseIdx hw)))
   have g4:∀ w∈us,(upd H4 p (.lst (refs (lt.eraseIdx (nm % (lt.length:Int)).toNat)))) w.1=some (.tup [.int w.2.1,.int w.2.2.1,.bl w.2.2.2]):=fun w hw=>kp (f4 w hw) (tupN (f4 w hw))
   have s5:Same H (upd H4 p (.lst (refs (lt.eraseIdx (nm % (lt.length:Int)).toNat)))):=fun y o e=>kp (s4 y o e) (ne_of_none e np)
   have hv5:=kp hv nup
   have pm:((es++[u.2])++(lt.eraseIdx (nm % (lt.length:Int)).toNat).map (·.2)).Perm LL:=by
    refine List.Perm.trans ?_ f5
    rw [List.append_assoc]
    exact List.Perm.append_left _ ((erase_perm hu).map Prod.snd)
   generalize lt.eraseIdx (nm % (lt.length:Int)).toNat=lt' at g1 g2 g3 g4 s5 hv5 pm ⊢
   generalize upd H4 p (.lst (refs lt'))=H5 at g1 g2 g3 g4 s5 hv5 ⊢
   have ub:LfB u.2:=bd u.2 (f5.subset (List.mem_append_right _ (List.mem_map.mpr ⟨u,hum,rfl⟩)))
   refine ⟨u.1,_,rfl,SqT.of hv5,rfl,_,_,rfl,_,_,rfl,_,_,rfl,_,_,rfl,rfl,?_⟩
   refine ⟨_,rfl,_,rfl,_,_,rfl,rfl,_,rfl,_,rfl,_,_,rfl,rfl,lenOk 2,fun z nz=>?_⟩
   have s6:Same H5 (upd H5 z (.tup [.int (u.2.r - u.2.l),.int (u.2.b - u.2.t)])):=Same.new nz
   have hz6:(upd H5 z (.tup [.int (u.2.r - u.2.l),.int (u.2.b - u.2.t)])) z=some (.tup [.int (u.2.r - u.2.l),.int (u.2.b - u.2.t)]):=upd_same
   generalize upd H5 z (.tup [.int (u.2.r - u.2.l),.int (u.2.b - u.2.t)])=H6 at s6 hz6 ⊢
   refine ⟨_,rfl,_,_,rfl,rfl,divL _ (by decide) (by decide),_,_,rfl,rfl,(show (0:Int) < 2 by decide),rfl,?_⟩
   obtain ⟨⟨w1,w2⟩,h1,h2⟩:=id ub
   show (fun x H1=>gName 11 x _ H1 _) (V.bl (decide (V.int (nm / 150 % 2)=V.int 1))) H6
   generalize decide (V.int (nm / 150 % 2)=V.int 1)=tb
   have fin:∀ (H9:Hp) (y:Addr) (A' B':Int),Same H6 H9→H9 y=some (.tup [.int A',.int B',.bl tb])→WOk (A',B',tb)→Fits u.2 (A',B',tb)→FrI LL H p g (i+1) (upd H9 g (.lst (refs us++[.ref y]))):=fun H9 y A' B' s9 hy wk ft=>by
    have s59:=s6.trans s9
    have hg9:=s59 _ _ g2
    have kq:∀ {a:Addr} {xs:List V},H9 a=some (.tup xs)→(upd H9 g (.lst (refs us++[.ref y]))) a=some (.tup xs):=fun {a xs} e=>by rw [upd_ne (ne_of e hg9 (by intro z; cases z))]; exact e
    refine ⟨⟨lt',us++[(y,A',B',tb)],es++[u.2],by rw [upd_ne npg]; exact s59 _ _ g1,by rw [upd_same,refs,refs,List.map_append]; rfl,fun v hv=>kq (s59 _ _ (g3 v hv)),fun v hv=>?_,pm,by rw [List.length_append,f6]; rfl,by rw [List.length_append,f7]; rfl,fun v hv=>?_,fun j e t h1 h2=>?_⟩,fun a o e=>by rw [upd_ne (ne_of_none e ng0)]; exact s59 _ _ (s5 a o e)⟩
    ·rcases List.mem_append.mp hv with hv | hv
     ·exact kq (s59 _ _ (g4 v hv))
     ·rw [List.mem_singleton.mp hv]; exact kq hy
    ·rcases List.mem_append.mp hv with hv | hv
     ·exact f8 v hv
     ·rw [List.mem_singleton.mp hv]; exact wk
    ·rw [List.map_append] at h2
     rcases Nat.lt_trichotomy j i with c | c | c
     ·rw [List.getElem?_append_left (by omega)] at h1
      rw [List.getElem?_append_left (by rw [List.length_map]; omega)] at h2
      exact f9 j e t h1 h2
     ·rw [List.getElem?_append_right (by omega),c,f6,Nat.sub_self] at h1
      rw [List.getElem?_append_right (by rw [List.length_map]; omega),c,List.length_map,f7,Nat.sub_self] at h2
      cases h1
      cases h2
      exact ft
     ·rw [List.getElem?_eq_none (by rw [List.length_append]; show es.length+1≤j; omega)] at h1
      cases h1
   have us6:us.length≤6:=by omega
   have fin2:∀ (H7:Hp) (z':Addr) (A' B':Int),Same H6 H7→H7 z'=some (.tup [.int A',.int B'])→WOk (A',B',tb)→Fits u.2 (A',B',tb)→∀ w,H7 w=none→∀ y,(upd H7 w (.tup [.bl tb])) y=none→FrI LL H p g (i+1) (upd (upd (upd H7 w (.tup [.bl tb])) y (.tup ([.int A',.int B']++[.bl tb]))) g (.lst (refs us++[.ref y]))):=fun H7 z' A' B' s7 hz' wk ft w nw y ny=>fin _ y A' B' (s7.trans ((Same.new nw).trans (Same.new ny))) upd_same wk ft
   refine ⟨_,rfl,tb,rfl,?_⟩
   have plain:WOk (u.2.r - u.2.l,u.2.b - u.2.t,tb)∧Fits u.2 (u.2.r - u.2.l,u.2.b - u.2.t,tb):=⟨⟨w1,w2,h1,h2⟩,.inl ⟨rfl,rfl⟩⟩
   refine ite3 (fun ct=>?_) (fun _=>?_)
   ·refine ⟨_,rfl,_,_,rfl,rfl,divL _ (by decide) (by decide),_,_,rfl,rfl,(show (0:Int) < 2 by decide),rfl,_,rfl,ite3 (fun _=>?_) (fun _=>?_)⟩
    ·refine ⟨_,rfl,z,_,_,_,rfl,rfl,SqT.of hz6,at2_1,_,rfl,z,_,_,_,rfl,rfl,SqT.of hz6,at2_0,lenOk 2,fun z' nz'=>?_⟩
     have s7:Same H6 (upd H6 z' (.tup [.int (u.2.b - u.2.t),.int (u.2.r - u.2.l)])):=Same.new nz'
     have hz7:(upd H6 z' (.tup [.int (u.2.b - u.2.t),.int (u.2.r - u.2.l)])) z'=some (.tup [.int (u.2.b - u.2.t),.int (u.2.r - u.2.l)]):=upd_same
     generalize upd H6 z' (.tup [.int (u.2.b - u.2.t),.int (u.2.r - u.2.l)])=H7 at s7 hz7 ⊢
     have turned:WOk (u.2.b - u.2.t,u.2.r - u.2.l,tb)∧Fits u.2 (u.2.b - u.2.t,u.2.r - u.2.l,tb):=⟨⟨h1,h2,w1,w2⟩,.inr ⟨ct,rfl,rfl⟩⟩
     refine ⟨_,rfl,.inl ⟨rfl,_,SqL.of (s7 _ _ (s6 _ _ g2))⟩,_,rfl,_,rfl,lenOk 1,fun w nw=>⟨z',w,_,_,rfl,rfl,SqT.of ((Same.new nw) _ _ (hz7)),SqT.of upd_same,(by simp),(show 3≤sizeLine from Nat.le_of_lt (small1000 (by decide))),(fun z=>nomatch z),fun _ y ny=>⟨g,_,_,rfl,rfl,(Same.new ny) _ _ ((Same.new nw) _ _ (s7 _ _ (s6 _ _ g2))),small1000 (by rw [refs_len]; omega),⟨_,_,_,_,_,_,_,_,rfl⟩,fin2 _ z' (u.2.b - u.2.t) (u.2.r - u.2.l) (s7) (hz7) (turned.1) (turned.2) w nw y ny⟩⟩⟩
    ·skip
     refine ⟨_,rfl,.inl ⟨rfl,_,SqL.of (s6 _ _ g2)⟩,_,rfl,_,rfl,lenOk 1,fun w nw=>⟨z,w,_,_,rfl,rfl,SqT.of ((Same.new nw) _ _ (hz6)),SqT.of upd_same,(by simp),(show 3≤sizeLine from Nat.le_of_lt (small1000 (by decide))),(fun z=>nomatch z),fun _ y ny=>⟨g,_,_,rfl,rfl,(Same.new ny) _ _ ((Same.new nw) _ _ (s6 _ _ g2)),small1000 (by rw [refs_len]; omega),⟨_,_,_,_,_,_,_,_,rfl⟩,fin2 _ z (u.2.r - u.2.l) (u.2.b - u.2.t) (Same.refl _) (hz6) (plain.1) (plain.2) w nw y ny⟩⟩⟩
   ·skip
    refine ⟨_,rfl,.inl ⟨rfl,_,SqL.of (s6 _ _ g2)⟩,_,rfl,_,rfl,lenOk 1,fun w nw=>⟨z,w,_,_,rfl,rfl,SqT.of ((Same.new nw) _ _ (hz6)),SqT.of upd_same,(by simp),(show 3≤sizeLine from Nat.le_of_lt (small1000 (by decide))),(fun z=>nomatch z),fun _ y ny=>⟨g,_,_,rfl,rfl,(Same.new ny) _ _ ((Same.new nw) _ _ (s6 _ _ g2)),small1000 (by rw [refs_len]; omega),⟨_,_,_,_,_,_,_,_,rfl⟩,fin2 _ z (u.2.r - u.2.l) (u.2.b - u.2.t) (Same.refl _) (hz6) (plain.1) (plain.2) w nw y ny⟩⟩⟩
  ·rintro σ H4 ⟨⟨x4,x5,x6,x7,x8,x9,x10,x11,rfl⟩,⟨lt,us,es,f1,f2,f3,f4,f5,f6,f7,f8,f9⟩,s4⟩
   exact ⟨_,rfl,q g (us.map (·.2)) H4 s4 ng0 ⟨us,f2,f4,rfl⟩ (by rw [List.length_map]; omega) (fun t ht=>by obtain ⟨u,hu,rfl⟩:=List.mem_map.mp ht; exact f8 u hu) ⟨es,lt.map (·.2),f5,by rw [List.length_map]; omega,f9⟩⟩
def sp_bitsof (cW cU cL:Addr):Sp:=fun vs H Q _=>∃ (v:V) (a sh:Addr) (ws:List Want) (x:Tr) (b w h:Int),vs=[v,.ref a,.ref sh]∧WantsAt H a ws∧ws.length≤6∧(∀ t∈ws,WOk t)∧H sh=some (.tup [.int w,.int h])∧Obj cW cU cL H x v∧Sv ws x b w h∧1≤b∧b≤63∧(1≤w∧w≤12)∧(1≤h∧h≤12)∧∀ H',Same H H'→Q (.int b) H'
def BitI (v:V) (a sh:Addr) (LL:List Lf) (H1:Hp) (i:Nat) (σ:St) (H':Hp):Prop:=(∃ met x4,σ=[some v,some (.ref a),some (.ref sh),some (.int met),x4]∧0≤met∧met≤63∧met=msum (lmarks (LL.take i))∧∀ j,j < 6→bitB met j=decide (j∈lmarks (LL.take i)))∧Same H1 H'
theorem S_law_bits:FnScope ["_law_tree","_law_wants","_law_sheet","_law_found","_law_leaf"] ["_law_tree","_law_wants","_law_sheet"] (defScope s__law_bits):=⟨rfl,rfl,rfl,by decide +kernel,rfl,by decide +kernel,by decide +kernel⟩
theorem ok_law_bits {f:Addr} {fd:FuncData} (F:Fun K "_law_bits" "_law_bits" s__law_bits f fd) (D__law_leaves:DefOk P w K mg base 25 "_law_leaves" ["_law_tree","_law_top","_law_left","_law_bottom","_law_right"] (sp_leaves cW cU cL 24)) (D__law_serves:DefOk P w K mg base 26 "_law_serves" ["_law_tree","_law_wants","_law_bits_here","_law_width","_law_height"] (sp_serves cW cU cL)):FnOk P w K mg base CX0 27 f fd ["_law_tree","_law_wants","_law_sheet"] (sp_bitsof cW cU cL):=by
 have S:=S_law_bits
 refine F.ok S (fun vs H Q E h=>?_) (fun cdv A outer s H vs Q E hr h=>?_)
 ·obtain ⟨v,a,sh,ws,x,b,w,h,rfl,_⟩:=h; rfl
 ·obtain ⟨v,a,sh,ws,x,b,ww,hh,rfl,hw,few,ok,hsh,ho,sv,b1,b2,bw,bh,q⟩:=h
  obtain ⟨fit,gd,nd,mk,sm⟩:=sv_ok ok sv b1 b2
  have dp:=fit_dp bw.1 bh.1 fit
  have sz:x.sz≤144:=by
   have:=fit_sz bw.1 bh.1 fit
   have h1:ww * hh≤12 * hh:=Int.mul_le_mul_of_nonneg_right bw.2 (by omega)
   omega
  refine ⟨_,(pss_cons (ps_set (i:=3) S.nd rfl (Or.inl rfl) pe_int)
   (pss_cons (ps_for PassesOwn.never rfl (pi_list (pe_fn D__law_leaves hr (pa_cons (pv 0) (pa_cons pe_int (pa_cons pe_int (pa_cons (pe_ix ix_tup (pv 2) pe_int (fun _ _=>rfl)) (pa_cons (pe_ix ix_tup (pv 2) pe_int (fun _ _=>rfl)) pa_nil))))))) (pg_name (i:=4) S.nd rfl (Or.inl rfl)) (pss_cons (ps_if (pt_cmpR op_isN (pv 4) pe_non (nomark _)) (pss_one (ps_ret (pe_un un_neg pe_int))) pss_nil)
   (pss_one (ps_if (pt_cmpR op_notN (pe_ix ix_tup (pv 4) pe_int (fun _ _=>rfl)) pe_non (nomark _)) (pss_one (ps_set (i:=3) S.nd rfl (Or.inl rfl) (pe_op op_add (pv 3) (pe_op op_shl pe_int (pe_ix ix_tup (pv 4) pe_int (fun _ _=>rfl)))))) pss_nil))))
   (pss_cons (ps_if (PW.pt (pw_or (pt_cmpR op_eq (pv 3) pe_int (nomark _)) (pw_or1 (pt_not (pt_val (pe_fn D__law_serves hr (pa_cons (pv 0) (pa_cons (pv 1) (pa_cons (pv 3) (pa_cons (pe_ix ix_tup (pv 2) pe_int (fun _ _=>rfl)) (pa_cons (pe_ix ix_tup (pv 2) pe_int (fun _ _=>rfl)) pa_nil))))))))))) (pss_one (ps_ret (pe_un un_neg pe_int))) pss_nil)
   (pss_one (ps_ret (pv 3)))))),?_⟩
  refine ⟨_,rfl,_,rfl,sh,_,_,_,rfl,rfl,SqT.of hsh,at2_1,_,rfl,sh,_,_,_,rfl,rfl,SqT.of hsh,at2_0,v,x,0,0,hh,ww,rfl,ho,by rw [Int.sub_zero,Int.sub_zero]; exact fit,by omega,sz,fun l xs H1 s1 hl L=>?_⟩
  have lm:=lvs_marks x 0 0 hh ww
  have lok:=lvs_ok x 0 0 hh ww (by rw [Int.sub_zero,Int.sub_zero]; exact gd)
  generalize lvs x 0 0 hh ww=LL at L lm lok
  refine ⟨l,rfl,⟨_,SqL.of hl⟩,for_list (K:=K) (a:=l) (xs:=xs) (BitI v a sh LL H1)
   ⟨⟨0,_,rfl,by omega,by omega,rfl,fun j hj=>by rw [zero_bits j hj]; rfl⟩,Same.refl _⟩ (fun i σ H' _ hp=>SqL.of (hp.2 _ _ hl)) ?_ ?_⟩
  ·rintro i y σ H2 hy ⟨⟨met,x4,rfl,m0,m31,em,bits⟩,s2⟩
   obtain ⟨e,he,t,r,rfl,ht1,hr1⟩:=L.get hy
   have ht2:=s2 _ _ ht1
   have tk:LL.take (i+1)=LL.take i++[e]:=by rw [List.take_succ,he]; rfl
   refine ⟨_,rfl,rfl,_,rfl,iteN (decide_eq_false (by intro z; cases z)) ?_⟩
   refine ⟨_,rfl,t,_,_,_,rfl,rfl,SqT.of ht2,at2_1,rfl,_,rfl,?_⟩
   cases hm:e.m with
   | none =>
    have e0:lmarks (LL.take (i+1))=lmarks (LL.take i):=by
     rw [tk,lmarks_snoc,hm]; exact List.append_nil _
    exact iteN rfl ⟨⟨met,_,rfl,m0,m31,by rw [e0]; exact em,fun j hj=>by rw [e0]; exact bits j hj⟩,s2⟩
   | some m =>
    rw [hm] at ht2
    have ht2:H2 t=some (.tup [.ref r,.int m]):=ht2
    obtain ⟨wt,g0,g5,hwt,alt⟩:=lok e (List.mem_of_getElem? he) m hm
    have em2:(e.m.map Int.toNat).toList=[m.toNat]:=by rw [hm]; rfl
    have nin:m.toNat ∉ lmarks (LL.take i):=fun z=>by
     have:(lmarks (LL.take (i+1))).Nodup:=by
      have:(lmarks LL).Nodup:=by rw [lm]; exact nd
      rw [← List.take_append_drop (i+1) LL,lmarks_app,List.nodup_append] at this
      exact this.1
     rw [tk,lmarks_snoc,em2,List.nodup_append] at this
     exact this.2.2 _ z _ (List.mem_singleton.mpr rfl) rfl
    have hbit:bitB met m.toNat=false:=by rw [bits _ g5]; exact decide_eq_false nin
    obtain ⟨ad1,ad2⟩:=add_of m0 m31 g5 hbit
    have:=pow1 m.toNat
    refine iteP rfl ⟨_,rfl,_,rfl,t,_,_,_,rfl,rfl,SqT.of ht2,at2_1,_,_,rfl,rfl,⟨by omega,by omega,by omega⟩,_,_,rfl,rfl,?_⟩
    refine ⟨⟨met+1 * 2^m.toNat,_,rfl,by omega,ad1,?_,fun j hj=>?_⟩,s2⟩
    ·rw [tk,lmarks_snoc,em2,msum_app,← em]
     show met+1 * 2^m.toNat=met+(1 * 2^m.toNat+0)
     omega
    ·rw [ad2 j hj,bits j hj,tk,lmarks_snoc,em2]
     rw [Bool.eq_iff_iff]
     simp [List.mem_append,or_comm]
  ·rintro σ H2 ⟨⟨met,x4,rfl,m0,m31,em,bits⟩,s2⟩
   have eb:met=b:=by rw [em,L.len,List.take_length,lm,sm]
   rw [eb]
   have s12:=s1.trans s2
   have hsh2:=s12 _ _ hsh
   refine ⟨_,rfl,rfl,_,rfl,iteN (decide_eq_false fun z=>by injection z with z; omega) ?_⟩
   refine ⟨_,rfl,_,rfl,_,rfl,_,rfl,sh,_,_,_,rfl,rfl,SqT.of hsh2,at2_0,_,rfl,sh,_,_,_,rfl,rfl,SqT.of hsh2,at2_1,v,a,ws,x,b,ww,hh,rfl,hw.same s12,few,ok,ho.same s12,sv,b1,b2,bw,bh,fun H3 s3=>⟨_,rfl,iteN rfl ⟨_,rfl,q H3 (s12.trans s3)⟩⟩⟩
def psum (D:List PRow):Int:=(D.map (·.2.2)).sum
def asum (ss:List (Int × Int)) (D:List PRow):Int:=(D.map fun r=>area (ss.getD r.1 (0,0))).sum
theorem Pl.sum {ws:List Want} {ss:List (Int × Int)} {B:Int} {D:List PRow} {b g:Int} (h:Pl ws ss B D b g):b=B - psum D∧g=asum ss D:=by
 induction h with
 | nil=>exact ⟨by show B=B - 0; omega,rfl⟩
 | @snoc D b g p k x z h b1 hp hz sv ih =>
  unfold psum asum at ih ⊢
  rw [List.map_append,List.sum_append,List.map_append,List.sum_append]
  have e:ss.getD k (0,0)=z:=by rw [List.getD_eq_getElem?_getD,hz]; rfl
  simp only [List.map_cons,List.map_nil,List.sum_cons,List.sum_nil,e]
  omega
theorem Pl.zero {ws:List Want} {ss:List (Int × Int)} {B:Int} {D:List PRow} {b g:Int} (h:Pl ws ss B D b g) (h0:B=0):b=0:=by
 induction h with
 | nil=>exact h0
 | snoc h b1 _ _ _ ih=>omega
theorem psum_snoc {D:List PRow} {r:PRow}:psum (D++[r])=psum D+r.2.2:=by
 unfold psum
 rw [List.map_append,List.sum_append]
 simp
theorem asum_snoc {ss:List (Int × Int)} {D:List PRow} {r:PRow} {z:Int × Int} (h:ss[r.1]?=some z):asum ss (D++[r])=asum ss D+area z:=by
 unfold asum
 rw [List.map_append,List.sum_append]
 have e:ss.getD r.1 (0,0)=z:=by rw [List.getD_eq_getElem?_getD,h]; rfl
 simp [h]
def sp_pland:Sp:=fun vs H Q _=>∃ (a b:Addr) (ws:List Want) (ss:List (Int × Int)) (n:Nat) (h:Int→List Int) (G:Int→Option Int) (g:Int),vs=[.ref a,.ref b,.int g]∧WantsAt H a ws∧ws.length≤6∧(∀ t∈ws,WOk t)∧TupL H b ss∧1≤ss.length∧ss.length≤4∧(∀ z∈ss,SOk z)∧n=2^ws.length - 1 ∧
 (∀ p:Int,1≤p→p≤(n:Int)→Row ws h p)∧(∀ p:Int,1≤p→p≤(n:Int)→(h p).length=13)∧GlassP (fun q=>cost (h q) ss) G n∧(∀ i:Nat,i < ws.length→cost (h (1 * 2^i)) ss≠none)∧G n=some g∧∀ H',Q (.bl true) H'
abbrev N_pld:List Str:=["_law_wants","_law_sheets","_law_glass","_law_met","_law_gone","_law_number","_law_tree","_law_bits_here"]
theorem S_law_planned:FnScope N_pld ["_law_wants","_law_sheets","_law_glass"] (defScope s__law_planned):=⟨rfl,rfl,rfl,by decide +kernel,rfl,by decide +kernel,by decide +kernel⟩
theorem ok_law_planned {f:Addr} {fd:FuncData} (F:Fun K "_law_planned" "_law_planned" s__law_planned f fd) (T:Txt mg t1 t2 t3 t4 t5 t6) (D_plan:DefOkX P w K mg base 12 "plan" ["wants","sheets"] (sp_plan cW cU cL cP)) (D__law_bits:DefOk P w K mg base 27 "_law_bits" ["_law_tree","_law_wants","_law_sheet"] (sp_bitsof cW cU cL)):FnOk P w K mg base CX0 28 f fd ["_law_wants","_law_sheets","_law_glass"] sp_pland:=by
 have S:=S_law_planned
 refine F.ok S (fun vs H Q E h=>?_) (fun cdv A outer s H vs Q E hr h=>?_)
 ·obtain ⟨a,b,ws,ss,n,h,G,g,rfl,_⟩:=h; rfl
 ·obtain ⟨a,b,ws,ss,n,h,G,g,rfl,hw,few,ok,tb,l1,l2,so,hn,rows,len,gp,all,hG,q⟩:=h
  have hu:=hu_of hr
  have n31:n≤63:=by rw [hn]; exact pow31 few
  refine ⟨_,(pss_cons (ps_set (i:=3) S.nd rfl (Or.inl rfl) pe_int)
   (pss_cons (ps_set (i:=4) S.nd rfl (Or.inl rfl) pe_int)
   (pss_cons (ps_for PassesOwn.never rfl (pi_list (pe_fnx D_plan hr pass_no (pa_cons (pe_callTy call_list_of rfl T.z_list rfl (pa_cons (pv 0) pa_nil)) (pa_cons (pe_callTy call_list_of rfl T.z_list rfl (pa_cons (pv 1) pa_nil)) pa_nil)))) (pg_tup rfl (pgs_cons (pg_name (i:=5) S.nd rfl (Or.inl rfl)) (pgs_cons (pg_name (i:=6) S.nd rfl (Or.inl rfl)) pgs_nil))) (pss_cons (ps_set (i:=7) S.nd rfl (Or.inl rfl) (pe_fn D__law_bits hr (pa_cons (pv 6) (pa_cons (pv 0) (pa_cons (pe_ix ix_list (pv 1) (pv 5) (fun _ _=>rfl)) pa_nil)))))
   (pss_cons (ps_if (PW.pt (pw_or (pt_cmpR op_lt (pv 7) pe_int (nomark _)) (pw_or1 (pt_cmpR op_ne (pe_op op_and (pv 7) (pv 3)) pe_int (nomark _))))) (pss_one (ps_ret pe_bl)) pss_nil)
   (pss_cons (ps_set (i:=3) S.nd rfl (Or.inl rfl) (pe_op op_add (pv 3) (pv 7)))
   (pss_one (ps_set (i:=4) S.nd rfl (Or.inl rfl) (pe_op op_add (pv 4) (pe_op op_mulL (pe_ix ix_tup (pe_ix ix_list (pv 1) (pv 5) (fun _ _=>rfl)) pe_int (fun _ _=>rfl)) (pe_ix ix_tup (pe_ix ix_list (pv 1) (pv 5) (fun _ _=>rfl)) pe_int (fun _ _=>rfl))))))))))
   (pss_one (ps_ret (pe_and (pe_cmpR op_eq (pv 3) (pe_op op_sub (pe_op op_shl pe_int (pe_callB call_len_seq rfl T.z_len rfl (pa_cons (pv 0) pa_nil))) pe_int) (nomark _)) (pe_one (pe_cmpR op_eq (pv 4) (pv 2) (nomark _))))))))),?_⟩
  obtain ⟨ts,ha,ht,hts⟩:=id hw
  refine ⟨_,rfl,a,_,rfl,.inl (SqL.of ha),fun la nla=>?_⟩
  have s1:Same H (upd H la (.lst (refs ts))):=Same.new nla
  have wl1:WantsAt (upd H la (.lst (refs ts))) la ws:=⟨ts,upd_same,fun t hm=>s1 _ _ (ht t hm),hts⟩
  generalize upd H la (.lst (refs ts))=H1 at s1 wl1 ⊢
  obtain ⟨us,hs1,hu1,hus⟩:=tb.same s1
  refine ⟨_,rfl,b,_,rfl,.inl (SqL.of hs1),fun lb nlb=>?_⟩
  have s2:Same H1 (upd H1 lb (.lst (refs us))):=Same.new nlb
  have tl2:TupL (upd H1 lb (.lst (refs us))) lb ss:=⟨us,upd_same,fun t hm=>s2 _ _ (hu1 t hm),hus⟩
  generalize upd H1 lb (.lst (refs us))=H2 at s2 tl2 ⊢
  refine ⟨la,lb,ws,ss,n,h,G,rfl,wl1.same s2,few,ok,tl2,l1,l2,so,hn,rows,len,gp,fun _ l xs D g' H3 s3 nl hl rw0 pl hG'=>?_,fun i hi al ec=>absurd ec (all i hi)⟩
  have eg:g'=g:=by rw [hG] at hG'; exact (Option.some.inj hG').symm
  subst eg
  have s03:=s1.trans (s2.trans s3)
  have hw3:=hw.same s03
  have tb3:=tb.same s03
  refine ⟨l,rfl,⟨_,SqL.of hl⟩,for_list (K:=K) (a:=l) (xs:=xs) (fun i σ H'=>(∃ (x5 x6 x7:Option V),σ=[some (.ref a),some (.ref b),some (.int g'),some (.int (psum (D.take i))),some (.int (asum ss (D.take i))),x5,x6,x7])∧Same H3 H') ⟨⟨_,_,_,rfl⟩,Same.refl _⟩ (fun i σ H' _ hp=>SqL.of (hp.2 _ _ hl)) ?_ ?_⟩
  ·rintro i y σ H4 hy ⟨⟨x5,x6,x7,rfl⟩,s4⟩
   obtain ⟨r,hr,t,u,rfl,ht0,ho0⟩:=rw0.get hy
   obtain ⟨b',g',z,p1,p2,p3,hz,sv,p6⟩:=pl.at hr
   have n1:(1:Int)≤n:=by
    rcases Nat.eq_zero_or_pos n with e | e
    ·have:=p1.zero (by omega); omega
    ·omega
   obtain ⟨k1,k2,k3,k4⟩:=p1.ok n1 (by omega)
   obtain ⟨f1,f2,f3,f4,f5,f6,f7,f8,f9⟩:=step_of n1 (by omega) p2 (by omega) k3 p3
   have em:=p1.sum.1
   have tk:D.take (i+1)=D.take i++[r]:=by rw [List.take_succ,hr]; rfl
   have ht:=s4 _ _ ht0
   have ho:=ho0.same s4
   obtain ⟨sx1,sx2,sx3,sx4⟩:=so z (List.mem_of_getElem? hz)
   have psn:psum (D.take i)=n - b':=by omega
   obtain ⟨vs,v1,v2,v3⟩:=tb3.same s4
   have hzt:=hz
   rw [← v3,List.getElem?_map] at hzt
   obtain ⟨v,hv,rfl⟩:=Option.map_eq_some_iff.mp hzt
   have hvs:=v2 v (List.mem_of_getElem? hv)
   have hat:atI (refs vs) (r.1:Int)=some (.ref v.1):=at_refs (by omega) (by rw [Int.toNat_natCast]; exact hv)
   refine ⟨t,_,rfl,SqT.of ht,rfl,_,_,rfl,_,_,rfl,rfl,?_⟩
   refine ⟨_,rfl,_,rfl,_,rfl,_,rfl,b,_,_,_,rfl,rfl,SqL.of v1,hat,u,a,v.1,ws,r.2.1,r.2.2,v.2.1,v.2.2,rfl,hw3.same s4,few,ok,hvs,ho,sv,f4,by omega,⟨sx1,sx2⟩,⟨sx3,sx4⟩,fun H5 s5=>?_⟩
   refine ⟨_,rfl,_,_,rfl,rfl,_,rfl,iteN (decide_eq_false (by omega)) ?_⟩
   refine ⟨_,rfl,_,rfl,_,_,rfl,rfl,rfl,_,rfl,iteN (by show (!decide (V.int (Builtin.bitAnd r.2.2 (psum (D.take i)))=V.int 0))=false; rw [psn,f2]; decide) ?_⟩
   have e1:psum (D.take (i+1))=psum (D.take i)+r.2.2:=by rw [tk,psum_snoc]
   have e2:asum ss (D.take (i+1))=asum ss (D.take i)+v.2.1 * v.2.2:=by
    rw [tk,asum_snoc hz]; rfl
   refine ⟨_,rfl,_,rfl,_,_,rfl,rfl,_,rfl,_,rfl,_,rfl,b,_,_,_,rfl,rfl,SqL.of (s5 _ _ v1),hat,v.1,_,_,_,rfl,rfl,SqT.of (s5 _ _ hvs),at2_0,_,rfl,_,rfl,b,_,_,_,rfl,rfl,SqL.of (s5 _ _ v1),hat,v.1,_,_,_,rfl,rfl,SqT.of (s5 _ _ hvs),at2_1,_,_,rfl,rfl,mul64 (by omega) (by omega) (by omega) (by omega),_,_,rfl,rfl,⟨some (.int r.1),some u,some (.int r.2.2),by rw [e1,e2]; rfl⟩,s4.trans s5⟩
  ·rintro σ H4 ⟨⟨x5,x6,x7,rfl⟩,s4⟩
   have e1:=pl.sum
   rw [rw0.len,List.take_length]
   obtain ⟨ts,ha,ht,hts⟩:=hw3.same s4
   have tl:(refs ts).length=ws.length:=by rw [refs_len,← hts,List.length_map]
   have bits:((1:Int) * 2^(((refs ts).length:Nat):Int).toNat - 1)=(n:Int):=by
    rw [tl]
    have:∀ m:Nat,m≤6→(1:Int) * 2^((m:Nat):Int).toNat - 1=((2^m - 1:Nat):Int):=by decide +kernel
    rw [this _ few,← hn]
   refine ⟨_,rfl,_,rfl,a,refs ts,rfl,.inl (SqL.of ha),_,_,rfl,rfl,⟨by omega,by rw [tl]; omega,by decide⟩,_,_,rfl,rfl,?_⟩
   show rEq (V.int (psum D)) (V.int ((1:Int) * 2^(((refs ts).length:Nat):Int).toNat - 1)) H4 _
   rw [bits]
   refine ⟨rfl,_,rfl,iteP (decide_eq_true (congrArg V.int (by omega))) ⟨_,rfl,_,rfl,rfl,?_⟩⟩
   rw [show asum ss D=g' by exact e1.2.symm]
   rw [decide_eq_true rfl]
   exact q H4
theorem msum_perm {a b:List Nat} (p:a.Perm b):msum a=msum b:=by
 induction p with
 | nil=>rfl
 | cons x _ ih=>show 1 * 2^x+msum _=1 * 2^x+msum _; rw [ih]
 | swap x y l=>show 1 * 2^y+(1 * 2^x+msum l)=1 * 2^x+(1 * 2^y+msum l); omega
 | trans _ _ ih1 ih2=>rw [ih1,ih2]
theorem bits_ok:∀ m:Nat,m≤6→(upto (2^m - 1)).all (fun b=>decide (msum ((List.range m).filter (bitB b))=b))=true:=by decide +kernel
theorem fm_filter {p:Nat→Bool}:∀ (l:List Nat),l.filterMap (fun i=>if p i=true then some i else none)=l.filter p
 | []=>rfl
 | i :: l=>by
  rw [List.filterMap_cons,List.filter_cons]
  cases h:p i <;> simp [fm_filter l]
def lf0:Lf:=⟨0,0,0,0,none⟩
theorem range_map (es:List Lf):(List.range es.length).map (fun i=>es.getD i lf0)=es:=by
 apply List.ext_getElem?
 intro i
 rw [List.getElem?_map]
 by_cases h:i < es.length
 ·rw [List.getElem?_range h,List.getElem?_eq_getElem h]
  show some (es.getD i lf0)=_
  rw [List.getD_eq_getElem?_getD,List.getElem?_eq_getElem h]; rfl
 ·rw [List.getElem?_eq_none (by rw [List.length_range]; omega),List.getElem?_eq_none (by omega)]; rfl
theorem sets_lie {ws:List Want} {h:Int→List Int} {n:Nat} {x:Tr} {W T:Int} (ok:∀ t∈ws,WOk t) (few:ws.length≤6) (hn:n=2^ws.length - 1) (rows:∀ p,1≤p→p≤(n:Int)→Row ws h p) (fit:Fit x W T) (w1:1≤W) (w2:W≤12) (t1:1≤T) (dr:Drew (lvs x 0 0 T W) ws) {b:Int} (b1:1≤b) (b2:b≤n):rat (h b) W≤T:=by
 obtain ⟨es,rest,pm,el,ft⟩:=dr
 have n63:(n:Int)≤63:=by have:=pow31 few; omega
 have hb:msum ((List.range es.length).filter (bitB b))=b:=by
  rw [el]
  exact of_decide_eq_true (List.all_eq_true.mp (bits_ok _ few) b (mem_upto.mpr ⟨b1,by omega⟩))
 let g:Nat→Lab:=fun i=>(es.getD i lf0,if bitB b i=true then some i else none)
 have e1:((List.range es.length).map g++rest.map (fun e=>((e,none):Lab))).map (·.1)=es++rest:=by
  rw [List.map_append,List.map_map,List.map_map]
  have a:(List.range es.length).map ((·.1)∘g)=es:=range_map es
  have c:rest.map ((·.1)∘fun e=>((e,none):Lab))=rest:=List.map_id' rest
  rw [a,c]
 have e2:((List.range es.length).map g++rest.map (fun e=>((e,none):Lab))).filterMap (·.2)=(List.range es.length).filter (bitB b):=by
  rw [List.filterMap_append,List.filterMap_map,List.filterMap_map]
  have c:rest.filterMap ((·.2)∘fun e=>((e,none):Lab))=[]:=by
   induction rest with
   | nil=>rfl
   | cons a r ih=>exact List.filterMap_eq_nil_iff.mpr fun _ _=>rfl
  rw [c,List.append_nil]
  exact fm_filter _
 have lab:∀ e∈(List.range es.length).map g++rest.map (fun e=>((e,none):Lab)),LabOk ws e:=fun e he i hi=>by
  rcases List.mem_append.mp he with he | he
  ·obtain ⟨j,hj,rfl⟩:=List.mem_map.mp he
   have hj:=List.mem_range.mp hj
   have hi:(if bitB b j=true then some j else none)=some i:=hi
   split at hi
   ·cases hi
    have hw:ws[i]?=some ws[i]:=List.getElem?_eq_getElem (by omega)
    refine ⟨_,hw,?_⟩
    show Fits (es.getD i lf0) _
    have he:es[i]?=some es[i]:=List.getElem?_eq_getElem hj
    rw [List.getD_eq_getElem?_getD,he]
    exact ft i _ _ he hw
   ·cases hi
  ·obtain ⟨j,hj,rfl⟩:=List.mem_map.mp he
   cases hi
 obtain ⟨L,p1,p2⟩:=perm_map pm e1
 have pS:=p1.filterMap (·.2)
 rw [e2] at pS
 have nd:(L.filterMap (·.2)).Nodup:=pS.nodup_iff.mp (List.Pairwise.filter _ List.nodup_range)
 have em:msum (L.filterMap (·.2))=b:=by rw [← msum_perm pS]; exact hb
 have:=lies ok rows n63 x 0 0 T W L (by rw [Int.sub_zero,Int.sub_zero]; exact fit) (by omega) (by omega) (by omega) p2 (fun e he=>lab e (p1.mem_iff.mpr he)) nd (fun i hi=>by
  have:=List.mem_range.mp (List.mem_filter.mp (pS.mem_iff.mpr hi)).1
  omega) (by omega) (fun z=>by rw [z] at em; have:(0:Int)=b:=em; omega)
 rw [em,Int.sub_zero,Int.sub_zero] at this
 exact this
theorem cost_le {r:List Int} {ss:List (Int × Int)} {z:Int × Int} (hz:z∈ss) (hs:rat r z.1≤z.2):∃ c,cost r ss=some c∧c≤area z:=by
 have hm:area z∈(ss.filter (serves r)).map area:=List.mem_map.mpr ⟨z,List.mem_filter.mpr ⟨hz,decide_eq_true hs⟩,rfl⟩
 unfold cost
 cases e:minO ((ss.filter (serves r)).map area) with
 | none=>rw [minO_none e] at hm; cases hm
 | some c=>exact ⟨c,rfl,(minO_mem e).2 _ hm⟩
theorem glass_le {co G:Int→Option Int} {n:Nat} {b c:Int} (g:GlassP co G n) (b1:1≤b) (b2:b≤n) (hc:co b=some c):∃ z,G b=some z∧z≤c:=by
 have hw:(c,b)∈waysL co G b:=by
  show (c,b)∈(plist b++[b]).filterMap _
  refine List.mem_filterMap.mpr ⟨b,List.mem_append_right _ (List.mem_singleton.mpr rfl),?_⟩
  unfold wayOf
  simp only [hc,Int.sub_self,g.1]
  simp
 have hm:c∈(waysL co G b).map (·.1):=List.mem_map.mpr ⟨_,hw,rfl⟩
 rw [g.2 b b1 b2]
 cases e:minO ((waysL co G b).map (·.1)) with
 | none=>rw [minO_none e] at hm; cases hm
 | some z=>exact ⟨z,rfl,(minO_mem e).2 _ hm⟩
theorem stair_iff {ws:List Want} {h:Int→List Int} {N:Int} (ok:∀ t∈ws,WOk t) (rows:∀ p,1≤p→p≤N→Row ws h p) {p W T:Int} (p1:1≤p) (p2:p≤N) (w1:1≤W) (w2:W≤12) (t2:T≤12) :
  ((stairOf (h p)).map fun z=>(decide (z.1≤W) && decide (z.2≤T))).any id=decide (rat (h p) W≤T):=by
 rw [Bool.eq_iff_iff,List.any_map,List.any_eq_true,decide_eq_true_eq]
 constructor
 ·rintro ⟨z,hz,c⟩
  have c:(decide (z.1≤W) && decide (z.2≤T))=true:=c
  rw [Bool.and_eq_true,decide_eq_true_eq,decide_eq_true_eq] at c
  obtain ⟨z1,z2,z3⟩:=mem_stair hz
  have:=row_le ok rows p1 p2 z1 c.1 w2
  omega
 ·intro c
  obtain ⟨z,hz,a,b⟩:=stair_at (rows p p1 p2).1 t2 (W - 1).toNat (by omega) (by rw [show 1+((W - 1).toNat:Int)=W by omega]; exact c)
  refine ⟨z,hz,?_⟩
  show (decide (z.1≤W) && decide (z.2≤T))=true
  rw [decide_eq_true (show z.1≤W by omega),decide_eq_true b]; rfl
theorem gk_int {G:Int→Option Int} {n:Nat} {H:Hp} {g:Addr} {q m:Int} (h:H g=some (.dK (gkv G n))) (q0:0≤q) (q1:q≤n) (e:G q=some m):DGet H g (.int q) (some (.int m)):=by
 refine .inl ⟨_,Sum.inl q,.inl h,rfl,?_⟩
 rw [gk_val,if_pos ⟨q0,q1⟩,e]; rfl
abbrev N_law:List Str:=["_law_script","_law_width","_law_height","_law_cells","_law_told","_law_wants","_law_sheets","_law_number","_law_k","_law_all_told","_law_glass","_law_bits_here"]
theorem S_law:FnScope N_law ["_law_script"] (defScope s_law):=⟨rfl,rfl,rfl,by decide +kernel,rfl,by decide +kernel,by decide +kernel⟩
theorem ok_lawC {f:Addr} {cdv:Value} {A:Around} {outer:List Env} {s:Shared} {H:Hp} {E:XK} (hr:Room 28 (A.deeper (PyProof.Rows.envOfC "law" (defScope s_law) s.heap.objs.size f cdv))) (T:Txt mg t1 t2 t3 t4 t5 t6) {Q:VK}
  (D_stairs:DefOk P w K mg base 6 "stairs" ["wants"] sp_stairs) (D_least_glass:DefOk P w K mg base 7 "least_glass" ["wants","sheets"] sp_lg) (D__law_planned:DefOk P w K mg base 28 "_law_planned" ["_law_wants","_law_sheets","_law_glass"] sp_pland) :
  ∃ rd,PSs (cxOf CX0 P w K mg base N_law "law" (defScope s_law) f cdv A outer s H E).nox ((defBody s_law).drop 9) rd ∧
   ∀ (x0 x3 x4 x7 x8:Option V) (lw sl:Addr) (W T:Int) (x:Tr) (ws:List Want) (ss:List (Int × Int)) (H1:Hp),WantsAt H1 lw ws→ws.length≤6→(∀ t∈ws,WOk t)→TupL H1 sl ss→1≤ss.length→ss.length≤4→(∀ z∈ss,SOk z)→(W,T)∈ss→Fit x W T→(1≤W∧W≤12)→(1≤T∧T≤12)→Drew (lvs x 0 0 T W) ws→(∀ H',Q (.bl true) H') →
    rd { nx:=fun _ H'=>Q .non H',rt:=Q } [x0,some (.int W),some (.int T),x3,x4,some (.ref lw),some (.ref sl),x7,x8,none,none,none] H1:=by
 have S:=S_law
 have hu:=hu_of hr
 refine ⟨_,(pss_cons (ps_set (i:=9) S.nd rfl (Or.inl rfl) (pe_fn D_stairs hr (pa_cons (pe_callTy call_list_of rfl T.z_list rfl (pa_cons (pv 5) pa_nil)) pa_nil)))
   (pss_cons (ps_set (i:=10) S.nd rfl (Or.inl rfl) (pe_fn D_least_glass hr (pa_cons (pe_callTy call_list_of rfl T.z_list rfl (pa_cons (pv 5) pa_nil)) (pa_cons (pe_callTy call_list_of rfl T.z_list rfl (pa_cons (pv 6) pa_nil)) pa_nil))))
   (pss_cons (ps_for PassesOwn.never rfl (pi_range2 rfl T.z_range (pa_cons pe_int (pa_cons (pe_op op_shl pe_int (pe_callB call_len_seq rfl T.z_len rfl (pa_cons (pv 5) pa_nil))) pa_nil))) (pg_name (i:=11) S.nd rfl (Or.inl rfl)) (pss_cons (ps_if (pt_not (pt_val (pe_callB call_any rfl T.z_any rfl (pa_cons (pe_comp rfl (pi_list (pe_dget hu (pv 9) (pv 11) (fun _ _=>rfl))) (fun _ _ _ _ _=>(pg_name (i:=0) (show List.Nodup (["_law_size","_law_width","_law_height"]:List Str) from by decide +kernel) rfl (Or.inl rfl))) (fun _ _ _ _ _=>(pe_and (pe_cmpR op_le (pe_ix (ix_tupK (K:=K)) (pv 0) pe_int (fun _ _=>rfl)) (pv 1) (nomark _)) (pe_one (pe_cmpR op_le (pe_ix (ix_tupK (K:=K)) (pv 0) pe_int (fun _ _=>rfl)) (pv 2) (nomark _))))) (N:=["_law_size","_law_width","_law_height"]) (fr:=[none,some 1,some 2])) pa_nil)))) (pss_one (ps_ret pe_bl)) pss_nil)
   (pss_one (ps_if (PW.pt (pw_or (pt_cmpR op_isN (pe_dget hu (pv 10) (pv 11) (fun _ _=>rfl)) pe_non (nomark _)) (pw_or1 (pt_cmpR op_gt (pe_dget hu (pv 10) (pv 11) (fun _ _=>rfl)) (pe_op op_mulL (pv 1) (pv 2)) (nomark _))))) (pss_one (ps_ret pe_bl)) pss_nil))))
   (pss_one (ps_ret (pe_fn D__law_planned hr (pa_cons (pv 5) (pa_cons (pv 6) (pa_cons (pe_dget hu (pv 10) (pe_op op_sub (pe_op op_shl pe_int (pe_callB call_len_seq rfl T.z_len rfl (pa_cons (pv 5) pa_nil))) pe_int) (fun _ _=>rfl)) pa_nil))))))))),?_⟩
 intro x0 x3 x4 x7 x8 lw sl W T x ws ss H1 hw few ok tb l1 l2 so inS fit bW bT dr k
 generalize hn:2^ws.length - 1=n
 have n63:n≤63:=by rw [← hn]; exact pow31 few
 obtain ⟨ts,ha,ht,hts⟩:=id hw
 refine ⟨_,rfl,lw,_,rfl,.inl (SqL.of ha),fun la nla=>?_⟩
 have s2:Same H1 (upd H1 la (.lst (refs ts))):=Same.new nla
 have wl2:WantsAt (upd H1 la (.lst (refs ts))) la ws:=⟨ts,upd_same,fun t hm=>s2 _ _ (ht t hm),hts⟩
 generalize upd H1 la (.lst (refs ts))=H2 at s2 wl2 ⊢
 refine ⟨la,ws,rfl,wl2,few,ok,fun d ad h H3 s3 tab rows=>?_⟩
 rw [hn] at tab rows
 have s13:=s2.trans s3
 obtain ⟨ts3,ha3,ht3,hts3⟩:=hw.same s13
 refine ⟨_,rfl,lw,_,rfl,.inl (SqL.of ha3),fun lb nlb=>?_⟩
 have s4:Same H3 (upd H3 lb (.lst (refs ts3))):=Same.new nlb
 have wl4:WantsAt (upd H3 lb (.lst (refs ts3))) lb ws:=⟨ts3,upd_same,fun t hm=>s4 _ _ (ht3 t hm),hts3⟩
 generalize upd H3 lb (.lst (refs ts3))=H4 at s4 wl4 ⊢
 have s14:=s13.trans s4
 obtain ⟨us,hs4,hu4,hus⟩:=tb.same s14
 refine ⟨_,rfl,sl,_,rfl,.inl (SqL.of hs4),fun lc nlc=>?_⟩
 have s5:Same H4 (upd H4 lc (.lst (refs us))):=Same.new nlc
 have tl5:TupL (upd H4 lc (.lst (refs us))) lc ss:=⟨us,upd_same,fun t hm=>s5 _ _ (hu4 t hm),hus⟩
 generalize upd H4 lc (.lst (refs us))=H5 at s5 tl5 ⊢
 refine ⟨lb,lc,ws,ss,rfl,wl4.same s5,few,ok,tl5,l1,l2,so,fun g G h2 H6 s6 ng hg rows2 len2 gp=>?_⟩
 rw [hn] at hg rows2 len2 gp
 have s36:=s4.trans (s5.trans s6)
 have hw6:=hw.same (s13.trans s36)
 have tb6:=tb.same (s13.trans s36)
 have tab6:=tab.same s36
 have cst:∀ b:Int,1≤b→b≤n→∃ c,cost (h2 b) ss=some c∧c≤W * T:=fun b b1 b2=>cost_le (z:=(W,T)) inS (sets_lie ok few hn.symm rows2 fit bW.1 bW.2 bT.1 dr b1 b2)
 have gls:∀ b:Int,1≤b→b≤n→∃ z,G b=some z∧z≤W * T:=fun b b1 b2=>by
  obtain ⟨c,c1,c2⟩:=cst b b1 b2
  obtain ⟨z,z1,z2⟩:=glass_le gp b1 b2 c1
  exact ⟨z,z1,by omega⟩
 obtain ⟨ts6,ha6,ht6,hts6⟩:=id hw6
 have tl:(refs ts6).length=ws.length:=by rw [refs_len,← hts6,List.length_map]
 have bits:((1:Int) * 2^(((refs ts6).length:Nat):Int).toNat - 1)=(n:Int):=by
  rw [tl]
  have:∀ m:Nat,m≤6→(1:Int) * 2^((m:Nat):Int).toNat - 1=((2^m - 1:Nat):Int):=by decide +kernel
  rw [this _ few,hn]
 refine ⟨_,rfl,lw,refs ts6,rfl,.inl (SqL.of ha6),_,_,rfl,rfl,⟨by omega,by rw [tl]; omega,by decide⟩,1,_,rfl,⟨by decide,by decide,by omega,by omega⟩,for_range (lo:=1) (n:=((1:Int) * 2^(((refs ts6).length:Nat):Int).toNat - 1).toNat) (fun i σ H'=>(∃ x11,σ=[x0,some (.int W),some (.int T),x3,x4,some (.ref lw),some (.ref sl),x7,x8,some (.ref d),some (.ref g),x11])∧Same H6 H') ⟨⟨_,rfl⟩,Same.refl _⟩ ?_ ?_⟩
 ·rintro i σ H7 hi ⟨⟨x11,rfl⟩,s7⟩
  rw [bits] at hi
  have hb1:1≤1+(i:Int):=by omega
  have hb2:1+(i:Int)≤n:=by omega
  have tab7:=tab6.same s7
  generalize 1+(i:Int)=b at hb1 hb2 ⊢
  obtain ⟨⟨us7,e1,e2,e3⟩,few7⟩:=tab7.2 b hb1 hb2
  have e3:us7.map (·.2)=stairOf (h b):=e3
  have few8:(stairOf (h b)).length≤12:=few7
  have ul:us7.length=(stairOf (h b)).length:=by rw [← e3,List.length_map]
  refine ⟨_,rfl,_,rfl,d,_,rfl,tab7.get hb1 hb2,ad b,rfl,⟨_,SqL.of e1⟩,fun acc na=>comp_list (K:=K) (a:=ad b) (ys:=refs us7) (fun j zs σ H'=>(∃ y,σ=[y,some (.int W),some (.int T)])∧Same H7 H'∧zs=((stairOf (h b)).take j).map fun z=>V.bl (decide (z.1≤W) && decide (z.2≤T))) ⟨⟨none,rfl⟩,Same.new na,rfl⟩ (fun j zs σ H' _ _ hp=>SqL.of (hp.2.1 _ _ e1)) ?_ ?_⟩
  ·rintro j x zs σ H9 hx hj hzl hacc ⟨⟨y,rfl⟩,s9,rfl⟩
   obtain ⟨u,hu',rfl⟩:=refs_get hx
   have hu9:=s9 _ _ (e2 u (List.mem_of_getElem? hu'))
   have tk:(stairOf (h b)).take (j+1)=(stairOf (h b)).take j++[u.2]:=by rw [← e3,List.take_succ,List.getElem?_map,hu']; rfl
   have sz:(refs us7).length≤sizeLine:=Nat.le_of_lt (small1000 (by rw [refs_len]; omega))
   have fin:cNx acc (refs us7).length (fun j zs σ H'=>(∃ y,σ=[y,some (.int W),some (.int T)])∧Same H7 H'∧zs=((stairOf (h b)).take j).map fun z=>V.bl (decide (z.1≤W) && decide (z.2≤T))) j [some (.ref u.1),some (.int W),some (.int T)] (.bl (decide (u.2.1≤W) && decide (u.2.2≤T))) H9:=by
    refine cNx.mk sz hj hzl hacc ⟨⟨_,rfl⟩,fun c o e=>by rw [upd_ne (ne_of_none e na)]; exact s9 c o e,?_⟩
    rw [tk,List.map_append]; rfl
   refine ⟨_,rfl,u.1,_,_,_,rfl,rfl,SqT.of hu9,at2_0,_,rfl,_,_,rfl,rfl,_,rfl,ite3 (fun c1=>?_) (fun c1=>?_)⟩
   ·refine ⟨_,rfl,u.1,_,_,_,rfl,rfl,SqT.of hu9,at2_1,_,rfl,_,_,rfl,rfl,?_⟩
    rw [c1,Bool.true_and] at fin
    exact fin
   ·rw [c1,Bool.false_and] at fin
    exact fin
  rintro zs σ H9 hzl hacc ⟨_,s9,rfl⟩
  rw [refs_len,ul,List.take_length] at hacc
  have eb:List.map V.bl ((stairOf (h b)).map fun z=>(decide (z.1≤W) && decide (z.2≤T)))=(stairOf (h b)).map fun z=>V.bl (decide (z.1≤W) && decide (z.2≤T)):=by rw [List.map_map]; rfl
  refine ⟨acc,_,rfl,SqL.of (by rw [hacc,eb]),rfl,?_⟩
  rw [stair_iff ok rows hb1 hb2 bW.1 bW.2 bT.2,decide_eq_true (sets_lie ok few hn.symm rows fit bW.1 bW.2 bT.1 dr hb1 hb2)]
  obtain ⟨z,z1,z2⟩:=gls b hb1 hb2
  have hg9:=s9 _ _ (s7 _ _ hg)
  have dg:=gk_int hg9 (by omega) hb2 z1
  refine ⟨_,rfl,iteN rfl ?_⟩
  refine ⟨_,rfl,_,rfl,g,_,rfl,dg,rfl,_,rfl,iteN (decide_eq_false (by intro z; cases z)) ?_⟩
  exact ⟨_,rfl,_,rfl,g,_,rfl,dg,_,rfl,_,rfl,_,_,rfl,rfl,mul64 (by omega) (by omega) (by omega) (by omega),_,_,rfl,rfl,_,rfl,iteN (decide_eq_false (by omega)) ⟨⟨_,rfl⟩,s7.trans s9⟩⟩
 ·rintro σ H7 ⟨⟨x11,rfl⟩,s7⟩
  obtain ⟨gn,hGn⟩:∃ gn,G n=some gn:=by
   by_cases e:n=0
   ·rw [e]; exact ⟨0,gp.1⟩
   ·obtain ⟨z,z1,_⟩:=gls n (by omega) (Int.le_refl _)
    exact ⟨z,z1⟩
  refine ⟨_,rfl,_,rfl,_,rfl,_,rfl,lw,refs ts6,rfl,.inl (SqL.of (s7 _ _ ha6)),_,_,rfl,rfl,⟨by omega,by rw [tl]; omega,by decide⟩,_,_,rfl,rfl,?_⟩
  simp only [bits]
  refine ⟨g,_,rfl,gk_int (s7 _ _ hg) (by omega) (Int.le_refl _) hGn,lw,sl,ws,ss,n,h2,G,gn,rfl,hw6.same s7,few,ok,tb6.same s7,l1,l2,so,hn.symm,rows2,len2,gp,fun i hi=>?_,hGn,k⟩
  obtain ⟨q1,q2⟩:=pow_lt few hi
  rw [hn] at q2
  obtain ⟨c,c1,_⟩:=cst _ q1 q2
  rw [c1]; intro z; cases z
theorem cut_lo {xs:List V} {i:Int} (h0:0≤i) (h1:i < xs.length):cutV xs none (some i)=xs.take i.toNat:=by
 unfold cutV HT.sIx
 simp only []
 rw [if_neg (by omega),Nat.min_eq_left (by omega)]
 simp
theorem cut_from {xs:List V} {i:Int} (h0:0≤i) (h1:i < xs.length):cutV xs (some i) none=xs.drop i.toNat:=by
 unfold cutV HT.sIx
 simp only []
 rw [if_neg (by omega),Nat.min_eq_left (by omega)]
 exact List.take_of_length_le (by rw [List.length_drop]; exact Nat.le_refl _)
theorem lvs_bd:∀ (x:Tr) (t l b r:Int),Fit x (r - l) (b - t)→1≤r - l→r - l≤12→1≤b - t→b - t≤12→∀ e∈lvs x t l b r,LfB e
 | .whole m,t,l,b,r,_,a1,a2,a3,a4,e,he=>by
  rw [List.mem_singleton.mp (show e∈[(⟨t,l,b,r,m⟩:Lf)] from he)]
  exact ⟨⟨a1,a2⟩,a3,a4⟩
 | .cut true k x y,t,l,b,r,f,a1,a2,a3,a4,e,he=>by
  simp only [Fit,if_true] at f
  obtain ⟨k1,k2,f1,f2⟩:=f
  rcases List.mem_append.mp (show e∈lvs x t l b (l+k)++lvs y t (l+k) b r from he) with he | he
  ·exact lvs_bd x t l b (l+k) (by rw [show l+k - l=k by omega]; exact f1) (by omega) (by omega) a3 a4 e he
  ·exact lvs_bd y t (l+k) b r (by rw [show r - (l+k)=r - l - k by omega]; exact f2) (by omega) (by omega) a3 a4 e he
 | .cut false k x y,t,l,b,r,f,a1,a2,a3,a4,e,he=>by
  simp only [Fit,Bool.false_eq_true,if_false] at f
  obtain ⟨k1,k2,f1,f2⟩:=f
  rcases List.mem_append.mp (show e∈lvs x t l (t+k) r++lvs y (t+k) l b r from he) with he | he
  ·exact lvs_bd x t l (t+k) r (by rw [show t+k - t=k by omega]; exact f1) a1 a2 (by omega) (by omega) e he
  ·exact lvs_bd y (t+k) l b r (by rw [show b - (t+k)=b - t - k by omega]; exact f2) a1 a2 (by omega) (by omega) e he
theorem ok_lawB {f:Addr} {cdv:Value} {A:Around} {outer:List Env} {s:Shared} {H:Hp} {E:XK} (hr:Room 28 (A.deeper (PyProof.Rows.envOfC "law" (defScope s_law) s.heap.objs.size f cdv))) (T:Txt mg t1 t2 t3 t4 t5 t6) {Q:VK}
  (D_stairs:DefOk P w K mg base 6 "stairs" ["wants"] sp_stairs) (D_least_glass:DefOk P w K mg base 7 "least_glass" ["wants","sheets"] sp_lg) (D__law_planned:DefOk P w K mg base 28 "_law_planned" ["_law_wants","_law_sheets","_law_glass"] sp_pland)
  (D__law_at:DefOk P w K mg base 1 "_law_at" ["_law_script","_law_k"] (sp_at K)) (D__law_knead:DefOk P w K mg base 1 "_law_knead" ["_law_number","_law_by"] sp_knead) :
  ∃ rd,PSs (cxOf CX0 P w K mg base N_law "law" (defScope s_law) f cdv A outer s H E).nox ((defBody s_law).drop 5) rd ∧
   ∀ (x3 x4:Option V) (a lw:Addr) (ns:List Int) (W T:Int) (x:Tr) (ws:List Want) (H1:Hp),SqL K H1 a (ns.map V.int)→WantsAt H1 lw ws→ws.length≤6→(∀ t∈ws,WOk t)→Fit x W T→(1≤W∧W≤12)→(1≤T∧T≤12)→Drew (lvs x 0 0 T W) ws→(∀ H',Q (.bl true) H') →
    rd { nx:=fun _ H'=>Q .non H',rt:=Q } [some (.ref a),some (.int W),some (.int T),x3,x4,some (.ref lw),none,none,none,none,none,none] H1:=by
 have S:=S_law
 have hu:=hu_of hr
 obtain ⟨tB,hB,kB⟩:=ok_lawC (f:=f) (cdv:=cdv) (A:=A) (outer:=outer) (s:=s) (H:=H) (E:=E) (P:=P) (w:=w) (K:=K) (mg:=mg) (base:=base) hr T (Q:=Q) D_stairs D_least_glass D__law_planned
 refine ⟨_,(pss_cons (ps_set (i:=6) S.nd rfl (Or.inl rfl) (pe_lst (pa_cons (pe_tup (pa_cons (pv 1) (pa_cons (pv 2) pa_nil))) pa_nil)))
   (pss_cons (ps_set (i:=7) S.nd rfl (Or.inl rfl) (pe_fn D__law_knead hr (pa_cons (pe_fn D__law_at hr (pa_cons (pv 0) (pa_cons pe_int pa_nil))) (pa_cons pe_int pa_nil))))
   (pss_cons (ps_for PassesOwn.never rfl (pi_range1 rfl T.z_range (pa_cons (pe_op op_mulL (pe_op op_fdivL (pe_op op_mod (pv 7) pe_int) pe_int) (pe_op op_add pe_int (pe_op op_mod (pe_op op_fdivL (pv 7) pe_int) pe_int))) pa_nil)) (pg_name (i:=8) S.nd rfl (Or.inl rfl)) (pss_one (ps_expr (pe_bm PySem.F.plainAttrs_list PySem.F.slot_list_append PySem.F.type_list_append mt_append (pv 6) (pa_cons (pe_tup (pa_cons (pe_op op_add pe_int (pe_op op_mod (pe_op op_fdivL (pv 7) (pe_ix ix_list (pe_lst (pa_cons pe_int (pa_cons pe_int pa_nil))) (pv 8) (fun _ _=>rfl))) pe_int)) (pa_cons (pe_op op_add pe_int (pe_op op_mod (pe_op op_fdivL (pv 7) (pe_ix ix_list (pe_lst (pa_cons pe_int (pa_cons pe_int pa_nil))) (pv 8) (fun _ _=>rfl))) pe_int)) pa_nil))) pa_nil)))))
   (pss_cons (ps_set (i:=6) S.nd rfl (Or.inl rfl) (pe_op op_cat (pe_slice sl_list (pv 6) (po_some (pe_op op_mod (pe_op op_fdivL (pv 7) pe_int) (pe_callB call_len_seq rfl T.z_len rfl (pa_cons (pv 6) pa_nil)))) po_none) (pe_slice sl_list (pv 6) po_none (po_some (pe_op op_mod (pe_op op_fdivL (pv 7) pe_int) (pe_callB call_len_seq rfl T.z_len rfl (pa_cons (pv 6) pa_nil)))))))
   hB)))),?_⟩
 intro x3 x4 a lw ns W T x ws H1 hS hw few ok fit bW bT dr k
 refine ⟨_,rfl,_,rfl,lenOk 2,fun z nz=>?_⟩
 have s2:Same H1 (upd H1 z (.tup [.int W,.int T])):=Same.new nz
 have hz2:(upd H1 z (.tup [.int W,.int T])) z=some (.tup [.int W,.int T]):=upd_same
 generalize upd H1 z (.tup [.int W,.int T])=H2 at s2 hz2 ⊢
 refine ⟨lenOk 1,fun sl nsl=>?_⟩
 have s3:Same H2 (upd H2 sl (.lst [.ref z])):=Same.new nsl
 have hl3:(upd H2 sl (.lst [.ref z])) sl=some (.lst [.ref z]):=upd_same
 generalize upd H2 sl (.lst [.ref z])=H3 at s3 hl3 ⊢
 have s13:=s2.trans s3
 have nsl1:H1 sl=none:=wasNone s2 nsl
 refine ⟨_,rfl,a,ns,2,rfl,s13.seq hS,by decide,by decide,fun z4 H4 s4=>⟨z4,4,rfl,by decide,by decide,fun nm nm0=>?_⟩⟩
 have s14:=s13.trans s4
 have p0:∀ (m j:Int),0 < j→0≤m % j∧m % j < j:=fun m j h=>⟨Int.emod_nonneg m (by omega),Int.emod_lt_of_pos m h⟩
 obtain ⟨c,hc,c2⟩:∃ c:Nat,nm % 4 / 2 * (1+nm / 4 % 2)=(c:Int)∧c≤2:=by
  have a1:=p0 nm 4 (by decide)
  have a2:=p0 (nm / 4) 2 (by decide)
  have e1:nm % 4 / 2=0∨nm % 4 / 2=1:=by omega
  have e2:nm / 4 % 2=0∨nm / 4 % 2=1:=by omega
  rcases e1 with e1 | e1 <;> rcases e2 with e2 | e2 <;> rw [e1,e2]
  ·exact ⟨0,rfl,by omega⟩
  ·exact ⟨0,rfl,by omega⟩
  ·exact ⟨1,rfl,by omega⟩
  ·exact ⟨2,rfl,by omega⟩
 refine ⟨_,rfl,_,_,rfl,rfl,(show (0:Int) < 4 by decide),_,_,rfl,rfl,divL _ (by decide) (by decide),_,rfl,_,_,rfl,rfl,divL _ (by decide) (by decide),_,_,rfl,rfl,(show (0:Int) < 2 by decide),_,_,rfl,rfl,_,_,rfl,rfl,?_,?_⟩
 ·have a1:=p0 nm 4 (by decide)
  have a2:=p0 (nm / 4) 2 (by decide)
  exact mul64 (by omega) (by omega) (by omega) (by omega)
 show ∃ j,[V.int (nm % 4 / 2 * (1+nm / 4 % 2))]=[V.int j]∧_
 rw [hc]
 refine ⟨_,rfl,by omega,by omega,for_range (lo:=0) (n:=(c:Int).toNat) (fun i σ H'=>(∃ x8,σ=[some (.ref a),some (.int W),some (.int T),x3,x4,some (.ref lw),some (.ref sl),some (.int nm),x8,none,none,none])∧Same H1 H'∧∃ us:List (Addr × Int × Int),H' sl=some (.lst (refs us))∧(∀ u∈us,H' u.1=some (.tup [.int u.2.1,.int u.2.2]))∧us.length=i+1∧(W,T)∈us.map (·.2)∧∀ u∈us,SOk u.2) ⟨⟨_,rfl⟩,s14,[(z,W,T)],s4 _ _ hl3,?_,rfl,List.mem_cons_self,?_⟩ ?_ ?_⟩
 ·intro u hu
  rw [List.mem_singleton.mp hu]
  exact s4 _ _ (s3 _ _ hz2)
 ·intro u hu
  rw [List.mem_singleton.mp hu]
  exact ⟨bW.1,bW.2,bT.1,bT.2⟩
 ·rintro i σ H5 hi ⟨⟨x8,rfl⟩,s5,us,u1,u2,u3,u4,u5⟩
  rw [Int.zero_add]
  have hi:i < c:=by omega
  have two:∀ p q:Int,0 < p→p < 18446744073709551616→0 < q→q < 18446744073709551616→∃ m,atI [V.int p,V.int q] (i:Int)=some (.int m)∧0 < m∧m < 18446744073709551616:=fun p q p1 p2 q1 q2=>by
   obtain e | e:i=0∨i=1:=by omega
   ·rw [e]; exact ⟨p,rfl,p1,p2⟩
   ·rw [e]; exact ⟨q,rfl,q1,q2⟩
  obtain ⟨m1,hm1,m11,m12⟩:=two 8 96 (by decide) (by decide) (by decide) (by decide)
  obtain ⟨m2,hm2,m21,m22⟩:=two 1152 13824 (by decide) (by decide) (by decide) (by decide)
  refine ⟨_,rfl,.inl ⟨rfl,_,SqL.of u1⟩,_,rfl,lenOk 2,fun q1 nq1=>⟨_,rfl,q1,_,_,_,rfl,rfl,SqL.of upd_same,hm1,_,_,rfl,rfl,divL _ m11 m12,_,_,rfl,rfl,(show (0:Int) < 12 by decide),_,_,rfl,rfl,?_⟩⟩
  have s6:Same H5 (upd H5 q1 (.lst [.int 8,.int 96])):=Same.new nq1
  generalize upd H5 q1 (.lst [.int 8,.int 96])=H6 at s6 ⊢
  refine ⟨_,rfl,lenOk 2,fun q2 nq2=>⟨_,rfl,q2,_,_,_,rfl,rfl,SqL.of upd_same,hm2,_,_,rfl,rfl,divL _ m21 m22,_,_,rfl,rfl,(show (0:Int) < 12 by decide),_,_,rfl,rfl,?_⟩⟩
  have s7:Same H6 (upd H6 q2 (.lst [.int 1152,.int 13824])):=Same.new nq2
  generalize upd H6 q2 (.lst [.int 1152,.int 13824])=H7 at s7 ⊢
  have w1:=p0 (nm / m1) 12 (by decide)
  have w2:=p0 (nm / m2) 12 (by decide)
  refine ⟨lenOk 2,fun t nt=>?_⟩
  have s8:=Same.new (o:=.tup [.int (1+nm / m1 % 12),.int (1+nm / m2 % 12)]) nt
  have s58:=s6.trans (s7.trans s8)
  have hl8:=s58 _ _ u1
  have kq:∀ {y:Addr} {ys:List V},(upd H7 t (.tup [.int (1+nm / m1 % 12),.int (1+nm / m2 % 12)])) y=some (.tup ys)→(upd (upd H7 t (.tup [.int (1+nm / m1 % 12),.int (1+nm / m2 % 12)])) sl (.lst (refs us++[.ref t]))) y=some (.tup ys):=fun {y ys} e=>by rw [upd_ne (ne_of e hl8 (by intro z; cases z))]; exact e
  refine ⟨sl,_,_,rfl,rfl,hl8,small1000 (by rw [refs_len]; omega),⟨_,rfl⟩,fun y o e=>by rw [upd_ne (ne_of_none e nsl1)]; exact s58 _ _ (s5 y o e),us++[(t,1+nm / m1 % 12,1+nm / m2 % 12)],by rw [upd_same,refs,refs,List.map_append]; rfl,fun u hu=>?_,by rw [List.length_append,u3]; rfl,by rw [List.map_append]; exact List.mem_append_left _ u4,fun u hu=>?_⟩
  ·rcases List.mem_append.mp hu with hu | hu
   ·exact kq (s58 _ _ (u2 u hu))
   ·rw [List.mem_singleton.mp hu]; exact kq upd_same
  ·rcases List.mem_append.mp hu with hu | hu
   ·exact u5 u hu
   ·rw [List.mem_singleton.mp hu]
    exact ⟨by show 1≤1+nm / m1 % 12; omega,by show 1+nm / m1 % 12≤12; omega,by show 1≤1+nm / m2 % 12; omega,by show 1+nm / m2 % 12≤12; omega⟩
 ·rintro σ H5 ⟨⟨x8,rfl⟩,s5,us,u1,u2,u3,u4,u5⟩
  have ul:us.length≤3:=by omega
  have z1:=p0 (nm / 9) (us.length:Int) (by omega)
  refine ⟨_,rfl,_,rfl,_,_,rfl,rfl,divL _ (by decide) (by decide),_,rfl,sl,_,rfl,.inl (SqL.of u1),_,_,rfl,rfl,by rw [refs_len]; omega,_,rfl,sl,_,rfl,SqL.of u1,fun q1 nq1=>?_⟩
  rw [refs_len,cut_from z1.1 (by rw [refs_len]; exact z1.2)]
  have s6:Same H5 (upd H5 q1 (.lst ((refs us).drop (nm / 9 % (us.length:Int)).toNat))):=Same.new nq1
  have h6:(upd H5 q1 (.lst ((refs us).drop (nm / 9 % (us.length:Int)).toNat))) q1=some (.lst ((refs us).drop (nm / 9 % (us.length:Int)).toNat)):=upd_same
  generalize upd H5 q1 (.lst ((refs us).drop (nm / 9 % (us.length:Int)).toNat))=H6 at s6 h6 ⊢
  refine ⟨_,rfl,_,rfl,_,_,rfl,rfl,divL _ (by decide) (by decide),_,rfl,sl,_,rfl,.inl (SqL.of (s6 _ _ u1)),_,_,rfl,rfl,by rw [refs_len]; omega,_,rfl,sl,_,rfl,SqL.of (s6 _ _ u1),fun q2 nq2=>?_⟩
  rw [refs_len,cut_lo z1.1 (by rw [refs_len]; exact z1.2)]
  have s7:Same H6 (upd H6 q2 (.lst ((refs us).take (nm / 9 % (us.length:Int)).toNat))):=Same.new nq2
  have h7:(upd H6 q2 (.lst ((refs us).take (nm / 9 % (us.length:Int)).toNat))) q2=some (.lst ((refs us).take (nm / 9 % (us.length:Int)).toNat)):=upd_same
  generalize upd H6 q2 (.lst ((refs us).take (nm / 9 % (us.length:Int)).toNat))=H7 at s7 h7 ⊢
  generalize (nm / 9 % (us.length:Int)).toNat=cc at h6 h7
  have lsum:((refs us).drop cc).length+((refs us).take cc).length=us.length:=by rw [List.length_drop,List.length_take,refs_len]; omega
  refine ⟨q1,q2,_,_,rfl,rfl,s7 _ _ h6,h7,Nat.le_of_lt (small1000 (by omega)),fun p np=>?_⟩
  have s8:=Same.new (o:=.lst ((refs us).drop cc++(refs us).take cc)) np
  have er:(refs us).drop cc++(refs us).take cc=refs (us.drop cc++us.take cc):=by rw [refs,refs,List.map_append,List.map_drop,List.map_take]
  have mm:∀ u,u∈us.drop cc++us.take cc↔u∈us:=fun u=>by
   have e:u∈us.take cc++us.drop cc↔u∈us:=by rw [List.take_append_drop]
   rw [← e,List.mem_append,List.mem_append]; exact Or.comm
  have s58:=s6.trans (s7.trans s8)
  have tl8:TupL (upd H7 p (.lst ((refs us).drop cc++(refs us).take cc))) p ((us.drop cc++us.take cc).map (·.2)):=⟨_,by rw [upd_same,er],fun u hu=>s58 _ _ (u2 u ((mm u).mp hu)),rfl⟩
  have ll:((us.drop cc++us.take cc).map (·.2)).length=us.length:=by rw [List.length_map,List.length_append,List.length_drop,List.length_take]; omega
  refine kB _ _ _ _ _ lw p W T x ws _ _ (hw.same (s5.trans s58)) few ok tl8 (by omega) (by omega) (fun z hz=>?_) ?_ fit bW bT dr k
  ·obtain ⟨u,hu,rfl⟩:=List.mem_map.mp hz
   exact u5 u ((mm u).mp hu)
  ·obtain ⟨u,hu,e⟩:=List.mem_map.mp u4
   exact List.mem_map.mpr ⟨u,(mm u).mpr hu,e⟩
theorem ok_law {f:Addr} {fd:FuncData} (F:Fun K "law" "law" s_law f fd) (T:Txt mg t1 t2 t3 t4 t5 t6) (D_stairs:DefOk P w K mg base 6 "stairs" ["wants"] sp_stairs) (D_least_glass:DefOk P w K mg base 7 "least_glass" ["wants","sheets"] sp_lg) (D__law_planned:DefOk P w K mg base 28 "_law_planned" ["_law_wants","_law_sheets","_law_glass"] sp_pland)
  (D__law_at:DefOk P w K mg base 1 "_law_at" ["_law_script","_law_k"] (sp_at K)) (D__law_knead:DefOk P w K mg base 1 "_law_knead" ["_law_number","_law_by"] sp_knead) (D__law_more:DefOk P w K mg base 2 "_law_more" ["_law_script","_law_at_here","_law_many"] (sp_more K)) (D__law_drawn:DefOk P w K mg base 28 "_law_drawn" ["_law_cells","_law_width","_law_height"] (sp_drawn 25))
  (D__law_rectangles:DefOk P w K mg base 25 "_law_rectangles" ["_law_told","_law_top","_law_left","_law_bottom","_law_right"] (sp_rect 24)) (D__law_from:DefOk P w K mg base 2 "_law_from" ["_law_pieces_told","_law_cell"] sp_from):FnOk P w K mg base CX0 29 f fd ["_law_script"] (sp_law K):=by
 have S:=S_law
 refine F.ok S (fun vs H Q E h=>?_) (fun cdv A outer s H vs Q E hr h=>?_)
 ·obtain ⟨a,ns,rfl,_⟩:=h; rfl
 ·obtain ⟨a,ns,rfl,hS,hlen,k⟩:=h
  have hu:=hu_of hr
  obtain ⟨tB,hB,kB⟩:=ok_lawB (f:=f) (cdv:=cdv) (A:=A) (outer:=outer) (s:=s) (H:=H) (E:=E) (P:=P) (w:=w) (K:=K) (mg:=mg) (base:=base) hr T (Q:=Q) D_stairs D_least_glass D__law_planned D__law_at D__law_knead
  refine ⟨_,(pss_cons (ps_set (i:=1) S.nd rfl (Or.inr rfl) (pe_op op_add pe_int (pe_op op_mod (pe_fn D__law_knead hr (pa_cons (pe_fn D__law_at hr (pa_cons (pv 0) (pa_cons pe_int pa_nil))) (pa_cons pe_int pa_nil))) pe_int)))
   (pss_cons (ps_set (i:=2) S.nd rfl (Or.inr rfl) (pe_op op_add pe_int (pe_op op_mod (pe_fn D__law_knead hr (pa_cons (pe_fn D__law_at hr (pa_cons (pv 0) (pa_cons pe_int pa_nil))) (pa_cons pe_int pa_nil))) pe_int)))
   (pss_cons (ps_set (i:=3) S.nd rfl (Or.inl rfl) (pe_fn D__law_more hr (pa_cons (pv 0) (pa_cons pe_int (pa_cons (pe_op op_mod (pe_fn D__law_knead hr (pa_cons (pe_fn D__law_at hr (pa_cons (pv 0) (pa_cons pe_int pa_nil))) (pa_cons pe_int pa_nil))) pe_int) pa_nil)))))
   (pss_cons (ps_set (i:=4) S.nd rfl (Or.inl rfl) (pe_fn D__law_rectangles hr (pa_cons (pe_fn D__law_drawn hr (pa_cons (pv 3) (pa_cons (pv 1) (pa_cons (pv 2) pa_nil)))) (pa_cons pe_int (pa_cons pe_int (pa_cons (pv 2) (pa_cons (pv 1) pa_nil)))))))
   (pss_cons (ps_set (i:=5) S.nd rfl (Or.inl rfl) (pe_fn D__law_from hr (pa_cons (pv 4) (pa_cons (pe_fn D__law_at hr (pa_cons (pv 0) (pa_cons pe_int pa_nil))) pa_nil))))
   hB))))),?_⟩
  have p0:∀ (m j:Int),0 < j→0≤m % j∧m % j < j:=fun m j h=>⟨Int.emod_nonneg m (by omega),Int.emod_lt_of_pos m h⟩
  refine ⟨_,rfl,a,ns,0,rfl,hS,by decide,by decide,fun z1 H1 s1=>⟨z1,2,rfl,by decide,by decide,fun r1 _=>⟨_,_,rfl,rfl,(show (0:Int) < 12 by decide),_,_,rfl,rfl,?_⟩⟩⟩
  refine ⟨_,rfl,a,ns,0,rfl,s1.seq hS,by decide,by decide,fun z2 H2 s2=>⟨z2,3,rfl,by decide,by decide,fun r2 _=>⟨_,_,rfl,rfl,(show (0:Int) < 12 by decide),_,_,rfl,rfl,?_⟩⟩⟩
  have s02:=s1.trans s2
  refine ⟨_,rfl,_,rfl,a,ns,0,rfl,s02.seq hS,by decide,by decide,fun z3 H3 s3=>⟨z3,5,rfl,by decide,by decide,fun r3 _=>⟨_,_,rfl,rfl,(show (0:Int) < 31 by decide),?_⟩⟩⟩
  have s03:=s02.trans s3
  have b3:=p0 r3 31 (by decide)
  have b1:=p0 r1 12 (by decide)
  have b2:=p0 r2 12 (by decide)
  refine ⟨a,ns,3,r3 % 31,rfl,s03.seq hS,by decide,by decide,b3.1,by omega,fun l ms H4 s4 nl hl=>?_⟩
  show _
  generalize hW:1+r1 % 12=W
  generalize hT:1+r2 % 12=T
  have bW:1≤W∧W≤12:=by omega
  have bT:1≤T∧T≤12:=by omega
  have s04:=s03.trans s4
  refine ⟨_,rfl,_,rfl,_,rfl,l,ms,1+r1 % 12,1+r2 % 12,rfl,hl,by omega,by omega,by omega,by omega,by omega,fun v x H5 ms' s5 hl5 told fit=>?_⟩
  rw [hW,hT] at fit
  have s05:Same H H5:=s5.same s04 (wasNone s03 nl)
  have sz:x.sz≤144:=by
   have:=fit_sz bW.1 bT.1 fit
   have h1:W * T≤12 * T:=Int.mul_le_mul_of_nonneg_right bW.2 (by omega)
   omega
  have dp:=fit_dp bW.1 bT.1 fit
  refine ⟨_,rfl,_,rfl,v,x,0,0,T,W,by rw [← hW,← hT]; rfl,told,by omega,sz,fun lt H6 s6 rc=>?_⟩
  have s06:=s05.trans s6
  refine ⟨_,rfl,_,rfl,a,ns,1,rfl,s06.seq hS,by decide,by decide,fun z7 H7 s7=>?_⟩
  have rc7:RcL H7 lt (lvs x 0 0 T W):=by
   obtain ⟨ts,a1,a2,a3⟩:=rc
   exact ⟨ts,s7 _ _ a1,fun u hu=>s7 _ _ (a2 u hu),a3⟩
  refine ⟨lt,z7,_,rfl,rc7,by rw [lvs_len]; exact sz,lvs_bd x 0 0 T W (by rw [Int.sub_zero,Int.sub_zero]; exact fit) (by omega) (by omega) (by omega) (by omega),fun lw ws H8 s8 nlw hw few ok dr=>?_⟩
  have:=kB (some (.ref l)) (some (.ref lt)) a lw ns W T x ws H8 ((s06.trans (s7.trans s8)).seq hS) hw few ok fit bW bT dr k
  rw [← hW,← hT] at this
  exact this
theorem len1 {α:Type} {us:List α} (h:us.length=1):∃ a,us=[a]:=List.length_eq_one_iff.mp h
theorem len2 {α:Type} {us:List α} (h:us.length=2):∃ a b,us=[a,b]:=by
 cases us with
 | nil=>cases h
 | cons a r=>obtain ⟨b,rfl⟩:=len1 (Nat.succ.inj h); exact ⟨a,b,rfl⟩
theorem len3 {α:Type} {us:List α} (h:us.length=3):∃ a b c,us=[a,b,c]:=by
 cases us with
 | nil=>cases h
 | cons a r=>obtain ⟨b,c,rfl⟩:=len2 (Nat.succ.inj h); exact ⟨a,b,c,rfl⟩
theorem len4 {α:Type} {us:List α} (h:us.length=4):∃ a b c d,us=[a,b,c,d]:=by
 cases us with
 | nil=>cases h
 | cons a r=>obtain ⟨b,c,d,rfl⟩:=len3 (Nat.succ.inj h); exact ⟨a,b,c,d,rfl⟩
theorem len5 {α:Type} {us:List α} (h:us.length=5):∃ a b c d e,us=[a,b,c,d,e]:=by
 match us,h with
 | [a,b,c,d,e],_=>exact ⟨a,b,c,d,e,rfl⟩
theorem xfin {H H1:Hp} {Q:VK} {x d:Addr} {o1 o2:HO} {E1:HO} (hx:H x=some E1) (hd:H d=none):(upd (upd H d o1) x o2) x=some o2∧(upd (upd H d o1) x o2) d=some o1∧∀ a o,a≠x→H a=some o→(upd (upd H d o1) x o2) a=some o :=
 ⟨upd_same,by rw [upd_ne (Ne.symm (ne_of_none hx hd)),upd_same],fun a o ne e=>by rw [upd_ne ne,upd_ne (ne_of_none e hd)]; exact e⟩
theorem S_NoPlan_init:FnScope ["self","want"] ["self","want"] (defScope s_NoPlan_init):=⟨rfl,rfl,rfl,by decide +kernel,rfl,by decide +kernel,by decide +kernel⟩
theorem ok_NoPlan_init {f:Addr} {fd:FuncData} (F:Fun K "__init__" "NoPlan.__init__" s_NoPlan_init f fd) (xc:XCls K cP) (xn:NoAttr K cP "want"):FnOk P w K mg base CX0 1 f fd ["self","want"] (sp_x cP ["want"]):=by
 have S:=S_NoPlan_init
 refine F.ok S (fun vs H Q E h=>?_) (fun cdv A outer s H vs Q E hr h=>?_)
 ·obtain ⟨x,ws,rfl,hl,_⟩:=h; rw [List.length_cons,hl]; rfl
 ·obtain ⟨x,ws,rfl,hl,hx,q⟩:=h
  obtain ⟨v0,rfl⟩:=len1 hl
  refine ⟨_,(pss_one (ps_xfld (pv 0) (pv 1) rfl)),?_⟩
  refine ⟨_,rfl,_,rfl,x,cP,rfl,xc,xn,.inl ⟨hx,fun d hd=>?_⟩⟩
  obtain ⟨e1,e2,e3⟩:=xfin (H1:=H) (Q:=Q) (o1:=ExcD d [("want",v0)]) (o2:=ExcO cP d x) hx hd
  exact q d _ hd e1 e2 e3
def icB (K:PySem.W.Frag) (C:Addr):Bool:=PySem.W.plainGet K C Str.empty && (PySem.W.hasDictIn K C && (PySem.W.plainOver K C && ((PySem.W.findIn K (.ref C) "__setattr__" == some (some (.builtin "object.__setattr__"))) && ((PySem.W.findIn K (.ref C) "__class__" == some (some (.builtin "object.__class__"))) &&
 ((PySem.W.specialIn K (.builtin "object.__class__") "__get__" == some (some (.builtin "getset_descriptor.__get__"))) && ((PySem.W.takesIn K (.builtin "object.__class__") == some true) && ((PySem.W.mroIn K C (.type "object") == some true) && (PySem.W.makesIn K C && PySem.W.keepIn K (.ref C)))))))))
theorem icB_of {C:Addr} (h:icB K C=true):ICls K C∧PySem.W.makesIn K C=true∧PySem.W.keepIn K (.ref C)=true:=by
 unfold icB at h
 simp only [Bool.and_eq_true,beq_iff_eq] at h
 obtain ⟨a,b,c,d,e,f,g,i,j,l⟩:=h
 exact ⟨⟨⟨a,b,c,d⟩,e,f,g,i⟩,j,l⟩
def kitB (K:PySem.W.Frag) (cT cW cU cL:Addr):Bool:=([(cW,"mark"),(cU,"at"),(cU,"first"),(cU,"other"),(cL,"at"),(cL,"first"),(cL,"other")]:List (Addr × Str)).all (fun p=>PySem.W.findIn K (.ref p.1) p.2 == some none) &&
 ([(cW,cW,true),(cW,cU,false),(cW,cL,false),(cU,cW,false),(cL,cW,false),(cU,cU,true),(cU,cL,false),(cL,cU,false),(cL,cL,true),(cW,cT,true),(cU,cT,true),(cL,cT,true)]:List (Addr × Addr × Bool)).all (fun p=>PySem.W.kitOne K (.ref p.1) (.ref p.2.1) == some p.2.2)
theorem rt_of (h:kitB K cT cW cU cL=true) (iW:ICls K cW) (iU:ICls K cU) (iL:ICls K cL) (gT:mg "Tree"=some (.ref cT)) (gW:mg "Whole"=some (.ref cW)) (gU:mg "Upright"=some (.ref cU)) (gL:mg "Level"=some (.ref cL)):RT mg K cT cW cU cL:=by
 unfold kitB at h
 rw [Bool.and_eq_true,List.all_eq_true,List.all_eq_true] at h
 obtain ⟨h1,h2⟩:=h
 have f1:∀ p∈([(cW,"mark"),(cU,"at"),(cU,"first"),(cU,"other"),(cL,"at"),(cL,"first"),(cL,"other")]:List (Addr × Str)),PySem.W.findIn K (.ref p.1) p.2=some none:=fun p hp=>beq_iff_eq.mp (h1 p hp)
 have f2:∀ p∈([(cW,cW,true),(cW,cU,false),(cW,cL,false),(cU,cW,false),(cL,cW,false),(cU,cU,true),(cU,cL,false),(cL,cU,false),(cL,cL,true),(cW,cT,true),(cU,cT,true),(cL,cT,true)]:List (Addr × Addr × Bool)),PySem.W.kitOne K (.ref p.1) (.ref p.2.1)=some p.2.2:=fun p hp=>beq_iff_eq.mp (h2 p hp)
 simp only [List.forall_mem_cons,List.not_mem_nil,false_implies,implies_true,and_true] at f1 f2
 obtain ⟨a1,a2,a3,a4,a5,a6,a7⟩:=f1
 obtain ⟨k1,k2,k3,k4,k5,k6,k7,k8,k9,k10,k11,k12⟩:=f2
 refine ⟨gT,gW,gU,gL,iW,?_,a1,?_,?_,?_,k1,?_,?_,?_,k10,?_⟩
 ·intro u; cases u; exact iL; exact iU
 ·intro u; cases u; exact a5; exact a2
 ·intro u; cases u; exact a6; exact a3
 ·intro u; cases u; exact a7; exact a4
 ·intro u; cases u; exact k3; exact k2
 ·intro u; cases u; exact k5; exact k4
 ·intro u v; cases u <;> cases v; exact k9; exact k8; exact k7; exact k6
 ·intro u; cases u; exact k12; exact k11
theorem lone_of {us:List Value} {d:Value} (h:(us++[d]).length=2):∃ u,us=[u]:=by
 rw [List.length_append,List.length_singleton] at h
 exact len1 (by omega)
end
theorem fn_none {P:Program} {w:World} {K:PySem.W.Frag} {mg:Str→Option Value} {base:Heap} {f:Addr} {fd:FuncData} {x qual:Str} {st:Stmt} {N ps:List Str} {k:Nat} {sp:Sp} (F:Fun K x qual st f fd) (S:FnScope N ps (defScope st)) (h:∀ vs H Q E,¬ sp vs H Q E):FnOk P w K mg base CX0 (k+1) f fd ps sp :=
 F.ok S (fun vs H Q E z=>absurd z (h vs H Q E)) (fun cdv A outer s H vs Q E hr z=>absurd z (h vs H Q E))
theorem all_mk {l:PySem.W.OpenLaw} {w:World} {K:PySem.W.Frag} {h:Heap} {mg:Str→Option Value} {fa:Addr} (X:K.In h) (G:h.Ns mainGlobals mg) (hfa:mg "law"=some (.ref fa))
  {cT:Addr} (aT:PySem.W.nsIn K mainGlobals "Tree"=some (some (.ref cT)))
  {cW:Addr} (aC_cW:PySem.W.nsIn K mainGlobals "Whole"=some (some (.ref cW))) (ic_cW:icB K cW=true)
  {f_cW:Addr} {od_cW an_cW:Option Addr} {sl_cW:Array (Option Value)} {oc_cW kV_cW dc_cW pm_cW cd_cW ct_cW:Value} {T_cW:Addr} {to_cW:Value} {td_cW:Option Addr} {ts_cW:Array (Option Value)} {ti_cW:Array Value} {tn_cW:Nat} (a_cWcW:PySem.W.findIn K (.ref cW) "__init__"=some (some (.ref f_cW))) (i_cW:PySem.W.isFn K (.ref f_cW)=true) (l_cW:K.lookup f_cW=some ⟨oc_cW,od_cW,.func (PySem.W.fnOf "__init__" "Whole.__init__" (defArgs s_Whole_init) (defBody s_Whole_init) (defScope s_Whole_init) (.ref T_cW) kV_cW dc_cW pm_cW an_cW cd_cW ct_cW),sl_cW⟩) (cc_cW:PySem.W.codeIn K cd_cW "Whole.__init__"=true) (k_cW:PySem.W.keepIn K (.ref f_cW)=true) (lT_cW:K.lookup T_cW=some ⟨to_cW,td_cW,.seq ti_cW tn_cW,ts_cW⟩) (eT_cW:ti_cW=#[.none])
  {cU:Addr} (aC_cU:PySem.W.nsIn K mainGlobals "Upright"=some (some (.ref cU))) (ic_cU:icB K cU=true)
  {f_cU:Addr} {od_cU an_cU:Option Addr} {sl_cU:Array (Option Value)} {oc_cU kV_cU dc_cU pm_cU cd_cU ct_cU:Value} (a_cUcU:PySem.W.findIn K (.ref cU) "__init__"=some (some (.ref f_cU))) (i_cU:PySem.W.isFn K (.ref f_cU)=true) (l_cU:K.lookup f_cU=some ⟨oc_cU,od_cU,.func (PySem.W.fnOf "__init__" "Upright.__init__" (defArgs s_Upright_init) (defBody s_Upright_init) (defScope s_Upright_init) .none kV_cU dc_cU pm_cU an_cU cd_cU ct_cU),sl_cU⟩) (cc_cU:PySem.W.codeIn K cd_cU "Upright.__init__"=true) (k_cU:PySem.W.keepIn K (.ref f_cU)=true)
  {cL:Addr} (aC_cL:PySem.W.nsIn K mainGlobals "Level"=some (some (.ref cL))) (ic_cL:icB K cL=true)
  {f_cL:Addr} {od_cL an_cL:Option Addr} {sl_cL:Array (Option Value)} {oc_cL kV_cL dc_cL pm_cL cd_cL ct_cL:Value} (a_cLcL:PySem.W.findIn K (.ref cL) "__init__"=some (some (.ref f_cL))) (i_cL:PySem.W.isFn K (.ref f_cL)=true) (l_cL:K.lookup f_cL=some ⟨oc_cL,od_cL,.func (PySem.W.fnOf "__init__" "Level.__init__" (defArgs s_Level_init) (defBody s_Level_init) (defScope s_Level_init) .none kV_cL dc_cL pm_cL an_cL cd_cL ct_cL),sl_cL⟩) (cc_cL:PySem.W.codeIn K cd_cL "Level.__init__"=true) (k_cL:PySem.W.keepIn K (.ref f_cL)=true)
  (kit:kitB K cT cW cU cL=true)
  {cG:Addr} (aG:PySem.W.nsIn K mainGlobals "GlassError"=some (some (.ref cG))) (eG:PySem.W.excIn K cG vErr "ValueError.__new__"=true)
  {cP:Addr} (aC_cP:PySem.W.nsIn K mainGlobals "NoPlan"=some (some (.ref cP))) (kC_cP:PySem.W.keepIn K (.ref cP)=true) (nC_cP:PySem.W.findIn K (.ref cP) "want"=some none)
  {f_cP:Addr} {od_cP an_cP:Option Addr} {sl_cP:Array (Option Value)} {oc_cP kV_cP dc_cP pm_cP cd_cP ct_cP:Value} (a_cPcP:PySem.W.findIn K (.ref cP) "__init__"=some (some (.ref f_cP))) (i_cP:PySem.W.isFn K (.ref f_cP)=true) (l_cP:K.lookup f_cP=some ⟨oc_cP,od_cP,.func (PySem.W.fnOf "__init__" "NoPlan.__init__" (defArgs s_NoPlan_init) (defBody s_NoPlan_init) (defScope s_NoPlan_init) .none kV_cP dc_cP pm_cP an_cP cd_cP ct_cP),sl_cP⟩) (cc_cP:PySem.W.codeIn K cd_cP "NoPlan.__init__"=true) (k_cP:PySem.W.keepIn K (.ref f_cP)=true)
  (ei_cP:excInI K cP f_cP=true) (xc_cP:xclsB K cP=true) (xm_cP:PySem.W.mroIn K cP (.ref cG)=some true)
  {f0:Addr} {od0 an0:Option Addr} {sl0:Array (Option Value)} {oc0 kV0 dc0 pm0 cd0 ct0:Value} (a0:PySem.W.nsIn K mainGlobals "is_whole"=some (some (.ref f0))) (l0:K.lookup f0=some ⟨oc0,od0,.func (PySem.W.fnOf "is_whole" "is_whole" (defArgs s_is_whole) (defBody s_is_whole) (defScope s_is_whole) .none kV0 dc0 pm0 an0 cd0 ct0),sl0⟩) (cc0:PySem.W.codeIn K cd0 "is_whole"=true) (k0:PySem.W.keepIn K (.ref f0)=true)
  {f1:Addr} {od1 an1:Option Addr} {sl1:Array (Option Value)} {oc1 kV1 dc1 pm1 cd1 ct1:Value} (a1:PySem.W.nsIn K mainGlobals "is_side"=some (some (.ref f1))) (l1:K.lookup f1=some ⟨oc1,od1,.func (PySem.W.fnOf "is_side" "is_side" (defArgs s_is_side) (defBody s_is_side) (defScope s_is_side) .none kV1 dc1 pm1 an1 cd1 ct1),sl1⟩) (cc1:PySem.W.codeIn K cd1 "is_side"=true) (k1:PySem.W.keepIn K (.ref f1)=true)
  {f2:Addr} {od2 an2:Option Addr} {sl2:Array (Option Value)} {oc2 kV2 dc2 pm2 cd2 ct2:Value} (a2:PySem.W.nsIn K mainGlobals "cut_from"=some (some (.ref f2))) (l2:K.lookup f2=some ⟨oc2,od2,.func (PySem.W.fnOf "cut_from" "cut_from" (defArgs s_cut_from) (defBody s_cut_from) (defScope s_cut_from) .none kV2 dc2 pm2 an2 cd2 ct2),sl2⟩) (cc2:PySem.W.codeIn K cd2 "cut_from"=true) (k2:PySem.W.keepIn K (.ref f2)=true)
  {f3:Addr} {od3 an3:Option Addr} {sl3:Array (Option Value)} {oc3 kV3 dc3 pm3 cd3 ct3:Value} (a3:PySem.W.nsIn K mainGlobals "is_want"=some (some (.ref f3))) (l3:K.lookup f3=some ⟨oc3,od3,.func (PySem.W.fnOf "is_want" "is_want" (defArgs s_is_want) (defBody s_is_want) (defScope s_is_want) .none kV3 dc3 pm3 an3 cd3 ct3),sl3⟩) (cc3:PySem.W.codeIn K cd3 "is_want"=true) (k3:PySem.W.keepIn K (.ref f3)=true)
  {f4:Addr} {od4 an4:Option Addr} {sl4:Array (Option Value)} {oc4 kV4 dc4 pm4 cd4 ct4:Value} (a4:PySem.W.nsIn K mainGlobals "check_wants"=some (some (.ref f4))) (l4:K.lookup f4=some ⟨oc4,od4,.func (PySem.W.fnOf "check_wants" "check_wants" (defArgs s_check_wants) (defBody s_check_wants) (defScope s_check_wants) .none kV4 dc4 pm4 an4 cd4 ct4),sl4⟩) (cc4:PySem.W.codeIn K cd4 "check_wants"=true) (k4:PySem.W.keepIn K (.ref f4)=true)
  {f5:Addr} {od5 an5:Option Addr} {sl5:Array (Option Value)} {oc5 kV5 dc5 pm5 cd5 ct5:Value} (a5:PySem.W.nsIn K mainGlobals "ways_to_lie"=some (some (.ref f5))) (l5:K.lookup f5=some ⟨oc5,od5,.func (PySem.W.fnOf "ways_to_lie" "ways_to_lie" (defArgs s_ways_to_lie) (defBody s_ways_to_lie) (defScope s_ways_to_lie) .none kV5 dc5 pm5 an5 cd5 ct5),sl5⟩) (cc5:PySem.W.codeIn K cd5 "ways_to_lie"=true) (k5:PySem.W.keepIn K (.ref f5)=true)
  {f6:Addr} {od6 an6:Option Addr} {sl6:Array (Option Value)} {oc6 kV6 dc6 pm6 cd6 ct6:Value} (a6:PySem.W.nsIn K mainGlobals "ways_held"=some (some (.ref f6))) (l6:K.lookup f6=some ⟨oc6,od6,.func (PySem.W.fnOf "ways_held" "ways_held" (defArgs s_ways_held) (defBody s_ways_held) (defScope s_ways_held) .none kV6 dc6 pm6 an6 cd6 ct6),sl6⟩) (cc6:PySem.W.codeIn K cd6 "ways_held"=true) (k6:PySem.W.keepIn K (.ref f6)=true)
  {f7:Addr} {od7 an7:Option Addr} {sl7:Array (Option Value)} {oc7 kV7 dc7 pm7 cd7 ct7:Value} (a7:PySem.W.nsIn K mainGlobals "is_alone"=some (some (.ref f7))) (l7:K.lookup f7=some ⟨oc7,od7,.func (PySem.W.fnOf "is_alone" "is_alone" (defArgs s_is_alone) (defBody s_is_alone) (defScope s_is_alone) .none kV7 dc7 pm7 an7 cd7 ct7),sl7⟩) (cc7:PySem.W.codeIn K cd7 "is_alone"=true) (k7:PySem.W.keepIn K (.ref f7)=true)
  {f8:Addr} {od8 an8:Option Addr} {sl8:Array (Option Value)} {oc8 kV8 dc8 pm8 cd8 ct8:Value} (a8:PySem.W.nsIn K mainGlobals "number_alone"=some (some (.ref f8))) (l8:K.lookup f8=some ⟨oc8,od8,.func (PySem.W.fnOf "number_alone" "number_alone" (defArgs s_number_alone) (defBody s_number_alone) (defScope s_number_alone) .none kV8 dc8 pm8 an8 cd8 ct8),sl8⟩) (cc8:PySem.W.codeIn K cd8 "number_alone"=true) (k8:PySem.W.keepIn K (.ref f8)=true)
  {f9:Addr} {od9 an9:Option Addr} {sl9:Array (Option Value)} {oc9 kV9 dc9 pm9 cd9 ct9:Value} (a9:PySem.W.nsIn K mainGlobals "all_parts"=some (some (.ref f9))) (l9:K.lookup f9=some ⟨oc9,od9,.func (PySem.W.fnOf "all_parts" "all_parts" (defArgs s_all_parts) (defBody s_all_parts) (defScope s_all_parts) .none kV9 dc9 pm9 an9 cd9 ct9),sl9⟩) (cc9:PySem.W.codeIn K cd9 "all_parts"=true) (k9:PySem.W.keepIn K (.ref f9)=true)
  {f10:Addr} {od10 an10:Option Addr} {sl10:Array (Option Value)} {oc10 kV10 dc10 pm10 cd10 ct10:Value} (a10:PySem.W.nsIn K mainGlobals "parts_with_least"=some (some (.ref f10))) (l10:K.lookup f10=some ⟨oc10,od10,.func (PySem.W.fnOf "parts_with_least" "parts_with_least" (defArgs s_parts_with_least) (defBody s_parts_with_least) (defScope s_parts_with_least) .none kV10 dc10 pm10 an10 cd10 ct10),sl10⟩) (cc10:PySem.W.codeIn K cd10 "parts_with_least"=true) (k10:PySem.W.keepIn K (.ref f10)=true)
  {f11:Addr} {od11 an11:Option Addr} {sl11:Array (Option Value)} {oc11 kV11 dc11 pm11 cd11 ct11:Value} (a11:PySem.W.nsIn K mainGlobals "cuts_to"=some (some (.ref f11))) (l11:K.lookup f11=some ⟨oc11,od11,.func (PySem.W.fnOf "cuts_to" "cuts_to" (defArgs s_cuts_to) (defBody s_cuts_to) (defScope s_cuts_to) .none kV11 dc11 pm11 an11 cd11 ct11),sl11⟩) (cc11:PySem.W.codeIn K cd11 "cuts_to"=true) (k11:PySem.W.keepIn K (.ref f11)=true)
  {f12:Addr} {od12 an12:Option Addr} {sl12:Array (Option Value)} {oc12 kV12 dc12 pm12 cd12 ct12:Value} (a12:PySem.W.nsIn K mainGlobals "least_height"=some (some (.ref f12))) (l12:K.lookup f12=some ⟨oc12,od12,.func (PySem.W.fnOf "least_height" "least_height" (defArgs s_least_height) (defBody s_least_height) (defScope s_least_height) .none kV12 dc12 pm12 an12 cd12 ct12),sl12⟩) (cc12:PySem.W.codeIn K cd12 "least_height"=true) (k12:PySem.W.keepIn K (.ref f12)=true)
  {f13:Addr} {od13 an13:Option Addr} {sl13:Array (Option Value)} {oc13 kV13 dc13 pm13 cd13 ct13:Value} (a13:PySem.W.nsIn K mainGlobals "heights_of_parts"=some (some (.ref f13))) (l13:K.lookup f13=some ⟨oc13,od13,.func (PySem.W.fnOf "heights_of_parts" "heights_of_parts" (defArgs s_heights_of_parts) (defBody s_heights_of_parts) (defScope s_heights_of_parts) .none kV13 dc13 pm13 an13 cd13 ct13),sl13⟩) (cc13:PySem.W.codeIn K cd13 "heights_of_parts"=true) (k13:PySem.W.keepIn K (.ref f13)=true)
  {f14:Addr} {od14 an14:Option Addr} {sl14:Array (Option Value)} {oc14 kV14 dc14 pm14 cd14 ct14:Value} (a14:PySem.W.nsIn K mainGlobals "stair"=some (some (.ref f14))) (l14:K.lookup f14=some ⟨oc14,od14,.func (PySem.W.fnOf "stair" "stair" (defArgs s_stair) (defBody s_stair) (defScope s_stair) .none kV14 dc14 pm14 an14 cd14 ct14),sl14⟩) (cc14:PySem.W.codeIn K cd14 "stair"=true) (k14:PySem.W.keepIn K (.ref f14)=true)
  {f15:Addr} {od15 an15:Option Addr} {sl15:Array (Option Value)} {oc15 kV15 dc15 pm15 cd15 ct15:Value} (a15:PySem.W.nsIn K mainGlobals "all_bits"=some (some (.ref f15))) (l15:K.lookup f15=some ⟨oc15,od15,.func (PySem.W.fnOf "all_bits" "all_bits" (defArgs s_all_bits) (defBody s_all_bits) (defScope s_all_bits) .none kV15 dc15 pm15 an15 cd15 ct15),sl15⟩) (cc15:PySem.W.codeIn K cd15 "all_bits"=true) (k15:PySem.W.keepIn K (.ref f15)=true)
  {f16:Addr} {od16 an16:Option Addr} {sl16:Array (Option Value)} {oc16 kV16 dc16 pm16 cd16 ct16:Value} (a16:PySem.W.nsIn K mainGlobals "stairs"=some (some (.ref f16))) (l16:K.lookup f16=some ⟨oc16,od16,.func (PySem.W.fnOf "stairs" "stairs" (defArgs s_stairs) (defBody s_stairs) (defScope s_stairs) .none kV16 dc16 pm16 an16 cd16 ct16),sl16⟩) (cc16:PySem.W.codeIn K cd16 "stairs"=true) (k16:PySem.W.keepIn K (.ref f16)=true)
  {f17:Addr} {od17 an17:Option Addr} {sl17:Array (Option Value)} {oc17 kV17 dc17 pm17 cd17 ct17:Value} (a17:PySem.W.nsIn K mainGlobals "cut_off"=some (some (.ref f17))) (l17:K.lookup f17=some ⟨oc17,od17,.func (PySem.W.fnOf "cut_off" "cut_off" (defArgs s_cut_off) (defBody s_cut_off) (defScope s_cut_off) .none kV17 dc17 pm17 an17 cd17 ct17),sl17⟩) (cc17:PySem.W.codeIn K cd17 "cut_off"=true) (k17:PySem.W.keepIn K (.ref f17)=true)
  {f18:Addr} {od18 an18:Option Addr} {sl18:Array (Option Value)} {oc18 kV18 dc18 pm18 cd18 ct18:Value} (a18:PySem.W.nsIn K mainGlobals "tree_alone"=some (some (.ref f18))) (l18:K.lookup f18=some ⟨oc18,od18,.func (PySem.W.fnOf "tree_alone" "tree_alone" (defArgs s_tree_alone) (defBody s_tree_alone) (defScope s_tree_alone) .none kV18 dc18 pm18 an18 cd18 ct18),sl18⟩) (cc18:PySem.W.codeIn K cd18 "tree_alone"=true) (k18:PySem.W.keepIn K (.ref f18)=true)
  {f19:Addr} {od19 an19:Option Addr} {sl19:Array (Option Value)} {oc19 kV19 dc19 pm19 cd19 ct19:Value} (a19:PySem.W.nsIn K mainGlobals "tree_for"=some (some (.ref f19))) (l19:K.lookup f19=some ⟨oc19,od19,.func (PySem.W.fnOf "tree_for" "tree_for" (defArgs s_tree_for) (defBody s_tree_for) (defScope s_tree_for) .none kV19 dc19 pm19 an19 cd19 ct19),sl19⟩) (cc19:PySem.W.codeIn K cd19 "tree_for"=true) (k19:PySem.W.keepIn K (.ref f19)=true)
  {f20:Addr} {od20 an20:Option Addr} {sl20:Array (Option Value)} {oc20 kV20 dc20 pm20 cd20 ct20:Value} (a20:PySem.W.nsIn K mainGlobals "is_sheet"=some (some (.ref f20))) (l20:K.lookup f20=some ⟨oc20,od20,.func (PySem.W.fnOf "is_sheet" "is_sheet" (defArgs s_is_sheet) (defBody s_is_sheet) (defScope s_is_sheet) .none kV20 dc20 pm20 an20 cd20 ct20),sl20⟩) (cc20:PySem.W.codeIn K cd20 "is_sheet"=true) (k20:PySem.W.keepIn K (.ref f20)=true)
  {f21:Addr} {od21 an21:Option Addr} {sl21:Array (Option Value)} {oc21 kV21 dc21 pm21 cd21 ct21:Value} (a21:PySem.W.nsIn K mainGlobals "check_sheets"=some (some (.ref f21))) (l21:K.lookup f21=some ⟨oc21,od21,.func (PySem.W.fnOf "check_sheets" "check_sheets" (defArgs s_check_sheets) (defBody s_check_sheets) (defScope s_check_sheets) .none kV21 dc21 pm21 an21 cd21 ct21),sl21⟩) (cc21:PySem.W.codeIn K cd21 "check_sheets"=true) (k21:PySem.W.keepIn K (.ref f21)=true)
  {f22:Addr} {od22 an22:Option Addr} {sl22:Array (Option Value)} {oc22 kV22 dc22 pm22 cd22 ct22:Value} (a22:PySem.W.nsIn K mainGlobals "heights_for"=some (some (.ref f22))) (l22:K.lookup f22=some ⟨oc22,od22,.func (PySem.W.fnOf "heights_for" "heights_for" (defArgs s_heights_for) (defBody s_heights_for) (defScope s_heights_for) .none kV22 dc22 pm22 an22 cd22 ct22),sl22⟩) (cc22:PySem.W.codeIn K cd22 "heights_for"=true) (k22:PySem.W.keepIn K (.ref f22)=true)
  {f23:Addr} {od23 an23:Option Addr} {sl23:Array (Option Value)} {oc23 kV23 dc23 pm23 cd23 ct23:Value} (a23:PySem.W.nsIn K mainGlobals "cheapest_sheets"=some (some (.ref f23))) (l23:K.lookup f23=some ⟨oc23,od23,.func (PySem.W.fnOf "cheapest_sheets" "cheapest_sheets" (defArgs s_cheapest_sheets) (defBody s_cheapest_sheets) (defScope s_cheapest_sheets) .none kV23 dc23 pm23 an23 cd23 ct23),sl23⟩) (cc23:PySem.W.codeIn K cd23 "cheapest_sheets"=true) (k23:PySem.W.keepIn K (.ref f23)=true)
  {f24:Addr} {od24 an24:Option Addr} {sl24:Array (Option Value)} {oc24 kV24 dc24 pm24 cd24 ct24:Value} (a24:PySem.W.nsIn K mainGlobals "first_sheets"=some (some (.ref f24))) (l24:K.lookup f24=some ⟨oc24,od24,.func (PySem.W.fnOf "first_sheets" "first_sheets" (defArgs s_first_sheets) (defBody s_first_sheets) (defScope s_first_sheets) .none kV24 dc24 pm24 an24 cd24 ct24),sl24⟩) (cc24:PySem.W.codeIn K cd24 "first_sheets"=true) (k24:PySem.W.keepIn K (.ref f24)=true)
  {f25:Addr} {od25 an25:Option Addr} {sl25:Array (Option Value)} {oc25 kV25 dc25 pm25 cd25 ct25:Value} (a25:PySem.W.nsIn K mainGlobals "glass_by_set"=some (some (.ref f25))) (l25:K.lookup f25=some ⟨oc25,od25,.func (PySem.W.fnOf "glass_by_set" "glass_by_set" (defArgs s_glass_by_set) (defBody s_glass_by_set) (defScope s_glass_by_set) .none kV25 dc25 pm25 an25 cd25 ct25),sl25⟩) (cc25:PySem.W.codeIn K cd25 "glass_by_set"=true) (k25:PySem.W.keepIn K (.ref f25)=true)
  {f26:Addr} {od26 an26:Option Addr} {sl26:Array (Option Value)} {oc26 kV26 dc26 pm26 cd26 ct26:Value} (a26:PySem.W.nsIn K mainGlobals "least_glass"=some (some (.ref f26))) (l26:K.lookup f26=some ⟨oc26,od26,.func (PySem.W.fnOf "least_glass" "least_glass" (defArgs s_least_glass) (defBody s_least_glass) (defScope s_least_glass) .none kV26 dc26 pm26 an26 cd26 ct26),sl26⟩) (cc26:PySem.W.codeIn K cd26 "least_glass"=true) (k26:PySem.W.keepIn K (.ref f26)=true)
  {f27:Addr} {od27 an27:Option Addr} {sl27:Array (Option Value)} {oc27 kV27 dc27 pm27 cd27 ct27:Value} (a27:PySem.W.nsIn K mainGlobals "check_served"=some (some (.ref f27))) (l27:K.lookup f27=some ⟨oc27,od27,.func (PySem.W.fnOf "check_served" "check_served" (defArgs s_check_served) (defBody s_check_served) (defScope s_check_served) .none kV27 dc27 pm27 an27 cd27 ct27),sl27⟩) (cc27:PySem.W.codeIn K cd27 "check_served"=true) (k27:PySem.W.keepIn K (.ref f27)=true)
  {f28:Addr} {od28 an28:Option Addr} {sl28:Array (Option Value)} {oc28 kV28 dc28 pm28 cd28 ct28:Value} (a28:PySem.W.nsIn K mainGlobals "plan"=some (some (.ref f28))) (l28:K.lookup f28=some ⟨oc28,od28,.func (PySem.W.fnOf "plan" "plan" (defArgs s_plan) (defBody s_plan) (defScope s_plan) .none kV28 dc28 pm28 an28 cd28 ct28),sl28⟩) (cc28:PySem.W.codeIn K cd28 "plan"=true) (k28:PySem.W.keepIn K (.ref f28)=true)
  {f29:Addr} {od29 an29:Option Addr} {sl29:Array (Option Value)} {oc29 kV29 dc29 pm29 cd29 ct29:Value} (a29:PySem.W.nsIn K mainGlobals "_law_at"=some (some (.ref f29))) (l29:K.lookup f29=some ⟨oc29,od29,.func (PySem.W.fnOf "_law_at" "_law_at" (defArgs s__law_at) (defBody s__law_at) (defScope s__law_at) .none kV29 dc29 pm29 an29 cd29 ct29),sl29⟩) (cc29:PySem.W.codeIn K cd29 "_law_at"=true) (k29:PySem.W.keepIn K (.ref f29)=true)
  {f30:Addr} {od30 an30:Option Addr} {sl30:Array (Option Value)} {oc30 kV30 dc30 pm30 cd30 ct30:Value} (a30:PySem.W.nsIn K mainGlobals "_law_more"=some (some (.ref f30))) (l30:K.lookup f30=some ⟨oc30,od30,.func (PySem.W.fnOf "_law_more" "_law_more" (defArgs s__law_more) (defBody s__law_more) (defScope s__law_more) .none kV30 dc30 pm30 an30 cd30 ct30),sl30⟩) (cc30:PySem.W.codeIn K cd30 "_law_more"=true) (k30:PySem.W.keepIn K (.ref f30)=true)
  {f31:Addr} {od31 an31:Option Addr} {sl31:Array (Option Value)} {oc31 kV31 dc31 pm31 cd31 ct31:Value} (a31:PySem.W.nsIn K mainGlobals "_law_knead"=some (some (.ref f31))) (l31:K.lookup f31=some ⟨oc31,od31,.func (PySem.W.fnOf "_law_knead" "_law_knead" (defArgs s__law_knead) (defBody s__law_knead) (defScope s__law_knead) .none kV31 dc31 pm31 an31 cd31 ct31),sl31⟩) (cc31:PySem.W.codeIn K cd31 "_law_knead"=true) (k31:PySem.W.keepIn K (.ref f31)=true)
  {f32:Addr} {od32 an32:Option Addr} {sl32:Array (Option Value)} {oc32 kV32 dc32 pm32 cd32 ct32:Value} (a32:PySem.W.nsIn K mainGlobals "_law_mark"=some (some (.ref f32))) (l32:K.lookup f32=some ⟨oc32,od32,.func (PySem.W.fnOf "_law_mark" "_law_mark" (defArgs s__law_mark) (defBody s__law_mark) (defScope s__law_mark) .none kV32 dc32 pm32 an32 cd32 ct32),sl32⟩) (cc32:PySem.W.codeIn K cd32 "_law_mark"=true) (k32:PySem.W.keepIn K (.ref f32)=true)
  {f33:Addr} {od33 an33:Option Addr} {sl33:Array (Option Value)} {oc33 kV33 dc33 pm33 cd33 ct33:Value} (a33:PySem.W.nsIn K mainGlobals "_law_drawn"=some (some (.ref f33))) (l33:K.lookup f33=some ⟨oc33,od33,.func (PySem.W.fnOf "_law_drawn" "_law_drawn" (defArgs s__law_drawn) (defBody s__law_drawn) (defScope s__law_drawn) .none kV33 dc33 pm33 an33 cd33 ct33),sl33⟩) (cc33:PySem.W.codeIn K cd33 "_law_drawn"=true) (k33:PySem.W.keepIn K (.ref f33)=true)
  {f34:Addr} {od34 an34:Option Addr} {sl34:Array (Option Value)} {oc34 kV34 dc34 pm34 cd34 ct34:Value} (a34:PySem.W.nsIn K mainGlobals "_law_rectangles"=some (some (.ref f34))) (l34:K.lookup f34=some ⟨oc34,od34,.func (PySem.W.fnOf "_law_rectangles" "_law_rectangles" (defArgs s__law_rectangles) (defBody s__law_rectangles) (defScope s__law_rectangles) .none kV34 dc34 pm34 an34 cd34 ct34),sl34⟩) (cc34:PySem.W.codeIn K cd34 "_law_rectangles"=true) (k34:PySem.W.keepIn K (.ref f34)=true)
  {f35:Addr} {od35 an35:Option Addr} {sl35:Array (Option Value)} {oc35 kV35 dc35 pm35 cd35 ct35:Value} (a35:PySem.W.nsIn K mainGlobals "_law_leaves"=some (some (.ref f35))) (l35:K.lookup f35=some ⟨oc35,od35,.func (PySem.W.fnOf "_law_leaves" "_law_leaves" (defArgs s__law_leaves) (defBody s__law_leaves) (defScope s__law_leaves) .none kV35 dc35 pm35 an35 cd35 ct35),sl35⟩) (cc35:PySem.W.codeIn K cd35 "_law_leaves"=true) (k35:PySem.W.keepIn K (.ref f35)=true)
  {f36:Addr} {od36 an36:Option Addr} {sl36:Array (Option Value)} {oc36 kV36 dc36 pm36 cd36 ct36:Value} (a36:PySem.W.nsIn K mainGlobals "_law_serves"=some (some (.ref f36))) (l36:K.lookup f36=some ⟨oc36,od36,.func (PySem.W.fnOf "_law_serves" "_law_serves" (defArgs s__law_serves) (defBody s__law_serves) (defScope s__law_serves) .none kV36 dc36 pm36 an36 cd36 ct36),sl36⟩) (cc36:PySem.W.codeIn K cd36 "_law_serves"=true) (k36:PySem.W.keepIn K (.ref f36)=true)
  {f37:Addr} {od37 an37:Option Addr} {sl37:Array (Option Value)} {oc37 kV37 dc37 pm37 cd37 ct37:Value} (a37:PySem.W.nsIn K mainGlobals "_law_from"=some (some (.ref f37))) (l37:K.lookup f37=some ⟨oc37,od37,.func (PySem.W.fnOf "_law_from" "_law_from" (defArgs s__law_from) (defBody s__law_from) (defScope s__law_from) .none kV37 dc37 pm37 an37 cd37 ct37),sl37⟩) (cc37:PySem.W.codeIn K cd37 "_law_from"=true) (k37:PySem.W.keepIn K (.ref f37)=true)
  {f38:Addr} {od38 an38:Option Addr} {sl38:Array (Option Value)} {oc38 kV38 dc38 pm38 cd38 ct38:Value} (a38:PySem.W.nsIn K mainGlobals "_law_bits"=some (some (.ref f38))) (l38:K.lookup f38=some ⟨oc38,od38,.func (PySem.W.fnOf "_law_bits" "_law_bits" (defArgs s__law_bits) (defBody s__law_bits) (defScope s__law_bits) .none kV38 dc38 pm38 an38 cd38 ct38),sl38⟩) (cc38:PySem.W.codeIn K cd38 "_law_bits"=true) (k38:PySem.W.keepIn K (.ref f38)=true)
  {f39:Addr} {od39 an39:Option Addr} {sl39:Array (Option Value)} {oc39 kV39 dc39 pm39 cd39 ct39:Value} (a39:PySem.W.nsIn K mainGlobals "_law_planned"=some (some (.ref f39))) (l39:K.lookup f39=some ⟨oc39,od39,.func (PySem.W.fnOf "_law_planned" "_law_planned" (defArgs s__law_planned) (defBody s__law_planned) (defScope s__law_planned) .none kV39 dc39 pm39 an39 cd39 ct39),sl39⟩) (cc39:PySem.W.codeIn K cd39 "_law_planned"=true) (k39:PySem.W.keepIn K (.ref f39)=true)
  {f40:Addr} {od40 an40:Option Addr} {sl40:Array (Option Value)} {oc40 kV40 dc40 pm40 cd40 ct40:Value} (a40:PySem.W.nsIn K mainGlobals "law"=some (some (.ref f40))) (l40:K.lookup f40=some ⟨oc40,od40,.func (PySem.W.fnOf "law" "law" (defArgs s_law) (defBody s_law) (defScope s_law) .none kV40 dc40 pm40 an40 cd40 ct40),sl40⟩) (cc40:PySem.W.codeIn K cd40 "law"=true) (k40:PySem.W.keepIn K (.ref f40)=true)
  (z0:PySem.W.nsIn K mainGlobals "isinstance"=some none)
  (z1:PySem.W.nsIn K mainGlobals "int"=some none)
  (z2:PySem.W.nsIn K mainGlobals "bool"=some none)
  (z3:PySem.W.nsIn K mainGlobals "tuple"=some none)
  (z4:PySem.W.nsIn K mainGlobals "len"=some none)
  (z5:PySem.W.nsIn K mainGlobals "enumerate"=some none)
  (z6:PySem.W.nsIn K mainGlobals "range"=some none)
  (z7:PySem.W.nsIn K mainGlobals "max"=some none)
  (z8:PySem.W.nsIn K mainGlobals "min"=some none)
  (z9:PySem.W.nsIn K mainGlobals "any"=some none)
  (z10:PySem.W.nsIn K mainGlobals "list"=some none)
  (z11:PySem.W.nsIn K mainGlobals "abs"=some none)
  {tk0:Tok} (g0:PySem.W.nsIn K mainGlobals "LONGEST_SIDE"=some (some (.int 12 tk0)))
  {tk1:Tok} (g1:PySem.W.nsIn K mainGlobals "MOST_WANTS"=some (some (.int 6 tk1)))
  {tk2:Tok} (g2:PySem.W.nsIn K mainGlobals "TOO_HIGH"=some (some (.int 13 tk2)))
  {tk3:Tok} (g3:PySem.W.nsIn K mainGlobals "UPRIGHT"=some (some (.str "upright" tk3)))
  {tk4:Tok} (g4:PySem.W.nsIn K mainGlobals "LEVEL"=some (some (.str "level" tk4)))
  {tk5:Tok} (g5:PySem.W.nsIn K mainGlobals "MOST_SHEETS"=some (some (.int 4 tk5)))
  : ∃ fd:FuncData,(∀ (s:Shared) (v:Value),BindsTo s fd ⟨[v],[]⟩ [("_law_script",v)])∧∀ base:Heap,K.In base→base.Ns mainGlobals mg→FnOk l.prog w K mg base CX0 29 fa fd ["_law_script"] (sp_law K):=by
 have e:=hfa.symm.trans (PySem.W.mg_of X G a40)
 cases e
 have T:Txt mg tk0 tk1 tk2 tk3 tk4 tk5:=⟨PySem.W.mg_none_of X G z0,PySem.W.mg_none_of X G z1,PySem.W.mg_none_of X G z2,PySem.W.mg_none_of X G z3,PySem.W.mg_none_of X G z4,PySem.W.mg_none_of X G z5,PySem.W.mg_none_of X G z6,PySem.W.mg_none_of X G z7,PySem.W.mg_none_of X G z8,PySem.W.mg_none_of X G z9,PySem.W.mg_none_of X G z10,PySem.W.mg_none_of X G z11,PySem.W.mg_of X G g0,PySem.W.mg_of X G g1,PySem.W.mg_of X G g2,PySem.W.mg_of X G g3,PySem.W.mg_of X G g4,PySem.W.mg_of X G g5⟩
 obtain ⟨I_cW,mk_cW,kc_cW⟩:=icB_of ic_cW
 obtain ⟨I_cU,mk_cU,kc_cU⟩:=icB_of ic_cU
 obtain ⟨I_cL,mk_cL,kc_cL⟩:=icB_of ic_cL
 have R0:RT mg K cT cW cU cL:=rt_of kit I_cW I_cU I_cL (PySem.W.mg_of X G aT) (PySem.W.mg_of X G aC_cW) (PySem.W.mg_of X G aC_cU) (PySem.W.mg_of X G aC_cL)
 have F_cW:FunD K "__init__" "Whole.__init__" s_Whole_init f_cW _:=⟨⟨_,_,_,_,_,_,_,_,_,_,_,tn_cW,rfl,l_cW,cc_cW,lT_cW,by rw [eT_cW]⟩,k_cW⟩
 have b_cW:=F_cW.binds (ps:=["self","mark"]) (ds:=[]) fun _ _ _ _ _ _ _ us hl=>by obtain ⟨u0,u1,rfl⟩:=len2 ((List.append_nil us) ▸ hl); exact ⟨_,rfl,rfl⟩
 have b0_cW:=F_cW.binds (ps:=["self","mark"]) (ds:=[.none]) fun _ _ _ _ _ _ _ us hl=>by obtain ⟨u,rfl⟩:=lone_of hl; exact ⟨_,rfl,rfl⟩
 have F_cU:=fun_mk (st:=s_Upright_init) l_cU cc_cU k_cU
 have b_cU:=F_cU.binds (ps:=["self","at","first","other"]) fun _ _ _ _ _ _ us hl=>by obtain ⟨u0,u1,u2,u3,rfl⟩:=len4 hl; rfl
 have F_cL:=fun_mk (st:=s_Level_init) l_cL cc_cL k_cL
 have b_cL:=F_cL.binds (ps:=["self","at","first","other"]) fun _ _ _ _ _ _ us hl=>by obtain ⟨u0,u1,u2,u3,rfl⟩:=len4 hl; rfl
 have F_cP:=fun_mk (st:=s_NoPlan_init) l_cP cc_cP k_cP
 have b_cP:=F_cP.binds (ps:=["self","want"]) fun _ _ _ _ _ _ us hl=>by obtain ⟨u0,u1,rfl⟩:=len2 hl; rfl
 have F0:=fun_mk (st:=s_is_whole) l0 cc0 k0
 have b0:=F0.binds (ps:=["thing"]) fun _ _ _ _ _ _ us hl=>by obtain ⟨u0,rfl⟩:=len1 hl; rfl
 have F1:=fun_mk (st:=s_is_side) l1 cc1 k1
 have b1:=F1.binds (ps:=["thing"]) fun _ _ _ _ _ _ us hl=>by obtain ⟨u0,rfl⟩:=len1 hl; rfl
 have F2:=fun_mk (st:=s_cut_from) l2 cc2 k2
 have b2:=F2.binds (ps:=["word","at","first","other"]) fun _ _ _ _ _ _ us hl=>by obtain ⟨u0,u1,u2,u3,rfl⟩:=len4 hl; rfl
 have F3:=fun_mk (st:=s_is_want) l3 cc3 k3
 have b3:=F3.binds (ps:=["thing"]) fun _ _ _ _ _ _ us hl=>by obtain ⟨u0,rfl⟩:=len1 hl; rfl
 have F4:=fun_mk (st:=s_check_wants) l4 cc4 k4
 have b4:=F4.binds (ps:=["wants"]) fun _ _ _ _ _ _ us hl=>by obtain ⟨u0,rfl⟩:=len1 hl; rfl
 have F5:=fun_mk (st:=s_ways_to_lie) l5 cc5 k5
 have b5:=F5.binds (ps:=["want"]) fun _ _ _ _ _ _ us hl=>by obtain ⟨u0,rfl⟩:=len1 hl; rfl
 have F6:=fun_mk (st:=s_ways_held) l6 cc6 k6
 have b6:=F6.binds (ps:=["want","width","height"]) fun _ _ _ _ _ _ us hl=>by obtain ⟨u0,u1,u2,rfl⟩:=len3 hl; rfl
 have F7:=fun_mk (st:=s_is_alone) l7 cc7 k7
 have b7:=F7.binds (ps:=["bits"]) fun _ _ _ _ _ _ us hl=>by obtain ⟨u0,rfl⟩:=len1 hl; rfl
 have F8:=fun_mk (st:=s_number_alone) l8 cc8 k8
 have b8:=F8.binds (ps:=["bits"]) fun _ _ _ _ _ _ us hl=>by obtain ⟨u0,rfl⟩:=len1 hl; rfl
 have F9:=fun_mk (st:=s_all_parts) l9 cc9 k9
 have b9:=F9.binds (ps:=["bits"]) fun _ _ _ _ _ _ us hl=>by obtain ⟨u0,rfl⟩:=len1 hl; rfl
 have F10:=fun_mk (st:=s_parts_with_least) l10 cc10 k10
 have b10:=F10.binds (ps:=["bits"]) fun _ _ _ _ _ _ us hl=>by obtain ⟨u0,rfl⟩:=len1 hl; rfl
 have F11:=fun_mk (st:=s_cuts_to) l11 cc11 k11
 have b11:=F11.binds (ps:=["heights","bits","width"]) fun _ _ _ _ _ _ us hl=>by obtain ⟨u0,u1,u2,rfl⟩:=len3 hl; rfl
 have F12:=fun_mk (st:=s_least_height) l12 cc12 k12
 have b12:=F12.binds (ps:=["wants","heights","bits","width"]) fun _ _ _ _ _ _ us hl=>by obtain ⟨u0,u1,u2,u3,rfl⟩:=len4 hl; rfl
 have F13:=fun_mk (st:=s_heights_of_parts) l13 cc13 k13
 have b13:=F13.binds (ps:=["wants","bits"]) fun _ _ _ _ _ _ us hl=>by obtain ⟨u0,u1,rfl⟩:=len2 hl; rfl
 have F14:=fun_mk (st:=s_stair) l14 cc14 k14
 have b14:=F14.binds (ps:=["least"]) fun _ _ _ _ _ _ us hl=>by obtain ⟨u0,rfl⟩:=len1 hl; rfl
 have F15:=fun_mk (st:=s_all_bits) l15 cc15 k15
 have b15:=F15.binds (ps:=["wants"]) fun _ _ _ _ _ _ us hl=>by obtain ⟨u0,rfl⟩:=len1 hl; rfl
 have F16:=fun_mk (st:=s_stairs) l16 cc16 k16
 have b16:=F16.binds (ps:=["wants"]) fun _ _ _ _ _ _ us hl=>by obtain ⟨u0,rfl⟩:=len1 hl; rfl
 have F17:=fun_mk (st:=s_cut_off) l17 cc17 k17
 have b17:=F17.binds (ps:=["mark","size","width","height"]) fun _ _ _ _ _ _ us hl=>by obtain ⟨u0,u1,u2,u3,rfl⟩:=len4 hl; rfl
 have F18:=fun_mk (st:=s_tree_alone) l18 cc18 k18
 have b18:=F18.binds (ps:=["wants","number","width","height"]) fun _ _ _ _ _ _ us hl=>by obtain ⟨u0,u1,u2,u3,rfl⟩:=len4 hl; rfl
 have F19:=fun_mk (st:=s_tree_for) l19 cc19 k19
 have b19:=F19.binds (ps:=["wants","heights","bits","width","height"]) fun _ _ _ _ _ _ us hl=>by obtain ⟨u0,u1,u2,u3,u4,rfl⟩:=len5 hl; rfl
 have F20:=fun_mk (st:=s_is_sheet) l20 cc20 k20
 have b20:=F20.binds (ps:=["thing"]) fun _ _ _ _ _ _ us hl=>by obtain ⟨u0,rfl⟩:=len1 hl; rfl
 have F21:=fun_mk (st:=s_check_sheets) l21 cc21 k21
 have b21:=F21.binds (ps:=["sheets"]) fun _ _ _ _ _ _ us hl=>by obtain ⟨u0,rfl⟩:=len1 hl; rfl
 have F22:=fun_mk (st:=s_heights_for) l22 cc22 k22
 have b22:=F22.binds (ps:=["wants","sheets"]) fun _ _ _ _ _ _ us hl=>by obtain ⟨u0,u1,rfl⟩:=len2 hl; rfl
 have F23:=fun_mk (st:=s_cheapest_sheets) l23 cc23 k23
 have b23:=F23.binds (ps:=["heights","sheets"]) fun _ _ _ _ _ _ us hl=>by obtain ⟨u0,u1,rfl⟩:=len2 hl; rfl
 have F24:=fun_mk (st:=s_first_sheets) l24 cc24 k24
 have b24:=F24.binds (ps:=["cheapest","glass","bits"]) fun _ _ _ _ _ _ us hl=>by obtain ⟨u0,u1,u2,rfl⟩:=len3 hl; rfl
 have F25:=fun_mk (st:=s_glass_by_set) l25 cc25 k25
 have b25:=F25.binds (ps:=["cheapest","bits"]) fun _ _ _ _ _ _ us hl=>by obtain ⟨u0,u1,rfl⟩:=len2 hl; rfl
 have F26:=fun_mk (st:=s_least_glass) l26 cc26 k26
 have b26:=F26.binds (ps:=["wants","sheets"]) fun _ _ _ _ _ _ us hl=>by obtain ⟨u0,u1,rfl⟩:=len2 hl; rfl
 have F27:=fun_mk (st:=s_check_served) l27 cc27 k27
 have b27:=F27.binds (ps:=["wants","cheapest"]) fun _ _ _ _ _ _ us hl=>by obtain ⟨u0,u1,rfl⟩:=len2 hl; rfl
 have F28:=fun_mk (st:=s_plan) l28 cc28 k28
 have b28:=F28.binds (ps:=["wants","sheets"]) fun _ _ _ _ _ _ us hl=>by obtain ⟨u0,u1,rfl⟩:=len2 hl; rfl
 have F29:=fun_mk (st:=s__law_at) l29 cc29 k29
 have b29:=F29.binds (ps:=["_law_script","_law_k"]) fun _ _ _ _ _ _ us hl=>by obtain ⟨u0,u1,rfl⟩:=len2 hl; rfl
 have F30:=fun_mk (st:=s__law_more) l30 cc30 k30
 have b30:=F30.binds (ps:=["_law_script","_law_at_here","_law_many"]) fun _ _ _ _ _ _ us hl=>by obtain ⟨u0,u1,u2,rfl⟩:=len3 hl; rfl
 have F31:=fun_mk (st:=s__law_knead) l31 cc31 k31
 have b31:=F31.binds (ps:=["_law_number","_law_by"]) fun _ _ _ _ _ _ us hl=>by obtain ⟨u0,u1,rfl⟩:=len2 hl; rfl
 have F32:=fun_mk (st:=s__law_mark) l32 cc32 k32
 have b32:=F32.binds (ps:=["_law_number"]) fun _ _ _ _ _ _ us hl=>by obtain ⟨u0,rfl⟩:=len1 hl; rfl
 have F33:=fun_mk (st:=s__law_drawn) l33 cc33 k33
 have b33:=F33.binds (ps:=["_law_cells","_law_width","_law_height"]) fun _ _ _ _ _ _ us hl=>by obtain ⟨u0,u1,u2,rfl⟩:=len3 hl; rfl
 have F34:=fun_mk (st:=s__law_rectangles) l34 cc34 k34
 have b34:=F34.binds (ps:=["_law_told","_law_top","_law_left","_law_bottom","_law_right"]) fun _ _ _ _ _ _ us hl=>by obtain ⟨u0,u1,u2,u3,u4,rfl⟩:=len5 hl; rfl
 have F35:=fun_mk (st:=s__law_leaves) l35 cc35 k35
 have b35:=F35.binds (ps:=["_law_tree","_law_top","_law_left","_law_bottom","_law_right"]) fun _ _ _ _ _ _ us hl=>by obtain ⟨u0,u1,u2,u3,u4,rfl⟩:=len5 hl; rfl
 have F36:=fun_mk (st:=s__law_serves) l36 cc36 k36
 have b36:=F36.binds (ps:=["_law_tree","_law_wants","_law_bits_here","_law_width","_law_height"]) fun _ _ _ _ _ _ us hl=>by obtain ⟨u0,u1,u2,u3,u4,rfl⟩:=len5 hl; rfl
 have F37:=fun_mk (st:=s__law_from) l37 cc37 k37
 have b37:=F37.binds (ps:=["_law_pieces_told","_law_cell"]) fun _ _ _ _ _ _ us hl=>by obtain ⟨u0,u1,rfl⟩:=len2 hl; rfl
 have F38:=fun_mk (st:=s__law_bits) l38 cc38 k38
 have b38:=F38.binds (ps:=["_law_tree","_law_wants","_law_sheet"]) fun _ _ _ _ _ _ us hl=>by obtain ⟨u0,u1,u2,rfl⟩:=len3 hl; rfl
 have F39:=fun_mk (st:=s__law_planned) l39 cc39 k39
 have b39:=F39.binds (ps:=["_law_wants","_law_sheets","_law_glass"]) fun _ _ _ _ _ _ us hl=>by obtain ⟨u0,u1,u2,rfl⟩:=len3 hl; rfl
 have F40:=fun_mk (st:=s_law) l40 cc40 k40
 refine ⟨PySem.W.fnOf "law" "law" (defArgs s_law) (defBody s_law) (defScope s_law) .none kV40 dc40 pm40 an40 cd40 ct40,fun s v=>.of_eq rfl,fun base _ _=>?_⟩
 have K_Whole:MkOk l.prog w K mg base 1 "Whole" cW ["self","mark"] (sp_iW cW):=⟨_,_,⟨mk_cW,a_cWcW,i_cW,kc_cW⟩,ok_Whole_init F_cW R0,PySem.W.mg_of X G aC_cW,b_cW⟩
 have K0_Whole:MkOk0 l.prog w K mg base 1 "Whole" cW ["self","mark"] (sp_iW cW) [.non]:=⟨_,_,_,⟨mk_cW,a_cWcW,i_cW,kc_cW⟩,ok_Whole_init F_cW R0,PySem.W.mg_of X G aC_cW,b0_cW,.cons rfl .nil⟩
 have K_Upright:MkOk l.prog w K mg base 1 "Upright" cU ["self","at","first","other"] (sp_iC cU):=⟨_,_,⟨mk_cU,a_cUcU,i_cU,kc_cU⟩,ok_Upright_init F_cU R0,PySem.W.mg_of X G aC_cU,b_cU⟩
 have K_Level:MkOk l.prog w K mg base 1 "Level" cL ["self","at","first","other"] (sp_iC cL):=⟨_,_,⟨mk_cL,a_cLcL,i_cL,kc_cL⟩,ok_Level_init F_cL R0,PySem.W.mg_of X G aC_cL,b_cL⟩
 have X_NoPlan:XMkOk l.prog w K mg base 1 "NoPlan" cP ["self","want"] ["want"]:=⟨by decide,f_cP,_,⟨XCls.of xc_cP,ei_cP,kC_cP,i_cP⟩,ok_NoPlan_init F_cP (XCls.of xc_cP) nC_cP,PySem.W.mg_of X G aC_cP,b_cP⟩
 have D_is_whole:DefOk l.prog w K mg base 1 "is_whole" ["thing"] sp_whole:=⟨_,_,ok_is_whole F0 T,PySem.W.mg_of X G a0,k0,b0⟩
 have D_is_side:DefOk l.prog w K mg base 2 "is_side" ["thing"] sp_side:=⟨_,_,ok_is_side F1 T D_is_whole,PySem.W.mg_of X G a1,k1,b1⟩
 have D_cut_from:DefOk l.prog w K mg base 3 "cut_from" ["word","at","first","other"] (sp_cutfrom cW cU cL):=⟨_,_,ok_cut_from F2 T K_Upright K_Level,PySem.W.mg_of X G a2,k2,b2⟩
 have D_is_want:DefOk l.prog w K mg base 3 "is_want" ["thing"] sp_want:=⟨_,_,ok_is_want F3 T D_is_side,PySem.W.mg_of X G a3,k3,b3⟩
 have D_check_wants:DefOk l.prog w K mg base 4 "check_wants" ["wants"] sp_check:=⟨_,_,ok_check_wants F4 T D_is_want,PySem.W.mg_of X G a4,k4,b4⟩
 have D_ways_to_lie:DefOk l.prog w K mg base 1 "ways_to_lie" ["want"] sp_ways:=⟨_,_,ok_ways_to_lie F5,PySem.W.mg_of X G a5,k5,b5⟩
 have D_ways_held:DefOk l.prog w K mg base 2 "ways_held" ["want","width","height"] sp_wheld:=⟨_,_,ok_ways_held F6 D_ways_to_lie,PySem.W.mg_of X G a6,k6,b6⟩
 have D_is_alone:DefOk l.prog w K mg base 1 "is_alone" ["bits"] sp_alone:=⟨_,_,ok_is_alone F7,PySem.W.mg_of X G a7,k7,b7⟩
 have D_number_alone:DefOk l.prog w K mg base 1 "number_alone" ["bits"] sp_number:=⟨_,_,ok_number_alone F8,PySem.W.mg_of X G a8,k8,b8⟩
 have D_all_parts:DefOk l.prog w K mg base 1 "all_parts" ["bits"] sp_parts:=⟨_,_,ok_all_parts F9 T,PySem.W.mg_of X G a9,k9,b9⟩
 have D_parts_with_least:DefOk l.prog w K mg base 2 "parts_with_least" ["bits"] sp_least:=⟨_,_,ok_parts_with_least F10 D_all_parts,PySem.W.mg_of X G a10,k10,b10⟩
 have D_cuts_to:DefOk l.prog w K mg base 3 "cuts_to" ["heights","bits","width"] sp_cuts:=⟨_,_,ok_cuts_to F11 T D_parts_with_least,PySem.W.mg_of X G a11,k11,b11⟩
 have D_least_height:DefOk l.prog w K mg base 4 "least_height" ["wants","heights","bits","width"] sp_low:=⟨_,_,ok_least_height F12 T D_is_alone D_number_alone D_ways_to_lie D_cuts_to,PySem.W.mg_of X G a12,k12,b12⟩
 have D_heights_of_parts:DefOk l.prog w K mg base 5 "heights_of_parts" ["wants","bits"] sp_heights:=⟨_,_,ok_heights_of_parts F13 T D_all_parts D_least_height,PySem.W.mg_of X G a13,k13,b13⟩
 have D_stair:DefOk l.prog w K mg base 1 "stair" ["least"] sp_stair:=⟨_,_,ok_stair F14 T,PySem.W.mg_of X G a14,k14,b14⟩
 have D_all_bits:DefOk l.prog w K mg base 1 "all_bits" ["wants"] sp_bits:=⟨_,_,ok_all_bits F15 T,PySem.W.mg_of X G a15,k15,b15⟩
 have D_stairs:DefOk l.prog w K mg base 6 "stairs" ["wants"] sp_stairs:=⟨_,_,ok_stairs F16 D_check_wants D_all_bits D_heights_of_parts D_stair,PySem.W.mg_of X G a16,k16,b16⟩
 have D_cut_off:DefOk l.prog w K mg base 3 "cut_off" ["mark","size","width","height"] (sp_off cW cU cL):=⟨_,_,ok_cut_off F17 K_Whole K0_Whole K_Upright K_Level,PySem.W.mg_of X G a17,k17,b17⟩
 have D_tree_alone:DefOk l.prog w K mg base 4 "tree_alone" ["wants","number","width","height"] (sp_talone cW cU cL):=⟨_,_,ok_tree_alone F18 D_ways_held D_cut_off,PySem.W.mg_of X G a18,k18,b18⟩
 have A_tree_for:∀ n:Nat,DefOk l.prog w K mg base (n+4) "tree_for" ["wants","heights","bits","width","height"] (sp_tree cW cU cL n):=fun n=>by
  induction n with
  | zero=>exact ⟨_,_,fn_none F19 S_tree_for (fun _ _ _ _=>tree0),PySem.W.mg_of X G a19,k19,b19⟩
  | succ n ih=>exact ⟨_,_,ok_tree_for F19 T D_is_alone D_number_alone D_tree_alone D_cuts_to D_cut_from ih,PySem.W.mg_of X G a19,k19,b19⟩
 have D_tree_for:=A_tree_for 7
 have D_is_sheet:DefOk l.prog w K mg base 3 "is_sheet" ["thing"] sp_sheet:=⟨_,_,ok_is_sheet F20 T D_is_side,PySem.W.mg_of X G a20,k20,b20⟩
 have D_check_sheets:DefOk l.prog w K mg base 4 "check_sheets" ["sheets"] sp_csheets:=⟨_,_,ok_check_sheets F21 T D_is_sheet,PySem.W.mg_of X G a21,k21,b21⟩
 have D_heights_for:DefOk l.prog w K mg base 6 "heights_for" ["wants","sheets"] sp_hfor:=⟨_,_,ok_heights_for F22 D_check_wants D_check_sheets D_all_bits D_heights_of_parts,PySem.W.mg_of X G a22,k22,b22⟩
 have D_cheapest_sheets:DefOk l.prog w K mg base 1 "cheapest_sheets" ["heights","sheets"] sp_cheap:=⟨_,_,ok_cheapest_sheets F23 T,PySem.W.mg_of X G a23,k23,b23⟩
 have D_first_sheets:DefOk l.prog w K mg base 3 "first_sheets" ["cheapest","glass","bits"] sp_first:=⟨_,_,ok_first_sheets F24 D_parts_with_least,PySem.W.mg_of X G a24,k24,b24⟩
 have D_glass_by_set:DefOk l.prog w K mg base 4 "glass_by_set" ["cheapest","bits"] sp_glass:=⟨_,_,ok_glass_by_set F25 T D_all_parts D_first_sheets,PySem.W.mg_of X G a25,k25,b25⟩
 have D_least_glass:DefOk l.prog w K mg base 7 "least_glass" ["wants","sheets"] sp_lg:=⟨_,_,ok_least_glass F26 D_all_bits D_heights_for D_cheapest_sheets D_glass_by_set,PySem.W.mg_of X G a26,k26,b26⟩
 have D_check_served:DefOkX l.prog w K mg base 3 "check_served" ["wants","cheapest"] (sp_served cP):=⟨_,_,ok_check_served F27 T X_NoPlan,PySem.W.mg_of X G a27,k27,b27⟩
 have D_plan:DefOkX l.prog w K mg base 12 "plan" ["wants","sheets"] (sp_plan cW cU cL cP):=⟨_,_,ok_plan F28 T D_heights_for D_cheapest_sheets D_check_served D_all_bits D_glass_by_set D_first_sheets D_tree_for,PySem.W.mg_of X G a28,k28,b28⟩
 have D__law_at:DefOk l.prog w K mg base 1 "_law_at" ["_law_script","_law_k"] (sp_at K):=⟨_,_,ok_law_at F29 T,PySem.W.mg_of X G a29,k29,b29⟩
 have D__law_more:DefOk l.prog w K mg base 2 "_law_more" ["_law_script","_law_at_here","_law_many"] (sp_more K):=⟨_,_,ok_law_more F30 T D__law_at,PySem.W.mg_of X G a30,k30,b30⟩
 have D__law_knead:DefOk l.prog w K mg base 1 "_law_knead" ["_law_number","_law_by"] sp_knead:=⟨_,_,ok_law_knead F31 T,PySem.W.mg_of X G a31,k31,b31⟩
 have D__law_mark:DefOk l.prog w K mg base 1 "_law_mark" ["_law_number"] sp_mark:=⟨_,_,ok_law_mark F32,PySem.W.mg_of X G a32,k32,b32⟩
 have A__law_drawn:∀ n:Nat,DefOk l.prog w K mg base (n+3) "_law_drawn" ["_law_cells","_law_width","_law_height"] (sp_drawn n):=fun n=>by
  induction n with
  | zero=>exact ⟨_,_,fn_none F33 S_law_drawn (fun _ _ _ _=>drawn0),PySem.W.mg_of X G a33,k33,b33⟩
  | succ n ih=>exact ⟨_,_,ok_law_drawn F33 T D__law_knead D__law_mark ih,PySem.W.mg_of X G a33,k33,b33⟩
 have D__law_drawn:=A__law_drawn 25
 have A__law_rectangles:∀ n:Nat,DefOk l.prog w K mg base (n+1) "_law_rectangles" ["_law_told","_law_top","_law_left","_law_bottom","_law_right"] (sp_rect n):=fun n=>by
  induction n with
  | zero=>exact ⟨_,_,fn_none F34 S_law_rectangles (fun _ _ _ _=>rect0),PySem.W.mg_of X G a34,k34,b34⟩
  | succ n ih=>exact ⟨_,_,ok_law_rectangles F34 ih,PySem.W.mg_of X G a34,k34,b34⟩
 have D__law_rectangles:=A__law_rectangles 24
 have A__law_leaves:∀ n:Nat,DefOk l.prog w K mg base (n+1) "_law_leaves" ["_law_tree","_law_top","_law_left","_law_bottom","_law_right"] (sp_leaves cW cU cL n):=fun n=>by
  induction n with
  | zero=>exact ⟨_,_,fn_none F35 S_law_leaves (fun _ _ _ _=>leaves0),PySem.W.mg_of X G a35,k35,b35⟩
  | succ n ih=>exact ⟨_,_,ok_law_leaves F35 T R0 ih,PySem.W.mg_of X G a35,k35,b35⟩
 have D__law_leaves:=A__law_leaves 24
 have D__law_serves:DefOk l.prog w K mg base 26 "_law_serves" ["_law_tree","_law_wants","_law_bits_here","_law_width","_law_height"] (sp_serves cW cU cL):=⟨_,_,ok_law_serves F36 T D__law_leaves,PySem.W.mg_of X G a36,k36,b36⟩
 have D__law_from:DefOk l.prog w K mg base 2 "_law_from" ["_law_pieces_told","_law_cell"] sp_from:=⟨_,_,ok_law_from F37 T D__law_knead,PySem.W.mg_of X G a37,k37,b37⟩
 have D__law_bits:DefOk l.prog w K mg base 27 "_law_bits" ["_law_tree","_law_wants","_law_sheet"] (sp_bitsof cW cU cL):=⟨_,_,ok_law_bits F38 D__law_leaves D__law_serves,PySem.W.mg_of X G a38,k38,b38⟩
 have D__law_planned:DefOk l.prog w K mg base 28 "_law_planned" ["_law_wants","_law_sheets","_law_glass"] sp_pland:=⟨_,_,ok_law_planned F39 T D_plan D__law_bits,PySem.W.mg_of X G a39,k39,b39⟩
 exact ok_law F40 T D_stairs D_least_glass D__law_planned D__law_at D__law_knead D__law_more D__law_drawn D__law_rectangles D__law_from
theorem walk {l:PySem.W.OpenLaw} {q:Program} {loose:List Str} {XP:(Str→Option Value)→Heap→Prop} {YP:World→Heap→Prop} {d:DefRec} {K:Params→PySem.W.Frag} (hn:l.most=some 63) (hdf:d.params.defaults=[])
  (hY:∀ (w:World) (h:Heap),YP w h→(K w.params).In h)
  (F:∀ (w:World) (mg:Str→Option Value) (fa:Addr) (h:Heap),(K w.params).In h→h.Ns mainGlobals mg→mg d.name=some (.ref fa) →
   ∃ fd:FuncData,(∀ (s:Shared) (u:Value),BindsTo s fd ⟨[u],[]⟩ [("_law_script",u)])∧∀ base:Heap,(K w.params).In base→base.Ns mainGlobals mg→FnOk l.prog w (K w.params) mg base CX0 29 fa fd ["_law_script"] (sp_law (K w.params))) :
  PySem.W.WalkO q loose XP YP l.row.toRowW d [] (fun f vs=>PySem.call f vs) :=
 L2.walk_of (n:=63) (k:=29) (x:="_law_script") (CX:=fun _=>CX0) (sp:=fun w=>sp_law (K w.params)) hn (by decide) hdf ⟨rfl,by decide,by decide⟩ hY F (fun _ _ a ns hl _ hS=>⟨a,ns,rfl,hS,hl,fun _=>rfl⟩) fun _ _ _ _ _ z=>z
end K63
open PySem PySem.W PyProof.Rows
set_option maxRecDepth 100000 in
set_option maxHeartbeats 0 in
theorem PySem.Challenge.cw_glazebench_k63_whole_any_tree_is_on_the_holds : PySem.Challenge.rw_glazebench_k63_whole_any_tree_is_on_the.Holds := by
 refine KH.prep fun said => ?_
 have fx : ∀ s, KH.Xp PySem.Challenge.pw_glazebench_k63_whole_any_tree_is_on_the s = true → XL (KH.qv PySem.Challenge.pw_glazebench_k63_whole_any_tree_is_on_the) [] (s.heap.nsMap mainGlobals) s.heap := fun s e => xl_of s (Bool.and_eq_true_iff.mp e).1
 have fr : ∀ s, KH.Xp PySem.Challenge.pw_glazebench_k63_whole_any_tree_is_on_the s = true → RecFacts (RowW.records (OpenRow.toRowW PySem.Challenge.rw_glazebench_k63_whole_any_tree_is_on_the.row)) s.heap := fun s e => recFacts_of (Bool.and_eq_true_iff.mp e).2
 refine holds_open (XP := XL (KH.qv PySem.Challenge.pw_glazebench_k63_whole_any_tree_is_on_the) []) KH.left (kHook KH.KK KH.kas KH.kas_is).of (kHook KH.KK KH.kas KH.kas_is).keeps fx XL.keeps (by rfl) (by rfl) (by rfl) fr (by rfl) said (by decide +kernel) ?hb ?hw ?hc
 case hb => exact ⟨rfl,rfl, rfl,rfl, rfl, by decide +kernel⟩
 case hw => w_witness2
 case hc =>
  k_fill
  refine K63.walk (l := PySem.Challenge.rw_glazebench_k63_whole_any_tree_is_on_the) rfl rfl (fun w h Y => PySem.W.kIn_of Y) ?F
  case F =>
   intro w mg fa h KX G hmg
   refine' K63.all_mk KX G hmg ?my_aT ?my_aC_cW ?my_ic_cW ?my_a_cWcW ?my_i_cW ?my_l_cW ?my_cc_cW ?my_k_cW ?my_lT_cW ?my_eT_cW ?my_aC_cU ?my_ic_cU ?my_a_cUcU ?my_i_cU ?my_l_cU ?my_cc_cU ?my_k_cU ?my_aC_cL ?my_ic_cL ?my_a_cLcL ?my_i_cL ?my_l_cL ?my_cc_cL ?my_k_cL ?my_kit ?my_aG ?my_eG ?my_aC_cP ?my_kC_cP ?my_nC_cP ?my_a_cPcP ?my_i_cP ?my_l_cP ?my_cc_cP ?my_k_cP ?my_ei_cP ?my_xc_cP ?my_xm_cP ?my_a0 ?my_l0 ?my_cc0 ?my_k0 ?my_a1 ?my_l1 ?my_cc1 ?my_k1 ?my_a2 ?my_l2 ?my_cc2 ?my_k2 ?my_a3 ?my_l3 ?my_cc3 ?my_k3 ?my_a4 ?my_l4 ?my_cc4 ?my_k4 ?my_a5 ?my_l5 ?my_cc5 ?my_k5 ?my_a6 ?my_l6 ?my_cc6 ?my_k6 ?my_a7 ?my_l7 ?my_cc7 ?my_k7 ?my_a8 ?my_l8 ?my_cc8 ?my_k8 ?my_a9 ?my_l9 ?my_cc9 ?my_k9 ?my_a10 ?my_l10 ?my_cc10 ?my_k10 ?my_a11 ?my_l11 ?my_cc11 ?my_k11 ?my_a12 ?my_l12 ?my_cc12 ?my_k12 ?my_a13 ?my_l13 ?my_cc13 ?my_k13 ?my_a14 ?my_l14 ?my_cc14 ?my_k14 ?my_a15 ?my_l15 ?my_cc15 ?my_k15 ?my_a16 ?my_l16 ?my_cc16 ?my_k16 ?my_a17 ?my_l17 ?my_cc17 ?my_k17 ?my_a18 ?my_l18 ?my_cc18 ?my_k18 ?my_a19 ?my_l19 ?my_cc19 ?my_k19 ?my_a20 ?my_l20 ?my_cc20 ?my_k20 ?my_a21 ?my_l21 ?my_cc21 ?my_k21 ?my_a22 ?my_l22 ?my_cc22 ?my_k22 ?my_a23 ?my_l23 ?my_cc23 ?my_k23 ?my_a24 ?my_l24 ?my_cc24 ?my_k24 ?my_a25 ?my_l25 ?my_cc25 ?my_k25 ?my_a26 ?my_l26 ?my_cc26 ?my_k26 ?my_a27 ?my_l27 ?my_cc27 ?my_k27 ?my_a28 ?my_l28 ?my_cc28 ?my_k28 ?my_a29 ?my_l29 ?my_cc29 ?my_k29 ?my_a30 ?my_l30 ?my_cc30 ?my_k30 ?my_a31 ?my_l31 ?my_cc31 ?my_k31 ?my_a32 ?my_l32 ?my_cc32 ?my_k32 ?my_a33 ?my_l33 ?my_cc33 ?my_k33 ?my_a34 ?my_l34 ?my_cc34 ?my_k34 ?my_a35 ?my_l35 ?my_cc35 ?my_k35 ?my_a36 ?my_l36 ?my_cc36 ?my_k36 ?my_a37 ?my_l37 ?my_cc37 ?my_k37 ?my_a38 ?my_l38 ?my_cc38 ?my_k38 ?my_a39 ?my_l39 ?my_cc39 ?my_k39 ?my_a40 ?my_l40 ?my_cc40 ?my_k40 ?my_z0 ?my_z1 ?my_z2 ?my_z3 ?my_z4 ?my_z5 ?my_z6 ?my_z7 ?my_z8 ?my_z9 ?my_z10 ?my_z11 ?my_g0 ?my_g1 ?my_g2 ?my_g3 ?my_g4 ?my_g5
   (case my_aT => k_is); (case my_aC_cW => k_is); (case my_a_cWcW => k_is); (case my_i_cW => k_is); (case my_l_cW => k_is); (case my_cc_cW => k_is); (case my_k_cW => k_is); (case my_lT_cW => k_is)
   (case my_aC_cU => k_is); (case my_a_cUcU => k_is); (case my_i_cU => k_is); (case my_l_cU => k_is); (case my_cc_cU => k_is); (case my_k_cU => k_is); (case my_aC_cL => k_is); (case my_a_cLcL => k_is)
   (case my_i_cL => k_is); (case my_l_cL => k_is); (case my_cc_cL => k_is); (case my_k_cL => k_is); (case my_aG => k_is); (case my_aC_cP => k_is); (case my_kC_cP => k_is); (case my_nC_cP => k_is)
   (case my_a_cPcP => k_is); (case my_i_cP => k_is); (case my_l_cP => k_is); (case my_cc_cP => k_is); (case my_k_cP => k_is); (case my_xm_cP => k_is); (case my_a0 => k_is); (case my_l0 => k_is)
   (case my_cc0 => k_is); (case my_k0 => k_is); (case my_a1 => k_is); (case my_l1 => k_is); (case my_cc1 => k_is); (case my_k1 => k_is); (case my_a2 => k_is); (case my_l2 => k_is)
   (case my_cc2 => k_is); (case my_k2 => k_is); (case my_a3 => k_is); (case my_l3 => k_is); (case my_cc3 => k_is); (case my_k3 => k_is); (case my_a4 => k_is); (case my_l4 => k_is)
   (case my_cc4 => k_is); (case my_k4 => k_is); (case my_a5 => k_is); (case my_l5 => k_is); (case my_cc5 => k_is); (case my_k5 => k_is); (case my_a6 => k_is); (case my_l6 => k_is)
   (case my_cc6 => k_is); (case my_k6 => k_is); (case my_a7 => k_is); (case my_l7 => k_is); (case my_cc7 => k_is); (case my_k7 => k_is); (case my_a8 => k_is); (case my_l8 => k_is)
   (case my_cc8 => k_is); (case my_k8 => k_is); (case my_a9 => k_is); (case my_l9 => k_is); (case my_cc9 => k_is); (case my_k9 => k_is); (case my_a10 => k_is); (case my_l10 => k_is)
   (case my_cc10 => k_is); (case my_k10 => k_is); (case my_a11 => k_is); (case my_l11 => k_is); (case my_cc11 => k_is); (case my_k11 => k_is); (case my_a12 => k_is); (case my_l12 => k_is)
   (case my_cc12 => k_is); (case my_k12 => k_is); (case my_a13 => k_is); (case my_l13 => k_is); (case my_cc13 => k_is); (case my_k13 => k_is); (case my_a14 => k_is); (case my_l14 => k_is)
   (case my_cc14 => k_is); (case my_k14 => k_is); (case my_a15 => k_is); (case my_l15 => k_is); (case my_cc15 => k_is); (case my_k15 => k_is); (case my_a16 => k_is); (case my_l16 => k_is)
   (case my_cc16 => k_is); (case my_k16 => k_is); (case my_a17 => k_is); (case my_l17 => k_is); (case my_cc17 => k_is); (case my_k17 => k_is); (case my_a18 => k_is); (case my_l18 => k_is)
   (case my_cc18 => k_is); (case my_k18 => k_is); (case my_a19 => k_is); (case my_l19 => k_is); (case my_cc19 => k_is); (case my_k19 => k_is); (case my_a20 => k_is); (case my_l20 => k_is)
   (case my_cc20 => k_is); (case my_k20 => k_is); (case my_a21 => k_is); (case my_l21 => k_is); (case my_cc21 => k_is); (case my_k21 => k_is); (case my_a22 => k_is); (case my_l22 => k_is)
   (case my_cc22 => k_is); (case my_k22 => k_is); (case my_a23 => k_is); (case my_l23 => k_is); (case my_cc23 => k_is); (case my_k23 => k_is); (case my_a24 => k_is); (case my_l24 => k_is)
   (case my_cc24 => k_is); (case my_k24 => k_is); (case my_a25 => k_is); (case my_l25 => k_is); (case my_cc25 => k_is); (case my_k25 => k_is); (case my_a26 => k_is); (case my_l26 => k_is)
   (case my_cc26 => k_is); (case my_k26 => k_is); (case my_a27 => k_is); (case my_l27 => k_is); (case my_cc27 => k_is); (case my_k27 => k_is); (case my_a28 => k_is); (case my_l28 => k_is)
   (case my_cc28 => k_is); (case my_k28 => k_is); (case my_a29 => k_is); (case my_l29 => k_is); (case my_cc29 => k_is); (case my_k29 => k_is); (case my_a30 => k_is); (case my_l30 => k_is)
   (case my_cc30 => k_is); (case my_k30 => k_is); (case my_a31 => k_is); (case my_l31 => k_is); (case my_cc31 => k_is); (case my_k31 => k_is); (case my_a32 => k_is); (case my_l32 => k_is)
   (case my_cc32 => k_is); (case my_k32 => k_is); (case my_a33 => k_is); (case my_l33 => k_is); (case my_cc33 => k_is); (case my_k33 => k_is); (case my_a34 => k_is); (case my_l34 => k_is)
   (case my_cc34 => k_is); (case my_k34 => k_is); (case my_a35 => k_is); (case my_l35 => k_is); (case my_cc35 => k_is); (case my_k35 => k_is); (case my_a36 => k_is); (case my_l36 => k_is)
   (case my_cc36 => k_is); (case my_k36 => k_is); (case my_a37 => k_is); (case my_l37 => k_is); (case my_cc37 => k_is); (case my_k37 => k_is); (case my_a38 => k_is); (case my_l38 => k_is)
   (case my_cc38 => k_is); (case my_k38 => k_is); (case my_a39 => k_is); (case my_l39 => k_is); (case my_cc39 => k_is); (case my_k39 => k_is); (case my_a40 => k_is); (case my_l40 => k_is)
   (case my_cc40 => k_is); (case my_k40 => k_is); (case my_z0 => k_is); (case my_z1 => k_is); (case my_z2 => k_is); (case my_z3 => k_is); (case my_z4 => k_is); (case my_z5 => k_is)
   (case my_z6 => k_is); (case my_z7 => k_is); (case my_z8 => k_is); (case my_z9 => k_is); (case my_z10 => k_is); (case my_z11 => k_is); (case my_g0 => k_is); (case my_g1 => k_is)
   (case my_g2 => k_is); (case my_g3 => k_is); (case my_g4 => k_is); (case my_g5 => k_is); (case my_eT_cW => rfl); (case my_ic_cW => kernel_rfl); (case my_ic_cU => kernel_rfl); (case my_ic_cL => kernel_rfl)
   (case my_kit => kernel_rfl); (case my_eG => kernel_rfl); (case my_ei_cP => kernel_rfl); (case my_xc_cP => kernel_rfl)
