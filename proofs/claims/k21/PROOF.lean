import PyProof.Rows.All
import Wide.All
import OpenK.AllK
import Wide.FinOn
import Lean
import PyProof.EqAt
import PyProof.EqKinds
import PyProof.TupleCall
import PyProof.NeKinds
import PyProof.ExcAttrAll.ValueError
import PyProof.StationsW
import PyProof.PassesOwn
import PyProof.RulesAs
import PyProof.NsDelKeeps
import PyProof.CompMap
import PyProof.DictItems
import KE.KPairComp
import KE.KMinKey
import KE.KDictList
import KE.KDictOf
import KE.KEqDict
import PyProof.DictIter
import PyProof.DictWalks
import PyProof.Rows.DictUnroll
import KE.KRevIter
import PySem.Challenge.RW_glazebench_k21_leads_of_a_block
set_option Elab.async false
set_option linter.all false
set_option maxRecDepth 100000
namespace L2
open PySem PySem.Spec PyProof.Rows
abbrev Key:=Sum Int Str
def keyIs:Key→Value→Bool
  | .inl k,v=>Value.isInt k v
  | .inr x,v=>Value.isStrOf x v
def keyH (w:World):Key→Int
  | .inl k=>hashInt k
  | .inr x=>hashStr w x
theorem keyIs_shape:∀ {k:Key} {v:Value},keyIs k v=true→(∃ i t,k=Sum.inl i∧v=Value.int i t)∨(∃ x t,k=Sum.inr x∧v=Value.str x t)
  | .inl i,v,h=>by
    obtain ⟨t,e⟩:=Value.isInt_shape (k:=i) (v:=v) h
    exact .inl ⟨i,t,rfl,e⟩
  | .inr x,v,h=>by
    obtain ⟨t,e⟩:=Value.isStrOf_shape (x:=x) (v:=v) h
    exact .inr ⟨x,t,rfl,e⟩
theorem keyIs_int (i:Int) (t:Tok):keyIs (.inl i) (.int i t)=true:=by simp [keyIs,Value.isInt]
theorem keyIs_str (x:Str) (t:Tok):keyIs (.inr x) (.str x t)=true:=by simp [keyIs,Value.isStrOf]
theorem key_ll (a b:Int):decide ((Sum.inl a:Key)=Sum.inl b)=(a == b):=by
  by_cases e:a=b
  · subst e; simp
  · have h:¬ (Sum.inl a:Key)=Sum.inl b:=fun q=>e (Sum.inl.inj q)
    rw [decide_eq_false h]
    exact (beq_eq_false_iff_ne.mpr e).symm
theorem key_rr (a b:Str):decide ((Sum.inr a:Key)=Sum.inr b)=decide (a=b):=by
  by_cases e:a=b
  · subst e; simp
  · have h:¬ (Sum.inr a:Key)=Sum.inr b:=fun q=>e (Sum.inr.inj q)
    rw [decide_eq_false h,decide_eq_false e]
theorem key_lr (a:Int) (b:Str):decide ((Sum.inl a:Key)=Sum.inr b)=false:=decide_eq_false (fun q=>nomatch q)
theorem key_rl (a:Str) (b:Int):decide ((Sum.inr a:Key)=Sum.inl b)=false:=decide_eq_false (fun q=>nomatch q)
def mixKind (prog:Program) (w:World):PySem.KeyKind prog w Key where
  is:=keyIs
  hash:=keyH w
  inj:=fun v a b ha hb=>by
    rcases keyIs_shape ha with ⟨i,t,rfl,rfl⟩ | ⟨x,t,rfl,rfl⟩
    · rcases keyIs_shape hb with ⟨j,u,rfl,e⟩ | ⟨y,u,rfl,e⟩
      · injection e with e1 _; rw [e1]
      · exact nomatch e
    · rcases keyIs_shape hb with ⟨j,u,rfl,e⟩ | ⟨y,u,rfl,e⟩
      · exact nomatch e
      · injection e with e1 _; rw [e1]
  byValue:=fun k v h=>by
    rcases keyIs_shape h with ⟨i,t,rfl,rfl⟩ | ⟨x,t,rfl,rfl⟩ <;> rfl
  pyHash:=fun hv h=>by
    rcases keyIs_shape hv with ⟨i,t,rfl,rfl⟩ | ⟨x,t,rfl,rfl⟩
    · exact wpAny_pyHash_int h
    · exact wpAny_pyHash_str h
  eqBool:=fun hu hv h=>by
    rcases keyIs_shape hu with ⟨i,t,rfl,rfl⟩ | ⟨x,t,rfl,rfl⟩
    · rcases keyIs_shape hv with ⟨j,u,rfl,rfl⟩ | ⟨y,u,rfl,rfl⟩
      · rw [key_ll] at h; exact wpAny_eqBool_int h
      · rw [key_lr] at h; exact SeqAt.EqAt.int_str i t y u _ _ _ _ h
    · rcases keyIs_shape hv with ⟨j,u,rfl,rfl⟩ | ⟨y,u,rfl,rfl⟩
      · rw [key_rl] at h; exact SeqAt.EqAt.str_int x t j u _ _ _ _ h
      · rw [key_rr] at h; exact wpAny_eqBool_str h
  «strs»:=fun k x t v h=>by
    rcases keyIs_shape h with ⟨i,u,rfl,e⟩ | ⟨y,u,rfl,e⟩
    · exact nomatch e
    · injection e with e1 _
      subst e1
      cases v <;> rfl
theorem mixKind_int (prog:Program) (w:World) (i:Int) (t:Tok):(mixKind prog w).is (.inl i) (.int i t)=true:=keyIs_int i t
theorem mixKind_str (prog:Program) (w:World) (x:Str) (t:Tok):(mixKind prog w).is (.inr x) (.str x t)=true:=keyIs_str x t
end L2
namespace L2
open PySem PySem.Spec PyProof.Rows
inductive V where
  | non | bl (b:Bool) | int (i:Int) | str (x:Str) | byt (b:Array UInt8) | flt (b:UInt64) | ref (a:Addr) | ty (n:String)
  deriving DecidableEq
def RelV:V→Value→Prop
  | .non,u=>u=Value.none
  | .bl b,u=>u=Value.bool b
  | .int i,u=>∃ t,u=Value.int i t
  | .str x,u=>∃ t,u=Value.str x t
  | .byt b,u=>∃ t,u=Value.bytes b t
  | .flt b,u=>∃ t,u=Value.float b t
  | .ref a,u=>u=Value.ref a
  | .ty n,u=>u=Value.type n
abbrev Vals:List V→List Value→Prop:=Paired RelV
theorem Vals.length {xs:List V} {us:List Value} (r:Vals xs us):xs.length=us.length:=Paired.length r
theorem Vals.get:∀ {xs:List V} {us:List Value} {i:Nat} {x:V},Vals xs us→xs[i]?=some x→∃ u,us[i]?=some u∧RelV x u
  | _,_,_,_,.nil,e=>by simp at e
  | _,_,0,_,.cons r _,e=>by simp at e; subst e; exact ⟨_,rfl,r⟩
  | _,_,i+1,x,.cons _ t,e=>by
    obtain ⟨u,h1,h2⟩:=Vals.get (i:=i) (x:=x) t (by simpa using e)
    exact ⟨u,by simpa using h1,h2⟩
theorem Vals.set {x:V} {u:Value} (r:RelV x u):∀ {xs:List V} {us:List Value} (i:Nat),Vals xs us→Vals (xs.set i x) (us.set i u)
  | _,_,_,.nil=>.nil
  | _,_,0,.cons _ t=>.cons r t
  | _,_,i+1,.cons q t=>.cons q (Vals.set r i t)
theorem Vals.append:∀ {xs ys:List V} {us ws:List Value},Vals xs us→Vals ys ws→Vals (xs++ys) (us++ws)
  | _,_,_,_,.nil,s=>s
  | _,_,_,_,.cons r t,s=>.cons r (Vals.append t s)
theorem Vals.take:∀ {xs:List V} {us:List Value} (n:Nat),Vals xs us→Vals (xs.take n) (us.take n)
  | _,_,0,_=>.nil
  | _,_,_+1,.nil=>.nil
  | _,_,n+1,.cons r t=>.cons r (Vals.take n t)
theorem Vals.drop:∀ {xs:List V} {us:List Value} (n:Nat),Vals xs us→Vals (xs.drop n) (us.drop n)
  | _,_,0,r=>r
  | _,_,_+1,.nil=>.nil
  | _,_,n+1,.cons _ t=>Vals.drop n t
def RelO:Option V→Option Value→Prop
  | some v,some u=>RelV v u
  | none,none=>True
  | _,_=>False
def KV {κ:Type}:List (κ × V)→List (κ × Value)→Prop:=Paired fun (p:κ × V) (q:κ × Value)=>p.1=q.1∧RelV p.2 q.2
def kV:Key→V
  | .inl i=>.int i
  | .inr x=>.str x
inductive HO where
  | lst (xs:List V)
  | tup (xs:List V)
  | dK (kvs:List (Key × V)) | dT (kvs:List (List Key × V))
  | set (S:Int→Bool) (n:Nat)
  | ins (C dx:Addr) (fs:List (Str × V))
  | own (x:Addr)
  | xd (fs:List (Str × V))
  | met (f x:Addr)
  | rng (lo hi:Int)
  | frz (o:Obj) (u:HO)
  | tbl (ps:Array Value)
  | ext (φ:Heap→Prop)
abbrev Hp:=Addr→Option HO
def upd (H:Hp) (a:Addr) (o:HO):Hp:=fun b=>if b=a then some o else H b
theorem upd_same {H:Hp} {a:Addr} {o:HO}:upd H a o a=some o:=by unfold upd; rw [if_pos rfl]
theorem upd_ne {H:Hp} {a b:Addr} {o:HO} (h:b≠a):upd H a o b=H b:=by unfold upd; rw [if_neg h]
theorem ne_of {H:Hp} {a b:Addr} {o u:HO} (h:H a=some o) (h':H b=some u) (d:o≠u):a≠b:=by
  intro e; subst e; rw [h] at h'; exact d (Option.some.inj h')
theorem ne_of_none {H:Hp} {a b:Addr} {o:HO} (h:H a=some o) (h':H b=none):a≠b:=by
  intro e; subst e; rw [h] at h'; cases h'
section
variable (P:Program) (w:World)
def ObjOk (H:Hp) (h:Heap) (a:Addr):HO→Prop
  | .lst xs=>xs.length≤sizeLine∧∃ (its:List Value) (n:Nat),Vals xs its∧h.get? a=some { cls:=.type "list",data:=.seq its.toArray n }
  | .tup xs=>xs.length≤sizeLine∧∃ its:List Value,Vals xs its∧IsTup h a its.toArray
  | .dK kvs=>kvs.length≤sizeLine∧(a == sysModules)=false∧∃ vs,KV kvs vs∧h.DictOf (mixKind P w) a vs
  | .dT kvs=>kvs.length≤sizeLine∧(a == sysModules)=false∧∃ xs:List (List Key × Addr × Value),
      Paired (fun (p:List Key × V) (q:List Key × Addr × Value)=>p.1=q.1∧H q.2.1=some (.tup (p.1.map kV))∧RelV p.2 q.2.2) kvs xs ∧
      ∃ o es ep,h.get? a=some o∧o.ExactDict∧o.data=.dict es ep∧es.toList=xs.map (entryOfKey (tupleKind (mixKind P w)))∧(xs.map (·.1)).Nodup
  | .set S n=>h.SetOf (intKind P w) a S n
  | .ins C dx fs=>H dx=some (.own a)∧fs.length≤1000∧dx≠a∧h.get? a=some (PySem.W.instObj C dx) ∧
      ∃ mA,h.Ns1 dx mA∧(∀ f,RelO (fs.lookup f) (mA f))∧PySem.Within mA (fs.map (·.1))
  | .own _=>∃ o,h.get? a=some o
  | .xd fs=>∃ mA,h.Ns1 a mA∧∀ f,RelO (fs.lookup f) (mA f)
  | .rng lo hi=>∃ t u v,h.get? a=some { cls:=.type "range",data:=.fields #[.int lo t,.int hi u,.int 1 v] }
  | .frz o u=>h.get? a=some o∧ObjOk H h a u
  | .tbl ps=>h.get? a=some { cls:=.none,data:=.fields ps }
  | .met f x=>h.get? a=some (PySem.W.methodObj (.ref f) (.ref x))
  | .ext φ=>φ h∧(∃ o,h.get? a=some o)∧∀ h1 h2:Heap,φ h1→(∀ o,h1.get? a=some o→h2.get? a=some o)→φ h2
def HOk (H:Hp) (h:Heap):Prop:=∀ a o,H a=some o→ObjOk P w H h a o
end
section
variable {P:Program} {w:World} {H H':Hp} {h h':Heap} {a:Addr} {o:HO}
theorem ObjOk.lt (x:ObjOk P w H h a o):a < h.objs.size:=by
  cases o with
  | lst xs=>obtain ⟨_,_,_,_,e⟩:=x; exact Heap.lt_size e
  | tup xs=>obtain ⟨_,_,_,p⟩:=x; exact p.lt
  | dK kvs=>obtain ⟨_,_,_,_,o,_,_,e,_⟩:=x; exact Heap.lt_size e
  | dT kvs=>obtain ⟨_,_,_,_,o,_,_,e,_⟩:=x; exact Heap.lt_size e
  | set S n=>obtain ⟨o,_,_,_,e,_⟩:=x; exact Heap.lt_size e
  | ins C dx fs=>obtain ⟨_,_,_,e,_⟩:=x; exact Heap.lt_size e
  | own y=>obtain ⟨_,e⟩:=x; exact Heap.lt_size e
  | xd fs=>obtain ⟨_,⟨_,_,_,e,_⟩,_⟩:=x; exact Heap.lt_size e
  | rng lo hi=>obtain ⟨_,_,_,e⟩:=x; exact Heap.lt_size e
  | frz ob u=>obtain ⟨e,_⟩:=x; exact Heap.lt_size e
  | tbl ps=>exact Heap.lt_size (show h.get? a=some _ from x)
  | met f y=>exact Heap.lt_size (show h.get? a=some _ from x)
  | ext φ=>obtain ⟨_,⟨_,e⟩,_⟩:=x; exact Heap.lt_size e
theorem Paired.mapP {α β:Type} {F G:α→β→Prop}:∀ {l₁:List α} {l₂:List β},Paired F l₁ l₂→(∀ a b,F a b→G a b)→Paired G l₁ l₂
  | _,_,.nil,_=>.nil
  | _,_,.cons r t,f=>.cons (f _ _ r) (Paired.mapP t f)
theorem ObjOk.stay (x:ObjOk P w H h a o) (k:∀ b u,(b=a∨H b=some (.own a))→h.get? b=some u→h'.get? b=some u)
    (ho:∀ b,H b=some (.own a)→H' b=some (.own a)) (ht:∀ b xs,H b=some (.tup xs)→H' b=some (.tup xs)):ObjOk P w H' h' a o:=by
  induction o with
  | lst xs=>obtain ⟨z,its,n,r,e⟩:=x; exact ⟨z,its,n,r,k _ _ (.inl rfl) e⟩
  | tup xs=>obtain ⟨z,its,r,ob,e,c⟩:=x; exact ⟨z,its,r,ob,k _ _ (.inl rfl) e,c⟩
  | dK kvs=>obtain ⟨z,y,vs,r,ob,es,ep,e,c⟩:=x; exact ⟨z,y,vs,r,ob,es,ep,k _ _ (.inl rfl) e,c⟩
  | dT kvs =>
    obtain ⟨z,y,xs,r,ob,es,ep,e,c⟩:=x
    exact ⟨z,y,xs,Paired.mapP r fun p q z=>⟨z.1,ht _ _ z.2.1,z.2.2⟩,ob,es,ep,k _ _ (.inl rfl) e,c⟩
  | set S n=>obtain ⟨ob,es,ep,t,e,c⟩:=x; exact ⟨ob,es,ep,t,k _ _ (.inl rfl) e,c⟩
  | ins C dx fs =>
    obtain ⟨d,z,ne,e,mA,⟨od,es,ep,e2,c⟩,r⟩:=x
    exact ⟨ho _ d,z,ne,k _ _ (.inl rfl) e,mA,⟨od,es,ep,k _ _ (.inr d) e2,c⟩,r⟩
  | own y=>obtain ⟨ob,e⟩:=x; exact ⟨ob,k _ _ (.inl rfl) e⟩
  | xd fs=>obtain ⟨mA,⟨od,es,ep,e,c⟩,r⟩:=x; exact ⟨mA,⟨od,es,ep,k _ _ (.inl rfl) e,c⟩,r⟩
  | rng lo hi=>obtain ⟨t,u,v,e⟩:=x; exact ⟨t,u,v,k _ _ (.inl rfl) e⟩
  | frz ob u ih=>obtain ⟨e,q⟩:=x; exact ⟨k _ _ (.inl rfl) e,ih q⟩
  | tbl ps =>
    have e:h.get? a=some { cls:=.none,data:=.fields ps }:=x
    show h'.get? a=some { cls:=.none,data:=.fields ps }
    exact k a _ (.inl rfl) e
  | met f y =>
    have e:h.get? a=some (PySem.W.methodObj (.ref f) (.ref y)):=x
    show h'.get? a=some (PySem.W.methodObj (.ref f) (.ref y))
    exact k a _ (.inl rfl) e
  | ext φ=>obtain ⟨p,⟨o,e⟩,st⟩:=x; exact ⟨st _ _ p fun o q=>k _ _ (.inl rfl) q,⟨o,k _ _ (.inl rfl) e⟩,st⟩
theorem HOk.lt (x:HOk P w H h) (e:H a=some o):a < h.objs.size:=(x a o e).lt
theorem HOk.fresh (x:HOk P w H h) (e:h.objs.size≤a):H a=none:=by
  cases q:H a with
  | none=>rfl
  | some u=>exact absurd (Nat.lt_of_lt_of_le (x.lt q) e) (Nat.lt_irrefl _)
theorem HOk.kept (x:HOk P w H h) (k:∀ b u,h.get? b=some u→h'.get? b=some u):HOk P w H h':=fun a o e =>
  (x a o e).stay (fun b u _ q=>k b u q) (fun _ q=>q) fun _ _ q=>q
theorem HOk.laid (x:HOk P w H h) (k:∀ b u,h.get? b=some u→h'.get? b=some u) (hp:h.objs.size≤a) (new:ObjOk P w (upd H a o) h' a o):HOk P w (upd H a o) h':=fun b u e=>by
  have hn:=x.fresh hp
  by_cases hb:b=a
  · subst hb; rw [upd_same] at e; cases e; exact new
  · rw [upd_ne hb] at e
    exact (x b u e).stay (fun c v _ q=>k c v q) (fun c q=>by rw [upd_ne (ne_of_none q hn)]; exact q) fun c xs q=>by rw [upd_ne (ne_of_none q hn)]; exact q
end
def Rd (H:Hp) (a:Addr) (u:HO):Prop:=H a=some u∨∃ o,H a=some (.frz o u)
theorem Rd.ok {P:Program} {w:World} {H:Hp} {h:Heap} {a:Addr} {u:HO} (r:Rd H a u) (x:HOk P w H h):ObjOk P w H h a u:=by
  rcases r with r | ⟨o,r⟩
  · exact x a u r
  · obtain ⟨_,q⟩:=x a _ r
    exact q
def Mut:Option HO→Prop
  | some (.lst _)=>True
  | some (.dK _)=>True
  | some (.dT _)=>True
  | some (.set _ _)=>True
  | some (.ins _ _ _)=>True
  | some (.ext _)=>True
  | _=>False
section
variable {P:Program} {w:World} {H:Hp} {h h':Heap} {x e:Addr} {o':HO}
theorem HOk.write (ok:HOk P w H h) (mu:Mut (H x)) (he:e=x∨H e=some (.own x)) (k:∀ b u,b≠e→h.get? b=some u→h'.get? b=some u) (heo:∃ u,h'.get? e=some u)
    (new:ObjOk P w (upd H x o') h' x o'):HOk P w (upd H x o') h':=fun b u q=>by
  have nown:∀ c y,H c=some (.own y)→c≠x:=fun c y r z=>by subst z; rw [r] at mu; exact mu
  have ntup:∀ c xs,H c=some (.tup xs)→c≠x:=fun c xs r z=>by subst z; rw [r] at mu; exact mu
  by_cases hb:b=x
  · subst hb; rw [upd_same] at q; cases q; exact new
  · rw [upd_ne hb] at q
    by_cases hbe:b=e
    · have q':H b=some (.own x):=by
        rcases he with z | z
        · exact absurd (hbe.trans z) hb
        · rw [hbe]; exact z
      rw [q] at q'; cases q'
      obtain ⟨v,hv⟩:=heo
      exact ⟨v,by rw [hbe]; exact hv⟩
    · refine (ok b u q).stay (fun c v hc r=>k c v ?_ r) (fun c r=>by rw [upd_ne (nown c b r)]; exact r) fun c xs r=>by rw [upd_ne (ntup c xs r)]; exact r
      rcases hc with rfl | hc
      · exact hbe
      · rintro rfl
        rcases he with z | z
        · exact nown c b hc z
        · rw [hc] at z; cases z; exact hb rfl
end
structure Un (fs ex:List Addr) (H H':Hp) (h h':Heap):Prop where
  keep:∀ b o,h.get? b=some o→H b=none→b ∉ fs→b ∉ ex→h'.get? b=some o
  slot:∀ b o,h.get? b=some o→H b=none→b∈fs→b ∉ ex→∃ sl,h'.get? b=some { o with slots:=sl }
  free:∀ b o,h.get? b=some o→H b=none→b ∉ ex→H' b=none
  there:∀ b o,h.get? b=some o→b ∉ ex→∃ o',h'.get? b=some o'
  tups:∀ b xs,H b=some (.tup xs)→H' b=some (.tup xs)
  frzs:∀ b o u,H b=some (.frz o u)→H' b=some (.frz o u)
  tbls:∀ b ps,H b=some (.tbl ps)→∃ more,H' b=some (.tbl (ps++more))
section
variable {fs fs' ex ex':List Addr} {H H1 H2:Hp} {h h1 h2 h':Heap} {a x e:Addr} {o:HO}
theorem Un.any (u:Un fs ex H H1 h h1) {b:Addr} {ob:Obj} (q:h.get? b=some ob) (n:H b=none) (hx:b ∉ ex):∃ sl,h1.get? b=some { ob with slots:=sl }:=by
  by_cases hb:b∈fs
  · exact u.slot b ob q n hb hx
  · exact ⟨ob.slots,u.keep b ob q n hb hx⟩
theorem Un.kept (k:∀ b u,h.get? b=some u→h'.get? b=some u):Un fs ex H H h h' :=
  ⟨fun b ob q _ _ _=>k b ob q,fun b ob q _ _ _=>⟨ob.slots,k b ob q⟩,fun _ _ _ n _=>n,fun b ob q _=>⟨ob,k b ob q⟩,fun _ _ q=>q,fun _ _ _ q=>q,fun _ ps q=>⟨#[],by rw [q]; simp⟩⟩
theorem Un.refl:Un fs ex H H h h:=Un.kept fun _ _ q=>q
theorem Un.laid (k:∀ b u,h.get? b=some u→h'.get? b=some u) (hp:h.objs.size≤a) (hn:H a=none):Un fs ex H (upd H a o) h h' where
  keep:=fun b u q _ _ _=>k b u q
  slot:=fun b u q _ _ _=>⟨u.slots,k b u q⟩
  free:=fun b u q n _=>by rw [upd_ne (Nat.ne_of_lt (Nat.lt_of_lt_of_le (Heap.lt_size q) hp))]; exact n
  there:=fun b u q _=>⟨u,k b u q⟩
  tups:=fun b xs q=>by rw [upd_ne (ne_of_none q hn)]; exact q
  frzs:=fun b u xs q=>by rw [upd_ne (ne_of_none q hn)]; exact q
  tbls:=fun b ps q=>⟨#[],by rw [upd_ne (ne_of_none q hn),q]; simp⟩
theorem Un.write (mu:Mut (H x)) (he:e=x∨H e=some (.own x)) (k:∀ b u,b≠e→h.get? b=some u→h'.get? b=some u) (heo:∃ u,h'.get? e=some u):Un fs ex H (upd H x o) h h':=by
  have hx:∀ b,H b=none→b≠x:=fun b n z=>by subst z; rw [n] at mu; exact mu
  have hb:∀ b,H b=none→b≠e:=fun b n z=>by
    subst z
    rcases he with r | r
    · exact hx b n r
    · rw [n] at r; cases r
  have hm:∀ b u,H b=some u→¬ Mut (some u)→b≠x:=fun b u q nm z=>by subst z; rw [q] at mu; exact nm mu
  refine ⟨fun b u q n _ _=>k b u (hb b n) q,fun b u q n _ _=>⟨u.slots,k b u (hb b n) q⟩,fun b u q n _=>by rw [upd_ne (hx b n)]; exact n,fun b u q _=>?_,
    fun b xs q=>by rw [upd_ne (hm b _ q fun z=>z)]; exact q,fun b u xs q=>by rw [upd_ne (hm b _ q fun z=>z)]; exact q,fun b ps q=>⟨#[],by rw [upd_ne (hm b _ q fun z=>z),q]; simp⟩⟩
  by_cases hbe:b=e
  · subst hbe; exact heo
  · exact ⟨u,k b u hbe q⟩
end
def trk (h:Heap) (H:Hp):List Addr:=(List.range h.objs.size).filter fun a=>(H a).isSome
def hidT (h:Heap) (H:Hp):Heap:=PySem.W.hideAll h (trk h H)
theorem hidT_size (h:Heap) (H:Hp):(hidT h H).objs.size=h.objs.size:=PySem.W.hideAll_size _ _
theorem hidT_get {h:Heap} {H:Hp} {b:Addr} {o:Obj} (e:h.get? b=some o) (n:H b=none):(hidT h H).get? b=some o :=
  PySem.W.hideAll_get _ e fun hm=>by
    have q:(H b).isSome=true:=(List.mem_filter.mp hm).2
    rw [n] at q; simp at q
theorem of_hidT {h:Heap} {H:Hp} {b:Addr} {o:Obj} (e:(hidT h H).get? b=some o):h.get? b=some o∧H b=none:=by
  have e':h.get? b=some o:=PySem.W.of_hideAll (trk h H) e
  refine ⟨e',?_⟩
  cases q:H b with
  | none=>rfl
  | some x =>
    have hm:b∈trk h H:=List.mem_filter.mpr ⟨List.mem_range.mpr (Heap.lt_size e'),by simp [q]⟩
    have z:(hidT h H).get? b=none:=PySem.W.hideAll_none (trk h H) hm
    rw [z] at e; cases e
def allNews (g h:Heap) (L:Addr):List (Addr × Obj):=(List.range h.objs.size).filterMap fun a=>if a=L∨(g.get? a).isSome=true then none else (h.get? a).map fun o=>(a,o)
def rest (g h:Heap) (L d:Addr):List (Addr × Obj):=(allNews g h L).filter fun p=>decide (p.1≠d)
end L2
namespace L2
open PySem PySem.Spec PyProof.Rows
structure Mod (K:PySem.W.Frag) (mg:Str→Option Value) (base:Heap):Prop where
  kin:K.In base
  glob:base.Ns mainGlobals mg
  blt:∃ mb,base.Ns builtinsNs mb∧∀ x:Str,x≠"__name__"→mb x=bootBuiltins x
  nolimit:base.NoLimit
structure Cx where
  prog:Program
  w:World
  K:PySem.W.Frag
  mg:Str→Option Value
  base:Heap
  A:Around
  N:List Str
  s₀:Shared
  H₀:Hp
  env:Env
  outer:List Env
  stack:List Env
  ex:List Addr
  fn:Str→Bool
  calm:Bool
  pn:List (Addr × Obj)
  xe:Value→Shared→Prop
def frs (l:List Env):List Addr:=l.filterMap (·.frame)
abbrev Cx.fs (X:Cx):List Addr:=frs X.outer
def Vis (sc:Scope) (x:Str):Prop:=sc.names.lookup x=some .local∨sc.names.lookup x=some .cell∨sc.names.lookup x=some .free
def Loc (sc:Scope) (x:Str):Prop:=sc.names.lookup x=some .local∨sc.names.lookup x=some .cell
def Look (env:Env) (h:Heap) (m:Str→Option Value) (x:Str) (u:Value):Prop :=
  (env.kindOf x=some .local∧m x=some u)∨((env.kindOf x=some .cell∨env.kindOf x=some .free)∧∃ c,env.cells.lookup x=some c∧h.IsCell c (some u))
structure Cx.Ok (X:Cx):Prop where
  mod:Mod X.K X.mg X.base
  kind:X.env.scope.kind=.function
  glob:X.env.globals=mainGlobals
  blt:X.env.builtins=builtinsNs
  above:X.s₀.heap.objs.size≤X.env.locals
  inj:∀ x y c,X.env.cells.lookup x=some c→X.env.cells.lookup y=some c→x=y
  has:∀ x,(X.env.kindOf x=some .cell∨X.env.kindOf x=some .free)→∃ c,X.env.cells.lookup x=some c
  cab:∀ x c,X.fn x=true→X.env.cells.lookup x=some c→X.s₀.heap.objs.size≤c
  hd:X.calm=true→X.A.handled=none
  frames:X.A.frames=some X.stack
  stk:X.stack=X.outer∨(X.stack=X.env :: X.outer∧X.env.frame=some X.env.locals)
  exf:∀ b∈X.ex,b≠X.env.locals∧∀ x c,X.env.cells.lookup x=some c→c≠b
  bs:∀ b o,X.base.get? b=some o→X.s₀.heap.get? b=some o∧X.H₀ b=none
  bsz:X.base.objs.size≤X.s₀.heap.objs.size
  noex:∀ b o,X.base.get? b=some o→b ∉ X.ex
  exfs:∀ b∈X.ex,b ∉ X.fs
  funs:X.s₀.heap.FunFrames X.base X.outer
  frf:∀ b∈X.fs,X.H₀ b=none
structure Inv (X:Cx) (pins:List (Addr × Obj)) (σ:List (Option V)) (H:Hp) (s:Shared):Prop where
  ok:X.Ok
  os:s.os=X.s₀.os
  bare:AllBare s.gens
  base:Un X.fs X.ex X.H₀ H X.s₀.heap s.heap
  loc:∃ m,s.heap.Ns X.env.locals m∧∀ (i:Nat) (x:Str) (v:V),X.N[i]?=some x→σ[i]?=some (some v)→Vis X.env.scope x→∃ u,RelV v u∧Look X.env s.heap m x u
  cell:∀ x c,X.env.cells.lookup x=some c→∃ v,s.heap.IsCell c v
  free:H X.env.locals=none
  freeC:∀ x c,X.env.cells.lookup x=some c→H c=none
  pin:∀ p∈X.pn++pins,s.heap.get? p.1=some p.2∧H p.1=none∧p.1≠X.env.locals∧p.1 ∉ X.fs∧∀ v,p.2.data≠.cell v
  hok:HOk X.prog X.w H s.heap
  len:σ.length=X.N.length
section
variable {X:Cx} {pins:List (Addr × Obj)} {σ:List (Option V)} {H H':Hp} {s:Shared} {h':Heap}
theorem Cx.Ok.nofr (ok:X.Ok) {b:Addr} {o:Obj} (e:X.base.get? b=some o):b ∉ X.fs:=fun hb=>by
  have:=(ok.funs.mem hb).1
  rw [e] at this; cases this
theorem Inv.bs (I:Inv X pins σ H s):∀ b o,X.base.get? b=some o→s.heap.get? b=some o∧H b=none:=fun b o e =>
  ⟨I.base.keep b o (I.ok.bs b o e).1 (I.ok.bs b o e).2 (I.ok.nofr e) (I.ok.noex b o e),I.base.free b o (I.ok.bs b o e).1 (I.ok.bs b o e).2 (I.ok.noex b o e)⟩
theorem Inv.bk (I:Inv X pins σ H s):∀ b o,X.base.get? b=some o→s.heap.get? b=some o:=fun b o e=>(I.bs b o e).1
theorem Inv.mod (I:Inv X pins σ H s):Mod X.K X.mg X.base:=I.ok.mod
theorem Inv.kIn (I:Inv X pins σ H s):X.K.In s.heap:=I.ok.mod.kin.keeps I.bk
theorem Inv.lt (I:Inv X pins σ H s):X.env.locals < s.heap.objs.size:=let ⟨_,hn,_⟩:=I.loc; hn.lt
theorem Inv.sz (I:Inv X pins σ H s):X.s₀.heap.objs.size≤s.heap.objs.size:=Nat.le_trans I.ok.above (Nat.le_of_lt I.lt)
theorem Inv.nofs (I:Inv X pins σ H s) {a:Addr} (h:s.heap.objs.size≤a):a ∉ X.fs:=fun hb=>by
  obtain ⟨_,o,ho,_⟩:=I.ok.funs.mem hb
  exact absurd (Nat.lt_of_lt_of_le (Heap.lt_size ho) (Nat.le_trans I.sz h)) (Nat.lt_irrefl _)
theorem Inv.cne (I:Inv X pins σ H s):∀ x c,X.env.cells.lookup x=some c→c≠X.env.locals:=fun x c e z=>by
  obtain ⟨v,o,ho,hd⟩:=I.cell x c e
  obtain ⟨m,⟨o',es,ep,ho',hd',_⟩,_⟩:=I.loc
  rw [z,ho'] at ho; cases ho; rw [hd'] at hd; cases hd
theorem Inv.funs (I:Inv X pins σ H s):s.heap.FunFrames X.base X.outer:=by
  have all:∀ (l:List Env),(∀ b∈frs l,b∈X.fs)→X.s₀.heap.FunFrames X.base l→s.heap.FunFrames X.base l:=by
    intro l
    induction l with
    | nil=>intro _ _; trivial
    | cons env r ih =>
      intro hs hl
      obtain ⟨hk,⟨L,o,hf,hn,ho,hd⟩,hr⟩:=hl
      have hL:L∈X.fs:=hs L (by unfold frs; rw [List.filterMap_cons,hf]; exact List.mem_cons_self)
      obtain ⟨sl,e⟩:=I.base.slot L o ho (I.ok.frf L hL) hL fun z=>I.ok.exfs L z hL
      exact ⟨hk,⟨L,_,hf,hn,e,hd⟩,ih (fun b hb=>hs b (by unfold frs; rw [List.filterMap_cons,hf]; exact List.mem_cons_of_mem _ hb)) hr⟩
  exact all X.outer (fun _ hb=>hb) I.ok.funs
theorem Inv.stack (I:Inv X pins σ H s):s.heap.FunFrames X.base X.stack:=by
  rcases I.ok.stk with e | ⟨e,hf⟩
  · rw [e]; exact I.funs
  · rw [e]
    obtain ⟨m,hn,_⟩:=I.loc
    refine .cons (by rw [I.ok.kind]; decide) hf hn ?_ I.funs
    exact Heap.get?_none_of_le (Nat.le_trans I.ok.bsz I.ok.above)
theorem Inv.stkSub (I:Inv X pins σ H s):∀ b∈frs X.stack,b∈X.env.locals :: X.fs:=fun b hb=>by
  rcases I.ok.stk with e | ⟨e,hf⟩
  · rw [e] at hb; exact List.mem_cons_of_mem _ hb
  · rw [e] at hb
    unfold frs at hb
    rw [List.filterMap_cons,hf] at hb
    exact hb
theorem Inv.stkFree (I:Inv X pins σ H s):∀ b∈frs X.stack,H b=none:=fun b hb=>by
  rcases List.mem_cons.mp (I.stkSub b hb) with e | hb
  · rw [e]; exact I.free
  · obtain ⟨_,o,ho,_⟩:=I.ok.funs.mem hb
    exact I.base.free b o ho (I.ok.frf b hb) fun z=>I.ok.exfs b z hb
theorem Inv.step {g':Array GenState} {t':Nat} {d':Drawn} {ch:List Addr} (I:Inv X pins σ H s)
    (hch:∀ b∈ch,(b∈X.ex∨X.s₀.heap.objs.size≤b)∧b≠X.env.locals∧(∀ x c,X.env.cells.lookup x=some c→c≠b)∧∀ p∈X.pn++pins,p.1≠b)
    (keep:∀ b o,b≠X.env.locals→b ∉ X.fs→b ∉ ch→s.heap.get? b=some o→H b=none→h'.get? b=some o)
    (slot:∀ b o,b≠X.env.locals→b∈X.fs→b ∉ ch→s.heap.get? b=some o→H b=none→∃ sl,h'.get? b=some { o with slots:=sl }) (free:∀ b o,b ∉ ch→s.heap.get? b=some o→H b=none→H' b=none)
    (there:∀ b o,b ∉ ch→s.heap.get? b=some o→∃ o',h'.get? b=some o')
    (tups:∀ b xs,H b=some (.tup xs)→H' b=some (.tup xs)) (frzs:∀ b o u,H b=some (.frz o u)→H' b=some (.frz o u)) (tbls:∀ b ps,H b=some (.tbl ps)→∃ more,H' b=some (.tbl (ps++more)))
    (ns:∀ m,s.heap.Ns X.env.locals m→h'.Ns X.env.locals m) (hok:HOk X.prog X.w H' h') (hg:AllBare g') :
    Inv X pins σ H' { s with heap:=h',gens:=g',drawn:=d',toks:=t' }:=by
  have neL:∀ b o,X.s₀.heap.get? b=some o→b≠X.env.locals:=fun b o e=>Nat.ne_of_lt (Nat.lt_of_lt_of_le (Heap.lt_size e) I.ok.above)
  have neC:∀ b o,X.s₀.heap.get? b=some o→b ∉ X.ex→b ∉ ch:=fun b o e hx hb=>by
    rcases (hch b hb).1 with z | z
    · exact hx z
    · exact absurd (Nat.lt_of_lt_of_le (Heap.lt_size e) z) (Nat.lt_irrefl _)
  have cellK:∀ x c,X.env.cells.lookup x=some c→∀ v,s.heap.IsCell c v→h'.IsCell c v:=fun x c e v ⟨o,ho,hd⟩=>by
    have nch:c ∉ ch:=fun z=>(hch c z).2.2.1 x c e rfl
    by_cases hc:c∈X.fs
    · obtain ⟨sl,q⟩:=slot c o (I.cne x c e) hc nch ho (I.freeC x c e)
      exact ⟨_,q,hd⟩
    · exact ⟨o,keep c o (I.cne x c e) hc nch ho (I.freeC x c e),hd⟩
  refine ⟨I.ok,I.os,hg,⟨fun b o e n hb hx=>?_,fun b o e n hb hx=>?_,fun b o e n hx=>?_,fun b o e hx=>?_,fun b xs e=>tups b xs (I.base.tups b xs e),fun b o xs e=>frzs b o xs (I.base.frzs b o xs e),fun b ps e=>?_⟩,?_,fun x c e=>?_,?_,fun x c e=>?_,fun p hp=>?_,hok,I.len⟩
  · exact keep b o (neL b o e) hb (neC b o e hx) (I.base.keep b o e n hb hx) (I.base.free b o e n hx)
  · obtain ⟨sl,e1⟩:=I.base.slot b o e n hb hx
    obtain ⟨sl',e2⟩:=slot b _ (neL b o e) hb (neC b o e hx) e1 (I.base.free b o e n hx)
    exact ⟨sl',e2⟩
  · obtain ⟨o',e1⟩:=I.base.there b o e hx
    exact free b o' (neC b o e hx) e1 (I.base.free b o e n hx)
  · obtain ⟨o',e1⟩:=I.base.there b o e hx
    exact there b o' (neC b o e hx) e1
  · obtain ⟨m1,e1⟩:=I.base.tbls b ps e
    obtain ⟨m2,e2⟩:=tbls b _ e1
    exact ⟨m1++m2,by rw [e2,Array.append_assoc]⟩
  · obtain ⟨m,hn,hl⟩:=I.loc
    refine ⟨m,ns m hn,fun i x v e1 e2 e3=>?_⟩
    obtain ⟨u,r,l⟩:=hl i x v e1 e2 e3
    refine ⟨u,r,?_⟩
    rcases l with l | ⟨k,c,e,z⟩
    · exact .inl l
    · exact .inr ⟨k,c,e,cellK x c e _ z⟩
  · obtain ⟨v,z⟩:=I.cell x c e
    exact ⟨v,cellK x c e v z⟩
  · obtain ⟨m,⟨o,_,_,ho,_⟩,_⟩:=I.loc
    exact free _ o (fun z=>(hch _ z).2.1 rfl) ho I.free
  · obtain ⟨v,o,ho,hd⟩:=I.cell x c e
    exact free c o (fun z=>(hch c z).2.2.1 x c e rfl) ho (I.freeC x c e)
  · obtain ⟨e,n,ne,nf,d⟩:=I.pin p hp
    have nch:p.1 ∉ ch:=fun z=>(hch p.1 z).2.2.2 p hp rfl
    exact ⟨keep p.1 p.2 ne nf nch e n,free p.1 p.2 nch e n,ne,nf,d⟩
theorem Inv.un {t':Nat} (I:Inv X pins σ H s) (u:Un X.fs [] H H' s.heap h') (hok:HOk X.prog X.w H' h'):Inv X pins σ H' { s with heap:=h',toks:=t' }:=by
  obtain ⟨m,⟨o,es,ep,ho,r⟩,_⟩:=id I.loc
  obtain ⟨sl,hL⟩:=u.any ho I.free (by simp)
  exact I.step (g':=s.gens) (d':=s.drawn) (ch:=[]) (fun _ z=>nomatch z) (fun b o _ hb _ e n=>u.keep b o e n hb (by simp)) (fun b o _ hb _ e n=>u.slot b o e n hb (by simp)) (fun b o _ e n=>u.free b o e n (by simp)) (fun b o _ e=>u.there b o e (by simp)) u.tups u.frzs u.tbls (fun m' hm=>by
    obtain ⟨o',es',ep',ho',r'⟩:=hm
    rw [ho] at ho'; cases ho'
    exact ⟨_,es',ep',hL,r'⟩) hok I.bare
theorem Inv.call {g':Array GenState} {t':Nat} {d':Drawn} {ch:List Addr} (I:Inv X pins σ H s) (u:Un (frs X.stack) ch H H' s.heap h') (hok:HOk X.prog X.w H' h') (hg:AllBare g')
    (hch:∀ b∈ch,(b∈X.ex∨X.s₀.heap.objs.size≤b)∧b≠X.env.locals∧(∀ x c,X.env.cells.lookup x=some c→c≠b)∧∀ p∈X.pn++pins,p.1≠b) :
    Inv X pins σ H' { s with heap:=h',gens:=g',drawn:=d',toks:=t' }:=by
  obtain ⟨m,⟨o,es,ep,ho,r⟩,_⟩:=id I.loc
  obtain ⟨sl,hL⟩:=u.any ho I.free fun z=>(hch _ z).2.1 rfl
  exact I.step (ch:=ch) hch (fun b o hL hb hc e n=>u.keep b o e n (fun z=>(List.mem_cons.mp (I.stkSub b z)).elim hL hb) hc) (fun b o _ _ hc e n=>u.any e n hc) (fun b o hc e n=>u.free b o e n hc) (fun b o hc e=>u.there b o e hc) u.tups u.frzs u.tbls (fun m' hm=>by
    obtain ⟨o',es',ep',ho',r'⟩:=hm
    rw [ho] at ho'; cases ho'
    exact ⟨_,es',ep',hL,r'⟩) hok hg
theorem Inv.turned {t':Nat} {it:Addr} (I:Inv X pins σ H s) (k:∀ b o,b≠it→s.heap.get? b=some o→h'.get? b=some o) (hn:H it=none) (hL:it≠X.env.locals)
    (h1:it∈X.ex∨X.s₀.heap.objs.size≤it) (h2:∀ x c,X.env.cells.lookup x=some c→c≠it) (h3:∀ p∈X.pn++pins,p.1≠it):Inv X pins σ H { s with heap:=h',toks:=t' }:=by
  have nit:∀ b u,H b=some u→b≠it:=fun b u e z=>by rw [z,hn] at e; cases e
  refine I.step (g':=s.gens) (d':=s.drawn) (ch:=[it]) (fun b hb=>?_) (fun b o _ _ hc e _=>k b o (fun z=>hc (by simp [z])) e) (fun b o _ _ hc e _=>⟨o.slots,k b o (fun z=>hc (by simp [z])) e⟩) (fun _ _ _ _ n=>n)
    (fun b o hc e=>⟨o,k b o (fun z=>hc (by simp [z])) e⟩) (fun _ _ e=>e) (fun _ _ _ e=>e) (fun b ps e=>⟨#[],by rw [e]; simp⟩) (fun m hm=>?_) (fun b u e=>?_) I.bare
  · have e:b=it:=by simpa using hb
    subst e
    exact ⟨h1,hL,h2,h3⟩
  · obtain ⟨o,es,ep,ho,r⟩:=hm
    exact ⟨o,es,ep,k _ o (Ne.symm hL) ho,r⟩
  · refine (I.hok b u e).stay (fun c v hc q=>k c v ?_ q) (fun _ q=>q) fun _ _ q=>q
    rcases hc with z | z
    · rw [z]; exact nit b u e
    · exact nit c _ z
theorem Inv.tok (I:Inv X pins σ H s) (t:Nat):Inv X pins σ H { s with toks:=t }:=I.un (h':=s.heap) (t':=t) Un.refl I.hok
theorem Inv.kept {t':Nat} (I:Inv X pins σ H s) (k:∀ b u,s.heap.get? b=some u→h'.get? b=some u):Inv X pins σ H { s with heap:=h',toks:=t' }:=I.un (Un.kept k) (I.hok.kept k)
theorem Inv.laid {a:Addr} {o:HO} {t':Nat} (I:Inv X pins σ H s) (k:∀ b u,s.heap.get? b=some u→h'.get? b=some u) (hp:s.heap.objs.size≤a) (new:ObjOk X.prog X.w (upd H a o) h' a o) :
    Inv X pins σ (upd H a o) { s with heap:=h',toks:=t' }:=I.un (Un.laid k hp (I.hok.fresh hp)) (I.hok.laid k hp new)
theorem Inv.write {x e:Addr} {o:HO} {t':Nat} (I:Inv X pins σ H s) (mu:Mut (H x)) (he:e=x∨H e=some (.own x)) (k:∀ b u,b≠e→s.heap.get? b=some u→h'.get? b=some u) (heo:∃ u,h'.get? e=some u)
    (new:ObjOk X.prog X.w (upd H x o) h' x o):Inv X pins σ (upd H x o) { s with heap:=h',toks:=t' }:=I.un (Un.write mu he k heo) (I.hok.write mu he k heo new)
theorem Inv.pins_of {pins':List (Addr × Obj)} (I:Inv X pins σ H s) (h:∀ p∈pins',s.heap.get? p.1=some p.2∧H p.1=none∧p.1≠X.env.locals∧p.1 ∉ X.fs∧∀ v,p.2.data≠.cell v):Inv X pins' σ H s :=
  ⟨I.ok,I.os,I.bare,I.base,I.loc,I.cell,I.free,I.freeC,fun p hp=>(List.mem_append.mp hp).elim (fun z=>I.pin p (List.mem_append_left _ z)) (h p),I.hok,I.len⟩
theorem nodup_ix {N:List Str} (hN:N.Nodup) {i j:Nat} {x:Str} (a:N[i]?=some x) (b:N[j]?=some x):i=j:=by
  obtain ⟨h1,e1⟩:=List.getElem?_eq_some_iff.mp a
  obtain ⟨h2,e2⟩:=List.getElem?_eq_some_iff.mp b
  exact (List.getElem_inj hN).mp (e1.trans e2.symm)
theorem store_ok2 {M:Model} {A:Around} {E:Value→Shared→Prop} {i:Nat} {x:Str} {v:V} {u:Value} {Q:Unit→Shared→Prop} (I:Inv X pins σ H s) (hN:X.N.Nodup) (hi:X.N[i]?=some x) (hx:Loc X.env.scope x) (r:RelV v u)
    (h:∀ s',Inv X pins (σ.set i (some v)) H s'→(∃ a,Heap.SameBut a s.heap s'.heap∧(a=X.env.locals∨X.env.cells.lookup x=some a))→Q () s') (hf:X.fn x=true∨X.env.scope.names.lookup x=some .local:=by first | exact .inl rfl | exact .inr rfl | assumption):wpAny M A (storeName X.env x u) Q E s:=by
  obtain ⟨m,hn,hl⟩:=id I.loc
  have hcls:(X.env.scope.kind == .class || (X.env.scope.kind == .module && X.env.locals != X.env.globals))=false:=by rw [I.ok.kind]; rfl
  have hiσ:i < σ.length:=by rw [I.len]; exact (List.getElem?_eq_some_iff.mp hi).1
  have cne:=I.cne
  have tracked:∀ {a:Addr} {h':Heap},(∃ o,s.heap.get? a=some o∧H a=none)→Heap.SameBut a s.heap h'→HOk X.prog X.w H h':=fun {a h'} ha hs b ob e=>by
    obtain ⟨_,_,hfree⟩:=ha
    refine (I.hok b ob e).stay (fun c w' hc q=>(hs.2 c ?_).trans q) (fun _ q=>q) fun _ _ q=>q
    rintro rfl
    rcases hc with rfl | hc
    · rw [hfree] at e; cases e
    · rw [hfree] at hc; cases hc
  rcases hx with hk | hk
  · refine wpAny_storeName_local hk hn (fun h' hn' hs=>?_) hcls
    obtain ⟨oL,_,_,hoL,_⟩:=id hn
    refine h _ ⟨I.ok,I.os,I.bare,⟨fun b o e n hb hx=>?_,fun b o e n hb hx=>?_,I.base.free,fun b o e hx=>?_,I.base.tups,I.base.frzs,I.base.tbls⟩,⟨_,hn',fun j y v' e1 e2 e3=>?_⟩,fun y c e=>?_,I.free,I.freeC,fun p hp=>?_,tracked ⟨oL,hoL,I.free⟩ hs,by simpa using I.len⟩ ⟨_,hs,.inl rfl⟩
    · exact (hs.2 b (Nat.ne_of_lt (Nat.lt_of_lt_of_le (Heap.lt_size e) I.ok.above))).trans (I.base.keep b o e n hb hx)
    · obtain ⟨sl,e1⟩:=I.base.slot b o e n hb hx
      exact ⟨sl,(hs.2 b (Nat.ne_of_lt (Nat.lt_of_lt_of_le (Heap.lt_size e) I.ok.above))).trans e1⟩
    · obtain ⟨o',e1⟩:=I.base.there b o e hx
      exact ⟨o',(hs.2 b (Nat.ne_of_lt (Nat.lt_of_lt_of_le (Heap.lt_size e) I.ok.above))).trans e1⟩
    · by_cases hj:j=i
      · subst hj
        rw [hi] at e1; cases e1
        rw [List.getElem?_set_self hiσ] at e2
        cases e2
        exact ⟨u,r,.inl ⟨hk,by simp⟩⟩
      · rw [List.getElem?_set_ne (Ne.symm hj)] at e2
        obtain ⟨u',r',q⟩:=hl j y v' e1 e2 e3
        refine ⟨u',r',?_⟩
        rcases q with ⟨k,e⟩ | ⟨k,c,e,z⟩
        · refine .inl ⟨k,?_⟩
          have:y≠x:=fun e=>hj (nodup_ix hN e1 (e ▸ hi))
          simp [this,e]
        · exact .inr ⟨k,c,e,z.sameBut hs (cne y c e)⟩
    · obtain ⟨w',z⟩:=I.cell y c e
      exact ⟨w',z.sameBut hs (cne y c e)⟩
    · obtain ⟨e,n,ne,nf,d⟩:=I.pin p hp
      exact ⟨(hs.2 p.1 ne).trans e,n,ne,nf,d⟩
  · have hfn:X.fn x=true:=by
      rcases hf with z | z
      · exact z
      · rw [z] at hk; cases hk
    obtain ⟨c,hc⟩:=I.ok.has x (.inl hk)
    obtain ⟨w',z⟩:=I.cell x c hc
    refine wpAny_storeName_cell I.ok.kind hk hc z (fun h' hc' hs=>?_)
    obtain ⟨oc,hoc,hocd⟩:=id z
    refine h { s with heap:=h' } ⟨I.ok,I.os,I.bare,⟨fun b o e n hb hx=>?_,fun b o e n hb hx=>?_,I.base.free,fun b o e hx=>?_,I.base.tups,I.base.frzs,I.base.tbls⟩,⟨m,hn.sameBut hs (Ne.symm (cne x c hc)),fun j y v' e1 e2 e3=>?_⟩,fun y c' e=>?_,I.free,I.freeC,fun p hp=>?_,tracked ⟨oc,hoc,I.freeC x c hc⟩ hs,by simpa using I.len⟩ ⟨c,hs,.inr hc⟩
    · exact (hs.2 b (Nat.ne_of_lt (Nat.lt_of_lt_of_le (Heap.lt_size e) (I.ok.cab x c hfn hc)))).trans (I.base.keep b o e n hb hx)
    · obtain ⟨sl,e1⟩:=I.base.slot b o e n hb hx
      exact ⟨sl,(hs.2 b (Nat.ne_of_lt (Nat.lt_of_lt_of_le (Heap.lt_size e) (I.ok.cab x c hfn hc)))).trans e1⟩
    · obtain ⟨o',e1⟩:=I.base.there b o e hx
      exact ⟨o',(hs.2 b (Nat.ne_of_lt (Nat.lt_of_lt_of_le (Heap.lt_size e) (I.ok.cab x c hfn hc)))).trans e1⟩
    · by_cases hj:j=i
      · subst hj
        rw [hi] at e1; cases e1
        rw [List.getElem?_set_self hiσ] at e2
        cases e2
        exact ⟨u,r,.inr ⟨.inl hk,c,hc,hc'⟩⟩
      · rw [List.getElem?_set_ne (Ne.symm hj)] at e2
        obtain ⟨u',r',q⟩:=hl j y v' e1 e2 e3
        refine ⟨u',r',?_⟩
        rcases q with q | ⟨k,c',e,z'⟩
        · exact .inl q
        · refine .inr ⟨k,c',e,z'.sameBut hs ?_⟩
          rintro rfl
          exact hj (nodup_ix hN e1 (I.ok.inj _ _ _ e hc ▸ hi))
    · by_cases hcc:c'=c
      · subst hcc; exact ⟨_,hc'⟩
      · obtain ⟨w2,z2⟩:=I.cell y c' e
        exact ⟨w2,z2.sameBut hs hcc⟩
    · obtain ⟨e,n,ne,nf,d⟩:=I.pin p hp
      refine ⟨(hs.2 p.1 ?_).trans e,n,ne,nf,d⟩
      intro q
      rw [q,hoc] at e
      have q':oc=p.2:=Option.some.inj e
      exact d w' (by rw [← q']; exact hocd)
theorem store_ok {M:Model} {A:Around} {E:Value→Shared→Prop} {i:Nat} {x:Str} {v:V} {u:Value} {Q:Unit→Shared→Prop} (I:Inv X pins σ H s) (hN:X.N.Nodup) (hi:X.N[i]?=some x) (hx:Loc X.env.scope x) (r:RelV v u)
    (h:∀ s',Inv X pins (σ.set i (some v)) H s'→Q () s') (hf:X.fn x=true∨X.env.scope.names.lookup x=some .local:=by first | exact .inl rfl | exact .inr rfl | assumption):wpAny M A (storeName X.env x u) Q E s :=
  store_ok2 I hN hi hx r (fun s' I' _=>h s' I') hf
theorem Inv.call' {s':Shared} {ch:List Addr} (I:Inv X pins σ H s) (ho:s'.os=s.os) (u:Un (frs X.stack) ch H H' s.heap s'.heap) (hok:HOk X.prog X.w H' s'.heap) (hg:AllBare s'.gens)
    (hch:∀ b∈ch,(b∈X.ex∨X.s₀.heap.objs.size≤b)∧b≠X.env.locals∧(∀ x c,X.env.cells.lookup x=some c→c≠b)∧∀ p∈X.pn++pins,p.1≠b):Inv X pins σ H' s':=by
  obtain ⟨h',g',d',t',o'⟩:=s'
  have e:o'=s.os:=ho
  subst e
  exact I.call (g':=g') (t':=t') (d':=d') u hok hg hch
end
abbrev XK:=Value→Option Addr→Hp→Prop
abbrev St:=List (Option V)
abbrev VK:=V→Hp→Prop
abbrev TE:=St→Hp→VK→Prop
abbrev TT:=St→Hp→(Bool→Hp→Prop)→Prop
abbrev TA:=St→Hp→(List V→Hp→Prop)→Prop
structure Ends where
  nx:St→Hp→Prop
  rt:VK
  bk:St→Hp→Prop:=fun _ _=>False
  ct:St→Hp→Prop:=fun _ _=>False
abbrev TS:=Ends→St→Hp→Prop
def EP (X:Cx) (pins:List (Addr × Obj)) (σ:St) (Q:VK) (u:Value) (s':Shared):Prop:=∃ v H',Inv X pins σ H' s'∧RelV v u∧Q v H'
def TP (X:Cx) (pins:List (Addr × Obj)) (σ:St) (Q:Bool→Hp→Prop) (b:Bool) (s':Shared):Prop:=∃ H',Inv X pins σ H' s'∧Q b H'
def AP (X:Cx) (pins:List (Addr × Obj)) (σ:St) (Q:List V→Hp→Prop) (us:List Value) (s':Shared):Prop:=∃ vs H',Inv X pins σ H' s'∧Vals vs us∧Q vs H'
def SP (X:Cx) (pins:List (Addr × Obj)) (D:Ends) (f:Flow) (s':Shared):Prop :=
  match f with
  | .next=>∃ σ' H',Inv X pins σ' H' s'∧D.nx σ' H'
  | .brk=>∃ σ' H',Inv X pins σ' H' s'∧D.bk σ' H'
  | .cont=>∃ σ' H',Inv X pins σ' H' s'∧D.ct σ' H'
  | .ret u=>∃ v σ' H',Inv X pins σ' H' s'∧RelV v u∧D.rt v H'
def PE (X:Cx) (e:Expr) (t:TE):Prop :=
  ∀ (pins:List (Addr × Obj)) (s:Shared) (σ:St) (H:Hp) (Q:VK),Inv X pins σ H s→t σ H Q→wpAny (model X.prog X.w) X.A (eval e X.env) (EP X pins σ Q) X.xe s
def PT (X:Cx) (e:Expr) (t:TT):Prop :=
  ∀ (pins:List (Addr × Obj)) (s:Shared) (σ:St) (H:Hp) (Q:Bool→Hp→Prop),Inv X pins σ H s→t σ H Q→wpAny (model X.prog X.w) X.A (isTrue e X.env (eval e X.env)) (TP X pins σ Q) X.xe s
def PW (X:Cx) (e:Expr) (t:TT):Prop :=
  ∀ (whole:Sem Value) (pins:List (Addr × Obj)) (s:Shared) (σ:St) (H:Hp) (Q:Bool→Hp→Prop),Inv X pins σ H s→t σ H Q→wpAny (model X.prog X.w) X.A (isTrue e X.env whole) (TP X pins σ Q) X.xe s
theorem PW.pt {X:Cx} {e:Expr} {t:TT} (h:PW X e t):PT X e t:=h _
def PA (X:Cx) (es:List Expr) (t:TA):Prop :=
  ∀ (pos:Pos) (pins:List (Addr × Obj)) (s:Shared) (σ:St) (H:Hp) (Q:List V→Hp→Prop),Inv X pins σ H s→t σ H Q→wpAny (model X.prog X.w) X.A (spliced (backTo pos (starEach es X.env))) (AP X pins σ Q) X.xe s
def PS (X:Cx) (st:Stmt) (t:TS):Prop :=
  ∀ (pins:List (Addr × Obj)) (s:Shared) (σ:St) (H:Hp) (D:Ends),Inv X pins σ H s→t D σ H→wpAny (model X.prog X.w) X.A (exec st X.env) (SP X pins D) X.xe s
def PSs (X:Cx) (st:List Stmt) (t:TS):Prop :=
  ∀ (pins:List (Addr × Obj)) (s:Shared) (σ:St) (H:Hp) (D:Ends),Inv X pins σ H s→t D σ H→wpAny (model X.prog X.w) X.A (execs st X.env) (SP X pins D) X.xe s
theorem thn {α:Type} {t:Sem α} {Q Q':α→Shared→Prop} {M:Model} {A:Around} {E:Value→Shared→Prop} {s:Shared} (h:wpAny M A t Q E s) (hQ:∀ a s,Q a s→Q' a s):wpAny M A t Q' E s:=wpAny_mono h hQ fun _ _ x=>x
end L2
namespace L2
open PySem PySem.Spec PyProof.Rows
section
variable {X:Cx}
def tVar (i:Nat):TE:=fun σ H Q=>∃ v,σ[i]?=some (some v)∧Q v H
def tC (v:V):TE:=fun _ H Q=>Q v H
theorem pe_var {i:Nat} {x:Str} {pos:Pos} (hN:X.N[i]?=some x) (hv:Vis X.env.scope x) (hd:(x == ("__debug__":Str))=false:=by decide) (hcd:(x == ("__classdict__":Str))=false:=by decide):PE X (.Name x pos) (tVar i):=by
  intro pins s σ H Q I h
  obtain ⟨v,e,h⟩:=h
  obtain ⟨m,hn,hl⟩:=I.loc
  obtain ⟨u,r,l⟩:=hl i x v hN e hv
  have fin:EP X pins σ Q u s:=⟨v,H,I,r,h⟩
  rcases l with ⟨hk,hm⟩ | ⟨hk,c,hc,hcell⟩
  · exact wpAny_Name (wpAny_loadName_local I.ok.kind hk hn hm fin) hd
  · rcases hk with hk | hk
    · exact wpAny_Name (wpAny_loadName_cell I.ok.kind hk hc hcell fin) hd
    · exact wpAny_Name (wpAny_loadName_free I.ok.kind hk hc hcell fin hcd) hd
theorem pe_int {i j pos}:PE X (.Constant (.int i) j pos) (tC (.int i)):=fun _ _ _ H _ I h=>wpAny_Constant_int ⟨.int i,H,I.tok _,⟨_,rfl⟩,h⟩
theorem pe_bl {b j pos}:PE X (.Constant (.bool b) j pos) (tC (.bl b)):=fun _ _ _ H _ I h=>Constant_bool ⟨.bl b,H,I,rfl,h⟩
theorem pe_non {j pos}:PE X (.Constant .none j pos) (tC .non):=fun _ _ _ H _ I h=>Constant_none ⟨.non,H,I,rfl,h⟩
theorem pe_str {x j pos}:PE X (.Constant (.str x) j pos) (tC (.str x)):=fun _ _ _ H _ I h=>Calls.Constant_str ⟨.str x,H,I.tok _,⟨_,rfl⟩,h⟩
def Gl (X:Cx) (x:Str):Prop:=X.env.kindOf x=some .globalImplicit
theorem ld_glob {E:Value→Shared→Prop} {pins:List (Addr × Obj)} {s:Shared} {σ:St} {H:Hp} {x:Str} {u:Value} {pos:Pos} {Q:Value→Shared→Prop} (I:Inv X pins σ H s) (hg:Gl X x) (hm:X.mg x=some u) (h:Q u s)
    (hd:(x == ("__debug__":Str))=false:=by decide):wpAny (model X.prog X.w) X.A (eval (.Name x pos) X.env) Q E s :=
  Calls.Name_function_global I.ok.kind hg (Calls.loadGlobal_global (by rw [I.ok.glob]; exact I.mod.glob.keeps I.bk) hm h) hd
theorem ld_blt {E:Value→Shared→Prop} {pins:List (Addr × Obj)} {s:Shared} {σ:St} {H:Hp} {x:Str} {u:Value} {pos:Pos} {Q:Value→Shared→Prop} (I:Inv X pins σ H s) (hg:Gl X x) (hm:X.mg x=none) (hv:bootBuiltins x=some u) (h:Q u s)
    (hn:x≠"__name__":=by decide) (hd:(x == ("__debug__":Str))=false:=by decide):wpAny (model X.prog X.w) X.A (eval (.Name x pos) X.env) Q E s:=by
  obtain ⟨mb,h1,h2⟩:=I.mod.blt
  exact Calls.Name_function_global I.ok.kind hg (Calls.loadGlobal_builtin (by rw [I.ok.glob]; exact I.mod.glob.keeps I.bk) hm (by rw [I.ok.blt]; exact h1.keeps I.bk) ((h2 x hn).trans hv) h) hd
theorem pe_glob {x:Str} {v:V} {u:Value} {pos:Pos} (hg:Gl X x) (hm:X.mg x=some u) (r:RelV v u) (hd:(x == ("__debug__":Str))=false:=by decide):PE X (.Name x pos) (tC v) :=
  fun _ _ _ H _ I h=>ld_glob I hg hm ⟨v,H,I,r,h⟩ hd
theorem pe_bltn {x:Str} {v:V} {u:Value} {pos:Pos} (hg:Gl X x) (hm:X.mg x=none) (hv:bootBuiltins x=some u) (r:RelV v u) (hn:x≠"__name__":=by decide) (hd:(x == ("__debug__":Str))=false:=by decide):PE X (.Name x pos) (tC v) :=
  fun _ _ _ H _ I h=>ld_blt I hg hm hv ⟨v,H,I,r,h⟩ hn hd
variable {a b:Expr} {ta tb:TE} {pos:Pos}
def PC (X:Cx) (op:CmpOp) (a b:Expr) (t:TE):Prop :=
  ∀ (pins:List (Addr × Obj)) (s:Shared) (σ:St) (H:Hp) (Q:VK),Inv X pins σ H s→t σ H Q →
    wpAny (model X.prog X.w) X.A (eval a X.env) (fun v s₁=>wpAny (model X.prog X.w) X.A (eval b X.env) (fun u s₂=>wpAny (model X.prog X.w) X.A (compareOp op v u) (EP X pins σ Q) X.xe s₂) X.xe s₁) X.xe s
theorem nobehind (b:Expr) {op:CmpOp} (h:op≠.In) (h2:op≠.NotIn):behindInMarks op b=false:=by
  have e1:(op == CmpOp.In)=false:=by cases op <;> first | rfl | exact absurd rfl h
  have e2:(op == CmpOp.NotIn)=false:=by cases op <;> first | rfl | exact absurd rfl h2
  cases b <;> simp [behindInMarks,e1,e2]
def tB (t:TE):TT:=fun σ H Q=>t σ H fun x H1=>∃ c,x=.bl c∧Q c H1
theorem pe_cmp {op:CmpOp} {t:TE} (h:PC X op a b t) (h1:behindInMarks op b=false:=by first | exact nobehind _ (by decide) (by decide) | rfl):PE X (.Compare a [op] [b] pos) t:=fun pins s σ H Q I hw=>wpAny_Compare1 (h pins s σ H Q I hw) h1
theorem pt_cmp {op:CmpOp} {t:TE} (h:PC X op a b t) (h1:behindInMarks op b=false:=by first | exact nobehind _ (by decide) (by decide) | rfl):PT X (.Compare a [op] [b] pos) (tB t):=by
  intro pins s σ H Q I hw
  refine wpAny_isTrue_Compare1 (thn (h pins s σ H _ I hw) fun v s1 h1=>thn h1 fun u s2 h2=>thn h2 fun c s3 ⟨x,H1,I1,r1,q1⟩=>?_) h1
  obtain ⟨d,rfl,q⟩:=q1
  cases r1
  exact wpAny_truthy_bool ⟨H1,I1,q⟩
theorem pt_val {e:Expr} {t:TE} (h:PE X e t) (he:∀ whole,isTrue e X.env whole=(do let v ← whole; standAt e.pos; holding [v] (truthy v)):=by intro _; rfl):PT X e (tB t):=by
  intro pins s σ H Q I hw
  refine isTrue_plain (thn (h pins s σ H _ I hw) fun v s1 ⟨x,H1,I1,r1,q1⟩=>?_) (he _)
  obtain ⟨d,rfl,q⟩:=q1
  cases r1
  exact wpAny_truthy_bool ⟨H1,I1,q⟩
variable {tA tB':TT} {rest:List Expr}
def tAnd (t u:TT):TT:=fun σ H Q=>t σ H fun c H1=>if c=true then u σ H1 Q else Q false H1
def tOr (t u:TT):TT:=fun σ H Q=>t σ H fun c H1=>if c=true then Q true H1 else u σ H1 Q
def tNot (t:TT):TT:=fun σ H Q=>t σ H fun c H1=>Q (!c) H1
theorem pw_and1 (ha:PT X a tA):PW X (.BoolOp .And [a] pos) tA:=by
  intro wh pins s σ H Q I h
  refine isTrue_and (thn (ha pins s σ H Q I h) fun c s1 e=>?_)
  cases c with
  | true=>exact isTrue_and_nil e
  | false=>exact e
theorem pw_or1 (ha:PT X a tA):PW X (.BoolOp .Or [a] pos) tA:=by
  intro wh pins s σ H Q I h
  refine isTrue_or (thn (ha pins s σ H Q I h) fun c s1 e=>?_)
  cases c with
  | false=>exact isTrue_or_nil e
  | true=>exact e
theorem pw_and (ha:PT X a tA) (hb:PW X (.BoolOp .And (b :: rest) pos) tB'):PW X (.BoolOp .And (a :: b :: rest) pos) (tAnd tA tB'):=by
  intro wh pins s σ H Q I h
  refine isTrue_and (thn (ha pins s σ H _ I h) fun c s1 ⟨H1,I1,q1⟩=>?_)
  cases c with
  | true=>exact hb wh pins s1 σ H1 Q I1 q1
  | false=>exact ⟨H1,I1,q1⟩
theorem pw_or (ha:PT X a tA) (hb:PW X (.BoolOp .Or (b :: rest) pos) tB'):PW X (.BoolOp .Or (a :: b :: rest) pos) (tOr tA tB'):=by
  intro wh pins s σ H Q I h
  refine isTrue_or (thn (ha pins s σ H _ I h) fun c s1 ⟨H1,I1,q1⟩=>?_)
  cases c with
  | true=>exact ⟨H1,I1,q1⟩
  | false=>exact hb wh pins s1 σ H1 Q I1 q1
theorem pt_not (ha:PT X a tA):PT X (.UnaryOp .Not a pos) (tNot tA):=by
  intro pins s σ H Q I h
  exact isTrue_not (ha pins s σ H (fun c H1=>Q (!c) H1) I h)
def tAndV (ta tb:TE):TE:=fun σ H Q=>ta σ H fun x H1=>∃ c,x=.bl c∧if c=true then tb σ H1 Q else Q (.bl false) H1
def tOrV (ta tb:TE):TE:=fun σ H Q=>ta σ H fun x H1=>∃ c,x=.bl c∧if c=true then Q (.bl true) H1 else tb σ H1 Q
def tNotV (ta:TE):TE:=fun σ H Q=>ta σ H fun x H1=>∃ c,x=.bl c∧Q (.bl (!c)) H1
theorem pe_one {op} {t:TE} (h:PE X a t):PE X (.BoolOp op [a] pos) t:=fun pins s σ H Q I hw=>BoolOp_one (h pins s σ H Q I hw)
theorem pe_and (ha:PE X a ta) (hb:PE X (.BoolOp .And (b :: rest) pos) tb):PE X (.BoolOp .And (a :: b :: rest) pos) (tAndV ta tb):=by
  intro pins s σ H Q I h
  refine BoolOp_and (thn (ha pins s σ H _ I h) fun v s1 ⟨x,H1,I1,r1,q1⟩=>?_)
  obtain ⟨c,rfl,q1⟩:=q1
  cases r1
  refine wpAny_truthy_bool ?_
  cases c with
  | true=>exact hb pins s1 σ H1 Q I1 q1
  | false=>exact ⟨.bl false,H1,I1,rfl,q1⟩
theorem pe_or (ha:PE X a ta) (hb:PE X (.BoolOp .Or (b :: rest) pos) tb):PE X (.BoolOp .Or (a :: b :: rest) pos) (tOrV ta tb):=by
  intro pins s σ H Q I h
  refine BoolOp_or (thn (ha pins s σ H _ I h) fun v s1 ⟨x,H1,I1,r1,q1⟩=>?_)
  obtain ⟨c,rfl,q1⟩:=q1
  cases r1
  refine wpAny_truthy_bool ?_
  cases c with
  | false=>exact hb pins s1 σ H1 Q I1 q1
  | true=>exact ⟨.bl true,H1,I1,rfl,q1⟩
theorem pe_not (ha:PE X a ta):PE X (.UnaryOp .Not a pos) (tNotV ta):=by
  intro pins s σ H Q I h
  refine UnaryOp_ (thn (ha pins s σ H _ I h) fun v s1 ⟨x,H1,I1,r1,q1⟩=>?_)
  obtain ⟨c,rfl,q1⟩:=q1
  cases r1
  exact not_of (wpAny_truthy_bool ⟨.bl (!c),H1,I1,rfl,q1⟩)
end
end L2
namespace L2
open PySem PySem.Spec PyProof.Rows
def SqL (K:PySem.W.Frag) (H:Hp) (a:Addr) (xs:List V):Prop :=
  Rd H a (.lst xs) ∨
    ∃ (o:Obj) (its:Array Value) (n:Nat),K.lookup a=some o∧o.cls=.type "list"∧o.dict=none∧o.data=.seq its n∧its.size≤sizeLine∧Vals xs its.toList
def SqT (K:PySem.W.Frag) (H:Hp) (a:Addr) (xs:List V):Prop :=
  Rd H a (.tup xs) ∨
    ∃ (o:Obj) (its:Array Value) (n:Nat),K.lookup a=some o∧o.cls=.type "tuple"∧o.data=.seq its n∧its.size≤sizeLine∧Vals xs its.toList
def absV:Value→Option V
  | .none=>some .non
  | .bool b=>some (.bl b)
  | .int i _=>some (.int i)
  | .str x _=>some (.str x)
  | .bytes b _=>some (.byt b)
  | .float b _=>some (.flt b)
  | .ref a=>some (.ref a)
  | .type n=>some (.ty n)
  | _=>none
theorem RelV.abs {x:V} {u:Value} (r:RelV x u):absV u=some x:=by
  cases x with
  | non=>cases r; rfl
  | bl _=>cases r; rfl
  | int _=>obtain ⟨t,rfl⟩:=r; rfl
  | str _=>obtain ⟨t,rfl⟩:=r; rfl
  | byt _=>obtain ⟨t,rfl⟩:=r; rfl
  | flt _=>obtain ⟨t,rfl⟩:=r; rfl
  | ref _=>cases r; rfl
  | ty _=>cases r; rfl
theorem RelV.inj {x y:V} {u:Value} (r:RelV x u) (q:RelV y u):x=y:=Option.some.inj (r.abs.symm.trans q.abs)
theorem Vals.inj:∀ {xs ys:List V} {us:List Value},Vals xs us→Vals ys us→xs=ys
  | _,_,_,.nil,.nil=>rfl
  | _,_,_,.cons r t,.cons r' t'=>by rw [r.inj r',Vals.inj t t']
section
variable {X:Cx} {pins:List (Addr × Obj)} {σ:St} {H:Hp} {s:Shared} {a:Addr} {xs ys:List V}
theorem SqL.of {K:PySem.W.Frag} (h:H a=some (.lst xs)):SqL K H a xs:=.inl (.inl h)
theorem SqT.of {K:PySem.W.Frag} (h:H a=some (.tup xs)):SqT K H a xs:=.inl (.inl h)
theorem Inv.list (I:Inv X pins σ H s) (h:SqL X.K H a xs):∃ its:List Value,Vals xs its∧PlainL s.heap a its.toArray∧xs.length≤sizeLine:=by
  rcases h with h | ⟨o,its,n,hk,hc,hd,hs,hz,r⟩
  · obtain ⟨z,its,n,r,e⟩:=h.ok I.hok
    exact ⟨its,r,⟨_,n,e,rfl,rfl,rfl⟩,z⟩
  · refine ⟨its.toList,r,⟨o,n,I.kIn a o hk,hc,hd,by simpa using hs⟩,?_⟩
    have e:=r.length
    simp only [Array.length_toList] at e
    omega
theorem Inv.tuple (I:Inv X pins σ H s) (h:SqT X.K H a xs):∃ its:List Value,Vals xs its∧IsTup s.heap a its.toArray∧xs.length≤sizeLine:=by
  rcases h with h | ⟨o,its,n,hk,hc,hs,hz,r⟩
  · obtain ⟨z,its,r,p⟩:=h.ok I.hok
    exact ⟨its,r,p,z⟩
  · refine ⟨its.toList,r,⟨o,I.kIn a o hk,hc,n,by simpa using hs⟩,?_⟩
    have e:=r.length
    simp only [Array.length_toList] at e
    omega
theorem Inv.list_inj (I:Inv X pins σ H s) (h:SqL X.K H a xs) (h':SqL X.K H a ys):xs=ys:=by
  obtain ⟨its,r,⟨o,n,e,_,_,d⟩,_⟩:=I.list h
  obtain ⟨its',r',⟨o',n',e',_,_,d'⟩,_⟩:=I.list h'
  rw [e] at e'; cases e'
  rw [d] at d'
  injection d' with d1 _
  have:its=its':=by simpa using congrArg Array.toList d1
  subst this
  exact r.inj r'
theorem Inv.tuple_inj (I:Inv X pins σ H s) (h:SqT X.K H a xs) (h':SqT X.K H a ys):xs=ys:=by
  obtain ⟨its,r,⟨o,e,_,n,d⟩,_⟩:=I.tuple h
  obtain ⟨its',r',⟨o',e',_,n',d'⟩,_⟩:=I.tuple h'
  rw [e] at e'; cases e'
  rw [d] at d'
  injection d' with d1 _
  have:its=its':=by simpa using congrArg Array.toList d1
  subst this
  exact r.inj r'
end
abbrev Cx.wish (X:Cx) (E:Value→Shared→Prop):Cx:={ X with xe:=E }
abbrev Cx.nox (X:Cx):Cx:=X.wish fun _ _=>False
theorem Cx.Ok.wish {X:Cx} (ok:X.Ok) (E:Value→Shared→Prop):(X.wish E).Ok :=
  ⟨ok.mod,ok.kind,ok.glob,ok.blt,ok.above,ok.inj,ok.has,ok.cab,ok.hd,ok.frames,ok.stk,ok.exf,ok.bs,ok.bsz,ok.noex,ok.exfs,ok.funs,ok.frf⟩
theorem Cx.Ok.unwish {X:Cx} {E:Value→Shared→Prop} (ok:(X.wish E).Ok):X.Ok :=
  ⟨ok.mod,ok.kind,ok.glob,ok.blt,ok.above,ok.inj,ok.has,ok.cab,ok.hd,ok.frames,ok.stk,ok.exf,ok.bs,ok.bsz,ok.noex,ok.exfs,ok.funs,ok.frf⟩
section
variable {X:Cx} {pins:List (Addr × Obj)} {σ:St} {H:Hp} {s:Shared} {E:Value→Shared→Prop}
theorem Inv.wish (I:Inv X pins σ H s) (E:Value→Shared→Prop):Inv (X.wish E) pins σ H s:=⟨I.ok.wish E,I.os,I.bare,I.base,I.loc,I.cell,I.free,I.freeC,I.pin,I.hok,I.len⟩
theorem Inv.unwish (I:Inv (X.wish E) pins σ H s):Inv X pins σ H s:=⟨I.ok.unwish,I.os,I.bare,I.base,I.loc,I.cell,I.free,I.freeC,I.pin,I.hok,I.len⟩
theorem SP.unwish {D:Ends} {f:Flow} {s':Shared} (h:SP (X.wish E) pins D f s'):SP X pins D f s':=by
  cases f with
  | next=>obtain ⟨σ',H',I,q⟩:=h; exact ⟨σ',H',I.unwish,q⟩
  | brk=>obtain ⟨σ',H',I,q⟩:=h; exact ⟨σ',H',I.unwish,q⟩
  | cont=>obtain ⟨σ',H',I,q⟩:=h; exact ⟨σ',H',I.unwish,q⟩
  | ret u=>obtain ⟨v,σ',H',I,r,q⟩:=h; exact ⟨v,σ',H',I.unwish,r,q⟩
theorem PSs.nox {st:List Stmt} {t:TS} (h:PSs X.nox st t):PSs X st t:=fun pins s σ H D I hw =>
  wpAny_mono (h pins s σ H D (I.wish _) hw) (fun _ _ q=>q.unwish) fun _ _ z=>False.elim z
end
section
variable {X:Cx} {st:Stmt} {rest:List Stmt} {t u:TS} {e:Expr} {te:TE} {pos:Pos}
def tNext:TS:=fun D σ H=>D.nx σ H
def tSeq (t u:TS):TS:=fun D σ H=>t { D with nx:=u D } σ H
theorem pss_nil:PSs X [] tNext:=fun _ _ σ H _ I h=>wpAny_execs_nil ⟨σ,H,I,h⟩
theorem pss_cons (h1:PS X st t) (h2:PSs X rest u):PSs X (st :: rest) (tSeq t u):=by
  intro pins s σ H D I h
  refine wpAny_execs_cons (thn (h1 pins s σ H { D with nx:=u D } I h) fun f s1 q=>?_)
  cases f with
  | next =>
    obtain ⟨σ',H',I',q⟩:=q
    exact h2 pins s1 σ' H' D I' q
  | ret v=>exact q
  | brk=>exact q
  | cont=>exact q
theorem pss_one (h1:PS X st t):PSs X [st] t:=by
  intro pins s σ H D I h
  refine wpAny_execs_cons (thn (h1 pins s σ H D I h) fun f s1 q=>?_)
  cases f with
  | next=>exact wpAny_execs_nil q
  | ret v=>exact q
  | brk=>exact q
  | cont=>exact q
def tCont:TS:=fun D σ H=>D.ct σ H
theorem ps_continue:PS X (.Continue pos) tCont:=fun _ _ σ H _ I h=>wpAny_Continue ⟨σ,H,I,h⟩
theorem Inv.quiet {pins:List (Addr × Obj)} {σ:St} {H:Hp} {s:Shared} (I:Inv X pins σ H s):interactive X.env=false:=by simp [interactive,I.ok.kind]
def tDrop (te:TE):TS:=fun D σ H=>te σ H fun _ H1=>D.nx σ H1
theorem ps_expr (he:PE X e te) (hs:swapsWith e none pos.line X.env=pure false:=by rfl):PS X (.Expr e pos) (tDrop te):=by
  intro pins s σ H D I h
  exact wpAny_Expr_any (thn (he pins s σ H _ I h) fun v s1 ⟨x,H1,I1,r1,q1⟩=>⟨σ,H1,I1,q1⟩) I.quiet hs
def tRet (te:TE):TS:=fun D σ H=>te σ H D.rt
theorem ps_ret (he:PE X e te):PS X (.Return (some e) pos) (tRet te):=by
  intro pins s σ H D I h
  exact wpAny_Return_some (thn (he pins s σ H _ I h) fun v s1 ⟨x,H1,I1,r1,q1⟩=>⟨x,σ,H1,I1,r1,q1⟩)
def tIfS (c:TT) (t u:TS):TS:=fun D σ H=>c σ H fun b H1=>if b=true then t D σ H1 else u D σ H1
theorem ps_if {c:Expr} {a b:List Stmt} {tc:TT} (hc:PT X c tc) (ha:PSs X a t) (hb:PSs X b u):PS X (.If c a b pos) (tIfS tc t u):=by
  intro pins s σ H D I h
  refine wpAny_If (thn (hc pins s σ H _ I h) fun d s1 ⟨H1,I1,q1⟩=>?_)
  cases d with
  | true=>exact ha pins s1 σ H1 D I1 q1
  | false=>exact hb pins s1 σ H1 D I1 q1
def tNever:TS:=fun _ _ _=>False
theorem ps_never:PS X st tNever:=fun _ _ _ _ _ _ h=>h.elim
end
abbrev TG:=V→St→Hp→(St→Hp→Prop)→Prop
abbrev TGs:=List V→St→Hp→(St→Hp→Prop)→Prop
def PG (X:Cx) (target:Expr) (t:TG):Prop :=
  ∀ (pins:List (Addr × Obj)) (s:Shared) (σ:St) (H:Hp) (v:V) (u:Value) (Q:St→Hp→Prop),Inv X pins σ H s→RelV v u→t v σ H Q →
    wpAny (model X.prog X.w) X.A (assign target X.env u) (fun _ s'=>∃ σ' H',Inv X pins σ' H' s'∧Q σ' H') X.xe s
def PGs (X:Cx) (ts:List Expr) (t:TGs):Prop :=
  ∀ (pins:List (Addr × Obj)) (s:Shared) (σ:St) (H:Hp) (vs:List V) (us:List Value) (Q:St→Hp→Prop),Inv X pins σ H s→Vals vs us→t vs σ H Q →
    wpAny (model X.prog X.w) X.A (assignInOrder ((assignEach ts X.env).map (·.2)) us) (fun _ s'=>∃ σ' H',Inv X pins σ' H' s'∧Q σ' H') X.xe s
abbrev TSet:=V→V→V→Hp→(Hp→Prop)→Prop
def PSet (X:Cx) (t:TSet):Prop :=
  ∀ (pins:List (Addr × Obj)) (s:Shared) (σ:St) (H:Hp) (o i v:V) (ov iv u:Value) (Q:Hp→Prop),Inv X pins σ H s→RelV o ov→RelV i iv→RelV v u→t o i v H Q →
    wpAny (model X.prog X.w) X.A (setItem ov iv u) (fun _ s'=>∃ H',Inv X pins σ H' s'∧Q H') X.xe s
section
variable {X:Cx} {pos:Pos}
def gName (i:Nat):TG:=fun v σ H Q=>Q (σ.set i (some v)) H
theorem pg_name {i:Nat} {x:Str} (hN:X.N.Nodup) (hi:X.N[i]?=some x) (hx:Loc X.env.scope x) (hf:X.fn x=true∨X.env.scope.names.lookup x=some .local:=by first | exact .inl rfl | exact .inr rfl | assumption):PG X (.Name x pos) (gName i):=by
  intro pins s σ H v u Q I r h
  exact wpAny_assign_Name (store_ok I hN hi hx r (fun s' I'=>⟨_,H,I',h⟩) hf)
def gNil:TGs:=fun vs σ H Q=>vs=[]∧Q σ H
def gCons (t:TG) (u:TGs):TGs:=fun vs σ H Q=>∃ v r,vs=v :: r∧t v σ H fun σ' H'=>u r σ' H' Q
theorem pgs_nil:PGs X [] gNil:=by
  intro pins s σ H vs us Q I r h
  obtain ⟨e,h⟩:=h
  subst e
  cases r
  exact assignInOrder_nil ⟨σ,H,I,h⟩
theorem pgs_cons {e:Expr} {es:List Expr} {t:TG} {u:TGs} (h1:PG X e t) (h2:PGs X es u)
    (hs:(assignEach (e :: es) X.env).map (·.2)=assign e X.env :: (assignEach es X.env).map (·.2):=by rfl):PGs X (e :: es) (gCons t u):=by
  intro pins s σ H vs us Q I r h
  obtain ⟨v,vr,e1,h⟩:=h
  subst e1
  cases r with
  | cons r rr =>
    rw [hs]
    refine assignInOrder_cons (thn (h1 pins s σ H _ _ _ I r h) fun _ s1 ⟨σ1,H1,I1,q1⟩=>?_)
    exact h2 pins s1 σ1 H1 _ _ Q I1 rr q1
def gTup (K:PySem.W.Frag) (n:Nat) (t:TGs):TG:=fun v σ H Q=>∃ a xs,v=.ref a∧SqT K H a xs∧xs.length=n∧t xs σ H Q
theorem pg_tup {es:List Expr} {k:Nat} {t:TGs} {n:Nat} (hc:X.calm=true) (h:PGs X es t)
    (hn:(assignEach es X.env).length=n:=by rfl) (hst:(assignEach es X.env).findIdx? (·.1)=none:=by rfl):PG X (.Tuple es k pos) (gTup X.K n t):=by
  intro pins s σ H v u Q I r hw
  obtain ⟨a,xs,e1,hq,hl,hw⟩:=hw
  subst e1
  cases r
  obtain ⟨its,rv,ht,hz⟩:=I.tuple hq
  refine assign_Tuple_tuple (I.ok.hd hc) ht (by simp [hn,← hl,rv.length]) hst fun h' hx=>?_
  have I1:Inv X pins σ H { s with heap:=h' }:=I.kept (t':=s.toks) fun b o e=>hx b o (Nat.ne_of_lt (Heap.lt_size e)) e
  exact h pins _ σ H xs _ Q I1 (by simpa using rv) hw
def gSub (to ti:TE) (t:TSet):TG:=fun v σ H Q=>to σ H fun o H1=>ti σ H1 fun i H2=>t o i v H2 fun H3=>Q σ H3
theorem pg_sub {o i:Expr} {to ti:TE} {t:TSet} (ho:PE X o to) (hi:PE X i ti) (hs:PSet X t)
    (ha:∀ v,assign (.Subscript o i pos) X.env v=(do
      let ov ← holding [v] (eval o X.env)
      let iv ← holding [v,ov] (eval i X.env)
      standAt pos
      holding [v,ov,iv] (setItem ov iv v)
      release [v,ov,iv] []):=by intro _; rfl):PG X (.Subscript o i pos) (gSub to ti t):=by
  intro pins s σ H v u Q I r h
  rw [ha]
  refine wpAny_bind (wpAny_holding (thn (ho pins s σ H _ I h) fun ov s1 ⟨x,H1,I1,r1,q1⟩=>?_))
  refine wpAny_bind (wpAny_holding (thn (hi pins s1 σ H1 _ I1 q1) fun iv s2 ⟨y,H2,I2,r2,q2⟩=>?_))
  refine wpAny_bind (wpAny_standAt (wpAny_bind (wpAny_holding (thn (hs pins s2 σ H2 x y v ov iv u _ I2 r1 r2 r q2) fun _ s3 ⟨H3,I3,q3⟩=>?_))))
  exact wpAny_release ⟨σ,H3,I3,q3⟩
def tAsg (te:TE) (g:TG):TS:=fun D σ H=>te σ H fun x H1=>g x σ H1 D.nx
theorem ps_asg {tg e:Expr} {te:TE} {g:TG} (he:PE X e te) (hg:PG X tg g) (hs:swapsWithSole [tg] e pos.line X.env=pure false:=by rfl) (hw:swappedStores [tg] e X.env=pure none:=by rfl)
    (h1:(assignEach [tg] X.env).map (·.2)=[assign tg X.env]:=by rfl):PS X (.Assign [tg] e pos) (tAsg te g):=by
  intro pins s σ H D I h
  refine wpAny_Assign_stores (thn (he pins s σ H _ I h) fun v s1 ⟨x,H1,I1,r1,q1⟩=>?_) hs hw
  rw [h1]
  exact thn (hg pins s1 σ H1 x v _ I1 r1 q1) fun _ s2 q=>q
theorem ps_set {i:Nat} {x:Str} {e:Expr} {te:TE} {pos':Pos} (hN:X.N.Nodup) (hi:X.N[i]?=some x) (hx:Loc X.env.scope x) (he:PE X e te) (hs:swapsWith e (some (.Name x pos')) pos.line X.env=pure false:=by rfl) (hf:X.fn x=true∨X.env.scope.names.lookup x=some .local:=by first | exact .inl rfl | exact .inr rfl | assumption) :
    PS X (.Assign [.Name x pos'] e pos) (tAsg te (gName i)):=by
  intro pins s σ H D I h
  refine wpAny_Assign_Name (thn (he pins s σ H _ I h) fun v s1 ⟨y,H1,I1,r1,q1⟩=>?_) hs
  exact store_ok I1 hN hi hx r1 (fun s2 I2=>⟨_,H1,I2,q1⟩) hf
end
section
variable {X:Cx} {pos:Pos}
def tWhile (c:TT) (tb:TS):TS:=fun D σ H=>∃ W:Nat→St→Hp→Prop,(∃ m,W m σ H)∧∀ m σ H,W m σ H →
  c σ H fun b H1=>if b=true then ∃ N:St→Hp→Prop,(∀ σ' H',N σ' H'→∃ m',m' < m∧W m' σ' H')∧tb { D with nx:=N,ct:=N,bk:=D.nx } σ H1 else D.nx σ H1
theorem ps_while {c:Expr} {body:List Stmt} {tc:TT} {tb:TS} (hp:PassesOwn (model X.prog X.w) X.A X.env X.xe) (hc:PT X c tc) (hb:PSs X body tb):PS X (.While c body [] pos) (tWhile tc tb):=by
  intro pins s σ H D I h
  obtain ⟨W,⟨m0,w0⟩,turn⟩:=h
  refine wpAny_While (codeAny_whileLoop (fun n s'=>∃ σ' H',Inv X pins σ' H' s'∧W n σ' H') ?_ m0 ⟨σ,H,I,w0⟩)
  rintro n s1 ⟨σ1,H1,I1,w1⟩
  refine wpAny_passesOwn hp (thn (hc pins s1 σ1 H1 _ I1 (turn n σ1 H1 w1)) fun b s2 ⟨H2,I2,q2⟩=>?_)
  cases b with
  | true =>
    obtain ⟨N,hN,q2⟩:=q2
    rw [if_pos rfl]
    refine wpAny_passesOwn hp (thn (hb pins s2 σ1 H2 _ I2 q2) fun f s3 q3=>?_)
    cases f with
    | next =>
      obtain ⟨σ3,H3,I3,n3⟩:=q3
      obtain ⟨m',hm,w3⟩:=hN σ3 H3 n3
      exact ⟨m',hm,σ3,H3,I3,w3⟩
    | cont =>
      obtain ⟨σ3,H3,I3,n3⟩:=q3
      obtain ⟨m',hm,w3⟩:=hN σ3 H3 n3
      exact ⟨m',hm,σ3,H3,I3,w3⟩
    | brk=>exact q3
    | ret v=>exact q3
  | false =>
    rw [if_neg Bool.false_ne_true]
    exact wpAny_execs_nil ⟨σ1,H2,I2,q2⟩
end
structure It where
  go:Nat→Hp→Prop
  yld:Nat→Hp→V→Hp→Prop
  stop:Nat→Hp→Prop
def FpOk (X:Cx) (pins:List (Addr × Obj)) (H:Hp) (b:Addr):Prop :=
  H b=none∧b≠X.env.locals∧b ∉ X.fs∧(b∈X.ex∨X.s₀.heap.objs.size≤b)∧(∀ x c,X.env.cells.lookup x=some c→c≠b)∧∀ p∈X.pn++pins,p.1≠b
theorem Inv.fpOk {X:Cx} {pins:List (Addr × Obj)} {σ:St} {H H':Hp} {s:Shared} {b:Addr} (I:Inv X pins σ H s) (hb:s.heap.objs.size≤b) (hn:H' b=none):FpOk X pins H' b:=by
  refine ⟨hn,Nat.ne_of_gt (Nat.lt_of_lt_of_le I.lt hb),I.nofs hb,.inr (Nat.le_trans I.sz hb),fun x c e z=>?_,fun p hp z=>?_⟩
  · obtain ⟨v,q⟩:=I.cell x c e
    exact absurd (Nat.lt_of_lt_of_le q.lt (by rw [z]; exact hb)) (Nat.lt_irrefl _)
  · exact absurd (Nat.lt_of_lt_of_le (Heap.lt_size (I.pin p hp).1) (by rw [z]; exact hb)) (Nat.lt_irrefl _)
structure Turn (P:Program) (w:World) (K:PySem.W.Frag) (tg:Expr) (J:It) (fp:List Addr) (it:Addr) (tn:Nat→Heap→Prop):Prop where
  mem:it∈fp
  obj:∀ i h,tn i h→∀ b∈fp,∃ o,h.get? b=some o∧∀ v,o.data≠.cell v
  keep:∀ i h h',tn i h→(∀ b∈fp,∀ o,h.get? b=some o→h'.get? b=some o)→tn i h'
  item:∀ (X:Cx),X.prog=P→X.w=w→X.K=K→X.calm=true→∀ (i:Nat) (pins:List (Addr × Obj)) (s:Shared) (σ:St) (H:Hp) (E:Value→Shared→Prop),Inv X pins σ H s→(∀ b∈fp,FpOk X pins H b)→tn i s.heap→J.go i H →
    wpAny (model P w) X.A (pyNext (.ref it)) (fun r s1=>∃ u,r=some u ∧
      wpAny (model P w) X.A (letOwnedTupleGo tg (.ref it) u) (fun _ s2=>∃ x H',Inv X pins σ H' s2∧RelV x u∧J.yld i H x H'∧tn (i+1) s2.heap∧∀ b∈fp,H' b=none) E s1) E s
  done:∀ (X:Cx),X.prog=P→X.w=w→X.K=K→X.calm=true→∀ (i:Nat) (pins:List (Addr × Obj)) (s:Shared) (σ:St) (H:Hp) (E:Value→Shared→Prop),Inv X pins σ H s→(∀ b∈fp,FpOk X pins H b)→tn i s.heap→J.stop i H →
    wpAny (model P w) X.A (pyNext (.ref it)) (fun r s1=>r=none∧Inv X pins σ H s1) E s
  self:∀ (A:Around) (i:Nat) (s:Shared) (Q:Value→Shared→Prop) (E:Value→Shared→Prop),tn i s.heap→Q (.ref it) s→wpAny (model P w) A (pyIter (.ref it)) Q E s
abbrev TI:=St→Hp→(It→Hp→Prop)→Prop
def PIE (X:Cx) (pins:List (Addr × Obj)) (σ:St) (tg:Expr) (R:It→Hp→Prop) (itv:Value) (s2:Shared):Prop :=
  ∃ (it:Addr) (fp:List Addr) (tn:Nat→Heap→Prop) (J:It) (H':Hp),itv=.ref it∧Inv X pins σ H' s2∧Turn X.prog X.w X.K tg J fp it tn∧tn 0 s2.heap∧(∀ b∈fp,FpOk X pins H' b)∧R J H'
def PI (X:Cx) (tg iter:Expr) (wi:TI):Prop :=
  ∀ (pins:List (Addr × Obj)) (s:Shared) (σ:St) (H:Hp) (R:It→Hp→Prop),Inv X pins σ H s→wi σ H R →
    wpAny (model X.prog X.w) X.A (eval iter X.env) (fun v s1=>wpAny (model X.prog X.w) X.A (pyIter v) (PIE X pins σ tg R) X.xe s1) X.xe s
theorem go_of {M:Model} {A:Around} {E:Value→Shared→Prop} {s:Shared} {tg:Expr} {it:Addr} {u:Value} {o:Obj} {n:String} {vs:Array Value} {Q:Unit→Shared→Prop} (ho:s.heap.get? it=some o) (hc:o.cls=.type n) (hd:o.data=.fields vs)
    (hn:["enumerate","zip","dict_itemiterator","dict_reverseitemiterator","odict_iterator","itertools.zip_longest","itertools.pairwise"].contains n=false) (hQ:Q () s):wpAny M A (letOwnedTupleGo tg (.ref it) u) Q E s:=by
  unfold letOwnedTupleGo
  cases tg <;> first
    | exact wpAny_pure hQ
    | (cases u <;> first
        | exact wpAny_pure hQ
        | (refine wpAny_bind (wpAny_load ho ?_)
           rw [hc,hd]
           show wpAny M A (if (["enumerate","zip","dict_itemiterator","dict_reverseitemiterator","odict_iterator","itertools.zip_longest","itertools.pairwise"].contains n && vs[0]? == some (rawInt _))=true then _ else _) Q E s
           rw [if_neg (by intro h; rw [hn,Bool.false_and] at h; cases h)]
           exact wpAny_pure hQ))
def Itl (K:PySem.W.Frag) (a:Addr):It :=
  ⟨fun i H=>∃ xs x,SqL K H a xs∧xs[i]?=some x,fun i H x H'=>H'=H∧∀ xs,SqL K H a xs→xs[i]?=some x,fun i H=>∃ xs,SqL K H a xs∧xs.length≤i⟩
def Itt (K:PySem.W.Frag) (a:Addr):It :=
  ⟨fun i H=>∃ xs x,SqT K H a xs∧xs[i]?=some x,fun i H x H'=>H'=H∧∀ xs,SqT K H a xs→xs[i]?=some x,fun i H=>∃ xs,SqT K H a xs∧xs.length≤i⟩
def Itr (lo:Int) (n:Nat):It:=⟨fun i _=>i < n,fun i H x H'=>H'=H∧x=.int (lo+i),fun i _=>n≤i⟩
theorem turn_list {P:Program} {w:World} {K:PySem.W.Frag} {tg:Expr} (a it:Addr):Turn P w K tg (Itl K a) [it] it (fun i h=>h.IsListIter it a i) where
  mem:=by simp
  obj:=fun i h st b hb=>by
    have e:b=it:=by simpa using hb
    subst e
    obtain ⟨o,e,c,d⟩:=st
    exact ⟨o,e,fun v z=>by rw [d] at z; cases z⟩
  keep:=fun i h h' st k=>st.at fun o e=>k it (by simp) o e
  item:=by
    intro X hP hw hK hc i pins s σ H E I hf st hg
    subst hP hw hK
    obtain ⟨xs,x,hq,hx⟩:=hg
    obtain ⟨its,rv,p,hz⟩:=I.list hq
    obtain ⟨u,hu,ru⟩:=rv.get hx
    obtain ⟨f0,f1,f2,f3,f4,f5⟩:=hf it (by simp)
    refine wpAny_pyNext_list_item st p.isList (x:=u) (by simpa using hu) fun h' st' sb=>?_
    have I1:Inv X pins σ H { s with heap:=h' }:=I.turned (t':=s.toks) (fun b o hb e=>(sb.2 b hb).trans e) f0 f1 f3 f4 f5
    obtain ⟨o,e,c,d⟩:=id st'
    exact ⟨u,rfl,go_of (s:={ s with heap:=h' }) e c d (by decide) ⟨x,H,I1,ru,⟨rfl,fun ys hy=>by rw [I.list_inj hy hq]; exact hx⟩,st',fun b hb=>(hf b hb).1⟩⟩
  done:=by
    intro X hP hw hK hc i pins s σ H E I hf st hg
    subst hP hw hK
    obtain ⟨xs,hq,hx⟩:=hg
    obtain ⟨its,rv,p,hz⟩:=I.list hq
    obtain ⟨f0,f1,f2,f3,f4,f5⟩:=hf it (by simp)
    have hl:=rv.length
    exact wpAny_pyNext_list_end (I.ok.hd hc) st p.isList (by simp; omega) fun h' eb=>⟨rfl,I.turned (t':=s.toks) (fun b o hb e=>eb b o hb e) f0 f1 f3 f4 f5⟩
  self:=fun _ _ _ _ _ st h=>wpAny_pyIter_listiter st h
theorem turn_tuple {P:Program} {w:World} {K:PySem.W.Frag} {tg:Expr} (a it:Addr):Turn P w K tg (Itt K a) [it] it (fun i h=>h.IsTupleIter it a i) where
  mem:=by simp
  obj:=fun i h st b hb=>by
    have e:b=it:=by simpa using hb
    subst e
    obtain ⟨o,e,c,d⟩:=st
    exact ⟨o,e,fun v z=>by rw [d] at z; cases z⟩
  keep:=fun i h h' st k=>st.at fun o e=>k it (by simp) o e
  item:=by
    intro X hP hw hK hc i pins s σ H E I hf st hg
    subst hP hw hK
    obtain ⟨xs,x,hq,hx⟩:=hg
    obtain ⟨its,rv,p,hz⟩:=I.tuple hq
    obtain ⟨u,hu,ru⟩:=rv.get hx
    obtain ⟨f0,f1,f2,f3,f4,f5⟩:=hf it (by simp)
    refine wpAny_pyNext_tuple_item st (show s.heap.IsTuple a its.toArray from p) (x:=u) (by simpa using hu) fun h' st' sb=>?_
    have I1:Inv X pins σ H { s with heap:=h' }:=I.turned (t':=s.toks) (fun b o hb e=>(sb.2 b hb).trans e) f0 f1 f3 f4 f5
    obtain ⟨o,e,c,d⟩:=id st'
    exact ⟨u,rfl,go_of (s:={ s with heap:=h' }) e c d (by decide) ⟨x,H,I1,ru,⟨rfl,fun ys hy=>by rw [I.tuple_inj hy hq]; exact hx⟩,st',fun b hb=>(hf b hb).1⟩⟩
  done:=by
    intro X hP hw hK hc i pins s σ H E I hf st hg
    subst hP hw hK
    obtain ⟨xs,hq,hx⟩:=hg
    obtain ⟨its,rv,p,hz⟩:=I.tuple hq
    obtain ⟨f0,f1,f2,f3,f4,f5⟩:=hf it (by simp)
    have hl:=rv.length
    exact wpAny_pyNext_tuple_end (I.ok.hd hc) st (show s.heap.IsTuple a its.toArray from p) (by simp; omega) fun h' eb=>⟨rfl,I.turned (t':=s.toks) (fun b o hb e=>eb b o hb e) f0 f1 f3 f4 f5⟩
  self:=fun _ _ _ _ _ st h=>wpAny_pyIter_tupleiter st h
theorem turn_range {P:Program} {w:World} {K:PySem.W.Frag} {tg:Expr} (it:Addr) (lo:Int) (n:Nat):Turn P w K tg (Itr lo n) [it] it (fun i h=>IsRangeIter h it (lo+(i:Nat) * 1) ((n:Int) - (i:Nat)) 1) where
  mem:=by simp
  obj:=fun i h st b hb=>by
    have e:b=it:=by simpa using hb
    subst e
    exact ⟨_,st,fun v z=>by
      have z':Data.fields _=Data.cell v:=z
      cases z'⟩
  keep:=fun i h h' st k=>k it (by simp) _ st
  item:=by
    intro X hP hw hK hc i pins s σ H E I hf st hg
    subst hP hw hK
    obtain ⟨f0,f1,f2,f3,f4,f5⟩:=hf it (by simp)
    have W:=Walks.range (prog:=X.prog) (w:=X.w) (I.ok.hd hc) it lo 1 n
    refine W.item i s _ _ hg st fun v h' tk hv st' kk=>?_
    obtain ⟨t,rfl⟩:=hv
    have I1:Inv X pins σ H { s with heap:=h',toks:=tk }:=I.turned (fun b o hb e=>kk b o (by simpa using hb) e) f0 f1 f3 f4 f5
    refine ⟨_,rfl,go_of (s:={ s with heap:=h',toks:=tk }) (n:="range_iterator") st' rfl rfl (by decide) ⟨.int (lo+i),H,I1,⟨t,?_⟩,⟨rfl,rfl⟩,st',fun b hb=>(hf b hb).1⟩⟩
    rw [Int.mul_one]
  done:=by
    intro X hP hw hK hc i pins s σ H E I hf st hg
    subst hP hw hK
    obtain ⟨f0,f1,f2,f3,f4,f5⟩:=hf it (by simp)
    exact wpAny_pyNext_range_end (I.ok.hd hc) st (by have:n≤i:=hg; omega) fun h' eb=>⟨rfl,I.turned (t':=s.toks) (fun b o hb e=>eb b o hb e) f0 f1 f3 f4 f5⟩
  self:=fun _ _ _ _ _ st h=>wpAny_pyIter_rangeiter st h
end L2
namespace L2
open PySem PySem.Spec PyProof.Rows
section
variable {X:Cx} {tg:Expr}
def iList (K:PySem.W.Frag) (tl:TE):TI:=fun σ H R=>tl σ H fun x H1=>∃ a,x=.ref a∧(∃ xs,SqL K H1 a xs)∧R (Itl K a) H1
def iTup (K:PySem.W.Frag) (tl:TE):TI:=fun σ H R=>tl σ H fun x H1=>∃ a,x=.ref a∧(∃ xs,SqT K H1 a xs)∧R (Itt K a) H1
theorem pi_list {l:Expr} {tl:TE} (hl:PE X l tl):PI X tg l (iList X.K tl):=by
  intro pins s σ H R I h
  refine thn (hl pins s σ H _ I h) fun v s1 ⟨x,H1,I1,r1,q1⟩=>?_
  obtain ⟨a,e,⟨xs,hq⟩,q⟩:=q1
  subst e
  cases r1
  obtain ⟨its,rv,p,hz⟩:=I1.list hq
  refine wpAny_pyIter_list p.isList ?_
  refine ⟨s1.heap.objs.size,[s1.heap.objs.size],_,_,H1,rfl,I1.kept (t':=s1.toks) fun b o e=>Heap.get?_push_of_some _ e,turn_list a _,⟨_,Heap.get?_push_size _ rfl,rfl,rfl⟩,fun b hb=>?_,q⟩
  have e:b=s1.heap.objs.size:=by simpa using hb
  subst e
  exact I1.fpOk (Nat.le_refl _) (I1.hok.fresh (Nat.le_refl _))
theorem pi_tup {l:Expr} {tl:TE} (hl:PE X l tl):PI X tg l (iTup X.K tl):=by
  intro pins s σ H R I h
  refine thn (hl pins s σ H _ I h) fun v s1 ⟨x,H1,I1,r1,q1⟩=>?_
  obtain ⟨a,e,⟨xs,hq⟩,q⟩:=q1
  subst e
  cases r1
  obtain ⟨its,rv,p,hz⟩:=I1.tuple hq
  refine wpAny_pyIter_tuple (show s1.heap.IsTuple a its.toArray from p) ?_
  refine ⟨s1.heap.objs.size,[s1.heap.objs.size],_,_,H1,rfl,I1.kept (t':=s1.toks) fun b o e=>Heap.get?_push_of_some _ e,turn_tuple a _,⟨_,Heap.get?_push_size _ rfl,rfl,rfl⟩,fun b hb=>?_,q⟩
  have e:b=s1.heap.objs.size:=by simpa using hb
  subst e
  exact I1.fpOk (Nat.le_refl _) (I1.hok.fresh (Nat.le_refl _))
theorem range_it {pins:List (Addr × Obj)} {σ:St} {H:Hp} {s:Shared} {R:It→Hp→Prop} {E:Value→Shared→Prop} {lo hi:Int} {t u v:Tok} {tk:Nat} (I:Inv X pins σ H s) (h1:-(2^62)≤lo) (h2:lo < 2^62) (h3:-(2^62)≤hi) (h4:hi < 2^62)
    (q:R (Itr lo (hi - lo).toNat) H):wpAny (model X.prog X.w) X.A (pyIter (.ref s.heap.objs.size)) (PIE X pins σ tg R) E { s with heap:=s.heap.push { cls:=.type "range",data:=.fields #[.int lo t,.int hi u,.int 1 v] },toks:=tk }:=by
  refine wpAny_pyIter_range (IsRange.new ..) (small_one h1 h2 h3 h4) ?_
  have I1:Inv X pins σ H { s with heap:=s.heap.push { cls:=.type "range",data:=.fields #[.int lo t,.int hi u,.int 1 v] },toks:=tk }:=I.kept fun b o e=>Heap.get?_push_of_some _ e
  refine ⟨(s.heap.push { cls:=.type "range",data:=.fields #[.int lo t,.int hi u,.int 1 v] }).objs.size,[(s.heap.push { cls:=.type "range",data:=.fields #[.int lo t,.int hi u,.int 1 v] }).objs.size],_,_,H,rfl,
    I1.kept (t':=tk) fun b o e=>Heap.get?_push_of_some _ e,turn_range _ lo (hi - lo).toNat,?_,fun b hb=>?_,q⟩
  · have e1:lo+((0:Nat):Int) * 1=lo:=by simp
    have e2:(((hi - lo).toNat:Nat):Int) - ((0:Nat):Int)=Builtin.Range.rangeSize lo hi 1:=by rw [rangeSize_one]; split <;> omega
    show IsRangeIter _ _ (lo+((0:Nat):Int) * 1) ((((hi - lo).toNat:Nat):Int) - ((0:Nat):Int)) 1
    rw [e1,e2]
    exact Heap.get?_push_size _ rfl
  · have e:b=(s.heap.push { cls:=.type "range",data:=.fields #[.int lo t,.int hi u,.int 1 v] }).objs.size:=by simpa using hb
    subst e
    exact I1.fpOk (Nat.le_refl _) (I1.hok.fresh (Nat.le_refl _))
def iRng1 (ta:TA):TI:=fun σ H R=>ta σ H fun vs H1=>∃ j:Int,vs=[.int j]∧-(2^62)≤j∧j < 2^62∧R (Itr 0 j.toNat) H1
def iRng2 (ta:TA):TI:=fun σ H R=>ta σ H fun vs H1=>∃ i j:Int,vs=[.int i,.int j]∧(-(2^62)≤i∧i < 2^62∧-(2^62)≤j∧j < 2^62)∧R (Itr i (j - i).toNat) H1
theorem pi_range1 {a:Expr} {ta:TA} {p pos:Pos} (hg:Gl X "range") (hm:X.mg "range"=none) (ha:PA X [a] ta) (hs:starEach [a] X.env=[(false,eval a X.env)]:=by rfl):PI X tg (.Call (.Name "range" p) [a] [] pos) (iRng1 ta):=by
  intro pins s σ H R I h
  refine Call_ (ld_blt I hg hm boot_range (PyProof.Rows.callWith_type1 (thn (ha pos pins s σ H _ I h) fun us s1 ⟨vs,H1,I1,r1,q1⟩=>?_) hs rfl))
  obtain ⟨j,e,q1,q2,q⟩:=q1
  subst e
  cases r1 with
  | cons r rr =>
    cases rr
    obtain ⟨t,rfl⟩:=r
    exact call_range_1 (range_it I1 (by omega) (by omega) q1 q2 (by simpa using q))
theorem pi_range2 {a b:Expr} {ta:TA} {p pos:Pos} (hg:Gl X "range") (hm:X.mg "range"=none) (ha:PA X [a,b] ta) (hs:starEach [a,b] X.env=[(false,eval a X.env),(false,eval b X.env)]:=by rfl) (hs2:starEach [b] X.env=[(false,eval b X.env)]:=by rfl) :
    PI X tg (.Call (.Name "range" p) [a,b] [] pos) (iRng2 ta):=by
  intro pins s σ H R I h
  refine Call_ (ld_blt I hg hm boot_range (PyProof.Rows.callWith_type1 (thn (ha pos pins s σ H _ I h) fun us s1 ⟨vs,H1,I1,r1,q1⟩=>?_) (by rw [hs,hs2]) (by rw [hs2]; rfl)))
  obtain ⟨i,j,e,⟨q1,q2,q3,q4⟩,q⟩:=q1
  subst e
  cases r1 with
  | cons r rr =>
    cases rr with
    | cons r' rr =>
      cases rr
      obtain ⟨t,rfl⟩:=r
      obtain ⟨t',rfl⟩:=r'
      exact call_range_2 (range_it I1 q1 q2 q3 q4 q)
def tFor (wi:TI) (g:TG) (tb:TS):TS:=fun D σ H=>wi σ H fun J H1=>∃ W:Nat→Nat→St→Hp→Prop,(∃ m,W 0 m σ H1)∧∀ i m σ H,W i m σ H →
  (J.stop i H∧D.nx σ H)∨(J.go i H∧∃ N:St→Hp→Prop,(∀ σ' H',N σ' H'→∃ m',m' < m∧W (i+1) m' σ' H')∧∀ x H',J.yld i H x H'→g x σ H' fun σ2 H2=>tb { D with nx:=N,ct:=N,bk:=D.nx } σ2 H2)
def pinsAt (fp:List Addr) (h:Heap):List (Addr × Obj):=fp.filterMap fun b=>(h.get? b).map fun o=>(b,o)
theorem mem_pinsAt {fp:List Addr} {h:Heap} {b:Addr} {o:Obj} (hb:b∈fp) (e:h.get? b=some o):(b,o)∈pinsAt fp h:=List.mem_filterMap.mpr ⟨b,hb,by rw [e]; rfl⟩
theorem of_pinsAt {fp:List Addr} {h:Heap} {p:Addr × Obj} (hp:p∈pinsAt fp h):p.1∈fp∧h.get? p.1=some p.2:=by
  obtain ⟨b,hb,e⟩:=List.mem_filterMap.mp hp
  cases q:h.get? b with
  | none=>rw [q] at e; cases e
  | some o =>
    rw [q] at e
    have e':(b,o)=p:=Option.some.inj e
    subst e'
    exact ⟨hb,q⟩
theorem Inv.pinned {pins:List (Addr × Obj)} {σ:St} {H:Hp} {s:Shared} {fp:List Addr} (I:Inv X pins σ H s) (hf:∀ b∈fp,FpOk X pins H b) (ho:∀ b∈fp,∃ o,s.heap.get? b=some o∧∀ v,o.data≠.cell v):Inv X (pins++pinsAt fp s.heap) σ H s :=
  I.pins_of fun p hp=>(List.mem_append.mp hp).elim (fun z=>I.pin p (List.mem_append_right _ z)) fun z=>by
    obtain ⟨hb,e⟩:=of_pinsAt z
    obtain ⟨f0,f1,f2,_⟩:=hf p.1 hb
    obtain ⟨o,e',d⟩:=ho p.1 hb
    rw [e] at e'; cases e'
    exact ⟨e,f0,f1,f2,d⟩
theorem Inv.unpinned {pins pl:List (Addr × Obj)} {σ:St} {H:Hp} {s:Shared} (I:Inv X (pins++pl) σ H s):Inv X pins σ H s:=I.pins_of fun p hp=>I.pin p (List.mem_append_right _ (List.mem_append_left _ hp))
theorem ps_for {iter:Expr} {body:List Stmt} {wi:TI} {g:TG} {tb:TS} {pos:Pos} (hp:PassesOwn (model X.prog X.w) X.A X.env X.xe) (hc:X.calm=true) (hi:PI X tg iter wi) (hg:PG X tg g) (hb:PSs X body tb)
    (hs:∀ x,foldedSetIterable iter X.env x=pure x:=by intro _; rfl):PS X (.For tg iter body [] pos) (tFor wi g tb):=by
  intro pins s σ H D I h
  refine wpAny_For (thn (hi pins s σ H _ I h) fun v s1 h1=>thn h1 fun itv s2 h2=>?_) hs
  obtain ⟨it,fp,tn,J,H2,e,I2,T,st2,f2,W,⟨m0,w0⟩,turn⟩:=h2
  subst e
  have stat:∀ {H':Hp},(∀ b∈fp,H' b=none)→∀ b∈fp,FpOk X pins H' b:=fun hn b hb=>⟨hn b hb,(f2 b hb).2⟩
  refine codeAny_forLoop_any (fun n s'=>∃ i σ' H',Inv X pins σ' H' s'∧tn i s'.heap∧(∀ b∈fp,H' b=none)∧W i n σ' H') ?_ m0 ⟨0,σ,H2,I2,st2,fun b hb=>(f2 b hb).1,w0⟩
  rintro n s3 ⟨i,σ3,H3,I3,st3,fr3,w3⟩
  rcases turn i n σ3 H3 w3 with ⟨stop,qn⟩ | ⟨go,N,hN,step⟩
  · refine wpAny_passesOwn hp (thn (T.done X rfl rfl rfl hc i pins s3 σ3 H3 X.xe I3 (stat fr3) st3 stop) fun r s4 ⟨hr,I4⟩=>?_)
    subst hr
    exact wpAny_execs_nil ⟨σ3,H3,I4,qn⟩
  · refine wpAny_passesOwn hp (thn (T.item X rfl rfl rfl hc i pins s3 σ3 H3 X.xe I3 (stat fr3) st3 go) fun r s4 ⟨u,hr,h4⟩=>?_)
    subst hr
    refine wpAny_passesOwn hp (thn h4 fun _ s5 ⟨x,H5,I5,r5,y5,st5,fr5⟩=>?_)
    have I5':=I5.pinned (stat fr5) (T.obj _ _ st5)
    refine wpAny_passesOwn hp (thn (hg _ s5 σ3 H5 x u _ I5' r5 (step x H5 y5)) fun _ s6 ⟨σ6,H6,I6,q6⟩=>?_)
    refine wpAny_passesOwn hp (thn (hb _ s6 σ6 H6 _ I6 q6) fun f s7 q7=>?_)
    have again:∀ {σ7:St} {H7:Hp},Inv X (pins++pinsAt fp s5.heap) σ7 H7 s7→N σ7 H7→∃ m,m < n∧∃ i σ' H',Inv X pins σ' H' s7∧tn i s7.heap∧(∀ b∈fp,H' b=none)∧W i m σ' H':=fun {σ7 H7} I7 n7=>by
      obtain ⟨m',hm,w7⟩:=hN σ7 H7 n7
      refine ⟨m',hm,i+1,σ7,H7,I7.unpinned,T.keep _ _ _ st5 fun b hb o e=>(I7.pin (b,o) (List.mem_append_right _ (List.mem_append_right _ (mem_pinsAt hb e)))).1,fun b hb=>?_,w7⟩
      obtain ⟨o,e,d⟩:=T.obj _ _ st5 b hb
      exact (I7.pin (b,o) (List.mem_append_right _ (List.mem_append_right _ (mem_pinsAt hb e)))).2.1
    cases f with
    | next=>obtain ⟨σ7,H7,I7,n7⟩:=q7; exact again I7 n7
    | cont=>obtain ⟨σ7,H7,I7,n7⟩:=q7; exact again I7 n7
    | brk=>obtain ⟨σ7,H7,I7,q7⟩:=q7; exact ⟨σ7,H7,I7.unpinned,q7⟩
    | ret v=>obtain ⟨x7,σ7,H7,I7,r7,q7⟩:=q7; exact ⟨x7,σ7,H7,I7.unpinned,r7,q7⟩
end
theorem for_list {K:PySem.W.Frag} {a:Addr} {xs:List V} {g:TG} {tb:TS} {D:Ends} {σ:St} {H:Hp} (Pv:Nat→St→Hp→Prop) (h0:Pv 0 σ H) (hl:∀ i σ H,i≤xs.length→Pv i σ H→SqL K H a xs)
    (hs:∀ i x σ H,xs[i]?=some x→Pv i σ H→g x σ H fun σ2 H2=>tb { D with nx:=Pv (i+1),ct:=Pv (i+1),bk:=D.nx } σ2 H2) (hd:∀ σ H,Pv xs.length σ H→D.nx σ H) :
    ∃ W:Nat→Nat→St→Hp→Prop,(∃ m,W 0 m σ H)∧∀ i m σ H,W i m σ H →
      ((Itl K a).stop i H∧D.nx σ H)∨((Itl K a).go i H∧∃ N:St→Hp→Prop,(∀ σ' H',N σ' H'→∃ m',m' < m∧W (i+1) m' σ' H')∧∀ x H',(Itl K a).yld i H x H'→g x σ H' fun σ2 H2=>tb { D with nx:=N,ct:=N,bk:=D.nx } σ2 H2):=by
  refine ⟨fun i m σ H=>m=xs.length - i∧i≤xs.length∧Pv i σ H,⟨xs.length,by simp,Nat.zero_le _,h0⟩,?_⟩
  rintro i m σ H ⟨rfl,hi,p⟩
  have q:=hl i σ H hi p
  by_cases hlt:i < xs.length
  · refine .inr ⟨⟨xs,xs[i],q,by simp [hlt]⟩,Pv (i+1),fun σ' H' p'=>⟨xs.length - (i+1),by omega,rfl,hlt,p'⟩,fun x H' y=>?_⟩
    obtain ⟨e,y⟩:=y
    subst e
    exact hs i x σ _ (y xs q) p
  · have e:i=xs.length:=by omega
    subst e
    exact .inl ⟨⟨xs,q,Nat.le_refl _⟩,hd σ H p⟩
theorem for_tup {K:PySem.W.Frag} {a:Addr} {xs:List V} {g:TG} {tb:TS} {D:Ends} {σ:St} {H:Hp} (Pv:Nat→St→Hp→Prop) (h0:Pv 0 σ H) (hl:∀ i σ H,i≤xs.length→Pv i σ H→SqT K H a xs)
    (hs:∀ i x σ H,xs[i]?=some x→Pv i σ H→g x σ H fun σ2 H2=>tb { D with nx:=Pv (i+1),ct:=Pv (i+1),bk:=D.nx } σ2 H2) (hd:∀ σ H,Pv xs.length σ H→D.nx σ H) :
    ∃ W:Nat→Nat→St→Hp→Prop,(∃ m,W 0 m σ H)∧∀ i m σ H,W i m σ H →
      ((Itt K a).stop i H∧D.nx σ H)∨((Itt K a).go i H∧∃ N:St→Hp→Prop,(∀ σ' H',N σ' H'→∃ m',m' < m∧W (i+1) m' σ' H')∧∀ x H',(Itt K a).yld i H x H'→g x σ H' fun σ2 H2=>tb { D with nx:=N,ct:=N,bk:=D.nx } σ2 H2):=by
  refine ⟨fun i m σ H=>m=xs.length - i∧i≤xs.length∧Pv i σ H,⟨xs.length,by simp,Nat.zero_le _,h0⟩,?_⟩
  rintro i m σ H ⟨rfl,hi,p⟩
  have q:=hl i σ H hi p
  by_cases hlt:i < xs.length
  · refine .inr ⟨⟨xs,xs[i],q,by simp [hlt]⟩,Pv (i+1),fun σ' H' p'=>⟨xs.length - (i+1),by omega,rfl,hlt,p'⟩,fun x H' y=>?_⟩
    obtain ⟨e,y⟩:=y
    subst e
    exact hs i x σ _ (y xs q) p
  · have e:i=xs.length:=by omega
    subst e
    exact .inl ⟨⟨xs,q,Nat.le_refl _⟩,hd σ H p⟩
theorem for_range {lo:Int} {n:Nat} {g:TG} {tb:TS} {D:Ends} {σ:St} {H:Hp} (Pv:Nat→St→Hp→Prop) (h0:Pv 0 σ H)
    (hs:∀ i σ H,i < n→Pv i σ H→g (.int (lo+i)) σ H fun σ2 H2=>tb { D with nx:=Pv (i+1),ct:=Pv (i+1),bk:=D.nx } σ2 H2) (hd:∀ σ H,Pv n σ H→D.nx σ H) :
    ∃ W:Nat→Nat→St→Hp→Prop,(∃ m,W 0 m σ H)∧∀ i m σ H,W i m σ H →
      ((Itr lo n).stop i H∧D.nx σ H)∨((Itr lo n).go i H∧∃ N:St→Hp→Prop,(∀ σ' H',N σ' H'→∃ m',m' < m∧W (i+1) m' σ' H')∧∀ x H',(Itr lo n).yld i H x H'→g x σ H' fun σ2 H2=>tb { D with nx:=N,ct:=N,bk:=D.nx } σ2 H2):=by
  refine ⟨fun i m σ H=>m=n - i∧i≤n∧Pv i σ H,⟨n,by simp,Nat.zero_le _,h0⟩,?_⟩
  rintro i m σ H ⟨rfl,hi,p⟩
  by_cases hlt:i < n
  · refine .inr ⟨hlt,Pv (i+1),fun σ' H' p'=>⟨n - (i+1),by omega,rfl,hlt,p'⟩,fun x H' y=>?_⟩
    obtain ⟨e,y⟩:=y
    subst e y
    exact hs i σ _ hlt p
  · have e:i=n:=by omega
    subst e
    exact .inl ⟨Nat.le_refl _,hd σ H p⟩
theorem while_by {c:TT} {tb:TS} {D:Ends} {σ:St} {H:Hp} (Pv:St→Hp→Prop) (μ:St→Hp→Nat) (h0:Pv σ H)
    (hs:∀ σ H,Pv σ H→c σ H fun b H1=>if b=true then tb { D with nx:=fun σ' H'=>Pv σ' H'∧μ σ' H' < μ σ H,ct:=fun σ' H'=>Pv σ' H'∧μ σ' H' < μ σ H,bk:=D.nx } σ H1 else D.nx σ H1)
    (mono:∀ σ H Q Q',(∀ b H1,Q b H1→Q' b H1)→c σ H Q→c σ H Q'):tWhile c tb D σ H:=by
  refine ⟨fun m σ H=>m=μ σ H∧Pv σ H,⟨_,rfl,h0⟩,?_⟩
  rintro m σ H ⟨rfl,p⟩
  refine mono σ H _ _ (fun b H1 q=>?_) (hs σ H p)
  cases b with
  | true=>exact ⟨_,fun σ' H' ⟨p',l⟩=>⟨_,l,rfl,p'⟩,q⟩
  | false=>exact q
end L2
namespace L2
open PySem PySem.Spec PyProof.Rows
abbrev R2:=V→V→Hp→VK→Prop
def OpR (X:Cx) (f:Value→Value→Sem Value) (r:R2):Prop :=
  ∀ (pins:List (Addr × Obj)) (s:Shared) (σ:St) (H:Hp) (x y:V) (v u:Value) (Q:VK),Inv X pins σ H s→RelV x v→RelV y u→r x y H Q →
    wpAny (model X.prog X.w) X.A (f v u) (EP X pins σ Q) X.xe s
def UnR (X:Cx) (f:Value→Sem Value) (r:V→Hp→VK→Prop):Prop :=
  ∀ (pins:List (Addr × Obj)) (s:Shared) (σ:St) (H:Hp) (x:V) (v:Value) (Q:VK),Inv X pins σ H s→RelV x v→r x H Q →
    wpAny (model X.prog X.w) X.A (f v) (EP X pins σ Q) X.xe s
def CallR (X:Cx) (f:Value) (r:List V→Hp→VK→Prop):Prop :=
  ∀ (pins:List (Addr × Obj)) (s:Shared) (σ:St) (H:Hp) (xs:List V) (us:List Value) (Q:VK),Inv X pins σ H s→Vals xs us→r xs H Q →
    wpAny (model X.prog X.w) X.A (call f us) (EP X pins σ Q) X.xe s
def TruR (X:Cx) (r:V→Hp→(Bool→Hp→Prop)→Prop):Prop :=
  ∀ (pins:List (Addr × Obj)) (s:Shared) (σ:St) (H:Hp) (x:V) (v:Value) (Q:Bool→Hp→Prop),Inv X pins σ H s→RelV x v→r x H Q →
    wpAny (model X.prog X.w) X.A (truthy v) (TP X pins σ Q) X.xe s
def tOp (r:R2) (ta tb:TE):TE:=fun σ H Q=>ta σ H fun x H1=>tb σ H1 fun y H2=>r x y H2 Q
def tUn (r:V→Hp→VK→Prop) (ta:TE):TE:=fun σ H Q=>ta σ H fun x H1=>r x H1 Q
def rI (C:Int→Int→Prop) (g:Int→Int→V):R2:=fun x y H Q=>∃ i j,x=.int i∧y=.int j∧C i j∧Q (g i j) H
def rI0 (g:Int→Int→V):R2:=fun x y H Q=>∃ i j,x=.int i∧y=.int j∧Q (g i j) H
def rU (g:Int→V):V→Hp→VK→Prop:=fun x H Q=>∃ i,x=.int i∧Q (g i) H
section
variable {X:Cx} {a b c:Expr} {ta tb tc:TE} {pos:Pos}
theorem binT (ha:PE X a ta) (hb:PE X b tb) {pins:List (Addr × Obj)} {s:Shared} {σ:St} {H:Hp} {R:V→V→Hp→Prop} (I:Inv X pins σ H s)
    (h:ta σ H fun x H1=>tb σ H1 fun y H2=>R x y H2) {Q:Value→Shared→Prop} {f:Value→Value→Sem Value}
    (hf:∀ v u s2 x y H2,Inv X pins σ H2 s2→RelV x v→RelV y u→R x y H2→wpAny (model X.prog X.w) X.A (f v u) Q X.xe s2) :
    wpAny (model X.prog X.w) X.A (eval a X.env) (fun v s₁=>wpAny (model X.prog X.w) X.A (eval b X.env) (fun u s₂=>wpAny (model X.prog X.w) X.A (f v u) Q X.xe s₂) X.xe s₁) X.xe s:=by
  refine thn (ha pins s σ H _ I h) fun v s1 ⟨x,H1,I1,r1,q1⟩=>?_
  refine thn (hb pins s1 σ H1 _ I1 q1) fun u s2 ⟨y,H2,I2,r2,q2⟩=>?_
  exact hf v u s2 x y H2 I2 r1 r2 q2
theorem pe_op {op:Operator} {r:R2} (ho:OpR X (binaryOp op) r) (ha:PE X a ta) (hb:PE X b tb):PE X (.BinOp a op b pos) (tOp r ta tb):=by
  intro pins s σ H Q I h
  exact wpAny_BinOp (binT ha hb I h fun v u s2 x y H2 I2 rx ry q=>ho pins s2 σ H2 x y v u Q I2 rx ry q)
theorem pe_un {op:UnaryOp} {r:V→Hp→VK→Prop} (ho:UnR X (unaryOp op) r) (ha:PE X a ta):PE X (.UnaryOp op a pos) (tUn r ta):=by
  intro pins s σ H Q I h
  exact UnaryOp_ (thn (ha pins s σ H _ I h) fun v s1 ⟨x,H1,I1,r1,q1⟩=>ho pins s1 σ H1 x v Q I1 r1 q1)
theorem opI {f:Value→Value→Sem Value} {C:Int→Int→Prop} {g:Int→Int→Int}
    (rule:∀ (i j:Int) (t u:Tok) (s:Shared) (Q:Value→Shared→Prop) (E:Value→Shared→Prop),C i j→Q (.int (g i j) s.toks) { s with toks:=s.toks+1 }→wpAny (model X.prog X.w) X.A (f (.int i t) (.int j u)) Q E s) :
    OpR X f (rI C fun i j=>.int (g i j)):=by
  intro pins s σ H x y v u Q I rx ry h
  obtain ⟨i,j,rfl,rfl,hc,q⟩:=h
  obtain ⟨t,rfl⟩:=rx
  obtain ⟨t',rfl⟩:=ry
  exact rule i j t t' s _ _ hc ⟨.int (g i j),H,I.tok _,⟨_,rfl⟩,q⟩
theorem opI0 {f:Value→Value→Sem Value} {g:Int→Int→Int}
    (rule:∀ (i j:Int) (t u:Tok) (s:Shared) (Q:Value→Shared→Prop) (E:Value→Shared→Prop),Q (.int (g i j) s.toks) { s with toks:=s.toks+1 }→wpAny (model X.prog X.w) X.A (f (.int i t) (.int j u)) Q E s) :
    OpR X f (rI0 fun i j=>.int (g i j)):=by
  intro pins s σ H x y v u Q I rx ry h
  obtain ⟨i,j,rfl,rfl,q⟩:=h
  obtain ⟨t,rfl⟩:=rx
  obtain ⟨t',rfl⟩:=ry
  exact rule i j t t' s _ _ ⟨.int (g i j),H,I.tok _,⟨_,rfl⟩,q⟩
theorem opB0 {f:Value→Value→Sem Value} {g:Int→Int→Bool}
    (rule:∀ (i j:Int) (t u:Tok) (s:Shared) (Q:Value→Shared→Prop) (E:Value→Shared→Prop),Q (.bool (g i j)) s→wpAny (model X.prog X.w) X.A (f (.int i t) (.int j u)) Q E s) :
    OpR X f (rI0 fun i j=>.bl (g i j)):=by
  intro pins s σ H x y v u Q I rx ry h
  obtain ⟨i,j,rfl,rfl,q⟩:=h
  obtain ⟨t,rfl⟩:=rx
  obtain ⟨t',rfl⟩:=ry
  exact rule i j t t' s _ _ ⟨.bl (g i j),H,I,rfl,q⟩
def CPow (i j:Int):Prop:=0≤j∧j≤1000000∧i.natAbs < 2^64
theorem op_add:OpR X (binaryOp .Add) (rI0 fun i j=>.int (i+j)):=opI0 fun _ _ _ _ _ _ _ q=>add_int q
theorem op_sub:OpR X (binaryOp .Sub) (rI0 fun i j=>.int (i - j)):=opI0 fun _ _ _ _ _ _ _ q=>sub_int q
theorem op_mod:OpR X (binaryOp .Mod) (rI (fun _ j=>0 < j) fun i j=>.int (i % j)):=opI fun i j _ _ _ _ _ hc q=>by
  have h1:(0:Int) < j:=hc
  exact mod_int' (by omega) (by rw [Int.fmod_eq_emod_of_nonneg i (by omega)]; exact q)
theorem op_pow:OpR X (binaryOp .Pow) (rI CPow fun i j=>.int (i^j.toNat)):=opI fun _ _ _ _ _ _ _ hc q=>pow_int_small hc.1 hc.2.1 hc.2.2 q
theorem unI {f:Value→Sem Value} {g:Int→Int}
    (rule:∀ (i:Int) (t:Tok) (s:Shared) (Q:Value→Shared→Prop) (E:Value→Shared→Prop),Q (.int (g i) s.toks) { s with toks:=s.toks+1 }→wpAny (model X.prog X.w) X.A (f (.int i t)) Q E s) :
    UnR X f (rU fun i=>.int (g i)):=by
  intro pins s σ H x v Q I rx h
  obtain ⟨i,rfl,q⟩:=h
  obtain ⟨t,rfl⟩:=rx
  exact rule i t s _ _ ⟨.int (g i),H,I.tok _,⟨_,rfl⟩,q⟩
theorem un_neg:UnR X (unaryOp .USub) (rU fun i=>.int (-i)):=unI fun _ _ _ _ _ q=>neg_int q
end
def scal:V→V→Bool
  | .non,.non=>true | .non,.int _=>true | .int _,.non=>true | .non,.bl _=>true | .bl _,.non=>true | .non,.str _=>true | .str _,.non=>true
  | .int _,.int _=>true | .bl _,.bl _=>true | .str _,.str _=>true | .byt _,.byt _=>true
  | .int _,.str _=>true | .str _,.int _=>true | .bl _,.str _=>true | .str _,.bl _=>true
  | _,_=>false
def rEq:R2:=fun x y H Q=>scal x y=true∧Q (.bl (decide (x=y))) H
def rNe:R2:=fun x y H Q=>scal x y=true∧Q (.bl (!decide (x=y))) H
theorem dec_int {i j:Int}:decide (V.int i=V.int j)=(i == j):=by
  rw [Bool.eq_iff_iff]
  simp
theorem dec_bl {i j:Bool}:decide (V.bl i=V.bl j)=(i == j):=by
  rw [Bool.eq_iff_iff]
  simp
theorem dec_str {i j:Str}:decide (V.str i=V.str j)=(i == j):=by
  rw [Bool.eq_iff_iff]
  simp
theorem dec_byt {i j:Array UInt8}:decide (V.byt i=V.byt j)=(i.toList == j.toList):=by
  rw [Bool.eq_iff_iff]
  cases i
  cases j
  simp
section
variable {X:Cx} {a b c:Expr} {ta tb tc:TE} {pos:Pos}
theorem fin_bl {pins:List (Addr × Obj)} {σ:St} {H:Hp} {s:Shared} {Q:VK} {k k':Bool} (I:Inv X pins σ H s) (q:Q (.bl k) H) (e:k=k'):EP X pins σ Q (.bool k') s:=by
  subst e
  exact ⟨.bl k,H,I,rfl,q⟩
theorem op_eq:OpR X (compareOp .Eq) rEq:=by
  intro pins s σ H x y v u Q I rx ry h
  obtain ⟨hs,q⟩:=h
  cases x with
  | non =>
    cases rx
    cases y with
    | non=>cases ry; exact PySem.EqNone.eq_none_none (fin_bl I q (by simp))
    | bl j=>cases ry; exact PySem.EqNone.eq_none_bool (fin_bl I q (by simp))
    | int j=>obtain ⟨t',rfl⟩:=ry; exact PySem.EqNone.eq_none_int (fin_bl I q (by simp))
    | str j=>obtain ⟨t',rfl⟩:=ry; exact PySem.EqNone.eq_none_str (fin_bl I q (by simp))
    | _=>exact absurd (show false=true from hs) Bool.false_ne_true
  | bl i =>
    cases rx
    cases y with
    | non=>cases ry; exact PySem.EqNone.eq_bool_none (fin_bl I q (by simp))
    | bl j=>cases ry; exact eq_bool (fin_bl I q dec_bl)
    | str j=>obtain ⟨t',rfl⟩:=ry; exact PySem.EqMixed.eq_bool_str (fin_bl I q (by simp))
    | _=>exact absurd (show false=true from hs) Bool.false_ne_true
  | int i =>
    obtain ⟨t,rfl⟩:=rx
    cases y with
    | non=>cases ry; exact PySem.EqNone.eq_int_none (fin_bl I q (by simp))
    | int j=>obtain ⟨t',rfl⟩:=ry; exact eq_int (fin_bl I q dec_int)
    | str j=>obtain ⟨t',rfl⟩:=ry; exact PySem.EqMixed.eq_int_str (fin_bl I q (by simp))
    | _=>exact absurd (show false=true from hs) Bool.false_ne_true
  | str i =>
    obtain ⟨t,rfl⟩:=rx
    cases y with
    | non=>cases ry; exact PySem.EqNone.eq_str_none (fin_bl I q (by simp))
    | bl j=>cases ry; exact PySem.EqMixed.eq_str_bool (fin_bl I q (by simp))
    | int j=>obtain ⟨t',rfl⟩:=ry; exact PySem.EqMixed.eq_str_int (fin_bl I q (by simp))
    | str j=>obtain ⟨t',rfl⟩:=ry; exact eq_str (fin_bl I q dec_str)
    | _=>exact absurd (show false=true from hs) Bool.false_ne_true
  | byt i =>
    obtain ⟨t,rfl⟩:=rx
    cases y with
    | byt j=>obtain ⟨t',rfl⟩:=ry; exact PySem.W.eq_bytes (fin_bl I q dec_byt)
    | _=>exact absurd (show false=true from hs) Bool.false_ne_true
  | _=>cases y <;> exact absurd (show false=true from hs) Bool.false_ne_true
theorem op_ne:OpR X (compareOp .NotEq) rNe:=by
  intro pins s σ H x y v u Q I rx ry h
  obtain ⟨hs,q⟩:=h
  cases x with
  | non =>
    cases rx
    cases y with
    | non=>cases ry; exact PySem.EqNone.ne_none_none (fin_bl I q (by simp))
    | bl j=>cases ry; exact PySem.EqNone.ne_none_bool (fin_bl I q (by simp))
    | int j=>obtain ⟨t',rfl⟩:=ry; exact PySem.EqNone.ne_none_int (fin_bl I q (by simp))
    | str j=>obtain ⟨t',rfl⟩:=ry; exact PySem.EqNone.ne_none_str (fin_bl I q (by simp))
    | _=>exact absurd (show false=true from hs) Bool.false_ne_true
  | bl i =>
    cases rx
    cases y with
    | non=>cases ry; exact PySem.EqNone.ne_bool_none (fin_bl I q (by simp))
    | bl j=>cases ry; exact ne_bool (fin_bl I q (congrArg not dec_bl))
    | str j=>obtain ⟨t',rfl⟩:=ry; exact PySem.EqMixed.ne_bool_str (fin_bl I q (by simp))
    | _=>exact absurd (show false=true from hs) Bool.false_ne_true
  | int i =>
    obtain ⟨t,rfl⟩:=rx
    cases y with
    | non=>cases ry; exact PySem.EqNone.ne_int_none (fin_bl I q (by simp))
    | int j=>obtain ⟨t',rfl⟩:=ry; exact ne_int (fin_bl I q (congrArg not dec_int))
    | str j=>obtain ⟨t',rfl⟩:=ry; exact PySem.EqMixed.ne_int_str (fin_bl I q (by simp))
    | _=>exact absurd (show false=true from hs) Bool.false_ne_true
  | str i =>
    obtain ⟨t,rfl⟩:=rx
    cases y with
    | non=>cases ry; exact PySem.EqNone.ne_str_none (fin_bl I q (by simp))
    | bl j=>cases ry; exact PySem.EqMixed.ne_str_bool (fin_bl I q (by simp))
    | int j=>obtain ⟨t',rfl⟩:=ry; exact PySem.EqMixed.ne_str_int (fin_bl I q (by simp))
    | str j=>obtain ⟨t',rfl⟩:=ry; exact ne_str (fin_bl I q (congrArg not dec_str))
    | _=>exact absurd (show false=true from hs) Bool.false_ne_true
  | byt i =>
    obtain ⟨t,rfl⟩:=rx
    cases y with
    | byt j=>obtain ⟨t',rfl⟩:=ry; exact PySem.W.ne_bytes (fin_bl I q (congrArg not dec_byt))
    | _=>exact absurd (show false=true from hs) Bool.false_ne_true
  | _=>cases y <;> exact absurd (show false=true from hs) Bool.false_ne_true
theorem op_lt:OpR X (compareOp .Lt) (rI0 fun i j=>.bl (decide (i < j))):=opB0 fun _ _ _ _ _ _ _ q=>lt_int q
theorem op_le:OpR X (compareOp .LtE) (rI0 fun i j=>.bl (decide (i≤j))):=opB0 fun _ _ _ _ _ _ _ q=>le_int q
theorem op_gt:OpR X (compareOp .Gt) (rI0 fun i j=>.bl (decide (j < i))):=opB0 fun _ _ _ _ _ _ _ q=>gt_int q
theorem op_notN:OpR X (compareOp .IsNot) (fun x y H Q=>y=.non∧Q (.bl (!decide (x=.non))) H):=by
  intro pins s σ H x y v u Q I rx ry h
  obtain ⟨rfl,q⟩:=h
  cases ry
  refine isnot_none_gen (fin_bl I q ?_)
  cases x <;> first
    | (cases rx; rfl)
    | (obtain ⟨t,rfl⟩:=rx; rfl)
theorem nomark (b:Expr) {op:CmpOp} (h:op≠.In:=by decide) (h2:op≠.NotIn:=by decide):behindInMarks op b=false:=by
  have e1:(op == CmpOp.In)=false:=by cases op <;> first | rfl | exact absurd rfl h
  have e2:(op == CmpOp.NotIn)=false:=by cases op <;> first | rfl | exact absurd rfl h2
  cases b <;> simp [behindInMarks,e1,e2]
theorem pe_cmpR {op:CmpOp} {r:R2} (ho:OpR X (compareOp op) r) (ha:PE X a ta) (hb:PE X b tb) (hm:behindInMarks op b=false):PE X (.Compare a [op] [b] pos) (tOp r ta tb):=by
  intro pins s σ H Q I h
  exact wpAny_Compare1 (binT ha hb I h fun v u s2 x y H2 I2 rx ry q=>ho pins s2 σ H2 x y v u Q I2 rx ry q) hm
def tTest (t:TE):TT:=fun σ H Q=>t σ H fun x H'=>∃ k,x=.bl k∧Q k H'
theorem pt_cmpR {op:CmpOp} {r:R2} (ho:OpR X (compareOp op) r) (ha:PE X a ta) (hb:PE X b tb) (hm:behindInMarks op b=false):PT X (.Compare a [op] [b] pos) (tTest (tOp r ta tb)):=by
  intro pins s σ H Q I h
  refine wpAny_isTrue_Compare1 (thn (ha pins s σ H _ I h) fun v s1 ⟨x,H1,I1,r1,q1⟩=>thn (hb pins s1 σ H1 _ I1 q1) fun u s2 ⟨y,H2,I2,r2,q2⟩ =>
    thn (ho pins s2 σ H2 x y v u _ I2 r1 r2 q2) fun c s3 ⟨z,H3,I3,r3,k,e,q3⟩=>?_) hm
  subst e
  cases r3
  exact wpAny_truthy_bool ⟨H3,I3,q3⟩
def tChain (r r':R2) (ta tb tc:TE):TE:=fun σ H Q=>ta σ H fun x H1=>tb σ H1 fun y H2=>r x y H2 fun z H3=>∃ k,z=.bl k ∧
  (if k=true then tc σ H3 fun w' H4=>r' y w' H4 Q else Q (.bl false) H3)
theorem pe_chain {op op':CmpOp} {r r':R2} (ho:OpR X (compareOp op) r) (ho':OpR X (compareOp op') r') (ha:PE X a ta) (hb:PE X b tb) (hc:PE X c tc)
    (hm:lastMarks [op,op'] [b,c]=false:=by with_unfolding_all rfl):PE X (.Compare a [op,op'] [b,c] pos) (tChain r r' ta tb tc):=by
  intro pins s σ H Q I h
  refine Compare_chain (thn (ha pins s σ H _ I h) fun v s1 ⟨x,H1,I1,r1,q1⟩=>chain_link (thn (hb pins s1 σ H1 _ I1 q1) fun u s2 ⟨y,H2,I2,r2,q2⟩ =>
    thn (ho pins s2 σ H2 x y v u _ I2 r1 r2 q2) fun d s3 ⟨z,H3,I3,r3,k,e,q3⟩=>?_)) hm
  subst e
  cases r3
  refine wpAny_truthy_bool ?_
  cases k with
  | false=>exact ite_ff ⟨.bl false,H3,I3,rfl,q3⟩
  | true=>exact ite_tt (chain_last (thn (hc pins s3 σ H3 _ I3 q3) fun w' s4 ⟨z',H4,I4,r4,q4⟩=>ho' pins s4 σ H4 y z' u w' Q I4 r2 r4 q4))
theorem pt_chain {op op':CmpOp} {r r':R2} (ho:OpR X (compareOp op) r) (ho':OpR X (compareOp op') r') (ha:PE X a ta) (hb:PE X b tb) (hc:PE X c tc)
    (hm:lastMarks [op,op'] [b,c]=false:=by with_unfolding_all rfl):PT X (.Compare a [op,op'] [b,c] pos) (tTest (tChain r r' ta tb tc)):=by
  intro pins s σ H Q I h
  refine isTrue_chain (thn (ha pins s σ H _ I h) fun v s1 ⟨x,H1,I1,r1,q1⟩=>test_link (thn (hb pins s1 σ H1 _ I1 q1) fun u s2 ⟨y,H2,I2,r2,q2⟩ =>
    thn (ho pins s2 σ H2 x y v u _ I2 r1 r2 q2) fun d s3 ⟨z,H3,I3,r3,k,e,q3⟩=>?_)) hm
  subst e
  cases r3
  refine wpAny_truthy_bool ?_
  cases k with
  | false =>
    obtain ⟨k',e',q'⟩:=q3
    cases e'
    exact ite_ff ⟨H3,I3,q'⟩
  | true =>
    refine ite_tt (test_last (thn (hc pins s3 σ H3 _ I3 q3) fun w' s4 ⟨z',H4,I4,r4,q4⟩=>thn (ho' pins s4 σ H4 y z' u w' _ I4 r2 r4 q4) fun d' s5 ⟨z2,H5,I5,r5,k2,e2,q5⟩=>?_))
    subst e2
    cases r5
    exact wpAny_truthy_bool ⟨H5,I5,q5⟩
def TruV (K:PySem.W.Frag) (x:V) (H:Hp) (k:Bool):Prop :=
  match x with
  | .non=>k=false
  | .bl b=>k=b
  | .int i=>k=(i != 0)
  | .str y=>y.length≤sizeLine∧k=((y.length:Int) != 0)
  | .byt y=>y.size≤sizeLine∧k=((y.size:Int) != 0)
  | .ref p=>(∃ xs,SqL K H p xs∧k=!xs.isEmpty)∨(∃ xs,SqT K H p xs∧k=!xs.isEmpty)∨∃ kvs,H p=some (.dK kvs)∧k=!kvs.isEmpty
  | _=>False
theorem isEmpty_kv {κ:Type} {kvs:List (κ × V)} {vs:List (κ × Value)} (r:KV kvs vs):(!vs.isEmpty)=!kvs.isEmpty:=by
  cases r <;> rfl
theorem isEmpty_of {xs:List V} {its:List Value} (r:Vals xs its):(!its.toArray.isEmpty)=!xs.isEmpty:=by
  cases r <;> simp
theorem line63:(sizeLine:Nat) < 2^63:=by rw [sizeLine_eq]; decide
theorem tru_ok:TruR X (fun x H Q=>∃ k,TruV X.K x H k∧Q k H):=by
  intro pins s σ H x v Q I rx h
  obtain ⟨k,e,q⟩:=h
  have hl:=line63
  have hs:sizeLine=16777216:=sizeLine_eq
  cases x with
  | non =>
    cases rx
    have e':k=false:=e
    subst e'
    exact truthy_none ⟨H,I,q⟩
  | bl b =>
    cases rx
    have e':k=b:=e
    subst e'
    exact wpAny_truthy_bool ⟨H,I,q⟩
  | int i =>
    obtain ⟨t,rfl⟩:=rx
    have e':k=(i != 0):=e
    subst e'
    exact PySem.P.truthy_int ⟨H,I,q⟩
  | str y =>
    obtain ⟨t,rfl⟩:=rx
    obtain ⟨hy,e'⟩:y.length≤sizeLine∧k=((y.length:Int) != 0):=e
    subst e'
    exact PySem.P.truthy_str (by omega) ⟨H,I.tok _,q⟩
  | byt y =>
    obtain ⟨t,rfl⟩:=rx
    obtain ⟨hy,e'⟩:y.size≤sizeLine∧k=((y.size:Int) != 0):=e
    subst e'
    exact PySem.W.truthy_bytes (by omega) ⟨H,I.tok _,q⟩
  | ref p =>
    cases rx
    have e':(∃ xs,SqL X.K H p xs∧k=!xs.isEmpty)∨(∃ xs,SqT X.K H p xs∧k=!xs.isEmpty)∨∃ kvs,H p=some (.dK kvs)∧k=!kvs.isEmpty:=e
    rcases e' with ⟨xs,hx,e'⟩ | ⟨xs,hx,e'⟩ | ⟨kvs,hx,e'⟩
    · subst e'
      obtain ⟨its,r,pl,hz⟩:=I.list hx
      have hlen:=r.length
      exact wpAny_truthy_list pl.isList (by simp only [List.size_toArray]; omega) ⟨H,I.tok _,by rw [isEmpty_of r]; exact q⟩
    · subst e'
      obtain ⟨its,r,pl,hz⟩:=I.tuple hx
      have hlen:=r.length
      exact truthy_tuple pl (by simp only [List.size_toArray]; omega) ⟨H,I.tok _,by rw [isEmpty_of r]; exact q⟩
    · subst e'
      obtain ⟨hz,hS,vs,r,m⟩:kvs.length≤sizeLine∧(p == sysModules)=false∧∃ vs,KV kvs vs∧s.heap.DictOf (mixKind X.prog X.w) p vs:=I.hok p _ hx
      have hlen:kvs.length=vs.length:=Paired.length r
      exact wpAny_truthy_dict hS m (by omega) ⟨H,I.tok _,by rw [isEmpty_kv r]; exact q⟩
  | _=>exact (show False from e).elim
theorem pt_truth (ha:PE X a ta) (he:∀ whole,isTrue a X.env whole=(do let v ← whole; standAt a.pos; holding [v] (truthy v))) :
    PT X a (fun σ H Q=>ta σ H fun x H'=>∃ k,TruV X.K x H' k∧Q k H'):=by
  intro pins s σ H Q I h
  exact isTrue_plain (thn (ha pins s σ H _ I h) fun v s1 ⟨x,H1,I1,r1,q1⟩=>tru_ok pins s1 σ H1 x v Q I1 r1 q1) (he _)
theorem vals1 {x:V} {us:List Value} (r:Vals [x] us):∃ u,us=[u]∧RelV x u:=by
  cases r with
  | cons r1 r2=>cases r2; exact ⟨_,rfl,r1⟩
theorem vals2 {x y:V} {us:List Value} (r:Vals [x,y] us):∃ u w',us=[u,w']∧RelV x u∧RelV y w':=by
  cases r with
  | cons r1 r2 =>
    cases r2 with
    | cons r3 r4=>cases r4; exact ⟨_,_,rfl,r1,r3⟩
theorem call_max2 (hc:X.calm=true):CallR X (.builtin "max") (fun xs H Q=>∃ i j,xs=[.int i,.int j]∧Q (.int (if j > i then j else i)) H):=by
  intro pins s σ H xs us Q I r h
  obtain ⟨i,j,rfl,q⟩:=h
  obtain ⟨u,w',rfl,⟨t,rfl⟩,⟨t',rfl⟩⟩:=vals2 r
  refine max_two_ints (I.ok.hd hc) fun h' tk k=>⟨_,H,I.kept k,?_,q⟩
  by_cases hj:j > i
  · rw [if_pos hj,if_pos hj]; exact ⟨_,rfl⟩
  · rw [if_neg hj,if_neg hj]; exact ⟨_,rfl⟩
theorem call_min2 (hc:X.calm=true):CallR X (.builtin "min") (fun xs H Q=>∃ i j,xs=[.int i,.int j]∧Q (.int (if j < i then j else i)) H):=by
  intro pins s σ H xs us Q I r h
  obtain ⟨i,j,rfl,q⟩:=h
  obtain ⟨u,w',rfl,⟨t,rfl⟩,⟨t',rfl⟩⟩:=vals2 r
  refine min_two_ints (I.ok.hd hc) fun h' tk k=>⟨_,H,I.kept k,?_,q⟩
  by_cases hj:j < i
  · rw [if_pos hj,if_pos hj]; exact ⟨_,rfl⟩
  · rw [if_neg hj,if_neg hj]; exact ⟨_,rfl⟩
end
end L2
namespace L2
open PySem PySem.Spec PyProof.Rows
structure ObjM (h:Heap) (x dx C:Addr) (mA:Str→Option Value):Prop where
  obj:h.get? x=some (PySem.W.instObj C dx)
  ns:h.Ns1 dx mA
  ne:dx≠x
theorem lookIn_ns {h:Heap} {dx:Addr} {mA:Str→Option Value} (n:h.Ns1 dx mA):∃ od,h.get? dx=some od∧∀ name,PySem.W.lookIn name od=some (mA name):=by
  obtain ⟨o,es,ep,ho,hd,hk,_,hm⟩:=n
  refine ⟨o,ho,fun name=>?_⟩
  have e:=hm name
  unfold nsFind findBy at e
  rw [← Array.find?_toList] at e
  unfold PySem.W.lookIn
  rw [hd]
  dsimp only
  split
  · rename_i y q
    rw [q] at e
    exact congrArg some e
  · rename_i q
    rw [q] at e
    have a:es.toList.any (·.refKey)=false:=by
      rw [List.any_eq_false]
      intro y hy
      obtain ⟨z,t,hkey⟩:=hk y (Array.mem_toList_iff.mp hy)
      simp [DictEntry.refKey,hkey]
    have a':¬ es.toList.any (·.refKey)=true:=by rw [a]; exact Bool.false_ne_true
    rw [if_neg a']
    exact congrArg some e
theorem ObjM.look {h:Heap} {x dx C:Addr} {mA:Str→Option Value} (I:ObjM h x dx C mA):∃ od,PySem.W.InstAt h x (PySem.W.instObj C dx) C (some od)∧∀ name,PySem.W.lookIn name od=some (mA name) :=
  let ⟨od,ho,hl⟩:=lookIn_ns I.ns
  ⟨od,⟨I.obj,rfl,rfl,ho⟩,hl⟩
section
variable {prog:Program} {w:World} {A:Around} {E:Value→Shared→Prop} {s:Shared} {K:PySem.W.Frag} {x dx C f:Addr} {mA:Str→Option Value} {name:Str} {v:Value}
theorem get_map {expr:Bool} {Q:Value→Shared→Prop} (X:K.In s.heap) (I:ObjM s.heap x dx C mA) (hg:PySem.W.plainGet K C name=true) (hh:PySem.W.hasDictIn K C=true)
    (ha:PySem.W.findIn K (.ref C) name=some none) (hv:mA name=some v) (hv':PySem.W.handedIn v=true) (h:Q v { s with toks:=s.toks+1 }) :
    wpAny (model prog w) A (getAttr (.ref x) name expr) Q E s:=by
  obtain ⟨od,J,hl⟩:=I.look
  exact PySem.W.get_value X J (PySem.W.plainGet_of hg).1 (PySem.W.findObj_own hh ha rfl (by rw [hl,hv])) hv' h
theorem get_meth {pl:Sem Bool} {Q:Value × List Value→Shared→Prop} (X:K.In s.heap) (I:ObjM s.heap x dx C mA) (hg:PySem.W.plainGet K C name=true)
    (hf:PySem.W.findIn K (.ref C) name=some (some (.ref f))) (ht:PySem.W.isFn K (.ref f)=true) (hv:mA name=none) (h:Q (.ref f,[.ref x]) s) :
    wpAny (model prog w) A (getMethod (.ref x) name pl) Q E s:=by
  obtain ⟨od,J,hl⟩:=I.look
  exact PySem.W.method_fn X J (PySem.W.plainGet_of hg).1 (PySem.W.plainGet_of hg).2 hf (beq_iff_eq.mp ht) (by show (PySem.W.lookIn name od).map (·.isSome)=some false; rw [hl,hv]; rfl) h
theorem set_map {ns:List Str} {Q:Unit→Shared→Prop} (X:K.In s.heap) (I:ObjM s.heap x dx C mA)
    (hs:PySem.W.findIn K (.ref C) "__setattr__"=some (some (.builtin "object.__setattr__"))) (hp:PySem.W.plainOver K C=true) (ht:PySem.W.takerIn K C name=some none) (hh:PySem.W.hasDictIn K C=true)
    (hw:PySem.Within mA ns) (hsz:ns.length≤sizeLine)
    (h:∀ h',ObjM h' x dx C (fun y=>if y=name then some v else mA y)→Heap.SameBut dx s.heap h'→Q () { s with heap:=h',toks:=s.toks+2 }) :
    wpAny (model prog w) A (setAttr (.ref x) name v) Q E s:=by
  obtain ⟨od,J,hl⟩:=I.look
  refine PySem.W.set_plain X J hs (PySem.W.osa_open (s:={ s with toks:=s.toks+1 }) (r:=none) X J hp ht fun b=>?_)
  obtain ⟨cd,hc,hd'⟩:=PySem.W.any_some hh
  have hx:s.heap.get? x=some ⟨.ref C,some dx,.plain,#[]⟩:=I.obj
  refine wpAny_bind (wpAny_pure (wpAny_bind (wpAny_bind (wpAny_loadPart hx (wpAny_bind (PySem.W.Looks.here (s:={ s with toks:=s.toks+1 }) (PySem.W.looks_clsIn X hc) ?_))))))
  rw [hd']
  refine wpAny_pure (a:=some dx) (wpAny_bind (wpAny_pure (wpAny_bind ?_)))
  refine wpAny_nsSet1 (s:={ s with toks:=s.toks+1 }) I.ns fun h' hn2 hs2=>?_
  obtain ⟨oD,esD,epD,hoD,hdD,hcD⟩:=hn2.count (PySem.Within.cons name v hw)
  refine wpAny_bind (wpAny_lookBehind hoD (by rw [hdD]; exact pastItsLine_dict (Nat.le_trans hcD (by rw [List.length_cons]; omega))) ?_)
  exact wpAny_pure (h _ ⟨(hs2.2 _ (Ne.symm I.ne)).trans I.obj,hn2,I.ne⟩ hs2)
theorem make_map {R:Result→Shared→Prop} {vs:List Value} {kw:List (Str × Value)} (X:K.In s.heap) (hm:PySem.W.makesIn K C=true)
    (hi:PySem.W.findIn K (.ref C) "__init__"=some (some (.ref f))) (hf:PySem.W.typeIn K (.ref f)=some (.type "function"))
    (h:codeAny (model prog w) (A.under (.builtin "type.__call__" ⟨.ref C :: vs,kw⟩)) (.call (.ref f) ⟨.ref (s.heap.objs.size+1) :: vs,kw⟩) (PySem.W.InitBack (s.heap.objs.size+1) R)
      { s with heap:=(s.heap.push PySem.W.emptyDict).push (PySem.W.instObj C s.heap.objs.size) }) :
    codeAny (model prog w) A (.call (.ref C) ⟨vs,kw⟩) R s:=by
  obtain ⟨hh,g,d,t,os⟩:=s
  exact PySem.W.make_core (PySem.W.makes_of X hm) (PySem.W.looks_findIn X hi) (fun self=>PySem.W.bind_fn X self hf) (.inl rfl) h
end
def putF (f:Str) (v:V):List (Str × V)→List (Str × V)
  | []=>[(f,v)]
  | (g,x) :: r=>if g=f then (g,v) :: r else (g,x) :: putF f v r
theorem lookup_putF (f g:Str) (v:V):∀ fs:List (Str × V),(putF f v fs).lookup g=if g=f then some v else fs.lookup g
  | []=>by
    show List.lookup g [(f,v)]=_
    by_cases h:g=f
    · have hb:(g == f)=true:=beq_iff_eq.mpr h
      simp only [List.lookup,hb,if_pos h]
    · have hb:(g == f)=false:=beq_eq_false_iff_ne.mpr h
      simp only [List.lookup,hb,if_neg h]
  | (k,x) :: r=>by
    have ih:=lookup_putF f g v r
    rw [show putF f v ((k,x) :: r)=(if k=f then (k,v) :: r else (k,x) :: putF f v r) from rfl]
    by_cases hk:k=f
    · rw [if_pos hk]
      by_cases h:g=k
      · have hb:(g == k)=true:=beq_iff_eq.mpr h
        simp only [List.lookup,hb,if_pos (h.trans hk)]
      · have hb:(g == k)=false:=beq_eq_false_iff_ne.mpr h
        simp only [List.lookup,hb,if_neg (fun e:g=f=>h (e.trans hk.symm))]
    · rw [if_neg hk]
      by_cases h:g=k
      · have hb:(g == k)=true:=beq_iff_eq.mpr h
        simp only [List.lookup,hb,if_neg (fun e:g=f=>hk (h.symm.trans e))]
      · have hb:(g == k)=false:=beq_eq_false_iff_ne.mpr h
        simp only [List.lookup,hb]
        exact ih
theorem keys_putF (f:Str) (v:V):∀ fs:List (Str × V),f∈(putF f v fs).map (·.1)∧∀ g,g∈fs.map (·.1)→g∈(putF f v fs).map (·.1)
  | []=>⟨by simp [putF],fun g h=>by simp at h⟩
  | (k,x) :: r=>by
    obtain ⟨i1,i2⟩:=keys_putF f v r
    rw [show putF f v ((k,x) :: r)=(if k=f then (k,v) :: r else (k,x) :: putF f v r) from rfl]
    by_cases hk:k=f
    · rw [if_pos hk]
      subst hk
      exact ⟨by simp,fun g h=>by simpa using h⟩
    · rw [if_neg hk]
      refine ⟨?_,fun g h=>?_⟩
      · rw [List.map_cons]
        exact List.mem_cons_of_mem _ i1
      · rw [List.map_cons] at h ⊢
        rcases List.mem_cons.mp h with e | e
        · exact List.mem_cons.mpr (.inl e)
        · exact List.mem_cons_of_mem _ (i2 g e)
theorem length_putF (f:Str) (v:V):∀ fs:List (Str × V),(putF f v fs).length≤fs.length+1
  | []=>by simp [putF]
  | (k,x) :: r=>by
    have ih:=length_putF f v r
    rw [show putF f v ((k,x) :: r)=(if k=f then (k,v) :: r else (k,x) :: putF f v r) from rfl]
    by_cases hk:k=f
    · rw [if_pos hk,List.length_cons,List.length_cons]; omega
    · rw [if_neg hk,List.length_cons,List.length_cons]; omega
theorem RelO.some_of {v:V} {o:Option Value} (r:RelO (some v) o):∃ u,o=some u∧RelV v u:=by
  cases o with
  | none=>exact (show False from r).elim
  | some u=>exact ⟨u,rfl,r⟩
theorem RelO.none_of {o:Option Value} (r:RelO none o):o=none:=by
  cases o with
  | none=>rfl
  | some u=>exact (show False from r).elim
theorem handed_of {v:V} {u:Value} (r:RelV v u):PySem.W.handedIn u=true:=by
  cases v with
  | non=>cases (show u=Value.none from r); rfl
  | bl b=>cases (show u=Value.bool b from r); rfl
  | int i=>obtain ⟨t,e⟩:=(show ∃ t,u=Value.int i t from r); cases e; rfl
  | str x=>obtain ⟨t,e⟩:=(show ∃ t,u=Value.str x t from r); cases e; rfl
  | byt b=>obtain ⟨t,e⟩:=(show ∃ t,u=Value.bytes b t from r); cases e; rfl
  | flt b=>obtain ⟨t,e⟩:=(show ∃ t,u=Value.float b t from r); cases e; rfl
  | ref a=>cases (show u=Value.ref a from r); rfl
  | ty n=>cases (show u=Value.type n from r); rfl
section
variable {P:Program} {w:World} {H H':Hp} {h h':Heap} {a C dx:Addr} {fs fs':List (Str × V)}
theorem ins_get (hok:HOk P w H h) (e:H a=some (.ins C dx fs)):∃ mA,ObjM h a dx C mA∧(∀ f,RelO (fs.lookup f) (mA f))∧PySem.Within mA (fs.map (·.1))∧fs.length≤1000∧H dx=some (.own a):=by
  obtain ⟨d,z,ne,ob,mA,n,r,q⟩:=(show ObjOk P w H h a (.ins C dx fs) from hok a _ e)
  exact ⟨mA,⟨ob,n,ne⟩,r,q,z,d⟩
end
structure Cls (K:PySem.W.Frag) (C:Addr):Prop where
  pg:PySem.W.plainGet K C Str.empty=true
  hd:PySem.W.hasDictIn K C=true
  po:PySem.W.plainOver K C=true
  sa:PySem.W.findIn K (.ref C) "__setattr__"=some (some (.builtin "object.__setattr__"))
theorem Cls.get {K:PySem.W.Frag} {C:Addr} (c:Cls K C) (f:Str):PySem.W.plainGet K C f=true:=c.pg
def NoAttr (K:PySem.W.Frag) (C:Addr) (f:Str):Prop:=PySem.W.findIn K (.ref C) f=some none
theorem NoAttr.taker {K:PySem.W.Frag} {C:Addr} {f:Str} (n:NoAttr K C f):PySem.W.takerIn K C f=some none:=by
  unfold PySem.W.takerIn
  rw [show PySem.W.findIn K (.ref C) f=some none from n]
  rfl
structure Meth (K:PySem.W.Frag) (C:Addr) (m:Str) (f:Addr):Prop where
  at_:PySem.W.findIn K (.ref C) m=some (some (.ref f))
  fn:PySem.W.isFn K (.ref f)=true
  kp:PySem.W.keepIn K (.ref f)=true
section
variable {X:Cx} {pins:List (Addr × Obj)} {σ:St} {H:Hp} {s:Shared} {a C dx:Addr} {fs:List (Str × V)} {f:Str} {v:V} {A:Around} {E:Value→Shared→Prop}
theorem getattr_ok {b:Bool} {Q:Value→Shared→Prop} (I:Inv X pins σ H s) (e:H a=some (.ins C dx fs)) (c:Cls X.K C) (n:NoAttr X.K C f) (l:fs.lookup f=some v)
    (h:∀ u s',Inv X pins σ H s'→RelV v u→Q u s'):wpAny (model X.prog X.w) A (getAttr (.ref a) f b) Q E s:=by
  obtain ⟨mA,O,r,_,_,_⟩:=ins_get I.hok e
  obtain ⟨u,hu,ru⟩:=RelO.some_of (v:=v) (o:=mA f) (by rw [← l]; exact r f)
  exact get_map I.kIn O (c.get f) c.hd n hu (handed_of ru) (h u _ (I.tok _) ru)
theorem getmeth_ok {m:Str} {g:Addr} {pl:Sem Bool} {Q:Value × List Value→Shared→Prop} (I:Inv X pins σ H s) (e:H a=some (.ins C dx fs)) (c:Cls X.K C) (k:Meth X.K C m g) (l:fs.lookup m=none)
    (h:Q (.ref g,[.ref a]) s):wpAny (model X.prog X.w) A (getMethod (.ref a) m pl) Q E s:=by
  obtain ⟨mA,O,r,_,_,_⟩:=ins_get I.hok e
  have hn:mA m=none:=RelO.none_of (by rw [← l]; exact r m)
  exact get_meth I.kIn O (c.get m) k.at_ k.fn hn h
theorem setattr_ok {y:V} {u:Value} {Q:Unit→Shared→Prop} (I:Inv X pins σ H s) (e:H a=some (.ins C dx fs)) (c:Cls X.K C) (n:NoAttr X.K C f) (hl:fs.length < 1000) (ry:RelV y u)
    (h:∀ s',Inv X pins σ (upd H a (.ins C dx (putF f y fs))) s'→Q () s'):wpAny (model X.prog X.w) A (setAttr (.ref a) f u) Q E s:=by
  obtain ⟨mA,O,r,wi,_,ho⟩:=ins_get I.hok e
  have hz:(fs.map (·.1)).length≤sizeLine:=by rw [List.length_map,sizeLine_eq]; omega
  refine set_map I.kIn O c.sa c.po n.taker c.hd wi hz fun h' O' sb=>h _ ?_
  have hd:∃ o,h'.get? dx=some o:=let ⟨o,_,_,e',_⟩:=O'.ns; ⟨o,e'⟩
  refine I.write (x:=a) (e:=dx) (by rw [e]; exact True.intro) (.inr ho) (fun b q hb z=>(sb.2 b hb).trans z) hd ?_
  refine ⟨by rw [upd_ne O.ne]; exact ho,?_,O.ne,O'.obj,_,O'.ns,fun g=>?_,fun g hg=>?_⟩
  · have:=length_putF f y fs; omega
  · show RelO ((putF f y fs).lookup g) (if g=f then some u else mA g)
    rw [lookup_putF]
    by_cases q:g=f
    · rw [if_pos q,if_pos q]; exact ry
    · rw [if_neg q,if_neg q]; exact r g
  · by_cases q:g=f
    · rw [q]; exact (keys_putF f y fs).1
    · refine (keys_putF f y fs).2 g (wi g fun z=>hg ?_)
      show (if g=f then some u else mA g)=none
      rw [if_neg q]; exact z
theorem Inv.made (I:Inv X pins σ H s):Inv X pins σ (upd (upd H s.heap.objs.size (.own (s.heap.objs.size+1))) (s.heap.objs.size+1) (.ins C s.heap.objs.size []))
    { s with heap:=(s.heap.push PySem.W.emptyDict).push (PySem.W.instObj C s.heap.objs.size) }:=by
  have e1:(s.heap.push PySem.W.emptyDict).get? s.heap.objs.size=some PySem.W.emptyDict:=Heap.get?_push_size s.heap rfl
  have e2:((s.heap.push PySem.W.emptyDict).push (PySem.W.instObj C s.heap.objs.size)).get? (s.heap.objs.size+1)=some (PySem.W.instObj C s.heap.objs.size):=by
    have:=Heap.get?_push_size (s.heap.push PySem.W.emptyDict) (o:=PySem.W.instObj C s.heap.objs.size) rfl
    rwa [Heap.size_push] at this
  have e3:(s.heap.push PySem.W.emptyDict).Ns s.heap.objs.size (fun _=>none):=⟨PySem.W.emptyDict,#[],_,e1,rfl,(fun e he=>absurd he (by simp)),fun _=>rfl⟩
  have I1:=I.laid (a:=s.heap.objs.size) (o:=.own (s.heap.objs.size+1)) (h':=s.heap.push PySem.W.emptyDict) (t':=s.toks) (fun b u q=>Heap.get?_push_of_some _ q) (Nat.le_refl _) ⟨_,e1⟩
  refine I1.laid (a:=s.heap.objs.size+1) (o:=.ins C s.heap.objs.size []) (t':=s.toks) (fun b u q=>Heap.get?_push_of_some _ q) (Nat.le_of_eq (Heap.size_push _ _)) ?_
  have ne:s.heap.objs.size≠s.heap.objs.size+1:=Nat.ne_of_lt (Nat.lt_succ_self _)
  refine ⟨by rw [upd_ne ne,upd_same],Nat.zero_le _,ne,e2,fun _=>none,(Heap.Ns1.of_empty e3).at fun o q=>Heap.get?_push_of_some _ q,fun _=>True.intro,fun y hy=>absurd rfl hy⟩
theorem attr_of {prog:Program} {w:World} {env:Env} {e:Expr} {f:Str} {pos:Pos} {s:Shared} {Q:Value→Shared→Prop} (hb:attributeBase e f env (eval e env)=eval e env)
    (h:wpAny (model prog w) A (eval e env) (fun o s₁=>wpAny (model prog w) A (getAttr o f true) Q E s₁) E s):wpAny (model prog w) A (eval (.Attribute e f pos) env) Q E s :=
  Attribute_any_ h (by rw [arm_eval_Attribute,hb])
end
def tFld (K:PySem.W.Frag) (ta:TE) (f:Str):TE:=fun σ H Q=>ta σ H fun x H1=>∃ a C dx fs v,x=.ref a∧H1 a=some (.ins C dx fs)∧Cls K C∧NoAttr K C f∧fs.lookup f=some v∧Q v H1
def sFld (K:PySem.W.Frag) (ta tv:TE) (f:Str):TS:=fun D σ H=>tv σ H fun y H1=>ta σ H1 fun x H2=>∃ a C dx fs,x=.ref a∧H2 a=some (.ins C dx fs)∧Cls K C∧NoAttr K C f∧fs.length < 1000 ∧
  D.nx σ (upd H2 a (.ins C dx (putF f y fs)))
section
variable {X:Cx} {o e value:Expr} {f:Str} {pos pos' tpos:Pos} {ta tv:TE}
theorem pe_fld (he:PE X e ta) (hb:attributeBase e f X.env (eval e X.env)=eval e X.env):PE X (.Attribute e f pos) (tFld X.K ta f):=by
  intro pins s σ H Q I h
  refine attr_of hb (thn (he pins s σ H _ I h) fun u s1 ⟨x,H1,I1,rx,a,C,dx,fs,v,ex,ea,c,n,l,q⟩=>?_)
  subst ex
  obtain rfl:u=Value.ref a:=rx
  exact getattr_ok I1 ea c n l fun u' s2 I2 ru=>⟨v,H1,I2,ru,q⟩
theorem ps_fld (ha:PE X o ta) (hv:PE X value tv) (hs:swapsWith value (some (.Attribute o f pos')) pos.line X.env=pure false):PS X (.Assign [.Attribute o f pos'] value pos) (sFld X.K ta tv f):=by
  intro pins s σ H D I h
  refine plainObj_wpAny_Assign_Attribute (thn (hv pins s σ H _ I h) fun u s1 ⟨y,H1,I1,ry,q⟩=>thn (ha pins s1 σ H1 _ I1 q) fun ov s2 ⟨x,H2,I2,rx,a,C,dx,fs,ex,ea,c,n,l,q2⟩=>?_) hs
  subst ex
  obtain rfl:ov=Value.ref a:=rx
  exact setattr_ok I2 ea c n l ry fun s3 I3=>⟨σ,_,I3,q2⟩
end
section
variable {X:Cx} {pins:List (Addr × Obj)} {σ:St} {H:Hp} {s:Shared} {A:Around} {E:Value→Shared→Prop} {Q:Value→Shared→Prop} {c:Value} {b:Bool}
inductive TyOf (K:PySem.W.Frag) (H:Hp):V→Value→Prop where
  | non:TyOf K H .non (.type "NoneType")
  | bl (x:Bool):TyOf K H (.bl x) (.type "bool")
  | int (i:Int):TyOf K H (.int i) (.type "int")
  | str (x:Str):TyOf K H (.str x) (.type "str")
  | flt (x:UInt64):TyOf K H (.flt x) (.type "float")
  | lst {a:Addr} {xs:List V} (e:H a=some (.lst xs)):TyOf K H (.ref a) (.type "list")
  | frz {a:Addr} {o:Obj} {xs:List V} (e:H a=some (.frz o (.lst xs))):TyOf K H (.ref a) (.type "list")
  | tup {a:Addr} {xs:List V} (e:H a=some (.tup xs)):TyOf K H (.ref a) (.type "tuple")
  | dK {a:Addr} {kvs:List (Key × V)} (e:H a=some (.dK kvs)):TyOf K H (.ref a) (.type "dict")
  | dT {a:Addr} {kvs:List (List Key × V)} (e:H a=some (.dT kvs)):TyOf K H (.ref a) (.type "dict")
  | ins {a C dx:Addr} {fs:List (Str × V)} (e:H a=some (.ins C dx fs)) (cl:Cls K C) (ha:PySem.W.findIn K (.ref C) "__class__"=some (some (.builtin "object.__class__")))
      (hn:PySem.W.specialIn K (.builtin "object.__class__") "__get__"=some (some (.builtin "getset_descriptor.__get__"))) (htk:PySem.W.takesIn K (.builtin "object.__class__")=some true)
      (hm:PySem.W.mroIn K C (.type "object")=some true):TyOf K H (.ref a) (.ref C)
theorem isinst_ok {x:V} {u t:Value} (I:Inv X pins σ H s) (rx:RelV x u) (ty:TyOf X.K H x t) (e:PySem.W.kitOne X.K t c=some b) (h:∀ tk,Q (.bool b) { s with toks:=tk }) :
    wpAny (model X.prog X.w) A (call (.builtin "isinstance") [u,c]) Q E s:=by
  cases ty with
  | non=>cases (show u=Value.none from rx); exact PySem.W.kia_one PySem.W.kitx_none I.kIn True.intro e (fun z=>nomatch z) h
  | bl y=>cases (show u=Value.bool y from rx); exact PySem.W.kia_one PySem.W.kitx_bool I.kIn True.intro e (fun z=>nomatch z) h
  | int i=>obtain ⟨t,q⟩:=(show ∃ t,u=Value.int i t from rx); cases q; exact PySem.W.kia_one PySem.W.kitx_int I.kIn True.intro e (fun z=>nomatch z) h
  | str y=>obtain ⟨t,q⟩:=(show ∃ t,u=Value.str y t from rx); cases q; exact PySem.W.kia_one PySem.W.kitx_str I.kIn True.intro e (fun z=>nomatch z) h
  | flt y=>obtain ⟨t,q⟩:=(show ∃ t,u=Value.float y t from rx); cases q; exact PySem.W.kia_one PySem.W.kitx_float I.kIn True.intro e (fun z=>nomatch z) h
  | @lst a xs ea =>
    cases (show u=Value.ref a from rx)
    obtain ⟨_,_,n,_,h1⟩:=(show ObjOk X.prog X.w H s.heap a (.lst xs) from I.hok a _ ea)
    exact PySem.W.kia_one PySem.W.kitx_list I.kIn ⟨_,h1,rfl⟩ e (fun z=>nomatch z) h
  | @frz a ob xs ea =>
    cases (show u=Value.ref a from rx)
    obtain ⟨_,_,_,n,_,h1⟩:=(show ObjOk X.prog X.w H s.heap a (.frz ob (.lst xs)) from I.hok a _ ea)
    exact PySem.W.kia_one PySem.W.kitx_list I.kIn ⟨_,h1,rfl⟩ e (fun z=>nomatch z) h
  | @tup a xs ea =>
    cases (show u=Value.ref a from rx)
    obtain ⟨_,_,_,p⟩:=(show ObjOk X.prog X.w H s.heap a (.tup xs) from I.hok a _ ea)
    obtain ⟨o,h1,h2,_⟩:=p
    exact PySem.W.kia_one PySem.W.kitx_tuple I.kIn ⟨o,h1,h2⟩ e (fun z=>nomatch z) h
  | @dK a kvs ea =>
    cases (show u=Value.ref a from rx)
    obtain ⟨_,_,vs,_,p⟩:=(show ObjOk X.prog X.w H s.heap a (.dK kvs) from I.hok a _ ea)
    obtain ⟨o,es,ep,h1,h2,_⟩:=p
    exact PySem.W.kia_one PySem.W.kitx_dict I.kIn ⟨o,h1,h2.1⟩ e (fun z=>nomatch z) h
  | @dT a kvs ea =>
    cases (show u=Value.ref a from rx)
    obtain ⟨_,_,xs,_,o,es,ep,h1,h2,_⟩:=(show ObjOk X.prog X.w H s.heap a (.dT kvs) from I.hok a _ ea)
    exact PySem.W.kia_one PySem.W.kitx_dict I.kIn ⟨o,h1,h2.1⟩ e (fun z=>nomatch z) h
  | @ins a C dx fs ea cl ha hn htk hm =>
    cases (show u=Value.ref a from rx)
    obtain ⟨mA,O,_⟩:=ins_get I.hok ea
    obtain ⟨od,J,_⟩:=O.look
    exact PySem.W.kia_one (PySem.W.kitx_own (cl.get _) cl.hd ha hn htk hm) I.kIn J e (fun z=>nomatch z) h
end
end L2
namespace L2
open PySem PySem.Spec PyProof.Rows
structure Room (k:Nat) (A:Around):Prop where
  hd:A.handled=none
  dp:A.depth+3 * k+5 < recursionLimit
  un:A.units+16 * k+200 < cLine
theorem Room.mono {j k:Nat} {A:Around} (r:Room k A) (h:j≤k):Room j A:=⟨r.hd,by have:=r.dp; omega,by have:=r.un; omega⟩
theorem Room.deeper {k:Nat} {A:Around} (r:Room (k+1) A) (env:Env):Room k (A.deeper env) :=
  ⟨r.hd,by have:=r.dp; show A.depth+1+3 * k+5 < _; omega,by have:=r.un; show A.units+3+16 * k+200 < _; omega⟩
theorem make_depth {A:Around} {C:Addr} {us:List Value} {kw:List (Str × Value)}:(A.under (.builtin "type.__call__" ⟨.ref C :: us,kw⟩)).depth=A.depth+1:=by
  first | rfl | simp [Around.under,Code.weight,Code.isCreation,Code.isGuard,Code.isCaller,Code.frames,Code.isFrame,guardIds]
theorem make_units {A:Around} {C:Addr} {us:List Value} {kw:List (Str × Value)}:(A.under (.builtin "type.__call__" ⟨.ref C :: us,kw⟩)).units=A.units+1:=by
  first | rfl | simp [Around.under,Code.cUnits,Code.frames,Code.isFrame]
theorem Room.make {k:Nat} {A:Around} (r:Room (k+1) A) (C:Addr) (us:List Value) (kw:List (Str × Value)):Room k (A.under (.builtin "type.__call__" ⟨.ref C :: us,kw⟩)) :=
  ⟨r.hd,by have:=r.dp; rw [make_depth]; omega,by have:=r.un; rw [make_units]; omega⟩
theorem Room.depth {k:Nat} {A:Around} (r:Room k A):A.depth < recursionLimit:=by have:=r.dp; omega
theorem Room.units {k:Nat} {A:Around} (r:Room k A):A.units+64 < cLine:=by have:=r.un; omega
def tNil:TA:=fun _ H Q=>Q [] H
def tCons (ta:TE) (tr:TA):TA:=fun σ H Q=>ta σ H fun x H1=>tr σ H1 fun xs H2=>Q (x :: xs) H2
section
variable {X:Cx} {e:Expr} {es:List Expr} {te:TE} {t:TA} {pos:Pos}
theorem pa_nil:PA X [] tNil:=fun _ _ _ _ H Q I h=>Calls.spliced_nil ⟨[],H,I,.nil,h⟩
theorem pa_cons (ha:PE X e te) (hr:PA X es t) (hs:starEach (e :: es) X.env=(false,eval e X.env) :: starEach es X.env:=by rfl):PA X (e :: es) (tCons te t):=by
  intro pos pins s σ H Q I h
  rw [hs]
  show wpAny _ _ (spliced ((false,eval e X.env) :: backTo pos (starEach es X.env))) _ _ s
  refine Calls.spliced_cons (thn (ha pins s σ H _ I h) fun u s1 ⟨x,H1,I1,r1,q1⟩=>?_)
  exact thn (hr pos pins s1 σ H1 _ I1 q1) fun us s2 ⟨xs,H2,I2,r2,q2⟩=>⟨x :: xs,H2,I2,.cons r1 r2,q2⟩
def tTup (t:TA):TE:=fun σ H Q=>t σ H fun xs H1=>xs.length≤sizeLine∧∀ p,H1 p=none→Q (.ref p) (upd H1 p (.tup xs))
def tLst (t:TA):TE:=fun σ H Q=>t σ H fun xs H1=>xs.length≤sizeLine∧∀ p,H1 p=none→Q (.ref p) (upd H1 p (.lst xs))
theorem pe_tup {x1} (h:PA X es t):PE X (.Tuple es x1 pos) (tTup t):=by
  intro pins s σ H Q I hq
  refine wpAny_Tuple_spliced (thn (h pos pins s σ H _ I hq) fun us s1 ⟨xs,H1,I1,r,z,q⟩=>⟨by rw [← r.length]; exact z,?_⟩)
  have hf:H1 s1.heap.objs.size=none:=I1.hok.fresh (Nat.le_refl _)
  refine ⟨.ref s1.heap.objs.size,upd H1 s1.heap.objs.size (.tup xs),I1.laid (t':=s1.toks) (fun b u e=>Heap.get?_push_of_some _ e) (Nat.le_refl _) ?_,rfl,q _ hf⟩
  exact ⟨z,us,r,⟨_,Heap.get?_push_size _ rfl,rfl,_,rfl⟩⟩
theorem pe_lst (h:PA X es t):PE X (.List es pos) (tLst t):=by
  intro pins s σ H Q I hq
  refine wpAny_List_spliced (thn (h pos pins s σ H _ I hq) fun us s1 ⟨xs,H1,I1,r,z,q⟩=>⟨by rw [← r.length]; exact z,?_⟩)
  have hf:H1 s1.heap.objs.size=none:=I1.hok.fresh (Nat.le_refl _)
  refine ⟨.ref s1.heap.objs.size,upd H1 s1.heap.objs.size (.lst xs),I1.laid (t':=s1.toks) (fun b u e=>Heap.get?_push_of_some _ e) (Nat.le_refl _) ?_,rfl,q _ hf⟩
  exact ⟨z,us,0,r,Heap.get?_push_size _ rfl⟩
end
abbrev Sp:=List V→Hp→VK→XK→Prop
abbrev CXT:=List Env→Hp→Shared→XK→Value→Shared→Prop
structure Env0 (P:Program) (w:World) (K:PySem.W.Frag) (mg:Str→Option Value) (base:Heap) (A:Around) (outer:List Env) (s:Shared) (H:Hp):Prop where
  frames:A.frames=some outer
  mod:Mod K mg base
  bs:∀ b o,base.get? b=some o→s.heap.get? b=some o∧H b=none
  bsz:base.objs.size≤s.heap.objs.size
  funs:s.heap.FunFrames base outer
  frf:∀ b∈frs outer,H b=none
  hok:HOk P w H s.heap
  bare:AllBare s.gens
def CE (outer:List Env) (P:Program) (w:World) (H:Hp) (s:Shared) (Q:VK) (u:Value) (s':Shared):Prop :=
  ∃ v H',s'.os=s.os∧AllBare s'.gens∧Un (frs outer) [] H H' s.heap s'.heap∧HOk P w H' s'.heap∧RelV v u∧Q v H'
def CR (CX:CXT) (outer:List Env) (P:Program) (w:World) (H:Hp) (s:Shared) (Q:VK) (E:XK) (r:Result) (s':Shared):Prop :=
  match r with
  | .ok (.ret u)=>CE outer P w H s Q u s'
  | .ok _=>False
  | .error e=>CX outer H s E e s'
structure FnOk (P:Program) (w:World) (K:PySem.W.Frag) (mg:Str→Option Value) (base:Heap) (CX:CXT) (k:Nat) (f:Addr) (fd:FuncData) (ps:List Str) (sp:Sp):Prop where
  len:∀ vs H Q E,sp vs H Q E→vs.length=ps.length
  run:∀ (A:Around) (outer:List Env) (s:Shared) (H:Hp) (args:Args) (us:List Value) (vs:List V) (Q:VK) (E:XK),Room k A→Env0 P w K mg base A outer s H→BindsTo s fd args (ps.zip us)→Vals vs us→sp vs H Q E →
    codeAny (model P w) A (.call (.ref f) args) (CR CX outer P w H s Q E) s
theorem Env0.make {P:Program} {w:World} {K:PySem.W.Frag} {mg:Str→Option Value} {base:Heap} {A:Around} {outer:List Env} {s:Shared} {H:Hp} (e:Env0 P w K mg base A outer s H) (C:Addr) (us:List Value) (kw:List (Str × Value)) :
    Env0 P w K mg base (A.under (.builtin "type.__call__" ⟨.ref C :: us,kw⟩)) outer s H:=⟨by first | exact e.frames | (simpa [Around.under,Code.envs,Code.isFrame,pushEnvs] using e.frames),e.mod,e.bs,e.bsz,e.funs,e.frf,e.hok,e.bare⟩
section
variable {X:Cx} {pins:List (Addr × Obj)} {σ:St} {H:Hp} {s s':Shared}
theorem Inv.env0 (I:Inv X pins σ H s):Env0 X.prog X.w X.K X.mg X.base X.A X.stack s H :=
  ⟨I.ok.frames,I.ok.mod,I.bs,Nat.le_trans I.ok.bsz I.sz,I.stack,I.stkFree,I.hok,I.bare⟩
theorem Inv.after {Q:VK} {u:Value} (I:Inv X pins σ H s) (h:CE X.stack X.prog X.w H s Q u s'):EP X pins σ Q u s':=by
  obtain ⟨v,H',os,bare,un,hok,r,q⟩:=h
  obtain ⟨hh,g,d,t,os'⟩:=s'
  obtain rfl:os'=s.os:=os
  exact ⟨v,H',I.call (h':=hh) (g':=g) (d':=d) (t':=t) (ch:=[]) un hok bare (fun b z=>absurd z (by simp)),r,q⟩
end
def tCall (sp:Sp) (dvs:List V) (E:XK) (t:TA):TE:=fun σ H Q=>t σ H fun vs H1=>sp (vs++dvs) H1 Q E
def tMeth (C:Addr) (m:Str) (sp:Sp) (dvs:List V) (E:XK) (ta:TE) (t:TA):TE:=fun σ H Q=>ta σ H fun x H1=>∃ a dx fs,x=.ref a∧H1 a=some (.ins C dx fs)∧fs.lookup m=none ∧
  t σ H1 fun vs H2=>sp (x :: (vs++dvs)) H2 Q E
def tMake (C:Addr) (sp:Sp) (dvs:List V) (E:XK) (t:TA):TE:=fun σ H Q=>t σ H fun vs H1=>∀ x dx,H1 x=none→H1 dx=none→dx≠x →
  sp (.ref x :: (vs++dvs)) (upd (upd H1 dx (.own x)) x (.ins C dx [])) (fun v H2=>v=.non∧Q (.ref x) H2) E
def Binds (K:PySem.W.Frag) (fd:FuncData) (ps:List Str) (ds:List Value):Prop :=
  ∀ (s:Shared) (us:List Value),K.In s.heap→(us++ds).length=ps.length→BindsTo s fd ⟨us,[]⟩ (ps.zip (us++ds))
theorem Binds.all {K:PySem.W.Frag} {fd:FuncData} {ps:List Str} (h:∀ us:List Value,us.length=ps.length→bindArgs fd ⟨us,[]⟩=pure (ps.zip us)):Binds K fd ps []:=fun s us _ hl=>by
  rw [List.append_nil] at hl ⊢
  exact .of_eq (h us hl)
def Passes (CX:CXT) (X:Cx) (E:XK):Prop:=∀ (pins:List (Addr × Obj)) (σ:St) (H:Hp) (s:Shared) (e:Value) (s':Shared),Inv X pins σ H s→CX X.stack H s E e s'→X.xe e s'
section
variable {X:Cx} {CX:CXT} {k:Nat} {f C:Addr} {fd:FuncData} {ps:List Str} {sp:Sp} {dvs:List V} {ds:List Value} {E:XK} {x m:Str} {p pos apos:Pos} {e o:Expr} {es:List Expr} {ta:TE} {t:TA}
theorem run_fn {pins:List (Addr × Obj)} {σ:St} {H:Hp} {s:Shared} {Q:VK} {us:List Value} {vs:List V} (F:FnOk X.prog X.w X.K X.mg X.base CX k f fd ps sp) (hr:Room k X.A) (hb:Binds X.K fd ps ds) (hd:Vals dvs ds) (hx:Passes CX X E)
    (I:Inv X pins σ H s) (r:Vals vs us) (h:sp (vs++dvs) H Q E):wpAny (model X.prog X.w) X.A (call (.ref f) us) (EP X pins σ Q) X.xe s:=by
  have r2:Vals (vs++dvs) (us++ds):=r.append hd
  have hl:(us++ds).length=ps.length:=by rw [← r2.length]; exact F.len _ _ _ _ h
  refine wpAny_call (codeAny_mono (F.run X.A X.stack s H ⟨us,[]⟩ (us++ds) (vs++dvs) Q E hr I.env0 (hb s us I.kIn hl) r2 h) fun r s' hq=>?_)
  cases r with
  | error e=>exact hx pins σ H s e s' I hq
  | ok fl =>
    cases fl with
    | ret u=>exact I.after hq
    | next=>exact False.elim hq
    | brk=>exact False.elim hq
    | cont=>exact False.elim hq
theorem pe_call (F:FnOk X.prog X.w X.K X.mg X.base CX k f fd ps sp) (hr:Room k X.A) (hg:Gl X x) (hm:X.mg x=some (.ref f)) (hk:PySem.W.keepIn X.K (.ref f)=true) (hb:Binds X.K fd ps ds) (hd:Vals dvs ds) (hx:Passes CX X E)
    (ha:PA X (e :: es) t) (hdb:(x == ("__debug__":Str))=false:=by decide) (he:starEach (e :: es) X.env=(false,eval e X.env) :: starEach es X.env:=by rfl) (hpl:(backTo pos (starEach es X.env)).any (·.1)=false:=by rfl) :
    PE X (.Call (.Name x p) (e :: es) [] pos) (tCall sp dvs E t):=by
  intro pins s σ H Q I h
  refine wpAny_Call_Name_kw (ld_glob I hg hm ?_ hdb)
  refine PySem.W.callWith_K (h₀:=X.base) I.ok.mod.kin hk (thn (ha pos pins s σ H _ I h) fun us s1 ⟨vs,H1,I1,r,q⟩=>⟨I1.kIn,?_⟩) he hpl
  exact run_fn F hr hb hd hx I1 r q
theorem pe_meth {pl:Sem Bool} (he:PE X o ta) (c:Cls X.K C) (hm:Meth X.K C m f) (F:FnOk X.prog X.w X.K X.mg X.base CX k f fd ps sp) (hr:Room k X.A) (hb:Binds X.K fd ps ds) (hd:Vals dvs ds) (hx:Passes CX X E) (ha:PA X (e :: es) t)
    (hst:starEach (e :: es) X.env=(false,eval e X.env) :: starEach es X.env:=by rfl) (hpl:(backTo pos (starEach es X.env)).any (·.1)=false:=by rfl)
    (ht:eval (.Call (.Attribute o m apos) (e :: es) [] pos) X.env=(do
      let ov ← eval o X.env
      standAt apos.atName
      let (f,first) ← holding [ov] (getMethod ov m pl)
      callWith pos f first (backTo pos (starEach (e :: es) X.env)) (backToKw pos (keywordEach [] X.env))):=by rfl) :
    PE X (.Call (.Attribute o m apos) (e :: es) [] pos) (tMeth C m sp dvs E ta t):=by
  intro pins s σ H Q I h
  refine PySem.W.methodCall_KW (pl:=pl) (thn (he pins s σ H _ I h) fun u s1 ⟨x,H1,I1,rx,a,dx,fs,ex,ea,l,q⟩=>?_) ht
  subst ex
  obtain rfl:u=Value.ref a:=rx
  refine getmeth_ok I1 ea c hm l ?_
  refine PySem.W.callWith_K (first:=[.ref a]) (h₀:=X.base) I.ok.mod.kin hm.kp (thn (ha pos pins s1 σ H1 _ I1 q) fun us s2 ⟨vs,H2,I2,r,q2⟩=>⟨I2.kIn,?_⟩) hst hpl
  exact run_fn (us:=.ref a :: us) (vs:=.ref a :: vs) F hr hb hd hx I2 (.cons rfl r) q2
theorem pe_meth0 {pl:Sem Bool} (he:PE X o ta) (c:Cls X.K C) (hm:Meth X.K C m f) (F:FnOk X.prog X.w X.K X.mg X.base CX k f fd ps sp) (hr:Room k X.A) (hb:Binds X.K fd ps ds) (hd:Vals dvs ds) (hx:Passes CX X E)
    (ht:eval (.Call (.Attribute o m apos) [] [] pos) X.env=(do
      let ov ← eval o X.env
      standAt apos.atName
      let (f,first) ← holding [ov] (getMethod ov m pl)
      callWith pos f first (backTo pos (starEach [] X.env)) (backToKw pos (keywordEach [] X.env))):=by rfl) :
    PE X (.Call (.Attribute o m apos) [] [] pos) (tMeth C m sp dvs E ta tNil):=by
  intro pins s σ H Q I h
  refine PySem.W.methodCall_KW (pl:=pl) (thn (he pins s σ H _ I h) fun u s1 ⟨x,H1,I1,rx,a,dx,fs,ex,ea,l,q⟩=>?_) ht
  subst ex
  obtain rfl:u=Value.ref a:=rx
  refine getmeth_ok I1 ea c hm l ?_
  exact PySem.W.callWith_K0 (first:=[.ref a]) I1.kIn hm.kp (run_fn (us:=[.ref a]) (vs:=[.ref a]) F hr hb hd hx I1 (.cons rfl .nil) q)
structure Mk (K:PySem.W.Frag) (C f:Addr):Prop where
  makes:PySem.W.makesIn K C=true
  init:PySem.W.findIn K (.ref C) "__init__"=some (some (.ref f))
  fn:PySem.W.isFn K (.ref f)=true
  kp:PySem.W.keepIn K (.ref C)=true
theorem run_make {pins:List (Addr × Obj)} {σ:St} {H:Hp} {s:Shared} {Q:VK} {us:List Value} {vs:List V} (M:Mk X.K C f) (F:FnOk X.prog X.w X.K X.mg X.base CX k f fd ps sp) (hr:Room (k+1) X.A) (hb:Binds X.K fd ps ds) (hd:Vals dvs ds)
    (hx:Passes CX X E) (I:Inv X pins σ H s) (r:Vals vs us)
    (h:∀ x dx,H x=none→H dx=none→dx≠x→sp (.ref x :: (vs++dvs)) (upd (upd H dx (.own x)) x (.ins C dx [])) (fun v H2=>v=.non∧Q (.ref x) H2) E) :
    wpAny (model X.prog X.w) X.A (call (.ref C) us) (EP X pins σ Q) X.xe s:=by
  have hq:=h (s.heap.objs.size+1) s.heap.objs.size (I.hok.fresh (Nat.le_succ _)) (I.hok.fresh (Nat.le_refl _)) (Nat.ne_of_lt (Nat.lt_succ_self _))
  have I2:=Inv.made (C:=C) I
  have r2:Vals (V.ref (s.heap.objs.size+1) :: (vs++dvs)) (Value.ref (s.heap.objs.size+1) :: (us++ds)):=.cons rfl (r.append hd)
  have hl:(Value.ref (s.heap.objs.size+1) :: us++ds).length=ps.length:=by
    have e:=r2.length
    rw [F.len _ _ _ _ hq] at e
    exact e.symm
  refine wpAny_call (make_map (f:=f) I.kIn M.makes M.init (beq_iff_eq.mp M.fn) (codeAny_mono (F.run _ X.stack _ _ ⟨Value.ref (s.heap.objs.size+1) :: us,[]⟩ (Value.ref (s.heap.objs.size+1) :: (us++ds)) _ _ E (hr.make C us [])
    (I2.env0.make C us []) (hb _ (Value.ref (s.heap.objs.size+1) :: us) I2.kIn hl) r2 hq) fun r s' hq'=>?_))
  cases r with
  | error e=>exact hx pins σ _ _ e s' I2 hq'
  | ok fl =>
    cases fl with
    | ret u =>
      obtain ⟨v,H',I3,rv,ev,q3⟩:=I2.after hq'
      subst ev
      exact ⟨rv,⟨V.ref (s.heap.objs.size+1),H',I3,rfl,q3⟩⟩
    | next=>exact False.elim hq'
    | brk=>exact False.elim hq'
    | cont=>exact False.elim hq'
theorem pe_make (M:Mk X.K C f) (F:FnOk X.prog X.w X.K X.mg X.base CX k f fd ps sp) (hr:Room (k+1) X.A) (hg:Gl X x) (hm:X.mg x=some (.ref C)) (hb:Binds X.K fd ps ds) (hd:Vals dvs ds) (hx:Passes CX X E)
    (ha:PA X (e :: es) t) (hdb:(x == ("__debug__":Str))=false:=by decide) (he:starEach (e :: es) X.env=(false,eval e X.env) :: starEach es X.env:=by rfl) (hpl:(backTo pos (starEach es X.env)).any (·.1)=false:=by rfl) :
    PE X (.Call (.Name x p) (e :: es) [] pos) (tMake C sp dvs E t):=by
  intro pins s σ H Q I h
  refine wpAny_Call_Name_kw (ld_glob I hg hm ?_ hdb)
  refine PySem.W.callWith_K (h₀:=X.base) I.ok.mod.kin M.kp (thn (ha pos pins s σ H _ I h) fun us s1 ⟨vs,H1,I1,r,q⟩=>⟨I1.kIn,?_⟩) he hpl
  exact run_make M F hr hb hd hx I1 r q
end
section
variable {X:Cx} {CX:CXT} {k:Nat} {f C:Addr} {fd:FuncData} {ps ks:List Str} {sp:Sp} {E:XK} {x m:Str} {p pos apos kpos:Pos} {e o:Expr} {es:List Expr} {kws:List Keyword} {te ta:TE} {t tk:TA} {nm:Option Str}
variable {g:List Value→List Value→List Value} {gV:List V→List V→List V}
end
structure FnScope (N P:List Str) (sc:Scope):Prop where
  kind:sc.kind=.function
  co:sc.isCoroutine=false
  gen:sc.isGenerator=false
  nd:N.Nodup
  pre:N.take P.length=P
  par:∀ x∈P,sc.names.lookup x=some .local∨sc.names.lookup x=some .cell
  nofree:∀ y∈sc.names,y.2≠.free
theorem bindL_out {kindOf:Str→Option NameKind} {x:Str}:∀ {binds:List (Str × Value)} {m:Str→Option Value},(∀ v,(x,v) ∉ binds)→bindL kindOf binds m x=m x
  | [],_,_=>rfl
  | (n,v) :: r,m,h=>by
    unfold bindL
    rw [bindL_out fun w hw=>h w (List.mem_cons_of_mem _ hw)]
    split
    · have:x≠n:=by rintro rfl; exact h v List.mem_cons_self
      simp [this]
    · rfl
theorem bindC_out {kindOf:Str→Option NameKind} {x:Str}:∀ {binds:List (Str × Value)} {m:Str→Option Value},(∀ v,(x,v) ∉ binds)→bindC kindOf binds m x=m x
  | [],_,_=>rfl
  | (n,v) :: r,m,h=>by
    unfold bindC
    rw [bindC_out fun w hw=>h w (List.mem_cons_of_mem _ hw)]
    split
    · rfl
    · have:x≠n:=by rintro rfl; exact h v List.mem_cons_self
      simp [this]
theorem bindL_get {kindOf:Str→Option NameKind} {x:Str} {v:Value}:∀ {P:List Str} {vs:List Value} {i:Nat} {m:Str→Option Value},P.Nodup→P[i]?=some x→vs[i]?=some v→kindOf x=some .local →
    bindL kindOf (P.zip vs) m x=some v
  | [],_,_,_,_,h,_,_=>by simp at h
  | _ :: _,[],_,_,_,_,h,_=>by simp at h
  | p :: P,w :: vs,0,m,nd,h1,h2,hk=>by
    simp at h1 h2; subst h1; subst h2
    show bindL kindOf ((p,w) :: P.zip vs) m p=_
    unfold bindL
    rw [bindL_out fun v hv=>(List.nodup_cons.mp nd).1 (List.of_mem_zip hv).1,if_pos hk]
    simp
  | p :: P,w :: vs,i+1,m,nd,h1,h2,hk=>by
    show bindL kindOf ((p,w) :: P.zip vs) m x=_
    unfold bindL
    exact bindL_get (i:=i) (List.nodup_cons.mp nd).2 (by simpa using h1) (by simpa using h2) hk
theorem bindC_get {kindOf:Str→Option NameKind} {x:Str} {v:Value}:∀ {P:List Str} {vs:List Value} {i:Nat} {m:Str→Option Value},P.Nodup→P[i]?=some x→vs[i]?=some v→kindOf x≠some .local →
    bindC kindOf (P.zip vs) m x=some v
  | [],_,_,_,_,h,_,_=>by simp at h
  | _ :: _,[],_,_,_,_,h,_=>by simp at h
  | p :: P,w :: vs,0,m,nd,h1,h2,hk=>by
    simp at h1 h2; subst h1; subst h2
    show bindC kindOf ((p,w) :: P.zip vs) m p=_
    unfold bindC
    rw [bindC_out fun v hv=>(List.nodup_cons.mp nd).1 (List.of_mem_zip hv).1,if_neg hk]
    simp
  | p :: P,w :: vs,i+1,m,nd,h1,h2,hk=>by
    show bindC kindOf ((p,w) :: P.zip vs) m x=_
    unfold bindC
    exact bindC_get (i:=i) (List.nodup_cons.mp nd).2 (by simpa using h1) (by simpa using h2) hk
def start (N:List Str) (vs:List V):St:=vs.map some++List.replicate (N.length - vs.length) none
def cxOf (CX:CXT) (P:Program) (w:World) (K:PySem.W.Frag) (mg:Str→Option Value) (base:Heap) (N:List Str) (qual:Str) (scope:Scope) (f:Addr) (cd:Value) (A:Around) (outer:List Env) (s:Shared) (H:Hp) (E:XK):Cx where
  prog:=P
  w:=w
  K:=K
  mg:=mg
  base:=base
  A:=A.deeper (envOfC qual scope s.heap.objs.size f cd)
  N:=N
  s₀:=s
  H₀:=H
  env:=envOfC qual scope s.heap.objs.size f cd
  outer:=outer
  stack:=envOfC qual scope s.heap.objs.size f cd :: outer
  ex:=[]
  calm:=true
  fn:=fun _=>true
  pn:=[]
  xe:=fun e s'=>wpAny (model P w) (A.deeper (envOfC qual scope s.heap.objs.size f cd)) (leaving (envOfC qual scope s.heap.objs.size f cd) e) (fun _ s''=>CX outer H s E e s'') (fun e' s''=>CX outer H s E e' s'') s'
theorem cell_has {sc:Scope} {n:Nat} {x:Str} (h:sc.names.lookup x=some .cell):∃ c,(cellsFrom n sc.names []).lookup x=some c:=by
  have q:=PySem.W.cellsFrom_some sc.names n [] (.inl h)
  exact Option.isSome_iff_exists.mp q
theorem inv_start {CX:CXT} {P:Program} {w:World} {K:PySem.W.Frag} {mg:Str→Option Value} {base:Heap} {N ps:List Str} {qual:Str} {scope:Scope} {f:Addr} {cd:Value} {A:Around} {outer:List Env} {s s1:Shared} {H:Hp} {E:XK} {us:List Value} {vs:List V}
    (S:FnScope N ps scope) (hd:A.handled=none) (e0:Env0 P w K mg base A outer s H) (hl:vs.length=ps.length) (r:Vals vs us)
    (x:InCallC s s.heap.objs.size (bindL (envOfC qual scope s.heap.objs.size f cd).kindOf (ps.zip us) fun _=>none) (cellsFrom (s.heap.objs.size+1) scope.names []) (bindC (envOfC qual scope s.heap.objs.size f cd).kindOf (ps.zip us) fun _=>none) s1) :
    Inv (cxOf CX P w K mg base N qual scope f cd A outer s H E) [] (start N vs) H s1:=by
  have hpl:ps.length≤N.length:=by have:=congrArg List.length S.pre; rw [List.length_take] at this; omega
  obtain ⟨h1,tk,rfl,hk⟩:=x.done
  have noA:∀ b:Addr,b ∉ (cxOf CX P w K mg base N qual scope f cd A outer s H E).ex:=fun b z=>absurd (show b∈([]:List Addr) from z) (by simp)
  refine ⟨⟨e0.mod,S.kind,rfl,rfl,Nat.le_refl _,fun y z c h1 h2=>?_,fun y hy=>?_,fun y c _ h=>?_,fun _=>hd,Around.frames_deeper e0.frames,.inr ⟨rfl,rfl⟩,fun b z=>absurd z (noA b),e0.bs,e0.bsz,fun b _ _=>noA b,fun b z=>absurd z (noA b),e0.funs,e0.frf⟩,
    rfl,e0.bare,Un.kept hk,⟨_,x.toInCall.ns,fun i y v h1 h2 h3=>?_⟩,fun y c h=>⟨_,x.cell y c h⟩,e0.hok.fresh (Nat.le_refl _),fun y c h=>?_,fun p hp=>absurd (show p∈([]:List (Addr × Obj)) from hp) (by simp),e0.hok.kept hk,?_⟩
  · exact name_of_addr x.apart (PySem.mem_of_lookup h1) (PySem.mem_of_lookup h2)
  · have hy:scope.names.lookup y=some .cell∨scope.names.lookup y=some .free:=hy
    rcases hy with hy | hy
    · exact cell_has hy
    · exact absurd rfl (S.nofree _ (PySem.mem_of_lookup hy))
  · exact Nat.le_of_lt (x.above y c (PySem.mem_of_lookup h))
  · have hi:i < vs.length:=by
      unfold start at h2
      by_cases hi:i < vs.length
      · exact hi
      · rw [List.getElem?_append_right (by simpa using hi)] at h2
        rw [List.getElem?_replicate] at h2
        split at h2 <;> cases h2
    have ha:vs[i]?=some v:=by
      unfold start at h2
      rw [List.getElem?_append_left (by simpa using hi),List.getElem?_map] at h2
      cases e:vs[i]? with
      | none=>rw [e] at h2; cases h2
      | some a=>rw [e] at h2; cases h2; rfl
    obtain ⟨u,hu,rv⟩:=r.get ha
    have hp:ps[i]?=some y:=by
      rw [← S.pre,List.getElem?_take_of_lt (by omega)]; exact h1
    have ndP:ps.Nodup:=by rw [← S.pre]; exact S.nd.sublist (List.take_sublist _ _)
    refine ⟨u,rv,?_⟩
    rcases S.par y (List.mem_of_getElem? hp) with k | k
    · exact .inl ⟨k,bindL_get ndP hp hu k⟩
    · obtain ⟨c,e⟩:=cell_has (n:=s.heap.objs.size+1) k
      refine .inr ⟨.inl k,c,e,?_⟩
      have q:=x.cell y c e
      rw [bindC_get ndP hp hu (by show scope.names.lookup y≠_; rw [k]; decide)] at q
      exact q
  · exact e0.hok.fresh (Nat.le_of_lt (x.above y c (PySem.mem_of_lookup h)))
  · unfold start
    show _=N.length
    rw [List.length_append,List.length_map,List.length_replicate]
    omega
theorem fn_of {CX:CXT} {P:Program} {w:World} {K:PySem.W.Frag} {mg:Str→Option Value} {base:Heap} {k:Nat} {f:Addr} {name qual:Str} {params:Arguments} {body:List Stmt} {scope:Scope} {dV kV doc pm cdv ct oc:Value} {an od:Option Addr}
    {osl:Array (Option Value)} {N ps:List Str} {sp:Sp} (lk:K.lookup f=some ⟨oc,od,.func (PySem.W.fnOf name qual params body scope dV kV doc pm an cdv ct),osl⟩) (hcd:PySem.W.codeIn K cdv qual=true) (S:FnScope N ps scope)
    (len:∀ vs H Q E,sp vs H Q E→vs.length=ps.length)
    (hbody:∀ (A:Around) (outer:List Env) (s:Shared) (H:Hp) (vs:List V) (Q:VK) (E:XK),Room k (A.deeper (envOfC qual scope s.heap.objs.size f cdv))→sp vs H Q E →
      ∃ t,PSs (cxOf CX P w K mg base N qual scope f cdv A outer s H E) body t∧t { nx:=fun _ H'=>Q .non H',rt:=Q } (start N vs) H) :
    FnOk P w K mg base CX (k+1) f (PySem.W.fnOf name qual params body scope dV kV doc pm an cdv ct) ps sp:=by
  refine ⟨len,fun A outer s H args us vs Q E hr e0 hb r hsp=>?_⟩
  have hl:=len _ _ _ _ hsp
  have KX:K.In s.heap:=e0.mod.kin.keeps fun b o e=>(e0.bs b o e).1
  have lim:s.heap.NoLimit:=e0.mod.nolimit.keeps fun b o e=>(e0.bs b o e).1
  have hkind:∀ y∈ps.zip us,scope.names.lookup y.1=some .local∨(scope.names.lookup y.1=some .cell∧((cellsFrom (s.heap.objs.size+1) scope.names []).lookup y.1).isSome=true):=fun ⟨n,v⟩ hy=>by
    rcases S.par n (List.of_mem_zip hy).1 with q | q
    · exact .inl q
    · exact .inr ⟨q,PySem.W.cellsFrom_some _ _ _ (.inl q)⟩
  refine codeAny_call_function hr.depth (KX _ _ lk) rfl S.co S.gen rfl (PySem.W.codeRec_of KX hcd) (hb _ _ _ _ ?_)
  refine wpAny_newFunctionEnv_cells S.kind hkind fun env he s1 x=>?_
  subst he
  refine ⟨lim.keeps x.toInCall.keep,codeAny_func ?_⟩
  obtain ⟨t,ht,hq⟩:=hbody A outer s H vs Q E (hr.deeper _) hsp
  have I:Inv (cxOf CX P w K mg base N qual scope f cdv A outer s H E) [] (start N vs) H s1:=inv_start S hr.hd e0 hl r x
  refine wpAny_mono (ht [] s1 (start N vs) H _ I hq) (fun fl s' hs=>?_) fun e s' hs=>hs
  have fin:∀ {σ':St} {H':Hp} {v:V} {u:Value},Inv (cxOf CX P w K mg base N qual scope f cdv A outer s H E) [] σ' H' s'→RelV v u→Q v H'→CE outer P w H s Q u s' :=
    fun {σ' H' v u} J rv q=>⟨v,H',J.os,J.bare,J.base,J.hok,rv,q⟩
  cases fl with
  | ret u =>
    obtain ⟨v,σ',H',J,rv,q⟩:=hs
    exact fin J rv q
  | next =>
    obtain ⟨σ',H',J,q⟩:=hs
    exact fin (v:=V.non) (u:=Value.none) J rfl q
  | brk =>
    obtain ⟨_,_,_,q⟩:=hs
    exact False.elim q
  | cont =>
    obtain ⟨_,_,_,q⟩:=hs
    exact False.elim q
end L2
namespace L2
open PySem PySem.Spec PyProof.Rows
section
variable {X:Cx} {x:Str} {p pos:Pos} {e:Expr} {es:List Expr} {t:TA} {id T:String} {r:List V→Hp→VK→Prop}
def tCB (r:List V→Hp→VK→Prop) (t:TA):TE:=fun σ H Q=>t σ H fun vs H1=>r vs H1 Q
theorem pe_callB (hc:CallR X (.builtin id) r) (hg:Gl X x) (hm:X.mg x=none) (hv:bootBuiltins x=some (.builtin id)) (ha:PA X (e :: es) t) (hn:x≠"__name__":=by decide) (hdb:(x == ("__debug__":Str))=false:=by decide)
    (he:starEach (e :: es) X.env=(false,eval e X.env) :: starEach es X.env:=by rfl) (hpl:(backTo pos (starEach es X.env)).any (·.1)=false:=by rfl):PE X (.Call (.Name x p) (e :: es) [] pos) (tCB r t):=by
  intro pins s σ H Q I h
  refine wpAny_Call_Name_kw (ld_blt I hg hm hv ?_ hn hdb)
  exact PyProof.Rows.callWith_builtin1 (thn (ha pos pins s σ H _ I h) fun us s1 ⟨vs,H1,I1,r1,q1⟩=>hc pins s1 σ H1 vs us Q I1 r1 q1) he hpl
theorem pe_callTy (hc:CallR X (.type T) r) (hg:Gl X x) (hm:X.mg x=none) (hv:bootBuiltins x=some (.type T)) (ha:PA X (e :: es) t) (hn:x≠"__name__":=by decide) (hdb:(x == ("__debug__":Str))=false:=by decide)
    (he:starEach (e :: es) X.env=(false,eval e X.env) :: starEach es X.env:=by rfl) (hpl:(backTo pos (starEach es X.env)).any (·.1)=false:=by rfl):PE X (.Call (.Name x p) (e :: es) [] pos) (tCB r t):=by
  intro pins s σ H Q I h
  refine wpAny_Call_Name_kw (ld_blt I hg hm hv ?_ hn hdb)
  exact PyProof.Rows.callWith_type1 (thn (ha pos pins s σ H _ I h) fun us s1 ⟨vs,H1,I1,r1,q1⟩=>hc pins s1 σ H1 vs us Q I1 r1 q1) he hpl
end
end L2
namespace HT
open PySem PyProof.Rows
def lexLt:List Int→List Int→Bool
  | [],[]=>false
  | [],_ :: _=>true
  | _ :: _,[]=>false
  | x :: xs,y :: ys=>if x=y then lexLt xs ys else decide (x < y)
theorem lexLt_cons (x y:Int) (xs ys:List Int):lexLt (x :: xs) (y :: ys)=if x=y then lexLt xs ys else decide (x < y):=rfl
theorem lexLt_nil_nil:lexLt [] []=false:=rfl
section
open PySem.SeqAt
open PySem.AutoSeq1 (wpAny_loadPart')
open PySem.MeetsSeq PySem.MeetsSeq2 PySem.MeetsSeq3
end
section
variable {prog:Program} {w:World} {A:Around} {E:Value→Shared→Prop} {s:Shared}
def sIx (n d:Nat):Option Int→Nat
  | none=>d
  | some v=>if v < 0 then (v+(n:Int)).toNat else min v.toNat n
theorem sIx_le (n d:Nat) (hd:d≤n) (o:Option Int):sIx n d o≤n:=by
  cases o with
  | none=>exact hd
  | some v =>
    show (if v < 0 then (v+(n:Int)).toNat else min v.toNat n)≤n
    by_cases hv:v < 0
    · rw [if_pos hv]; omega
    · rw [if_neg hv]; exact Nat.min_le_right _ _
theorem clip_eq (v:Int) (n d:Nat):(if v < 0 then max (v+(n:Int)) 0 else min v (n:Int))=((sIx n d (some v):Nat):Int):=by
  show (if v < 0 then max (v+(n:Int)) 0 else min v (n:Int))=(((if v < 0 then (v+(n:Int)).toNat else min v.toNat n):Nat):Int)
  by_cases hv:v < 0
  · simp only [if_pos hv]; omega
  · simp only [if_neg hv]; omega
theorem adjust_gen (lo hi:Option Int) (n:Nat):Builtin.Slice.sliceAdjust lo hi 1 (n:Int)=(((sIx n 0 lo:Nat):Int),((sIx n n hi:Nat):Int)):=by
  have h1:¬ ((1:Int) < 0):=by omega
  unfold Builtin.Slice.sliceAdjust
  simp only [h1,if_false]
  refine Prod.ext ?_ ?_
  · cases lo with
    | none=>rfl
    | some v=>exact clip_eq v n 0
  · cases hi with
    | none=>rfl
    | some v=>exact clip_eq v n n
theorem places_gen (i j:Nat):Builtin.Slice.slicePlaces (i:Int) (j:Int) 1=j - i:=by
  unfold Builtin.Slice.slicePlaces
  have h1:(1:Int) > 0:=by omega
  simp only [h1,if_true,Int.ediv_one]
  split <;> omega
theorem slicePart_ {v:Value} {o:Option Int} {Q:Option Int→Shared→Prop} (p:IsPart v o) (h:Q o s):wpAny (model prog w) A (Builtin.Slice.slicePartIndex v) Q E s:=by
  cases p with
  | none=>exact slicePart_none h
  | int i t=>exact slicePart_int h
theorem sliceApplied_gen {sl:Addr} {vl vu:Value} {lo hi:Option Int} {n:Nat} {Q:Int × Int × Nat→Shared→Prop} (hs:s.heap.IsSliceOf sl vl vu .none) (pl:IsPart vl lo) (pu:IsPart vu hi)
    (h:Q (((sIx n 0 lo:Nat):Int),1,sIx n n hi - sIx n 0 lo) s):wpAny (model prog w) A (Builtin.Slice.sliceApplied (.ref sl) (pure (n:Int))) Q E s:=by
  obtain ⟨os,hos,hcs,hds⟩:=id hs
  unfold Builtin.Slice.sliceApplied Builtin.Slice.sliceFields
  refine wpAny_bind (wpAny_bind (wpAny_field hos hds (x:=vl) rfl (wpAny_bind (wpAny_field hos hds (x:=vu) rfl (wpAny_bind (wpAny_field hos hds (x:=.none) rfl (wpAny_pure ?_)))))))
  refine wpAny_bind (slicePart_none ?_)
  show wpAny _ _ (if ((1:Int) == 0)=true then _ else _) _ _ s
  rw [if_neg (by decide)]
  refine wpAny_bind (slicePart_ pl (wpAny_bind (slicePart_ pu (wpAny_bind (wpAny_pure ?_)))))
  show wpAny _ _ (match Builtin.Slice.sliceAdjust lo hi 1 (n:Int) with | (lo,hi)=>pure (lo,(1:Int),Builtin.Slice.slicePlaces lo hi 1)) _ _ s
  rw [adjust_gen lo hi n]
  show wpAny _ _ (pure (((sIx n 0 lo:Nat):Int),(1:Int),Builtin.Slice.slicePlaces ((sIx n 0 lo:Nat):Int) ((sIx n n hi:Nat):Int) 1)) _ _ s
  rw [places_gen]
  exact wpAny_pure h
theorem pick_gen (xs:Array Value) (i k:Nat):((List.range k).filterMap fun (m:Nat)=>xs[((i:Int)+(m:Int) * 1).toNat]?).toArray=((xs.toList.drop i).take k).toArray:=by
  have e:(fun (m:Nat)=>xs[((i:Int)+(m:Int) * 1).toNat]?)=fun m=>xs[i+m]?:=by
    funext m
    have:((i:Int)+(m:Int) * 1).toNat=i+m:=by omega
    rw [this]
  rw [e]
  have:=pick_run xs i k
  rw [List.filterMap_map] at this
  have e2:((fun x=>xs[x]?)∘fun x=>i+x)=fun m=>xs[i+m]?:=rfl
  rw [e2] at this
  rw [this]
theorem getItem_tuple_cut {t sl:Addr} {items:Array Value} {vl vu:Value} {lo hi:Option Int} {Q:Value→Shared→Prop} (ht:IsTup s.heap t items) (hs:s.heap.IsSliceOf sl vl vu .none) (pl:IsPart vl lo) (pu:IsPart vu hi)
    (hw:¬ (sIx items.size 0 lo=0∧sIx items.size items.size hi=items.size))
    (h:Q (.ref s.heap.objs.size) { s with heap:=s.heap.push { cls:=.type "tuple",data:=.seq ((items.toList.drop (sIx items.size 0 lo)).take (sIx items.size items.size hi - sIx items.size 0 lo)).toArray } })
    (hsz:items.size≤sizeLine):wpAny (model prog w) A (getItem (.ref t) (.ref sl)) Q E s:=by
  have htake:sizeOk (.seq ((items.toList.drop (sIx items.size 0 lo)).take (sIx items.size items.size hi - sIx items.size 0 lo)).toArray):=by
    show ((items.toList.drop (sIx items.size 0 lo)).take (sIx items.size items.size hi - sIx items.size 0 lo)).toArray.size≤sizeLine
    rw [List.size_toArray,List.length_take,List.length_drop,Array.length_toList]
    omega
  have hj:sIx items.size items.size hi≤items.size:=sIx_le _ _ (Nat.le_refl _) hi
  obtain ⟨os,hos,hcs,hds⟩:=id hs
  have hTs:s.TypeIs (.ref sl) "slice":=⟨os,hos,hcs⟩
  unfold getItem
  try with_reducible refine wpAny_holding ?_
  first | refine wpAny_bind (wpAny_pure ?_) | skip
  refine wpAny_bind (wpAny_sequenceKey ht.typeIs (by decide) ?_)
  refine wpAny_bind (wpAny_callSpecial?_slot (name:=Str.ofString "__getitem__") ht.typeIs PyProof.Rows.slot_tuple_getitem
    (wpAny_call_entry PyProof.Rows.slot_tuple_getitem ht.typeIs entry_tuple_getitem ?_ (args_tuple_getitem _ _)))
  show wpAny _ _ (Builtin.Tuple.tupleItemsOf (.ref t) >>= _) _ _ s
  refine wpAny_bind (tupleItemsOf_ ht ?_)
  refine wpAny_bind (wpAny_typeOf hTs ?_)
  rw [if_pos (by decide)]
  refine wpAny_bind (sliceApplied_gen hs pl pu ?_)
  have hno:¬ ((((sIx items.size 0 lo:Nat):Int) == 0 && (1:Int) == 1 && (sIx items.size items.size hi - sIx items.size 0 lo) == items.size)=true):=by
    intro q
    rw [Bool.and_eq_true,Bool.and_eq_true] at q
    have q1:((sIx items.size 0 lo:Nat):Int)=0:=eq_of_beq q.1.1
    have q2:sIx items.size items.size hi - sIx items.size 0 lo=items.size:=eq_of_beq q.2
    exact hw ⟨by omega,by omega⟩
  show wpAny _ _ (if (((sIx items.size 0 lo:Nat):Int) == 0 && (1:Int) == 1 && (sIx items.size items.size hi - sIx items.size 0 lo) == items.size)=true then _ else _) _ _ s
  rw [if_neg hno,pick_gen]
  first
    | exact wpAny_bind (m:=Builtin.Tuple.tupleExact _) (wpAny_newObj_type (wpAny_pure ⟨_,rfl,wpAny_pure h⟩) htake)
    | exact wpAny_bind (m:=Builtin.Tuple.tupleExact _) (wpAny_newObj_type (wpAny_bind (wpAny_pure (wpAny_pure ⟨_,rfl,wpAny_pure h⟩))) htake)
    | exact wpAny_bind (wpAny_bind (m:=Builtin.Tuple.tupleExact _) (wpAny_newObj_type (wpAny_pure (wpAny_pure ⟨_,rfl,wpAny_pure h⟩)) htake))
    | exact wpAny_bind (wpAny_bind (m:=Builtin.Tuple.tupleExact _) (wpAny_newObj_type (wpAny_pure ⟨_,rfl,wpAny_pure h⟩) htake))
end
end HT
namespace L2
open PySem PySem.Spec PyProof.Rows
abbrev TO:=St→Hp→(Option Int→Hp→Prop)→Prop
def PO (X:Cx) (e:Option Expr) (t:TO):Prop :=
  ∀ (pins:List (Addr × Obj)) (s:Shared) (σ:St) (H:Hp) (Q:Option Int→Hp→Prop),Inv X pins σ H s→t σ H Q →
    wpAny (model X.prog X.w) X.A (evalPart e X.env) (fun u s'=>∃ o H',Inv X pins σ H' s'∧IsPart u o∧Q o H') X.xe s
def tNoPart:TO:=fun _ H Q=>Q none H
def tPart (t:TE):TO:=fun σ H Q=>t σ H fun x H1=>∃ i,x=.int i∧Q (some i) H1
theorem intsAre_of {ns:List Int}:∀ {us:List Value},Vals (ns.map V.int) us→IntsAre us ns:=by
  induction ns with
  | nil=>intro us r; rw [List.map_nil] at r; cases r; exact .nil
  | cons n ns ih =>
    intro us r
    rw [List.map_cons] at r
    cases r with
    | cons r1 r2 =>
      obtain ⟨t,e⟩:=r1
      subst e
      exact .cons n t (ih r2)
section
variable {X:Cx} {e:Expr} {te:TE} {lo hi:Option Expr} {tl th:TO} {pos p2:Pos}
theorem po_none:PO X none tNoPart:=by
  intro pins s σ H Q I h
  rw [evalPart_none]
  exact wpAny_pure ⟨none,H,I,.none,h⟩
theorem po_some (h:PE X e te):PO X (some e) (tPart te):=by
  intro pins s σ H Q I hw
  rw [evalPart_some]
  refine thn (h pins s σ H _ I hw) fun u s1 ⟨x,H1,I1,r1,q1⟩=>?_
  obtain ⟨i,rfl,q⟩:=q1
  obtain ⟨t,rfl⟩:=r1
  exact ⟨some i,H1,I1,.int i t,q⟩
def SlR (X:Cx) (r:V→Option Int→Option Int→Hp→VK→Prop):Prop :=
  ∀ (pins:List (Addr × Obj)) (s:Shared) (σ:St) (H:Hp) (x:V) (v vl vu:Value) (lo hi:Option Int) (sl:Addr) (Q:VK),Inv X pins σ H s→RelV x v→s.heap.IsSliceOf sl vl vu .none→IsPart vl lo→IsPart vu hi→r x lo hi H Q →
    ∃ T id,typeLookup (.type T) "__getitem__"=pure (some (.builtin id))∧s.TypeIs v T∧wpAny (model X.prog X.w) X.A (getItem v (.ref sl)) (EP X pins σ Q) X.xe s
def tSl (r:V→Option Int→Option Int→Hp→VK→Prop) (te:TE) (tl th:TO):TE:=fun σ H Q=>te σ H fun x H1=>tl σ H1 fun l H2=>th σ H2 fun u H3=>r x l u H3 Q
theorem pe_slice {r:V→Option Int→Option Int→Hp→VK→Prop} (hr:SlR X r) (he:PE X e te) (hl:PO X lo tl) (hu:PO X hi th):PE X (.Subscript e (.Slice lo hi none p2) pos) (tSl r te tl th):=by
  intro pins s σ H Q I h
  refine Subscript_ (thn (he pins s σ H _ I h) fun v s1 ⟨x,H1,I1,r1,q1⟩=>?_)
  refine wpAny_Slice (thn (hl pins s1 σ H1 _ I1 q1) fun vl s2 ⟨l,H2,I2,pl,q2⟩=>thn (hu pins s2 σ H2 _ I2 q2) fun vu s3 ⟨u,H3,I3,pu,q3⟩=>?_)
  rw [evalPart_none]
  refine wpAny_pure ?_
  have I4:Inv X pins σ H3 { s3 with heap:=s3.heap.push { cls:=.type "slice",data:=.fields #[vl,vu,.none] } }:=I3.kept (t':=s3.toks) fun b ob q=>Heap.get?_push_of_some _ q
  obtain ⟨T,id,hT,ht,hg⟩:=hr pins { s3 with heap:=s3.heap.push { cls:=.type "slice",data:=.fields #[vl,vu,.none] } } σ H3 x v vl vu l u s3.heap.objs.size Q I4 r1 (Heap.IsSliceOf.new ..) pl pu q3
  show wpAny (model X.prog X.w) X.A (subscriptTail e (.Slice lo hi none p2) v (.ref s3.heap.objs.size)) (EP X pins σ Q) X.xe { s3 with heap:=s3.heap.push { cls:=.type "slice",data:=.fields #[vl,vu,.none] } }
  exact tail_any (ops:=[.ref s3.heap.objs.size,v]) ht hT hg (by with_unfolding_all rfl)
def cutV (xs:List V) (lo hi:Option Int):List V:=(xs.drop (HT.sIx xs.length 0 lo)).take (HT.sIx xs.length xs.length hi - HT.sIx xs.length 0 lo)
theorem cutV_length (xs:List V) (lo hi:Option Int):(cutV xs lo hi).length≤xs.length:=by
  unfold cutV
  rw [List.length_take,List.length_drop]
  omega
def rSlT (K:PySem.W.Frag):V→Option Int→Option Int→Hp→VK→Prop:=fun x lo hi H Q=>∃ a xs,x=.ref a∧SqT K H a xs ∧
  ¬ (HT.sIx xs.length 0 lo=0∧HT.sIx xs.length xs.length hi=xs.length)∧∀ p,H p=none→Q (.ref p) (upd H p (.tup (cutV xs lo hi)))
theorem sl_tup:SlR X (rSlT X.K):=by
  intro pins s σ H x v vl vu lo hi sl Q I rx hs pl pu h
  obtain ⟨a,xs,rfl,hx,hw,q⟩:=h
  cases rx
  obtain ⟨its,r,ht,hz⟩:=I.tuple hx
  have hlen:its.toArray.size=xs.length:=by rw [List.size_toArray]; exact r.length.symm
  refine ⟨"tuple",_,PyProof.Rows.slot_tuple_getitem.lookup,ht.typeIs,?_⟩
  refine HT.getItem_tuple_cut ht hs pl pu (by rw [hlen]; exact hw) ?_ (by rw [hlen]; exact hz)
  rw [hlen]
  refine ⟨.ref s.heap.objs.size,_,I.laid (t':=s.toks) (o:=.tup (cutV xs lo hi)) (fun b ob q=>Heap.get?_push_of_some _ q) (Nat.le_refl _) ?_,rfl,q _ (I.hok.fresh (Nat.le_refl _))⟩
  exact ⟨Nat.le_trans (cutV_length xs lo hi) hz,_,(r.drop (HT.sIx xs.length 0 lo)).take (HT.sIx xs.length xs.length hi - HT.sIx xs.length 0 lo),IsTup.new _ _⟩
end
end L2
namespace L2
open PySem PySem.Spec PyProof.Rows
def ixN (n:Nat) (i:Int):Option Nat:=if 0≤i then (if i < n then some i.toNat else none) else if -(n:Int)≤i then some (i+n).toNat else none
def atI {α:Type} (xs:List α) (i:Int):Option α:=(ixN xs.length i).bind fun j=>xs[j]?
theorem ixN_seq {n:Nat} {i:Int} {j:Nat} (h:ixN n i=some j):seqIndex? i n=some j∧j < n∧-(n:Int)≤i∧i < n:=by
  unfold ixN at h
  by_cases h0:0≤i
  · rw [if_pos h0] at h
    by_cases h1:i < n
    · rw [if_pos h1] at h
      have e:i.toNat=j:=Option.some.inj h
      exact ⟨by rw [seqIndex_of h0 h1,e],by omega,by omega,h1⟩
    · rw [if_neg h1] at h; cases h
  · rw [if_neg h0] at h
    by_cases h1:-(n:Int)≤i
    · rw [if_pos h1] at h
      have e:(i+n).toNat=j:=Option.some.inj h
      exact ⟨by rw [seqIndex_neg (by omega) h1,e],by omega,h1,by omega⟩
    · rw [if_neg h1] at h; cases h
theorem atI_get {α:Type} {xs:List α} {i:Int} {v:α} (h:atI xs i=some v):∃ j,seqIndex? i xs.length=some j∧xs[j]?=some v∧j < xs.length∧-(xs.length:Int)≤i∧i < xs.length:=by
  unfold atI at h
  cases e:ixN xs.length i with
  | none=>rw [e] at h; cases h
  | some j =>
    rw [e] at h
    obtain ⟨h1,h2,h3,h4⟩:=ixN_seq e
    exact ⟨j,h1,h,h2,h3,h4⟩
theorem atI_nat {α:Type} {xs:List α} {j:Nat} {v:α} (h:xs[j]?=some v):atI xs (j:Int)=some v:=by
  have hj:j < xs.length:=(List.getElem?_eq_some_iff.mp h).1
  have e:ixN xs.length (j:Int)=some j:=by
    unfold ixN
    rw [if_pos (by omega),if_pos (by omega)]; simp
  unfold atI; rw [e]; exact h
theorem atI_last {α:Type} (xs:List α) (v:α):atI (xs++[v]) (-1)=some v:=by
  have hl:(xs++[v]).length=xs.length+1:=by simp
  have e:ixN (xs++[v]).length (-1)=some xs.length:=by
    unfold ixN
    rw [hl,if_neg (by decide),if_pos (by omega)]
    congr 1
    omega
  unfold atI
  rw [e]
  show (xs++[v])[xs.length]?=some v
  simp
def PlainIx (b:Expr):Prop:=∀ o i,subscripted b false o i=operate [o,i] (getItem o i)
def IxR (X:Cx) (r:R2):Prop :=
  ∀ (value slice:Expr) (pins:List (Addr × Obj)) (s:Shared) (σ:St) (H:Hp) (x y:V) (v u:Value) (Q:VK),Inv X pins σ H s→RelV x v→RelV y u→r x y H Q →
    subscripted slice false v u=operate [v,u] (getItem v u)→wpAny (model X.prog X.w) X.A (subscriptTail value slice v u) (EP X pins σ Q) X.xe s
def MtR (X:Cx) (id:String) (r:V→List V→Hp→VK→Prop):Prop :=
  ∀ (pins:List (Addr × Obj)) (s:Shared) (σ:St) (H:Hp) (x:V) (xs:List V) (v:Value) (us:List Value) (Q:VK),Inv X pins σ H s→RelV x v→Vals xs us→r x xs H Q →
    wpAny (model X.prog X.w) X.A (call (.builtin id) (v :: us)) (EP X pins σ Q) X.xe s
section
variable {X:Cx} {a b:Expr} {ta tb:TE} {pos:Pos}
theorem pe_ix {r:R2} (hr:IxR X r) (ha:PE X a ta) (hb:PE X b tb) (hs:PlainIx b):PE X (.Subscript a b pos) (tOp r ta tb):=by
  intro pins s σ H Q I h
  exact Subscript_ (binT ha hb I h fun v u s2 x y H2 I2 rx ry q=>hr a b pins s2 σ H2 x y v u Q I2 rx ry q (hs _ _))
def rIxL (K:PySem.W.Frag):R2:=fun x y H Q=>∃ p xs i v,x=.ref p∧y=.int i∧SqL K H p xs∧atI xs i=some v∧Q v H
def rIxT (K:PySem.W.Frag):R2:=fun x y H Q=>∃ p xs i v,x=.ref p∧y=.int i∧SqT K H p xs∧atI xs i=some v∧Q v H
theorem ix_list:IxR X (rIxL X.K):=by
  intro value slice pins s σ H x y v u Q I rx ry h hs
  obtain ⟨p,xs,i,z,rfl,rfl,hq,he,q⟩:=h
  cases rx
  obtain ⟨t,rfl⟩:=ry
  obtain ⟨its,r,pl,hz⟩:=I.list hq
  obtain ⟨j,h1,h2,h3,h4,h5⟩:=atI_get he
  obtain ⟨w,ew,rw'⟩:=r.get h2
  have hl:=r.length
  have hn:=line63
  have fin:EP X pins σ Q w s:=⟨z,H,I,rw',q⟩
  by_cases h0:0≤i
  · have hj:i.toNat=j:=by
      rw [seqIndex_of h0 h5] at h1
      exact Option.some.inj h1
    exact item_listR pl.isList h0 (by omega) (by rw [hj]; simpa using ew) fin hs
  · have hj:(i+(its.toArray.size:Int)).toNat=j:=by
      rw [seqIndex_neg (by omega) h4] at h1
      rw [List.size_toArray,← hl]
      exact Option.some.inj h1
    exact subscriptTail_builtinR (x:=w) pl.isList.typeIs slot_list_getitem.lookup
      (wpAny_getItem_list_neg (Q:=fun r s'=>r=w∧EP X pins σ Q r s') pl.isList (by omega) (by rw [List.size_toArray] <;> omega) (by omega) (by rw [hj]; simpa using ew) ⟨rfl,fin⟩) hs
theorem ix_tup:IxR X (rIxT X.K):=by
  intro value slice pins s σ H x y v u Q I rx ry h hs
  obtain ⟨p,xs,i,z,rfl,rfl,hq,he,q⟩:=h
  cases rx
  obtain ⟨t,rfl⟩:=ry
  obtain ⟨its,r,pl,hz⟩:=I.tuple hq
  obtain ⟨j,h1,h2,h3,h4,h5⟩:=atI_get he
  obtain ⟨w,ew,rw'⟩:=r.get h2
  have hl:=r.length
  have hn:=line63
  have fin:EP X pins σ Q w s:=⟨z,H,I,rw',q⟩
  exact subscriptTail_builtinR (x:=w) pl.typeIs slot_tuple_getitem.lookup
    (getItem_tuple (j:=j) (Q:=fun r s'=>r=w∧EP X pins σ Q r s') pl (by omega) (by omega) (by rw [List.size_toArray,← hl]; exact h1) (by simpa using ew) ⟨rfl,fin⟩) hs
theorem mapSeq_set (its:List Value) (n j:Nat) (u:Value):Obj.mapSeq (·.setIfInBounds j u) { cls:=.type "list",data:=.seq its.toArray n }={ cls:=.type "list",data:=.seq (its.set j u).toArray n }:=by
  simp [Obj.mapSeq]
theorem Inv.lst {pins:List (Addr × Obj)} {σ:St} {H:Hp} {s:Shared} {p:Addr} {xs:List V} (I:Inv X pins σ H s) (h:H p=some (.lst xs)) :
    ∃ (its:List Value) (n:Nat),Vals xs its∧s.heap.get? p=some { cls:=.type "list",data:=.seq its.toArray n }∧xs.length≤sizeLine:=by
  obtain ⟨z,its,n,r,e⟩:=I.hok p _ h
  exact ⟨its,n,r,e,z⟩
theorem Inv.lstUpd {pins:List (Addr × Obj)} {σ:St} {H:Hp} {s:Shared} {p:Addr} {xs ys:List V} {its its':List Value} {n n':Nat} {f:Obj→Obj} (I:Inv X pins σ H s) (h:H p=some (.lst xs))
    (ho:s.heap.get? p=some { cls:=.type "list",data:=.seq its.toArray n }) (hf:f { cls:=.type "list",data:=.seq its.toArray n }={ cls:=.type "list",data:=.seq its'.toArray n' }) (r:Vals ys its') (hz:ys.length≤sizeLine) (t:Nat) :
    Inv X pins σ (upd H p (.lst ys)) { s with heap:=s.heap.update p f,toks:=t }:=by
  have e:(s.heap.update p f).get? p=some { cls:=.type "list",data:=.seq its'.toArray n' }:=by
    rw [Heap.get?_update_self f ho (by rw [hf] <;> rfl),hf]
  refine I.write (x:=p) (e:=p) (by rw [h]; trivial) (.inl rfl) (fun b u hb q=>(Heap.get?_update_other _ _ (Ne.symm hb)).trans q) ⟨_,e⟩ ?_
  exact ⟨hz,its',n',r,e⟩
def rSetL:V→V→V→Hp→(Hp→Prop)→Prop:=fun o i v H Q=>∃ p xs k j,o=.ref p∧i=.int k∧H p=some (.lst xs)∧ixN xs.length k=some j∧Q (upd H p (.lst (xs.set j v)))
theorem set_list:PSet X rSetL:=by
  intro pins s σ H o i v ov iv u Q I ro ri rv h
  obtain ⟨p,xs,k,j,rfl,rfl,hp,hj,q⟩:=h
  cases ro
  obtain ⟨t,rfl⟩:=ri
  obtain ⟨its,n,r,ho,hz⟩:=I.lst hp
  obtain ⟨h1,h2,h3,h4⟩:=ixN_seq hj
  have hl:=r.length
  have hn:=line63
  have I':Inv X pins σ (upd H p (.lst (xs.set j v))) { s with heap:=s.heap.update p (Obj.mapSeq (·.setIfInBounds j u)) } :=
    I.lstUpd hp ho (mapSeq_set its n j u) (r.set rv j) (by rw [List.length_set]; exact hz) s.toks
  by_cases h0:0≤k
  · have hk:k.toNat=j:=by
      rw [seqIndex_of h0 h4] at h1
      exact Option.some.inj h1
    exact PySem.W.ki_setAt ho h0 (by omega) (by rw [List.size_toArray,← hl]; exact h4) (by rw [hk]; exact ⟨_,I',q⟩)
  · have hk:(k+(its.toArray.size:Int)).toNat=j:=by
      rw [seqIndex_neg (by omega) h3] at h1
      rw [List.size_toArray,← hl]
      exact Option.some.inj h1
    exact PySem.W.ki_setBack ho (by omega) (by rw [List.size_toArray,← hl]; exact h3) (by omega) (by rw [hk]; exact ⟨_,I',q⟩)
theorem slice_bounds (lo hi:Option Int) (n:Nat):(sliceBounds lo hi none n).1=((HT.sIx n 0 lo:Nat):Int)∧(sliceBounds lo hi none n).2.1=((HT.sIx n n hi:Nat):Int)∧(sliceBounds lo hi none n).2.2=1:=by
  refine ⟨?_,?_,rfl⟩
  · cases lo with
    | none=>simp [sliceBounds,HT.sIx]
    | some i =>
      simp only [sliceBounds,HT.sIx,Option.getD_none,show (1:Int) > 0 by decide,if_true]
      by_cases h:i < 0
      · simp only [h,if_true] <;> omega
      · simp only [h,if_false] <;> omega
  · cases hi with
    | none=>simp [sliceBounds,HT.sIx]
    | some i =>
      simp only [sliceBounds,HT.sIx,Option.getD_none,show (1:Int) > 0 by decide,if_true]
      by_cases h:i < 0
      · simp only [h,if_true] <;> omega
      · simp only [h,if_false] <;> omega
theorem slicePick_cut (its:List Value) (lo hi:Option Int):slicePick its.toArray lo hi none=((its.drop (HT.sIx its.length 0 lo)).take (HT.sIx its.length its.length hi - HT.sIx its.length 0 lo)).toArray:=by
  obtain ⟨h1,h2,h3⟩:=slice_bounds lo hi its.toArray.size
  unfold slicePick
  rw [h1,h2,h3]
  simp only [sliceRange_one,pick_run,List.size_toArray] <;> rfl
def rSlL (K:PySem.W.Frag):V→Option Int→Option Int→Hp→VK→Prop:=fun x lo hi H Q=>∃ a xs,x=.ref a∧SqL K H a xs∧∀ p,H p=none→Q (.ref p) (upd H p (.lst (cutV xs lo hi)))
theorem sl_list:SlR X (rSlL X.K):=by
  intro pins s σ H x v vl vu lo hi sl Q I rx hs pl pu h
  obtain ⟨a,xs,rfl,hx,q⟩:=h
  cases rx
  obtain ⟨its,r,ht,hz⟩:=I.list hx
  have hlen:=r.length
  refine ⟨"list",_,slot_list_getitem.lookup,ht.isList.typeIs,?_⟩
  refine wpAny_getItem_list_slice ht.isList hs pl pu .none (by simp) ?_ (by rw [List.size_toArray] <;> omega)
  rw [slicePick_cut,← hlen]
  refine ⟨.ref s.heap.objs.size,_,I.laid (t':=s.toks) (o:=.lst (cutV xs lo hi)) (fun b ob q=>Heap.get?_push_of_some _ q) (Nat.le_refl _) ?_,rfl,q _ (I.hok.fresh (Nat.le_refl _))⟩
  exact ⟨Nat.le_trans (cutV_length xs lo hi) hz,_,0,(r.drop (HT.sIx xs.length 0 lo)).take (HT.sIx xs.length xs.length hi - HT.sIx xs.length 0 lo),Heap.get?_push_size _ rfl⟩
def flatV:V→Bool
  | .non=>true
  | .bl _=>true
  | .int _=>true
  | .str _=>true
  | _=>false
def eqV:V→V→Bool
  | .non,.non=>true
  | .bl a,.bl b=>a == b
  | .bl a,.int b=>(if a then 1 else 0) == b
  | .int a,.bl b=>a == (if b then 1 else 0)
  | .int a,.int b=>a == b
  | .str a,.str b=>a == b
  | _,_=>false
theorem eqAt_V {A:Around} {s:Shared} {y x:V} {u v:Value} (ry:RelV y u) (rx:RelV x v) (fy:flatV y=true) (fx:flatV x=true):SeqAt.EqAt A s u v (eqV y x):=by
  cases y with
  | non =>
    cases ry
    cases x with
    | non=>cases rx; exact SeqAt.EqAt.same _
    | bl b=>cases rx; exact SeqAt.EqAt.none_bool b
    | int b=>obtain ⟨t,rfl⟩:=rx; exact SeqAt.EqAt.none_int b t
    | str b=>obtain ⟨t,rfl⟩:=rx; exact SeqAt.EqAt.none_str b t
    | _=>exact absurd (show false=true from fx) Bool.false_ne_true
  | bl a =>
    cases ry
    cases x with
    | non=>cases rx; exact SeqAt.EqAt.bool_none a
    | bl b=>cases rx; exact SeqAt.EqAt.bool_bool a b
    | int b=>obtain ⟨t,rfl⟩:=rx; exact SeqAt.EqAt.bool_int a b t
    | str b=>obtain ⟨t,rfl⟩:=rx; exact SeqAt.EqAt.bool_str a b t
    | _=>exact absurd (show false=true from fx) Bool.false_ne_true
  | int a =>
    obtain ⟨t',rfl⟩:=ry
    cases x with
    | non=>cases rx; exact SeqAt.EqAt.int_none a t'
    | bl b=>cases rx; exact SeqAt.EqAt.int_bool a t' b
    | int b=>obtain ⟨t,rfl⟩:=rx; exact SeqAt.EqAt.int_int a t' b t
    | str b=>obtain ⟨t,rfl⟩:=rx; exact SeqAt.EqAt.int_str a t' b t
    | _=>exact absurd (show false=true from fx) Bool.false_ne_true
  | str a =>
    obtain ⟨t',rfl⟩:=ry
    cases x with
    | non=>cases rx; exact SeqAt.EqAt.str_none a t'
    | bl b=>cases rx; exact SeqAt.EqAt.str_bool a t' b
    | int b=>obtain ⟨t,rfl⟩:=rx; exact SeqAt.EqAt.str_int a t' b t
    | str b=>obtain ⟨t,rfl⟩:=rx; exact SeqAt.EqAt.str_str a t' b t
    | _=>exact absurd (show false=true from fx) Bool.false_ne_true
  | _=>exact absurd (show false=true from fy) Bool.false_ne_true
def eqU (x:V) (u:Value):Bool:=match u with
  | .none=>eqV .non x
  | .bool b=>eqV (.bl b) x
  | .int i _=>eqV (.int i) x
  | .str z _=>eqV (.str z) x
  | _=>false
theorem eqU_of {x y:V} {u:Value} (r:RelV y u) (f:flatV y=true):eqU x u=eqV y x:=by
  cases y with
  | non=>cases r; rfl
  | bl b=>cases r; rfl
  | int i=>obtain ⟨t,rfl⟩:=r; rfl
  | str z=>obtain ⟨t,rfl⟩:=r; rfl
  | _=>exact absurd (show false=true from f) Bool.false_ne_true
theorem any_eqU {x:V}:∀ {xs:List V} {us:List Value},Vals xs us→xs.all flatV=true→us.any (eqU x)=xs.any fun y=>eqV y x
  | _,_,.nil,_=>rfl
  | y :: xs,u :: us,.cons r t,f=>by
    rw [List.all_cons,Bool.and_eq_true] at f
    rw [List.any_cons,List.any_cons,eqU_of r f.1,any_eqU t f.2]
theorem mem_eqAt {A:Around} {s:Shared} {x:V} {v:Value} (rx:RelV x v) (fx:flatV x=true):∀ {xs:List V} {us:List Value},Vals xs us→xs.all flatV=true→∀ u∈us,SeqAt.EqAt A s u v (eqU x u)
  | _,_,.nil,_=>fun u hu=>by cases hu
  | y :: xs,u :: us,.cons r t,f=>fun u' hu=>by
    rw [List.all_cons,Bool.and_eq_true] at f
    rcases List.mem_cons.mp hu with rfl | hu
    · rw [eqU_of r f.1]; exact eqAt_V r rx f.1 fx
    · exact mem_eqAt rx fx t f.2 u' hu
def inV (x:V) (xs:List V):Bool:=xs.any fun y=>eqV y x
def rIn (K:PySem.W.Frag) (neg:Bool):R2:=fun x y H Q=>∃ p xs,y=.ref p∧(SqL K H p xs∨SqT K H p xs)∧flatV x=true∧xs.all flatV=true∧Q (.bl (if neg then !inV x xs else inV x xs)) H
theorem op_notIn_seq:OpR X (compareOp .NotIn) (rIn X.K true):=by
  intro pins s σ H x y v u Q I rx ry h
  obtain ⟨p,xs,rfl,hq,fx,fs,q⟩:=h
  cases ry
  rcases hq with hq | hq
  · obtain ⟨its,r,pl,hz⟩:=I.list hq
    refine SeqAt.notIn_listAt (eqU x) pl.isList (fun w hw=>mem_eqAt rx fx r fs w (by simpa using hw)) ⟨.bl _,H,I,rfl,?_⟩
    rw [show its.toArray.any (eqU x)=its.any (eqU x) by simp,any_eqU r fs]
    exact q
  · obtain ⟨its,r,pl,hz⟩:=I.tuple hq
    refine SeqAt.notIn_tupleAt (eqU x) pl (fun w hw=>mem_eqAt rx fx r fs w (by simpa using hw)) ⟨.bl _,H,I,rfl,?_⟩
    rw [show its.toArray.any (eqU x)=its.any (eqU x) by simp,any_eqU r fs]
    exact q
theorem call_len_seq:CallR X (.builtin "len") (fun xs H Q=>∃ p ys,xs=[.ref p]∧(SqL X.K H p ys∨SqT X.K H p ys)∧Q (.int ys.length) H):=by
  intro pins s σ H xs us Q I r h
  obtain ⟨p,ys,rfl,hq,q⟩:=h
  obtain ⟨u,rfl,rx⟩:=vals1 r
  cases rx
  have hn:=line63
  rcases hq with hq | hq
  · obtain ⟨its,r',pl,hz⟩:=I.list hq
    have hlen:=r'.length
    exact Calls.call_len_list pl.isList (by simp only [List.size_toArray] <;> omega) ⟨.int ys.length,H,I.tok _,⟨s.toks+1,by rw [List.size_toArray,hlen]⟩,q⟩
  · obtain ⟨its,r',pl,hz⟩:=I.tuple hq
    have hlen:=r'.length
    exact len_tuple pl (by simp only [List.size_toArray] <;> omega) ⟨.int ys.length,H,I.tok _,⟨s.toks+1,by rw [List.size_toArray,hlen]⟩,q⟩
theorem call_list_of:CallR X (.type "list") (fun xs H Q=>∃ p ys,xs=[.ref p]∧(SqL X.K H p ys∨SqT X.K H p ys)∧∀ l,H l=none→Q (.ref l) (upd H l (.lst ys))):=by
  intro pins s σ H xs us Q I r h
  obtain ⟨p,ys,rfl,hq,q⟩:=h
  obtain ⟨u,rfl,rx⟩:=vals1 r
  cases rx
  have fin:∀ (its:List Value),Vals ys its→ys.length≤sizeLine→∀ (h':Heap) (c':Nat),(∀ b o',s.heap.get? b=some o'→h'.get? b=some o') →
      h'.get? s.heap.objs.size=some { cls:=.type "list",dict:=none,data:=.seq its.toArray c',slots:=#[] }→EP X pins σ Q (.ref s.heap.objs.size) { s with heap:=h' }:=fun its r' hz h' c' kp e =>
    ⟨.ref s.heap.objs.size,_,I.laid (t':=s.toks) kp (Nat.le_refl _) (show ObjOk X.prog X.w _ h' _ (.lst ys) from ⟨hz,its,c',r',e⟩),rfl,q _ (I.hok.fresh (Nat.le_refl _))⟩
  rcases hq with hq | hq
  · obtain ⟨its,r',pl,hz⟩:=I.list hq
    have hlen:=r'.length
    obtain ⟨o,ho,hc,n,hd⟩:=pl.isList
    exact call_list_seq p (.inl rfl) ho hc hd (fun h' c' kp e=>fin its r' hz h' c' kp e) (by simp only [List.size_toArray] <;> omega)
  · obtain ⟨its,r',pl,hz⟩:=I.tuple hq
    have hlen:=r'.length
    obtain ⟨o,ho,hc,n,hd⟩:=pl
    exact call_list_seq p (.inr rfl) ho hc hd (fun h' c' kp e=>fin its r' hz h' c' kp e) (by simp only [List.size_toArray] <;> omega)
theorem call_tuple_of:CallR X (.type "tuple") (fun xs H Q=>∃ p ys,xs=[.ref p]∧((SqL X.K H p ys∧∀ l,H l=none→Q (.ref l) (upd H l (.tup ys)))∨(SqT X.K H p ys∧Q (.ref p) H))):=by
  intro pins s σ H xs us Q I r h
  obtain ⟨p,ys,rfl,h⟩:=h
  obtain ⟨u,rfl,rx⟩:=vals1 r
  cases rx
  rcases h with ⟨hq,q⟩ | ⟨hq,q⟩
  · obtain ⟨its,r',pl,hz⟩:=I.list hq
    have hlen:=r'.length
    refine call_tuple_list pl.isList (fun h' kp=>?_) (by simp only [List.size_toArray] <;> omega)
    have I1:Inv X pins σ H { s with heap:=h' }:=I.kept (t':=s.toks) kp
    have I2:Inv X pins σ (upd H h'.objs.size (.tup ys)) { s with heap:=h'.push { cls:=.type "tuple",data:=.seq its.toArray } } :=
      I1.laid (t':=s.toks) (fun b o e=>Heap.get?_push_of_some _ e) (Nat.le_refl _) (show ObjOk X.prog X.w _ _ _ (.tup ys) from ⟨hz,its,r',IsTup.new _ _⟩)
    exact ⟨.ref h'.objs.size,_,I2,rfl,q _ (I1.hok.fresh (Nat.le_refl _))⟩
  · obtain ⟨its,r',pl,hz⟩:=I.tuple hq
    exact call_tuple_same pl ⟨.ref p,H,I,rfl,q⟩
def tyV (K:PySem.W.Frag) (T:String) (x:V) (H:Hp):Prop:=match x with
  | .str _=>T="str"
  | .int _=>T="int"
  | .ref p=>(T="list"∧∃ xs,SqL K H p xs)∨(T="tuple"∧∃ o,K.lookup p=some o∧o.cls=.type "tuple"∧o.dict=none) ∨
      (T="dict"∧((∃ kvs,H p=some (.dK kvs))∨∃ kvs,H p=some (.dT kvs)))∨(T="set"∧∃ S n,H p=some (.set S n))
  | _=>False
theorem tyV_is {pins:List (Addr × Obj)} {σ:St} {H:Hp} {s:Shared} {T:String} {x:V} {v:Value} (I:Inv X pins σ H s) (r:RelV x v) (ty:tyV X.K T x H) :
    s.TypeIs v T∧∀ a,v=.ref a→∃ ob,s.heap.get? a=some ob∧ob.dict=none:=by
  cases x with
  | str z =>
    obtain ⟨t,rfl⟩:=r
    cases (show T="str" from ty)
    exact ⟨typeIs_str s z t,fun _ e=>nomatch e⟩
  | int i =>
    obtain ⟨t,rfl⟩:=r
    cases (show T="int" from ty)
    exact ⟨typeIs_int s i t,fun _ e=>nomatch e⟩
  | ref p =>
    cases r
    rcases ty with ⟨rfl,xs,hq⟩ | ⟨rfl,o,hk,hc,hd⟩ | ⟨rfl,hk⟩ | ⟨rfl,S,n,hk⟩
    · obtain ⟨its,_,pl,_⟩:=I.list hq
      refine ⟨pl.isList.typeIs,fun a e=>?_⟩
      cases e
      obtain ⟨o,n,e,c,hd,_⟩:=pl
      exact ⟨o,e,hd⟩
    · refine ⟨⟨o,I.kIn p o hk,hc⟩,fun a e=>?_⟩
      cases e
      exact ⟨o,I.kIn _ o hk,hd⟩
    · have z:∃ o,s.heap.get? p=some o∧o.ExactDict:=by
        rcases hk with ⟨kvs,hk⟩ | ⟨kvs,hk⟩
        · obtain ⟨_,_,_,_,o,_,_,e,ex,_⟩:=I.hok p _ hk
          exact ⟨o,e,ex⟩
        · obtain ⟨_,_,_,_,o,_,_,e,ex,_⟩:=I.hok p _ hk
          exact ⟨o,e,ex⟩
      obtain ⟨o,e,ex⟩:=z
      refine ⟨⟨o,e,ex.1⟩,fun a e2=>?_⟩
      cases e2
      exact ⟨o,e,ex.2.1⟩
    · obtain ⟨o,_,_,_,e,ex,_⟩:=I.hok p _ hk
      refine ⟨⟨o,e,ex.1⟩,fun a e2=>?_⟩
      cases e2
      exact ⟨o,e,ex.2.1⟩
  | _=>exact False.elim ty
def tBM (K:PySem.W.Frag) (T:String) (r:V→List V→Hp→VK→Prop) (to:TE) (t:TA):TE:=fun σ H Q=>to σ H fun x H1=>tyV K T x H1∧t σ H1 fun xs H2=>r x xs H2 Q
variable {o e:Expr} {es:List Expr} {to:TE} {t:TA} {name:Str} {apos cpos:Pos} {T id:String} {r:V→List V→Hp→VK→Prop}
theorem pe_bm (pa:PlainAttrs T) (slot:Slot T name id) (hty:typeOf (.builtin id)=pure (.type "method_descriptor")) (hm:MtR X id r) (ho:PE X o to) (ha:PA X (e :: es) t)
    (hbase:attributeBase o name X.env (eval o X.env)=eval o X.env:=by rfl)
    (hfew:((backTo cpos (starEach (e :: es) X.env)).all (fun x=>!x.1) && (backToKw cpos (keywordEach [] X.env)).all (fun x=>x.1.isSome)
      && decide ((e :: es).length+([]:List Keyword).length+(if ([]:List Keyword).isEmpty then 0 else 1) < 30))=true:=by rfl)
    (hline:(apos.endLine == cpos.line)=true:=by rfl) (hs:starEach (e :: es) X.env=(false,eval e X.env) :: starEach es X.env:=by rfl) (hplain:(backTo cpos (starEach es X.env)).any (·.1)=false:=by rfl) :
    PE X (.Call (.Attribute o name apos) (e :: es) [] cpos) (tBM X.K T r to t):=by
  intro pins s σ H Q I h
  refine wpAny_Call_method_late hbase hfew hline rfl (thn (ho pins s σ H _ I h) fun v s1 ⟨x,H1,I1,r1,ty,q1⟩=>?_)
  obtain ⟨h1,h2⟩:=tyV_is I1 r1 ty
  refine ⟨T,id,pa,slot,hty,h1,h2,?_⟩
  have hA:=ha cpos pins s1 σ H1 _ I1 q1
  rw [hs] at hA ⊢
  refine Calls.callWith_builtin (by show (false || (backTo cpos (starEach es X.env)).any (·.1))=false; rw [hplain] <;> rfl) (Calls.evalArgs_plain ?_)
  exact thn hA fun us s2 ⟨vs,H2,I2,r2,q2⟩=>hm pins s2 σ H2 x vs v us Q I2 r1 r2 q2
/- xs.append(e),list.index on a module's tuple .. are MtR facts of 06m -/
end
end L2
namespace L2
open PySem PySem.Spec PyProof.Rows
def MtM (X:Cx) (id:String) (r:V→List V→Hp→VK→Prop):Prop :=
  ∀ (pins:List (Addr × Obj)) (s:Shared) (σ:St) (H:Hp) (x:V) (xs:List V) (v:Value) (us:List Value) (Q:VK),Inv X pins σ H s→RelV x v→Vals xs us→r x xs H Q →
    wpAny (model X.prog X.w) X.A (call (.builtin id) (v :: us)) (EP X pins σ Q) X.xe s
theorem Vals.one:∀ {x:V} {us:List Value},Vals [x] us→∃ u,us=[u]∧RelV x u
  | _,_,.cons r .nil=>⟨_,rfl,r⟩
section
variable {X:Cx} {pins:List (Addr × Obj)} {σ:St} {H:Hp} {s:Shared} {l b:Addr} {xs ys zs:List V}
theorem Inv.lset {its its':List Value} {n:Nat} {f:Array Value→Array Value} {t':Nat} (I:Inv X pins σ H s) (hH:H l=some (.lst xs))
    (e:s.heap.get? l=some { cls:=.type "list",data:=.seq its.toArray n }) (hf:f its.toArray=its'.toArray) (hv:Vals ys its') (hz:ys.length≤sizeLine) :
    Inv X pins σ (upd H l (.lst ys)) { s with heap:=s.heap.update l (Obj.mapSeq f),toks:=t' }:=by
  have q:=PySem.IsL.update e f
  rw [hf] at q
  refine I.write (x:=l) (e:=l) (by rw [hH]; exact trivial) (.inl rfl) (fun b' u hb hu=>(Heap.get?_update_other s.heap (Obj.mapSeq f) (Ne.symm hb)).trans hu) ⟨_,q⟩ ?_
  exact ⟨hz,its',_,hv,q⟩
theorem Inv.lnew {its:List Value} {t':Nat} (I:Inv X pins σ H s) (hv:Vals ys its) (hz:ys.length≤sizeLine) :
    Inv X pins σ (upd H s.heap.objs.size (.lst ys)) { s with heap:=s.heap.push { cls:=.type "list",data:=.seq its.toArray },toks:=t' } :=
  I.laid (fun _ _ q=>Heap.get?_push_of_some _ q) (Nat.le_refl _) ⟨hz,its,0,hv,Heap.get?_push_size _ rfl⟩
theorem Inv.fresh (I:Inv X pins σ H s):H s.heap.objs.size=none:=I.hok.fresh (Nat.le_refl _)
theorem Inv.lstM (I:Inv X pins σ H s) (hH:H l=some (.lst xs)):xs.length≤sizeLine∧∃ (its:List Value) (n:Nat),Vals xs its∧xs.length=its.length∧s.heap.get? l=some { cls:=.type "list",data:=.seq its.toArray n }:=by
  obtain ⟨z,its,n,r,e⟩:=I.hok l _ hH
  exact ⟨z,its,n,r,r.length,e⟩
end
section
variable {X:Cx}
def rAppend:V→List V→Hp→VK→Prop:=fun x vs H Q=>∃ l xs y,x=.ref l∧vs=[y]∧H l=some (.lst xs)∧xs.length < sizeLine∧Q .non (upd H l (.lst (xs++[y])))
theorem mt_append:MtM X "list.append" rAppend:=by
  intro pins s σ H x vs v us Q I rx rv h
  obtain ⟨l,xs,y,rfl,rfl,hH,hz,q⟩:=h
  cases rx
  obtain ⟨u,rfl,ru⟩:=rv.one
  obtain ⟨z,its,n,r,hl,e⟩:=I.lstM hH
  refine call_meets F.slot_list_append ⟨_,e,rfl⟩ F.entry_list_append (F.args_list_append_2 _ _) (PySem.list_append l its.toArray n u (by rw [List.size_toArray]; omega)) ⟨e,?_⟩
  refine ⟨.non,_,I.lset (its':=its++[u]) hH e (by simp) (r.append (.cons ru .nil)) ?_,rfl,q⟩
  rw [List.length_append,List.length_singleton]
  omega
def rCat:R2:=fun x y H Q=>∃ l b xs zs,x=.ref l∧y=.ref b∧H l=some (.lst xs)∧H b=some (.lst zs)∧xs.length+zs.length≤sizeLine∧∀ p,H p=none→Q (.ref p) (upd H p (.lst (xs++zs)))
theorem op_cat:OpR X (binaryOp .Add) rCat:=by
  intro pins s σ H x y v u Q I rx ry h
  obtain ⟨l,b,xs,zs,rfl,rfl,hH,hB,hz,q⟩:=h
  cases rx
  cases ry
  obtain ⟨z,its,n,r,hl,e⟩:=I.lstM hH
  obtain ⟨z2,its2,n2,r2,hl2,e2⟩:=I.lstM hB
  refine PySem.P.add_list e e2 ?_ (by rw [List.size_toArray,List.size_toArray]; omega)
  have ea:its.toArray++its2.toArray=(its++its2).toArray:=by simp
  rw [ea]
  exact ⟨.ref _,_,I.lnew (t':=s.toks) (r.append r2) (by rw [List.length_append]; omega),rfl,q _ I.fresh⟩
end
section
variable {prog:Program} {w:World} {A:Around} {E:Value→Shared→Prop} {s:Shared}
end
section
variable {X:Cx}
end
end L2
namespace Att
open PySem PySem.W PySem.Calls PyProof.Rows
theorem ints_of_wellAll {P:Params} {h:Heap}:∀ (ns:List Int) (vs:List Value),WellAll P h vs (ns.map WData.int)→IntsAre vs ns:=by
  intro ns
  induction ns with
  | nil =>
    intro vs w
    rw [List.map_nil] at w
    cases w
    exact .nil
  | cons n ns ih =>
    intro vs w
    rw [List.map_cons] at w
    cases w with
    | cons a b =>
      cases a
      exact .cons _ _ (ih _ b)
theorem script_of {l:OpenLaw} {n:Nat} (hn:l.most=some n) {P:Params} {h:Heap} {args:List WData} {vals:List Value}
    (hpre:l.row.toRowW.claim.pre args=true) (hwl:WellAll P h vals args) :
    ∃ a vs ns,vals=[Value.ref a]∧args=[WData.list (ns.map WData.int)]∧h.get? a=some { cls:=.type "list",data:=.seq vs.toArray }∧IntsAre vs ns∧ns.length≤n:=by
  have hsh:WShape.hasAll [] args [.list .int]=true:=(pre_splitW hpre).1
  have hc:l.pre.holds [] { args:=args }=true:=(pre_splitW hpre).2
  obtain ⟨d,r,rfl,h1,h2⟩:=hasAllW_cons hsh
  obtain rfl:=hasAllW_nil h2
  obtain ⟨xs,rfl,h3⟩:=hasW_list h1
  obtain ⟨ns,rfl⟩:=items_int h3
  have hlen:ns.length≤n:=by
    unfold OpenLaw.pre at hc
    have h4:(WTm.not (.lt (.lit (.int (n:Int))) (.len (.arg 0)))).holds [] { args:=[.list (ns.map .int)] }=true:=by
      have h4:=(holds_andW hc).1
      rw [hn] at h4
      exact h4
    have h5:=condW_of h4 (w_not (w_lt w_lit (w_len_list (w_arg rfl))))
    rw [List.length_map] at h5
    refine Nat.le_of_not_lt fun q=>?_
    have q':(n:Int) < ((ns.length:Nat):Int):=by omega
    first
      | (rw [decide_eq_true q'] at h5; exact absurd h5 (by decide))
      | (simp at h5; omega)
  cases hwl with
  | cons w1 w2 =>
    cases w2
    cases w1 with
    | list ho hall=>exact ⟨_,_,ns,rfl,rfl,ho,ints_of_wellAll ns _ hall,hlen⟩
theorem post_true (l:OpenLaw) (args:List WData):l.row.toRowW.claim.post args (.bool true) args=true :=
  postW_of (r:=l.row.toRowW) (X:=(true == true))
    (show WShape.has [] (.bool true) .bool=true by first | rfl | decide | simp [WShape.has,WShape.arms,WShape.armsAll])
    (show (WTm.eq .res (.lit (.bool true))).value [] { args:=args,res:=some (.bool true),after:=args }=some (.bool (true == true)) from w_eq_bool (w_res rfl) w_lit) rfl
theorem attach_call {l:OpenLaw} {n:Nat} {q:Program} {loose:List Str} {XP:(Str→Option Value)→Heap→Prop} {YP:World→Heap→Prop} {d:DefRec}
    (hn:l.most=some n) (hdf:d.params.defaults=[])
    (call:∀ (w:World) (s₀ s₁:Shared) (mg mb:Str→Option Value) (fa:Addr) (o:Obj) (pm cd doc:Value) (a:Addr) (vs:List Value) (ns:List Int),
      Ground q loose [] XP w s₀ mg mb s₁.heap→YP w s₁.heap →
      s₁.heap.get? fa=some o→o.data=.func (docDef d.name d.params d.body d.scope pm cd doc)→s₁.heap.CodeRec cd d.name→mg d.name=some (.ref fa) →
      s₁.heap.get? a=some { cls:=.type "list",data:=.seq vs.toArray }→IntsAre vs ns→ns.length≤n→s₁.gens=#[] →
      codeAny (model l.prog w) callerA (.call (.ref fa) ⟨[.ref a],[]⟩) (fun r s'=>r=.ok (.ret (.bool true))∧OldK s₁.heap s'.heap∧s'.os=s₁.os∧AllBare s'.gens) s₁) :
    WalkO q loose XP YP l.row.toRowW d [] (fun f vs=>PySem.call f vs):=by
  intro w s₀ s₁ mg mb G Y fa o pm cd doc dV kV ho hd hcd hD hmg hg args vals as hpre hlay hrd hwl hlo
  obtain rfl:dV=.none:=Dflts.none hD hdf
  obtain rfl:kV=.none:=Dflts.noKw hD
  obtain ⟨a,vs,ns,rfl,rfl,hobj,hints,hlen⟩:=script_of hn hpre hwl
  refine enter_call (codeAny_mono (call w s₀ s₁ mg mb fa o pm cd doc a vs ns G Y ho (fd_plain hd) hcd hmg hobj hints hlen hg) fun r s' hq=>?_)
  obtain ⟨rfl,h2,h3,h4⟩:=hq
  exact ⟨.inl ⟨.bool true,.bool true,[],rfl,fun _=>rfl,.bool true,post_true l _,fun _=>⟨List.Pairwise.nil,fun _ hm=>(nomatch hm)⟩⟩,h2,h3,h4⟩
section
variable {prog:Program} {w:World} {A:Around} {E:Value→Shared→Prop} {s:Shared} {K:Frag}
end
end Att
namespace L2
open PySem PySem.Spec PyProof.Rows
theorem vals_ints:∀ {vs:List Value} {ns:List Int},IntsAre vs ns→Vals (ns.map V.int) vs
  | _,_,.nil=>.nil
  | _,_,.cons n t h=>.cons ⟨t,rfl⟩ (vals_ints h)
def Only (H:Hp):Prop:=∀ b,H b=none∨∃ o xs,H b=some (.frz o (.lst xs))
theorem law_call {P:Program} {w:World} {K:PySem.W.Frag} {mg mb:Str→Option Value} {CX:CXT} {k:Nat} {fa a:Addr} {fd:FuncData} {x:Str} {sp:Sp} {s₁:Shared} {vs:List Value} {ns:List Int}
    (KX:K.In s₁.heap) (hns:s₁.heap.Ns mainGlobals mg) (hb:s₁.heap.Ns builtinsNs mb) (hbb:∀ x:Str,x≠"__name__"→mb x=bootBuiltins x) (hlim:s₁.heap.NoLimit) (hg:s₁.gens=#[])
    (ha:s₁.heap.get? a=some { cls:=.type "list",data:=.seq vs.toArray }) (hi:IntsAre vs ns) (hl:ns.length≤sizeLine) (hr:Room k callerA)
    (F:∀ base:Heap,K.In base→base.Ns mainGlobals mg→FnOk P w K mg base CX k fa fd [x] sp) (hbind:∀ (s:Shared) (u:Value),BindsTo s fd ⟨[u],[]⟩ [(x,u)])
    (hsp:∀ H:Hp,Only H→SqL K H a (ns.map V.int)→sp [.ref a] H (fun v _=>v=.bl true) fun _ _ _=>False)
    (hCX:∀ H e s',CX [] H s₁ (fun _ _ _=>False) e s'→False) :
    codeAny (model P w) callerA (.call (.ref fa) ⟨[.ref a],[]⟩) (fun r s'=>r=.ok (.ret (.bool true))∧OldK s₁.heap s'.heap∧s'.os=s₁.os∧AllBare s'.gens) s₁:=by
  have rv:=vals_ints hi
  have lenV:=hi.length
  have core:∀ H:Hp,Only H→SqL K H a (ns.map V.int)→HOk P w H s₁.heap→(∀ b,H b≠none→b=a)→(H a≠none→K.lookup a=none) →
      codeAny (model P w) callerA (.call (.ref fa) ⟨[.ref a],[]⟩) (fun r s'=>r=.ok (.ret (.bool true))∧OldK s₁.heap s'.heap∧s'.os=s₁.os∧AllBare s'.gens) s₁:=by
    intro H hO hS hok hA hK
    have base_of:∀ {b:Addr} {o:Obj},s₁.heap.get? b=some o→H b=none→(hidT s₁.heap H).get? b=some o:=fun e n=>hidT_get e n
    have noA:∀ {b:Addr} {o:Obj} {es:Array DictEntry} {ep:Nat},s₁.heap.get? b=some o→o.data=.dict es ep→H b=none:=fun {b o es ep} e d=>by
      cases q:H b with
      | none=>rfl
      | some u =>
        have e':b=a:=hA b (by rw [q]; simp)
        subst e'
        rw [ha] at e; cases e
        have d':Data.seq vs.toArray _=Data.dict es ep:=d
        cases d'
    have nsK:∀ {b:Addr} {m:Str→Option Value},s₁.heap.Ns b m→(hidT s₁.heap H).Ns b m:=fun {b m} ⟨o,es,ep,e,d,r⟩=>⟨o,es,ep,base_of e (noA e d),d,r⟩
    have hKb:K.In (hidT s₁.heap H):=fun b o e=>base_of (KX b o e) (by
      cases q:H b with
      | none=>rfl
      | some u =>
        have e':b=a:=hA b (by rw [q]; simp)
        subst e'
        rw [hK (by rw [q]; simp)] at e; cases e)
    have hM:Mod K mg (hidT s₁.heap H):=⟨hKb,nsK hns,⟨mb,nsK hb,hbb⟩,let ⟨mc,h1,h2⟩:=hlim; ⟨mc,nsK h1,h2⟩⟩
    have e0:Env0 P w K mg (hidT s₁.heap H) callerA [] s₁ H:=⟨rfl,hM,fun b o e=>of_hidT e,Nat.le_of_eq (hidT_size _ _),trivial,fun b hb=>absurd (show b∈([]:List Addr) from hb) (by simp),hok,.of_eq hg⟩
    refine codeAny_mono ((F _ hKb (nsK hns)).run callerA [] s₁ H ⟨[.ref a],[]⟩ [.ref a] [.ref a] _ _ hr e0 (hbind s₁ (.ref a)) (.cons rfl .nil) (hsp H hO hS)) fun r s' h=>?_
    cases r with
    | error e=>exact (hCX H e s' h).elim
    | ok fl =>
      cases fl with
      | next=>exact False.elim h
      | brk=>exact False.elim h
      | cont=>exact False.elim h
      | ret u =>
        obtain ⟨v,H',os,bare,un,hok',r',q⟩:=h
        have q':v=.bl true:=q
        subst q'
        obtain rfl:u=Value.bool true:=r'
        refine ⟨rfl,OldK.of_keep fun b o e=>?_,os,bare⟩
        cases q:H b with
        | none=>exact un.keep b o e q (by intro z; exact absurd (show b∈([]:List Addr) from z) (by simp)) (by simp)
        | some u =>
          rcases hO b with z | ⟨ob,xs,z⟩
          · rw [q] at z; cases z
          · have z2:=un.frzs b ob _ z
            obtain ⟨e1,_⟩:=hok b _ z
            obtain ⟨e2,_⟩:=hok' b _ z2
            rw [e] at e1; cases e1
            exact e2
  cases hk:K.lookup a with
  | some o =>
    have e:=KX a o hk
    rw [ha] at e
    cases e
    refine core (fun _=>none) (fun _=>.inl rfl) (.inr ⟨_,vs.toArray,_,hk,rfl,rfl,rfl,by rw [List.size_toArray,lenV]; exact hl,by simpa using rv⟩) (fun b u z=>by have z':(none:Option HO)=some u:=z; cases z') (fun b z=>absurd rfl z) fun z=>absurd rfl z
  | none =>
    refine core (fun b=>if b=a then some (.frz { cls:=.type "list",data:=.seq vs.toArray } (.lst (ns.map V.int))) else none) (fun b=>?_) (.inl (.inr ⟨{ cls:=.type "list",data:=.seq vs.toArray },if_pos rfl⟩)) (fun b u z=>?_) (fun b z=>?_) fun _=>hk
    · by_cases hb:b=a
      · exact .inr ⟨_,_,if_pos hb⟩
      · exact .inl (if_neg hb)
    · by_cases hb:b=a
      · have z':=(if_pos hb).symm.trans z
        cases z'
        subst hb
        exact ⟨ha,by rw [List.length_map]; exact hl,vs,_,rv,ha⟩
      · have z':=(if_neg hb).symm.trans z
        cases z'
    · by_cases hb:b=a
      · exact hb
      · exact absurd (if_neg hb) z
end L2
namespace L2
open PySem PySem.Spec PyProof.Rows
abbrev KOf {K:PySem.W.Frag} {h:Heap} (_:K.In h):PySem.W.Frag:=K
theorem walk_of {l:PySem.W.OpenLaw} {n k:Nat} {q:Program} {loose:List Str} {XP:(Str→Option Value)→Heap→Prop} {YP:World→Heap→Prop} {d:DefRec} {K:Params→PySem.W.Frag} {CX:World→CXT} {sp:World→Sp} {x:Str}
    (hn:l.most=some n) (hn2:n≤sizeLine) (hdf:d.params.defaults=[]) (hr:Room k callerA)
    (hY:∀ (w:World) (h:Heap),YP w h→(K w.params).In h)
    (F:∀ (w:World) (mg:Str→Option Value) (fa:Addr) (h:Heap),(K w.params).In h→h.Ns mainGlobals mg→mg d.name=some (.ref fa) →
      ∃ fd:FuncData,(∀ (s:Shared) (u:Value),BindsTo s fd ⟨[u],[]⟩ [(x,u)]) ∧
        ∀ base:Heap,(K w.params).In base→base.Ns mainGlobals mg→FnOk l.prog w (K w.params) mg base (CX w) k fa fd [x] (sp w))
    (hsp:∀ (w:World) (H:Hp) (a:Addr) (ns:List Int),ns.length≤n→Only H→SqL (K w.params) H a (ns.map V.int)→sp w [.ref a] H (fun v _=>v=.bl true) fun _ _ _=>False)
    (hCX:∀ (w:World) (H:Hp) (s:Shared) (e:Value) (s':Shared),CX w [] H s (fun _ _ _=>False) e s'→False) :
    PySem.W.WalkO q loose XP YP l.row.toRowW d [] (fun f vs=>PySem.call f vs):=by
  refine Att.attach_call hn hdf fun w s₀ s₁ mg mb fa o pm cd doc a vs ns G Y ho hd hcd hmg hobj hints hlen hg=>?_
  have KX:=hY w _ Y
  obtain ⟨fd,hb,hF⟩:=F w mg fa _ KX G.T.g hmg
  exact law_call KX G.T.g G.T.b G.T.builtins G.T.nolimit hg hobj hints (Nat.le_trans hlen hn2) hr hF hb (fun H hO hS=>hsp w H a ns hlen hO hS) fun H e s'=>hCX w H s₁ e s'
end L2
/- THE LAST THEOREM (shape; LID,My.* are yours):
   My.Adr: a structure of the addresses that your layer names (classes,functions); My.Txt K t: a structure (Prop) of the equations over K;
   My.txt_mk:{K} {implicit addresses ..} (e1:nsIn K mainGlobals "law"=some (some (.ref f))) (e2:K.lookup f=some ⟨oc,od,.func (fnOf "law" "law" params body scope dV kV doc pm an cdv ct),sl⟩) (e3:codeIn K cdv "law"=true) ..:∃ t,My.Txt K t
set_option maxRecDepth 100000 in
set_option maxHeartbeats 0 in
theorem PySem.Challenge.cw_LID_holds:PySem.Challenge.rw_LID.Holds:=by
  w_on; o_law; k_head; (case hw=>w_witness2)
  k_fill
  refine L2.walk_of (l:=PySem.Challenge.rw_LID) (n:=63) (k:=40) (x:="script") (CX:=fun w=>..) (sp:=fun _=>My.sp_law) rfl (by decide) rfl ⟨rfl,by decide,by decide⟩ (fun w h Y=>PySem.W.kIn_of Y) ?F ?S ?C
  case F =>
    intro w mg fa h KX G hmg
    have T:∃ t,My.Txt (L2.KOf KX) t:=by
      dsimp only [L2.KOf]                          -- K must stand as «<heap const> w.params» for k_is
      refine' My.txt_mk ?e1 ?e2 ?e3 ..
      (case e1=>PySem.W.k_is)                    -- in the order: a name -> its address -> its object -> its parts
      (case e2=>PySem.W.k_is)
      ..
    obtain ⟨t,T⟩:=T
    have e0:=hmg.symm.trans (PySem.W.mg_of KX G T.law)
    cases e0                                       -- fa is the law's own address
    exact ⟨_,fun s u=>.of_eq rfl,fun base kb nb=>My.law_fn T kb nb⟩     -- if «.of_eq rfl» comes too early: refine' ⟨_,?b,fun base kb nb=>My.law_fn T kb nb⟩; exact fun s u=>.of_eq rfl
  case S=>exact fun w H a ns hl hO hS=>..
  case C=>exact ..
(the tactic k_is has no namespace: write k_is) -/
namespace L2
open PySem PySem.Spec PyProof.Rows
def inClass (s:Stmt) (j:Nat):Stmt:=match s with
  | .ClassDef _ _ _ body _ _ _ _ _ _ _=>body.getD j (.Pass ⟨0,0,0,0⟩)
  | _=>.Pass ⟨0,0,0,0⟩
def defArgs (s:Stmt):Arguments:=match s with
  | .FunctionDef _ a _ _ _ _ _ _ _ _=>a
  | _=>{ posonlyargs:=[],args:=[],vararg:=none,kwonlyargs:=[],kw_defaults:=[],kwarg:=none,defaults:=[] }
def defBody (s:Stmt):List Stmt:=match s with
  | .FunctionDef _ _ b _ _ _ _ _ _ _=>b
  | _=>[]
def defScope (s:Stmt):Scope:=match s with
  | .FunctionDef _ _ _ _ _ _ sc _ _ _=>sc
  | _=>{ kind:=.function,names:=[],isGenerator:=false,isCoroutine:=false }
abbrev CX0:CXT:=fun _ _ _ _ _ _=>False
abbrev E0:XK:=fun _ _ _=>False
theorem pass0 {X:Cx}:Passes CX0 X E0:=fun _ _ _ _ _ _ _ h=>h.elim
structure Fun (K:PySem.W.Frag) (x qual:Str) (st:Stmt) (f:Addr) (fd:FuncData):Prop where
  ex:∃ (oc:Value) (od:Option Addr) (kV doc pm:Value) (an:Option Addr) (cdv ct:Value) (osl:Array (Option Value)),
    fd=PySem.W.fnOf x qual (defArgs st) (defBody st) (defScope st) .none kV doc pm an cdv ct∧K.lookup f=some ⟨oc,od,.func fd,osl⟩∧PySem.W.codeIn K cdv qual=true
  kp:PySem.W.keepIn K (.ref f)=true
section
variable {P:Program} {w:World} {K:PySem.W.Frag} {mg:Str→Option Value} {base:Heap}
theorem Fun.ok {x qual:Str} {st:Stmt} {f:Addr} {fd:FuncData} {N ps:List Str} {k:Nat} {sp:Sp} (F:Fun K x qual st f fd) (S:FnScope N ps (defScope st)) (len:∀ vs H Q E,sp vs H Q E→vs.length=ps.length)
    (hbody:∀ (cdv:Value) (A:Around) (outer:List Env) (s:Shared) (H:Hp) (vs:List V) (Q:VK) (E:XK),Room k (A.deeper (envOfC qual (defScope st) s.heap.objs.size f cdv))→sp vs H Q E →
      ∃ t,PSs (cxOf CX0 P w K mg base N qual (defScope st) f cdv A outer s H E).nox (defBody st) t∧t { nx:=fun _ H'=>Q .non H',rt:=Q } (start N vs) H):FnOk P w K mg base CX0 (k+1) f fd ps sp:=by
  obtain ⟨oc,od,kV,doc,pm,an,cdv,ct,osl,rfl,lk,hcd⟩:=F.ex
  refine fn_of lk hcd S len fun A outer s H vs Q E hr hsp=>?_
  obtain ⟨t,h,q⟩:=hbody cdv A outer s H vs Q E hr hsp
  exact ⟨t,h.nox,q⟩
theorem Fun.binds {x qual:Str} {st:Stmt} {f:Addr} {fd:FuncData} {ps:List Str} (F:Fun K x qual st f fd)
    (h:∀ (kV doc pm:Value) (an:Option Addr) (cdv ct:Value) (us:List Value),us.length=ps.length→bindArgs (PySem.W.fnOf x qual (defArgs st) (defBody st) (defScope st) .none kV doc pm an cdv ct) ⟨us,[]⟩=pure (ps.zip us)):Binds K fd ps []:=by
  obtain ⟨oc,od,kV,doc,pm,an,cdv,ct,osl,rfl,lk,hcd⟩:=F.ex
  exact .all (h kV doc pm an cdv ct)
theorem fun_mk {x qual:Str} {st:Stmt} {f:Addr} {oc:Value} {od an:Option Addr} {osl:Array (Option Value)} {kV doc pm cdv ct:Value} (l:K.lookup f=some ⟨oc,od,.func (PySem.W.fnOf x qual (defArgs st) (defBody st) (defScope st) .none kV doc pm an cdv ct),osl⟩)
    (c:PySem.W.codeIn K cdv qual=true) (k:PySem.W.keepIn K (.ref f)=true):Fun K x qual st f (PySem.W.fnOf x qual (defArgs st) (defBody st) (defScope st) .none kV doc pm an cdv ct):=⟨⟨oc,od,kV,doc,pm,an,cdv,ct,osl,rfl,l,c⟩,k⟩
end
theorem hu_of {A:Around} {k:Nat} (hr:Room k A):A.units+1 < cLine:=Nat.lt_of_le_of_lt (Nat.add_le_add_left (by decide:1≤64) _) hr.units
theorem small1000 {n:Nat} (h:n≤1000):n < sizeLine:=Nat.lt_of_le_of_lt h (by decide)
section
variable {X:Cx}
theorem pv (i:Nat) {x:Str} {pos:Pos} (hN:X.N[i]?=some x:=by rfl) (hv:Vis X.env.scope x:=by first | exact Or.inl rfl | exact Or.inr (Or.inl rfl) | exact Or.inr (Or.inr rfl)) (hd:(x == ("__debug__":Str))=false:=by decide)
    (hcd:(x == ("__classdict__":Str))=false:=by decide):PE X (.Name x pos) (tVar i):=pe_var hN hv hd hcd
end
theorem iteF {A B:Prop} (h:B):if false=true then A else B:=by
  rw [if_neg Bool.false_ne_true]
  exact h
theorem iteT {A B:Prop} (h:A):if true=true then A else B:=by
  rw [if_pos rfl]
  exact h
def Same (H H':Hp):Prop:=∀ b o,H b=some o→H' b=some o
theorem Same.refl (H:Hp):Same H H:=fun _ _ h=>h
theorem Same.trans {H H1 H2:Hp} (a:Same H H1) (b:Same H1 H2):Same H H2:=fun c o h=>b c o (a c o h)
theorem Same.free {H H':Hp} (e:Same H H') {l:Addr} (h:H' l=Option.none):H l=Option.none:=by
  cases q:H l with
  | none=>rfl
  | some o =>
    rw [e l o q] at h
    cases h
theorem Same.seq {K:PySem.W.Frag} {H H':Hp} {a:Addr} {xs:List V} (e:Same H H') (h:SqL K H a xs):SqL K H' a xs:=by
  rcases h with (h | ⟨o,h⟩) | h
  · exact .inl (.inl (e _ _ h))
  · exact .inl (.inr ⟨o,e _ _ h⟩)
  · exact .inr h
end L2
set_option maxHeartbeats 4000000
namespace L2
open PySem PySem.W PyProof.Rows
def lookO {α β:Type} (oS:Program→List Str→List Str→(Shared→Bool)→Bool→Shared→α) (ms:List Str) (p q:Program) (lo:List Str) (Xt:Shared→Bool) (Yf:Shared→β) (h0:Heap) (s:Shared):Bool × α × β :=
  ((((staticsOk ms h0 s.heap && namesBound p s.heap) && gensDone s) && laidKept h0 s.heap),oS q lo ms Xt true s,Yf s)
noncomputable abbrev atBoot (P:Params) (os:OsState):Shared:=Shared.mk (boot_heap P) (Array.mk []) boot_drawn boot_toks os
theorem left_once {p q:Program} {lo:List Str} {Xt:Shared→Bool} {β:Type} {Yf:Shared→β} {Ya:World→β} {N m:Nat} {an:Option Value}
    (bo:∀ w:World,Option.map (fun s=>(s.heap,s.gens,s.drawn,s.toks)) (fencedOpening treeTable p w N)=some (boot_heap w.params,Array.mk [],boot_drawn,boot_toks))
    (sz:∀ w:World,((boot_heap w.params).isNs mainGlobals,(boot_heap w.params).objs.size,(boot_heap w.params).nsMap mainGlobals "__annotations__")=(true,m,an))
    (rn:∀ (w:World) (os:OsState),Option.map (lookO openSeen (importedModules p.main.body) p q lo Xt Yf (boot_heap w.params)) (topRun treeTable p w m an N (atBoot w.params os) (topStub p))=some (true,openGood q lo,Ya w)) :
    LeftO p q lo Xt Yf Ya N:=by
  intro w
  obtain ⟨s0,e0,e1⟩:=Option.map_eq_some_iff.mp (bo w)
  obtain ⟨hp,gs,dr,tk,os⟩:=s0
  simp only [Prod.mk.injEq] at e1
  obtain ⟨rfl,rfl,rfl,rfl⟩:=e1
  have z:=sz w
  simp only [Prod.mk.injEq] at z
  obtain ⟨z1,z2,z3⟩:=z
  obtain ⟨s1,r1,r2⟩:=Option.map_eq_some_iff.mp (rn w os)
  unfold lookO at r2
  simp only [Prod.mk.injEq] at r2
  obtain ⟨l1,l2,l3⟩:=r2
  have tf:topFrom treeTable p w N (atBoot w.params os)=some s1:=by
    unfold topFrom
    dsimp only
    rw [z1,z2,z3]
    show Option.bind (topRun treeTable p w m an N (atBoot w.params os) (topStub p)) _=_
    rw [r1]
    show (match (((staticsOk (importedModules p.main.body) (boot_heap w.params) s1.heap && namesBound p s1.heap) && gensDone s1) && laidKept (boot_heap w.params) s1.heap) with | true=>some s1 | false=>none)=_
    rw [l1]
  unfold openEnds
  rw [e0]
  show Option.map _ (topFrom treeTable p w N (atBoot w.params os))=_
  rw [tf]
  exact congrArg some (Prod.ext l2 l3)
def treeAt:List Obj→Nat→BT→BT
  | [],_,t=>t
  | o :: r,i,t=>treeAt r (i+1) (t.ins i o)
def topRunT (ok:Thread→Bool) (stp:SharedT→Thread→Option (SharedT × Thread)):Nat→SharedT→Thread→Option SharedT
  | 0,_,_=>none
  | n+1,s,t=>match through t with
    | true=>some s
    | false=>match ok t with
      | false=>none
      | true=>match stp s t with
        | some (s1,t1)=>topRunT ok stp n s1 t1
        | none=>none
theorem topRunT_of {tb:String→Option Builtin} {p:Program} {w:World} {m:Nat} {an:Option Value}:∀ {n:Nat} {s s1:SharedT} {t:Thread},topRunT (stepOk m an) (stepT (denote tb) p w) n s t=some s1→topRun tb p w m an n s.abs t=some s1.abs
  | 0,_,_,_,h=>by cases h
  | n+1,s,s1,t,h=>by
    rw [topRunT] at h
    rw [topRun]
    cases ht:through t with
    | true=>rw [ht] at h; cases h; rfl
    | false =>
      rw [ht] at h
      cases hk:stepOk m an t with
      | false=>rw [hk] at h; cases h
      | true =>
        rw [hk] at h
        cases hs:stepT (denote tb) p w s t with
        | none=>rw [hs] at h; cases h
        | some r =>
          obtain ⟨s2,t2⟩:=r
          rw [hs] at h
          rw [stepT_spec hs]
          exact topRunT_of h
noncomputable def bootT (P:Params):BT:=treeAt (boot_heap P).objs.toList 0 .nil
noncomputable def atBootT (P:Params) (os:OsState):SharedT:=SharedT.mk (bootT P) 11 (boot_heap P).life (Array.mk []) boot_drawn boot_toks os
theorem bootT_is (P:Params) (os:OsState):(atBootT P os).abs=atBoot P os:=by kernel_rfl
theorem ran_of {p q:Program} {lo ms:List Str} {Xt:Shared→Bool} {α β:Type} {Yf:Shared→β} {N m:Nat} {an:Option Value} {w:World} {os:OsState} {r:Bool × α × β} {oS:Program→List Str→List Str→(Shared→Bool)→Bool→Shared→α}
    (h:Option.map (fun s=>lookO oS ms p q lo Xt Yf (boot_heap w.params) (SharedT.abs s)) (topRunT (stepOk m an) (stepT (denote treeTable) p w) N (atBootT w.params os) (topStub p))=some r) :
    Option.map (lookO oS ms p q lo Xt Yf (boot_heap w.params)) (topRun treeTable p w m an N (atBoot w.params os) (topStub p))=some r:=by
  obtain ⟨s,e,z⟩:=Option.map_eq_some_iff.mp h
  have e:=topRunT_of e
  rw [bootT_is] at e
  rw [e]
  exact congrArg some z
end L2
namespace L2
open PySem PySem.W PyProof.Rows
theorem look3 {σ α β:Type} {r:Option σ} {f:σ→Bool} {g:σ→α} {k:σ→β} {a:α} {b:β} (h1:r.map f=some true) (h2:r.map g=some a) (h3:r.map k=some b):r.map (fun s=>(f s,g s,k s))=some (true,a,b):=by
  cases r with
  | none=>cases h1
  | some s =>
    have e1:=Option.some.inj h1
    have e2:=Option.some.inj h2
    have e3:=Option.some.inj h3
    exact congrArg some (Prod.ext e1 (Prod.ext e2 e3))
def lookA (ms:List Str) (p:Program) (h0:Heap) (s:Shared):Bool:=(((staticsOk ms h0 s.heap && namesBound p s.heap) && gensDone s) && laidKept h0 s.heap)
def RunA (N m:Nat) (an:Option Value) {p p':Program} {sT:(Code→Sem Fin)→Program→World→SharedT→Thread→Option (SharedT × Thread)} {dn:(String→Option Builtin)→Code→Sem Fin} {tT:String→Option Builtin} {iM:List Stmt→List Str} {oS:∀ (q:Program) (lo ms:List Str) (Xt:Shared→Bool) (g0:Bool) (s:Shared),_} (h1:@stepT=sT) (h0:@denote=dn) (h2:treeTable=tT) (h3:@importedModules=iM) (h4:@openSeen=oS) (h5:p=p'):Prop:=∀ (w:World) (os:OsState),Option.map (fun s=>lookA (iM p'.main.body) p' (boot_heap w.params) (SharedT.abs s)) (topRunT (stepOk m an) (sT (dn tT) p' w) N (atBootT w.params os) (topStub p'))=some true
def RunB (N m:Nat) (an:Option Value) (q:Program→Program) (lo:List Str) (Xt:Program→Shared→Bool) {p p':Program} {sT:(Code→Sem Fin)→Program→World→SharedT→Thread→Option (SharedT × Thread)} {dn:(String→Option Builtin)→Code→Sem Fin} {tT:String→Option Builtin} {iM:List Stmt→List Str} {oS:∀ (q:Program) (lo ms:List Str) (Xt:Shared→Bool) (g0:Bool) (s:Shared),_} (h1:@stepT=sT) (h0:@denote=dn) (h2:treeTable=tT) (h3:@importedModules=iM) (h4:@openSeen=oS) (h5:p=p'):Prop:=∀ (w:World) (os:OsState),Option.map (fun s=>oS (q p') lo (iM p'.main.body) (Xt p') true (SharedT.abs s)) (topRunT (stepOk m an) (sT (dn tT) p' w) N (atBootT w.params os) (topStub p'))=some (openGood (q p') lo)
def RunC (N m:Nat) (an:Option Value) {β:Type} (Yf:Shared→β) (Ya:World→β) {p p':Program} {sT:(Code→Sem Fin)→Program→World→SharedT→Thread→Option (SharedT × Thread)} {dn:(String→Option Builtin)→Code→Sem Fin} {tT:String→Option Builtin} {iM:List Stmt→List Str} {oS:∀ (q:Program) (lo ms:List Str) (Xt:Shared→Bool) (g0:Bool) (s:Shared),_} (h1:@stepT=sT) (h0:@denote=dn) (h2:treeTable=tT) (h3:@importedModules=iM) (h4:@openSeen=oS) (h5:p=p'):Prop:=∀ (w:World) (os:OsState),Option.map (fun s=>Yf (SharedT.abs s)) (topRunT (stepOk m an) (sT (dn tT) p' w) N (atBootT w.params os) (topStub p'))=some (Ya w)
theorem run_by3 {q:Program→Program} {lo:List Str} {Xt:Program→Shared→Bool} {β:Type} {Yf:Shared→β} {Ya:World→β} {N m:Nat} {an:Option Value} {p p':Program} {sT:(Code→Sem Fin)→Program→World→SharedT→Thread→Option (SharedT × Thread)} {dn:(String→Option Builtin)→Code→Sem Fin} {tT:String→Option Builtin} {iM:List Stmt→List Str} {oS:∀ (q:Program) (lo ms:List Str) (Xt:Shared→Bool) (g0:Bool) (s:Shared),_} {h1:@stepT=sT} {h0:@denote=dn} {h2:treeTable=tT} {h3:@importedModules=iM} {h4:@openSeen=oS} {h5:p=p'}
    (rA:RunA N m an h1 h0 h2 h3 h4 h5) (rB:RunB N m an q lo Xt h1 h0 h2 h3 h4 h5) (rC:RunC N m an Yf Ya h1 h0 h2 h3 h4 h5) :
    ∀ (w:World) (os:OsState),Option.map (lookO openSeen (importedModules p.main.body) p (q p) lo (Xt p) Yf (boot_heap w.params)) (topRun treeTable p w m an N (atBoot w.params os) (topStub p))=some (true,openGood (q p) lo,Ya w):=by
  subst h1 h0 h2 h3 h4 h5
  exact fun w os=>ran_of (look3 (rA w os) (rB w os) (rC w os))
end L2
namespace KH
open PySem PySem.W PyProof.Rows L2
def top (i:Nat):Stmt:=PySem.Challenge.pw_glazebench_k21_leads_of_a_block.main.body.getD i (.Pass ⟨0,0,0,0⟩)
def kE (P:Params) (x:Str) (t:Tok) (v:Value):DictEntry:=⟨PyData.keyHash P x,.str x t,v⟩
def k2 (P:Params):Obj:=⟨.none,none,(.dict #[] 0),#[]⟩
def k3 (P:Params):Obj:=⟨(.type "dict"),none,(.dict #[kE P "__name__" 165 (.str "law_glazebench_k21_leads_of_a_block" 581),kE P "__doc__" 166 .none,kE P "__package__" 167 .none,kE P "__loader__" 168 (.builtin "__main__.__loader__#opaque"),kE P "__spec__" 169 .none,kE P "__annotations__" 170 (.ref 6),kE P "__builtins__" 171 (.ref 4),kE P "__file__" 173 (.str "/claim/cut.py" 172),kE P "__cached__" 174 .none,kE P "_wall" 193 (.ref 21),kE P "GlassError" 213 (.ref 31),kE P "NoSide" 238 (.ref 51),kE P "TooMany" 263 (.ref 70),kE P "NoPane" 288 (.ref 89),kE P "Overlap" 313 (.ref 108),kE P "Bare" 338 (.ref 127),kE P "NoBlock" 363 (.ref 146),kE P "LONGEST_SIDE" 367 (.int (12) 366),kE P "MOST_PANES" 369 (.int (52) 368),kE P "is_whole" 376 (.ref 155),kE P "is_side" 383 (.ref 162),kE P "is_rectangle" 389 (.ref 167),kE P "inside" 398 (.ref 174),kE P "squares_of" 408 (.ref 181),kE P "check_sides" 417 (.ref 188),kE P "check_panes" 427 (.ref 195),kE P "panes_by_square" 438 (.ref 202),kE P "check_covered" 447 (.ref 209),kE P "Panel" 500 (.ref 245),kE P "apart" 511 (.ref 256),kE P "is_block" 517 (.ref 261),kE P "check_block" 525 (.ref 268),kE P "LEVEL" 529 (.str "level" 528),kE P "UPRIGHT" 531 (.str "upright" 530),kE P "runs" 541 (.ref 275),kE P "columns_parted" 547 (.ref 280),kE P "rows_parted" 553 (.ref 285),kE P "level_leads" 565 (.ref 292),kE P "upright_leads" 571 (.ref 297),kE P "leads" 580 (.ref 304),kE P "_law_purse" 591 (.ref 311),kE P "_law_take" 600 (.ref 318),kE P "_law_tiled" 620 (.ref 325),kE P "_law_wheel" 626 (.ref 330),kE P "_law_cut_up" 646 (.ref 337),kE P "_law_panes_in" 660 (.ref 344),kE P "_law_drawn" 671 (.ref 351),kE P "_law_points" 682 (.ref 358),kE P "_law_bits" 698 (.ref 365),kE P "_law_due" 713 (.ref 372),kE P "_law_right" 719 (.ref 377),kE P "law" 737 (.ref 384)] 52),#[]⟩
def k15 (P:Params):Obj:=⟨(.type "tuple"),none,(.seq #[] 0),#[]⟩
def k17 (P:Params):Obj:=⟨(.type "tuple"),none,(.seq #[(.str "k" 190)] 0),#[]⟩
def k18 (P:Params):Obj:=⟨(.type "tuple"),none,(.seq #[] 0),#[]⟩
def k20 (P:Params):Obj:=⟨(.type "code"),none,(.fields #[(.str "_wall" 187),(.str "_wall" 188),(.str "/claim/cut.py" 189),(.int (1) 0),(.int (1) 0),(.int (0) 0),(.int (0) 0),(.int (3) 0),(.ref 15),(.bool true),(.int (181) 0),(.ref 16),.none,(.ref 17),(.ref 18),(.ref 19),(.int (191) 0),(.int (1) 0),(.str "/claim/cut.py" 192)]),#[]⟩
def k21 (P:Params):Obj:=⟨(.type "function"),none,(.func (fnOf "_wall" "_wall" (defArgs (top 0)) (defBody (top 0)) (defScope (top 0)) .none .none .none (.str "__main__" 164) none (.ref 20) .none)),#[]⟩
def k22 (P:Params):Obj:=⟨(.type "tuple"),none,(.seq #[(.type "ValueError")] 0),#[]⟩
def k29 (P:Params):Obj:=⟨(.type "tuple"),none,(.seq #[] 0),#[]⟩
def k30 (P:Params):Obj:=⟨(.type "dict"),none,(.dict #[kE P "__module__" 203 (.str "glazebench.errors" 194),kE P "__firstlineno__" 207 (.int (5) 206),kE P "__static_attributes__" 208 (.ref 29),kE P "__weakref__" 210 (.ref 32),kE P "__doc__" 211 .none] 3),#[]⟩
def k31 (P:Params):Obj:=⟨(.type "type"),none,(.cls { name:="GlassError",bases:=[(.type "ValueError")],mro:=[(.ref 31),(.type "ValueError"),(.type "Exception"),(.type "BaseException"),(.type "object")],ns:=30,qualname:="GlassError",hasDict:=true,slotNames:=[],subclasses:=[(.ref 51),(.ref 70),(.ref 89),(.ref 108),(.ref 127),(.ref 146)],abstract:=false,collection:=none,hasDel:=false }),#[some (.ref 22),none,some (.str "GlassError" 196),some (.str "GlassError" 204),some (.builtin "ValueError.__new__"),some (.bool true)]⟩
def k32 (P:Params):Obj:=⟨(.type "getset_descriptor"),none,(.fields #[(.str "__weakref__" 209),(.ref 31),(.builtin "ExceptionGroup.__weakref__"),.none]),#[]⟩
def k35 (P:Params):Obj:=⟨(.type "tuple"),none,(.seq #[(.ref 31)] 0),#[]⟩
def k42 (P:Params):Obj:=⟨(.type "tuple"),none,(.seq #[] 0),#[]⟩
def k44 (P:Params):Obj:=⟨(.type "tuple"),none,(.seq #[(.str "self" 229),(.str "side" 230)] 0),#[]⟩
def k45 (P:Params):Obj:=⟨(.type "tuple"),none,(.seq #[] 0),#[]⟩
def k47 (P:Params):Obj:=⟨(.type "code"),none,(.fields #[(.str "__init__" 226),(.str "NoSide.__init__" 227),(.str "/claim/cut.py" 228),(.int (9) 0),(.int (2) 0),(.int (0) 0),(.int (0) 0),(.int (3) 0),(.ref 42),(.bool true),(.int (181) 0),(.ref 43),.none,(.ref 44),(.ref 45),(.ref 46),(.int (231) 0),(.int (9) 0),(.str "/claim/cut.py" 232)]),#[]⟩
def k48 (P:Params):Obj:=⟨(.type "function"),none,(.func (fnOf "__init__" "NoSide.__init__" (defArgs (inClass (top 3) 0)) (defBody (inClass (top 3) 0)) (defScope (inClass (top 3) 0)) .none .none .none (.str "glazebench.errors" 194) none (.ref 47) .none)),#[]⟩
def k49 (P:Params):Obj:=⟨(.type "tuple"),none,(.seq #[(.str "side" 234)] 0),#[]⟩
def k50 (P:Params):Obj:=⟨(.type "dict"),none,(.dict #[kE P "__module__" 221 (.str "glazebench.errors" 194),kE P "__firstlineno__" 225 (.int (7) 224),kE P "__init__" 233 (.ref 48),kE P "__static_attributes__" 235 (.ref 49),kE P "__doc__" 236 .none] 2),#[]⟩
def k51 (P:Params):Obj:=⟨(.type "type"),none,(.cls { name:="NoSide",bases:=[(.ref 31)],mro:=[(.ref 51),(.ref 31),(.type "ValueError"),(.type "Exception"),(.type "BaseException"),(.type "object")],ns:=50,qualname:="NoSide",hasDict:=true,slotNames:=[],subclasses:=[],abstract:=false,collection:=none,hasDel:=false }),#[some (.ref 35),none,some (.str "NoSide" 214),some (.str "NoSide" 222),some (.builtin "ValueError.__new__"),some (.bool true)]⟩
def k54 (P:Params):Obj:=⟨(.type "tuple"),none,(.seq #[(.ref 31)] 0),#[]⟩
def k61 (P:Params):Obj:=⟨(.type "tuple"),none,(.seq #[] 0),#[]⟩
def k63 (P:Params):Obj:=⟨(.type "tuple"),none,(.seq #[(.str "self" 254),(.str "many" 255)] 0),#[]⟩
def k64 (P:Params):Obj:=⟨(.type "tuple"),none,(.seq #[] 0),#[]⟩
def k66 (P:Params):Obj:=⟨(.type "code"),none,(.fields #[(.str "__init__" 251),(.str "TooMany.__init__" 252),(.str "/claim/cut.py" 253),(.int (13) 0),(.int (2) 0),(.int (0) 0),(.int (0) 0),(.int (3) 0),(.ref 61),(.bool true),(.int (181) 0),(.ref 62),.none,(.ref 63),(.ref 64),(.ref 65),(.int (256) 0),(.int (13) 0),(.str "/claim/cut.py" 257)]),#[]⟩
def k67 (P:Params):Obj:=⟨(.type "function"),none,(.func (fnOf "__init__" "TooMany.__init__" (defArgs (inClass (top 4) 0)) (defBody (inClass (top 4) 0)) (defScope (inClass (top 4) 0)) .none .none .none (.str "glazebench.errors" 194) none (.ref 66) .none)),#[]⟩
def k68 (P:Params):Obj:=⟨(.type "tuple"),none,(.seq #[(.str "many" 259)] 0),#[]⟩
def k69 (P:Params):Obj:=⟨(.type "dict"),none,(.dict #[kE P "__module__" 246 (.str "glazebench.errors" 194),kE P "__firstlineno__" 250 (.int (11) 249),kE P "__init__" 258 (.ref 67),kE P "__static_attributes__" 260 (.ref 68),kE P "__doc__" 261 .none] 2),#[]⟩
def k70 (P:Params):Obj:=⟨(.type "type"),none,(.cls { name:="TooMany",bases:=[(.ref 31)],mro:=[(.ref 70),(.ref 31),(.type "ValueError"),(.type "Exception"),(.type "BaseException"),(.type "object")],ns:=69,qualname:="TooMany",hasDict:=true,slotNames:=[],subclasses:=[],abstract:=false,collection:=none,hasDel:=false }),#[some (.ref 54),none,some (.str "TooMany" 239),some (.str "TooMany" 247),some (.builtin "ValueError.__new__"),some (.bool true)]⟩
def k73 (P:Params):Obj:=⟨(.type "tuple"),none,(.seq #[(.ref 31)] 0),#[]⟩
def k80 (P:Params):Obj:=⟨(.type "tuple"),none,(.seq #[] 0),#[]⟩
def k82 (P:Params):Obj:=⟨(.type "tuple"),none,(.seq #[(.str "self" 279),(.str "place" 280)] 0),#[]⟩
def k83 (P:Params):Obj:=⟨(.type "tuple"),none,(.seq #[] 0),#[]⟩
def k85 (P:Params):Obj:=⟨(.type "code"),none,(.fields #[(.str "__init__" 276),(.str "NoPane.__init__" 277),(.str "/claim/cut.py" 278),(.int (17) 0),(.int (2) 0),(.int (0) 0),(.int (0) 0),(.int (3) 0),(.ref 80),(.bool true),(.int (181) 0),(.ref 81),.none,(.ref 82),(.ref 83),(.ref 84),(.int (281) 0),(.int (17) 0),(.str "/claim/cut.py" 282)]),#[]⟩
def k86 (P:Params):Obj:=⟨(.type "function"),none,(.func (fnOf "__init__" "NoPane.__init__" (defArgs (inClass (top 5) 0)) (defBody (inClass (top 5) 0)) (defScope (inClass (top 5) 0)) .none .none .none (.str "glazebench.errors" 194) none (.ref 85) .none)),#[]⟩
def k87 (P:Params):Obj:=⟨(.type "tuple"),none,(.seq #[(.str "place" 284)] 0),#[]⟩
def k88 (P:Params):Obj:=⟨(.type "dict"),none,(.dict #[kE P "__module__" 271 (.str "glazebench.errors" 194),kE P "__firstlineno__" 275 (.int (15) 274),kE P "__init__" 283 (.ref 86),kE P "__static_attributes__" 285 (.ref 87),kE P "__doc__" 286 .none] 2),#[]⟩
def k89 (P:Params):Obj:=⟨(.type "type"),none,(.cls { name:="NoPane",bases:=[(.ref 31)],mro:=[(.ref 89),(.ref 31),(.type "ValueError"),(.type "Exception"),(.type "BaseException"),(.type "object")],ns:=88,qualname:="NoPane",hasDict:=true,slotNames:=[],subclasses:=[],abstract:=false,collection:=none,hasDel:=false }),#[some (.ref 73),none,some (.str "NoPane" 264),some (.str "NoPane" 272),some (.builtin "ValueError.__new__"),some (.bool true)]⟩
def k92 (P:Params):Obj:=⟨(.type "tuple"),none,(.seq #[(.ref 31)] 0),#[]⟩
def k99 (P:Params):Obj:=⟨(.type "tuple"),none,(.seq #[] 0),#[]⟩
def k101 (P:Params):Obj:=⟨(.type "tuple"),none,(.seq #[(.str "self" 304),(.str "place" 305)] 0),#[]⟩
def k102 (P:Params):Obj:=⟨(.type "tuple"),none,(.seq #[] 0),#[]⟩
def k104 (P:Params):Obj:=⟨(.type "code"),none,(.fields #[(.str "__init__" 301),(.str "Overlap.__init__" 302),(.str "/claim/cut.py" 303),(.int (21) 0),(.int (2) 0),(.int (0) 0),(.int (0) 0),(.int (3) 0),(.ref 99),(.bool true),(.int (181) 0),(.ref 100),.none,(.ref 101),(.ref 102),(.ref 103),(.int (306) 0),(.int (21) 0),(.str "/claim/cut.py" 307)]),#[]⟩
def k105 (P:Params):Obj:=⟨(.type "function"),none,(.func (fnOf "__init__" "Overlap.__init__" (defArgs (inClass (top 6) 0)) (defBody (inClass (top 6) 0)) (defScope (inClass (top 6) 0)) .none .none .none (.str "glazebench.errors" 194) none (.ref 104) .none)),#[]⟩
def k106 (P:Params):Obj:=⟨(.type "tuple"),none,(.seq #[(.str "place" 309)] 0),#[]⟩
def k107 (P:Params):Obj:=⟨(.type "dict"),none,(.dict #[kE P "__module__" 296 (.str "glazebench.errors" 194),kE P "__firstlineno__" 300 (.int (19) 299),kE P "__init__" 308 (.ref 105),kE P "__static_attributes__" 310 (.ref 106),kE P "__doc__" 311 .none] 2),#[]⟩
def k108 (P:Params):Obj:=⟨(.type "type"),none,(.cls { name:="Overlap",bases:=[(.ref 31)],mro:=[(.ref 108),(.ref 31),(.type "ValueError"),(.type "Exception"),(.type "BaseException"),(.type "object")],ns:=107,qualname:="Overlap",hasDict:=true,slotNames:=[],subclasses:=[],abstract:=false,collection:=none,hasDel:=false }),#[some (.ref 92),none,some (.str "Overlap" 289),some (.str "Overlap" 297),some (.builtin "ValueError.__new__"),some (.bool true)]⟩
def k111 (P:Params):Obj:=⟨(.type "tuple"),none,(.seq #[(.ref 31)] 0),#[]⟩
def k118 (P:Params):Obj:=⟨(.type "tuple"),none,(.seq #[] 0),#[]⟩
def k120 (P:Params):Obj:=⟨(.type "tuple"),none,(.seq #[(.str "self" 329),(.str "square" 330)] 0),#[]⟩
def k121 (P:Params):Obj:=⟨(.type "tuple"),none,(.seq #[] 0),#[]⟩
def k123 (P:Params):Obj:=⟨(.type "code"),none,(.fields #[(.str "__init__" 326),(.str "Bare.__init__" 327),(.str "/claim/cut.py" 328),(.int (25) 0),(.int (2) 0),(.int (0) 0),(.int (0) 0),(.int (3) 0),(.ref 118),(.bool true),(.int (181) 0),(.ref 119),.none,(.ref 120),(.ref 121),(.ref 122),(.int (331) 0),(.int (25) 0),(.str "/claim/cut.py" 332)]),#[]⟩
def k124 (P:Params):Obj:=⟨(.type "function"),none,(.func (fnOf "__init__" "Bare.__init__" (defArgs (inClass (top 7) 0)) (defBody (inClass (top 7) 0)) (defScope (inClass (top 7) 0)) .none .none .none (.str "glazebench.errors" 194) none (.ref 123) .none)),#[]⟩
def k125 (P:Params):Obj:=⟨(.type "tuple"),none,(.seq #[(.str "square" 334)] 0),#[]⟩
def k126 (P:Params):Obj:=⟨(.type "dict"),none,(.dict #[kE P "__module__" 321 (.str "glazebench.errors" 194),kE P "__firstlineno__" 325 (.int (23) 324),kE P "__init__" 333 (.ref 124),kE P "__static_attributes__" 335 (.ref 125),kE P "__doc__" 336 .none] 2),#[]⟩
def k127 (P:Params):Obj:=⟨(.type "type"),none,(.cls { name:="Bare",bases:=[(.ref 31)],mro:=[(.ref 127),(.ref 31),(.type "ValueError"),(.type "Exception"),(.type "BaseException"),(.type "object")],ns:=126,qualname:="Bare",hasDict:=true,slotNames:=[],subclasses:=[],abstract:=false,collection:=none,hasDel:=false }),#[some (.ref 111),none,some (.str "Bare" 314),some (.str "Bare" 322),some (.builtin "ValueError.__new__"),some (.bool true)]⟩
def k130 (P:Params):Obj:=⟨(.type "tuple"),none,(.seq #[(.ref 31)] 0),#[]⟩
def k137 (P:Params):Obj:=⟨(.type "tuple"),none,(.seq #[] 0),#[]⟩
def k139 (P:Params):Obj:=⟨(.type "tuple"),none,(.seq #[(.str "self" 354),(.str "block" 355)] 0),#[]⟩
def k140 (P:Params):Obj:=⟨(.type "tuple"),none,(.seq #[] 0),#[]⟩
def k142 (P:Params):Obj:=⟨(.type "code"),none,(.fields #[(.str "__init__" 351),(.str "NoBlock.__init__" 352),(.str "/claim/cut.py" 353),(.int (29) 0),(.int (2) 0),(.int (0) 0),(.int (0) 0),(.int (3) 0),(.ref 137),(.bool true),(.int (181) 0),(.ref 138),.none,(.ref 139),(.ref 140),(.ref 141),(.int (356) 0),(.int (29) 0),(.str "/claim/cut.py" 357)]),#[]⟩
def k143 (P:Params):Obj:=⟨(.type "function"),none,(.func (fnOf "__init__" "NoBlock.__init__" (defArgs (inClass (top 8) 0)) (defBody (inClass (top 8) 0)) (defScope (inClass (top 8) 0)) .none .none .none (.str "glazebench.errors" 194) none (.ref 142) .none)),#[]⟩
def k144 (P:Params):Obj:=⟨(.type "tuple"),none,(.seq #[(.str "block" 359)] 0),#[]⟩
def k145 (P:Params):Obj:=⟨(.type "dict"),none,(.dict #[kE P "__module__" 346 (.str "glazebench.errors" 194),kE P "__firstlineno__" 350 (.int (27) 349),kE P "__init__" 358 (.ref 143),kE P "__static_attributes__" 360 (.ref 144),kE P "__doc__" 361 .none] 2),#[]⟩
def k146 (P:Params):Obj:=⟨(.type "type"),none,(.cls { name:="NoBlock",bases:=[(.ref 31)],mro:=[(.ref 146),(.ref 31),(.type "ValueError"),(.type "Exception"),(.type "BaseException"),(.type "object")],ns:=145,qualname:="NoBlock",hasDict:=true,slotNames:=[],subclasses:=[],abstract:=false,collection:=none,hasDel:=false }),#[some (.ref 130),none,some (.str "NoBlock" 339),some (.str "NoBlock" 347),some (.builtin "ValueError.__new__"),some (.bool true)]⟩
def k149 (P:Params):Obj:=⟨(.type "tuple"),none,(.seq #[] 0),#[]⟩
def k151 (P:Params):Obj:=⟨(.type "tuple"),none,(.seq #[(.str "thing" 373)] 0),#[]⟩
def k152 (P:Params):Obj:=⟨(.type "tuple"),none,(.seq #[] 0),#[]⟩
def k154 (P:Params):Obj:=⟨(.type "code"),none,(.fields #[(.str "is_whole" 370),(.str "is_whole" 371),(.str "/claim/cut.py" 372),(.int (34) 0),(.int (1) 0),(.int (0) 0),(.int (0) 0),(.int (3) 0),(.ref 149),(.bool true),(.int (181) 0),(.ref 150),.none,(.ref 151),(.ref 152),(.ref 153),(.int (374) 0),(.int (34) 0),(.str "/claim/cut.py" 375)]),#[]⟩
def k155 (P:Params):Obj:=⟨(.type "function"),none,(.func (fnOf "is_whole" "is_whole" (defArgs (top 12)) (defBody (top 12)) (defScope (top 12)) .none .none .none (.str "glazebench.panels" 364) none (.ref 154) .none)),#[]⟩
def k156 (P:Params):Obj:=⟨(.type "tuple"),none,(.seq #[] 0),#[]⟩
def k158 (P:Params):Obj:=⟨(.type "tuple"),none,(.seq #[(.str "thing" 380)] 0),#[]⟩
def k159 (P:Params):Obj:=⟨(.type "tuple"),none,(.seq #[] 0),#[]⟩
def k161 (P:Params):Obj:=⟨(.type "code"),none,(.fields #[(.str "is_side" 377),(.str "is_side" 378),(.str "/claim/cut.py" 379),(.int (36) 0),(.int (1) 0),(.int (0) 0),(.int (0) 0),(.int (3) 0),(.ref 156),(.bool true),(.int (181) 0),(.ref 157),.none,(.ref 158),(.ref 159),(.ref 160),(.int (381) 0),(.int (36) 0),(.str "/claim/cut.py" 382)]),#[]⟩
def k162 (P:Params):Obj:=⟨(.type "function"),none,(.func (fnOf "is_side" "is_side" (defArgs (top 13)) (defBody (top 13)) (defScope (top 13)) .none .none .none (.str "glazebench.panels" 364) none (.ref 161) .none)),#[]⟩
def k163 (P:Params):Obj:=⟨(.type "tuple"),none,(.seq #[] 0),#[]⟩
def k166 (P:Params):Obj:=⟨(.type "code"),none,(.fields #[(.str "is_rectangle" 384),(.str "is_rectangle" 385),(.str "/claim/cut.py" 386),(.int (38) 0),(.int (1) 0),(.int (0) 0),(.int (0) 0),(.int (3) 0),(.ref 163),(.bool true),(.int (181) 0),(.ref 164),.none,.none,.none,(.ref 165),(.int (387) 0),(.int (38) 0),(.str "/claim/cut.py" 388)]),#[]⟩
def k167 (P:Params):Obj:=⟨(.type "function"),none,(.func (fnOf "is_rectangle" "is_rectangle" (defArgs (top 14)) (defBody (top 14)) (defScope (top 14)) .none .none .none (.str "glazebench.panels" 364) none (.ref 166) .none)),#[]⟩
def k168 (P:Params):Obj:=⟨(.type "tuple"),none,(.seq #[] 0),#[]⟩
def k170 (P:Params):Obj:=⟨(.type "tuple"),none,(.seq #[(.str "one" 393),(.str "other" 394),(.str "starts_within" 395)] 0),#[]⟩
def k171 (P:Params):Obj:=⟨(.type "tuple"),none,(.seq #[] 0),#[]⟩
def k173 (P:Params):Obj:=⟨(.type "code"),none,(.fields #[(.str "inside" 390),(.str "inside" 391),(.str "/claim/cut.py" 392),(.int (44) 0),(.int (2) 0),(.int (0) 0),(.int (0) 0),(.int (3) 0),(.ref 168),(.bool true),(.int (181) 0),(.ref 169),.none,(.ref 170),(.ref 171),(.ref 172),(.int (396) 0),(.int (44) 0),(.str "/claim/cut.py" 397)]),#[]⟩
def k174 (P:Params):Obj:=⟨(.type "function"),none,(.func (fnOf "inside" "inside" (defArgs (top 15)) (defBody (top 15)) (defScope (top 15)) .none .none .none (.str "glazebench.panels" 364) none (.ref 173) .none)),#[]⟩
def k175 (P:Params):Obj:=⟨(.type "tuple"),none,(.seq #[] 0),#[]⟩
def k177 (P:Params):Obj:=⟨(.type "tuple"),none,(.seq #[(.str "rectangle" 402),(.str "squares" 403),(.str "row" 404),(.str "column" 405)] 0),#[]⟩
def k178 (P:Params):Obj:=⟨(.type "tuple"),none,(.seq #[] 0),#[]⟩
def k180 (P:Params):Obj:=⟨(.type "code"),none,(.fields #[(.str "squares_of" 399),(.str "squares_of" 400),(.str "/claim/cut.py" 401),(.int (47) 0),(.int (1) 0),(.int (0) 0),(.int (0) 0),(.int (3) 0),(.ref 175),(.bool true),(.int (181) 0),(.ref 176),.none,(.ref 177),(.ref 178),(.ref 179),(.int (406) 0),(.int (47) 0),(.str "/claim/cut.py" 407)]),#[]⟩
def k181 (P:Params):Obj:=⟨(.type "function"),none,(.func (fnOf "squares_of" "squares_of" (defArgs (top 16)) (defBody (top 16)) (defScope (top 16)) .none .none .none (.str "glazebench.panels" 364) none (.ref 180) .none)),#[]⟩
def k182 (P:Params):Obj:=⟨(.type "tuple"),none,(.seq #[] 0),#[]⟩
def k184 (P:Params):Obj:=⟨(.type "tuple"),none,(.seq #[(.str "width" 412),(.str "height" 413),(.str "side" 414)] 0),#[]⟩
def k185 (P:Params):Obj:=⟨(.type "tuple"),none,(.seq #[] 0),#[]⟩
def k187 (P:Params):Obj:=⟨(.type "code"),none,(.fields #[(.str "check_sides" 409),(.str "check_sides" 410),(.str "/claim/cut.py" 411),(.int (53) 0),(.int (2) 0),(.int (0) 0),(.int (0) 0),(.int (3) 0),(.ref 182),(.bool true),(.int (181) 0),(.ref 183),.none,(.ref 184),(.ref 185),(.ref 186),(.int (415) 0),(.int (53) 0),(.str "/claim/cut.py" 416)]),#[]⟩
def k188 (P:Params):Obj:=⟨(.type "function"),none,(.func (fnOf "check_sides" "check_sides" (defArgs (top 17)) (defBody (top 17)) (defScope (top 17)) .none .none .none (.str "glazebench.panels" 364) none (.ref 187) .none)),#[]⟩
def k189 (P:Params):Obj:=⟨(.type "tuple"),none,(.seq #[] 0),#[]⟩
def k191 (P:Params):Obj:=⟨(.type "tuple"),none,(.seq #[(.str "panes" 421),(.str "sheet" 422),(.str "place" 423),(.str "pane" 424)] 0),#[]⟩
def k192 (P:Params):Obj:=⟨(.type "tuple"),none,(.seq #[] 0),#[]⟩
def k194 (P:Params):Obj:=⟨(.type "code"),none,(.fields #[(.str "check_panes" 418),(.str "check_panes" 419),(.str "/claim/cut.py" 420),(.int (57) 0),(.int (2) 0),(.int (0) 0),(.int (0) 0),(.int (3) 0),(.ref 189),(.bool true),(.int (181) 0),(.ref 190),.none,(.ref 191),(.ref 192),(.ref 193),(.int (425) 0),(.int (57) 0),(.str "/claim/cut.py" 426)]),#[]⟩
def k195 (P:Params):Obj:=⟨(.type "function"),none,(.func (fnOf "check_panes" "check_panes" (defArgs (top 18)) (defBody (top 18)) (defScope (top 18)) .none .none .none (.str "glazebench.panels" 364) none (.ref 194) .none)),#[]⟩
def k196 (P:Params):Obj:=⟨(.type "tuple"),none,(.seq #[] 0),#[]⟩
def k198 (P:Params):Obj:=⟨(.type "tuple"),none,(.seq #[(.str "panes" 431),(.str "by_square" 432),(.str "place" 433),(.str "pane" 434),(.str "square" 435)] 0),#[]⟩
def k199 (P:Params):Obj:=⟨(.type "tuple"),none,(.seq #[] 0),#[]⟩
def k201 (P:Params):Obj:=⟨(.type "code"),none,(.fields #[(.str "panes_by_square" 428),(.str "panes_by_square" 429),(.str "/claim/cut.py" 430),(.int (63) 0),(.int (1) 0),(.int (0) 0),(.int (0) 0),(.int (3) 0),(.ref 196),(.bool true),(.int (181) 0),(.ref 197),.none,(.ref 198),(.ref 199),(.ref 200),(.int (436) 0),(.int (63) 0),(.str "/claim/cut.py" 437)]),#[]⟩
def k202 (P:Params):Obj:=⟨(.type "function"),none,(.func (fnOf "panes_by_square" "panes_by_square" (defArgs (top 19)) (defBody (top 19)) (defScope (top 19)) .none .none .none (.str "glazebench.panels" 364) none (.ref 201) .none)),#[]⟩
def k203 (P:Params):Obj:=⟨(.type "tuple"),none,(.seq #[] 0),#[]⟩
def k205 (P:Params):Obj:=⟨(.type "tuple"),none,(.seq #[(.str "by_square" 442),(.str "sheet" 443),(.str "square" 444)] 0),#[]⟩
def k206 (P:Params):Obj:=⟨(.type "tuple"),none,(.seq #[] 0),#[]⟩
def k208 (P:Params):Obj:=⟨(.type "code"),none,(.fields #[(.str "check_covered" 439),(.str "check_covered" 440),(.str "/claim/cut.py" 441),(.int (71) 0),(.int (2) 0),(.int (0) 0),(.int (0) 0),(.int (3) 0),(.ref 203),(.bool true),(.int (181) 0),(.ref 204),.none,(.ref 205),(.ref 206),(.ref 207),(.int (445) 0),(.int (71) 0),(.str "/claim/cut.py" 446)]),#[]⟩
def k209 (P:Params):Obj:=⟨(.type "function"),none,(.func (fnOf "check_covered" "check_covered" (defArgs (top 20)) (defBody (top 20)) (defScope (top 20)) .none .none .none (.str "glazebench.panels" 364) none (.ref 208) .none)),#[]⟩
def k217 (P:Params):Obj:=⟨(.type "tuple"),none,(.seq #[] 0),#[]⟩
def k220 (P:Params):Obj:=⟨(.type "code"),none,(.fields #[(.str "__init__" 460),(.str "Panel.__init__" 461),(.str "/claim/cut.py" 462),(.int (77) 0),(.int (4) 0),(.int (0) 0),(.int (0) 0),(.int (3) 0),(.ref 217),(.bool true),(.int (181) 0),(.ref 218),.none,.none,.none,(.ref 219),(.int (463) 0),(.int (77) 0),(.str "/claim/cut.py" 464)]),#[]⟩
def k221 (P:Params):Obj:=⟨(.type "function"),none,(.func (fnOf "__init__" "Panel.__init__" (defArgs (inClass (top 21) 0)) (defBody (inClass (top 21) 0)) (defScope (inClass (top 21) 0)) .none .none .none (.str "glazebench.panels" 364) none (.ref 220) .none)),#[]⟩
def k222 (P:Params):Obj:=⟨(.type "tuple"),none,(.seq #[] 0),#[]⟩
def k224 (P:Params):Obj:=⟨(.type "tuple"),none,(.seq #[(.str "self" 469)] 0),#[]⟩
def k225 (P:Params):Obj:=⟨(.type "tuple"),none,(.seq #[] 0),#[]⟩
def k227 (P:Params):Obj:=⟨(.type "code"),none,(.fields #[(.str "panes" 466),(.str "Panel.panes" 467),(.str "/claim/cut.py" 468),(.int (89) 0),(.int (1) 0),(.int (0) 0),(.int (0) 0),(.int (3) 0),(.ref 222),(.bool true),(.int (181) 0),(.ref 223),.none,(.ref 224),(.ref 225),(.ref 226),(.int (470) 0),(.int (89) 0),(.str "/claim/cut.py" 471)]),#[]⟩
def k228 (P:Params):Obj:=⟨(.type "function"),none,(.func (fnOf "panes" "Panel.panes" (defArgs (inClass (top 21) 1)) (defBody (inClass (top 21) 1)) (defScope (inClass (top 21) 1)) .none .none .none (.str "glazebench.panels" 364) none (.ref 227) .none)),#[]⟩
def k229 (P:Params):Obj:=⟨(.type "tuple"),none,(.seq #[] 0),#[]⟩
def k231 (P:Params):Obj:=⟨(.type "tuple"),none,(.seq #[(.str "self" 476),(.str "row" 477),(.str "column" 478)] 0),#[]⟩
def k232 (P:Params):Obj:=⟨(.type "tuple"),none,(.seq #[] 0),#[]⟩
def k234 (P:Params):Obj:=⟨(.type "code"),none,(.fields #[(.str "pane_at" 473),(.str "Panel.pane_at" 474),(.str "/claim/cut.py" 475),(.int (92) 0),(.int (3) 0),(.int (0) 0),(.int (0) 0),(.int (3) 0),(.ref 229),(.bool true),(.int (181) 0),(.ref 230),.none,(.ref 231),(.ref 232),(.ref 233),(.int (479) 0),(.int (92) 0),(.str "/claim/cut.py" 480)]),#[]⟩
def k235 (P:Params):Obj:=⟨(.type "function"),none,(.func (fnOf "pane_at" "Panel.pane_at" (defArgs (inClass (top 21) 2)) (defBody (inClass (top 21) 2)) (defScope (inClass (top 21) 2)) .none .none .none (.str "glazebench.panels" 364) none (.ref 234) .none)),#[]⟩
def k236 (P:Params):Obj:=⟨(.type "tuple"),none,(.seq #[] 0),#[]⟩
def k238 (P:Params):Obj:=⟨(.type "tuple"),none,(.seq #[(.str "self" 485)] 0),#[]⟩
def k239 (P:Params):Obj:=⟨(.type "tuple"),none,(.seq #[] 0),#[]⟩
def k241 (P:Params):Obj:=⟨(.type "code"),none,(.fields #[(.str "turned" 482),(.str "Panel.turned" 483),(.str "/claim/cut.py" 484),(.int (95) 0),(.int (1) 0),(.int (0) 0),(.int (0) 0),(.int (3) 0),(.ref 236),(.bool true),(.int (181) 0),(.ref 237),.none,(.ref 238),(.ref 239),(.ref 240),(.int (486) 0),(.int (95) 0),(.str "/claim/cut.py" 487)]),#[]⟩
def k242 (P:Params):Obj:=⟨(.type "function"),none,(.func (fnOf "turned" "Panel.turned" (defArgs (inClass (top 21) 3)) (defBody (inClass (top 21) 3)) (defScope (inClass (top 21) 3)) .none .none .none (.str "glazebench.panels" 364) none (.ref 241) .none)),#[]⟩
def k243 (P:Params):Obj:=⟨(.type "tuple"),none,(.seq #[(.str "by_square" 489),(.str "height" 490),(.str "sorted_panes" 491),(.str "width" 492)] 0),#[]⟩
def k244 (P:Params):Obj:=⟨(.type "dict"),none,(.dict #[kE P "__module__" 455 (.str "glazebench.panels" 364),kE P "__firstlineno__" 459 (.int (75) 458),kE P "__init__" 465 (.ref 221),kE P "panes" 472 (.ref 228),kE P "pane_at" 481 (.ref 235),kE P "turned" 488 (.ref 242),kE P "__static_attributes__" 493 (.ref 243),kE P "__dict__" 495 (.ref 246),kE P "__weakref__" 497 (.ref 247),kE P "__doc__" 498 .none] 4),#[]⟩
def k245 (P:Params):Obj:=⟨(.type "type"),none,(.cls { name:="Panel",bases:=[(.type "object")],mro:=[(.ref 245),(.type "object")],ns:=244,qualname:="Panel",hasDict:=true,slotNames:=[],subclasses:=[],abstract:=false,collection:=none,hasDel:=false }),#[none,none,some (.str "Panel" 448),some (.str "Panel" 456),some (.builtin "object.__new__"),some (.bool true)]⟩
def k246 (P:Params):Obj:=⟨(.type "getset_descriptor"),none,(.fields #[(.str "__dict__" 494),(.ref 245),(.builtin "function.__dict__"),(.builtin "function.__dict__#set")]),#[]⟩
def k247 (P:Params):Obj:=⟨(.type "getset_descriptor"),none,(.fields #[(.str "__weakref__" 496),(.ref 245),(.builtin "ExceptionGroup.__weakref__"),.none]),#[]⟩
def k250 (P:Params):Obj:=⟨(.type "tuple"),none,(.seq #[] 0),#[]⟩
def k252 (P:Params):Obj:=⟨(.type "tuple"),none,(.seq #[(.str "one" 506),(.str "other" 507),(.str "beside" 508)] 0),#[]⟩
def k253 (P:Params):Obj:=⟨(.type "tuple"),none,(.seq #[] 0),#[]⟩
def k255 (P:Params):Obj:=⟨(.type "code"),none,(.fields #[(.str "apart" 503),(.str "apart" 504),(.str "/claim/cut.py" 505),(.int (98) 0),(.int (2) 0),(.int (0) 0),(.int (0) 0),(.int (3) 0),(.ref 250),(.bool true),(.int (181) 0),(.ref 251),.none,(.ref 252),(.ref 253),(.ref 254),(.int (509) 0),(.int (98) 0),(.str "/claim/cut.py" 510)]),#[]⟩
def k256 (P:Params):Obj:=⟨(.type "function"),none,(.func (fnOf "apart" "apart" (defArgs (top 23)) (defBody (top 23)) (defScope (top 23)) .none .none .none (.str "glazebench.blocks" 501) none (.ref 255) .none)),#[]⟩
def k257 (P:Params):Obj:=⟨(.type "tuple"),none,(.seq #[] 0),#[]⟩
def k260 (P:Params):Obj:=⟨(.type "code"),none,(.fields #[(.str "is_block" 512),(.str "is_block" 513),(.str "/claim/cut.py" 514),(.int (101) 0),(.int (2) 0),(.int (0) 0),(.int (0) 0),(.int (3) 0),(.ref 257),(.bool true),(.int (181) 0),(.ref 258),.none,.none,.none,(.ref 259),(.int (515) 0),(.int (101) 0),(.str "/claim/cut.py" 516)]),#[]⟩
def k261 (P:Params):Obj:=⟨(.type "function"),none,(.func (fnOf "is_block" "is_block" (defArgs (top 24)) (defBody (top 24)) (defScope (top 24)) .none .none .none (.str "glazebench.blocks" 501) none (.ref 260) .none)),#[]⟩
def k262 (P:Params):Obj:=⟨(.type "tuple"),none,(.seq #[] 0),#[]⟩
def k264 (P:Params):Obj:=⟨(.type "tuple"),none,(.seq #[(.str "panel" 521),(.str "block" 522)] 0),#[]⟩
def k265 (P:Params):Obj:=⟨(.type "tuple"),none,(.seq #[] 0),#[]⟩
def k267 (P:Params):Obj:=⟨(.type "code"),none,(.fields #[(.str "check_block" 518),(.str "check_block" 519),(.str "/claim/cut.py" 520),(.int (105) 0),(.int (2) 0),(.int (0) 0),(.int (0) 0),(.int (3) 0),(.ref 262),(.bool true),(.int (181) 0),(.ref 263),.none,(.ref 264),(.ref 265),(.ref 266),(.int (523) 0),(.int (105) 0),(.str "/claim/cut.py" 524)]),#[]⟩
def k268 (P:Params):Obj:=⟨(.type "function"),none,(.func (fnOf "check_block" "check_block" (defArgs (top 25)) (defBody (top 25)) (defScope (top 25)) .none .none .none (.str "glazebench.blocks" 501) none (.ref 267) .none)),#[]⟩
def k269 (P:Params):Obj:=⟨(.type "tuple"),none,(.seq #[] 0),#[]⟩
def k271 (P:Params):Obj:=⟨(.type "tuple"),none,(.seq #[(.str "places" 535),(.str "stops" 536),(.str "found" 537),(.str "place" 538)] 0),#[]⟩
def k272 (P:Params):Obj:=⟨(.type "tuple"),none,(.seq #[] 0),#[]⟩
def k274 (P:Params):Obj:=⟨(.type "code"),none,(.fields #[(.str "runs" 532),(.str "runs" 533),(.str "/claim/cut.py" 534),(.int (111) 0),(.int (2) 0),(.int (0) 0),(.int (0) 0),(.int (3) 0),(.ref 269),(.bool true),(.int (181) 0),(.ref 270),.none,(.ref 271),(.ref 272),(.ref 273),(.int (539) 0),(.int (111) 0),(.str "/claim/cut.py" 540)]),#[]⟩
def k275 (P:Params):Obj:=⟨(.type "function"),none,(.func (fnOf "runs" "runs" (defArgs (top 29)) (defBody (top 29)) (defScope (top 29)) .none .none .none (.str "glazebench.leads" 526) none (.ref 274) .none)),#[]⟩
def k276 (P:Params):Obj:=⟨(.type "tuple"),none,(.seq #[] 0),#[]⟩
def k279 (P:Params):Obj:=⟨(.type "code"),none,(.fields #[(.str "columns_parted" 542),(.str "columns_parted" 543),(.str "/claim/cut.py" 544),(.int (119) 0),(.int (3) 0),(.int (0) 0),(.int (0) 0),(.int (3) 0),(.ref 276),(.bool true),(.int (181) 0),(.ref 277),.none,.none,.none,(.ref 278),(.int (545) 0),(.int (119) 0),(.str "/claim/cut.py" 546)]),#[]⟩
def k280 (P:Params):Obj:=⟨(.type "function"),none,(.func (fnOf "columns_parted" "columns_parted" (defArgs (top 30)) (defBody (top 30)) (defScope (top 30)) .none .none .none (.str "glazebench.leads" 526) none (.ref 279) .none)),#[]⟩
def k281 (P:Params):Obj:=⟨(.type "tuple"),none,(.seq #[] 0),#[]⟩
def k284 (P:Params):Obj:=⟨(.type "code"),none,(.fields #[(.str "rows_parted" 548),(.str "rows_parted" 549),(.str "/claim/cut.py" 550),(.int (121) 0),(.int (3) 0),(.int (0) 0),(.int (0) 0),(.int (3) 0),(.ref 281),(.bool true),(.int (181) 0),(.ref 282),.none,.none,.none,(.ref 283),(.int (551) 0),(.int (121) 0),(.str "/claim/cut.py" 552)]),#[]⟩
def k285 (P:Params):Obj:=⟨(.type "function"),none,(.func (fnOf "rows_parted" "rows_parted" (defArgs (top 31)) (defBody (top 31)) (defScope (top 31)) .none .none .none (.str "glazebench.leads" 526) none (.ref 284) .none)),#[]⟩
def k286 (P:Params):Obj:=⟨(.type "tuple"),none,(.seq #[] 0),#[]⟩
def k288 (P:Params):Obj:=⟨(.type "tuple"),none,(.seq #[(.str "panel" 557),(.str "block" 558),(.str "found" 559),(.str "line" 560),(.str "begin" 561),(.str "end" 562)] 0),#[]⟩
def k289 (P:Params):Obj:=⟨(.type "tuple"),none,(.seq #[] 0),#[]⟩
def k291 (P:Params):Obj:=⟨(.type "code"),none,(.fields #[(.str "level_leads" 554),(.str "level_leads" 555),(.str "/claim/cut.py" 556),(.int (123) 0),(.int (2) 0),(.int (0) 0),(.int (0) 0),(.int (3) 0),(.ref 286),(.bool true),(.int (181) 0),(.ref 287),.none,(.ref 288),(.ref 289),(.ref 290),(.int (563) 0),(.int (123) 0),(.str "/claim/cut.py" 564)]),#[]⟩
def k292 (P:Params):Obj:=⟨(.type "function"),none,(.func (fnOf "level_leads" "level_leads" (defArgs (top 32)) (defBody (top 32)) (defScope (top 32)) .none .none .none (.str "glazebench.leads" 526) none (.ref 291) .none)),#[]⟩
def k293 (P:Params):Obj:=⟨(.type "tuple"),none,(.seq #[] 0),#[]⟩
def k296 (P:Params):Obj:=⟨(.type "code"),none,(.fields #[(.str "upright_leads" 566),(.str "upright_leads" 567),(.str "/claim/cut.py" 568),(.int (129) 0),(.int (3) 0),(.int (0) 0),(.int (0) 0),(.int (3) 0),(.ref 293),(.bool true),(.int (181) 0),(.ref 294),.none,.none,.none,(.ref 295),(.int (569) 0),(.int (129) 0),(.str "/claim/cut.py" 570)]),#[]⟩
def k297 (P:Params):Obj:=⟨(.type "function"),none,(.func (fnOf "upright_leads" "upright_leads" (defArgs (top 33)) (defBody (top 33)) (defScope (top 33)) .none .none .none (.str "glazebench.leads" 526) none (.ref 296) .none)),#[]⟩
def k298 (P:Params):Obj:=⟨(.type "tuple"),none,(.seq #[] 0),#[]⟩
def k300 (P:Params):Obj:=⟨(.type "tuple"),none,(.seq #[(.str "panel" 575),(.str "block" 576),(.str "levels" 577)] 0),#[]⟩
def k301 (P:Params):Obj:=⟨(.type "tuple"),none,(.seq #[] 0),#[]⟩
def k303 (P:Params):Obj:=⟨(.type "code"),none,(.fields #[(.str "leads" 572),(.str "leads" 573),(.str "/claim/cut.py" 574),(.int (136) 0),(.int (2) 0),(.int (0) 0),(.int (0) 0),(.int (3) 0),(.ref 298),(.bool true),(.int (181) 0),(.ref 299),.none,(.ref 300),(.ref 301),(.ref 302),(.int (578) 0),(.int (136) 0),(.str "/claim/cut.py" 579)]),#[]⟩
def k304 (P:Params):Obj:=⟨(.type "function"),none,(.func (fnOf "leads" "leads" (defArgs (top 34)) (defBody (top 34)) (defScope (top 34)) .none .none .none (.str "glazebench.leads" 526) none (.ref 303) .none)),#[]⟩
def k305 (P:Params):Obj:=⟨(.type "tuple"),none,(.seq #[] 0),#[]⟩
def k307 (P:Params):Obj:=⟨(.type "tuple"),none,(.seq #[(.str "_law_script" 586),(.str "_law_k" 587),(.str "_law_cell" 588)] 0),#[]⟩
def k308 (P:Params):Obj:=⟨(.type "tuple"),none,(.seq #[] 0),#[]⟩
def k310 (P:Params):Obj:=⟨(.type "code"),none,(.fields #[(.str "_law_purse" 583),(.str "_law_purse" 584),(.str "/claim/cut.py" 585),(.int (141) 0),(.int (2) 0),(.int (0) 0),(.int (0) 0),(.int (3) 0),(.ref 305),(.bool true),(.int (181) 0),(.ref 306),.none,(.ref 307),(.ref 308),(.ref 309),(.int (589) 0),(.int (141) 0),(.str "/claim/cut.py" 590)]),#[]⟩
def k311 (P:Params):Obj:=⟨(.type "function"),none,(.func (fnOf "_law_purse" "_law_purse" (defArgs (top 36)) (defBody (top 36)) (defScope (top 36)) .none .none .none (.str "law_glazebench_k21_leads_of_a_block" 581) none (.ref 310) .none)),#[]⟩
def k312 (P:Params):Obj:=⟨(.type "tuple"),none,(.seq #[] 0),#[]⟩
def k314 (P:Params):Obj:=⟨(.type "tuple"),none,(.seq #[(.str "_law_purse_here" 595),(.str "_law_many" 596),(.str "_law_found" 597)] 0),#[]⟩
def k315 (P:Params):Obj:=⟨(.type "tuple"),none,(.seq #[] 0),#[]⟩
def k317 (P:Params):Obj:=⟨(.type "code"),none,(.fields #[(.str "_law_take" 592),(.str "_law_take" 593),(.str "/claim/cut.py" 594),(.int (148) 0),(.int (2) 0),(.int (0) 0),(.int (0) 0),(.int (3) 0),(.ref 312),(.bool true),(.int (181) 0),(.ref 313),.none,(.ref 314),(.ref 315),(.ref 316),(.int (598) 0),(.int (148) 0),(.str "/claim/cut.py" 599)]),#[]⟩
def k318 (P:Params):Obj:=⟨(.type "function"),none,(.func (fnOf "_law_take" "_law_take" (defArgs (top 37)) (defBody (top 37)) (defScope (top 37)) .none .none .none (.str "law_glazebench_k21_leads_of_a_block" 581) none (.ref 317) .none)),#[]⟩
def k319 (P:Params):Obj:=⟨(.type "tuple"),none,(.seq #[] 0),#[]⟩
def k321 (P:Params):Obj:=⟨(.type "tuple"),none,(.seq #[(.str "_law_script" 604),(.str "_law_k" 605),(.str "_law_width" 606),(.str "_law_height" 607),(.str "_law_most" 608),(.str "_law_panes" 609),(.str "_law_owned" 610),(.str "_law_row" 611),(.str "_law_column" 612),(.str "_law_free" 613),(.str "_law_purse_here" 614),(.str "_law_wide" 615),(.str "_law_high" 616),(.str "_law_square" 617)] 0),#[]⟩
def k322 (P:Params):Obj:=⟨(.type "tuple"),none,(.seq #[] 0),#[]⟩
def k324 (P:Params):Obj:=⟨(.type "code"),none,(.fields #[(.str "_law_tiled" 601),(.str "_law_tiled" 602),(.str "/claim/cut.py" 603),(.int (152) 0),(.int (4) 0),(.int (0) 0),(.int (0) 0),(.int (3) 0),(.ref 319),(.bool true),(.int (181) 0),(.ref 320),.none,(.ref 321),(.ref 322),(.ref 323),(.int (618) 0),(.int (152) 0),(.str "/claim/cut.py" 619)]),#[]⟩
def k325 (P:Params):Obj:=⟨(.type "function"),none,(.func (fnOf "_law_tiled" "_law_tiled" (defArgs (top 38)) (defBody (top 38)) (defScope (top 38)) .none .none .none (.str "law_glazebench_k21_leads_of_a_block" 581) none (.ref 324) .none)),#[]⟩
def k326 (P:Params):Obj:=⟨(.type "tuple"),none,(.seq #[] 0),#[]⟩
def k329 (P:Params):Obj:=⟨(.type "code"),none,(.fields #[(.str "_law_wheel" 621),(.str "_law_wheel" 622),(.str "/claim/cut.py" 623),(.int (173) 0),(.int (4) 0),(.int (0) 0),(.int (0) 0),(.int (3) 0),(.ref 326),(.bool true),(.int (181) 0),(.ref 327),.none,.none,.none,(.ref 328),(.int (624) 0),(.int (173) 0),(.str "/claim/cut.py" 625)]),#[]⟩
def k330 (P:Params):Obj:=⟨(.type "function"),none,(.func (fnOf "_law_wheel" "_law_wheel" (defArgs (top 39)) (defBody (top 39)) (defScope (top 39)) .none .none .none (.str "law_glazebench_k21_leads_of_a_block" 581) none (.ref 329) .none)),#[]⟩
def k331 (P:Params):Obj:=⟨(.type "tuple"),none,(.seq #[] 0),#[]⟩
def k333 (P:Params):Obj:=⟨(.type "tuple"),none,(.seq #[(.str "_law_script" 630),(.str "_law_k" 631),(.str "_law_width" 632),(.str "_law_height" 633),(.str "_law_many" 634),(.str "_law_panes" 635),(.str "_law_k_more" 636),(.str "_law_purse_here" 637),(.str "_law_at" 638),(.str "_law_top" 639),(.str "_law_left" 640),(.str "_law_bottom" 641),(.str "_law_right_here" 642),(.str "_law_line" 643)] 0),#[]⟩
def k334 (P:Params):Obj:=⟨(.type "tuple"),none,(.seq #[] 0),#[]⟩
def k336 (P:Params):Obj:=⟨(.type "code"),none,(.fields #[(.str "_law_cut_up" 627),(.str "_law_cut_up" 628),(.str "/claim/cut.py" 629),(.int (187) 0),(.int (5) 0),(.int (0) 0),(.int (0) 0),(.int (3) 0),(.ref 331),(.bool true),(.int (181) 0),(.ref 332),.none,(.ref 333),(.ref 334),(.ref 335),(.int (644) 0),(.int (187) 0),(.str "/claim/cut.py" 645)]),#[]⟩
def k337 (P:Params):Obj:=⟨(.type "function"),none,(.func (fnOf "_law_cut_up" "_law_cut_up" (defArgs (top 40)) (defBody (top 40)) (defScope (top 40)) .none .none .none (.str "law_glazebench_k21_leads_of_a_block" 581) none (.ref 336) .none)),#[]⟩
def k338 (P:Params):Obj:=⟨(.type "tuple"),none,(.seq #[] 0),#[]⟩
def k340 (P:Params):Obj:=⟨(.type "tuple"),none,(.seq #[(.str "_law_panes" 650),(.str "_law_block" 651),(.str "_law_top" 652),(.str "_law_left" 653),(.str "_law_bottom" 654),(.str "_law_right_here" 655),(.str "_law_found" 656),(.str "_law_one" 657)] 0),#[]⟩
def k341 (P:Params):Obj:=⟨(.type "tuple"),none,(.seq #[] 0),#[]⟩
def k343 (P:Params):Obj:=⟨(.type "code"),none,(.fields #[(.str "_law_panes_in" 647),(.str "_law_panes_in" 648),(.str "/claim/cut.py" 649),(.int (200) 0),(.int (2) 0),(.int (0) 0),(.int (0) 0),(.int (3) 0),(.ref 338),(.bool true),(.int (181) 0),(.ref 339),.none,(.ref 340),(.ref 341),(.ref 342),(.int (658) 0),(.int (200) 0),(.str "/claim/cut.py" 659)]),#[]⟩
def k344 (P:Params):Obj:=⟨(.type "function"),none,(.func (fnOf "_law_panes_in" "_law_panes_in" (defArgs (top 41)) (defBody (top 41)) (defScope (top 41)) .none .none .none (.str "law_glazebench_k21_leads_of_a_block" 581) none (.ref 343) .none)),#[]⟩
def k345 (P:Params):Obj:=⟨(.type "tuple"),none,(.seq #[] 0),#[]⟩
def k347 (P:Params):Obj:=⟨(.type "tuple"),none,(.seq #[(.str "_law_script" 664),(.str "_law_purse_here" 665),(.str "_law_width" 666),(.str "_law_height" 667),(.str "_law_panes" 668)] 0),#[]⟩
def k348 (P:Params):Obj:=⟨(.type "tuple"),none,(.seq #[] 0),#[]⟩
def k350 (P:Params):Obj:=⟨(.type "code"),none,(.fields #[(.str "_law_drawn" 661),(.str "_law_drawn" 662),(.str "/claim/cut.py" 663),(.int (209) 0),(.int (1) 0),(.int (0) 0),(.int (0) 0),(.int (3) 0),(.ref 345),(.bool true),(.int (181) 0),(.ref 346),.none,(.ref 347),(.ref 348),(.ref 349),(.int (669) 0),(.int (209) 0),(.str "/claim/cut.py" 670)]),#[]⟩
def k351 (P:Params):Obj:=⟨(.type "function"),none,(.func (fnOf "_law_drawn" "_law_drawn" (defArgs (top 42)) (defBody (top 42)) (defScope (top 42)) .none .none .none (.str "law_glazebench_k21_leads_of_a_block" 581) none (.ref 350) .none)),#[]⟩
def k352 (P:Params):Obj:=⟨(.type "tuple"),none,(.seq #[] 0),#[]⟩
def k354 (P:Params):Obj:=⟨(.type "tuple"),none,(.seq #[(.str "_law_panes" 675),(.str "_law_owned" 676),(.str "_law_k" 677),(.str "_law_row" 678),(.str "_law_column" 679)] 0),#[]⟩
def k355 (P:Params):Obj:=⟨(.type "tuple"),none,(.seq #[] 0),#[]⟩
def k357 (P:Params):Obj:=⟨(.type "code"),none,(.fields #[(.str "_law_points" 672),(.str "_law_points" 673),(.str "/claim/cut.py" 674),(.int (219) 0),(.int (1) 0),(.int (0) 0),(.int (0) 0),(.int (3) 0),(.ref 352),(.bool true),(.int (181) 0),(.ref 353),.none,(.ref 354),(.ref 355),(.ref 356),(.int (680) 0),(.int (219) 0),(.str "/claim/cut.py" 681)]),#[]⟩
def k358 (P:Params):Obj:=⟨(.type "function"),none,(.func (fnOf "_law_points" "_law_points" (defArgs (top 43)) (defBody (top 43)) (defScope (top 43)) .none .none .none (.str "law_glazebench_k21_leads_of_a_block" 581) none (.ref 357) .none)),#[]⟩
def k359 (P:Params):Obj:=⟨(.type "tuple"),none,(.seq #[] 0),#[]⟩
def k361 (P:Params):Obj:=⟨(.type "tuple"),none,(.seq #[(.str "_law_owned" 686),(.str "_law_block" 687),(.str "_law_top" 688),(.str "_law_left" 689),(.str "_law_bottom" 690),(.str "_law_right_here" 691),(.str "_law_level" 692),(.str "_law_upright" 693),(.str "_law_row" 694),(.str "_law_column" 695)] 0),#[]⟩
def k362 (P:Params):Obj:=⟨(.type "tuple"),none,(.seq #[] 0),#[]⟩
def k364 (P:Params):Obj:=⟨(.type "code"),none,(.fields #[(.str "_law_bits" 683),(.str "_law_bits" 684),(.str "/claim/cut.py" 685),(.int (226) 0),(.int (2) 0),(.int (0) 0),(.int (0) 0),(.int (3) 0),(.ref 359),(.bool true),(.int (181) 0),(.ref 360),.none,(.ref 361),(.ref 362),(.ref 363),(.int (696) 0),(.int (226) 0),(.str "/claim/cut.py" 697)]),#[]⟩
def k365 (P:Params):Obj:=⟨(.type "function"),none,(.func (fnOf "_law_bits" "_law_bits" (defArgs (top 44)) (defBody (top 44)) (defScope (top 44)) .none .none .none (.str "law_glazebench_k21_leads_of_a_block" 581) none (.ref 364) .none)),#[]⟩
def k366 (P:Params):Obj:=⟨(.type "tuple"),none,(.seq #[] 0),#[]⟩
def k368 (P:Params):Obj:=⟨(.type "tuple"),none,(.seq #[(.str "_law_owned" 702),(.str "_law_block" 703),(.str "_law_level" 704),(.str "_law_upright" 705),(.str "_law_due_here" 706),(.str "_law_row" 707),(.str "_law_column" 708),(.str "_law_end" 709),(.str "_law_passing" 710)] 0),#[]⟩
def k369 (P:Params):Obj:=⟨(.type "tuple"),none,(.seq #[] 0),#[]⟩
def k371 (P:Params):Obj:=⟨(.type "code"),none,(.fields #[(.str "_law_due" 699),(.str "_law_due" 700),(.str "/claim/cut.py" 701),(.int (237) 0),(.int (2) 0),(.int (0) 0),(.int (0) 0),(.int (3) 0),(.ref 366),(.bool true),(.int (181) 0),(.ref 367),.none,(.ref 368),(.ref 369),(.ref 370),(.int (711) 0),(.int (237) 0),(.str "/claim/cut.py" 712)]),#[]⟩
def k372 (P:Params):Obj:=⟨(.type "function"),none,(.func (fnOf "_law_due" "_law_due" (defArgs (top 45)) (defBody (top 45)) (defScope (top 45)) .none .none .none (.str "law_glazebench_k21_leads_of_a_block" 581) none (.ref 371) .none)),#[]⟩
def k373 (P:Params):Obj:=⟨(.type "tuple"),none,(.seq #[] 0),#[]⟩
def k376 (P:Params):Obj:=⟨(.type "code"),none,(.fields #[(.str "_law_right" 714),(.str "_law_right" 715),(.str "/claim/cut.py" 716),(.int (254) 0),(.int (2) 0),(.int (0) 0),(.int (0) 0),(.int (3) 0),(.ref 373),(.bool true),(.int (181) 0),(.ref 374),.none,.none,.none,(.ref 375),(.int (717) 0),(.int (254) 0),(.str "/claim/cut.py" 718)]),#[]⟩
def k377 (P:Params):Obj:=⟨(.type "function"),none,(.func (fnOf "_law_right" "_law_right" (defArgs (top 46)) (defBody (top 46)) (defScope (top 46)) .none .none .none (.str "law_glazebench_k21_leads_of_a_block" 581) none (.ref 376) .none)),#[]⟩
def k378 (P:Params):Obj:=⟨(.type "tuple"),none,(.seq #[] 0),#[]⟩
def k380 (P:Params):Obj:=⟨(.type "tuple"),none,(.seq #[(.str "_law_script" 723),(.str "_law_width" 724),(.str "_law_height" 725),(.str "_law_panes" 726),(.str "_law_panel" 727),(.str "_law_purse_here" 728),(.str "_law_block" 729),(.str "_law_one" 730),(.str "_law_other" 731),(.str "_law_near" 732),(.str "_law_due_here" 733),(.str "_law_found" 734)] 0),#[]⟩
def k381 (P:Params):Obj:=⟨(.type "tuple"),none,(.seq #[] 0),#[]⟩
def k383 (P:Params):Obj:=⟨(.type "code"),none,(.fields #[(.str "law" 720),(.str "law" 721),(.str "/claim/cut.py" 722),(.int (265) 0),(.int (1) 0),(.int (0) 0),(.int (0) 0),(.int (3) 0),(.ref 378),(.bool true),(.int (181) 0),(.ref 379),.none,(.ref 380),(.ref 381),(.ref 382),(.int (735) 0),(.int (265) 0),(.str "/claim/cut.py" 736)]),#[]⟩
def k384 (P:Params):Obj:=⟨(.type "function"),none,(.func (fnOf "law" "law" (defArgs (top 47)) (defBody (top 47)) (defScope (top 47)) .none .none .none (.str "law_glazebench_k21_leads_of_a_block" 581) none (.ref 383) .none)),#[]⟩
def KK:Params→Frag:=fun P=>(nat_lit 2,k2 P) :: (nat_lit 3,k3 P) :: (nat_lit 15,k15 P) :: (nat_lit 17,k17 P) :: (nat_lit 18,k18 P) :: (nat_lit 20,k20 P) :: (nat_lit 21,k21 P) :: (nat_lit 22,k22 P) :: (nat_lit 29,k29 P) :: (nat_lit 30,k30 P) :: (nat_lit 31,k31 P) :: (nat_lit 32,k32 P) :: (nat_lit 35,k35 P) :: (nat_lit 42,k42 P) :: (nat_lit 44,k44 P) :: (nat_lit 45,k45 P) :: (nat_lit 47,k47 P) :: (nat_lit 48,k48 P) :: (nat_lit 49,k49 P) :: (nat_lit 50,k50 P) :: (nat_lit 51,k51 P) :: (nat_lit 54,k54 P) :: (nat_lit 61,k61 P) :: (nat_lit 63,k63 P) :: (nat_lit 64,k64 P) :: (nat_lit 66,k66 P) :: (nat_lit 67,k67 P) :: (nat_lit 68,k68 P) :: (nat_lit 69,k69 P) :: (nat_lit 70,k70 P) :: (nat_lit 73,k73 P) :: (nat_lit 80,k80 P) :: (nat_lit 82,k82 P) :: (nat_lit 83,k83 P) :: (nat_lit 85,k85 P) :: (nat_lit 86,k86 P) :: (nat_lit 87,k87 P) :: (nat_lit 88,k88 P) :: (nat_lit 89,k89 P) :: (nat_lit 92,k92 P) :: (nat_lit 99,k99 P) :: (nat_lit 101,k101 P) :: (nat_lit 102,k102 P) :: (nat_lit 104,k104 P) :: (nat_lit 105,k105 P) :: (nat_lit 106,k106 P) :: (nat_lit 107,k107 P) :: (nat_lit 108,k108 P) :: (nat_lit 111,k111 P) :: (nat_lit 118,k118 P) :: (nat_lit 120,k120 P) :: (nat_lit 121,k121 P) :: (nat_lit 123,k123 P) :: (nat_lit 124,k124 P) :: (nat_lit 125,k125 P) :: (nat_lit 126,k126 P) :: (nat_lit 127,k127 P) :: (nat_lit 130,k130 P) :: (nat_lit 137,k137 P) :: (nat_lit 139,k139 P) :: (nat_lit 140,k140 P) :: (nat_lit 142,k142 P) :: (nat_lit 143,k143 P) :: (nat_lit 144,k144 P) :: (nat_lit 145,k145 P) :: (nat_lit 146,k146 P) :: (nat_lit 149,k149 P) :: (nat_lit 151,k151 P) :: (nat_lit 152,k152 P) :: (nat_lit 154,k154 P) :: (nat_lit 155,k155 P) :: (nat_lit 156,k156 P) :: (nat_lit 158,k158 P) :: (nat_lit 159,k159 P) :: (nat_lit 161,k161 P) :: (nat_lit 162,k162 P) :: (nat_lit 163,k163 P) :: (nat_lit 166,k166 P) :: (nat_lit 167,k167 P) :: (nat_lit 168,k168 P) :: (nat_lit 170,k170 P) :: (nat_lit 171,k171 P) :: (nat_lit 173,k173 P) :: (nat_lit 174,k174 P) :: (nat_lit 175,k175 P) :: (nat_lit 177,k177 P) :: (nat_lit 178,k178 P) :: (nat_lit 180,k180 P) :: (nat_lit 181,k181 P) :: (nat_lit 182,k182 P) :: (nat_lit 184,k184 P) :: (nat_lit 185,k185 P) :: (nat_lit 187,k187 P) :: (nat_lit 188,k188 P) :: (nat_lit 189,k189 P) :: (nat_lit 191,k191 P) :: (nat_lit 192,k192 P) :: (nat_lit 194,k194 P) :: (nat_lit 195,k195 P) :: (nat_lit 196,k196 P) :: (nat_lit 198,k198 P) :: (nat_lit 199,k199 P) :: (nat_lit 201,k201 P) :: (nat_lit 202,k202 P) :: (nat_lit 203,k203 P) :: (nat_lit 205,k205 P) :: (nat_lit 206,k206 P) :: (nat_lit 208,k208 P) :: (nat_lit 209,k209 P) :: (nat_lit 217,k217 P) :: (nat_lit 220,k220 P) :: (nat_lit 221,k221 P) :: (nat_lit 222,k222 P) :: (nat_lit 224,k224 P) :: (nat_lit 225,k225 P) :: (nat_lit 227,k227 P) :: (nat_lit 228,k228 P) :: (nat_lit 229,k229 P) :: (nat_lit 231,k231 P) :: (nat_lit 232,k232 P) :: (nat_lit 234,k234 P) :: (nat_lit 235,k235 P) :: (nat_lit 236,k236 P) :: (nat_lit 238,k238 P) :: (nat_lit 239,k239 P) :: (nat_lit 241,k241 P) :: (nat_lit 242,k242 P) :: (nat_lit 243,k243 P) :: (nat_lit 244,k244 P) :: (nat_lit 245,k245 P) :: (nat_lit 246,k246 P) :: (nat_lit 247,k247 P) :: (nat_lit 250,k250 P) :: (nat_lit 252,k252 P) :: (nat_lit 253,k253 P) :: (nat_lit 255,k255 P) :: (nat_lit 256,k256 P) :: (nat_lit 257,k257 P) :: (nat_lit 260,k260 P) :: (nat_lit 261,k261 P) :: (nat_lit 262,k262 P) :: (nat_lit 264,k264 P) :: (nat_lit 265,k265 P) :: (nat_lit 267,k267 P) :: (nat_lit 268,k268 P) :: (nat_lit 269,k269 P) :: (nat_lit 271,k271 P) :: (nat_lit 272,k272 P) :: (nat_lit 274,k274 P) :: (nat_lit 275,k275 P) :: (nat_lit 276,k276 P) :: (nat_lit 279,k279 P) :: (nat_lit 280,k280 P) :: (nat_lit 281,k281 P) :: (nat_lit 284,k284 P) :: (nat_lit 285,k285 P) :: (nat_lit 286,k286 P) :: (nat_lit 288,k288 P) :: (nat_lit 289,k289 P) :: (nat_lit 291,k291 P) :: (nat_lit 292,k292 P) :: (nat_lit 293,k293 P) :: (nat_lit 296,k296 P) :: (nat_lit 297,k297 P) :: (nat_lit 298,k298 P) :: (nat_lit 300,k300 P) :: (nat_lit 301,k301 P) :: (nat_lit 303,k303 P) :: (nat_lit 304,k304 P) :: (nat_lit 305,k305 P) :: (nat_lit 307,k307 P) :: (nat_lit 308,k308 P) :: (nat_lit 310,k310 P) :: (nat_lit 311,k311 P) :: (nat_lit 312,k312 P) :: (nat_lit 314,k314 P) :: (nat_lit 315,k315 P) :: (nat_lit 317,k317 P) :: (nat_lit 318,k318 P) :: (nat_lit 319,k319 P) :: (nat_lit 321,k321 P) :: (nat_lit 322,k322 P) :: (nat_lit 324,k324 P) :: (nat_lit 325,k325 P) :: (nat_lit 326,k326 P) :: (nat_lit 329,k329 P) :: (nat_lit 330,k330 P) :: (nat_lit 331,k331 P) :: (nat_lit 333,k333 P) :: (nat_lit 334,k334 P) :: (nat_lit 336,k336 P) :: (nat_lit 337,k337 P) :: (nat_lit 338,k338 P) :: (nat_lit 340,k340 P) :: (nat_lit 341,k341 P) :: (nat_lit 343,k343 P) :: (nat_lit 344,k344 P) :: (nat_lit 345,k345 P) :: (nat_lit 347,k347 P) :: (nat_lit 348,k348 P) :: (nat_lit 350,k350 P) :: (nat_lit 351,k351 P) :: (nat_lit 352,k352 P) :: (nat_lit 354,k354 P) :: (nat_lit 355,k355 P) :: (nat_lit 357,k357 P) :: (nat_lit 358,k358 P) :: (nat_lit 359,k359 P) :: (nat_lit 361,k361 P) :: (nat_lit 362,k362 P) :: (nat_lit 364,k364 P) :: (nat_lit 365,k365 P) :: (nat_lit 366,k366 P) :: (nat_lit 368,k368 P) :: (nat_lit 369,k369 P) :: (nat_lit 371,k371 P) :: (nat_lit 372,k372 P) :: (nat_lit 373,k373 P) :: (nat_lit 376,k376 P) :: (nat_lit 377,k377 P) :: (nat_lit 378,k378 P) :: (nat_lit 380,k380 P) :: (nat_lit 381,k381 P) :: (nat_lit 383,k383 P) :: (nat_lit 384,k384 P) :: []
def kas:List Addr:=nat_lit 2 :: nat_lit 3 :: nat_lit 15 :: nat_lit 17 :: nat_lit 18 :: nat_lit 20 :: nat_lit 21 :: nat_lit 22 :: nat_lit 29 :: nat_lit 30 :: nat_lit 31 :: nat_lit 32 :: nat_lit 35 :: nat_lit 42 :: nat_lit 44 :: nat_lit 45 :: nat_lit 47 :: nat_lit 48 :: nat_lit 49 :: nat_lit 50 :: nat_lit 51 :: nat_lit 54 :: nat_lit 61 :: nat_lit 63 :: nat_lit 64 :: nat_lit 66 :: nat_lit 67 :: nat_lit 68 :: nat_lit 69 :: nat_lit 70 :: nat_lit 73 :: nat_lit 80 :: nat_lit 82 :: nat_lit 83 :: nat_lit 85 :: nat_lit 86 :: nat_lit 87 :: nat_lit 88 :: nat_lit 89 :: nat_lit 92 :: nat_lit 99 :: nat_lit 101 :: nat_lit 102 :: nat_lit 104 :: nat_lit 105 :: nat_lit 106 :: nat_lit 107 :: nat_lit 108 :: nat_lit 111 :: nat_lit 118 :: nat_lit 120 :: nat_lit 121 :: nat_lit 123 :: nat_lit 124 :: nat_lit 125 :: nat_lit 126 :: nat_lit 127 :: nat_lit 130 :: nat_lit 137 :: nat_lit 139 :: nat_lit 140 :: nat_lit 142 :: nat_lit 143 :: nat_lit 144 :: nat_lit 145 :: nat_lit 146 :: nat_lit 149 :: nat_lit 151 :: nat_lit 152 :: nat_lit 154 :: nat_lit 155 :: nat_lit 156 :: nat_lit 158 :: nat_lit 159 :: nat_lit 161 :: nat_lit 162 :: nat_lit 163 :: nat_lit 166 :: nat_lit 167 :: nat_lit 168 :: nat_lit 170 :: nat_lit 171 :: nat_lit 173 :: nat_lit 174 :: nat_lit 175 :: nat_lit 177 :: nat_lit 178 :: nat_lit 180 :: nat_lit 181 :: nat_lit 182 :: nat_lit 184 :: nat_lit 185 :: nat_lit 187 :: nat_lit 188 :: nat_lit 189 :: nat_lit 191 :: nat_lit 192 :: nat_lit 194 :: nat_lit 195 :: nat_lit 196 :: nat_lit 198 :: nat_lit 199 :: nat_lit 201 :: nat_lit 202 :: nat_lit 203 :: nat_lit 205 :: nat_lit 206 :: nat_lit 208 :: nat_lit 209 :: nat_lit 217 :: nat_lit 220 :: nat_lit 221 :: nat_lit 222 :: nat_lit 224 :: nat_lit 225 :: nat_lit 227 :: nat_lit 228 :: nat_lit 229 :: nat_lit 231 :: nat_lit 232 :: nat_lit 234 :: nat_lit 235 :: nat_lit 236 :: nat_lit 238 :: nat_lit 239 :: nat_lit 241 :: nat_lit 242 :: nat_lit 243 :: nat_lit 244 :: nat_lit 245 :: nat_lit 246 :: nat_lit 247 :: nat_lit 250 :: nat_lit 252 :: nat_lit 253 :: nat_lit 255 :: nat_lit 256 :: nat_lit 257 :: nat_lit 260 :: nat_lit 261 :: nat_lit 262 :: nat_lit 264 :: nat_lit 265 :: nat_lit 267 :: nat_lit 268 :: nat_lit 269 :: nat_lit 271 :: nat_lit 272 :: nat_lit 274 :: nat_lit 275 :: nat_lit 276 :: nat_lit 279 :: nat_lit 280 :: nat_lit 281 :: nat_lit 284 :: nat_lit 285 :: nat_lit 286 :: nat_lit 288 :: nat_lit 289 :: nat_lit 291 :: nat_lit 292 :: nat_lit 293 :: nat_lit 296 :: nat_lit 297 :: nat_lit 298 :: nat_lit 300 :: nat_lit 301 :: nat_lit 303 :: nat_lit 304 :: nat_lit 305 :: nat_lit 307 :: nat_lit 308 :: nat_lit 310 :: nat_lit 311 :: nat_lit 312 :: nat_lit 314 :: nat_lit 315 :: nat_lit 317 :: nat_lit 318 :: nat_lit 319 :: nat_lit 321 :: nat_lit 322 :: nat_lit 324 :: nat_lit 325 :: nat_lit 326 :: nat_lit 329 :: nat_lit 330 :: nat_lit 331 :: nat_lit 333 :: nat_lit 334 :: nat_lit 336 :: nat_lit 337 :: nat_lit 338 :: nat_lit 340 :: nat_lit 341 :: nat_lit 343 :: nat_lit 344 :: nat_lit 345 :: nat_lit 347 :: nat_lit 348 :: nat_lit 350 :: nat_lit 351 :: nat_lit 352 :: nat_lit 354 :: nat_lit 355 :: nat_lit 357 :: nat_lit 358 :: nat_lit 359 :: nat_lit 361 :: nat_lit 362 :: nat_lit 364 :: nat_lit 365 :: nat_lit 366 :: nat_lit 368 :: nat_lit 369 :: nat_lit 371 :: nat_lit 372 :: nat_lit 373 :: nat_lit 376 :: nat_lit 377 :: nat_lit 378 :: nat_lit 380 :: nat_lit 381 :: nat_lit 383 :: nat_lit 384 :: []
def keeps:List Nat:=0 :: 2 :: 3 :: 4 :: 5 :: 6 :: 7 :: 8 :: 10 :: 11 :: 12 :: 13 :: 14 :: 15 :: 16 :: 17 :: 18 :: 19 :: 20 :: 21 :: 23 :: 24 :: 25 :: 27 :: 28 :: 29 :: 30 :: 31 :: 32 :: 33 :: 34 :: 36 :: 37 :: 38 :: 39 :: 40 :: 41 :: 42 :: 43 :: 44 :: 45 :: 46 :: 47 :: []
def lo:List Str:=[]
theorem prep (h:PySem.Challenge.rw_glazebench_k21_leads_of_a_block.row.wellSaid=true→PySem.Challenge.rw_glazebench_k21_leads_of_a_block.row.Holds):PySem.Challenge.rw_glazebench_k21_leads_of_a_block.Holds:=by
  w_on
  o_law
  exact h (by assumption)
def qv (p:Program):Program:=view p keeps
def Xp (p:Program) (s:Shared):Bool:=xlAt (qv p) [] s && recOk (RowW.records (OpenRow.toRowW PySem.Challenge.rw_glazebench_k21_leads_of_a_block.row)) s
theorem kas_is (P:Params):kas=(KK P).map (fun x=>x.1):=by kernel_rfl
theorem op_is:opening PySem.Challenge.pw_glazebench_k21_leads_of_a_block=plainProg PySem.Challenge.pw_glazebench_k21_leads_of_a_block.main.scope.names:=by kernel_rfl
theorem fence_is (s:Shared):fenceModules? PySem.Challenge.pw_glazebench_k21_leads_of_a_block s=some s:=by kernel_rfl
theorem boot_is (w:World):((boot_heap w.params).isNs mainGlobals,(boot_heap w.params).objs.size,(boot_heap w.params).nsMap mainGlobals "__annotations__")=(true,11,(some (.ref 6))):=by kernel_rfl
theorem ranA:RunA 6192 11 (some (.ref 6)) PySem.W.Fast.te10156331382660048174 PySem.W.Fast.te11892475500146522536 PySem.W.Fast.te14364793385576792824 PySem.W.Fast.te5923862056798008813 PySem.W.Fast.te4187177175401517315 PySem.W.Fast.te9418674175405255107:=fun w os=>by kernel_rfl
theorem ranB:RunB 6192 11 (some (.ref 6)) qv lo Xp PySem.W.Fast.te10156331382660048174 PySem.W.Fast.te11892475500146522536 PySem.W.Fast.te14364793385576792824 PySem.W.Fast.te5923862056798008813 PySem.W.Fast.te4187177175401517315 PySem.W.Fast.te9418674175405255107:=fun w os=>by kernel_rfl
theorem ranC:RunC 6192 11 (some (.ref 6)) (kHook KK kas kas_is).obs (kHook KK kas kas_is).val PySem.W.Fast.te10156331382660048174 PySem.W.Fast.te11892475500146522536 PySem.W.Fast.te14364793385576792824 PySem.W.Fast.te5923862056798008813 PySem.W.Fast.te4187177175401517315 PySem.W.Fast.te9418674175405255107:=fun w os=>by kernel_rfl
theorem ran:∀ (w:World) (os:OsState),Option.map (lookO openSeen (importedModules PySem.Challenge.pw_glazebench_k21_leads_of_a_block.main.body) PySem.Challenge.pw_glazebench_k21_leads_of_a_block (qv PySem.Challenge.pw_glazebench_k21_leads_of_a_block) lo (Xp PySem.Challenge.pw_glazebench_k21_leads_of_a_block) (kHook KK kas kas_is).obs (boot_heap w.params)) (topRun treeTable PySem.Challenge.pw_glazebench_k21_leads_of_a_block w 11 (some (.ref 6)) 6192 (atBoot w.params os) (topStub PySem.Challenge.pw_glazebench_k21_leads_of_a_block))=some (true,openGood (qv PySem.Challenge.pw_glazebench_k21_leads_of_a_block) lo,(kHook KK kas kas_is).val w):=run_by3 ranA ranB ranC
theorem left:LeftO PySem.Challenge.pw_glazebench_k21_leads_of_a_block (qv PySem.Challenge.pw_glazebench_k21_leads_of_a_block) lo (Xp PySem.Challenge.pw_glazebench_k21_leads_of_a_block) (kHook KK kas kas_is).obs (kHook KK kas kas_is).val 6192:=left_once (boot_open op_is (by decide) fence_is) boot_is ran
end KH
namespace L2
open PySem PySem.Spec PyProof.Rows
def isCF:Option NameKind→Bool
  | some .cell=>true
  | some .free=>true
  | _=>false
theorem isCF_of {o:Option NameKind} (h:isCF o=true):o=some .cell∨o=some .free:=by
  match o,h with
  | some .cell,_=>exact .inl rfl
  | some .free,_=>exact .inr rfl
theorem closure_go (env:Env):∀ (l:List (Str × NameKind)) (acc:List (Str × Addr)),(∀ y∈l,y.2=.free→∃ c,env.cells.lookup y.1=some c) →
    (∀ x c,acc.lookup x=some c→env.cells.lookup x=some c) →
    ∃ cl,(forIn l acc (fun (x:Str × NameKind) (r:List (Str × Addr))=>if (x.2 == .free)=true then (cellOf env x.1 >>= fun c=>pure (ForInStep.yield ((x.1,c) :: r))) else pure (ForInStep.yield r)):Sem (List (Str × Addr)))=pure cl ∧
      (∀ x c,cl.lookup x=some c→env.cells.lookup x=some c)∧(∀ x,((∃ c,acc.lookup x=some c)∨(x,NameKind.free)∈l)→∃ c,cl.lookup x=some c)
  | [],acc,_,ha=>⟨acc,by rfl,ha,fun x h=>h.elim id fun z=>nomatch z⟩
  | (n,k) :: l,acc,hl,ha=>by
    have hl':∀ y∈l,y.2=.free→∃ c,env.cells.lookup y.1=some c:=fun y hy=>hl y (List.mem_cons_of_mem _ hy)
    by_cases hk:k=.free
    · subst hk
      obtain ⟨c,hc⟩:=hl (n,.free) List.mem_cons_self rfl
      have hc':env.cells.lookup n=some c:=hc
      have look:∀ x,((n,c) :: acc).lookup x=if x=n then some c else acc.lookup x:=fun x=>by
        rw [List.lookup_cons]
        by_cases e:x=n
        · subst e; simp
        · rw [if_neg e,show (x == n)=false by simpa using e]
      have ha':∀ x d,((n,c) :: acc).lookup x=some d→env.cells.lookup x=some d:=fun x d e=>by
        rw [look] at e
        split at e
        · rename_i q; subst q; rw [hc']; exact e
        · exact ha x d e
      obtain ⟨cl,e,h1,h2⟩:=closure_go env l ((n,c) :: acc) hl' ha'
      refine ⟨cl,?_,h1,fun x h=>h2 x ?_⟩
      · rw [← e,List.forIn_cons]
        have ec:cellOf env n=pure c:=by unfold cellOf; rw [hc']
        show ((cellOf env n >>= fun c=>pure (ForInStep.yield ((n,c) :: acc))) >>= _:Sem (List (Str × Addr)))=_
        rw [ec]
        rfl
      · rcases h with ⟨d,q⟩ | h
        · left
          rw [look]
          by_cases z:x=n
          · exact ⟨c,by rw [if_pos z]⟩
          · exact ⟨d,by rw [if_neg z]; exact q⟩
        · rcases List.mem_cons.mp h with z | z
          · left
            rw [look]
            exact ⟨c,by rw [if_pos (congrArg Prod.fst z)]⟩
          · exact .inr z
    · obtain ⟨cl,e,h1,h2⟩:=closure_go env l acc hl' ha
      refine ⟨cl,?_,h1,fun x h=>h2 x ?_⟩
      · rw [← e,List.forIn_cons]
        have hb:(k == NameKind.free)=false:=by simpa using hk
        show ((if (k == NameKind.free)=true then _ else pure (ForInStep.yield acc)) >>= _:Sem (List (Str × Addr)))=_
        rw [hb]
        rfl
      · rcases h with h | h
        · exact .inl h
        · rcases List.mem_cons.mp h with z | z
          · exact absurd (congrArg Prod.snd z).symm hk
          · exact .inr z
theorem closure_of {scope:Scope} {env:Env} (h:∀ y∈scope.names,y.2=.free→∃ c,env.cells.lookup y.1=some c) :
    ∃ cl,closureFor scope env=pure cl∧(∀ x c,cl.lookup x=some c→env.cells.lookup x=some c)∧(∀ x,(x,NameKind.free)∈scope.names→∃ c,cl.lookup x=some c):=by
  obtain ⟨cl,e,h1,h2⟩:=closure_go env scope.names [] h (fun x c e=>by simp at e)
  refine ⟨cl,?_,h1,fun x hx=>h2 x (.inr hx)⟩
  have e2:closureFor scope env=(forIn scope.names [] (fun (x:Str × NameKind) (r:List (Str × Addr))=>if (x.2 == .free)=true then (cellOf env x.1 >>= fun c=>pure (ForInStep.yield ((x.1,c) :: r))) else pure (ForInStep.yield r)) >>= fun r=>pure r:Sem (List (Str × Addr))):=by
    rfl
  rw [e2,e]
  rfl
abbrev compCx (X:Cx) (scope:Scope) (cl:List (Str × Addr)) (N:List Str) (C:Addr) (s:Shared) (H:Hp) (ex:List Addr):Cx :=
  { X with N:=N,s₀:=s,H₀:=H,env:=compEnvC scope cl C X.env,outer:=X.stack,ex:=ex,fn:=fun _=>false,pn:=[],xe:=fun _ _=>False }
def compChk (osc:Scope) (oN:List Str) (sc:Scope) (N:List Str) (fr:List (Option Nat)):Bool :=
  decide (sc.kind=.function) && sc.names.all (fun y=>decide (y.2≠.cell)) && sc.names.all (fun y=>decide (y.2≠.free) || isCF (osc.names.lookup y.1)) &&
  sc.names.all (fun y=>decide (y.2≠.local) || decide (sc.names.lookup y.1=some .local)) &&
  (N.zip fr).all (fun y=>match y.2 with
    | none=>true
    | some i=>decide (oN[i]?=some y.1) && isCF (osc.names.lookup y.1) && decide (sc.names.lookup y.1=some .free)) && decide (N.length=fr.length)
structure CompChk (osc:Scope) (oN:List Str) (sc:Scope) (N:List Str) (fr:List (Option Nat)):Prop where
  kind:sc.kind=.function
  nocell:∀ y∈sc.names,y.2≠.cell
  free:∀ y∈sc.names,y.2=.free→isCF (osc.names.lookup y.1)=true
  loc:∀ y∈sc.names,y.2=.local→sc.names.lookup y.1=some .local
  slots:∀ (j:Nat) (x:Str) (i:Nat),N[j]?=some x→fr[j]?=some (some i)→oN[i]?=some x∧isCF (osc.names.lookup x)=true∧sc.names.lookup x=some .free
  len:N.length=fr.length
theorem compChk_of {osc:Scope} {oN:List Str} {sc:Scope} {N:List Str} {fr:List (Option Nat)} (h:compChk osc oN sc N fr=true):CompChk osc oN sc N fr:=by
  unfold compChk at h
  simp only [Bool.and_eq_true,List.all_eq_true,decide_eq_true_eq,Bool.or_eq_true] at h
  obtain ⟨⟨⟨⟨⟨h1,h2⟩,h3⟩,h4⟩,h5⟩,h6⟩:=h
  refine ⟨h1,h2,fun y hy e=>(h3 y hy).resolve_left fun z=>z e,fun y hy e=>(h4 y hy).resolve_left fun z=>z e,fun j x i e1 e2=>?_,h6⟩
  have hm:(x,some i)∈N.zip fr:=by
    have:(N.zip fr)[j]?=some (x,some i):=by rw [List.getElem?_zip_eq_some]; exact ⟨e1,e2⟩
    exact List.mem_of_getElem? this
  have:=h5 _ hm
  simp only [Bool.and_eq_true,decide_eq_true_eq] at this
  exact ⟨this.1.1,this.1.2,this.2⟩
def stC (fr:List (Option Nat)) (σ:St):St:=fr.map fun o=>o.bind fun i=>(σ[i]?).join
def tComp (wi:TI) (g:TG) (te:TE) (fr:List (Option Nat)):TE:=fun σ H Q=>wi σ H fun J H1=>∀ acc,H1 acc=none→∃ W:Nat→Nat→St→Hp→Prop,(∃ m,W 0 m (stC fr σ) (upd H1 acc (.lst [])))∧∀ i m σ1 H2,W i m σ1 H2 →
  (J.stop i H2∧Q (.ref acc) H2)∨(J.go i H2∧∀ x H3,J.yld i H2 x H3→g x σ1 H3 fun σ4 H4=>te σ4 H4 fun v H5=>∃ xs,H5 acc=some (.lst xs)∧xs.length < sizeLine∧∃ m',m' < m∧W (i+1) m' σ4 (upd H5 acc (.lst (xs++[v]))))
section
variable {prog:Program} {w:World} {A:Around} {R:Result→Shared→Prop} {s:Shared}
theorem compLoop_any {elt target iter:Expr} {scope:Scope} {pos:Pos} {it acc:Value} {env:Env} (I:Nat→Shared→Prop)
    (turn:∀ n s,I n s→wpAny (model prog w) A (pyNext it) (fun r s₁=>match r with
      | none=>R (.ok .next) s₁
      | some v=>wpAny (model prog w) A (letOwnedTupleGo target it v) (fun _ s₁=>wpAny (model prog w) A (assign target env v) (fun _ s₂=>wpAny (model prog w) A (eval elt env) (fun x s₃ =>
          wpAny (model prog w) A (call (.builtin "list.append") [acc,x]) (fun _ s₄=>∃ m,m < n∧I m s₄) (notedBy (model prog w) A env fun e s'=>R (.error e) s') s₃)
          (notedBy (model prog w) A env fun e s'=>R (.error e) s') s₂) (notedBy (model prog w) A env fun e s'=>R (.error e) s') s₁) (notedBy (model prog w) A env fun e s'=>R (.error e) s') s₁) (notedBy (model prog w) A env fun e s'=>R (.error e) s') s)
    (n:Nat) (h:I n s) :
    codeAny (model prog w) A (.compLoop (.ListComp elt [⟨target,iter,[],0⟩] scope pos) 0 it acc env) R s:=by
  refine codeAny_loop rfl I (fun n s hI=>?_) n h
  show wpAny _ _ ((compTurn (.ListComp elt [⟨target,iter,[],0⟩] scope pos) 0 it acc env).onRaise (fun x=>do noteFrame x env; theTreesLotGoes x)) _ _ s
  refine wpAny_noted ?_
  rw [compTurn_list1]
  refine wpAny_bind (wpAny_standAt (wpAny_bind (wpAny_mono (turn n s hI) (fun r s₁ h₁=>?_) fun _ _ h'=>h')))
  cases r with
  | none=>exact wpAny_pure h₁
  | some v =>
    refine wpAny_bind (wpAny_mono h₁ (fun _ s₁ h₁=>?_) fun _ _ h'=>h')
    exact wpAny_bind (wpAny_mono h₁ (fun _ s₂ h₂=>wpAny_bind (wpAny_bind (wpAny_mono h₂ (fun x s₃ h₃=>wpAny_bind (wpAny_mono h₃
      (fun _ s₄ h₄=>wpAny_pure (wpAny_pure ⟨rfl,h₄⟩)) fun _ _ h'=>h')) fun _ _ h'=>h'))) fun _ _ h'=>h')
end
theorem wpFalse {α:Type} {M:Model} {A:Around} {t:Sem α} {Q:α→Shared→Prop} {E:Value→Shared→Prop} {s:Shared} (h:wpAny M A t Q (fun _ _=>False) s):wpAny M A t Q E s :=
  wpAny_mono h (fun _ _ q=>q) fun _ _ z=>z.elim
theorem relabel_CF {scope:Scope} {env:Env} (hc:∀ y∈scope.names,y.2≠.cell) {x:Str} (h:(relabel scope env).names.lookup x=some .cell∨(relabel scope env).names.lookup x=some .free):(x,NameKind.free)∈scope.names:=by
  have key:∀ (l:List (Str × NameKind)),(∀ y∈l,y.2≠.cell)→((l.map fun (n,k)=>if (k == NameKind.free && env.scope.kind == .function && env.kindOf n == some .cell) then (n,NameKind.cell) else (n,k)).lookup x=some .cell ∨
      (l.map fun (n,k)=>if (k == NameKind.free && env.scope.kind == .function && env.kindOf n == some .cell) then (n,NameKind.cell) else (n,k)).lookup x=some .free)→(x,NameKind.free)∈l:=by
    intro l
    induction l with
    | nil=>intro _ h; simp at h
    | cons y r ih =>
      obtain ⟨n,k⟩:=y
      intro hc h
      have hr:∀ y∈r,y.2≠.cell:=fun y hy=>hc y (List.mem_cons_of_mem _ hy)
      have hk:k≠.cell:=hc (n,k) List.mem_cons_self
      rw [List.map_cons] at h
      by_cases hxn:x=n
      · subst hxn
        have hkf:k=.free:=by
          by_cases hb:(k == NameKind.free && env.scope.kind == .function && env.kindOf x == some .cell)=true
          · simp only [Bool.and_eq_true,beq_iff_eq] at hb
            exact hb.1.1
          · simp only [hb,if_neg,Bool.false_eq_true,if_false] at h
            simp only [List.lookup_cons,beq_self_eq_true] at h
            rcases h with h | h
            · exact absurd (Option.some.inj h) hk
            · exact Option.some.inj h
        rw [hkf]
        exact List.mem_cons_self
      · have hb:(x == n)=false:=by simpa using hxn
        refine List.mem_cons_of_mem _ (ih hr ?_)
        by_cases hq:(k == NameKind.free && env.scope.kind == .function && env.kindOf n == some .cell)=true
        · simp only [hq,if_true,List.lookup_cons,hb] at h
          exact h
        · simp only [hq,Bool.false_eq_true,if_false,List.lookup_cons,hb] at h
          exact h
  exact key scope.names hc h
theorem relabel_free {env:Env} {x:Str}:∀ {l:List (Str × NameKind)},l.lookup x=some .free →
    ((l.map fun (n,k)=>if (k == NameKind.free && env.scope.kind == .function && env.kindOf n == some .cell) then (n,NameKind.cell) else (n,k)).lookup x=some .cell ∨
     (l.map fun (n,k)=>if (k == NameKind.free && env.scope.kind == .function && env.kindOf n == some .cell) then (n,NameKind.cell) else (n,k)).lookup x=some .free)
  | [],h=>by simp at h
  | (n,k) :: r,h=>by
    rw [List.map_cons]
    by_cases hxn:x=n
    · subst hxn
      simp only [List.lookup_cons,beq_self_eq_true] at h
      have hk:=Option.some.inj h
      subst hk
      by_cases hq:(NameKind.free == NameKind.free && env.scope.kind == .function && env.kindOf x == some .cell)=true
      · left
        show List.lookup x ((if (NameKind.free == NameKind.free && env.scope.kind == .function && env.kindOf x == some .cell)=true then (x,NameKind.cell) else (x,NameKind.free)) :: _)=_
        rw [if_pos hq,List.lookup_cons,beq_self_eq_true]
      · right
        show List.lookup x ((if (NameKind.free == NameKind.free && env.scope.kind == .function && env.kindOf x == some .cell)=true then (x,NameKind.cell) else (x,NameKind.free)) :: _)=_
        rw [if_neg hq,List.lookup_cons,beq_self_eq_true]
    · have hb:(x == n)=false:=by simpa using hxn
      simp only [List.lookup_cons,hb] at h
      have ih:=relabel_free (env:=env) h
      by_cases hq:(k == NameKind.free && env.scope.kind == .function && env.kindOf n == some .cell)=true
      · simp only [hq,if_true,List.lookup_cons,hb]; exact ih
      · simp only [hq,Bool.false_eq_true,if_false,List.lookup_cons,hb]; exact ih
theorem mem_look {x:Str} {k:NameKind}:∀ {l:List (Str × NameKind)},l.lookup x=some k→(x,k)∈l
  | [],h=>by simp at h
  | (n,j) :: r,h=>by
    by_cases e:x=n
    · subst e
      simp only [List.lookup_cons,beq_self_eq_true] at h
      rw [← Option.some.inj h]
      exact List.mem_cons_self
    · have hb:(x == n)=false:=by simpa using e
      simp only [List.lookup_cons,hb] at h
      exact List.mem_cons_of_mem _ (mem_look h)
section
variable {X:Cx} {elt tg iter:Expr} {scope:Scope} {pos:Pos} {wi:TI} {g:TG} {te:TE} {N:List Str} {fr:List (Option Nat)}
theorem comp_entry {pins:List (Addr × Obj)} {σ:St} {H:Hp} {s s1:Shared} {cl:List (Str × Addr)} {ex:List Addr} {C:Addr} {m:Str→Option Value} (I:Inv X pins σ H s) (ck:CompChk X.env.scope X.N scope N fr)
    (c1:∀ x c,cl.lookup x=some c→X.env.cells.lookup x=some c) (c2:∀ x,(x,NameKind.free)∈scope.names→∃ c,cl.lookup x=some c) (hex:∀ b∈ex,FpOk X pins H b∧b < s.heap.objs.size) (hC:s.heap.objs.size≤C)
    (hn:s1.heap.Ns C m) (k:∀ b o,s.heap.get? b=some o→s1.heap.get? b=some o) (ho:s1.os=s.os) (hg:s1.gens=s.gens) :
    Inv (compCx X scope cl N C s H ex) [] (stC fr σ) H s1:=by
  have lt_ne:∀ {b:Addr} {o:Obj},s.heap.get? b=some o→b≠C:=fun e=>Nat.ne_of_lt (Nat.lt_of_lt_of_le (Heap.lt_size e) hC)
  have ok:(compCx X scope cl N C s H ex).Ok :=
    { mod:=I.ok.mod
      kind:=ck.kind
      glob:=I.ok.glob
      blt:=I.ok.blt
      above:=hC
      inj:=fun x y c e1 e2=>I.ok.inj x y c (c1 x c e1) (c1 y c e2)
      has:=fun x h=>c2 x (relabel_CF ck.nocell h)
      cab:=fun x c z=>by cases z
      hd:=I.ok.hd
      frames:=I.ok.frames
      stk:=.inl rfl
      exf:=fun b hb=>⟨Nat.ne_of_lt (Nat.lt_of_lt_of_le (hex b hb).2 hC),fun x c e=>(hex b hb).1.2.2.2.2.1 x c (c1 x c e)⟩
      bs:=I.bs
      bsz:=Nat.le_trans I.ok.bsz I.sz
      noex:=fun b o e hb=>by
        rcases (hex b hb).1.2.2.2.1 with z | z
        · exact I.ok.noex b o e z
        · exact absurd (Nat.lt_of_lt_of_le (Heap.lt_size e) (Nat.le_trans I.ok.bsz z)) (Nat.lt_irrefl _)
      exfs:=fun b hb hz=>by
        rcases List.mem_cons.mp (I.stkSub b hz) with z | z
        · exact (hex b hb).1.2.1 z
        · exact (hex b hb).1.2.2.1 z
      funs:=I.stack
      frf:=I.stkFree }
  refine ⟨ok,ho,by rw [hg]; exact I.bare,Un.kept k,⟨m,hn,fun j x v e1 e2 e3=>?_⟩,fun x c e=>?_,I.hok.fresh hC,fun x c e=>I.freeC x c (c1 x c e),fun p hp=>by simp at hp,I.hok.kept k,?_⟩
  · have e1':N[j]?=some x:=e1
    unfold stC at e2
    rw [List.getElem?_map] at e2
    cases q:fr[j]? with
    | none=>rw [q] at e2; cases e2
    | some o =>
      rw [q] at e2
      cases o with
      | none =>
        have:(none:Option V)=some v:=Option.some.inj e2
        cases this
      | some i =>
        have e2':(σ[i]?).join=some v:=Option.some.inj e2
        obtain ⟨s1',s2',s3'⟩:=ck.slots j x i e1' q
        have hσ:σ[i]?=some (some v):=by
          cases z:σ[i]? with
          | none=>rw [z] at e2'; cases e2'
          | some y=>rw [z] at e2'; exact congrArg some e2'
        have hcf:=isCF_of s2'
        obtain ⟨m0,hn0,hl⟩:=I.loc
        obtain ⟨u,r,lk⟩:=hl i x v s1' hσ (Or.inr hcf)
        refine ⟨u,r,Or.inr ⟨relabel_free s3',?_⟩⟩
        obtain ⟨c,hc⟩:=c2 x (mem_look s3')
        refine ⟨c,hc,?_⟩
        rcases lk with ⟨z,_⟩ | ⟨_,c',hc',hv⟩
        · rcases hcf with y | y
          · have z':X.env.scope.names.lookup x=some .local:=z
            rw [y] at z'; cases z'
          · have z':X.env.scope.names.lookup x=some .local:=z
            rw [y] at z'; cases z'
        · have:=c1 x c hc
          rw [hc'] at this
          cases this
          exact hv.keeps k
  · obtain ⟨v,z⟩:=I.cell x c (c1 x c e)
    exact ⟨v,z.keeps k⟩
  · unfold stC
    rw [List.length_map]
    exact ck.len.symm
theorem comp_core {pins:List (Addr × Obj)} {σ:St} {H:Hp} {s:Shared} {Q:VK} {cl:List (Str × Addr)} {R:Value→Addr→Result→Shared→Prop} (hc:X.calm=true) (I:Inv X pins σ H s) (hi:PI X tg iter wi)
    (hg:∀ cl C s H ex,PG (compCx X scope cl N C s H ex) tg g) (he:∀ cl C s H ex,PE (compCx X scope cl N C s H ex) elt te) (ck:CompChk X.env.scope X.N scope N fr)
    (c1:∀ x c,cl.lookup x=some c→X.env.cells.lookup x=some c) (c2:∀ x,(x,NameKind.free)∈scope.names→∃ c,cl.lookup x=some c)
    (h:tComp wi g te fr σ H Q)
    (hR:∀ acc C s' H' m,s'.heap.Ns C m→FpOk X pins H' C→Inv X pins σ H' s'→Q (.ref acc) H'→R (.ref acc) C (.ok .next) s') :
    wpAny (model X.prog X.w) X.A (eval iter X.env) (fun x s₁=>wpAny (model X.prog X.w) X.A (pyIter x) (fun it s₂=>wpAny (model X.prog X.w) X.A (newList []) (fun acc s₃ =>
      wpAny (model X.prog X.w) X.A (newFunctionEnv scope X.env.globals cl [] X.env.qual none .none (some X.env)) (fun cenv s₄ =>
        codeAny (model X.prog X.w) X.A (.compStart (.ListComp elt [⟨tg,iter,[],0⟩] scope pos) 0 it acc { cenv with scope:=relabel scope X.env }) (R acc cenv.locals) s₄) X.xe s₃) X.xe s₂) X.xe s₁) X.xe s:=by
  refine thn (hi pins s σ H _ I h) fun v s1 h1=>thn h1 fun itv s2 h2=>?_
  obtain ⟨it,fp,tn,J,H2,e,I2,T,st2,f2,q2⟩:=h2
  subst e
  refine wpAny_newObj_type (wpAny_newFunctionEnv ck.nocell (by intro y hy; simp at hy) (fun h₁ hns₁ hsb₁=>?_) ck.kind)
  dsimp only at hns₁ hsb₁ ⊢
  have I3:Inv X pins σ (upd H2 s2.heap.objs.size (.lst [])) { s2 with heap:=s2.heap.push { cls:=.type "list",dict:=none,data:=.seq ([]:List Value).toArray } }:=I2.lnew (t':=s2.toks) (its:=[]) .nil (Nat.zero_le _)
  have acc0:H2 s2.heap.objs.size=none:=I2.fresh
  obtain ⟨W,⟨m0,w0⟩,turn⟩:=q2 s2.heap.objs.size acc0
  generalize hH3:s2.heap.push { cls:=.type "list",dict:=none,data:=.seq ([]:List Value).toArray }=h3 at hns₁ hsb₁ I3 ⊢
  have hz3:h3.objs.size=s2.heap.objs.size+1:=by rw [← hH3,Heap.size_push]
  have k23:∀ b o,s2.heap.get? b=some o→h3.get? b=some o:=fun b o e=>by rw [← hH3]; exact Heap.get?_push_of_some _ e
  have k34:∀ b o,h3.get? b=some o→h₁.get? b=some o:=fun b o e=>hsb₁.extBut b o (Nat.ne_of_lt (Heap.lt_size e)) (Heap.get?_push_of_some _ e)
  have fpo:∀ b∈fp,∃ o,s2.heap.get? b=some o∧∀ v,o.data≠.cell v:=T.obj 0 _ st2
  have hex:∀ b∈fp,FpOk X pins (upd H2 s2.heap.objs.size (.lst [])) b∧b < h3.objs.size:=fun b hb=>by
    obtain ⟨o,eo,_⟩:=fpo b hb
    have lt:=Heap.lt_size eo
    obtain ⟨f0,fr'⟩:=f2 b hb
    exact ⟨⟨by rw [upd_ne (Nat.ne_of_lt lt)]; exact f0,fr'⟩,by rw [hz3]; exact Nat.lt_succ_of_lt lt⟩
  have I4:Inv (compCx X scope cl N h3.objs.size { s2 with heap:=h3 } (upd H2 s2.heap.objs.size (.lst [])) fp) [] (stC fr σ) (upd H2 s2.heap.objs.size (.lst [])) { s2 with heap:=h₁,toks:=s2.toks+([]:List (Str × Value)).length } :=
    comp_entry I3 ck c1 c2 hex (Nat.le_refl _) hns₁ k34 rfl rfl
  have stat:∀ {H':Hp},(∀ b∈fp,H' b=none)→∀ b∈fp,FpOk (compCx X scope cl N h3.objs.size { s2 with heap:=h3 } (upd H2 s2.heap.objs.size (.lst [])) fp) [] H' b:=fun hn b hb =>
    ⟨hn b hb,(I4.ok.exf b hb).1,I4.ok.exfs b hb,.inl hb,(I4.ok.exf b hb).2,fun p hp=>by simp at hp⟩
  have stn:∀ i h h',tn i h→(∀ b o,h.get? b=some o→h'.get? b=some o)→tn i h':=fun i h h' st kk=>T.keep i h h' st fun b _ o e=>kk b o e
  have loop:codeAny (model X.prog X.w) X.A (.compLoop (.ListComp elt [⟨tg,iter,[],0⟩] scope pos) 0 (.ref it) (.ref s2.heap.objs.size) (compEnvC scope cl h3.objs.size X.env)) (R (.ref s2.heap.objs.size) h3.objs.size)
      { s2 with heap:=h₁,toks:=s2.toks+([]:List (Str × Value)).length }:=by
    refine compLoop_any (fun n s'=>∃ i σ' H',Inv (compCx X scope cl N h3.objs.size { s2 with heap:=h3 } (upd H2 s2.heap.objs.size (.lst [])) fp) [] σ' H' s'∧tn i s'.heap∧(∀ b∈fp,H' b=none)∧W i n σ' H') ?_ m0
      ⟨0,_,_,I4,stn _ _ _ st2 fun b o e=>k34 b o (k23 b o e),fun b hb=>(hex b hb).1.1,w0⟩
    rintro n s3 ⟨i,σ3,H3,J3,st3,fr3,w3⟩
    rcases turn i n σ3 H3 w3 with ⟨stop,qn⟩ | ⟨go,step⟩
    · refine wpFalse (thn (T.done (compCx X scope cl N h3.objs.size { s2 with heap:=h3 } (upd H2 s2.heap.objs.size (.lst [])) fp) rfl rfl rfl hc i [] s3 σ3 H3 (fun _ _=>False) J3 (stat fr3) st3 stop) fun r s4 ⟨hr,J4⟩=>?_)
      subst hr
      obtain ⟨mc,hmc,_⟩:=J4.loc
      have I5:Inv X pins σ H3 s4:=I3.call' (ch:=fp) J4.os J4.base J4.hok J4.bare fun b hb=>⟨(hex b hb).1.2.2.2.1,(hex b hb).1.2.1,(hex b hb).1.2.2.2.2.1,(hex b hb).1.2.2.2.2.2⟩
      exact hR _ _ s4 H3 mc hmc (I3.fpOk (Nat.le_refl _) J4.free) I5 qn
    · refine wpFalse (thn (T.item (compCx X scope cl N h3.objs.size { s2 with heap:=h3 } (upd H2 s2.heap.objs.size (.lst [])) fp) rfl rfl rfl hc i [] s3 σ3 H3 (fun _ _=>False) J3 (stat fr3) st3 go) fun r s4 ⟨u,hr,h4⟩=>?_)
      subst hr
      refine wpFalse (thn h4 fun _ s5 ⟨x,H5,J5,r5,y5,st5,fr5⟩=>?_)
      have J5':=J5.pinned (stat fr5) (T.obj _ _ st5)
      refine wpFalse (thn (hg _ _ _ _ _ _ s5 σ3 H5 x u _ J5' r5 (step x H5 y5)) fun _ s6 ⟨σ6,H6,J6,q6⟩=>?_)
      refine wpFalse (thn (he _ _ _ _ _ _ s6 σ6 H6 _ J6 q6) fun y s7 ⟨v7,H7,J7,r7,xs,hx,hz,m',hm',w7⟩=>?_)
      refine wpFalse (thn (mt_append _ s7 σ6 H7 (.ref s2.heap.objs.size) [v7] (.ref s2.heap.objs.size) [y] (fun v H8=>H8=upd H7 s2.heap.objs.size (.lst (xs++[v7]))) J7 rfl (.cons r7 .nil) ⟨_,xs,v7,rfl,rfl,hx,hz,rfl⟩) fun _ s8 ⟨_,H8,J8,_,e8⟩=>?_)
      subst e8
      refine ⟨m',hm',i+1,σ6,_,J8.unpinned,T.keep _ _ _ st5 fun b hb o e=>(J8.pin (b,o) (List.mem_append_right _ (List.mem_append_right _ (mem_pinsAt hb e)))).1,fun b hb=>?_,w7⟩
      obtain ⟨o,e,d⟩:=T.obj _ _ st5 b hb
      exact (J8.pin (b,o) (List.mem_append_right _ (List.mem_append_right _ (mem_pinsAt hb e)))).2.1
  exact codeAny_compStart_list loop (T.self _ 0 _ _ _ (stn _ _ _ st2 fun b o e=>k34 b o (k23 b o e)) loop)
theorem comp_cl (I:X.Ok) (ck:CompChk X.env.scope X.N scope N fr):∃ cl,closureFor scope X.env=pure cl∧(∀ x c,cl.lookup x=some c→X.env.cells.lookup x=some c)∧(∀ x,(x,NameKind.free)∈scope.names→∃ c,cl.lookup x=some c) :=
  closure_of fun y hy e=>I.has y.1 (isCF_of (ck.free y hy e))
theorem pe_comp (hc:X.calm=true) (hi:PI X tg iter wi) (hg:∀ cl C s H ex,PG (compCx X scope cl N C s H ex) tg g) (he:∀ cl C s H ex,PE (compCx X scope cl N C s H ex) elt te)
    (hk:compChk X.env.scope X.N scope N fr=true:=by rfl) (hs:∀ x,foldedSetIterable iter X.env x=pure x:=by intro _; rfl):PE X (.ListComp elt [⟨tg,iter,[],0⟩] scope pos) (tComp wi g te fr):=by
  intro pins s σ H Q I h
  have ck:=compChk_of hk
  obtain ⟨cl,e1,c1,c2⟩:=comp_cl I.ok ck
  rw [eval_ListComp]
  refine wpAny_comprehension_free (use:=none) (Q:=EP X pins σ Q) rfl hs e1 ck.kind ck.loc (comp_core (R:=fun acc C=>compPost (model X.prog X.w) X.A X.xe none (EP X pins σ Q) acc C) hc I hi hg he ck c1 c2 h fun acc C s' H' m hn f I' q=>?_)
  obtain ⟨f0,f1,f2,f3,f4,f5⟩:=f
  exact ⟨m,hn,fun h' hs'=>⟨.ref acc,H',I'.turned (t':=s'.toks) (fun b o hb e=>hs'.extBut b o hb e) f0 f1 f3 f4 f5,rfl,q⟩⟩
theorem ps_setComp {y:Str} {py spos:Pos} {gy:TG} (hc:X.calm=true) (hy:PG X (.Name y py) gy) (hi:PI X tg iter wi) (hg:∀ cl C s H ex,PG (compCx X scope cl N C s H ex) tg g) (he:∀ cl C s H ex,PE (compCx X scope cl N C s H ex) elt te)
    (hk:compChk X.env.scope X.N scope N fr=true:=by rfl) (hsw:swapsWith (.ListComp elt [⟨tg,iter,[],0⟩] scope pos) (some (.Name y py)) spos.line X.env=pure true:=by rfl) (hs:∀ x,foldedSetIterable iter X.env x=pure x:=by intro _; rfl) :
    PS X (.Assign [.Name y py] (.ListComp elt [⟨tg,iter,[],0⟩] scope pos) spos) (tAsg (tComp wi g te fr) gy):=by
  intro pins s σ H D I h
  have ck:=compChk_of hk
  obtain ⟨cl,e1,c1,c2⟩:=comp_cl I.ok ck
  rw [exec_Assign_Name_used _ _ _ _ hsw]
  refine wpAny_bind (wpAny_standAt (wpAny_bind ?_))
  show wpAny _ X.A (do let _ ← comprehension (.ListComp elt [⟨tg,iter,[],0⟩] scope pos) scope X.env _ (newList []) false (eval iter X.env) (some (assign (.Name y py) X.env))) _ _ s
  refine wpAny_bind (wpAny_mono (wpAny_comprehension_free (use:=some (assign (.Name y py) X.env)) (Q:=fun _ s'=>SP X pins D .next s') rfl hs e1 ck.kind ck.loc
    (comp_core (R:=fun acc C=>compPost (model X.prog X.w) X.A X.xe (some (assign (.Name y py) X.env)) (fun _ s'=>SP X pins D .next s') acc C) hc I hi hg he ck c1 c2 h fun acc C s' H' m hn f I' q=>?_)) (fun _ s' hq=>wpAny_pure (wpAny_pure hq)) fun _ _ e=>e)
  show wpAny _ X.A (assign (.Name y py) X.env (.ref acc)) _ _ _
  obtain ⟨oC,es,ep,hoC,hdC,hrC⟩:=id hn
  have IP:=I'.pinned (fp:=[C]) (fun b hb=>by rw [List.mem_singleton.mp hb]; exact f) (fun b hb=>by rw [List.mem_singleton.mp hb]; exact ⟨oC,hoC,fun v z=>by rw [hdC] at z; cases z⟩)
  refine thn (hy _ s' σ H' (.ref acc) (.ref acc) _ IP rfl q) fun _ s'' ⟨σ6,H6,I6,q6⟩=>?_
  have pC:=I6.pin (C,oC) (List.mem_append_right _ (List.mem_append_right _ (mem_pinsAt (List.mem_singleton.mpr rfl) hoC)))
  obtain ⟨f0,f1,f2,f3,f4,f5⟩:=f
  exact ⟨m,⟨oC,es,ep,pC.1,hdC,hrC⟩,fun h' hs'=>⟨σ6,H6,I6.unpinned.turned (t':=s''.toks) (fun b o hb e=>hs'.extBut b o hb e) pC.2.1 f1 f3 f4 f5,q6⟩⟩
end
end L2
namespace L2
open PySem PySem.Spec PyProof.Rows
section
variable {X:Cx}
def CDivL (_ j:Int):Prop:=0 < j∧j.natAbs.log2 < 9000
theorem op_fdivL:OpR X (binaryOp .FloorDiv) (rI CDivL fun i j=>.int (i / j)):=opI fun i j _ _ _ _ _ hc q=>by
  have h1:(0:Int) < j:=hc.1
  exact floordiv_int (by omega) (by rw [Int.fdiv_eq_ediv_of_nonneg i (by omega)]; exact q) (.inl (PyProof.noPylong_of_log2 hc.2))
theorem op_mulL:OpR X (binaryOp .Mult) (rI IntMulOk fun i j=>.int (i * j)):=opI fun _ _ _ _ _ _ _ hc q=>mul_int q hc
theorem log2_lt_of {n k:Nat} (hk:0 < k) (h:n < 2^k):n.log2 < k:=by
  rcases Nat.eq_zero_or_pos n with h0 | hp
  · rw [h0]; simpa using hk
  · exact (Nat.log2_lt (Nat.ne_of_gt hp)).mpr h
theorem intBits_le {z:Int} {k:Nat} (hk:0 < k) (h:z.natAbs < 2^k):Builtin.Int.intBits z≤k:=by
  unfold Builtin.Int.intBits
  split
  · exact Nat.zero_le _
  · exact log2_lt_of hk h
theorem mulOk_of {a b:Int} (h1:a.natAbs < 2^128) (h2:b.natAbs < 2^128):IntMulOk a b:=by
  have e1:=intBits_le (by decide) h1
  have e2:=intBits_le (by decide) h2
  unfold IntMulOk Builtin.Int.intTooBig
  intro h
  simp only [Bool.and_eq_true,decide_eq_true_eq] at h
  have h3:=h.2
  have hb:(256:Int)≤(bitsLine:Int):=by decide +kernel
  omega
def tyO:Option HO→Option String
  | some (.lst _)=>some "list"
  | some (.frz _ (.lst _))=>some "list"
  | some (.tup _)=>some "tuple"
  | some (.dK _)=>some "dict"
  | some (.dT _)=>some "dict"
  | _=>none
def tyS (H:Hp):V→Option String
  | .non=>some "NoneType"
  | .bl _=>some "bool"
  | .int _=>some "int"
  | .str _=>some "str"
  | .ref a=>tyO (H a)
  | _=>none
theorem tyS_of {K:PySem.W.Frag} {H:Hp} {x:V} {T:String} (h:tyS H x=some T):TyOf K H x (.type T)∧(T="NoneType"∨T="bool"∨T="int"∨T="str"∨T="list"∨T="tuple"∨T="dict"):=by
  unfold tyS at h
  split at h
  · cases h; exact ⟨.non,by simp⟩
  · cases h; exact ⟨.bl _,by simp⟩
  · cases h; exact ⟨.int _,by simp⟩
  · cases h; exact ⟨.str _,by simp⟩
  · unfold tyO at h
    split at h
    · rename_i e; cases h; exact ⟨.lst e,by simp⟩
    · rename_i e; cases h; exact ⟨.frz e,by simp⟩
    · rename_i e; cases h; exact ⟨.tup e,by simp⟩
    · rename_i e; cases h; exact ⟨.dK e,by simp⟩
    · rename_i e; cases h; exact ⟨.dT e,by simp⟩
    · cases h
  · cases h
def isB (T c:String):Bool:=decide (T=c) || (decide (T="bool") && decide (c="int"))
theorem isB_tt:isB "tuple" "tuple"=true:=by decide
theorem kit_isB {K:PySem.W.Frag} {T c:String} (h:T="NoneType"∨T="bool"∨T="int"∨T="str"∨T="list"∨T="tuple"∨T="dict") (hc:c="int"∨c="bool"∨c="tuple"∨c="list"∨c="str") :
    PySem.W.kitOne K (.type T) (.type c)=some (isB T c):=by
  rcases h with rfl | rfl | rfl | rfl | rfl | rfl | rfl <;> rcases hc with rfl | rfl | rfl | rfl | rfl <;> rfl
theorem call_isin:CallR X (.builtin "isinstance") (fun xs H Q=>∃ x T c,xs=[x,.ty c]∧tyS H x=some T∧(c="int"∨c="bool"∨c="tuple"∨c="list"∨c="str")∧Q (.bl (isB T c)) H):=by
  intro pins s σ H xs us Q I r h
  obtain ⟨x,T,c,rfl,hT,hc,q⟩:=h
  obtain ⟨u,w',rfl,rx,ry⟩:=vals2 r
  cases (show w'=Value.type c from ry)
  obtain ⟨ty,hl⟩:=tyS_of (K:=X.K) hT
  exact isinst_ok I rx ty (kit_isB hl hc) fun tk=>⟨.bl (isB T c),H,I.tok tk,rfl,q⟩
theorem bools_get {bs:List Bool} {its:List Value} (r:Vals (bs.map V.bl) its) {i:Nat} {v:Value} (h:its.toArray[i]?=some v):v=.bool (bs.getD i false):=by
  have hl:=r.length
  have hi:i < its.length:=by
    have:=(Array.getElem?_eq_some_iff.mp h).1
    simpa using this
  have hb:bs[i]?=some (bs.getD i false):=by
    have:i < bs.length:=by rw [List.length_map] at hl; omega
    rw [List.getD_eq_getElem?_getD,List.getElem?_eq_getElem this]; rfl
  obtain ⟨u,hu,ru⟩:=r.get (i:=i) (x:=.bl (bs.getD i false)) (by rw [List.getElem?_map,hb]; rfl)
  have h':its[i]?=some v:=by simpa using h
  rw [h'] at hu
  cases hu
  exact ru
theorem range_all {α:Type} (bs:List Bool):(List.range bs.length).all (fun i=>bs.getD i false)=bs.all id:=by
  have e:(List.range bs.length).map (fun i=>bs.getD i false)=bs:=by
    apply List.ext_getElem?
    intro i
    rw [List.getElem?_map]
    by_cases h:i < bs.length
    · rw [List.getElem?_range h,List.getElem?_eq_getElem h,Option.map_some,List.getD_eq_getElem?_getD,List.getElem?_eq_getElem h]; rfl
    · rw [List.getElem?_eq_none (by simpa using h),List.getElem?_eq_none (by omega)]; rfl
  conv=>rhs; rw [← e]
  rw [List.all_map]; rfl
theorem truth_bools {prog:Program} {w:World} {A:Around} {bs:List Bool} {its:List Value} (r:Vals (bs.map V.bl) its):TruthOf prog w A (fun i v=>its.toArray[i]?=some v) (fun i=>bs.getD i false):=by
  intro i v s Q E hv hq
  have e:=bools_get r hv
  subst e
  exact wpAny_truthy_bool hq
theorem call_all:CallR X (.builtin "all") (fun xs H Q=>∃ (p:Addr) (bs:List Bool),xs=[.ref p]∧SqL X.K H p (bs.map V.bl)∧X.calm=true∧Q (.bl (bs.all id)) H):=by
  intro pins s σ H xs us Q I r h
  obtain ⟨p,bs,rfl,hp,hc,q⟩:=h
  obtain ⟨u,rfl,ru⟩:=vals1 r
  cases ru
  obtain ⟨its,rv,pl,hz⟩:=I.list hp
  have hl:=rv.length
  rw [List.length_map] at hl
  refine call_all_walk (wpAny_pyIter_list pl.isList ?_)
  have hlt:p < s.heap.objs.size:=by obtain ⟨o,ho,_⟩:=pl.isList; exact Heap.lt_size ho
  refine ⟨s.heap.objs.size,_,_,_,_,_,_,rfl,Walks.list (show X.A.in1.handled=none from I.ok.hd hc) s.heap.objs.size p (Nat.ne_of_lt hlt) its.toArray,⟨⟨_,Heap.get?_push_size _ rfl,rfl,rfl⟩,let ⟨o,ho,r⟩:=pl.isList; ⟨o,Heap.get?_push_of_some _ ho,r⟩⟩,truth_bools rv,fun h' tk k=>?_⟩
  refine ⟨.bl (bs.all id),H,I.kept (t':=tk) fun b o e=>k b o (fun z=>?_) (Heap.get?_push_of_some _ e),?_,q⟩
  · have:b=s.heap.objs.size:=by simpa using z
    exact absurd (this ▸ Heap.lt_size e) (Nat.lt_irrefl _)
  · show Value.bool _=Value.bool _
    rw [List.size_toArray,← hl,range_all (α:=Nat)]
end
section
variable {X:Cx}
end
end L2
namespace L2
open PySem PySem.Spec PyProof.Rows
structure DefOk (P:Program) (w:World) (K:PySem.W.Frag) (mg:Str→Option Value) (base:Heap) (k:Nat) (x:Str) (ps:List Str) (sp:Sp):Prop where
  ex:∃ (f:Addr) (fd:FuncData),FnOk P w K mg base CX0 k f fd ps sp∧mg x=some (.ref f)∧PySem.W.keepIn K (.ref f)=true∧Binds K fd ps []
section
variable {X:Cx} {k j:Nat} {x:Str} {ps:List Str} {sp:Sp} {p pos:Pos} {e:Expr} {es:List Expr} {t:TA}
theorem pe_fn (D:DefOk X.prog X.w X.K X.mg X.base k x ps sp) (hr:Room j X.A) (ha:PA X (e :: es) t) (hj:k≤j:=by decide) (hg:Gl X x:=by rfl) (hdb:(x == ("__debug__":Str))=false:=by decide)
    (he:starEach (e :: es) X.env=(false,eval e X.env) :: starEach es X.env:=by rfl) (hpl:(backTo pos (starEach es X.env)).any (·.1)=false:=by rfl):PE X (.Call (.Name x p) (e :: es) [] pos) (tCall sp [] E0 t):=by
  obtain ⟨f,fd,F,hm,hk,hb⟩:=D.ex
  exact pe_call F (hr.mono hj) hg hm hk hb .nil pass0 ha hdb he hpl
end
theorem lenOk {xs:List V} (n:Nat) (h:xs.length=n:=by rfl) (h2:n≤1000:=by decide):xs.length≤sizeLine:=by rw [h]; exact Nat.le_of_lt (small1000 h2)
theorem iteP {c:Bool} {A B:Prop} (h:c=true) (a:A):if c=true then A else B:=by rw [if_pos h]; exact a
theorem iteN {c:Bool} {A B:Prop} (h:c=false) (b:B):if c=true then A else B:=by rw [if_neg (by rw [h]; exact Bool.false_ne_true)]; exact b
theorem ite3 {c:Bool} {A B:Prop} (h1:c=true→A) (h2:c=false→B):if c=true then A else B:=by
  cases c with
  | true=>exact iteT (h1 rfl)
  | false=>exact iteF (h2 rfl)
theorem decI {i j:Int}:decide (V.int i=V.int j)=true↔i=j:=by
  rw [decide_eq_true_eq]
  exact ⟨fun h=>by injection h,fun h=>by rw [h]⟩
def SameX (p:Addr) (H H':Hp):Prop:=∀ b o,b≠p→H b=some o→H' b=some o
theorem SameX.refl {p:Addr} {H:Hp}:SameX p H H:=fun _ _ _ h=>h
theorem SameX.trans {p:Addr} {H H1 H2:Hp} (a:SameX p H H1) (b:SameX p H1 H2):SameX p H H2:=fun c o n h=>b c o n (a c o n h)
theorem SameX.upd {p:Addr} {H:Hp} {o:HO}:SameX p H (upd H p o):=fun b u n h=>by rw [upd_ne n]; exact h
theorem SameX.new {p l:Addr} {H:Hp} {o:HO} (h:H l=none):SameX p H (L2.upd H l o):=fun b u _ e=>by rw [upd_ne (ne_of_none e h)]; exact e
theorem Same.new {l:Addr} {H:Hp} {o:HO} (h:H l=none):Same H (L2.upd H l o):=fun b u e=>by rw [upd_ne (ne_of_none e h)]; exact e
def cW (acc:Addr) (n:Nat) (Pv:Nat→List V→St→Hp→Prop) (i m:Nat) (σ:St) (H:Hp):Prop:=i≤n∧m=n - i∧∃ xs,xs.length=i∧H acc=some (.lst xs)∧Pv i xs σ H
def cNx (acc:Addr) (n:Nat) (Pv:Nat→List V→St→Hp→Prop) (i:Nat) (σ:St) (v:V) (H:Hp):Prop:=∃ xs,H acc=some (.lst xs)∧xs.length < sizeLine∧∃ m',m' < n - i∧cW acc n Pv (i+1) m' σ (upd H acc (.lst (xs++[v])))
theorem cNx.mk {acc:Addr} {n:Nat} {Pv:Nat→List V→St→Hp→Prop} {i:Nat} {σ:St} {v:V} {H:Hp} {xs:List V} (hn:n≤sizeLine) (hi:i < n) (hl:xs.length=i) (ha:H acc=some (.lst xs)) (hp:Pv (i+1) (xs++[v]) σ (upd H acc (.lst (xs++[v])))) :
    cNx acc n Pv i σ v H:=⟨xs,ha,by omega,n - (i+1),by omega,hi,rfl,xs++[v],by rw [List.length_append,hl]; rfl,upd_same,hp⟩
theorem comp_list {K:PySem.W.Frag} {a:Addr} {ys:List V} {g:TG} {te:TE} {σ:St} {H1:Hp} {acc:Addr} {Qr:Hp→Prop} (Pv:Nat→List V→St→Hp→Prop) (h0:Pv 0 [] σ (upd H1 acc (.lst [])))
    (hq:∀ i xs σ H,i≤ys.length→H acc=some (.lst xs)→Pv i xs σ H→SqL K H a ys)
    (hs:∀ i x xs σ H,ys[i]?=some x→i < ys.length→xs.length=i→H acc=some (.lst xs)→Pv i xs σ H→g x σ H fun σ2 H2=>te σ2 H2 fun v H3=>cNx acc ys.length Pv i σ2 v H3)
    (hd:∀ xs σ H,xs.length=ys.length→H acc=some (.lst xs)→Pv ys.length xs σ H→Qr H) :
    ∃ W:Nat→Nat→St→Hp→Prop,(∃ m,W 0 m σ (upd H1 acc (.lst [])))∧∀ i m σ1 H2,W i m σ1 H2 →
      ((Itl K a).stop i H2∧Qr H2)∨((Itl K a).go i H2∧∀ x H3,(Itl K a).yld i H2 x H3→g x σ1 H3 fun σ4 H4=>te σ4 H4 fun v H5=>∃ xs,H5 acc=some (.lst xs)∧xs.length < sizeLine∧∃ m',m' < m∧W (i+1) m' σ4 (upd H5 acc (.lst (xs++[v])))):=by
  refine ⟨cW acc ys.length Pv,⟨ys.length,Nat.zero_le _,rfl,[],rfl,upd_same,h0⟩,?_⟩
  rintro i m σ1 H2 ⟨hi,rfl,xs,hl,ha,hp⟩
  have hsq:=hq i xs σ1 H2 hi ha hp
  rcases Nat.lt_or_ge i ys.length with h | h
  · refine .inr ⟨⟨ys,ys[i],hsq,List.getElem?_eq_getElem h⟩,?_⟩
    rintro x H3 ⟨rfl,hx⟩
    exact hs i x xs σ1 H3 (hx ys hsq) h hl ha hp
  · have e:i=ys.length:=Nat.le_antisymm hi h
    subst e
    exact .inl ⟨⟨ys,hsq,Nat.le_refl _⟩,hd xs σ1 H2 hl ha hp⟩
theorem comp_tup {K:PySem.W.Frag} {a:Addr} {ys:List V} {g:TG} {te:TE} {σ:St} {H1:Hp} {acc:Addr} {Qr:Hp→Prop} (Pv:Nat→List V→St→Hp→Prop) (h0:Pv 0 [] σ (upd H1 acc (.lst [])))
    (hq:∀ i xs σ H,i≤ys.length→H acc=some (.lst xs)→Pv i xs σ H→SqT K H a ys)
    (hs:∀ i x xs σ H,ys[i]?=some x→i < ys.length→xs.length=i→H acc=some (.lst xs)→Pv i xs σ H→g x σ H fun σ2 H2=>te σ2 H2 fun v H3=>cNx acc ys.length Pv i σ2 v H3)
    (hd:∀ xs σ H,xs.length=ys.length→H acc=some (.lst xs)→Pv ys.length xs σ H→Qr H) :
    ∃ W:Nat→Nat→St→Hp→Prop,(∃ m,W 0 m σ (upd H1 acc (.lst [])))∧∀ i m σ1 H2,W i m σ1 H2 →
      ((Itt K a).stop i H2∧Qr H2)∨((Itt K a).go i H2∧∀ x H3,(Itt K a).yld i H2 x H3→g x σ1 H3 fun σ4 H4=>te σ4 H4 fun v H5=>∃ xs,H5 acc=some (.lst xs)∧xs.length < sizeLine∧∃ m',m' < m∧W (i+1) m' σ4 (upd H5 acc (.lst (xs++[v])))):=by
  refine ⟨cW acc ys.length Pv,⟨ys.length,Nat.zero_le _,rfl,[],rfl,upd_same,h0⟩,?_⟩
  rintro i m σ1 H2 ⟨hi,rfl,xs,hl,ha,hp⟩
  have hsq:=hq i xs σ1 H2 hi ha hp
  rcases Nat.lt_or_ge i ys.length with h | h
  · refine .inr ⟨⟨ys,ys[i],hsq,List.getElem?_eq_getElem h⟩,?_⟩
    rintro x H3 ⟨rfl,hx⟩
    exact hs i x xs σ1 H3 (hx ys hsq) h hl ha hp
  · have e:i=ys.length:=Nat.le_antisymm hi h
    subst e
    exact .inl ⟨⟨ys,hsq,Nat.le_refl _⟩,hd xs σ1 H2 hl ha hp⟩
end L2
namespace L2
open PySem PySem.Spec PyProof.Rows PySem.W
section
variable {cmp:Nat→Nat→(Bool→Shared→Prop)→Shared→Prop} {key:Nat→Int} {N:Nat} {s:Shared}
def KP (key:Nat→Int) (p:Array Nat) (i:Nat):Int:=key (p.getD i 0)
def PermN (N:Nat) (p:Array Nat):Prop:=p.toList.Perm (List.range N)
theorem PermN.size {p:Array Nat} (h:PermN N p):p.size=N:=by
  have:=List.Perm.length_eq h
  rw [List.length_range] at this
  simpa using this
theorem PermN.lt {p:Array Nat} (h:PermN N p) {i:Nat} (hi:i < N):p.getD i 0 < N:=by
  have hs:=h.size
  have hi':i < p.size:=by omega
  have e:p.getD i 0=p[i]:=by simp [Array.getD,hi']
  rw [e]
  have hm:p[i]∈p.toList:=by simp
  exact List.mem_range.mp ((List.Perm.mem_iff h).mp hm)
theorem PermN.of {p q:Array Nat} (h:PermN N p) (hq:q.Perm p):PermN N q:=(Array.perm_iff_toList_perm.mp hq).trans h
def SrtK (key:Nat→Int) (p:Array Nat) (k:Nat):Prop:=∀ i j,i≤j→j < k→KP key p i≤KP key p j
def NinK (key:Nat→Int) (p:Array Nat) (k:Nat):Prop:=∀ i j,i≤j→j < k→KP key p j≤KP key p i
theorem KP_congr {p q:Array Nat} {i j:Nat} (h:p[i]?=q[j]?):KP key p i=KP key q j:=by
  unfold KP
  rw [Array.getD_eq_getD_getElem?,Array.getD_eq_getD_getElem?,h]
theorem KP_rev {p:Array Nat} {i j:Nat} (hj:j≤p.size) (k:Nat):KP key (kas_rev p i j) k=if i≤k∧k < j then KP key p (i+j - 1 - k) else KP key p k:=by
  have e:=getElem?_mirror_all (i:=i) hj k
  by_cases h:i≤k∧k < j
  · rw [if_pos h] at e ⊢; exact KP_congr e
  · rw [if_neg h] at e ⊢; exact KP_congr e
theorem KP_bubble {p:Array Nat} {src d:Nat} (hs:src < p.size) (hd:d≤src) (k:Nat) :
    KP key (bubble p src d) k=if k=src - d then KP key p src else if src - d < k∧k≤src then KP key p (k - 1) else KP key p k:=by
  have e:=getElem?_bubble hs d hd k
  by_cases h1:k=src - d
  · rw [if_pos h1] at e ⊢; exact KP_congr e
  · rw [if_neg h1] at e ⊢
    by_cases h2:src - d < k∧k≤src
    · rw [if_pos h2] at e ⊢; exact KP_congr e
    · rw [if_neg h2] at e ⊢; exact KP_congr e
theorem PermN.rev {p:Array Nat} (h:PermN N p) (i j:Nat):PermN N (kas_rev p i j):=h.of (mirror_perm _ _ _ _)
theorem PermN.bub {p:Array Nat} (h:PermN N p) (i j:Nat):PermN N (bubble p i j):=h.of (bubble_perm _ _ _)
theorem srt_ext {p:Array Nat} {n:Nat} (h:SrtK key p n) (hn:1≤n) (hc:KP key p (n - 1)≤KP key p n):SrtK key p (n+1):=fun i j hij hj=>by
  by_cases e:j=n
  · subst e
    by_cases e2:i=j
    · subst e2; exact Int.le_refl _
    · exact Int.le_trans (h i (j - 1) (by omega) (by omega)) hc
  · exact h i j hij (by omega)
theorem nin_ext {p:Array Nat} {n:Nat} (h:NinK key p n) (hn:1≤n) (hc:KP key p n≤KP key p (n - 1)):NinK key p (n+1):=fun i j hij hj=>by
  by_cases e:j=n
  · subst e
    by_cases e2:i=j
    · subst e2; exact Int.le_refl _
    · exact Int.le_trans hc (h i (j - 1) (by omega) (by omega))
  · exact h i j hij (by omega)
variable (hcmp:∀ i j (C:Bool→Shared→Prop),i < N→j < N→C (decide (key i < key j)) s→cmp i j C s)
include hcmp
theorem asc_ok {p:Array Nat} (hp:PermN N p) {G:Nat→Shared→Prop}:∀ (f n:Nat),1≤n→n+f≤N→SrtK key p n→(∀ m,n≤m→m≤n+f→SrtK key p m→(m < n+f→KP key p m < KP key p (m - 1))→G m s)→(kas_asc p f n).kasWp cmp G s
  | 0,n,h1,hn,hs,hG=>hG n (Nat.le_refl _) (by omega) hs (fun h=>absurd h (by omega))
  | f+1,n,h1,hn,hs,hG=>by
    show cmp _ _ _ s
    refine hcmp _ _ _ (hp.lt (by omega)) (hp.lt (by omega)) ?_
    by_cases h:key (p.getD n 0) < key (p.getD (n - 1) 0)
    · rw [decide_eq_true h]
      simp only [if_true]
      exact hG n (Nat.le_refl _) (by omega) hs fun _=>h
    · rw [decide_eq_false h]
      simp only [Bool.false_eq_true,if_false]
      exact asc_ok hp f (n+1) (by omega) (by omega) (srt_ext hs h1 (by unfold KP; omega)) fun m a b c d=>hG m (by omega) (by omega) c fun z=>d (by omega)
theorem tail3_ok {p:Array Nat} (hp:PermN N p) {n:Nat} (h1:1≤n) (hn:n≤N) (hs:NinK key p n) {G:Nat × Array Nat→Shared→Prop} (hG:∀ m q,1≤m→m≤N→PermN N q→SrtK key q m→G (m,q) s):(kas_tail3 n N p).kasWp cmp G s:=by
  unfold kas_tail3
  rw [KasT.kasWp_bind]
  have hz:=hp.size
  refine asc_ok hcmp (hp.rev 0 n) (N - n) n h1 (by omega) (fun i j hij hj=>?_) fun m a b c _=>hG m _ (by omega) (by omega) (hp.rev 0 n) c
  rw [KP_rev (by omega),KP_rev (by omega),if_pos (by omega),if_pos (by omega)]
  exact hs _ _ (by omega) (by omega)
theorem desc_ok {G:Array Nat × Nat × Nat→Shared→Prop}:∀ (f:Nat) (p:Array Nat) (n q:Nat),PermN N p→1≤n→n+f≤N→q < n→NinK key p n→(∀ i,n - 1 - q≤i→i < n→KP key p i=KP key p (n - 1)) →
    (∀ p' m r,PermN N p'→1≤m→m≤N→r < m→NinK key p' m→(∀ i,m - 1 - r≤i→i < m→KP key p' i=KP key p' (m - 1))→G (p',m,r) s)→(kas_desc f p n q).kasWp cmp G s
  | 0,p,n,q,hp,h1,hn,hq,hs,he,hG=>hG p n q hp h1 (by omega) hq hs he
  | f+1,p,n,q,hp,h1,hn,hq,hs,he,hG=>by
    have hz:=hp.size
    show cmp _ _ _ s
    refine hcmp _ _ _ (hp.lt (by omega)) (hp.lt (by omega)) ?_
    by_cases h:key (p.getD n 0) < key (p.getD (n - 1) 0)
    · rw [decide_eq_true h]
      simp only [if_true]
      have h':KP key p n < KP key p (n - 1):=h
      have key1:NinK key p (n+1):=nin_ext hs h1 (by omega)
      by_cases hq0:q > 0
      · rw [if_pos hq0]
        have same:∀ k,KP key (kas_rev p (n - (q+1)) n) k=KP key p k:=fun k=>by
          rw [KP_rev (by omega)]
          split
          · rw [he _ (by omega) (by omega),he k (by omega) (by omega)]
          · rfl
        refine desc_ok f _ (n+1) 0 (hp.rev _ _) (by omega) (by omega) (by omega) (fun i j hij hj=>?_) (fun i a b=>?_) hG
        · rw [same,same]; exact key1 i j hij hj
        · rw [show i=n+1 - 1 by omega]
      · rw [if_neg hq0]
        exact desc_ok f _ (n+1) 0 hp (by omega) (by omega) (by omega) key1 (fun i a b=>by rw [show i=n+1 - 1 by omega]) hG
    · rw [decide_eq_false h]
      simp only [Bool.false_eq_true,if_false]
      show cmp _ _ _ s
      refine hcmp _ _ _ (hp.lt (by omega)) (hp.lt (by omega)) ?_
      by_cases h2:key (p.getD (n - 1) 0) < key (p.getD n 0)
      · rw [decide_eq_true h2]
        simp only [if_true]
        exact hG p n q hp h1 (by omega) hq hs he
      · rw [decide_eq_false h2]
        simp only [Bool.false_eq_true,if_false]
        have e:KP key p n=KP key p (n - 1):=by unfold KP; omega
        refine desc_ok f p (n+1) (q+1) hp (by omega) (by omega) (by omega) (nin_ext hs h1 (by omega)) (fun i a b=>?_) hG
        by_cases hi:i=n
        · subst hi; rfl
        · rw [he i (by omega) (by omega),← e]; rfl
theorem descPart_ok {p:Array Nat} (hp:PermN N p) {n:Nat} (hn:n+1≤N) (hs:NinK key p (n+1)) {G:Nat × Array Nat→Shared→Prop} (hG:∀ m q,1≤m→m≤N→PermN N q→SrtK key q m→G (m,q) s):(kas_descPart n N p).kasWp cmp G s:=by
  unfold kas_descPart
  rw [KasT.kasWp_bind]
  refine desc_ok hcmp (N - (n+1)) p (n+1) 0 hp (by omega) (by omega) (by omega) hs (fun i a b=>by rw [show i=n+1 - 1 by omega]) fun p' m r hp' h1 hm hr hs' he=>?_
  dsimp only
  have hz:=hp'.size
  split
  · have same:∀ k,KP key (kas_rev p' (m - (r+1)) m) k=KP key p' k:=fun k=>by
      rw [KP_rev (by omega)]
      split
      · rw [he _ (by omega) (by omega),he k (by omega) (by omega)]
      · rfl
    exact tail3_ok hcmp (hp'.rev _ _) h1 hm (fun i j hij hj=>by rw [same,same]; exact hs' i j hij hj) hG
  · exact tail3_ok hcmp hp' h1 hm hs' hG
theorem count_ok {p:Array Nat} (hp:PermN N p) (h1:1≤N) {G:Nat × Array Nat→Shared→Prop} (hG:∀ m q,1≤m→m≤N→PermN N q→SrtK key q m→G (m,q) s):(kas_count N p).kasWp cmp G s:=by
  unfold kas_count
  rw [KasT.kasWp_bind]
  have hz:=hp.size
  refine asc_ok hcmp hp (N - 1) 1 (Nat.le_refl _) (by omega) (fun i j hij hj=>by rw [show i=j by omega]; exact Int.le_refl _) fun m a b c d=>?_
  split
  · exact hG m p a (by omega) hp c
  · rename_i hne
    have hm:m < N:=by
      have:m≠N:=fun e=>hne (by rw [e]; exact beq_self_eq_true _)
      omega
    have hd:=d (by omega)
    split
    · show cmp _ _ _ s
      refine hcmp _ _ _ (hp.lt (by omega)) (hp.lt (by omega)) ?_
      by_cases h:key (p.getD 0 0) < key (p.getD (m - 1) 0)
      · rw [decide_eq_true h]
        simp only [if_true]
        exact hG m p a (by omega) hp c
      · rw [decide_eq_false h]
        simp only [Bool.false_eq_true,if_false]
        have h':KP key p (m - 1)≤KP key p 0:=by unfold KP; omega
        have eqs:∀ i,i < m→KP key p i=KP key p 0:=fun i hi=>Int.le_antisymm (Int.le_trans (c i (m - 1) (by omega) (by omega)) h') (c 0 i (by omega) hi)
        have same:∀ k,KP key (kas_rev p 0 m) k=KP key p k:=fun k=>by
          rw [KP_rev (by omega)]
          split
          · rw [eqs _ (by omega),eqs k (by omega)]
          · rfl
        refine descPart_ok hcmp (hp.rev 0 m) (by omega) (nin_ext (fun i j hij hj=>?_) a ?_) hG
        · rw [same,same,eqs i (by omega),eqs j (by omega)]; exact Int.le_refl _
        · rw [same,same]; omega
    · have em:m=1:=by omega
      subst em
      exact descPart_ok hcmp hp (by omega) (nin_ext (fun i j hij hj=>by rw [show i=j by omega]; exact Int.le_refl _) (Nat.le_refl _) (by omega)) hG
theorem place_ok {p:Array Nat} (hp:PermN N p) {k:Nat} (hk:k < N) (hs:SrtK key p k) {G:Nat→Shared→Prop} (hG:∀ l,l≤k→(∀ i,i < l→KP key p i≤KP key p k)→(∀ i,l≤i→i < k→KP key p k < KP key p i)→G l s) :
    ∀ (f l r:Nat),r - l≤f→l≤r→r≤k→(∀ i,i < l→KP key p i≤KP key p k)→(∀ i,r≤i→i < k→KP key p k < KP key p i)→(kas_place p k f l r).kasWp cmp G s
  | 0,l,r,hf,hlr,hr,ha,hb=>hG l (by omega) ha fun i h1 h2=>hb i (by omega) h2
  | f+1,l,r,hf,hlr,hr,ha,hb=>by
    unfold kas_place
    split
    · exact hG l (by omega) ha fun i h1 h2=>hb i (by omega) h2
    · show cmp _ _ _ s
      refine hcmp _ _ _ (hp.lt hk) (hp.lt (by omega)) ?_
      by_cases h:key (p.getD k 0) < key (p.getD ((l+r) / 2) 0)
      · rw [decide_eq_true h]
        simp only [if_true]
        refine place_ok hp hk hs hG f l ((l+r) / 2) (by omega) (by omega) (by omega) ha fun i h1 h2=>?_
        exact Int.lt_of_lt_of_le h (hs _ i h1 h2)
      · rw [decide_eq_false h]
        simp only [Bool.false_eq_true,if_false]
        refine place_ok hp hk hs hG f ((l+r) / 2+1) r (by omega) (by omega) hr (fun i h1=>?_) hb
        have h2:=hs i ((l+r) / 2) (by omega) (by omega)
        have h3:KP key p ((l+r) / 2)≤KP key p k:=by unfold KP; omega
        omega
theorem bin_ok {G:Array Nat→Shared→Prop} (hG:∀ q,PermN N q→SrtK key q N→G q s):∀ (f:Nat) (p:Array Nat) (k:Nat),PermN N p→k+f=N→SrtK key p k→(kas_bin f p k).kasWp cmp G s
  | 0,p,k,hp,hk,hs=>hG p hp (by rw [← hk]; exact hs)
  | f+1,p,k,hp,hk,hs=>by
    unfold kas_bin
    rw [KasT.kasWp_bind]
    have hz:=hp.size
    refine place_ok hcmp hp (by omega) hs (fun l hl ha hb=>?_) k 0 k (by omega) (by omega) (Nat.le_refl _) (fun i h=>absurd h (by omega)) fun i h1 h2=>absurd h1 (by omega)
    refine bin_ok hG f _ (k+1) (hp.bub _ _) (by omega) fun i j hij hj=>?_
    rw [KP_bubble (by omega) (by omega),KP_bubble (by omega) (by omega),show k - (k - l)=l by omega]
    by_cases i1:i=l
    · rw [if_pos i1]
      by_cases j1:j=l
      · rw [if_pos j1]; exact Int.le_refl _
      · rw [if_neg j1,if_pos (by omega)]
        exact Int.le_of_lt (hb _ (by omega) (by omega))
    · rw [if_neg i1]
      by_cases i2:l < i∧i≤k
      · rw [if_pos i2,if_neg (by omega),if_pos (by omega)]
        exact hs _ _ (by omega) (by omega)
      · rw [if_neg i2]
        by_cases j1:j=l
        · rw [if_pos j1]; exact ha i (by omega)
        · rw [if_neg j1]
          by_cases j2:l < j∧j≤k
          · rw [if_pos j2]; exact hs _ _ (by omega) (by omega)
          · rw [if_neg j2]; exact hs _ _ hij (by omega)
theorem kas_sort_ok (h1:1≤N) {G:Array Nat→Shared→Prop} (hG:∀ q:Array Nat,PermN N q→(q.toList.map key).Pairwise (·≤·)→G q s):(kas_sort N).kasWp cmp G s:=by
  have p0:PermN N (List.toArray (List.range N)):=by show List.Perm _ _; simp
  have hG':∀ q,PermN N q→SrtK key q N→G q s:=fun q hq hs=>hG q hq (by
    have hz:=hq.size
    rw [List.pairwise_iff_getElem]
    intro i j hi hj hij
    have hi':i < q.size:=by simpa using hi
    have hj':j < q.size:=by simpa using hj
    have:=hs i j (by omega) (by omega)
    unfold KP at this
    rw [show q.getD i 0=q[i] by simp [Array.getD,hi'],show q.getD j 0=q[j] by simp [Array.getD,hj']] at this
    simpa using this)
  unfold kas_sort
  rw [KasT.kasWp_bind]
  refine count_ok hcmp p0 h1 fun m q hm1 hm2 hq hs=>?_
  dsimp only
  split
  · exact bin_ok hcmp hG' _ q _ hq (by omega) (by rw [show max m 1=m by omega]; exact hs)
  · exact hG' q hq (by rw [show N=m by omega]; exact hs)
end
end L2
namespace L2
open PySem PySem.Spec PyProof.Rows PySem.W
section
variable {prog:Program} {w:World} {A:Around} {E:Value→Shared→Prop} {s:Shared}
def midHeap (h:Heap) (a:Addr) (vs:List Value):Heap:=((h.update a (Obj.mapSeq fun _=>#[])).push (seqObj "tuple" vs.toArray 0)).push (seqObj "list" #[] 0)
theorem midHeap_keep {h:Heap} {a b:Addr} {vs:List Value} {o:Obj} (hb:b≠a) (e:h.get? b=some o):(midHeap h a vs).get? b=some o:=by
  unfold midHeap
  exact Heap.get?_push_of_some _ (Heap.get?_push_of_some _ (by rw [Heap.get?_update_ne _ _ _ _ hb]; exact e))
theorem pick_all (vs:List Value):(List.range vs.length).map (fun i=>vs.getD i Value.none)=vs:=by
  apply List.ext_getElem?
  intro i
  rw [List.getElem?_map]
  by_cases h:i < vs.length
  · rw [List.getElem?_range h,Option.map_some,List.getD_eq_getElem?_getD,List.getElem?_eq_getElem h]; rfl
  · rw [List.getElem?_eq_none (by simpa using h),List.getElem?_eq_none (by omega)]; rfl
theorem list_sort_treeT {a:Addr} {vs:List Value} {n:Nat} {P:PySem.Fin→Shared→Prop} {κ:SortKind} {key:Nat→Int} (ho:s.heap.get? a=some (seqObj "list" vs.toArray n)) (h64:vs.length < 64)
    (hK:∀ (Q:SortKind→Shared→Prop) (E:Value→Shared→Prop),2≤vs.length→Q κ { s with heap:=midHeap s.heap a vs }→wpAny (model prog w) A (keyKind' vs.toArray) Q E { s with heap:=midHeap s.heap a vs })
    (hL:∀ i j (C:Bool→Shared→Prop),i < vs.length→j < vs.length→C (decide (key i < key j)) { s with heap:=midHeap s.heap a vs } →
      wpAny (model prog w) A (keyLt' κ (vs.getD i Value.none) (vs.getD j Value.none)) C (fun _ _=>False) { s with heap:=midHeap s.heap a vs })
    (h:∀ q:Array Nat,PermN vs.length q→(q.toList.map key).Pairwise (·≤·)→P (.done (.ret .none)) { s with heap:=sortedHeap s.heap a vs (List.toArray (q.toList.map fun i=>vs.getD i Value.none)) }) :
    wpAny (model prog w) A (Builtin.«list.sort» ⟨[.ref a],[]⟩) P E s:=by
  rw [list_sort_plain]
  have ha:a < s.heap.objs.size:=Heap.lt_size ho
  refine wpAny_bind (listItems_at ho rfl ?_)
  refine wpAny_bind (listUpdate_at ho rfl ?_ (by rw [List.size_toArray,sizeLine_eq]; omega) (Nat.zero_le _))
  obtain ⟨e1,ho1⟩:∃ e1,(s.heap.update a (Obj.mapSeq fun _=>#[])).get? a=some (seqObj "list" #[] e1):=⟨_,get?_update_seq ho (fun _=>#[])⟩
  refine wpAny_bind (seqEpoch_at ho1 rfl ?_)
  refine wpAny_bind (wpAny_newTuple ?_ (by show vs.length≤_; rw [sizeLine_eq]; omega))
  refine wpAny_bind (wpAny_newList ?_ (Nat.zero_le _))
  refine wpAny_holding ?_
  have ho6:(midHeap s.heap a vs).get? a=some (seqObj "list" #[] e1):=by
    unfold midHeap
    rw [Heap.get?_push_ne _ _ _ (by rw [size_push',Heap.size_update]; exact Nat.ne_of_lt (Nat.lt_succ_of_lt ha)),Heap.get?_push_ne _ _ _ (by rw [Heap.size_update]; exact Nat.ne_of_lt ha)]
    exact ho1
  show wpAny (model prog w) A _ P E { s with heap:=midHeap s.heap a vs }
  dsimp only
  have hsz:vs.toArray.size=vs.length:=by simp
  by_cases h2:vs.toArray.size < 2
  · rw [if_pos h2,if_pos h2]
    refine wpAny_bind (wpAny_pure ?_)
    rw [StateT.run_pure]
    refine wpAny_bind (wpAny_pure ?_)
    dsimp only
    refine wpAny_bind (seqEpoch_at ho6 rfl ?_)
    refine wpAny_bind (listUpdate_at ho6 rfl ?_ (Nat.zero_le _) (by rw [Array.size_map]; show (pairsOf vs).size≤_; rw [pairsOf_size,sizeLine_eq]; omega))
    simp only [bne_self_eq_false,Bool.false_eq_true,if_false]
    have hh:=h (List.toArray (List.range vs.length)) (by show List.Perm _ _; simp) (by
      rw [hsz] at h2
      rcases (by omega:vs.length=0∨vs.length=1) with e | e <;> rw [e] <;> simp [List.range_succ])
    have e3:List.map (fun i=>vs.getD i Value.none) (List.range vs.length).toArray.toList=vs:=pick_all vs
    rw [e3] at hh
    have e2:(arrOf (SortSt.mk' general' (vs.toArray.zip vs.toArray) #[] 7 none)).map (·.2)=vs.toArray:=by
      show (vs.toArray.zip vs.toArray).map (·.2)=vs.toArray
      apply Array.ext'
      simp [List.map_snd_zip]
    refine wpAny_pure ?_
    rw [e2]
    exact hh
  · rw [if_neg h2,if_neg h2]
    have h2':2≤vs.length:=by omega
    refine wpAny_bind (hK _ _ h2' ?_)
    refine wpAny_bind (wpAny_mono (kat_run (ks:=vs) (vs:=vs) (Q:=fun st' s'=>s'={ s with heap:=midHeap s.heap a vs }∧∃ p:Array Nat,p.size=vs.length∧arrOf st'=p.map (kas_item (vs.toArray.zip vs.toArray))∧failedOf st'=none∧PermN vs.length p∧(p.toList.map key).Pairwise (·≤·))
      (G:=fun p s'=>s'={ s with heap:=midHeap s.heap a vs }∧PermN vs.length p∧(p.toList.map key).Pairwise (·≤·)) rfl h2' h64 (fun p st' s' a1 a2 a3 a4=>⟨a4.1,p,a1,a2,a3,a4.2⟩)
      (kas_sort_ok (fun i j C hi hj hC=>hL i j C hi hj hC) (by omega) fun q hq hp=>⟨rfl,hq,hp⟩)) ?_ fun _ _ e=>e)
    rintro ⟨⟨⟩,st'⟩ s' ⟨rfl,p,hp,har,hf,pp,ps⟩
    dsimp only
    have hout:=kat_snds rfl har
    have hsz2:(List.toArray (p.toList.map fun i=>vs.getD i Value.none)).size=vs.length:=by rw [List.size_toArray,List.length_map,Array.length_toList,hp]
    rw [hout]
    refine wpAny_bind (seqEpoch_at ho6 rfl ?_)
    refine wpAny_bind (listUpdate_at ho6 rfl ?_ (Nat.zero_le _) (Nat.le_trans (Nat.le_of_eq hsz2) (by rw [sizeLine_eq]; omega)))
    rw [hf]
    simp only [bne_self_eq_false,Bool.false_eq_true,if_false]
    exact wpAny_pure (h p pp ps)
theorem sortedT {l:Addr} {vs:List Value} {κ:SortKind} {key:Nat→Int} {Q:Value→Shared→Prop} (hl:s.heap.IsList l vs.toArray) (h64:vs.length < 64)
    (hK:∀ (h':Heap),(∀ b o,s.heap.get? b=some o→h'.get? b=some o)→∀ (A:Around) (Q:SortKind→Shared→Prop) (E:Value→Shared→Prop),2≤vs.length→Q κ { s with heap:=h' }→wpAny (model prog w) A (keyKind' vs.toArray) Q E { s with heap:=h' })
    (hL:∀ (h':Heap),(∀ b o,s.heap.get? b=some o→h'.get? b=some o)→∀ (A:Around) i j (C:Bool→Shared→Prop),i < vs.length→j < vs.length→C (decide (key i < key j)) { s with heap:=h' } →
      wpAny (model prog w) A (keyLt' κ (vs.getD i Value.none) (vs.getD j Value.none)) C (fun _ _=>False) { s with heap:=h' })
    (h:∀ q:Array Nat,PermN vs.length q→(q.toList.map key).Pairwise (·≤·)→Q (.ref (s.heap.objs.size+1)) { s with heap:=sortedAll s.heap vs (List.toArray (q.toList.map fun i=>vs.getD i Value.none)) }) :
    wpAny (model prog w) A (call (.builtin "sorted") [.ref l]) Q E s:=by
  refine Calls.call_function_entry kind_sorted plain_sorted entry_sorted (args_sorted1 _) ?_
  unfold Builtin.«sorted»
  refine wpAny_bind (m:=checkCount "sorted" 1 1 _) (wpAny_pure ?_)
  refine wpAny_bind (collect_list hl ?_ (by rw [sizeLine_eq]; omega))
  refine wpAny_bind (wpAny_newList ?_ (by rw [sizeLine_eq]; omega))
  have hsz:((s.heap.push (seqObj "list" #[] 0)).update s.heap.objs.size (Obj.mapSeq (·++vs.toArray))).objs.size=s.heap.objs.size+1:=by
    rw [Heap.size_update,size_push']
  have hoL:(((s.heap.push (seqObj "list" #[] 0)).update s.heap.objs.size (Obj.mapSeq (·++vs.toArray))).push (seqObj "list" vs.toArray 0)).get? (s.heap.objs.size+1)=some (seqObj "list" vs.toArray 0):=by
    rw [← hsz]; exact Heap.get?_push_size _ rfl
  have keep:∀ b o,s.heap.get? b=some o→(((s.heap.push (seqObj "list" #[] 0)).update s.heap.objs.size (Obj.mapSeq (·++vs.toArray))).push (seqObj "list" vs.toArray 0)).get? b=some o:=fun b o q=>by
    have hlt:b < s.heap.objs.size:=Heap.lt_size q
    rw [Heap.get?_push_ne _ _ _ (by rw [hsz]; exact Nat.ne_of_lt (Nat.lt_succ_of_lt hlt)),Heap.get?_update_ne _ _ _ _ (Nat.ne_of_lt hlt),Heap.get?_push_ne _ _ _ (Nat.ne_of_lt hlt)]
    exact q
  show wpAny _ _ _ _ _ { s with heap:=((s.heap.push (seqObj "list" #[] 0)).update s.heap.objs.size (Obj.mapSeq (·++vs.toArray))).push (seqObj "list" vs.toArray 0) }
  rw [hsz]
  have mid:∀ b o,s.heap.get? b=some o→(midHeap (((s.heap.push (seqObj "list" #[] 0)).update s.heap.objs.size (Obj.mapSeq (·++vs.toArray))).push (seqObj "list" vs.toArray 0)) (s.heap.objs.size+1) vs).get? b=some o:=fun b o q =>
    midHeap_keep (Nat.ne_of_lt (Nat.lt_succ_of_lt (Heap.lt_size q))) (keep b o q)
  refine wpAny_bind (wpAny_holding (wpAny_call_entry slot_list_sort ⟨_,hoL,rfl⟩ entry_list_sort (list_sort_treeT (κ:=κ) (key:=key) (s:={ s with heap:=((s.heap.push (seqObj "list" #[] 0)).update s.heap.objs.size (Obj.mapSeq (·++vs.toArray))).push (seqObj "list" vs.toArray 0) }) hoL h64 (fun Q E h2 hq=>hK _ mid _ Q E h2 hq) (fun i j C hi hj hc=>hL _ mid _ i j C hi hj hc) fun q a1 a2=>⟨_,rfl,?_⟩) (args_list_sort _)))
  exact wpAny_pure ⟨_,rfl,h q a1 a2⟩
theorem katLex_ints {fin:Bool} {Q:Bool→Shared→Prop} (hf:fin=false):∀ {vs ws:List Value} {ns ms:List Int} (i:Nat),IntsAre vs ns→IntsAre ws ms→ns.length=ms.length→Q (HT.lexLt ns ms) s→KatLex prog w A true fin Q (vs.zip ws) i s
  | _,_,_,_,i,.nil,.nil,_,hq=>by rw [HT.lexLt_nil_nil] at hq; rw [hf]; exact hq
  | _,_,_,_,i,.cons n t hn,.cons m u hm,hl,hq=>by
    rw [List.zip_cons_cons]
    rw [HT.lexLt_cons] at hq
    refine kat_cons (wpAny_eqBool_int (kat_go (fun e=>kat_yes ?_) fun e=>kat_no ?_))
    · have e':n=m:=by simpa using e
      rw [if_pos e'] at hq
      exact katLex_ints hf (i+1) hn hm (by simpa using hl) hq
    · have e':¬ n=m:=by simpa using e
      rw [if_neg e'] at hq
      by_cases hi:i=0
      · subst hi
        exact oneLt_int hq
      · have hb:(true && i == 0)=false:=by simp [hi]
        rw [hb]
        exact kat_one _ _ (lt_int hq)
end
section
variable {X:Cx}
theorem refs_vals:∀ {ts:List Addr} {its:List Value},Vals (ts.map V.ref) its→its=ts.map Value.ref
  | [],_,.nil=>rfl
  | a :: r,_,.cons h t=>by
    cases (show _=Value.ref a from h)
    rw [List.map_cons,refs_vals t]
theorem refs_vals':∀ (ts:List Addr),Vals (ts.map V.ref) (ts.map Value.ref)
  | []=>.nil
  | a :: r=>.cons rfl (refs_vals' r)
theorem katTups_of {h:Heap} {m:Nat}:∀ {ts:List (Addr × List Int)},(∀ t∈ts,t.2.length=m+1∧∃ items,IsTup h t.1 items∧IntsAre items.toList t.2)→∃ fs,KatTups h (ts.map fun t=>Value.ref t.1) fs∧fs.length=ts.length∧∀ v∈fs,∃ n tk,v=Value.int n tk
  | [],_=>⟨[],KatTups.nil,rfl,fun v hv=>nomatch hv⟩
  | t :: r,hh=>by
    obtain ⟨fs,h1,h2,h3⟩:=katTups_of (ts:=r) fun u hu=>hh u (List.mem_cons_of_mem _ hu)
    obtain ⟨hl,items,⟨o,ho,hc,n,hd⟩,hi⟩:=hh t List.mem_cons_self
    obtain ⟨x,tk,z,e⟩:∃ (n:Int) (tk:Tok) (zs:List Value),items.toList=Value.int n tk :: zs:=by
      generalize items.toList=vs at hi
      generalize t.2=ns at hi hl
      cases hi with
      | nil=>simp at hl
      | cons n tk hz=>exact ⟨n,tk,_,rfl⟩
    have hf:items[0]?=some (Value.int x tk):=by
      rw [← Array.getElem?_toList,e]; rfl
    exact ⟨_,KatTups.cons ho hc hd hf h1,by simp [h2],fun v hv=>by
      rcases List.mem_cons.mp hv with rfl | hv
      · exact ⟨x,tk,rfl⟩
      · exact h3 v hv⟩
theorem call_sortedT:CallR X (.builtin "sorted") (fun xs H Q=>∃ (p:Addr) (ts:List (Addr × List Int)) (m:Nat) (key:List Int→Int),xs=[.ref p]∧SqL X.K H p (ts.map fun t=>V.ref t.1)∧ts.length < 64 ∧
    (∀ t∈ts,t.2.length=m+1∧H t.1=some (.tup (t.2.map V.int)))∧(∀ t∈ts,∀ u∈ts,HT.lexLt t.2 u.2=decide (key t.2 < key u.2)) ∧
    ∀ l (ts':List (Addr × List Int)),H l=none→ts'.Perm ts→(ts'.map fun t=>key t.2).Pairwise (·≤·)→Q (.ref l) (upd H l (.lst (ts'.map fun t=>V.ref t.1)))):=by
  intro pins s σ H xs us Q I r h
  obtain ⟨p,ts,m,key,rfl,hp,h64,ht,hkey,q⟩:=h
  obtain ⟨u,rfl,ru⟩:=vals1 r
  cases ru
  obtain ⟨its,rv,pl,hz⟩:=I.list hp
  have hits:its=ts.map fun t=>Value.ref t.1:=by
    have:=refs_vals (ts:=ts.map (·.1)) (its:=its) (by rw [List.map_map]; exact rv)
    rw [this,List.map_map]; rfl
  have hlen:its.length=ts.length:=by rw [hits,List.length_map]
  have tup:∀ t∈ts,t.2.length=m+1∧∃ items,IsTup s.heap t.1 items∧IntsAre items.toList t.2:=fun t htm=>by
    obtain ⟨h1,h2⟩:=ht t htm
    obtain ⟨_,zs,rz,tz⟩:=(show ObjOk X.prog X.w H s.heap t.1 (.tup (t.2.map V.int)) from I.hok _ _ h2)
    exact ⟨h1,_,tz,by simpa using intsAre_of rz⟩
  have tupK:∀ (h':Heap),(∀ b o,s.heap.get? b=some o→h'.get? b=some o)→∀ t∈ts,t.2.length=m+1∧∃ items,IsTup h' t.1 items∧IntsAre items.toList t.2:=fun h' k t htm=>by
    obtain ⟨h1,items,⟨o,e,c⟩,h3⟩:=tup t htm
    exact ⟨h1,items,⟨o,k _ _ e,c⟩,h3⟩
  refine sortedT (κ:=tuples' true) (key:=fun i=>key ((ts.map (·.2)).getD i [])) pl.isList (by omega) (fun h' k A' Q' E' h2 hq=>?_) (fun h' k A' i j C hi hj hc=>?_) fun qq pq sq=>?_
  · obtain ⟨fs,f1,f2,f3⟩:=katTups_of (tupK h' k)
    rw [hits]
    refine kat_kind (s:={ s with heap:=h' }) (T:=Value.type "int") f1 (by omega) (fun v hv=>?_) (by decide) hq
    obtain ⟨n,tk,rfl⟩:=f3 v hv
    exact .now
  · have hi':i < ts.length:=by omega
    have hj':j < ts.length:=by omega
    obtain ⟨l1,x1,⟨o1,e1,c1,n1,d1⟩,z1⟩:=tupK h' k _ (List.getElem_mem hi')
    obtain ⟨l2,x2,⟨o2,e2,c2,n2,d2⟩,z2⟩:=tupK h' k _ (List.getElem_mem hj')
    have g1:its.getD i Value.none=Value.ref ts[i].1:=by rw [hits]; simp [List.getD,hi']
    have g2:its.getD j Value.none=Value.ref ts[j].1:=by rw [hits]; simp [List.getD,hj']
    have k1:(ts.map (·.2)).getD i []=ts[i].2:=by simp [List.getD,hi']
    have k2:(ts.map (·.2)).getD j []=ts[j].2:=by simp [List.getD,hj']
    simp only [k1,k2] at hc
    rw [← hkey _ (List.getElem_mem hi') _ (List.getElem_mem hj')] at hc
    rw [g1,g2]
    have s1:=z1.length
    have s2:=z2.length
    exact kat_lt (s:={ s with heap:=h' }) e1 d1 e2 d2 (katLex_ints (by rw [decide_eq_false]; simp at s1 s2; omega) 0 z1 z2 (by omega) hc)
  · obtain ⟨e,he⟩:=sortedAll_at s.heap its (List.toArray (qq.toList.map fun i=>its.getD i Value.none))
    have hn:H (s.heap.objs.size+1)=none:=I.hok.fresh (Nat.le_succ _)
    have pq':qq.toList.Perm (List.range ts.length):=by rw [← hlen]; exact pq
    have pick:ts.Perm (qq.toList.map fun i=>ts.getD i (0,[])):=by
      have:=(pq'.map fun i=>ts.getD i ((0:Addr),([]:List Int))).symm
      have e2:(List.range ts.length).map (fun i=>ts.getD i ((0:Addr),([]:List Int)))=ts:=by
        apply List.ext_getElem?
        intro i
        rw [List.getElem?_map]
        by_cases h:i < ts.length
        · rw [List.getElem?_range h,Option.map_some,List.getD_eq_getElem?_getD,List.getElem?_eq_getElem h]; rfl
        · rw [List.getElem?_eq_none (by simpa using h),List.getElem?_eq_none (by omega)]; rfl
      rw [e2] at this
      exact this
    have inR:∀ i∈qq.toList,i < ts.length:=fun i hi=>List.mem_range.mp (pq'.mem_iff.mp hi)
    have eV:qq.toList.map (fun i=>its.getD i Value.none)=(qq.toList.map fun i=>ts.getD i (0,[])).map fun t=>Value.ref t.1:=by
      rw [List.map_map]
      refine List.map_congr_left fun i hi=>?_
      have:=inR i hi
      rw [hits]; simp [List.getD,this]
    refine ⟨.ref (s.heap.objs.size+1),_,I.laid (o:=.lst ((qq.toList.map fun i=>ts.getD i (0,[])).map fun t=>V.ref t.1)) (t':=s.toks) (fun b o z=>sortedAll_old z) (Nat.le_succ _) ⟨?_,_,e,?_,he⟩,rfl,q _ _ hn pick.symm ?_⟩
    · rw [List.length_map,List.length_map,Array.length_toList,pq.size,sizeLine_eq]; omega
    · rw [eV]
      generalize (qq.toList.map fun i=>ts.getD i ((0:Addr),([]:List Int)))=zs
      have:=refs_vals' (zs.map (·.1))
      rw [List.map_map,List.map_map] at this
      exact this
    · rw [List.map_map]
      have e4:qq.toList.map ((fun t:Addr × List Int=>key t.2)∘fun i=>ts.getD i (0,[]))=qq.toList.map fun i=>key ((ts.map (·.2)).getD i []):=by
        refine List.map_congr_left fun i hi=>?_
        have:=inR i hi
        simp [List.getD,this]
      rw [e4]
      exact sq
end
end L2
namespace L2
open PySem PySem.Spec PyProof.Rows
section
variable {κ:Type} [DecidableEq κ]
def valV (kvs:List (κ × V)) (k:κ):Option V:=(kvs.find? fun kv=>decide (kv.1=k)).map (·.2)
def putK (kvs:List (κ × V)) (k:κ) (v:V):List (κ × V) :=
  if (kvs.any fun kv=>decide (kv.1=k))=true then kvs.map (fun kv=>if kv.1=k then (kv.1,v) else kv) else kvs++[(k,v)]
theorem valV_pos {p:κ × V} {r:List (κ × V)} {k:κ} (e:p.1=k):valV (p :: r) k=some p.2:=by simp [valV,List.find?_cons,e]
theorem valV_neg {p:κ × V} {r:List (κ × V)} {k:κ} (e:¬ p.1=k):valV (p :: r) k=valV r k:=by simp [valV,List.find?_cons,e]
theorem valV_any (k:κ):∀ kvs:List (κ × V),(kvs.any fun kv=>decide (kv.1=k))=(valV kvs k).isSome
  | []=>rfl
  | p :: r=>by
    rw [List.any_cons]
    by_cases e:p.1=k
    · simp only [valV_pos e,decide_eq_true e,Bool.true_or,Option.isSome_some]
    · rw [valV_neg e,decide_eq_false e,Bool.false_or]; exact valV_any k r
theorem valV_map (k j:κ) (y:V):∀ kvs:List (κ × V),valV (kvs.map fun kv=>if kv.1=k then (kv.1,y) else kv) j=(valV kvs j).map fun x=>if j=k then y else x
  | []=>rfl
  | p :: r=>by
    have ih:=valV_map k j y r
    rw [List.map_cons]
    by_cases h:p.1=k
    · rw [if_pos h]
      by_cases e:p.1=j
      · rw [valV_pos (p:=(p.1,y)) e,valV_pos e,Option.map_some,if_pos (e.symm.trans h)]
      · rw [valV_neg (p:=(p.1,y)) e,valV_neg e,ih]
    · rw [if_neg h]
      by_cases e:p.1=j
      · rw [valV_pos (p:=p) e,valV_pos e,Option.map_some,if_neg (fun z=>h (e.trans z))]
      · rw [valV_neg (p:=p) e,valV_neg e,ih]
theorem valV_snoc (k j:κ) (y:V):∀ kvs:List (κ × V),valV kvs k=none→valV (kvs++[(k,y)]) j=if j=k then some y else valV kvs j
  | [],_=>by
    by_cases e:k=j
    · rw [if_pos e.symm]; exact valV_pos (p:=(k,y)) e
    · rw [if_neg (fun z=>e z.symm)]; exact valV_neg (p:=(k,y)) e
  | p :: r,hn=>by
    rw [List.cons_append]
    have hk:¬ p.1=k:=fun z=>by rw [valV_pos z] at hn; cases hn
    rw [valV_neg hk] at hn
    have ih:=valV_snoc k j y r hn
    by_cases e:p.1=j
    · rw [valV_pos e,valV_pos e,if_neg (fun z=>hk (e.trans z))]
    · rw [valV_neg e,valV_neg e,ih]
theorem valV_put (kvs:List (κ × V)) (k j:κ) (y:V):valV (putK kvs k y) j=if j=k then some y else valV kvs j:=by
  unfold putK
  by_cases a:(kvs.any fun kv=>decide (kv.1=k))=true
  · rw [if_pos a,valV_map]
    rw [valV_any] at a
    by_cases e:j=k
    · obtain ⟨x,hx⟩:=Option.isSome_iff_exists.mp a
      rw [if_pos e,e,hx,Option.map_some,if_pos rfl]
    · rw [if_neg e]
      cases valV kvs j with
      | none=>rfl
      | some x=>rw [Option.map_some,if_neg e]
  · rw [if_neg a]
    refine valV_snoc k j y kvs ?_
    rw [valV_any] at a
    cases q:valV kvs k with
    | none=>rfl
    | some x=>rw [q] at a; exact (a rfl).elim
theorem length_putK (kvs:List (κ × V)) (k:κ) (v:V):(putK kvs k v).length≤kvs.length+1:=by
  unfold putK
  split
  · rw [List.length_map]; omega
  · rw [List.length_append,List.length_cons,List.length_nil]; omega
theorem putK_new {kvs:List (κ × V)} {k:κ} (v:V) (h:valV kvs k=none):putK kvs k v=kvs++[(k,v)]:=by
  unfold putK
  rw [valV_any,h]
  exact if_neg (by decide)
theorem RelO.isSome_eq {o:Option V} {u:Option Value} (r:RelO o u):o.isSome=u.isSome:=by
  cases o with
  | none=>cases u with
    | none=>rfl
    | some _=>exact (show False from r).elim
  | some _=>cases u with
    | none=>exact (show False from r).elim
    | some _=>rfl
theorem KV.val {kvs:List (κ × V)} {vs:List (κ × Value)} (r:KV kvs vs) (k:κ):RelO (valV kvs k) (valueAt vs k):=by
  unfold KV at r
  induction r with
  | nil=>exact True.intro
  | @cons p q ps qs h t ih =>
    obtain ⟨h1,h2⟩:=h
    by_cases e:p.1=k
    · have e':q.1=k:=h1.symm.trans e
      have b:valueAt (q :: qs) k=some q.2:=by simp [valueAt,List.find?_cons,e']
      rw [valV_pos e,b]; exact h2
    · have e':¬ q.1=k:=fun z=>e (h1.trans z)
      have b:valueAt (q :: qs) k=valueAt qs k:=by simp [valueAt,List.find?_cons,e']
      rw [valV_neg e,b]; exact ih
theorem KV.any {kvs:List (κ × V)} {vs:List (κ × Value)} (r:KV kvs vs) (k:κ):(kvs.any fun kv=>decide (kv.1=k))=vs.any fun kv=>decide (kv.1=k):=by
  unfold KV at r
  induction r with
  | nil=>rfl
  | cons h t ih=>rw [List.any_cons,List.any_cons,ih,h.1]
theorem KV.repl {kvs:List (κ × V)} {vs:List (κ × Value)} (r:KV kvs vs) (k:κ) {y:V} {u:Value} (ry:RelV y u) :
    KV (kvs.map fun kv=>if kv.1=k then (kv.1,y) else kv) (vs.map fun kv=>if kv.1=k then (kv.1,u) else kv):=by
  unfold KV at r ⊢
  induction r with
  | nil=>exact .nil
  | @cons p q ps qs h t ih =>
    rw [List.map_cons,List.map_cons]
    refine .cons ?_ ih
    obtain ⟨h1,h2⟩:=h
    by_cases e:p.1=k
    · rw [if_pos e,if_pos (h1.symm.trans e)]; exact ⟨h1,ry⟩
    · rw [if_neg e,if_neg (fun z=>e (h1.trans z))]; exact ⟨h1,h2⟩
theorem KV.put {kvs:List (κ × V)} {vs:List (κ × Value)} (r:KV kvs vs) (k:κ) {y:V} {u:Value} (ry:RelV y u):KV (putK kvs k y) (stored vs k u):=by
  unfold putK stored
  rw [r.any k]
  by_cases e:(vs.any fun kv=>decide (kv.1=k))=true
  · rw [if_pos e,if_pos e]; exact r.repl k ry
  · rw [if_neg e,if_neg e]; exact Paired.snoc r ⟨rfl,ry⟩
theorem KV.length {kvs:List (κ × V)} {vs:List (κ × Value)} (r:KV kvs vs):kvs.length=vs.length:=Paired.length r
end
theorem kV_is {P:Program} {w:World} {k:Key} {u:Value} (r:RelV (kV k) u):(mixKind P w).is k u=true:=by
  cases k with
  | inl i=>obtain ⟨t,e⟩:=(show ∃ t,u=Value.int i t from r); subst e; exact mixKind_int P w i t
  | inr x=>obtain ⟨t,e⟩:=(show ∃ t,u=Value.str x t from r); subst e; exact mixKind_str P w x t
theorem items_are {P:Program} {w:World}:∀ {ks:List Key} {us:List Value},Vals (ks.map kV) us→ItemsAre (mixKind P w) ks us
  | [],_,r=>by rw [List.map_nil] at r; cases r; exact .nil
  | k :: ks,_,r=>by
    rw [List.map_cons] at r
    cases r with
    | cons h t=>exact .cons (kV_is h) (items_are t)
abbrev KT (H:Hp):List (List Key × V)→List (List Key × Addr × Value)→Prop:=Paired fun p q=>p.1=q.1∧H q.2.1=some (.tup (p.1.map kV))∧RelV p.2 q.2.2
theorem KT.val {H:Hp} {kvs:List (List Key × V)} {xs:List (List Key × Addr × Value)} (r:KT H kvs xs) (k:List Key):RelO (valV kvs k) ((atKey xs k).map (·.2)):=by
  induction r with
  | nil=>exact True.intro
  | @cons p q ps qs h t ih =>
    obtain ⟨h1,_,h2⟩:=h
    by_cases e:p.1=k
    · have e':q.1=k:=h1.symm.trans e
      have b:atKey (q :: qs) k=some q.2:=by simp [atKey,List.find?_cons,e']
      rw [valV_pos e,b]; exact h2
    · have e':¬ q.1=k:=fun z=>e (h1.trans z)
      have b:atKey (q :: qs) k=atKey qs k:=by simp [atKey,List.find?_cons,e']
      rw [valV_neg e,b]; exact ih
theorem KT.repl {H:Hp} {kvs:List (List Key × V)} {xs:List (List Key × Addr × Value)} (r:KT H kvs xs) (k:List Key) {y:V} {u:Value} (ry:RelV y u) :
    KT H (kvs.map fun kv=>if kv.1=k then (kv.1,y) else kv) (xs.map (putAt k u)):=by
  induction r with
  | nil=>exact .nil
  | @cons p q ps qs h t ih =>
    rw [List.map_cons,List.map_cons]
    refine .cons ?_ ih
    obtain ⟨h1,h2,h3⟩:=h
    unfold putAt
    by_cases e:p.1=k
    · rw [if_pos e,if_pos (h1.symm.trans e)]; exact ⟨h1,h2,ry⟩
    · rw [if_neg e,if_neg (fun z=>e (h1.trans z))]; exact ⟨h1,h2,h3⟩
theorem KT.put {H:Hp} {kvs:List (List Key × V)} {xs:List (List Key × Addr × Value)} (r:KT H kvs xs) (k:List Key) {b:Addr} {y:V} {u:Value} (hb:H b=some (.tup (k.map kV))) (ry:RelV y u) :
    KT H (putK kvs k y) (storedH xs k b u):=by
  have e:(kvs.any fun kv=>decide (kv.1=k))=(atKey xs k).isSome:=by
    rw [valV_any,(r.val k).isSome_eq,Option.isSome_map]
  unfold putK storedH
  rw [e]
  by_cases q:(atKey xs k).isSome=true
  · rw [if_pos q,if_pos q]; exact r.repl k ry
  · rw [if_neg q,if_neg q]; exact Paired.snoc r ⟨rfl,hb,ry⟩
theorem KT.keeps {H H':Hp} {kvs:List (List Key × V)} {xs:List (List Key × Addr × Value)} (r:KT H kvs xs) (ht:∀ b ys,H b=some (.tup ys)→H' b=some (.tup ys)):KT H' kvs xs :=
  Paired.mapP r fun _ _ z=>⟨z.1,ht _ _ z.2.1,z.2.2⟩
section
variable {P:Program} {w:World} {H:Hp} {h:Heap} {a:Addr}
theorem rd_of {u:HO} (ok:HOk P w H h) (e:Rd H a u):ObjOk P w H h a u:=e.ok ok
theorem dk_rd {kvs:List (Key × V)} (ok:HOk P w H h) (e:Rd H a (.dK kvs)):kvs.length≤sizeLine∧(a == sysModules)=false∧∃ vs,KV kvs vs∧h.DictOf (mixKind P w) a vs :=
  show ObjOk P w H h a (.dK kvs) from rd_of ok e
theorem dk_of {kvs:List (Key × V)} (ok:HOk P w H h) (e:H a=some (.dK kvs)):kvs.length≤sizeLine∧(a == sysModules)=false∧∃ vs,KV kvs vs∧h.DictOf (mixKind P w) a vs:=dk_rd ok (.inl e)
theorem key_of {ks:List Key} (ok:HOk P w H h) (e:H a=some (.tup (ks.map kV))):(tupleKind (mixKind P w)).is h ks a:=by
  obtain ⟨_,its,r,o,h1,h2,n,h3⟩:=(show ObjOk P w H h a (.tup (ks.map kV)) from ok a _ e)
  exact ⟨o,its.toArray,n,h1,h2,h3,by simpa using items_are r⟩
theorem dt_rd {kvs:List (List Key × V)} (ok:HOk P w H h) (e:Rd H a (.dT kvs)):kvs.length≤sizeLine∧(a == sysModules)=false ∧
    ∃ xs,KT H kvs xs∧h.DictOfH (tupleKind (mixKind P w)) a xs:=by
  obtain ⟨z,y,xs,r,o,es,ep,h1,h2,h3,h4,h5⟩:=(show ObjOk P w H h a (.dT kvs) from rd_of ok e)
  refine ⟨z,y,xs,r,o,es,ep,h1,h2,h3,h4,fun x hx=>?_,h5⟩
  have all:∀ {l:List (List Key × V)} {m:List (List Key × Addr × Value)},KT H l m→∀ x∈m,(tupleKind (mixKind P w)).is h x.1 x.2.1:=by
    intro l m q
    induction q with
    | nil=>intro x hx; exact nomatch hx
    | @cons p q ps qs hq t ih =>
      intro x hx
      rcases List.mem_cons.mp hx with e | hx
      · subst e
        exact key_of ok (by rw [← hq.1]; exact hq.2.1)
      · exact ih x hx
  exact all r x hx
theorem dt_of {kvs:List (List Key × V)} (ok:HOk P w H h) (e:H a=some (.dT kvs)):kvs.length≤sizeLine∧(a == sysModules)=false ∧
    ∃ xs,KT H kvs xs∧h.DictOfH (tupleKind (mixKind P w)) a xs:=dt_rd ok (.inl e)
end
def DGet (H:Hp) (a:Addr) (y:V) (r:Option V):Prop :=
  (∃ kvs k,Rd H a (.dK kvs)∧y=kV k∧r=valV kvs k)∨∃ kvs k b,Rd H a (.dT kvs)∧y=.ref b∧H b=some (.tup (k.map kV))∧r=valV kvs k
def DPut (H:Hp) (a:Addr) (y v:V) (H':Hp):Prop :=
  (∃ kvs k,H a=some (.dK kvs)∧y=kV k∧kvs.length < sizeLine∧H'=upd H a (.dK (putK kvs k v))) ∨
  ∃ kvs k b,H a=some (.dT kvs)∧y=.ref b∧H b=some (.tup (k.map kV))∧kvs.length < sizeLine∧H'=upd H a (.dT (putK kvs k v))
theorem DGet.t {H:Hp} {a b:Addr} {kvs:List (List Key × V)} {k:List Key} (e:H a=some (.dT kvs)) (eb:H b=some (.tup (k.map kV))):DGet H a (.ref b) (valV kvs k):=.inr ⟨kvs,k,b,.inl e,rfl,eb,rfl⟩
theorem DPut.t {H:Hp} {a b:Addr} {kvs:List (List Key × V)} {k:List Key} {v:V} (e:H a=some (.dT kvs)) (eb:H b=some (.tup (k.map kV))) (hl:kvs.length < sizeLine) :
    DPut H a (.ref b) v (upd H a (.dT (putK kvs k v))):=.inr ⟨kvs,k,b,e,rfl,eb,hl,rfl⟩
section
variable {X:Cx} {pins:List (Addr × Obj)} {σ:St} {H:Hp} {s:Shared} {a:Addr} {y v:V} {u r:Value} {o:Option V} {A:Around} {E:Value→Shared→Prop}
theorem Inv.big (I:Inv X pins σ H s):sysModules < s.heap.objs.size:=by
  have h:mainGlobals < s.heap.objs.size:=(I.mod.glob.keeps I.bk).lt
  exact Nat.lt_trans (by decide) h
theorem d_getItem {Q:Value→Shared→Prop} (hu:A.units+1 < cLine) (I:Inv X pins σ H s) (g:DGet H a y (some v)) (ry:RelV y u) (h:∀ w' s',Inv X pins σ H s'→RelV v w'→Q w' s') :
    wpAny (model X.prog X.w) A (getItem (.ref a) u) Q E s:=by
  rcases g with ⟨kvs,k,e,ey,l⟩ | ⟨kvs,k,b,e,ey,eb,l⟩
  · subst ey
    obtain ⟨z,hd,vs,rel,dd⟩:=dk_rd I.hok e
    obtain ⟨w',hw,rw'⟩:=RelO.some_of (v:=v) (o:=valueAt vs k) (by rw [l]; exact rel.val k)
    exact wpAny_getItem_of (kV_is ry) dd.mapOf hw (h w' _ (I.tok _) rw')
  · subst ey
    cases (show u=Value.ref b from ry)
    obtain ⟨z,hd,xs,rel,dd⟩:=dt_rd I.hok e
    obtain ⟨w',hw,rw'⟩:=RelO.some_of (v:=v) (o:=(atKey xs k).map (·.2)) (by rw [l]; exact rel.val k)
    obtain ⟨p,hp,hp2⟩:=Option.map_eq_some_iff.mp hw
    refine wpAny_getItem_heap (tupleKind_room_in1 hu) (key_of I.hok eb) dd hp ?_
    rw [hp2]
    exact h w' _ (I.tok _) rw'
theorem d_in {Q:Value→Shared→Prop} (hu:A.units+1 < cLine) (I:Inv X pins σ H s) (g:DGet H a y o) (ry:RelV y u) (h:∀ s',Inv X pins σ H s'→Q (.bool o.isSome) s') :
    wpAny (model X.prog X.w) A (compareOp .In u (.ref a)) Q E s:=by
  rcases g with ⟨kvs,k,e,ey,l⟩ | ⟨kvs,k,b,e,ey,eb,l⟩
  · subst ey
    obtain ⟨z,hd,vs,rel,dd⟩:=dk_rd I.hok e
    refine wpAny_in_of (kV_is ry) hd dd.mapOf ?_
    rw [← (rel.val k).isSome_eq,← l]
    exact h _ (I.tok _)
  · subst ey
    cases (show u=Value.ref b from ry)
    obtain ⟨z,hd,xs,rel,dd⟩:=dt_rd I.hok e
    refine wpAny_in_heap (tupleKind_room_in1 hu) (key_of I.hok eb) hd dd ?_
    have q:=(rel.val k).isSome_eq
    rw [Option.isSome_map] at q
    rw [← q,← l]
    exact h _ (I.tok _)
theorem d_notIn {Q:Value→Shared→Prop} (hu:A.units+1 < cLine) (I:Inv X pins σ H s) (g:DGet H a y o) (ry:RelV y u) (h:∀ s',Inv X pins σ H s'→Q (.bool (!o.isSome)) s') :
    wpAny (model X.prog X.w) A (compareOp .NotIn u (.ref a)) Q E s:=by
  rcases g with ⟨kvs,k,e,ey,l⟩ | ⟨kvs,k,b,e,ey,eb,l⟩
  · subst ey
    obtain ⟨z,hd,vs,rel,dd⟩:=dk_rd I.hok e
    refine wpAny_notIn_of (kV_is ry) hd dd.mapOf ?_
    rw [← (rel.val k).isSome_eq,← l]
    exact h _ (I.tok _)
  · subst ey
    cases (show u=Value.ref b from ry)
    obtain ⟨z,hd,xs,rel,dd⟩:=dt_rd I.hok e
    refine wpAny_notIn_heap (tupleKind_room_in1 hu) (key_of I.hok eb) hd dd ?_
    have q:=(rel.val k).isSome_eq
    rw [Option.isSome_map] at q
    rw [← q,← l]
    exact h _ (I.tok _)
theorem d_write {h':Heap} {t':Nat} {ob:HO} (I:Inv X pins σ H s) (mu:Mut (H a)) (hs:Heap.SameBut a s.heap h') (he:∃ q,h'.get? a=some q) (new:ObjOk X.prog X.w (upd H a ob) h' a ob) :
    Inv X pins σ (upd H a ob) { s with heap:=h',toks:=t' } :=
  I.write (x:=a) (e:=a) mu (.inl rfl) (fun b q hb z=>(hs.2 b hb).trans z) he new
theorem dk_new {P:Program} {w:World} {H':Hp} {h':Heap} {kvs:List (Key × V)} {vs:List (Key × Value)} (z:kvs.length≤sizeLine) (hd:(a == sysModules)=false) (rel:KV kvs vs) (dd:h'.DictOf (mixKind P w) a vs) :
    ObjOk P w H' h' a (.dK kvs):=⟨z,hd,vs,rel,dd⟩
theorem d_setItem {H':Hp} {Q:Unit→Shared→Prop} (hu:A.units+1 < cLine) (I:Inv X pins σ H s) (g:DPut H a y v H') (ry:RelV y u) (rv:RelV v r) (h:∀ s',Inv X pins σ H' s'→Q () s') :
    wpAny (model X.prog X.w) A (setItem (.ref a) u r) Q E s:=by
  rcases g with ⟨kvs,k,e,ey,l,eH⟩ | ⟨kvs,k,b,e,ey,eb,l,eH⟩
  · subst ey eH
    obtain ⟨z,hd,vs,rel,dd⟩:=dk_of I.hok e
    have hz:vs.length≤sizeLine:=by rw [← rel.length]; exact z
    have hl:(putK kvs k v).length≤sizeLine:=by have:=length_putK kvs k v; omega
    refine wpAny_setItem_pairs (hsz:=hz) (kV_is ry) dd fun h' dd' hs=>h _ ?_
    have he:∃ q,h'.get? a=some q:=let ⟨q,_,_,hq,_⟩:=dd'; ⟨q,hq⟩
    exact d_write I (by rw [e]; exact True.intro) hs he (dk_new hl hd (rel.put k rv) dd')
  · subst ey eH
    cases (show u=Value.ref b from ry)
    obtain ⟨z,hd,xs,rel,dd⟩:=dt_of I.hok e
    have hz:xs.length≤sizeLine:=by rw [← Paired.length rel]; exact z
    have hl:(putK kvs k v).length≤sizeLine:=by have:=length_putK kvs k v; omega
    refine wpAny_setItem_heap (hsz:=hz) (tupleKind_room_in1 hu) (key_of I.hok eb) dd fun h' dd' hs=>h _ ?_
    obtain ⟨q,es,ep,hq,h2,h3,h4,_,h5⟩:=dd'
    refine d_write I (by rw [e]; exact True.intro) hs ⟨q,hq⟩ ⟨hl,hd,_,(rel.put k eb rv).keeps fun c ys ec=>?_,q,es,ep,hq,h2,h3,h4,h5⟩
    rw [upd_ne (ne_of ec e (fun z=>nomatch z))]
    exact ec
end
section
variable {X:Cx} {pins:List (Addr × Obj)} {σ:St} {H:Hp} {s:Shared} {a:Addr} {kvs:List (Key × V)} {k:Key} {u:Value} {A:Around} {E:Value→Shared→Prop}
end
def NoSl (i:Expr):Prop:=∀ ov iv,subscripted i false ov iv=operate [ov,iv] (getItem ov iv)
theorem subD_of {prog:Program} {w:World} {A:Around} {E:Value→Shared→Prop} {s:Shared} {env:Env} {value slice:Expr} {pos:Pos} {T id:String} {Q:Value→Shared→Prop}
    (hl:typeLookup (.type T) "__getitem__"=pure (some (.builtin id))) (hs:NoSl slice)
    (h:wpAny (model prog w) A (eval value env) (fun o s₁=>wpAny (model prog w) A (eval slice env) (fun i s₂=>s₂.TypeIs o T∧wpAny (model prog w) A (getItem o i) Q E s₂) E s₁) E s) :
    wpAny (model prog w) A (eval (.Subscript value slice pos) env) Q E s:=by
  refine Subscript_ (wpAny_mono h (fun o s₁ h₁=>wpAny_mono h₁ (fun i s₂ h₂=>?_) fun _ _ x=>x) fun _ _ x=>x)
  obtain ⟨hT,h₂⟩:=h₂
  unfold subscriptTail
  refine wpAny_bind ?_
  rw [getitemInPython_of_ne hT.not_modules]
  refine wpAny_bind (wpAny_specialOf hT hl ?_)
  have fin:wpAny (model prog w) A (subscripted slice false o i) (fun r s₃=>wpAny (model prog w) A (letTemporaryGo value o r >>= fun _=>pure r) Q E s₃) E s₂:=by
    rw [hs o i]
    exact wpAny_operating (wpAny_mono h₂ (fun r s₃ h₃=>wpAny_bind (wpAny_letTemporaryGo (wpAny_pure h₃))) fun _ _ x=>x)
  first
    | exact wpAny_pure (wpAny_bind fin)
    | exact wpAny_bind (wpAny_pure (wpAny_bind fin))
    | exact wpAny_bind fin
theorem dict_typeIs {X:Cx} {pins:List (Addr × Obj)} {σ:St} {H:Hp} {s:Shared} {a:Addr} {y:V} {o:Option V} (I:Inv X pins σ H s) (g:DGet H a y o):s.TypeIs (.ref a) "dict":=by
  rcases g with ⟨kvs,k,e,_,_⟩ | ⟨kvs,k,b,e,_,_,_⟩
  · obtain ⟨_,_,vs,_,dd⟩:=dk_rd I.hok e
    exact dd.typeIs
  · obtain ⟨_,_,xs,_,dd⟩:=dt_rd I.hok e
    exact dd.typeIs
def tDGet (td ty:TE):TE:=fun σ H Q=>td σ H fun x H1=>ty σ H1 fun y H2=>∃ a v,x=.ref a∧DGet H2 a y (some v)∧Q v H2
def tDIn (ty td:TE):TE:=fun σ H Q=>ty σ H fun y H1=>td σ H1 fun x H2=>∃ a o,x=.ref a∧DGet H2 a y o∧Q (.bl o.isSome) H2
def tDNotIn (ty td:TE):TE:=fun σ H Q=>ty σ H fun y H1=>td σ H1 fun x H2=>∃ a o,x=.ref a∧DGet H2 a y o∧Q (.bl (!o.isSome)) H2
def sDPut (td ty tv:TE):TS:=fun D σ H=>tv σ H fun v H1=>td σ H1 fun x H2=>ty σ H2 fun y H3=>∃ a H4,x=.ref a∧DPut H3 a y v H4∧D.nx σ H4
section
variable {X:Cx} {o i e value:Expr} {pos pos' tpos:Pos} {td ty tv:TE}
theorem pe_dget (hu:X.A.units+1 < cLine) (ho:PE X o td) (hi:PE X i ty) (hs:NoSl i):PE X (.Subscript o i pos) (tDGet td ty):=by
  intro pins s σ H Q I h
  refine subD_of PySem.F.slot_dict_getitem.lookup hs (thn (ho pins s σ H _ I h) fun u s1 ⟨x,H1,I1,rx,q1⟩=>thn (hi pins s1 σ H1 _ I1 q1) fun iv s2 ⟨y,H2,I2,ry,a,v,ex,g,q2⟩=>?_)
  subst ex
  obtain rfl:u=Value.ref a:=rx
  exact ⟨dict_typeIs I2 g,d_getItem hu I2 g ry fun w' s3 I3 rw'=>⟨v,H2,I3,rw',q2⟩⟩
theorem pc_din (hu:X.A.units+1 < cLine) (hi:PE X i ty) (ho:PE X o td):PC X .In i o (tDIn ty td):=by
  intro pins s σ H Q I h
  refine thn (hi pins s σ H _ I h) fun iv s1 ⟨y,H1,I1,ry,q1⟩=>thn (ho pins s1 σ H1 _ I1 q1) fun u s2 ⟨x,H2,I2,rx,a,ov,ex,g,q2⟩=>?_
  subst ex
  obtain rfl:u=Value.ref a:=rx
  exact d_in hu I2 g ry fun s3 I3=>⟨.bl ov.isSome,H2,I3,rfl,q2⟩
theorem pc_dnotin (hu:X.A.units+1 < cLine) (hi:PE X i ty) (ho:PE X o td):PC X .NotIn i o (tDNotIn ty td):=by
  intro pins s σ H Q I h
  refine thn (hi pins s σ H _ I h) fun iv s1 ⟨y,H1,I1,ry,q1⟩=>thn (ho pins s1 σ H1 _ I1 q1) fun u s2 ⟨x,H2,I2,rx,a,ov,ex,g,q2⟩=>?_
  subst ex
  obtain rfl:u=Value.ref a:=rx
  exact d_notIn hu I2 g ry fun s3 I3=>⟨.bl (!ov.isSome),H2,I3,rfl,q2⟩
theorem ps_dput (hu:X.A.units+1 < cLine) (ho:PE X o td) (hi:PE X i ty) (hv:PE X value tv) (hs:swapsWith value (some (.Subscript o i pos')) pos.line X.env=pure false) :
    PS X (.Assign [.Subscript o i pos'] value pos) (sDPut td ty tv):=by
  intro pins s σ H D I h
  refine wpAny_Assign_Subscript (thn (hv pins s σ H _ I h) fun r s1 ⟨v,H1,I1,rv,q1⟩=>thn (ho pins s1 σ H1 _ I1 q1) fun u s2 ⟨x,H2,I2,rx,q2⟩=>thn (hi pins s2 σ H2 _ I2 q2) fun iv s3 ⟨y,H3,I3,ry,a,H4,ex,g,q3⟩=>?_) hs
  subst ex
  obtain rfl:u=Value.ref a:=rx
  exact d_setItem hu I3 g ry rv fun s4 I4=>⟨σ,H4,I4,q3⟩
end
theorem dt_empty {P:Program} {w:World} {H:Hp} (h:Heap) (hb:sysModules < h.objs.size):ObjOk P w H (h.push { cls:=.type "dict",data:=.dict #[] }) h.objs.size (.dT []) :=
  ⟨Nat.zero_le _,beq_eq_false_iff_ne.mpr (Ne.symm (Nat.ne_of_lt hb)),[],.nil,_,#[],0,Heap.get?_push_size _ rfl,⟨rfl,rfl,rfl⟩,rfl,rfl,List.nodup_nil⟩
def tDNewT:TE:=fun _ H Q=>∀ p,H p=none→Q (.ref p) (upd H p (.dT []))
section
variable {X:Cx} {pos:Pos}
theorem pe_dnewT:PE X (.Dict [] [] pos) tDNewT:=fun pins s σ H Q I h =>
  wpAny_Dict_empty ⟨.ref s.heap.objs.size,_,I.laid (a:=s.heap.objs.size) (o:=.dT []) (t':=s.toks) (fun _ _ q=>Heap.get?_push_of_some _ q) (Nat.le_refl _) (dt_empty s.heap I.big),rfl,h _ (I.hok.fresh (Nat.le_refl _))⟩
end
def IsD (H:Hp) (a:Addr):Prop:=(∃ kvs,Rd H a (.dK kvs))∨∃ kvs,Rd H a (.dT kvs)
theorem isD_at {X:Cx} {pins:List (Addr × Obj)} {σ:St} {H:Hp} {s:Shared} {a:Addr} (I:Inv X pins σ H s) (d:IsD H a) :
    s.TypeIs (.ref a) "dict"∧(∀ b,Value.ref a=.ref b→∃ ob,s.heap.get? b=some ob∧ob.dict=none)∧(a == sysModules)=false:=by
  rcases d with ⟨kvs,e⟩ | ⟨kvs,e⟩
  · obtain ⟨_,hd,vs,_,dd⟩:=dk_rd I.hok e
    refine ⟨dd.typeIs,fun b q=>?_,hd⟩
    cases q
    obtain ⟨ob,_,_,h1,h2,_⟩:=dd
    exact ⟨ob,h1,h2.2.1⟩
  · obtain ⟨_,hd,xs,_,dd⟩:=dt_rd I.hok e
    refine ⟨dd.typeIs,fun b q=>?_,hd⟩
    cases q
    obtain ⟨ob,_,_,h1,h2,_⟩:=dd
    exact ⟨ob,h1,h2.2.1⟩
section
variable {X:Cx} {pins:List (Addr × Obj)} {σ:St} {H:Hp} {s:Shared} {a:Addr} {y d:V} {u r:Value} {o:Option V} {A:Around} {E:Value→Shared→Prop}
end
section
variable {X:Cx} {o e f:Expr} {apos cpos:Pos} {td ty tx:TE}
end
section
variable {X:Cx} {pins:List (Addr × Obj)} {σ:St} {H:Hp} {s:Shared} {a:Addr} {kvs:List (Key × V)} {A:Around} {E:Value→Shared→Prop}
end
section
variable {X:Cx} {pins:List (Addr × Obj)} {σ:St} {H:Hp} {s:Shared} {a:Addr} {y:V} {u:Value} {A:Around} {E:Value→Shared→Prop}
end
section
variable {κ:Type} [DecidableEq κ]
theorem valV_not {kvs:List (κ × V)} {k:κ} (h:valV kvs k=none):¬ k∈kvs.map (·.1):=by
  intro m
  obtain ⟨p,hp,e⟩:=List.mem_map.mp m
  have q:(kvs.any fun kv=>decide (kv.1=k))=true:=List.any_eq_true.mpr ⟨p,hp,decide_eq_true e⟩
  rw [valV_any,h] at q
  exact absurd q (by simp)
theorem valV_in {kvs:List (κ × V)} {k:κ} {v:V} (h:valV kvs k=some v):k∈kvs.map (·.1):=by
  have q:(kvs.any fun kv=>decide (kv.1=k))=true:=by
    rw [valV_any,h]
    all_goals rfl
  obtain ⟨p,hp,e⟩:=List.any_eq_true.mp q
  exact List.mem_map.mpr ⟨p,hp,of_decide_eq_true e⟩
end
section
variable {X:Cx}
end
end L2
namespace L2
open PySem PySem.Spec PyProof.Rows
def Ite (K:PySem.W.Frag) (a:Addr):It :=
  ⟨fun i H=>∃ xs x,SqL K H a xs∧xs[i]?=some x,fun i H y H'=>∃ t x,(∀ xs,SqL K H a xs→xs[i]?=some x)∧y=.ref t∧H t=none∧H'=upd H t (.tup [.int i,x]),fun i H=>∃ xs,SqL K H a xs∧xs.length≤i⟩
theorem enum_step {X:Cx} {pins:List (Addr × Obj)} {σ:St} {H:Hp} {s:Shared} {h':Heap} {e it:Addr} {t':Nat} {ys:List V} (I:Inv X pins σ H s) (fe:FpOk X pins H e) (fi:FpOk X pins H it)
    (k:∀ b o,b≠e→b≠it→s.heap.get? b=some o→h'.get? b=some o) (he:∃ o,h'.get? e=some o) (hi:∃ o,h'.get? it=some o)
    (new:ObjOk X.prog X.w (upd H s.heap.objs.size (.tup ys)) h' s.heap.objs.size (.tup ys)) :
    Inv X pins σ (upd H s.heap.objs.size (.tup ys)) { s with heap:=h',toks:=t' }:=by
  have hn:H s.heap.objs.size=none:=I.hok.fresh (Nat.le_refl _)
  obtain ⟨e0,e1,e2,e3,e4,e5⟩:=fe
  obtain ⟨i0,i1,i2,i3,i4,i5⟩:=fi
  have nt:∀ b u,H b=some u→b≠e∧b≠it:=fun b u q=>⟨fun z=>(by rw [z,e0] at q; cases q),fun z=>(by rw [z,i0] at q; cases q)⟩
  have nc:∀ b,b ∉ [e,it]→b≠e∧b≠it:=fun b hb=>⟨fun z=>hb (by simp [z]),fun z=>hb (by simp [z])⟩
  have ne:∀ b u,H b=some u→b≠s.heap.objs.size:=fun b u q=>ne_of_none q hn
  refine I.step (g':=s.gens) (d':=s.drawn) (ch:=[e,it]) (fun b hb=>?_) (fun b o _ _ hc q _=>k b o (nc b hc).1 (nc b hc).2 q) (fun b o _ _ hc q _=>⟨o.slots,k b o (nc b hc).1 (nc b hc).2 q⟩)
    (fun b o _ q n=>by rw [upd_ne (Nat.ne_of_lt (Heap.lt_size q))]; exact n) (fun b o hc q=>⟨o,k b o (nc b hc).1 (nc b hc).2 q⟩) (fun b xs q=>by rw [upd_ne (ne b _ q)]; exact q) (fun b o u q=>by rw [upd_ne (ne b _ q)]; exact q)
    (fun b ps q=>⟨#[],by rw [upd_ne (ne b _ q),q]; simp⟩) (fun m hm=>?_) (fun b u q=>?_) I.bare
  · rcases List.mem_cons.mp hb with rfl | hb
    · exact ⟨e3,e1,e4,e5⟩
    · rw [List.mem_singleton.mp hb]; exact ⟨i3,i1,i4,i5⟩
  · obtain ⟨o,es,ep,ho,r⟩:=hm
    exact ⟨o,es,ep,k _ o (Ne.symm e1) (Ne.symm i1) ho,r⟩
  · by_cases hb:b=s.heap.objs.size
    · subst hb; rw [upd_same] at q; cases q; exact new
    · rw [upd_ne hb] at q
      refine (I.hok b u q).stay (fun c v hc z=>k c v ?_ ?_ z) (fun c z=>by rw [upd_ne (ne c _ z)]; exact z) fun c xs z=>by rw [upd_ne (ne c _ z)]; exact z
      · rcases hc with rfl | hc
        · exact (nt c u q).1
        · exact (nt c _ hc).1
      · rcases hc with rfl | hc
        · exact (nt c u q).2
        · exact (nt c _ hc).2
theorem turn_enum {P:Program} {w:World} {K:PySem.W.Frag} {es:List Expr} {k:Nat} {pos:Pos} (a e it:Addr) (hei:e≠it) :
    Turn P w K (.Tuple es k pos) (Ite K a) [e,it] e (fun i h=>(∃ old,IsEnum h e it i old)∧h.IsListIter it a i) where
  mem:=by simp
  obj:=fun i h st b hb=>by
    obtain ⟨⟨old,he⟩,⟨o,eo,c,d⟩⟩:=st
    rcases List.mem_cons.mp hb with rfl | hb
    · exact ⟨_,he,fun v z=>by
        have z':Data.fields _=Data.cell v:=z
        cases z'⟩
    · rw [List.mem_singleton.mp hb]; exact ⟨o,eo,fun v z=>by rw [d] at z; cases z⟩
  keep:=fun i h h' st kk=>by
    obtain ⟨⟨old,he⟩,st⟩:=st
    exact ⟨⟨old,kk e (by simp) _ he⟩,st.at fun o z=>kk it (by simp) o z⟩
  item:=by
    intro X hP hw hK hc i pins s σ H E I hf st hg
    subst hP hw hK
    obtain ⟨⟨old,he⟩,st⟩:=st
    obtain ⟨xs,x,hq,hx⟩:=hg
    obtain ⟨its,rv,p,hz⟩:=I.list hq
    obtain ⟨u,hu,ru⟩:=rv.get hx
    have fe:=hf e (by simp)
    have fi:=hf it (by simp)
    refine wpAny_pyNext_enum_item he st p.isList (x:=u) (by simpa using hu) hei fun h' he' st' ht hz' kk=>?_
    refine ⟨_,rfl,?_⟩
    have ltE:e < s.heap.objs.size:=Heap.lt_size he
    have hn:H s.heap.objs.size=none:=I.hok.fresh (Nat.le_refl _)
    have I1:Inv X pins σ (upd H s.heap.objs.size (.tup [.int i,x])) { s with heap:=h',toks:=s.toks+1 }:=by
      refine enum_step I fe fi kk ⟨_,he'⟩ (let ⟨o,eo,_⟩:=st'; ⟨o,eo⟩) ⟨?_,[.int i s.toks,u],.cons ⟨_,rfl⟩ (.cons ru .nil),⟨_,ht,rfl,_,rfl⟩⟩
      show 2≤sizeLine
      decide
    refine wpAny_letOwnedTupleGo_enum (s:={ s with heap:=h',toks:=s.toks+1 }) he' fun h2 he2 sb=>?_
    have neE:e≠s.heap.objs.size:=Nat.ne_of_lt ltE
    have fe2:(upd H s.heap.objs.size (.tup [.int i,x])) e=none:=by rw [upd_ne neE]; exact fe.1
    have I2:Inv X pins σ (upd H s.heap.objs.size (.tup [.int i,x])) { ({ s with heap:=h',toks:=s.toks+1 }:Shared) with heap:=h2,toks:=s.toks+1 } :=
      I1.turned (t':=s.toks+1) (it:=e) (fun b o hb z=>(sb.2 b hb).trans z) fe2 fe.2.1 fe.2.2.2.1 fe.2.2.2.2.1 fe.2.2.2.2.2
    obtain ⟨oi,hoi,_⟩:=id st
    have ltI:it < s.heap.objs.size:=Heap.lt_size hoi
    refine ⟨.ref s.heap.objs.size,_,I2,rfl,⟨_,x,fun ys hy=>by rw [I.list_inj hy hq]; exact hx,rfl,hn,rfl⟩,⟨⟨u,?_⟩,?_⟩,fun b hb=>?_⟩
    · have e1:((i+1:Nat):Int)=(i:Int)+1:=by push_cast; rfl
      rw [e1]; exact he2
    · exact st'.at fun o z=>(sb.2 it (Ne.symm hei)).trans z
    · rcases List.mem_cons.mp hb with rfl | hb
      · exact fe2
      · rw [List.mem_singleton.mp hb,upd_ne (Nat.ne_of_lt ltI)]; exact fi.1
  done:=by
    intro X hP hw hK hc i pins s σ H E I hf st hg
    subst hP hw hK
    obtain ⟨⟨old,he⟩,st⟩:=st
    obtain ⟨xs,hq,hx⟩:=hg
    obtain ⟨its,rv,p,hz⟩:=I.list hq
    obtain ⟨f0,f1,f2,f3,f4,f5⟩:=hf it (by simp)
    have hl:=rv.length
    exact wpAny_pyNext_enum_end (I.ok.hd hc) he st p.isList (by simp; omega) fun h' eb=>⟨rfl,I.turned (t':=s.toks) (fun b o hb z=>eb b o hb z) f0 f1 f3 f4 f5⟩
  self:=fun _ _ _ _ _ st h=>by
    obtain ⟨⟨old,he⟩,_⟩:=st
    exact wpAny_pyIter_enum he h
def iEnum (K:PySem.W.Frag) (ta:TA):TI:=fun σ H R=>ta σ H fun vs H1=>∃ a,vs=[.ref a]∧(∃ xs,SqL K H1 a xs)∧R (Ite K a) H1
section
variable {X:Cx}
theorem pi_enum {a:Expr} {es:List Expr} {k:Nat} {tpos:Pos} {ta:TA} {p pos:Pos} (hg:Gl X "enumerate") (hm:X.mg "enumerate"=none) (ha:PA X [a] ta) (hs:starEach [a] X.env=[(false,eval a X.env)]:=by rfl) :
    PI X (.Tuple es k tpos) (.Call (.Name "enumerate" p) [a] [] pos) (iEnum X.K ta):=by
  intro pins s σ H R I h
  refine Call_ (ld_blt I hg hm boot_enumerate (PyProof.Rows.callWith_type1 (thn (ha pos pins s σ H _ I h) fun us s1 ⟨vs,H1,I1,r1,q1⟩=>?_) hs rfl))
  obtain ⟨b,e,⟨xs,hq⟩,q⟩:=q1
  subst e
  cases r1 with
  | cons r rr =>
    cases rr
    cases r
    obtain ⟨its,rv,pl,hz⟩:=I1.list hq
    refine call_enumerate_list pl.isList fun h' he hit hsz hk=>?_
    have I2:Inv X pins σ H1 { s1 with heap:=h' }:=I1.kept (t':=s1.toks) hk
    refine wpAny_pyIter_enum (s:={ s1 with heap:=h' }) he ?_
    refine ⟨s1.heap.objs.size+1,[s1.heap.objs.size+1,s1.heap.objs.size],_,_,H1,rfl,I2,turn_enum b _ _ (Nat.succ_ne_self _),⟨⟨_,he⟩,hit⟩,fun c hc=>?_,q⟩
    rcases List.mem_cons.mp hc with rfl | hc
    · exact I1.fpOk (Nat.le_succ _) (I1.hok.fresh (Nat.le_succ _))
    · rw [List.mem_singleton.mp hc]; exact I1.fpOk (Nat.le_refl _) (I1.hok.fresh (Nat.le_refl _))
end
theorem for_enum {K:PySem.W.Frag} {a:Addr} {xs:List V} {g:TG} {tb:TS} {D:Ends} {σ:St} {H:Hp} (Pv:Nat→St→Hp→Prop) (h0:Pv 0 σ H) (hl:∀ i σ H,i≤xs.length→Pv i σ H→SqL K H a xs)
    (hs:∀ i x σ H t,xs[i]?=some x→Pv i σ H→H t=none→g (.ref t) σ (upd H t (.tup [.int i,x])) fun σ2 H2=>tb { D with nx:=Pv (i+1),ct:=Pv (i+1),bk:=D.nx } σ2 H2) (hd:∀ σ H,Pv xs.length σ H→D.nx σ H) :
    ∃ W:Nat→Nat→St→Hp→Prop,(∃ m,W 0 m σ H)∧∀ i m σ H,W i m σ H →
      ((Ite K a).stop i H∧D.nx σ H)∨((Ite K a).go i H∧∃ N:St→Hp→Prop,(∀ σ' H',N σ' H'→∃ m',m' < m∧W (i+1) m' σ' H')∧∀ x H',(Ite K a).yld i H x H'→g x σ H' fun σ2 H2=>tb { D with nx:=N,ct:=N,bk:=D.nx } σ2 H2):=by
  refine ⟨fun i m σ H=>m=xs.length - i∧i≤xs.length∧Pv i σ H,⟨xs.length,by simp,Nat.zero_le _,h0⟩,?_⟩
  rintro i m σ H ⟨rfl,hi,p⟩
  have q:=hl i σ H hi p
  by_cases hlt:i < xs.length
  · refine .inr ⟨⟨xs,xs[i],q,by simp [hlt]⟩,Pv (i+1),fun σ' H' p'=>⟨xs.length - (i+1),by omega,rfl,hlt,p'⟩,fun x H' y=>?_⟩
    obtain ⟨t,z,hz,rfl,ht,rfl⟩:=y
    exact hs i z σ H t (hz xs q) p ht
  · have e:i=xs.length:=by omega
    subst e
    exact .inl ⟨⟨xs,q,Nat.le_refl _⟩,hd σ H p⟩
end L2
namespace L2
open PySem PySem.Spec PyProof.Rows PySem.SeqAt
mutual
inductive D where
  | at (v:V)
  | tup (xs:Ds)
  | lst (xs:Ds)
inductive Ds where
  | nil
  | cons (d:D) (r:Ds)
end
mutual
def DIs (K:PySem.W.Frag) (H:Hp):D→V→Prop
  | .at u,v=>v=u∧flatV u=true
  | .tup ds,v=>∃ a xs,v=.ref a∧SqT K H a xs∧DIss K H ds xs
  | .lst ds,v=>∃ a xs,v=.ref a∧SqL K H a xs∧DIss K H ds xs
def DIss (K:PySem.W.Frag) (H:Hp):Ds→List V→Prop
  | .nil,xs=>xs=[]
  | .cons d r,xs=>∃ x ys,xs=x :: ys∧DIs K H d x∧DIss K H r ys
end
mutual
def dep:D→Nat
  | .at _=>0
  | .tup ds=>deps ds+1
  | .lst ds=>deps ds+1
def deps:Ds→Nat
  | .nil=>0
  | .cons d r=>max (dep d) (deps r)
end
mutual
def deq:D→D→Bool
  | .at u,.at v=>eqV u v
  | .tup xs,.tup ys=>deqs xs ys
  | .lst xs,.lst ys=>deqs xs ys
  | _,_=>false
def deqs:Ds→Ds→Bool
  | .nil,.nil=>true
  | .cons d r,.cons e q=>deq d e && deqs r q
  | _,_=>false
end
def Ds.len:Ds→Nat
  | .nil=>0
  | .cons _ r=>r.len+1
def Ds.get:Ds→Nat→D
  | .nil,_=>.at .non
  | .cons d _,0=>d
  | .cons _ r,i+1=>r.get i
theorem deqs_all:∀ (ds es:Ds),((List.range (min ds.len es.len)).all (fun j=>deq (ds.get j) (es.get j)) && ds.len == es.len)=deqs ds es
  | .nil,.nil=>rfl
  | .nil,.cons e q=>by simp [Ds.len,deqs]
  | .cons d r,.nil=>by simp [Ds.len,deqs]
  | .cons d r,.cons e q=>by
    have ih:=deqs_all r q
    rw [show deqs (.cons d r) (.cons e q)=(deq d e && deqs r q) from by rw [deqs],← ih]
    show ((List.range (min (r.len+1) (q.len+1))).all _ && (r.len+1 == q.len+1))=_
    rw [show min (r.len+1) (q.len+1)=min r.len q.len+1 by omega,List.range_succ_eq_map,List.all_cons,List.all_map,Bool.and_assoc]
    congr 1
    rw [show (r.len+1 == q.len+1)=(r.len == q.len) by simp]
    rfl
mutual
theorem deq_refl:∀ {K:PySem.W.Frag} {H:Hp} (d:D) {v:V},DIs K H d v→deq d d=true
  | _,_,.at u,v,h=>by
    obtain ⟨_,hf⟩:=(show v=u∧flatV u=true by simpa [DIs] using h)
    rw [deq]
    cases u <;> simp_all [flatV,eqV]
  | _,_,.tup ds,v,h=>by
    rw [DIs] at h
    obtain ⟨a,xs,_,_,q⟩:=h
    rw [deq]; exact deqs_refl ds q
  | _,_,.lst ds,v,h=>by
    rw [DIs] at h
    obtain ⟨a,xs,_,_,q⟩:=h
    rw [deq]; exact deqs_refl ds q
theorem deqs_refl:∀ {K:PySem.W.Frag} {H:Hp} (ds:Ds) {xs:List V},DIss K H ds xs→deqs ds ds=true
  | _,_,.nil,_,_=>by rw [deqs]
  | _,_,.cons d r,xs,h=>by
    rw [DIss] at h
    obtain ⟨x,ys,_,h1,h2⟩:=h
    rw [deqs,deq_refl d h1,deqs_refl r h2]; rfl
end
theorem DIss.len {K:PySem.W.Frag} {H:Hp}:∀ {ds:Ds} {xs:List V},DIss K H ds xs→ds.len=xs.length
  | .nil,xs,h=>by rw [DIss] at h; rw [h]; rfl
  | .cons d r,xs,h=>by
    rw [DIss] at h
    obtain ⟨x,ys,rfl,_,h2⟩:=h
    show r.len+1=ys.length+1
    rw [DIss.len h2]
theorem DIss.get {K:PySem.W.Frag} {H:Hp}:∀ {ds:Ds} {xs:List V} {i:Nat} {x:V},DIss K H ds xs→xs[i]?=some x→DIs K H (ds.get i) x
  | .nil,xs,i,x,h,e=>by rw [DIss] at h; rw [h] at e; simp at e
  | .cons d r,xs,i,x,h,e=>by
    rw [DIss] at h
    obtain ⟨y,ys,rfl,h1,h2⟩:=h
    cases i with
    | zero=>simp at e; subst e; exact h1
    | succ i =>
      show DIs K H (r.get i) x
      exact DIss.get h2 (by simpa using e)
theorem dep_get:∀ (ds:Ds) (i:Nat),i < ds.len→dep (ds.get i)≤deps ds
  | .nil,i,h=>absurd h (by simp [Ds.len])
  | .cons d r,0,_=>by show dep d≤_; rw [deps]; omega
  | .cons d r,i+1,h=>by
    have:=dep_get r i (by simpa [Ds.len] using h)
    show dep (r.get i)≤_
    rw [deps]; omega
section
variable {X:Cx} {pins:List (Addr × Obj)} {σ:St} {H:Hp} {s:Shared}
mutual
theorem DIs.inj (I:Inv X pins σ H s):∀ {d e:D} {v:V},DIs X.K H d v→DIs X.K H e v→d=e
  | .at u,.at w',v,h,h'=>by
    rw [DIs] at h
    rw [DIs] at h'
    rw [← h.1,← h'.1]
  | .at u,.tup ds,v,h,h'=>by
    rw [DIs] at h
    rw [DIs] at h'
    obtain ⟨a,xs,e,_⟩:=h'
    have:=h.2
    rw [← h.1,e] at this
    cases this
  | .at u,.lst ds,v,h,h'=>by
    rw [DIs] at h
    rw [DIs] at h'
    obtain ⟨a,xs,e,_⟩:=h'
    have:=h.2
    rw [← h.1,e] at this
    cases this
  | .tup ds,.at u,v,h',h=>by
    rw [DIs] at h
    rw [DIs] at h'
    obtain ⟨a,xs,e,_⟩:=h'
    have:=h.2
    rw [← h.1,e] at this
    cases this
  | .lst ds,.at u,v,h',h=>by
    rw [DIs] at h
    rw [DIs] at h'
    obtain ⟨a,xs,e,_⟩:=h'
    have:=h.2
    rw [← h.1,e] at this
    cases this
  | .tup ds,.tup es,v,h,h'=>by
    rw [DIs] at h
    rw [DIs] at h'
    obtain ⟨a,xs,rfl,h1,h2⟩:=h
    obtain ⟨b,ys,e,k1,k2⟩:=h'
    cases e
    have e:=I.tuple_inj h1 k1
    subst e
    rw [DIss.inj I h2 k2]
  | .lst ds,.lst es,v,h,h'=>by
    rw [DIs] at h
    rw [DIs] at h'
    obtain ⟨a,xs,rfl,h1,h2⟩:=h
    obtain ⟨b,ys,e,k1,k2⟩:=h'
    cases e
    have e:=I.list_inj h1 k1
    subst e
    rw [DIss.inj I h2 k2]
  | .tup ds,.lst es,v,h,h'=>by
    rw [DIs] at h
    rw [DIs] at h'
    obtain ⟨a,xs,rfl,h1,h2⟩:=h
    obtain ⟨b,ys,e,k1,k2⟩:=h'
    cases e
    obtain ⟨_,_,t1,_⟩:=I.tuple h1
    obtain ⟨_,_,t2,_⟩:=I.list k1
    exact absurd rfl (ne_of_list_tuple t2.isList (show s.heap.IsTuple a _ from t1))
  | .lst ds,.tup es,v,h,h'=>by
    rw [DIs] at h
    rw [DIs] at h'
    obtain ⟨a,xs,rfl,h1,h2⟩:=h
    obtain ⟨b,ys,e,k1,k2⟩:=h'
    cases e
    obtain ⟨_,_,t1,_⟩:=I.tuple k1
    obtain ⟨_,_,t2,_⟩:=I.list h1
    exact absurd rfl (ne_of_list_tuple t2.isList (show s.heap.IsTuple a _ from t1))
theorem DIss.inj (I:Inv X pins σ H s):∀ {ds es:Ds} {xs:List V},DIss X.K H ds xs→DIss X.K H es xs→ds=es
  | .nil,.nil,xs,h,h'=>rfl
  | .nil,.cons d r,xs,h,h'=>by
    rw [DIss] at h
    rw [DIss] at h'
    obtain ⟨x,ys,e,_⟩:=h'
    rw [h] at e; cases e
  | .cons d r,.nil,xs,h',h=>by
    rw [DIss] at h
    rw [DIss] at h'
    obtain ⟨x,ys,e,_⟩:=h'
    rw [h] at e; cases e
  | .cons d r,.cons e q,xs,h,h'=>by
    rw [DIss] at h
    rw [DIss] at h'
    obtain ⟨x,ys,rfl,h1,h2⟩:=h
    obtain ⟨y,zs,e',k1,k2⟩:=h'
    cases e'
    rw [DIs.inj I h1 k1,DIss.inj I h2 k2]
end
theorem flat_tup {A:Around} {u:V} {x:Value} {l:Addr} {items:Array Value} (r:RelV u x) (f:flatV u=true) (hl:s.heap.IsTuple l items) (hu:A.units < cLine):EqAt A s x (.ref l) false∧EqAt A s (.ref l) x false:=by
  cases u with
  | non=>cases r; exact ⟨.none_tuple hl hu,.tuple_none hl hu⟩
  | bl b=>cases r; exact ⟨.bool_tuple b hl hu,.tuple_bool b hl hu⟩
  | int b=>obtain ⟨t,rfl⟩:=r; exact ⟨.int_tuple b t hl hu,.tuple_int b t hl hu⟩
  | str b=>obtain ⟨t,rfl⟩:=r; exact ⟨.str_tuple b t hl hu,.tuple_str b t hl hu⟩
  | _=>exact absurd (show false=true from f) Bool.false_ne_true
theorem flat_lst {A:Around} {u:V} {x:Value} {l:Addr} {items:Array Value} (r:RelV u x) (f:flatV u=true) (hl:s.heap.IsList l items) (hu:A.units < cLine):EqAt A s x (.ref l) false∧EqAt A s (.ref l) x false:=by
  cases u with
  | non=>cases r; exact ⟨.none_list hl hu,.list_none hl hu⟩
  | bl b=>cases r; exact ⟨.bool_list b hl hu,.list_bool b hl hu⟩
  | int b=>obtain ⟨t,rfl⟩:=r; exact ⟨.int_list b t hl hu,.list_int b t hl hu⟩
  | str b=>obtain ⟨t,rfl⟩:=r; exact ⟨.str_list b t hl hu,.list_str b t hl hu⟩
  | _=>exact absurd (show false=true from f) Bool.false_ne_true
theorem eqAt_D (I:Inv X pins σ H s):∀ (n:Nat) (A:Around) (d e:D) (x y:V) (u v:Value),dep d≤n→DIs X.K H d x→DIs X.K H e y→RelV x u→RelV y v→A.units+n < cLine→EqAt A s u v (deq d e):=by
  intro n
  induction n with
  | zero =>
    intro A d e x y u v hn hd he rx ry hu
    cases d with
    | tup ds=>rw [dep] at hn; omega
    | lst ds=>rw [dep] at hn; omega
    | «at» p =>
      rw [DIs] at hd
      obtain ⟨rfl,hf⟩:=hd
      cases e with
      | «at» q =>
        rw [DIs] at he
        obtain ⟨rfl,hg⟩:=he
        rw [deq]; exact eqAt_V rx ry hf hg
      | tup es =>
        rw [DIs] at he
        obtain ⟨b,ys,rfl,h1,_⟩:=he
        obtain ⟨_,_,t,_⟩:=I.tuple h1
        cases ry
        rw [deq]
        · exact (flat_tup rx hf (show s.heap.IsTuple b _ from t) hu).1
        all_goals (intros; simp_all)
      | lst es =>
        rw [DIs] at he
        obtain ⟨b,ys,rfl,h1,_⟩:=he
        obtain ⟨_,_,t,_⟩:=I.list h1
        cases ry
        rw [deq]
        · exact (flat_lst rx hf t.isList hu).1
        all_goals (intros; simp_all)
  | succ n ih =>
    intro A d e x y u v hn hd he rx ry hu
    have hu1:A.in1.units+n < cLine:=by show A.units+1+n < cLine; omega
    cases d with
    | «at» p =>
      rw [DIs] at hd
      obtain ⟨rfl,hf⟩:=hd
      cases e with
      | «at» q =>
        rw [DIs] at he
        obtain ⟨rfl,hg⟩:=he
        rw [deq]; exact eqAt_V rx ry hf hg
      | tup es =>
        rw [DIs] at he
        obtain ⟨b,ys,rfl,h1,_⟩:=he
        obtain ⟨_,_,t,_⟩:=I.tuple h1
        cases ry
        rw [deq]
        · exact (flat_tup rx hf (show s.heap.IsTuple b _ from t) (by omega)).1
        all_goals (intros; simp_all)
      | lst es =>
        rw [DIs] at he
        obtain ⟨b,ys,rfl,h1,_⟩:=he
        obtain ⟨_,_,t,_⟩:=I.list h1
        cases ry
        rw [deq]
        · exact (flat_lst rx hf t.isList (by omega)).1
        all_goals (intros; simp_all)
    | tup ds =>
      have hd0:=hd
      rw [dep] at hn
      rw [DIs] at hd
      obtain ⟨a,xs,rfl,h1,h2⟩:=hd
      obtain ⟨i1,r1,t1,_⟩:=I.tuple h1
      cases rx
      cases e with
      | «at» q =>
        rw [DIs] at he
        obtain ⟨rfl,hg⟩:=he
        rw [deq]
        · exact (flat_tup ry hg (show s.heap.IsTuple a _ from t1) (by omega)).2
        all_goals (intros; simp_all)
      | lst es =>
        rw [DIs] at he
        obtain ⟨b,ys,rfl,k1,_⟩:=he
        obtain ⟨_,_,t2,_⟩:=I.list k1
        cases ry
        rw [deq]
        · exact EqAt.tuple_list (show s.heap.IsTuple a _ from t1) t2.isList (by omega)
        all_goals (intros; simp_all)
      | tup es =>
        have he0:=he
        rw [DIs] at he
        obtain ⟨b,ys,rfl,k1,k2⟩:=he
        obtain ⟨i2,r2,t2,_⟩:=I.tuple k1
        cases ry
        by_cases hab:a=b
        · subst hab
          rw [DIs.inj I he0 hd0,deq_refl _ hd0]
          exact EqAt.same _
        · refine EqAt.of_refs hab ?_
          have:=RcAt.tuples (A:=A) (e:=fun j=>deq (ds.get j) (es.get j)) (show s.heap.IsTuple a i1.toArray from t1) (show s.heap.IsTuple b i2.toArray from t2) (by omega) fun j g1 g2=>?_
          · have l1:=r1.length
            have l2:=r2.length
            have m1:=h2.len
            have m2:=k2.len
            rw [List.size_toArray,List.size_toArray,← l1,← l2,← m1,← m2,deqs_all] at this
            rw [deq]; exact this
          · have l1:=r1.length
            have l2:=r2.length
            have m1:=h2.len
            have g1':j < xs.length:=by simp at g1; omega
            have g2':j < ys.length:=by simp at g2; omega
            obtain ⟨u1,e1,q1⟩:=r1.get (List.getElem?_eq_getElem g1')
            obtain ⟨u2,e2,q2⟩:=r2.get (List.getElem?_eq_getElem g2')
            have d1:i1.toArray[j]=u1:=by
              have:i1[j]?=some i1.toArray[j]:=by simp
              rw [e1] at this; exact (Option.some.inj this).symm
            have d2:i2.toArray[j]=u2:=by
              have:i2[j]?=some i2.toArray[j]:=by simp
              rw [e2] at this; exact (Option.some.inj this).symm
            rw [d1,d2]
            exact ih _ _ _ _ _ _ _ (Nat.le_trans (dep_get ds j (by omega)) (by omega)) (h2.get (List.getElem?_eq_getElem g1')) (k2.get (List.getElem?_eq_getElem g2')) q1 q2 hu1
    | lst ds =>
      have hd0:=hd
      rw [dep] at hn
      rw [DIs] at hd
      obtain ⟨a,xs,rfl,h1,h2⟩:=hd
      obtain ⟨i1,r1,t1,_⟩:=I.list h1
      cases rx
      cases e with
      | «at» q =>
        rw [DIs] at he
        obtain ⟨rfl,hg⟩:=he
        rw [deq]
        · exact (flat_lst ry hg t1.isList (by omega)).2
        all_goals (intros; simp_all)
      | tup es =>
        rw [DIs] at he
        obtain ⟨b,ys,rfl,k1,_⟩:=he
        obtain ⟨_,_,t2,_⟩:=I.tuple k1
        cases ry
        rw [deq]
        · exact EqAt.list_tuple t1.isList (show s.heap.IsTuple b _ from t2) (by omega)
        all_goals (intros; simp_all)
      | lst es =>
        have he0:=he
        rw [DIs] at he
        obtain ⟨b,ys,rfl,k1,k2⟩:=he
        obtain ⟨i2,r2,t2,_⟩:=I.list k1
        cases ry
        by_cases hab:a=b
        · subst hab
          rw [DIs.inj I he0 hd0,deq_refl _ hd0]
          exact EqAt.same _
        · refine EqAt.of_refs hab ?_
          have l1:=r1.length
          have l2:=r2.length
          have m1:=h2.len
          have m2:=k2.len
          rw [deq]
          rw [← deqs_all]
          by_cases hz:ds.len=es.len
          · have:=RcAt.lists (A:=A) (e:=fun j=>deq (ds.get j) (es.get j)) t1.isList t2.isList (by simp; omega) (by omega) fun j g1 g2=>?_
            · rw [List.size_toArray,← l1,← m1] at this
              rw [hz,Nat.min_self,beq_self_eq_true,Bool.and_true,← hz]
              exact this
            · have g1':j < xs.length:=by simp at g1; omega
              have g2':j < ys.length:=by simp at g2; omega
              obtain ⟨u1,e1,q1⟩:=r1.get (List.getElem?_eq_getElem g1')
              obtain ⟨u2,e2,q2⟩:=r2.get (List.getElem?_eq_getElem g2')
              have d1:i1.toArray[j]=u1:=by
                have:i1[j]?=some i1.toArray[j]:=by simp
                rw [e1] at this; exact (Option.some.inj this).symm
              have d2:i2.toArray[j]=u2:=by
                have:i2[j]?=some i2.toArray[j]:=by simp
                rw [e2] at this; exact (Option.some.inj this).symm
              rw [d1,d2]
              exact ih _ _ _ _ _ _ _ (Nat.le_trans (dep_get ds j (by omega)) (by omega)) (h2.get (List.getElem?_eq_getElem g1')) (k2.get (List.getElem?_eq_getElem g2')) q1 q2 hu1
          · have e0:(ds.len == es.len)=false:=by simpa using hz
            rw [e0,Bool.and_false]
            exact RcAt.lists_lengths t1.isList t2.isList (by simp; omega) (by omega)
end
section
variable {X:Cx}
theorem eqItems {pins:List (Addr × Obj)} {σ:St} {H:Hp} {s:Shared} (I:Inv X pins σ H s) {A:Around} {ds es:Ds} {xs ys:List V} {i1 i2:List Value} (h2:DIss X.K H ds xs) (k2:DIss X.K H es ys) (r1:Vals xs i1) (r2:Vals ys i2)
    (hu:A.units+60 < cLine) (hd:deps ds≤50):∀ j (g1:j < i1.toArray.size) (g2:j < i2.toArray.size),EqAt A.in1 s i1.toArray[j] i2.toArray[j] (deq (ds.get j) (es.get j)):=fun j g1 g2=>by
  have l1:=r1.length
  have l2:=r2.length
  have m1:=h2.len
  have g1':j < xs.length:=by simp at g1; omega
  have g2':j < ys.length:=by simp at g2; omega
  obtain ⟨u1,e1,q1⟩:=r1.get (List.getElem?_eq_getElem g1')
  obtain ⟨u2,e2,q2⟩:=r2.get (List.getElem?_eq_getElem g2')
  have d1:i1.toArray[j]=u1:=by
    have:i1[j]?=some i1.toArray[j]:=by simp
    rw [e1] at this; exact (Option.some.inj this).symm
  have d2:i2.toArray[j]=u2:=by
    have:i2[j]?=some i2.toArray[j]:=by simp
    rw [e2] at this; exact (Option.some.inj this).symm
  rw [d1,d2]
  exact eqAt_D I 50 _ _ _ _ _ _ _ (Nat.le_trans (dep_get ds j (by omega)) hd) (h2.get (List.getElem?_eq_getElem g1')) (k2.get (List.getElem?_eq_getElem g2')) q1 q2 (by show A.units+1+50 < cLine; omega)
def rEqD (K:PySem.W.Frag) (neg:Bool):R2:=fun x y H Q=>∃ d e,DIs K H d x∧DIs K H e y∧(∃ a,x=.ref a)∧(∃ b,y=.ref b)∧dep d≤50∧Q (.bl (if neg then !deq d e else deq d e)) H
theorem op_neD {k:Nat} (hr:Room k X.A):OpR X (compareOp .NotEq) (rEqD X.K true):=by
  intro pins s σ H x y v u Q I rx ry h
  obtain ⟨d,e,hd,he,⟨a,rfl⟩,⟨b,rfl⟩,hn,q⟩:=h
  cases rx
  cases ry
  have hu:=hr.units
  cases d with
  | «at» p=>rw [DIs] at hd; obtain ⟨rfl,hf⟩:=hd; cases hf
  | tup ds =>
    rw [dep] at hn
    rw [DIs] at hd
    obtain ⟨a',xs,e',h1,h2⟩:=hd
    cases e'
    obtain ⟨i1,r1,t1,_⟩:=I.tuple h1
    cases e with
    | «at» p=>rw [DIs] at he; obtain ⟨rfl,hf⟩:=he; cases hf
    | tup es =>
      rw [DIs] at he
      obtain ⟨b',ys,e',k1,k2⟩:=he
      cases e'
      obtain ⟨i2,r2,t2,_⟩:=I.tuple k1
      refine RcNeAt.tuples (show s.heap.IsTuple a i1.toArray from t1) (show s.heap.IsTuple b i2.toArray from t2) (by omega) (eqItems I h2 k2 r1 r2 (by omega) (by omega)) _ _ _ _ ⟨.bl _,H,I,?_,q⟩
      show Value.bool _=Value.bool _
      rw [List.size_toArray,List.size_toArray,← r1.length,← r2.length,← h2.len,← k2.len,deqs_all]
      simp only [if_true]
      rw [deq]
    | lst es =>
      rw [DIs] at he
      obtain ⟨b',ys,e',k1,k2⟩:=he
      cases e'
      obtain ⟨i2,r2,t2,_⟩:=I.list k1
      refine RcNeAt.tuple_list (show s.heap.IsTuple a _ from t1) t2.isList (by omega) _ _ _ _ ⟨.bl _,H,I,?_,q⟩
      show Value.bool _=Value.bool _
      simp only [if_true]
      rw [deq] <;> first | rfl | (intros; simp_all)
  | lst ds =>
    rw [dep] at hn
    rw [DIs] at hd
    obtain ⟨a',xs,e',h1,h2⟩:=hd
    cases e'
    obtain ⟨i1,r1,t1,_⟩:=I.list h1
    cases e with
    | «at» p=>rw [DIs] at he; obtain ⟨rfl,hf⟩:=he; cases hf
    | tup es =>
      rw [DIs] at he
      obtain ⟨b',ys,e',k1,k2⟩:=he
      cases e'
      obtain ⟨i2,r2,t2,_⟩:=I.tuple k1
      refine RcNeAt.list_tuple t1.isList (show s.heap.IsTuple b _ from t2) (by omega) _ _ _ _ ⟨.bl _,H,I,?_,q⟩
      show Value.bool _=Value.bool _
      simp only [if_true]
      rw [deq] <;> first | rfl | (intros; simp_all)
    | lst es =>
      rw [DIs] at he
      obtain ⟨b',ys,e',k1,k2⟩:=he
      cases e'
      obtain ⟨i2,r2,t2,_⟩:=I.list k1
      have l1:=r1.length
      have l2:=r2.length
      have m1:=h2.len
      have m2:=k2.len
      by_cases hz:ds.len=es.len
      · refine RcNeAt.lists t1.isList t2.isList (by simp; omega) (by omega) (eqItems I h2 k2 r1 r2 (by omega) (by omega)) _ _ _ _ ⟨.bl _,H,I,?_,q⟩
        show Value.bool _=Value.bool _
        simp only [if_true]
        rw [deq,← deqs_all,List.size_toArray,← l1,← m1,hz,Nat.min_self,beq_self_eq_true,Bool.and_true]
      · refine RcNeAt.lists_lengths t1.isList t2.isList (by simp; omega) (by omega) _ _ _ _ ⟨.bl _,H,I,?_,q⟩
        show Value.bool _=Value.bool _
        have e0:(ds.len == es.len)=false:=by simpa using hz
        simp only [if_true]
        rw [deq,← deqs_all,e0,Bool.and_false]; rfl
end
end L2
namespace L2
open PySem PySem.Spec PyProof.Rows
section
variable {X:Cx} {e st:Expr} {te ts:TE} {pos p2:Pos}
end
end L2
namespace L2
open PySem PySem.Spec PyProof.Rows
structure MkOk (P:Program) (w:World) (K:PySem.W.Frag) (mg:Str→Option Value) (base:Heap) (k:Nat) (x:Str) (C:Addr) (ps:List Str) (sp:Sp):Prop where
  ex:∃ (f:Addr) (fd:FuncData),Mk K C f∧FnOk P w K mg base CX0 k f fd ps sp∧mg x=some (.ref C)∧Binds K fd ps []
structure MdOk (P:Program) (w:World) (K:PySem.W.Frag) (mg:Str→Option Value) (base:Heap) (k:Nat) (C:Addr) (m:Str) (ps:List Str) (sp:Sp):Prop where
  cl:Cls K C
  ex:∃ (f:Addr) (fd:FuncData),Meth K C m f∧FnOk P w K mg base CX0 k f fd ps sp∧Binds K fd ps []
section
variable {X:Cx} {k j:Nat} {x m:Str} {C:Addr} {ps:List Str} {sp:Sp} {p pos apos:Pos} {e o:Expr} {es:List Expr} {t:TA} {ta:TE}
theorem pe_mk (D:MkOk X.prog X.w X.K X.mg X.base k x C ps sp) (hr:Room j X.A) (ha:PA X (e :: es) t) (hj:k+1≤j:=by decide) (hg:Gl X x:=by rfl) (hdb:(x == ("__debug__":Str))=false:=by decide)
    (he:starEach (e :: es) X.env=(false,eval e X.env) :: starEach es X.env:=by rfl) (hpl:(backTo pos (starEach es X.env)).any (·.1)=false:=by rfl):PE X (.Call (.Name x p) (e :: es) [] pos) (tMake C sp [] E0 t):=by
  obtain ⟨f,fd,M,F,hm,hb⟩:=D.ex
  exact pe_make M F (hr.mono hj) hg hm hb .nil pass0 ha hdb he hpl
theorem pe_md {pl:Sem Bool} (D:MdOk X.prog X.w X.K X.mg X.base k C m ps sp) (hr:Room j X.A) (he:PE X o ta) (ha:PA X (e :: es) t) (hj:k≤j:=by decide)
    (hst:starEach (e :: es) X.env=(false,eval e X.env) :: starEach es X.env:=by rfl) (hpl:(backTo pos (starEach es X.env)).any (·.1)=false:=by rfl)
    (ht:eval (.Call (.Attribute o m apos) (e :: es) [] pos) X.env=(do
      let ov ← eval o X.env
      standAt apos.atName
      let (f,first) ← holding [ov] (getMethod ov m pl)
      callWith pos f first (backTo pos (starEach (e :: es) X.env)) (backToKw pos (keywordEach [] X.env))):=by rfl):PE X (.Call (.Attribute o m apos) (e :: es) [] pos) (tMeth C m sp [] E0 ta t):=by
  obtain ⟨f,fd,M,F,hb⟩:=D.ex
  exact pe_meth he D.cl M F (hr.mono hj) hb .nil pass0 ha hst hpl ht
theorem pe_md0 {pl:Sem Bool} (D:MdOk X.prog X.w X.K X.mg X.base k C m ps sp) (hr:Room j X.A) (he:PE X o ta) (hj:k≤j:=by decide)
    (ht:eval (.Call (.Attribute o m apos) [] [] pos) X.env=(do
      let ov ← eval o X.env
      standAt apos.atName
      let (f,first) ← holding [ov] (getMethod ov m pl)
      callWith pos f first (backTo pos (starEach [] X.env)) (backToKw pos (keywordEach [] X.env))):=by rfl):PE X (.Call (.Attribute o m apos) [] [] pos) (tMeth C m sp [] E0 ta tNil):=by
  obtain ⟨f,fd,M,F,hb⟩:=D.ex
  exact pe_meth0 he D.cl M F (hr.mono hj) hb .nil pass0 ht
end
section
variable {X:Cx} {K:PySem.W.Frag} {pos:Pos}
theorem pg_tupK {es:List Expr} {k:Nat} {t:TGs} {n:Nat} (hc:X.calm=true) (h:PGs X es t) (hK:X.K=K:=by rfl)
    (hn:(assignEach es X.env).length=n:=by rfl) (hst:(assignEach es X.env).findIdx? (·.1)=none:=by rfl):PG X (.Tuple es k pos) (gTup K n t):=by
  subst hK; exact pg_tup hc h hn hst
def rTupleOf (K:PySem.W.Frag):List V→Hp→VK→Prop:=fun xs H Q=>∃ p ys,xs=[V.ref p]∧((SqL K H p ys∧∀ l,H l=none→Q (.ref l) (upd H l (.tup ys)))∨(SqT K H p ys∧Q (.ref p) H))
theorem call_tuple_K (hK:X.K=K:=by rfl):CallR X (.type "tuple") (rTupleOf K):=by subst hK; exact call_tuple_of
end
end L2
namespace GB
open PySem L2
structure Rc where
  t:Int
  l:Int
  b:Int
  r:Int
  deriving DecidableEq
def Rc.ls (p:Rc):List Int:=[p.t,p.l,p.b,p.r]
def Rc.has (p:Rc) (r c:Int):Prop:=p.t≤r∧r < p.b∧p.l≤c∧c < p.r
def Rc.In (w h:Int) (p:Rc):Prop:=0≤p.t∧p.t < p.b∧p.b≤h∧0≤p.l∧p.l < p.r∧p.r≤w
def Apart (p q:Rc):Prop:=∀ r c,p.has r c→q.has r c→False
theorem Apart.symm {p q:Rc} (h:Apart p q):Apart q p:=fun r c a b=>h r c b a
structure Tiles (w h:Int) (ps:List Rc):Prop where
  ins:∀ p∈ps,p.In w h
  dis:ps.Pairwise Apart
  cov:∀ r c,0≤r→r < h→0≤c→c < w→∃ p∈ps,p.has r c
theorem apart_uniq {ps:List Rc} (h:ps.Pairwise Apart) {p q:Rc} {r c:Int} (hp:p∈ps) (hq:q∈ps) (a:p.has r c) (b:q.has r c):p=q:=by
  obtain ⟨i,hi,rfl⟩:=List.getElem_of_mem hp
  obtain ⟨j,hj,rfl⟩:=List.getElem_of_mem hq
  rw [List.pairwise_iff_getElem] at h
  rcases Nat.lt_trichotomy i j with e | e | e
  · exact (h i j hi hj e r c a b).elim
  · subst e; rfl
  · exact (h j i hj hi e r c b a).elim
theorem Tiles.perm {w h:Int} {ps qs:List Rc} (T:Tiles w h ps) (e:qs.Perm ps):Tiles w h qs :=
  ⟨fun p hp=>T.ins p (e.mem_iff.mp hp),(e.pairwise_iff (fun {a b} x=>Apart.symm x)).mpr T.dis,fun r c a b x y=>let ⟨p,hp,z⟩:=T.cov r c a b x y; ⟨p,e.mem_iff.mpr hp,z⟩⟩
def key:List Int→Int
  | [a,b,c,d]=>((a * 13+b) * 13+c) * 13+d
  | _=>0
theorem key_ls (p:Rc):key p.ls=((p.t * 13+p.l) * 13+p.b) * 13+p.r:=rfl
theorem key_lt {p q:Rc} {w h w' h':Int} (hp:p.In w h) (hq:q.In w' h') (b1:w≤12) (b2:h≤12) (b3:w'≤12) (b4:h'≤12):HT.lexLt p.ls q.ls=decide (key p.ls < key q.ls):=by
  obtain ⟨a1,a2,a3,a4,a5,a6⟩:=hp
  obtain ⟨c1,c2,c3,c4,c5,c6⟩:=hq
  rw [key_ls,key_ls]
  show (if p.t=q.t then (if p.l=q.l then (if p.b=q.b then (if p.r=q.r then false else decide (p.r < q.r)) else decide (p.b < q.b)) else decide (p.l < q.l)) else decide (p.t < q.t))=_
  repeat' split
  all_goals (first | (apply Eq.symm; rw [decide_eq_false_iff_not]; omega) | (rw [decide_eq_decide]; omega))
theorem key_inj {p q:Rc} {w h w' h':Int} (hp:p.In w h) (hq:q.In w' h') (b1:w≤12) (b2:h≤12) (b3:w'≤12) (b4:h'≤12) (e:key p.ls=key q.ls):p=q:=by
  obtain ⟨a1,a2,a3,a4,a5,a6⟩:=hp
  obtain ⟨c1,c2,c3,c4,c5,c6⟩:=hq
  rw [key_ls,key_ls] at e
  obtain ⟨pt,pl,pb,pr⟩:=p
  obtain ⟨qt,ql,qb,qr⟩:=q
  simp only at *
  have e1:pt=qt:=by omega
  subst e1
  have e2:pl=ql:=by omega
  subst e2
  have e3:pb=qb:=by omega
  subst e3
  have e4:pr=qr:=by omega
  subst e4
  rfl
def Srt (ps:List Rc):Prop:=(ps.map fun p=>key p.ls).Pairwise (·≤·)
theorem sorted_same {ps qs:List Rc} {w h:Int} (hp:∀ p∈ps,p.In w h) (b1:w≤12) (b2:h≤12) (e:ps.Perm qs) (s1:Srt ps) (s2:Srt qs):ps=qs:=by
  have hq:∀ p∈qs,p.In w h:=fun p x=>hp p (e.mem_iff.mpr x)
  have hm:=PySem.W.ksm_same (List.Perm.map (fun p:Rc=>key p.ls) e) s1 s2
  have len:=e.length_eq
  apply List.ext_getElem len
  intro i h1 h2
  have:=congrArg (fun l=>l[i]?) hm
  simp only [List.getElem?_map,List.getElem?_eq_getElem h1,List.getElem?_eq_getElem h2,Option.map_some,Option.some.injEq] at this
  exact key_inj (hp _ (List.getElem_mem h1)) (hq _ (List.getElem_mem h2)) b1 b2 b1 b2 this
def rowSq (p:Rc) (i:Nat) (j:Nat):List (Int × Int):=(List.range j).map fun (k:Nat)=>(p.t+(i:Int),p.l+(k:Int))
def sqsN (p:Rc):Nat→List (Int × Int)
  | 0=>[]
  | i+1=>sqsN p i++rowSq p i (p.r - p.l).toNat
def sqs (p:Rc):List (Int × Int):=sqsN p (p.b - p.t).toNat
theorem mem_rowSq {p:Rc} {i j:Nat} {r c:Int}:(r,c)∈rowSq p i j↔r=p.t+i∧p.l≤c∧c < p.l+j:=by
  unfold rowSq
  rw [List.mem_map]
  constructor
  · rintro ⟨k,hk,e⟩
    have:=List.mem_range.mp hk
    cases e
    omega
  · rintro ⟨rfl,a,b⟩
    exact ⟨(c - p.l).toNat,List.mem_range.mpr (by omega),by rw [show ((c - p.l).toNat:Int)=c - p.l by omega]; congr 1; omega⟩
theorem mem_sqsN {p:Rc} (h:p.l≤p.r) {r c:Int}:∀ {n:Nat},(r,c)∈sqsN p n↔p.t≤r∧r < p.t+n∧p.l≤c∧c < p.r
  | 0=>by
    simp only [sqsN,List.not_mem_nil,false_iff]
    omega
  | n+1=>by
    rw [sqsN,List.mem_append,mem_sqsN h,mem_rowSq]
    omega
theorem mem_sqs {p:Rc} (h:p.l≤p.r) (h2:p.t≤p.b) {r c:Int}:(r,c)∈sqs p↔p.has r c:=by
  unfold sqs Rc.has
  rw [mem_sqsN h]
  omega
theorem rowSq_nodup (p:Rc) (i j:Nat):(rowSq p i j).Nodup:=by
  unfold rowSq
  rw [List.nodup_iff_pairwise_ne,List.pairwise_map]
  exact (List.nodup_range (n:=j)).imp fun {a b} h e=>h (by
    have:=congrArg Prod.snd e
    simp only at this
    omega)
theorem sqsN_nodup {p:Rc} (h:p.l≤p.r):∀ n,(sqsN p n).Nodup
  | 0=>List.nodup_nil
  | n+1=>by
    rw [sqsN,List.nodup_append]
    refine ⟨sqsN_nodup h n,rowSq_nodup p n _,fun a ha b hb e=>?_⟩
    subst e
    obtain ⟨r,c⟩:=a
    have h1:=(mem_sqsN h).mp ha
    have h2:=mem_rowSq.mp hb
    omega
theorem sqsN_len (p:Rc):∀ n,(sqsN p n).length=n * (p.r - p.l).toNat
  | 0=>by simp [sqsN]
  | n+1=>by rw [sqsN,List.length_append,sqsN_len p n,rowSq,List.length_map,List.length_range,Nat.succ_mul]
theorem rowSq_succ (p:Rc) (i j:Nat):rowSq p i (j+1)=rowSq p i j++[(p.t+(i:Int),p.l+(j:Int))]:=by
  unfold rowSq
  rw [List.range_succ,List.map_append]
  rfl
theorem nodup_bound:∀ (n:Nat) (xs:List Int),xs.Nodup→(∀ x∈xs,0≤x∧x < n)→xs.length≤n
  | 0,xs,_,h=>by
    cases xs with
    | nil=>exact Nat.le_refl _
    | cons x r=>have:=h x List.mem_cons_self; omega
  | n+1,xs,hn,h=>by
    have h2:(xs.filter fun x=>decide (x≠(n:Int))).length≤n:=nodup_bound n _ (hn.filter _) fun x hx=>by
      obtain ⟨h1,h2⟩:=List.mem_filter.mp hx
      have:=h x h1
      have h3:x≠(n:Int):=of_decide_eq_true h2
      omega
    have h3:xs.length≤(xs.filter fun x=>decide (x≠(n:Int))).length+1:=by
      have key:∀ (ys:List Int),ys.Nodup→ys.length≤(ys.filter fun x=>decide (x≠(n:Int))).length+1:=by
        intro ys
        induction ys with
        | nil=>intro _; simp
        | cons y r ih =>
          intro hy
          obtain ⟨h4,h5⟩:=List.nodup_cons.mp hy
          by_cases e:y=(n:Int)
          · have e2:(r.filter fun x=>decide (x≠(n:Int)))=r:=by
              rw [List.filter_eq_self]
              intro x hx
              exact decide_eq_true fun z=>h4 (by rw [e,← z]; exact hx)
            rw [List.filter_cons,if_neg (by simp [e]),e2,List.length_cons]; exact Nat.le_refl _
          · rw [List.filter_cons,if_pos (by simpa using e),List.length_cons,List.length_cons]
            have:=ih h5
            omega
      exact key xs hn
    omega
theorem bottom_few {w h:Int} {ps:List Rc} (hi:∀ p∈ps,p.In w h) (hb:∀ p∈ps,p.b=h) (hd:ps.Pairwise Apart):ps.length≤w.toNat:=by
  have e:ps.length=(ps.map (·.l)).length:=by rw [List.length_map]
  rw [e]
  refine nodup_bound _ _ ?_ fun x hx=>?_
  · rw [List.nodup_iff_pairwise_ne,List.pairwise_map]
    refine List.Pairwise.imp_of_mem (fun {p q} hp hq ha z=>?_) hd
    obtain ⟨a1,a2,a3,a4,a5,a6⟩:=hi p hp
    obtain ⟨c1,c2,c3,c4,c5,c6⟩:=hi q hq
    have:=hb p hp
    have:=hb q hq
    exact ha (h - 1) p.l ⟨by omega,by omega,by omega,by omega⟩ ⟨by omega,by omega,by omega,by omega⟩
  · obtain ⟨p,hp,rfl⟩:=List.mem_map.mp hx
    obtain ⟨a1,a2,a3,a4,a5,a6⟩:=hi p hp
    omega
end GB
namespace L2
open PySem PySem.Spec PyProof.Rows
section
variable {prog:Program} {w:World} {A:Around} {E:Value→Shared→Prop} {h:Heap} {g:Array GenState} {d:Drawn} {t:Nat} {os:OsState}
  {nm qn:Str} {C N:Addr} {bs bm bmB:List Value} {hdct:Bool} {sn:List Str} {sub:List Value} {ab:Bool} {col:Option Bool} {dd:Option Addr} {k0 k1 k2 k3 k5:Option Value} {B newId initId:String}
end
end L2
namespace L2
open PySem PySem.Spec PyProof.Rows PySem.W PySem.Builtin PySem.Builtin.ObjectAttr
section
variable {prog:Program} {w:World} {A:Around} {E:Value→Shared→Prop} {R:Result→Shared→Prop} {s:Shared} {K:Frag} {x C:Addr} {ox:Obj} {od:Option Obj} {name:Str} {tk:Tok} {v:Value}
end
end L2
namespace L2
open PySem PySem.Spec PyProof.Rows PySem.W PySem.Builtin PySem.Builtin.ObjectAttr
section
variable {prog:Program} {w:World} {A:Around} {E:Value→Shared→Prop} {R:Result→Shared→Prop} {s:Shared} {K:Frag} {x C:Addr} {ox:Obj} {od:Option Obj} {name:Str} {tk:Tok} {v:Value} {expr:Bool}
end
end L2
namespace L2
open PySem PySem.Spec PyProof.Rows PySem.W
def ExcT (C:Addr) (d:Option Addr) (x T:Addr):HO:=.ext fun h=>∃ vs sl,h.get? x=some ⟨.ref C,d,.fields vs,sl⟩∧vs[1]?=some (.ref T)
section
variable {P:Program} {w:World} {H:Hp} {h:Heap} {x C dx:Addr} {fs:List (Str × V)}
end
section
variable {X:Cx} {pins:List (Addr × Obj)} {σ:St} {H:Hp} {s:Shared} {a C dx:Addr} {fs:List (Str × V)} {f:Str} {v:V} {A:Around} {E:Value→Shared→Prop}
end
section
variable {X:Cx}
end
section
variable {X:Cx} {o e value:Expr} {f:Str} {pos pos':Pos} {ta tv:TE}
end
end L2
namespace L2
open PySem PySem.Spec PyProof.Rows PySem.W
section
variable {X:Cx} {CX:CXT} {k j:Nat} {f C:Addr} {fd:FuncData} {ps names:List Str} {sp:Sp} {E:XK} {x m:Str} {p pos apos:Pos} {e o:Expr} {es:List Expr} {ta:TE} {t:TA}
end
end L2
namespace L2
open PySem PySem.Spec PyProof.Rows PySem.W
section
variable {M:Model} {A:Around} {E:Value→Shared→Prop} {s:Shared} {base:Heap} {env:Env} {outer:List Env} {L e:Addr} {cls:Value} {d:Option Addr} {vs:Array Value} {sl:Array (Option Value)} {Q:Unit→Shared→Prop}
end
end L2
namespace L2
open PySem PySem.Spec PyProof.Rows PySem.W
section
variable {prog:Program} {w:World} {A:Around} {E:Value→Shared→Prop} {s:Shared} {K:Frag} {C fI e:Addr} {d:Option Addr} {env:Env}
end
end L2
namespace L2
open PySem PySem.Spec PyProof.Rows PySem.W
def TbO (T:Addr):HO:=.ext fun h=>∃ o ts,h.get? T=some o∧o.data=.fields ts∧ts[3]?=some Value.none
def Flown (H:Hp) (x C:Addr) (d:Option Addr) (T:Addr):Prop:=H x=some (ExcT C d x T)∧H T=some (TbO T)∧T≠x
section
variable {X:Cx} {pins:List (Addr × Obj)} {σ:St} {H:Hp} {s:Shared} {x C T:Addr} {d:Option Addr} {h1 h2:Heap} {fl:Value} {tt:List Addr}
end
end L2
namespace L2
open PySem PySem.Spec PyProof.Rows PySem.W
section
variable {P:Program} {w:World} {K:PySem.W.Frag} {mg:Str→Option Value} {base:Heap} {N:List Str} {qual:Str} {scope:Scope} {f:Addr} {cd:Value} {A:Around} {outer:List Env} {s:Shared} {H:Hp} {E E₁:XK}
end
section
variable {X:Cx} {E E₁:XK}
end
section
variable {X:Cx} {k j:Nat} {x:Str} {C:Addr} {ps names:List Str} {sp:Sp} {p pos cpos:Pos} {e:Expr} {es:List Expr} {t:TA} {E E₁:XK}
end
end L2
namespace L2
open PySem PySem.Spec PyProof.Rows PySem.W
section
variable {X:Cx} {pins:List (Addr × Obj)} {σ:St} {H:Hp} {s:Shared}
end
end L2
namespace L2
open PySem PySem.Spec PyProof.Rows PySem.W
def PX (X:Cx) (e:Expr) (t:TE) (E:XK):Prop:=∀ (pins:List (Addr × Obj)) (s:Shared) (σ:St) (H:Hp) (Q:VK) (Ex:Value→Shared→Prop),Inv X pins σ H s→t σ H Q →
  (∀ x T C d H' s',Inv X pins σ H' s'→Flown H' x C d T→E (.ref x) d H'→Ex (.ref x) s')→wpAny (model X.prog X.w) X.A (eval e X.env) (EP X pins σ Q) Ex s
section
variable {X:Cx} {k j:Nat} {x:Str} {C:Addr} {ps:List Str} {sp:Sp} {p pos:Pos} {e:Expr} {es:List Expr} {t:TA} {E:XK}
end
section
variable {X:Cx} {i im:Nat} {n m g:Str} {G:Addr} {value:Expr} {b₀:Stmt} {suite:List Stmt} {np apos gp hpos pos:Pos} {te:XK→TE} {ts:TS}
end
end L2
namespace L2
open PySem PySem.Spec PyProof.Rows
def tCompF (wi:TI) (g:TG) (tc:TT) (te:TE) (fr:List (Option Nat)):TE:=fun σ H Q=>wi σ H fun J H1=>∀ acc,H1 acc=none→∃ W:Nat→Nat→St→Hp→Prop,(∃ m,W 0 m (stC fr σ) (upd H1 acc (.lst [])))∧∀ i m σ1 H2,W i m σ1 H2 →
  (J.stop i H2∧Q (.ref acc) H2)∨(J.go i H2∧∀ x H3,J.yld i H2 x H3→g x σ1 H3 fun σ4 H4=>tc σ4 H4 fun b Hb=>match b with
    | true=>te σ4 Hb fun v H5=>∃ xs,H5 acc=some (.lst xs)∧xs.length < sizeLine∧∃ m',m' < m∧W (i+1) m' σ4 (upd H5 acc (.lst (xs++[v])))
    | false=>∃ m',m' < m∧W (i+1) m' σ4 Hb)
section
variable {prog:Program} {w:World} {A:Around} {R:Result→Shared→Prop} {s:Shared}
theorem compLoop_anyF {elt target iter cnd:Expr} {scope:Scope} {pos:Pos} {it acc:Value} {env:Env} (I:Nat→Shared→Prop)
    (turn:∀ n s,I n s→wpAny (model prog w) A (pyNext it) (fun r s₁=>match r with
      | none=>R (.ok .next) s₁
      | some v=>wpAny (model prog w) A (letOwnedTupleGo target it v) (fun _ s₁=>wpAny (model prog w) A (assign target env v) (fun _ s₂ =>
          wpAny (model prog w) A (forIn [cnd] true fun c r=>if r=true then do let ok ← isTrue c env (eval c env); pure (ForInStep.yield ok) else pure (ForInStep.yield r)) (fun ok s₃ =>
            if ok=true then wpAny (model prog w) A (eval elt env) (fun x s₄=>wpAny (model prog w) A (call (.builtin "list.append") [acc,x]) (fun _ s₅=>∃ m,m < n∧I m s₅) (notedBy (model prog w) A env fun e s'=>R (.error e) s') s₄)
              (notedBy (model prog w) A env fun e s'=>R (.error e) s') s₃
            else ∃ m,m < n∧I m s₃) (notedBy (model prog w) A env fun e s'=>R (.error e) s') s₂)
          (notedBy (model prog w) A env fun e s'=>R (.error e) s') s₁) (notedBy (model prog w) A env fun e s'=>R (.error e) s') s₁) (notedBy (model prog w) A env fun e s'=>R (.error e) s') s)
    (n:Nat) (h:I n s) :
    codeAny (model prog w) A (.compLoop (.ListComp elt [⟨target,iter,[cnd],0⟩] scope pos) 0 it acc env) R s:=by
  refine codeAny_loop rfl I (fun n s hI=>?_) n h
  show wpAny _ _ ((compTurn (.ListComp elt [⟨target,iter,[cnd],0⟩] scope pos) 0 it acc env).onRaise (fun x=>do noteFrame x env; theTreesLotGoes x)) _ _ s
  refine wpAny_noted ?_
  rw [compTurn_list]
  refine wpAny_bind (wpAny_standAt (wpAny_bind (wpAny_mono (turn n s hI) (fun r s₁ h₁=>?_) fun _ _ h'=>h')))
  cases r with
  | none=>exact wpAny_pure h₁
  | some v =>
    refine wpAny_bind (wpAny_mono h₁ (fun _ s₁ h₁=>?_) fun _ _ h'=>h')
    refine wpAny_bind (wpAny_mono h₁ (fun _ s₂ h₂=>wpAny_bind (wpAny_mono h₂ (fun ok s₃ h₃=>?_) fun _ _ h'=>h')) fun _ _ h'=>h')
    cases ok with
    | false=>exact wpAny_pure ⟨rfl,h₃⟩
    | true=>exact wpAny_bind (wpAny_bind (wpAny_mono h₃ (fun x s₄ h₄=>wpAny_bind (wpAny_mono h₄ (fun _ s₅ h₅=>wpAny_pure (wpAny_pure ⟨rfl,h₅⟩)) fun _ _ h'=>h')) fun _ _ h'=>h'))
end
section
variable {X:Cx} {elt tg iter:Expr} {scope:Scope} {pos:Pos} {wi:TI} {g:TG} {te:TE} {N:List Str} {fr:List (Option Nat)}
variable {cnd:Expr} {tc:TT}
theorem comp_coreF {pins:List (Addr × Obj)} {σ:St} {H:Hp} {s:Shared} {Q:VK} {cl:List (Str × Addr)} {R:Value→Addr→Result→Shared→Prop} (hc:X.calm=true) (I:Inv X pins σ H s) (hi:PI X tg iter wi)
    (hg:∀ cl C s H ex,PG (compCx X scope cl N C s H ex) tg g) (hcn:∀ cl C s H ex,PT (compCx X scope cl N C s H ex) cnd tc) (he:∀ cl C s H ex,PE (compCx X scope cl N C s H ex) elt te) (ck:CompChk X.env.scope X.N scope N fr)
    (c1:∀ x c,cl.lookup x=some c→X.env.cells.lookup x=some c) (c2:∀ x,(x,NameKind.free)∈scope.names→∃ c,cl.lookup x=some c)
    (h:tCompF wi g tc te fr σ H Q)
    (hR:∀ acc C s' H' m,s'.heap.Ns C m→FpOk X pins H' C→Inv X pins σ H' s'→Q (.ref acc) H'→R (.ref acc) C (.ok .next) s') :
    wpAny (model X.prog X.w) X.A (eval iter X.env) (fun x s₁=>wpAny (model X.prog X.w) X.A (pyIter x) (fun it s₂=>wpAny (model X.prog X.w) X.A (newList []) (fun acc s₃ =>
      wpAny (model X.prog X.w) X.A (newFunctionEnv scope X.env.globals cl [] X.env.qual none .none (some X.env)) (fun cenv s₄ =>
        codeAny (model X.prog X.w) X.A (.compStart (.ListComp elt [⟨tg,iter,[cnd],0⟩] scope pos) 0 it acc { cenv with scope:=relabel scope X.env }) (R acc cenv.locals) s₄) X.xe s₃) X.xe s₂) X.xe s₁) X.xe s:=by
  refine thn (hi pins s σ H _ I h) fun v s1 h1=>thn h1 fun itv s2 h2=>?_
  obtain ⟨it,fp,tn,J,H2,e,I2,T,st2,f2,q2⟩:=h2
  subst e
  refine wpAny_newObj_type (wpAny_newFunctionEnv ck.nocell (by intro y hy; simp at hy) (fun h₁ hns₁ hsb₁=>?_) ck.kind)
  dsimp only at hns₁ hsb₁ ⊢
  have I3:Inv X pins σ (upd H2 s2.heap.objs.size (.lst [])) { s2 with heap:=s2.heap.push { cls:=.type "list",dict:=none,data:=.seq ([]:List Value).toArray } }:=I2.lnew (t':=s2.toks) (its:=[]) .nil (Nat.zero_le _)
  have acc0:H2 s2.heap.objs.size=none:=I2.fresh
  obtain ⟨W,⟨m0,w0⟩,turn⟩:=q2 s2.heap.objs.size acc0
  generalize hH3:s2.heap.push { cls:=.type "list",dict:=none,data:=.seq ([]:List Value).toArray }=h3 at hns₁ hsb₁ I3 ⊢
  have hz3:h3.objs.size=s2.heap.objs.size+1:=by rw [← hH3,Heap.size_push]
  have k23:∀ b o,s2.heap.get? b=some o→h3.get? b=some o:=fun b o e=>by rw [← hH3]; exact Heap.get?_push_of_some _ e
  have k34:∀ b o,h3.get? b=some o→h₁.get? b=some o:=fun b o e=>hsb₁.extBut b o (Nat.ne_of_lt (Heap.lt_size e)) (Heap.get?_push_of_some _ e)
  have fpo:∀ b∈fp,∃ o,s2.heap.get? b=some o∧∀ v,o.data≠.cell v:=T.obj 0 _ st2
  have hex:∀ b∈fp,FpOk X pins (upd H2 s2.heap.objs.size (.lst [])) b∧b < h3.objs.size:=fun b hb=>by
    obtain ⟨o,eo,_⟩:=fpo b hb
    have lt:=Heap.lt_size eo
    obtain ⟨f0,fr'⟩:=f2 b hb
    exact ⟨⟨by rw [upd_ne (Nat.ne_of_lt lt)]; exact f0,fr'⟩,by rw [hz3]; exact Nat.lt_succ_of_lt lt⟩
  have I4:Inv (compCx X scope cl N h3.objs.size { s2 with heap:=h3 } (upd H2 s2.heap.objs.size (.lst [])) fp) [] (stC fr σ) (upd H2 s2.heap.objs.size (.lst [])) { s2 with heap:=h₁,toks:=s2.toks+([]:List (Str × Value)).length } :=
    comp_entry I3 ck c1 c2 hex (Nat.le_refl _) hns₁ k34 rfl rfl
  have stat:∀ {H':Hp},(∀ b∈fp,H' b=none)→∀ b∈fp,FpOk (compCx X scope cl N h3.objs.size { s2 with heap:=h3 } (upd H2 s2.heap.objs.size (.lst [])) fp) [] H' b:=fun hn b hb =>
    ⟨hn b hb,(I4.ok.exf b hb).1,I4.ok.exfs b hb,.inl hb,(I4.ok.exf b hb).2,fun p hp=>by simp at hp⟩
  have stn:∀ i h h',tn i h→(∀ b o,h.get? b=some o→h'.get? b=some o)→tn i h':=fun i h h' st kk=>T.keep i h h' st fun b _ o e=>kk b o e
  have loop:codeAny (model X.prog X.w) X.A (.compLoop (.ListComp elt [⟨tg,iter,[cnd],0⟩] scope pos) 0 (.ref it) (.ref s2.heap.objs.size) (compEnvC scope cl h3.objs.size X.env)) (R (.ref s2.heap.objs.size) h3.objs.size)
      { s2 with heap:=h₁,toks:=s2.toks+([]:List (Str × Value)).length }:=by
    refine compLoop_anyF (fun n s'=>∃ i σ' H',Inv (compCx X scope cl N h3.objs.size { s2 with heap:=h3 } (upd H2 s2.heap.objs.size (.lst [])) fp) [] σ' H' s'∧tn i s'.heap∧(∀ b∈fp,H' b=none)∧W i n σ' H') ?_ m0
      ⟨0,_,_,I4,stn _ _ _ st2 fun b o e=>k34 b o (k23 b o e),fun b hb=>(hex b hb).1.1,w0⟩
    rintro n s3 ⟨i,σ3,H3,J3,st3,fr3,w3⟩
    rcases turn i n σ3 H3 w3 with ⟨stop,qn⟩ | ⟨go,step⟩
    · refine wpFalse (thn (T.done (compCx X scope cl N h3.objs.size { s2 with heap:=h3 } (upd H2 s2.heap.objs.size (.lst [])) fp) rfl rfl rfl hc i [] s3 σ3 H3 (fun _ _=>False) J3 (stat fr3) st3 stop) fun r s4 ⟨hr,J4⟩=>?_)
      subst hr
      obtain ⟨mc,hmc,_⟩:=J4.loc
      have I5:Inv X pins σ H3 s4:=I3.call' (ch:=fp) J4.os J4.base J4.hok J4.bare fun b hb=>⟨(hex b hb).1.2.2.2.1,(hex b hb).1.2.1,(hex b hb).1.2.2.2.2.1,(hex b hb).1.2.2.2.2.2⟩
      exact hR _ _ s4 H3 mc hmc (I3.fpOk (Nat.le_refl _) J4.free) I5 qn
    · refine wpFalse (thn (T.item (compCx X scope cl N h3.objs.size { s2 with heap:=h3 } (upd H2 s2.heap.objs.size (.lst [])) fp) rfl rfl rfl hc i [] s3 σ3 H3 (fun _ _=>False) J3 (stat fr3) st3 go) fun r s4 ⟨u,hr,h4⟩=>?_)
      subst hr
      refine wpFalse (thn h4 fun _ s5 ⟨x,H5,J5,r5,y5,st5,fr5⟩=>?_)
      have J5':=J5.pinned (stat fr5) (T.obj _ _ st5)
      refine wpFalse (thn (hg _ _ _ _ _ _ s5 σ3 H5 x u _ J5' r5 (step x H5 y5)) fun _ s6 ⟨σ6,H6,J6,q6⟩=>?_)
      refine wpAny_tests_one (wpFalse (thn (hcn _ _ _ _ _ _ s6 σ6 H6 _ J6 q6) fun b sb ⟨Hb,Jb,qb⟩=>?_))
      cases b with
      | false =>
        obtain ⟨m',hm',w7⟩:=qb
        refine ite_ff ⟨m',hm',i+1,σ6,_,Jb.unpinned,T.keep _ _ _ st5 fun b hb o e=>(Jb.pin (b,o) (List.mem_append_right _ (List.mem_append_right _ (mem_pinsAt hb e)))).1,fun b hb=>?_,w7⟩
        obtain ⟨o,e,d⟩:=T.obj _ _ st5 b hb
        exact (Jb.pin (b,o) (List.mem_append_right _ (List.mem_append_right _ (mem_pinsAt hb e)))).2.1
      | true =>
        refine ite_tt ?_
        refine wpFalse (thn (he _ _ _ _ _ _ sb σ6 Hb _ Jb qb) fun y s7 ⟨v7,H7,J7,r7,xs,hx,hz,m',hm',w7⟩=>?_)
        refine wpFalse (thn (mt_append _ s7 σ6 H7 (.ref s2.heap.objs.size) [v7] (.ref s2.heap.objs.size) [y] (fun v H8=>H8=upd H7 s2.heap.objs.size (.lst (xs++[v7]))) J7 rfl (.cons r7 .nil) ⟨_,xs,v7,rfl,rfl,hx,hz,rfl⟩) fun _ s8 ⟨_,H8,J8,_,e8⟩=>?_)
        subst e8
        refine ⟨m',hm',i+1,σ6,_,J8.unpinned,T.keep _ _ _ st5 fun b hb o e=>(J8.pin (b,o) (List.mem_append_right _ (List.mem_append_right _ (mem_pinsAt hb e)))).1,fun b hb=>?_,w7⟩
        obtain ⟨o,e,d⟩:=T.obj _ _ st5 b hb
        exact (J8.pin (b,o) (List.mem_append_right _ (List.mem_append_right _ (mem_pinsAt hb e)))).2.1
  exact codeAny_compStart_list loop (T.self _ 0 _ _ _ (stn _ _ _ st2 fun b o e=>k34 b o (k23 b o e)) loop)
theorem pe_compF (hc:X.calm=true) (hi:PI X tg iter wi) (hg:∀ cl C s H ex,PG (compCx X scope cl N C s H ex) tg g) (hcn:∀ cl C s H ex,PT (compCx X scope cl N C s H ex) cnd tc) (he:∀ cl C s H ex,PE (compCx X scope cl N C s H ex) elt te)
    (hk:compChk X.env.scope X.N scope N fr=true:=by rfl) (hs:∀ x,foldedSetIterable iter X.env x=pure x:=by intro _; rfl):PE X (.ListComp elt [⟨tg,iter,[cnd],0⟩] scope pos) (tCompF wi g tc te fr):=by
  intro pins s σ H Q I h
  have ck:=compChk_of hk
  obtain ⟨cl,e1,c1,c2⟩:=comp_cl I.ok ck
  rw [eval_ListComp]
  refine wpAny_comprehension_free (use:=none) (Q:=EP X pins σ Q) rfl hs e1 ck.kind ck.loc (comp_coreF (R:=fun acc C=>compPost (model X.prog X.w) X.A X.xe none (EP X pins σ Q) acc C) hc I hi hg hcn he ck c1 c2 h fun acc C s' H' m hn f I' q=>?_)
  obtain ⟨f0,f1,f2,f3,f4,f5⟩:=f
  exact ⟨m,hn,fun h' hs'=>⟨.ref acc,H',I'.turned (t':=s'.toks) (fun b o hb e=>hs'.extBut b o hb e) f0 f1 f3 f4 f5,rfl,q⟩⟩
theorem ps_setCompF {y:Str} {py spos:Pos} {gy:TG} (hc:X.calm=true) (hy:PG X (.Name y py) gy) (hi:PI X tg iter wi) (hg:∀ cl C s H ex,PG (compCx X scope cl N C s H ex) tg g) (hcn:∀ cl C s H ex,PT (compCx X scope cl N C s H ex) cnd tc) (he:∀ cl C s H ex,PE (compCx X scope cl N C s H ex) elt te)
    (hk:compChk X.env.scope X.N scope N fr=true:=by rfl) (hsw:swapsWith (.ListComp elt [⟨tg,iter,[cnd],0⟩] scope pos) (some (.Name y py)) spos.line X.env=pure true:=by rfl) (hs:∀ x,foldedSetIterable iter X.env x=pure x:=by intro _; rfl) :
    PS X (.Assign [.Name y py] (.ListComp elt [⟨tg,iter,[cnd],0⟩] scope pos) spos) (tAsg (tCompF wi g tc te fr) gy):=by
  intro pins s σ H D I h
  have ck:=compChk_of hk
  obtain ⟨cl,e1,c1,c2⟩:=comp_cl I.ok ck
  rw [exec_Assign_Name_used _ _ _ _ hsw]
  refine wpAny_bind (wpAny_standAt (wpAny_bind ?_))
  show wpAny _ X.A (do let _ ← comprehension (.ListComp elt [⟨tg,iter,[cnd],0⟩] scope pos) scope X.env _ (newList []) false (eval iter X.env) (some (assign (.Name y py) X.env))) _ _ s
  refine wpAny_bind (wpAny_mono (wpAny_comprehension_free (use:=some (assign (.Name y py) X.env)) (Q:=fun _ s'=>SP X pins D .next s') rfl hs e1 ck.kind ck.loc
    (comp_coreF (R:=fun acc C=>compPost (model X.prog X.w) X.A X.xe (some (assign (.Name y py) X.env)) (fun _ s'=>SP X pins D .next s') acc C) hc I hi hg hcn he ck c1 c2 h fun acc C s' H' m hn f I' q=>?_)) (fun _ s' hq=>wpAny_pure (wpAny_pure hq)) fun _ _ e=>e)
  show wpAny _ X.A (assign (.Name y py) X.env (.ref acc)) _ _ _
  obtain ⟨oC,es,ep,hoC,hdC,hrC⟩:=id hn
  have IP:=I'.pinned (fp:=[C]) (fun b hb=>by rw [List.mem_singleton.mp hb]; exact f) (fun b hb=>by rw [List.mem_singleton.mp hb]; exact ⟨oC,hoC,fun v z=>by rw [hdC] at z; cases z⟩)
  refine thn (hy _ s' σ H' (.ref acc) (.ref acc) _ IP rfl q) fun _ s'' ⟨σ6,H6,I6,q6⟩=>?_
  have pC:=I6.pin (C,oC) (List.mem_append_right _ (List.mem_append_right _ (mem_pinsAt (List.mem_singleton.mpr rfl) hoC)))
  obtain ⟨f0,f1,f2,f3,f4,f5⟩:=f
  exact ⟨m,⟨oC,es,ep,pC.1,hdC,hrC⟩,fun h' hs'=>⟨σ6,H6,I6.unpinned.turned (t':=s''.toks) (fun b o hb e=>hs'.extBut b o hb e) pC.2.1 f1 f3 f4 f5,q6⟩⟩
end
end L2
namespace L2
open PySem PySem.Spec PyProof.Rows
section
variable {X:Cx} {a b c d:Expr} {ta tb tc td:TE} {pos:Pos}
theorem ix_tupK {K:PySem.W.Frag} (hK:X.K=K:=by rfl):IxR X (rIxT K):=by subst hK; exact ix_tup
theorem ix_listK {K:PySem.W.Frag} (hK:X.K=K:=by rfl):IxR X (rIxL K):=by subst hK; exact ix_list
end
def fW (acc:Addr) (n:Nat) (Pv:Nat→List V→St→Hp→Prop) (i m:Nat) (σ:St) (H:Hp):Prop:=i≤n∧m=n - i∧∃ xs,xs.length≤i∧H acc=some (.lst xs)∧Pv i xs σ H
def fNx (acc:Addr) (n:Nat) (Pv:Nat→List V→St→Hp→Prop) (i:Nat) (σ:St) (v:V) (H:Hp):Prop:=∃ xs,H acc=some (.lst xs)∧xs.length < sizeLine∧∃ m',m' < n - i∧fW acc n Pv (i+1) m' σ (upd H acc (.lst (xs++[v])))
def fSk (acc:Addr) (n:Nat) (Pv:Nat→List V→St→Hp→Prop) (i:Nat) (σ:St) (H:Hp):Prop:=∃ m',m' < n - i∧fW acc n Pv (i+1) m' σ H
theorem fNx.mk {acc:Addr} {n:Nat} {Pv:Nat→List V→St→Hp→Prop} {i:Nat} {σ:St} {v:V} {H:Hp} {xs:List V} (hn:n≤sizeLine) (hi:i < n) (hl:xs.length≤i) (ha:H acc=some (.lst xs)) (hp:Pv (i+1) (xs++[v]) σ (upd H acc (.lst (xs++[v])))) :
    fNx acc n Pv i σ v H:=⟨xs,ha,by omega,n - (i+1),by omega,hi,rfl,xs++[v],by rw [List.length_append,List.length_singleton]; omega,upd_same,hp⟩
theorem fSk.mk {acc:Addr} {n:Nat} {Pv:Nat→List V→St→Hp→Prop} {i:Nat} {σ:St} {H:Hp} {xs:List V} (hi:i < n) (hl:xs.length≤i) (ha:H acc=some (.lst xs)) (hp:Pv (i+1) xs σ H):fSk acc n Pv i σ H:=⟨n - (i+1),by omega,hi,rfl,xs,by omega,ha,hp⟩
theorem comp_listF {K:PySem.W.Frag} {a:Addr} {ys:List V} {g:TG} {tc:TT} {te:TE} {σ:St} {H1:Hp} {acc:Addr} {Qr:Hp→Prop} (Pv:Nat→List V→St→Hp→Prop) (h0:Pv 0 [] σ (upd H1 acc (.lst [])))
    (hq:∀ i xs σ H,i≤ys.length→H acc=some (.lst xs)→Pv i xs σ H→SqL K H a ys)
    (hs:∀ i x xs σ H,ys[i]?=some x→i < ys.length→xs.length≤i→H acc=some (.lst xs)→Pv i xs σ H→g x σ H fun σ2 H2=>tc σ2 H2 fun b Hb=>match b with
      | true=>te σ2 Hb fun v H3=>fNx acc ys.length Pv i σ2 v H3
      | false=>fSk acc ys.length Pv i σ2 Hb)
    (hd:∀ xs σ H,xs.length≤ys.length→H acc=some (.lst xs)→Pv ys.length xs σ H→Qr H) :
    ∃ W:Nat→Nat→St→Hp→Prop,(∃ m,W 0 m σ (upd H1 acc (.lst [])))∧∀ i m σ1 H2,W i m σ1 H2 →
      ((Itl K a).stop i H2∧Qr H2)∨((Itl K a).go i H2∧∀ x H3,(Itl K a).yld i H2 x H3→g x σ1 H3 fun σ4 H4=>tc σ4 H4 fun b Hb=>match b with
        | true=>te σ4 Hb fun v H5=>∃ xs,H5 acc=some (.lst xs)∧xs.length < sizeLine∧∃ m',m' < m∧W (i+1) m' σ4 (upd H5 acc (.lst (xs++[v])))
        | false=>∃ m',m' < m∧W (i+1) m' σ4 Hb):=by
  refine ⟨fW acc ys.length Pv,⟨ys.length,Nat.zero_le _,rfl,[],Nat.le_refl _,upd_same,h0⟩,?_⟩
  rintro i m σ1 H2 ⟨hi,rfl,xs,hl,ha,hp⟩
  have hsq:=hq i xs σ1 H2 hi ha hp
  rcases Nat.lt_or_ge i ys.length with h | h
  · refine .inr ⟨⟨ys,ys[i],hsq,List.getElem?_eq_getElem h⟩,?_⟩
    rintro x H3 ⟨rfl,hx⟩
    exact hs i x xs σ1 H3 (hx ys hsq) h hl ha hp
  · have e:i=ys.length:=Nat.le_antisymm hi h
    subst e
    exact .inl ⟨⟨ys,hsq,Nat.le_refl _⟩,hd xs σ1 H2 hl ha hp⟩
end L2
namespace L2
open PySem PySem.Spec PyProof.Rows PySem.W
section
variable {X:Cx}
end
end L2
namespace L2
open PySem PySem.Spec PyProof.Rows
theorem Paired.get {α β:Type} {F:α→β→Prop}:∀ {l₁:List α} {l₂:List β},Paired F l₁ l₂→∀ {i:Nat} {a:α},l₁[i]?=some a→∃ b,l₂[i]?=some b∧F a b
  | _,_,.nil,i,a,h=>by simp at h
  | _,_,.cons f t,0,a,h=>by
    simp only [List.getElem?_cons_zero,Option.some.injEq] at h
    subst h
    exact ⟨_,rfl,f⟩
  | _,_,.cons f t,i+1,a,h=>by
    simp only [List.getElem?_cons_succ] at h ⊢
    exact Paired.get t h
section
variable {X:Cx}
end
section
variable {X:Cx}
end
section
variable {prog:Program} {w:World} {A:Around} {E:Value→Shared→Prop} {s:Shared}
end
section
variable {X:Cx}
end
section
variable {prog:Program} {w:World} {A:Around} {E:Value→Shared→Prop} {s:Shared} {R:Result→Shared→Prop} {I:Addr} {fp wr:List Addr} {n:Nat} {P:Nat→Value→Prop} {St:Nat→Heap→Prop}
end
section
variable {X:Cx}
end
section
variable {X:Cx} {a:Expr} {ta:TE}
end
theorem comp_rangeF {lo:Int} {n:Nat} {g:TG} {tc:TT} {te:TE} {σ:St} {H1:Hp} {acc:Addr} {Qr:Hp→Prop} (Pv:Nat→List V→St→Hp→Prop) (h0:Pv 0 [] σ (upd H1 acc (.lst [])))
    (hs:∀ i xs σ H,i < n→xs.length≤i→H acc=some (.lst xs)→Pv i xs σ H→g (.int (lo+i)) σ H fun σ2 H2=>tc σ2 H2 fun b Hb=>match b with
      | true=>te σ2 Hb fun v H3=>fNx acc n Pv i σ2 v H3
      | false=>fSk acc n Pv i σ2 Hb)
    (hd:∀ xs σ H,xs.length≤n→H acc=some (.lst xs)→Pv n xs σ H→Qr H) :
    ∃ W:Nat→Nat→St→Hp→Prop,(∃ m,W 0 m σ (upd H1 acc (.lst [])))∧∀ i m σ1 H2,W i m σ1 H2 →
      ((Itr lo n).stop i H2∧Qr H2)∨((Itr lo n).go i H2∧∀ x H3,(Itr lo n).yld i H2 x H3→g x σ1 H3 fun σ4 H4=>tc σ4 H4 fun b Hb=>match b with
        | true=>te σ4 Hb fun v H5=>∃ xs,H5 acc=some (.lst xs)∧xs.length < sizeLine∧∃ m',m' < m∧W (i+1) m' σ4 (upd H5 acc (.lst (xs++[v])))
        | false=>∃ m',m' < m∧W (i+1) m' σ4 Hb):=by
  refine ⟨fW acc n Pv,⟨n,Nat.zero_le _,rfl,[],Nat.le_refl _,upd_same,h0⟩,?_⟩
  rintro i m σ1 H2 ⟨hi,rfl,xs,hl,ha,hp⟩
  rcases Nat.lt_or_ge i n with h | h
  · refine .inr ⟨h,?_⟩
    rintro x H3 ⟨rfl,rfl⟩
    exact hs i xs σ1 H3 h hl ha hp
  · have e:i=n:=Nat.le_antisymm hi h
    subst e
    exact .inl ⟨Nat.le_refl _,hd xs σ1 H2 hl ha hp⟩
end L2
namespace L2
open PySem PySem.Spec PyProof.Rows
section
variable {X:Cx}
end
end L2
namespace L2
open PySem PySem.Spec PyProof.Rows
section
variable {X:Cx} {k j:Nat} {x y:Str} {ps:List Str} {sp:Sp} {p pos:Pos} {e:Expr} {es:List Expr} {tv:TE} {t:TA}
end
section
variable {prog:Program} {w:World} {A:Around} {E:Value→Shared→Prop} {s:Shared} {it d v:Addr} {i n ep:Nat} {od:Obj} {es:Array DictEntry} {k0 v0:Value}
end
theorem frzT_at {P:Program} {w:World} {H:Hp} {h:Heap} {a:Addr} {ob:Obj} {kvs:List (List Key × V)} {ents:Array DictEntry} {ep:Nat} (ok:HOk P w H h) (e:H a=some (.frz ob (.dT kvs))) (hd:ob.data=.dict ents ep) :
    h.get? a=some ob∧∃ xs,KT H kvs xs∧ents.toList=xs.map (entryOfKey (tupleKind (mixKind P w)))∧ents.size=kvs.length:=by
  obtain ⟨ho,_,_,xs,rel,o,es,ep',h1,h2,h3,h4,h5⟩:=(show ObjOk P w H h a (.frz ob (.dT kvs)) from ok a _ e)
  rw [ho] at h1
  cases h1
  rw [hd] at h3
  cases h3
  refine ⟨ho,xs,rel,h4,?_⟩
  rw [size_of_entries h4]
  exact (Paired.length rel).symm
section
variable {X:Cx}
end
end L2
namespace L2
open PySem PySem.Spec PyProof.Rows
section
variable {prog:Program} {w:World} {A:Around} {E:Value→Shared→Prop} {s:Shared} {d:Addr} {od:Obj} {es:Array DictEntry} {ep:Nat}
theorem len_raw {Q:Value→Shared→Prop} (hs:(d == sysModules)=false) (hT:s.TypeIs (.ref d) "dict") (hd:s.heap.get? d=some od) (dd:od.data=.dict es ep) (fit:(es.size:Int) < 2^63)
    (fin:Q (.int es.size (s.toks+1)) { s with toks:=s.toks+1+1 }):wpAny (model prog w) A (call (.builtin "len") [.ref d]) Q E s:=by
  refine Calls.call_function_entry kind_len plain_len entry_len (args_len1 _) ?_
  unfold Builtin.«len»
  refine wpAny_bind (m:=oneArg "len" _) (wpAny_pure ?_)
  refine wpAny_bind (m:=callSpecial? (.ref d) (Str.ofString "__len__")) (wpAny_callSpecial?_slot (name:=Str.ofString "__len__") hT PySem.F.slot_dict_len (wpAny_call_entry PySem.F.slot_dict_len hT PySem.F.entry_dict_len ?_ (PySem.F.args_dict_len_1 _)))
  unfold Builtin.«dict.__len__» Builtin.Dict.dictSlotNone
  refine wpAny_bind (wpAny_bind (wpAny_notOrdered_dict hT ?_))
  show wpAny (model prog w) _ (pure (Value.ref d)) _ _ s
  refine wpAny_pure (wpAny_bind (wpAny_pure ?_))
  unfold dictSize
  refine wpAny_bind (wpAny_bind (wpAny_dictEntries hd dd (wpAny_pure ?_)))
  refine wpAny_bind (wpAny_pendingCount_other hs ?_)
  refine wpAny_ret_mkInt ?_
  refine wpAny_bind (wpAny_holding (wpAny_pure ?_))
  refine wpAny_bind (wpAny_letGo ?_)
  have c1:¬ ((es.size+0:Nat):Int) < 0:=by omega
  have c2:¬ ((es.size+0:Nat):Int)≥2^63:=by omega
  show wpAny (model prog w) _ (if ((es.size+0:Nat):Int) < 0 then _ else _) _ _ _
  rw [if_neg c1]
  show wpAny (model prog w) _ (if ((es.size+0:Nat):Int)≥2^63 then _ else _) _ _ _
  rw [if_neg c2]
  exact wpAny_bind (wpAny_mkInt (wpAny_pure ⟨_,rfl,fin⟩))
end
section
variable {X:Cx}
theorem call_lenT:CallR X (.builtin "len") (fun xs H Q=>∃ a kvs,xs=[V.ref a]∧H a=some (.dT kvs)∧Q (.int kvs.length) H):=by
  intro pins s σ H xs us Q I r h
  obtain ⟨a,kvs,rfl,ea,q⟩:=h
  obtain ⟨u,rfl,ru⟩:=vals1 r
  cases ru
  obtain ⟨z,hsys,ys,rel,o,es,ep,h1,h2,h3,h4,h5⟩:=(show ObjOk X.prog X.w H s.heap a (.dT kvs) from I.hok a _ ea)
  have hl:es.size=kvs.length:=by rw [size_of_entries h4]; exact (Paired.length rel).symm
  refine len_raw hsys ⟨o,h1,h2.1⟩ h1 h3 (by rw [sizeLine_eq] at z; omega) ?_
  rw [hl]
  exact ⟨.int kvs.length,H,I.tok _,⟨_,rfl⟩,q⟩
end
section
variable {X:Cx}
end
end L2
namespace L2
open PySem PySem.Spec PyProof.Rows
section
variable {prog:Program} {w:World} {A:Around} {E:Value→Shared→Prop} {s:Shared} {it d:Addr} {i ep:Nat} {od:Obj} {es:Array DictEntry}
theorem keys_begun {Q:Value→Shared→Prop} (hs:(d == sysModules)=false) (hT:s.TypeIs (.ref d) "dict") (hd:s.heap.get? d=some od) (dd:od.data=.dict es ep)
    (fin:Q (.ref s.heap.objs.size) { s with heap:=s.heap.push { cls:=.type "dict_keyiterator",data:=.fields #[.ref d,.int 0 0,.int es.size 0,.int ep 0] } }):wpAny (model prog w) A (pyIter (.ref d)) Q E s:=by
  refine wpAny_pyIter_slot hT PySem.F.slot_dict_iter (wpAny_call_entry PySem.F.slot_dict_iter hT PySem.F.entry_dict_iter ?_ (PySem.F.args_dict_iter_1 _))
  unfold Builtin.«dict.__iter__» Builtin.Dict.dictSlotNone
  refine wpAny_bind (wpAny_bind (wpAny_notOrdered_dict hT ?_))
  show wpAny (model prog w) _ (pure (Value.ref d)) _ _ s
  refine wpAny_pure ?_
  show wpAny (model prog w) _ (Builtin.Dict.showsAll d >>= _) _ _ s
  unfold Builtin.Dict.showsAll
  have no:¬ (d == sysModules)=true:=by rw [hs]; exact Bool.false_ne_true
  rw [if_neg no]
  refine wpAny_bind (wpAny_pure (wpAny_bind (wpAny_dictEntries hd dd (wpAny_bind (wpAny_dictEpoch hd dd ?_)))))
  refine wpAny_bind (wpAny_newObj_type (wpAny_pure ⟨_,rfl,"dict_keyiterator",_,⟨_,Heap.get?_push_size _ rfl,rfl⟩,PySem.F.slot_dict_keyiterator_next.lookup,?_⟩))
  simpa [rawInt] using fin
theorem next_key {e:DictEntry} {Q:Option Value→Shared→Prop} (hit:s.heap.IsKeyIter it d i es.size ep) (hod:s.heap.get? d=some od) (hdd:od.data=.dict es ep) (he:es[i]?=some e)
    (fin:∀ h',h'.IsKeyIter it d (i+1) es.size ep→Heap.SameBut it s.heap h'→Q (some e.key) { s with heap:=h' }):wpAny (model prog w) A (pyNext (.ref it)) Q E s:=by
  obtain ⟨o,ho,hc,hd⟩:=id hit
  obtain ⟨lt,rfl⟩:=Array.getElem?_eq_some_iff.mp he
  unfold pyNext
  refine wpAny_bind (wpAny_attempt (wpAny_callSpecial?_slot (name:=Str.ofString "__next__") hit.typeIs PySem.F.slot_dict_keyiterator_next
    (wpAny_call_entry PySem.F.slot_dict_keyiterator_next hit.typeIs PySem.F.entry_dict_keyiterator_next ?_ (PySem.F.args_dict_keyiterator_next_1 _))))
  refine wpAny_bind (wpAny_pure (wpAny_bind (wpAny_bind ?_)))
  first | refine wpAny_bind (wpAny_typeNameOfWhole_keyiter hit.typeIs (wpAny_pure ?_)) | refine wpAny_bind (wpAny_typeNameOf_keyiter hit.typeIs (wpAny_pure ?_))
  refine wpAny_bind (wpAny_fieldsOf ho hd ?_)
  have own:Builtin.Dict_items.ownsTuple "dict_keyiterator"=false:=by decide
  simp only [own,Bool.false_eq_true,if_false]
  show wpAny _ _ (if (Value.ref d == Value.none)=true then _ else _) _ _ s
  rw [if_neg (show ¬ ((Value.ref d == Value.none)=true) from Bool.false_ne_true)]
  refine wpAny_bind (wpAny_pure (wpAny_bind (wpAny_dictEntries hod hdd ?_)))
  rw [if_neg (by simp)]
  refine wpAny_bind (wpAny_pure (wpAny_bind (wpAny_dictEpoch hod hdd ?_)))
  rw [if_neg (by simp)]
  refine wpAny_pure ?_
  simp only [show ¬ ((i:Int) < 0) from by omega,if_false,Int.toNat_natCast,Array.getElem?_eq_getElem lt]
  refine wpAny_bind ?_
  first | refine wpAny_bind (wpAny_typeNameOfWhole_keyiter hit.typeIs (wpAny_pure ?_)) | refine wpAny_bind (wpAny_typeNameOf_keyiter hit.typeIs (wpAny_pure ?_))
  refine wpAny_bind (wpAny_isOneOf_keyiter hit.typeIs ?_)
  show wpAny _ _ (setField (.ref it) 1 (rawInt ((i:Int)+1)) >>= _) _ _ s
  refine wpAny_bind (wpAny_setField ho hd (by simp) ?_)
  have hit':(s.heap.update it (Obj.mapFields (·.setIfInBounds 1 (rawInt ((i:Int)+1))))).IsKeyIter it d (i+1) es.size ep :=
    ⟨_,Heap.get?_update_self _ ho (Obj.isFreed_of_fields (Obj.data_mapFields hd _)),(Obj.cls_mapFields ..).trans hc,by rw [Obj.data_mapFields hd]; simp [rawInt]⟩
  refine wpAny_bind (wpAny_holding ?_)
  refine wpAny_bind (wpAny_isOneOf_keyiter (s:={ s with heap:=s.heap.update it (Obj.mapFields (·.setIfInBounds 1 (rawInt ((i:Int)+1)))) }) hit'.typeIs ?_)
  show wpAny _ _ (pure es[i].key) _ _ _
  exact wpAny_pure (wpAny_pure ⟨_,rfl,wpAny_pure (fin _ hit' (Heap.SameBut.update ..))⟩)
theorem next_key_none {Q:Option Value→Shared→Prop} (hh:A.handled=none) (hit:s.heap.IsKeyIter it d i es.size ep) (hod:s.heap.get? d=some od) (hdd:od.data=.dict es ep) (he:es.size≤i)
    (fin:∀ h',Heap.ExtBut it s.heap h'→Q none { s with heap:=h' }):wpAny (model prog w) A (pyNext (.ref it)) Q E s:=by
  obtain ⟨o,ho,hc,hd⟩:=id hit
  unfold pyNext
  refine wpAny_bind (wpAny_attempt (wpAny_callSpecial?_slot (name:=Str.ofString "__next__") hit.typeIs PySem.F.slot_dict_keyiterator_next
    (wpAny_call_entry PySem.F.slot_dict_keyiterator_next hit.typeIs PySem.F.entry_dict_keyiterator_next ?_ (PySem.F.args_dict_keyiterator_next_1 _))))
  refine wpAny_bind (wpAny_pure (wpAny_bind (wpAny_bind ?_)))
  first | refine wpAny_bind (wpAny_typeNameOfWhole_keyiter hit.typeIs (wpAny_pure ?_)) | refine wpAny_bind (wpAny_typeNameOf_keyiter hit.typeIs (wpAny_pure ?_))
  refine wpAny_bind (wpAny_fieldsOf ho hd ?_)
  have own:Builtin.Dict_items.ownsTuple "dict_keyiterator"=false:=by decide
  simp only [own,Bool.false_eq_true,if_false]
  show wpAny _ _ (if (Value.ref d == Value.none)=true then _ else _) _ _ s
  rw [if_neg (show ¬ ((Value.ref d == Value.none)=true) from Bool.false_ne_true)]
  refine wpAny_bind (wpAny_pure (wpAny_bind (wpAny_dictEntries hod hdd ?_)))
  rw [if_neg (by simp)]
  refine wpAny_bind (wpAny_pure (wpAny_bind (wpAny_dictEpoch hod hdd ?_)))
  rw [if_neg (by simp)]
  refine wpAny_pure ?_
  simp only [show ¬ ((i:Int) < 0) from by omega,if_false,Int.toNat_natCast,Array.getElem?_eq_none he]
  refine wpAny_bind ?_
  first | refine wpAny_bind (wpAny_typeNameOfWhole_keyiter hit.typeIs (wpAny_pure ?_)) | refine wpAny_bind (wpAny_typeNameOf_keyiter hit.typeIs (wpAny_pure ?_))
  show wpAny _ _ (setField (.ref it) 0 .none >>= _) _ _ s
  refine wpAny_bind (wpAny_setField ho hd (by simp) ?_)
  show wpAny _ _ (newExc (.type "StopIteration") [] >>= _) _ _ _
  refine wpAny_bind ?_
  simp only [newExc,newTuple]
  refine wpAny_bind (wpAny_newObj_type ?_ (by size_fits))
  refine wpAny_bind (m:=firstArgMember _ _) (wpAny_of_eq (a:=Value.none) (by first | rfl | (simp only [firstArgMember]; rfl)) ?_)
  refine wpAny_newObj_type ?_ (by size_fits)
  simp only [raiseNew]
  refine wpAny_bind (wpAny_handled ?_)
  rw [show A.in1.handled=none from hh]
  refine wpAny_bind (wpAny_pure (wpAny_throw ?_))
  refine wpAny_bind (wpAny_isInstance (T:="StopIteration") (b:=true) ⟨_,Heap.get?_push_size _ rfl,rfl⟩ isSubtype_stop ?_)
  exact wpAny_pure (fin _ (((Heap.SameBut.update ..).extBut.push _).push _))
end
def Itq (a:Addr) (ob:Obj):It :=
  ⟨fun i H=>∃ kvs p,H a=some (.frz ob (.dT kvs))∧kvs[i]?=some p,
   fun i H y H'=>∃ b p,(∀ kvs,H a=some (.frz ob (.dT kvs))→kvs[i]?=some p)∧H b=some (.tup (p.1.map kV))∧y=.ref b∧H'=H,
   fun i H=>∃ kvs,H a=some (.frz ob (.dT kvs))∧kvs.length≤i⟩
theorem turn_keysT {P:Program} {w:World} {K:PySem.W.Frag} {tg:Expr} (a it:Addr) {ob:Obj} {ents:Array DictEntry} {ep:Nat} (hd:ob.data=.dict ents ep) :
    Turn P w K tg (Itq a ob) [it] it (fun i h=>h.IsKeyIter it a i ents.size ep) where
  mem:=by simp
  obj:=fun i h st b hb=>by
    obtain ⟨o,e,c,d⟩:=st
    rw [List.mem_singleton.mp hb]
    exact ⟨o,e,fun v z=>by rw [d] at z; cases z⟩
  keep:=fun i h h' st k=>st.at fun o e=>k it (by simp) o e
  item:=by
    intro X hP hw hK hc i pins s σ H E I hf st hg
    subst hP hw hK
    obtain ⟨kvs,p,hq,hx⟩:=hg
    obtain ⟨ho,xs,rel,hes,hl⟩:=frzT_at I.hok hq hd
    obtain ⟨⟨k',b,u⟩,hu,hk',hb,ru⟩:=Paired.get rel hx
    obtain ⟨f0,f1,f2,f3,f4,f5⟩:=hf it (by simp)
    have hei:ents[i]?=some ⟨(tupleKind (mixKind X.prog X.w)).hash k',.ref b,u⟩:=by rw [entry_at hes i,hu]; rfl
    refine next_key st ho hd hei fun h' st' sb=>?_
    have I1:Inv X pins σ H { s with heap:=h' }:=I.turned (t':=s.toks) (fun b o hb e=>(sb.2 b hb).trans e) f0 f1 f3 f4 f5
    refine ⟨_,rfl,letGo_keyiter (s':={ s with heap:=h' }) st' ⟨.ref b,H,I1,rfl,⟨b,p,fun ys hy=>?_,hb,rfl,rfl⟩,st',fun b hb=>(hf b hb).1⟩⟩
    rw [hq] at hy
    cases hy
    exact hx
  done:=by
    intro X hP hw hK hc i pins s σ H E I hf st hg
    subst hP hw hK
    obtain ⟨kvs,hq,hx⟩:=hg
    obtain ⟨ho,xs,rel,hes,hl⟩:=frzT_at I.hok hq hd
    obtain ⟨f0,f1,f2,f3,f4,f5⟩:=hf it (by simp)
    exact next_key_none (I.ok.hd hc) st ho hd (by omega) fun h' eb=>⟨rfl,I.turned (t':=s.toks) (fun b o hb z=>eb b o hb z) f0 f1 f3 f4 f5⟩
  self:=fun _ _ _ _ _ st h=>wpAny_pyIter_keyiter st h
def iKeysT (td:TE):TI:=fun σ H R=>td σ H fun x H1=>∃ a kvs,x=.ref a∧Rd H1 a (.dT kvs)∧∀ ob,R (Itq a ob) (upd H1 a (.frz ob (.dT kvs)))
section
variable {X:Cx}
theorem pi_keysT {tg o:Expr} {td:TE} (hp:PE X o td):PI X tg o (iKeysT td):=by
  intro pins s σ H R I h
  refine thn (hp pins s σ H _ I h) fun v s1 ⟨x,H1,I1,r1,q1⟩=>?_
  obtain ⟨a,kvs,e,ea,q⟩:=q1
  subst e
  cases r1
  obtain ⟨hty,hnd,hsys⟩:=isD_at I1 (.inr ⟨kvs,ea⟩)
  rcases ea with ea | ⟨ob,ea⟩
  · obtain ⟨_,_,xs,rel,ob,ents,ep,g1,g2,g3,g4,g5⟩:=(show ObjOk X.prog X.w H1 s1.heap a (.dT kvs) from I1.hok a _ ea)
    refine keys_begun hsys hty g1 g3 ?_
    have I3:=I1.kept (h':=s1.heap.push { cls:=.type "dict_keyiterator",data:=.fields #[.ref a,.int 0 0,.int ents.size 0,.int ep 0] }) (t':=s1.toks) fun b u z=>Heap.get?_push_of_some _ z
    have g1':(s1.heap.push { cls:=.type "dict_keyiterator",data:=.fields #[.ref a,.int 0 0,.int ents.size 0,.int ep 0] }).get? a=some ob:=Heap.get?_push_of_some _ g1
    have new:ObjOk X.prog X.w (upd H1 a (.frz ob (.dT kvs))) (s1.heap.push { cls:=.type "dict_keyiterator",data:=.fields #[.ref a,.int 0 0,.int ents.size 0,.int ep 0] }) a (.frz ob (.dT kvs)):=by
      obtain ⟨y1,y2,ys,yr,y3⟩:=(show ObjOk X.prog X.w H1 _ a (.dT kvs) from I3.hok a _ ea)
      refine ⟨g1',y1,y2,ys,KT.keeps yr fun c zs ec=>?_,y3⟩
      rw [upd_ne (ne_of ec ea (fun z=>nomatch z))]
      exact ec
    have I4:=I3.write (x:=a) (e:=a) (o:=.frz ob (.dT kvs)) (h':=s1.heap.push { cls:=.type "dict_keyiterator",data:=.fields #[.ref a,.int 0 0,.int ents.size 0,.int ep 0] }) (t':=s1.toks)
      (by rw [ea]; exact True.intro) (.inl rfl) (fun b u _ z=>z) ⟨ob,g1'⟩ new
    have na:s1.heap.objs.size≠a:=Nat.ne_of_gt (Heap.lt_size g1)
    refine ⟨s1.heap.objs.size,[s1.heap.objs.size],_,_,_,rfl,I4,turn_keysT a _ g3,⟨_,Heap.get?_push_size _ rfl,rfl,rfl⟩,fun b hb'=>?_,q ob⟩
    rw [List.mem_singleton.mp hb']
    refine I1.fpOk (Nat.le_refl _) ?_
    rw [upd_ne na]
    exact I1.hok.fresh (Nat.le_refl _)
  · obtain ⟨g1,_,_,xs,rel,ob',ents,ep,g1',g2,g3,g4,g5⟩:=(show ObjOk X.prog X.w H1 s1.heap a (.frz ob (.dT kvs)) from I1.hok a _ ea)
    rw [g1] at g1'
    cases g1'
    refine keys_begun hsys hty g1 g3 ?_
    have I3:=I1.kept (h':=s1.heap.push { cls:=.type "dict_keyiterator",data:=.fields #[.ref a,.int 0 0,.int ents.size 0,.int ep 0] }) (t':=s1.toks) fun b u z=>Heap.get?_push_of_some _ z
    have eH:upd H1 a (.frz ob (.dT kvs))=H1:=by
      funext c
      by_cases z:c=a
      · rw [z,upd_same,ea]
      · rw [upd_ne z]
    have qq:=q ob
    rw [eH] at qq
    refine ⟨s1.heap.objs.size,[s1.heap.objs.size],_,_,_,rfl,I3,turn_keysT a _ g3,⟨_,Heap.get?_push_size _ rfl,rfl,rfl⟩,fun b hb'=>?_,qq⟩
    rw [List.mem_singleton.mp hb']
    exact I1.fpOk (Nat.le_refl _) (I1.hok.fresh (Nat.le_refl _))
end
theorem for_keysT {a:Addr} {ob:Obj} {kvs:List (List Key × V)} {g:TG} {tb:TS} {D:Ends} {σ:St} {H:Hp} (Pv:Nat→St→Hp→Prop) (h0:Pv 0 σ H) (hl:∀ i σ H,i≤kvs.length→Pv i σ H→H a=some (.frz ob (.dT kvs)))
    (hs:∀ i p σ H b,kvs[i]?=some p→Pv i σ H→H b=some (.tup (p.1.map kV))→g (.ref b) σ H fun σ2 H2=>tb { D with nx:=Pv (i+1),ct:=Pv (i+1),bk:=D.nx } σ2 H2) (hd:∀ σ H,Pv kvs.length σ H→D.nx σ H) :
    ∃ W:Nat→Nat→St→Hp→Prop,(∃ m,W 0 m σ H)∧∀ i m σ H,W i m σ H →
      ((Itq a ob).stop i H∧D.nx σ H)∨((Itq a ob).go i H∧∃ N:St→Hp→Prop,(∀ σ' H',N σ' H'→∃ m',m' < m∧W (i+1) m' σ' H')∧∀ x H',(Itq a ob).yld i H x H'→g x σ H' fun σ2 H2=>tb { D with nx:=N,ct:=N,bk:=D.nx } σ2 H2):=by
  refine ⟨fun i m σ H=>m=kvs.length - i∧i≤kvs.length∧Pv i σ H,⟨kvs.length,by simp,Nat.zero_le _,h0⟩,?_⟩
  rintro i m σ H ⟨rfl,hi,p⟩
  have q:=hl i σ H hi p
  by_cases hlt:i < kvs.length
  · refine .inr ⟨⟨kvs,kvs[i],q,by simp [hlt]⟩,Pv (i+1),fun σ' H' p'=>⟨kvs.length - (i+1),by omega,rfl,hlt,p'⟩,fun x H' y=>?_⟩
    obtain ⟨b,z,hz,hb,rfl,rfl⟩:=y
    exact hs i z σ _ b (hz kvs q) p hb
  · have e:i=kvs.length:=by omega
    subst e
    exact .inl ⟨⟨kvs,q,Nat.le_refl _⟩,hd σ H p⟩
end L2
namespace L2
open PySem PySem.Spec PyProof.Rows
section
variable {X:Cx}
end
end L2
namespace L2
open PySem PySem.Spec PyProof.Rows
section
variable {X:Cx}
end
section
variable {X:Cx}
end
end L2
namespace L2
open PySem PySem.Spec PyProof.Rows
section
open HT
variable {prog:Program} {w:World} {A:Around} {E:Value→Shared→Prop} {s:Shared}
end
section
variable {X:Cx} {e st:Expr} {te ts:TE} {pos p2:Pos}
end
end L2
namespace L2
open PySem PySem.Spec PyProof.Rows
section
variable {prog:Program} {w:World} {A:Around} {E:Value→Shared→Prop} {s:Shared} {R:Result→Shared→Prop} {I:Addr} {fp wr:List Addr} {n:Nat} {P:Nat→Value→Prop} {St:Nat→Heap→Prop}
end
section
variable {X:Cx}
end
end L2
namespace L2
open PySem PySem.Spec PyProof.Rows
end L2
namespace L2
open PySem PySem.Spec PyProof.Rows
section
variable {X:Cx}
end
end L2
namespace L2
open PySem PySem.Spec PyProof.Rows
section
open PySem.SeqAt
open PySem.AutoSeq1 (wpAny_loadPart')
open PySem.MeetsSeq PySem.MeetsSeq2 PySem.MeetsSeq3
variable {prog:Program} {w:World} {A:Around} {E:Value→Shared→Prop} {s:Shared}
end
section
variable {X:Cx}
end
end L2
namespace L2
open PySem PySem.Spec PyProof.Rows
section
variable {X:Cx}
end
section
variable {X:Cx} {tg:Expr}
end
end L2
namespace L2
open PySem PySem.Spec PyProof.Rows PySem.W
section
variable {X:Cx} {k j:Nat} {m:Str} {ps:List Str} {sp:Sp} {pos apos:Pos} {e o:Expr} {es:List Expr} {t:TA} {ta:TE} {S:Addr→Prop}
end
section
variable {X:Cx} {g:Str} {G:Addr} {value:Expr} {b₀:Stmt} {suite:List Stmt} {apos gp hpos pos:Pos} {te:XK→TE} {ts:TS}
end
end L2
namespace L2
open PySem PySem.Spec PyProof.Rows PySem.W
section
variable {P:Program} {w:World} {K:PySem.W.Frag} {mg:Str→Option Value} {base:Heap}
end
end L2
namespace L2
open PySem PySem.Spec PyProof.Rows PySem.W
end L2
namespace L2
open PySem PySem.Spec PyProof.Rows
section
variable {X:Cx} {elt tg iter:Expr} {scope:Scope} {pos:Pos} {wi:TI} {g:TG} {te:TE} {N:List Str} {fr:List (Option Nat)}
end
end L2
namespace L2
open PySem PySem.Spec PyProof.Rows PySem.W
section
variable {M:Model} {A:Around} {E:Value→Shared→Prop} {s:Shared} {e:Addr} {cls:Value} {d:Option Addr} {vs:Array Value} {sl:Array (Option Value)}
end
section
variable {M:Model} {A:Around} {E:Value→Shared→Prop} {s:Shared} {base:Heap} {env:Env} {outer:List Env} {L e:Addr} {cls:Value} {d:Option Addr} {vs:Array Value} {sl:Array (Option Value)} {Q:Unit→Shared→Prop}
end
end L2
namespace L2
open PySem PySem.Spec PyProof.Rows PySem.W
section
variable {X:Cx} {pins:List (Addr × Obj)} {σ:St} {H:Hp} {s:Shared} {x C T:Addr} {d:Option Addr} {h1 h2:Heap} {fl:Value} {tt:List Addr} {nw:HO}
end
end L2
namespace L2
open PySem PySem.Spec PyProof.Rows PySem.W
section
variable {X:Cx} {elt tg iter:Expr} {scope:Scope} {pos:Pos} {wi:TI} {g:TG} {te:TE} {N:List Str} {fr:List (Option Nat)}
end
section
variable {P:Program} {w:World} {K:PySem.W.Frag} {mg:Str→Option Value} {base:Heap} {N:List Str} {qual:Str} {scope:Scope} {f:Addr} {cd:Value} {A:Around} {outer:List Env} {s:Shared} {H:Hp} {E:XK} {Hs:Hp}
end
end L2
namespace L2
open PySem PySem.Spec PyProof.Rows PySem.W
def PXS (X:Cx) (st:Stmt) (t:XK→TS):Prop:=∀ (E:XK) (pins:List (Addr × Obj)) (s:Shared) (σ:St) (H:Hp) (D:Ends) (Ex:Value→Shared→Prop),Inv X pins σ H s→t E D σ H →
  (∀ x T C d H' s',Inv X pins σ H' s'→Flown H' x C d T→E (.ref x) d H'→Ex (.ref x) s')→wpAny (model X.prog X.w) X.A (exec st X.env) (SP X pins D) Ex s
section
variable {X:Cx} {i im:Nat} {n m g:Str} {G:Addr} {value c:Expr} {b₀ st su:Stmt} {suite:List Stmt} {np apos gp hpos pos:Pos} {te:XK→TE} {ts:TS} {t u:XK→TS} {tc:TT}
end
end L2
namespace L2
open PySem PySem.Spec PyProof.Rows PySem.W
section
variable {X:Cx}
end
end L2
namespace K21
open PySem L2 GB
def top (i:Nat):Stmt:=PySem.Challenge.pw_glazebench_k21_leads_of_a_block.main.body.getD i (.Pass ⟨0,0,0,0⟩)
abbrev s_is_whole:Stmt:=top 12
abbrev s_is_side:Stmt:=top 13
abbrev s_is_rectangle:Stmt:=top 14
abbrev s_inside:Stmt:=top 15
abbrev s_squares_of:Stmt:=top 16
abbrev s_check_sides:Stmt:=top 17
abbrev s_check_panes:Stmt:=top 18
abbrev s_panes_by_square:Stmt:=top 19
abbrev s_check_covered:Stmt:=top 20
abbrev s_Panel_init:Stmt:=inClass (top 21) 0
abbrev s_Panel_panes:Stmt:=inClass (top 21) 1
abbrev s_Panel_pane_at:Stmt:=inClass (top 21) 2
abbrev s_apart:Stmt:=top 23
abbrev s_is_block:Stmt:=top 24
abbrev s_check_block:Stmt:=top 25
abbrev s_runs:Stmt:=top 29
abbrev s_columns_parted:Stmt:=top 30
abbrev s_rows_parted:Stmt:=top 31
abbrev s_level_leads:Stmt:=top 32
abbrev s_upright_leads:Stmt:=top 33
abbrev s_leads:Stmt:=top 34
abbrev s__law_purse:Stmt:=top 36
abbrev s__law_take:Stmt:=top 37
abbrev s__law_tiled:Stmt:=top 38
abbrev s__law_wheel:Stmt:=top 39
abbrev s__law_cut_up:Stmt:=top 40
abbrev s__law_panes_in:Stmt:=top 41
abbrev s__law_drawn:Stmt:=top 42
abbrev s__law_points:Stmt:=top 43
abbrev s__law_bits:Stmt:=top 44
abbrev s__law_due:Stmt:=top 45
abbrev s__law_right:Stmt:=top 46
abbrev s_law:Stmt:=top 47
def wholeV:V→Bool
 | .int _=>true
 | _=>false
def sideV:V→Bool
 | .int i=>decide (1≤i) && decide (i≤12)
 | _=>false
def rectB:List V→Bool
 | [.int a,.int b,.int c,.int d]=>decide (0≤a) && decide (a < c) && (decide (0≤b) && decide (b < d))
 | _=>false
def Ty (H:Hp) (v:V):Prop:=∃ T,tyS H v=some T
theorem tyS_same {H H':Hp} (s:Same H H') {v:V} {T:String} (h:tyS H v=some T):tyS H' v=some T:=by
 cases v with
 | ref a =>
  have h:tyO (H a)=some T:=h
  show tyO (H' a)=some T
  cases e:H a with
  | none=>rw [e] at h; cases h
  | some o=>rw [e] at h; rw [s a o e]; exact h
 | _=>exact h
theorem Ty.same {H H':Hp} (s:Same H H') {v:V} (h:Ty H v):Ty H' v:=let ⟨T,e⟩:=h; ⟨T,tyS_same s e⟩
theorem whole_eq {H:Hp} {v:V} {T:String} (h:tyS H v=some T):(isB T "int"=true→(!isB T "bool")=wholeV v)∧(isB T "int"=false→false=wholeV v):=by
 cases v with
 | non=>cases h; exact ⟨fun z=>absurd z (by decide),fun _=>rfl⟩
 | bl b=>cases h; exact ⟨fun _=>by show (!isB "bool" "bool")=false; decide,fun z=>absurd z (by decide)⟩
 | int i=>cases h; exact ⟨fun _=>by show (!isB "int" "bool")=true; decide,fun z=>absurd z (by decide)⟩
 | str x=>cases h; exact ⟨fun z=>absurd z (by decide),fun _=>rfl⟩
 | byt b=>cases h
 | flt b=>cases h
 | ty n=>cases h
 | ref a =>
  have key:T="list"∨T="tuple"∨T="dict":=by
   have h:tyO (H a)=some T:=h
   unfold tyO at h
   split at h <;> first | (cases h; simp) | cases h
  rcases key with rfl | rfl | rfl <;> exact ⟨fun z=>absurd z (by decide),fun _=>rfl⟩
theorem ty_tup {H:Hp} {a:Addr} {xs:List V} (h:H a=some (.tup xs)):tyS H (.ref a)=some "tuple":=by
 show tyO (H a)=some "tuple"
 rw [h]; rfl
theorem ty_lst {H:Hp} {a:Addr} {xs:List V} (h:H a=some (.lst xs)):tyS H (.ref a)=some "list":=by
 show tyO (H a)=some "list"
 rw [h]; rfl
abbrev four (a b c d:Int):List V:=[.int a,.int b,.int c,.int d]
def insB (a0 a1 a2 a3 o0 o1 o2 o3:Int):Bool:=decide (o0≤a0) && decide (o1≤a1) && (decide (a2≤o2) && decide (a3≤o3))
def At (H:Hp) (ts:List (Addr × Rc)):Prop:=∀ t∈ts,H t.1=some (.tup (four t.2.t t.2.l t.2.b t.2.r))
theorem At.same {H H':Hp} {ts:List (Addr × Rc)} (a:At H ts) (s:Same H H'):At H' ts:=fun t h=>s _ _ (a t h)
theorem At.perm {H:Hp} {ts us:List (Addr × Rc)} (a:At H ts) (s:us.Perm ts):At H us:=fun t h=>a t (s.mem_iff.mp h)
abbrev refs (ts:List (Addr × Rc)):List V:=ts.map fun t=>V.ref t.1
abbrev rcs (ts:List (Addr × Rc)):List Rc:=ts.map (·.2)
theorem refs_snoc (us:List (Addr × Rc)) (x:Addr × Rc):refs (us++[x])=refs us++[V.ref x.1]:=by simp
theorem rcs_snoc (us:List (Addr × Rc)) (x:Addr × Rc):rcs (us++[x])=rcs us++[x.2]:=by simp
theorem refs_get {ts:List (Addr × Rc)} {i:Nat} {x:V} (h:(refs ts)[i]?=some x):∃ t,ts[i]?=some t∧x=.ref t.1:=by
 rw [List.getElem?_map] at h
 cases e:ts[i]? with
 | none=>rw [e] at h; cases h
 | some t=>rw [e] at h; exact ⟨t,rfl,(Option.some.inj h).symm⟩
def flds (w h:Int) (ls ld:Addr):List (Str × V):=putF "by_square" (.ref ld) (putF "sorted_panes" (.ref ls) (putF "height" (.int h) (putF "width" (.int w) [])))
theorem flds_w (w h:Int) (ls ld:Addr):(flds w h ls ld).lookup ("width":Str)=some (.int w):=by
 unfold flds
 rw [lookup_putF,if_neg (by decide +kernel),lookup_putF,if_neg (by decide +kernel),lookup_putF,if_neg (by decide +kernel),lookup_putF,if_pos rfl]
theorem flds_h (w h:Int) (ls ld:Addr):(flds w h ls ld).lookup ("height":Str)=some (.int h):=by
 unfold flds
 rw [lookup_putF,if_neg (by decide +kernel),lookup_putF,if_neg (by decide +kernel),lookup_putF,if_pos rfl]
theorem flds_s (w h:Int) (ls ld:Addr):(flds w h ls ld).lookup ("sorted_panes":Str)=some (.ref ls):=by
 unfold flds
 rw [lookup_putF,if_neg (by decide +kernel),lookup_putF,if_pos rfl]
theorem flds_d (w h:Int) (ls ld:Addr):(flds w h ls ld).lookup ("by_square":Str)=some (.ref ld):=by
 unfold flds
 rw [lookup_putF,if_pos rfl]
theorem flds_no (w h:Int) (ls ld:Addr) {m:Str} (h1:¬ m="by_square") (h2:¬ m="sorted_panes") (h3:¬ m="height") (h4:¬ m="width"):(flds w h ls ld).lookup m=none:=by
 unfold flds
 rw [lookup_putF,if_neg h1,lookup_putF,if_neg h2,lookup_putF,if_neg h3,lookup_putF,if_neg h4]; rfl
abbrev sqK (r c:Int):List Key:=[Sum.inl r,Sum.inl c]
theorem sqK_inj {r c r' c':Int} (h:sqK r c=sqK r' c'):r=r'∧c=c':=by
 injection h with h1 h2
 injection h2 with h2 _
 exact ⟨Sum.inl.inj h1,Sum.inl.inj h2⟩
structure PanelAt (C:Addr) (H:Hp) (a:Addr) (w h:Int) (ts:List (Addr × Rc)) (dx ls ld:Addr) (kvs:List (List Key × V)):Prop where
 ob:H a=some (.ins C dx (flds w h ls ld))
 lst:H ls=some (.lst (refs ts))
 dic:H ld=some (.dT kvs)
 ats:At H ts
 til:Tiles w h (rcs ts)
 few:ts.length≤52
 srt:Srt (rcs ts)
 look:∀ r c,0≤r→r < h→0≤c→c < w→∃ t∈ts,valV kvs (sqK r c)=some (.ref t.1)∧t.2.has r c
 sw:1≤w∧w≤12
 sh:1≤h∧h≤12
theorem PanelAt.same {C:Addr} {H H':Hp} {a:Addr} {w h:Int} {ts:List (Addr × Rc)} {dx ls ld:Addr} {kvs:List (List Key × V)} (p:PanelAt C H a w h ts dx ls ld kvs) (s:Same H H'):PanelAt C H' a w h ts dx ls ld kvs :=
 ⟨s _ _ p.ob,s _ _ p.lst,s _ _ p.dic,p.ats.same s,p.til,p.few,p.srt,p.look,p.sw,p.sh⟩
def rcD (p:Rc):D:=.tup (.cons (.at (.int p.t)) (.cons (.at (.int p.l)) (.cons (.at (.int p.b)) (.cons (.at (.int p.r)) .nil))))
theorem rcD_is {K:PySem.W.Frag} {H:Hp} {a:Addr} {p:Rc} (h:H a=some (.tup (four p.t p.l p.b p.r))):DIs K H (rcD p) (.ref a):=by
 unfold rcD
 rw [DIs]
 refine ⟨a,_,rfl,SqT.of h,?_⟩
 rw [DIss]; refine ⟨_,_,rfl,by rw [DIs]; exact ⟨rfl,rfl⟩,?_⟩
 rw [DIss]; refine ⟨_,_,rfl,by rw [DIs]; exact ⟨rfl,rfl⟩,?_⟩
 rw [DIss]; refine ⟨_,_,rfl,by rw [DIs]; exact ⟨rfl,rfl⟩,?_⟩
 rw [DIss]; refine ⟨_,_,rfl,by rw [DIs]; exact ⟨rfl,rfl⟩,?_⟩
 rw [DIss]
theorem rcD_dep (p:Rc):dep (rcD p)=1:=by
 unfold rcD
 simp [dep,deps]
theorem rcD_dep' (p:Rc):dep (rcD p)≤50:=by rw [rcD_dep]; decide
def sp_whole:Sp:=fun vs H Q _=>∃ v,vs=[v]∧Ty H v∧Q (.bl (wholeV v)) H
def sp_side:Sp:=fun vs H Q _=>∃ v,vs=[v]∧Ty H v∧Q (.bl (sideV v)) H
def sp_rect:Sp:=fun vs H Q _=>∃ v,vs=[v]∧((∃ a xs,v=.ref a∧H a=some (.tup xs)∧xs.length≤100∧(∀ x∈xs,Ty H x)∧∀ H',Same H H'→Q (.bl (rectB xs)) H')∨∃ T,tyS H v=some T∧T≠"tuple"∧Q (.bl false) H)
def sp_inside:Sp:=fun vs H Q _=>∃ a b a0 a1 a2 a3 o0 o1 o2 o3,vs=[.ref a,.ref b]∧H a=some (.tup (four a0 a1 a2 a3))∧H b=some (.tup (four o0 o1 o2 o3))∧Q (.bl (insB a0 a1 a2 a3 o0 o1 o2 o3)) H
def sp_purse (K:PySem.W.Frag):Sp:=fun vs H Q _=>∃ (a:Addr) (ns:List Int) (k:Int),vs=[.ref a,.int k]∧SqL K H a (ns.map V.int)∧0≤k∧k < 1000∧∀ p z,H p=none→Q (.ref p) (upd H p (.lst [.int z]))
def sp_take:Sp:=fun vs H Q _=>∃ p z m,vs=[.ref p,.int m]∧H p=some (.lst [.int z])∧0 < m∧m < 18446744073709551616∧∀ r z',0≤r→r < m→Q (.int r) (upd H p (.lst [.int z']))
def sp_squares:Sp:=fun vs H Q _=>∃ (a:Addr) (p:Rc),vs=[.ref a]∧H a=some (.tup (four p.t p.l p.b p.r))∧0≤p.t∧p.t≤p.b∧p.b≤12∧0≤p.l∧p.l≤p.r∧p.r≤12 ∧
 ∀ (l:Addr) (sq:List (Addr × (Int × Int))) (H':Hp),Same H H'→H l=none→H' l=some (.lst (sq.map fun s=>V.ref s.1))→(∀ s∈sq,H' s.1=some (.tup [.int s.2.1,.int s.2.2]))→sq.map (·.2)=sqs p→Q (.ref l) H'
def sp_check_sides:Sp:=fun vs H Q _=>∃ (w h:Int),vs=[.int w,.int h]∧(1≤w∧w≤12)∧(1≤h∧h≤12)∧∀ H',Same H H'→Q .non H'
def sp_check_panes (K:PySem.W.Frag):Sp:=fun vs H Q _=>∃ (l sh:Addr) (w h:Int) (ts:List (Addr × Rc)),vs=[.ref l,.ref sh]∧SqL K H l (refs ts)∧At H ts∧H sh=some (.tup (four 0 0 h w))∧(∀ p∈rcs ts,p.In w h)∧ts.length≤52∧∀ H',Same H H'→Q .non H'
def sp_by_square (K:PySem.W.Frag):Sp:=fun vs H Q _=>∃ (l:Addr) (w h:Int) (ts:List (Addr × Rc)),vs=[.ref l]∧SqL K H l (refs ts)∧At H ts∧(∀ p∈rcs ts,p.In w h)∧(rcs ts).Pairwise Apart∧ts.length≤52∧w≤12∧h≤12 ∧
 ∀ (d:Addr) (kvs:List (List Key × V)) (H':Hp),Same H H'→H d=none→H' d=some (.dT kvs)→(∀ t∈ts,∀ r c,t.2.has r c→valV kvs (sqK r c)=some (.ref t.1))→Q (.ref d) H'
def sp_check_covered:Sp:=fun vs H Q _=>∃ (d sh:Addr) (w h:Int) (kvs:List (List Key × V)),vs=[.ref d,.ref sh]∧H d=some (.dT kvs)∧H sh=some (.tup (four 0 0 h w))∧(1≤w∧w≤12)∧(1≤h∧h≤12)∧(∀ r c,0≤r→r < h→0≤c→c < w→valV kvs (sqK r c)≠none)∧∀ H',Same H H'→Q .non H'
def sp_Panel (K:PySem.W.Frag) (C:Addr):Sp:=fun vs H Q _=>∃ (a dx l:Addr) (w h:Int) (ts:List (Addr × Rc)),vs=[.ref a,.int w,.int h,.ref l]∧H a=some (.ins C dx [])∧SqL K H l (refs ts)∧At H ts∧Tiles w h (rcs ts)∧ts.length≤52∧(1≤w∧w≤12)∧(1≤h∧h≤12) ∧
 ∀ (ts':List (Addr × Rc)) (ls ld:Addr) (kvs:List (List Key × V)) (H':Hp),SameX a H H'→ts'.Perm ts→PanelAt C H' a w h ts' dx ls ld kvs→Q .non H'
def sp_panes (C:Addr):Sp:=fun vs H Q _=>∃ (a dx ls ld:Addr) (w h:Int) (ts:List (Addr × Rc)) (kvs:List (List Key × V)),vs=[.ref a]∧PanelAt C H a w h ts dx ls ld kvs∧∀ l,H l=none→Q (.ref l) (upd H l (.lst (refs ts)))
def sp_pane_at (C:Addr):Sp:=fun vs H Q _=>∃ (a dx ls ld:Addr) (w h r c:Int) (ts:List (Addr × Rc)) (kvs:List (List Key × V)),vs=[.ref a,.int r,.int c]∧PanelAt C H a w h ts dx ls ld kvs∧0≤r∧r < h∧0≤c∧c < w∧∀ t H',t∈ts→t.2.has r c→Same H H'→Q (.ref t.1) H'
def sp_tiled (K:PySem.W.Frag):Sp:=fun vs H Q _=>∃ (a:Addr) (ns:List Int) (k w h:Int),vs=[.ref a,.int k,.int w,.int h]∧SqL K H a (ns.map V.int)∧0≤k∧k≤10∧(1≤w∧w≤12)∧(1≤h∧h≤12)∧∀ (l:Addr) (ts:List (Addr × Rc)) (H':Hp),Same H H'→H l=none→H' l=some (.lst (refs ts))→At H' ts→Tiles w h (rcs ts)→ts.length≤52→Q (.ref l) H'
def sp_law (K:PySem.W.Frag):Sp:=fun vs H Q _=>∃ (a:Addr) (ns:List Int),vs=[.ref a]∧SqL K H a (ns.map V.int)∧ns.length≤63∧∀ H',Q (.bl true) H'
structure Txt (mg:Str→Option Value) (tk:Tok × Tok):Prop where
 z_isinstance:mg "isinstance"=none
 z_int:mg "int"=none
 z_bool:mg "bool"=none
 z_tuple:mg "tuple"=none
 z_len:mg "len"=none
 z_all:mg "all"=none
 z_any:mg "any"=none
 z_range:mg "range"=none
 z_sorted:mg "sorted"=none
 z_min:mg "min"=none
 z_max:mg "max"=none
 z_list:mg "list"=none
 z_enumerate:mg "enumerate"=none
 z_str:mg "str"=none
 z_ValueError:mg "ValueError"=none
 g_LONGEST_SIDE:mg "LONGEST_SIDE"=some (.int 12 tk.1)
 g_MOST_PANES:mg "MOST_PANES"=some (.int 52 tk.2)
structure PCls (K:PySem.W.Frag) (C:Addr):Prop where
 cl:Cls K C
 n_width:NoAttr K C "width"
 n_height:NoAttr K C "height"
 n_sorted_panes:NoAttr K C "sorted_panes"
 n_by_square:NoAttr K C "by_square"
def insR (p q:Rc):Bool:=insB p.t p.l p.b p.r q.t q.l q.b q.r
def apR (p q:Rc):Bool:=decide (p.r≤q.l) || decide (q.r≤p.l) || (decide (p.b≤q.t) || decide (q.b≤p.t))
def okA (ps:List Rc) (q:Rc):Bool:=ps.all fun p=>insR p q || apR p q
def rectR (q:Rc):Bool:=rectB (four q.t q.l q.b q.r)
def blk (w h:Int) (ps:List Rc) (q:Rc):Bool:=rectR q && insR q ⟨0,0,h,w⟩ && okA ps q
def blkO (w h:Int) (ps:List Rc):Option Rc→Bool
 | none=>false
 | some q=>blk w h ps q
def ThingAt (H:Hp) (v:V):Option Rc→Prop
 | some q=>∃ b,v=.ref b∧H b=some (.tup (four q.t q.l q.b q.r))
 | none=>(∃ a xs,v=.ref a∧H a=some (.tup xs)∧xs.length≤100∧(∀ x∈xs,Ty H x)∧rectB xs=false)∨∃ T,tyS H v=some T∧T≠"tuple"
def sp_apart:Sp:=fun vs H Q _=>∃ a b p q,vs=[.ref a,.ref b]∧H a=some (.tup (four p.t p.l p.b p.r))∧H b=some (.tup (four q.t q.l q.b q.r))∧Q (.bl (apR p q)) H
def sp_block (C:Addr):Sp:=fun vs H Q _=>∃ (a dx ls ld:Addr) (w h:Int) (ts:List (Addr × Rc)) (kvs:List (List Key × V)) (v:V) (g:Option Rc),vs=[.ref a,v]∧PanelAt C H a w h ts dx ls ld kvs∧ThingAt H v g∧∀ H',Same H H'→Q (.bl (blkO w h (rcs ts) g)) H'
def sp_cutup (K:PySem.W.Frag):Sp:=fun vs H Q _=>∃ (a:Addr) (ns:List Int) (k w h m:Int),vs=[.ref a,.int k,.int w,.int h,.int m]∧SqL K H a (ns.map V.int)∧0≤k∧k≤10∧(1≤w∧w≤12)∧(1≤h∧h≤12)∧0≤m∧m≤50∧∀ (l:Addr) (ts:List (Addr × Rc)) (H':Hp),Same H H'→H' l=some (.lst (refs ts))→At H' ts→Tiles w h (rcs ts)→ts.length≤m.toNat+1→Q (.ref l) H'
def sp_lpin (K:PySem.W.Frag):Sp:=fun vs H Q _=>∃ (l b:Addr) (ts:List (Addr × Rc)) (q:Rc) (w h:Int),vs=[.ref l,.ref b]∧SqL K H l (refs ts)∧At H ts∧Tiles w h (rcs ts)∧ts.length≤52∧w≤12∧h≤12∧H b=some (.tup (four q.t q.l q.b q.r)) ∧
 ∀ us:List (Addr × Rc),us.Perm ts→Srt (rcs us)→(okA (rcs us) q=false→∀ H',Same H H'→Q .non H')∧(okA (rcs us) q=true→∀ l' H',Same H H'→H l'=none→H' l'=some (.lst (refs (us.filter fun t=>insR t.2 q)))→Q (.ref l') H')
def sp_drawn (K:PySem.W.Frag):Sp:=fun vs H Q _=>∃ (a:Addr) (ns:List Int),vs=[.ref a]∧SqL K H a (ns.map V.int)∧∀ (t l:Addr) (w h:Int) (ts:List (Addr × Rc)) (H':Hp),Same H H'→H' t=some (.tup [.int w,.int h,.ref l])→H' l=some (.lst (refs ts))→At H' ts→Tiles w h (rcs ts)→ts.length≤52→(1≤w∧w≤12)→(1≤h∧h≤12)→Q (.ref t) H'
def runStep (g:Int→Bool) (acc:List (Int × Int)) (p:Int):List (Int × Int) :=
 match acc.getLast? with
 | some u=>if u.2=p∧g p=false then acc.dropLast++[(u.1,p+1)] else acc++[(p,p+1)]
 | none=>acc++[(p,p+1)]
def runsL (g:Int→Bool) (ps:List Int):List (Int × Int):=ps.foldl (runStep g) []
def placesN (f:Int→Bool) (lo:Int):Nat→List Int
 | 0=>[]
 | n+1=>placesN f lo n++(if f (lo+n) then [lo+n] else [])
def runsN (f g:Int→Bool) (lo:Int) (n:Nat):List (Int × Int):=runsL g (placesN f lo n)
structure Run (f g:Int→Bool) (s e:Int):Prop where
 lt:s < e
 on:∀ x,s≤x→x < e→f x=true
 no:∀ x,s < x→x < e→g x=false
 st:f (s - 1)=false∨g s=true
theorem Run.uniq {f g:Int→Bool} {s s' e:Int} (h:Run f g s e) (h':Run f g s' e):s=s':=by
 have key:∀ a b,Run f g a e→Run f g b e→¬ a < b:=fun a b ha hb lt=>by
  rcases hb.st with h1 | h1
  ·rw [ha.on (b - 1) (by omega) (by have:=hb.lt; omega)] at h1; cases h1
  ·rw [ha.no b lt hb.lt] at h1; cases h1
 have h1:=key s s' h h'
 have h2:=key s' s h' h
 omega
theorem runsN_succ (f g:Int→Bool) (lo:Int) (n:Nat):runsN f g lo (n+1)=if f (lo+n) then runStep g (runsN f g lo n) (lo+n) else runsN f g lo n:=by
 unfold runsN runsL
 show (placesN f lo n++_).foldl _ _=_
 rw [List.foldl_append]
 cases f (lo+n) <;> rfl
structure RunsIs (f g:Int→Bool) (lo hi:Int) (acc:List (Int × Int)):Prop where
 mem:∀ u,u∈acc↔(lo≤u.1∧u.2≤hi∧Run f g u.1 u.2∧(u.2=hi∨f u.2=false∨g u.2=true))
 ord:acc.Pairwise fun u v=>u.2≤v.1
 last:f (hi - 1)=true→lo < hi→∃ s,acc.getLast?=some (s,hi)
theorem runs_is {f g:Int→Bool} {lo:Int} (h0:∀ x,x < lo→f x=false):∀ n:Nat,RunsIs f g lo (lo+n) (runsN f g lo n)
 | 0=>by
  refine ⟨fun u=>⟨fun h=>absurd h List.not_mem_nil,fun ⟨h1,h2,h3,_⟩=>?_⟩,List.Pairwise.nil,fun _ h=>absurd h (by simp)⟩
  have:=h3.lt
  simp at h2
  omega
 | n+1=>by
  have I:=runs_is (f:=f) (g:=g) h0 n
  rw [runsN_succ]
  generalize runsN f g lo n=acc at I ⊢
  have hp:(lo+(n:Int))+1=lo+((n+1:Nat):Int):=by omega
  rw [← hp]
  have lo_le:lo≤lo+(n:Int):=by omega
  generalize lo+(n:Int)=p at I lo_le ⊢
  have e1:p+1 - 1=p:=by omega
  cases hf:f p with
  | false =>
   rw [if_neg Bool.false_ne_true]
   refine ⟨fun u=>?_,I.ord,fun h=>by rw [e1,hf] at h; cases h⟩
   rw [I.mem]
   constructor
   ·rintro ⟨h1,h2,h3,h4⟩
    refine ⟨h1,by omega,h3,?_⟩
    rcases h4 with h4 | h4
    ·rw [h4]; exact .inr (.inl hf)
    ·exact .inr h4
   ·rintro ⟨h1,h2,h3,h4⟩
    have h5:u.2≠p+1:=fun e=>by
     have:=h3.on p (by have:=h3.lt; omega) (by omega)
     rw [hf] at this; cases this
    exact ⟨h1,by omega,h3,h4.imp_left fun e=>absurd e h5⟩
  | true =>
   rw [if_pos rfl]
   by_cases hx:∃ s,acc.getLast?=some (s,p)∧g p=false
   ·obtain ⟨s,hl,hg⟩:=hx
    have ha:acc=acc.dropLast++[(s,p)]:=by
     obtain ⟨hne,he⟩:=List.getLast?_eq_some_iff.mp hl
     rw [he]; simp
    have hr:runStep g acc p=acc.dropLast++[(s,p+1)]:=by
     unfold runStep; rw [hl]; simp [hg]
    rw [hr]
    generalize acc.dropLast=dl at ha ⊢
    subst ha
    have od:=List.pairwise_append.mp I.ord
    have hs:lo≤s∧p≤p∧Run f g s p∧_:=(I.mem (s,p)).mp (by simp)
    obtain ⟨s1,-,s2,-⟩:=hs
    have s3:=s2.lt
    refine ⟨fun u=>?_,List.pairwise_append.mpr ⟨od.1,List.pairwise_singleton _ _,fun a ha b hb=>?_⟩,fun _ _=>⟨s,by simp⟩⟩
    ·rw [List.mem_append,List.mem_singleton]
     constructor
     ·rintro (h | rfl)
      ·obtain ⟨h1,h2,h3,h4⟩:=(I.mem u).mp (List.mem_append_left _ h)
       have h5:=od.2.2 u h (s,p) (by simp)
       refine ⟨h1,by omega,h3,?_⟩
       have h6:u.2≠p:=by have:u.2≤s:=h5; omega
       exact .inr (h4.resolve_left h6)
      ·refine ⟨s1,Int.le_refl _,⟨by show s < p+1; omega,fun x a b=>?_,fun x a b=>?_,s2.st⟩,.inl rfl⟩
       ·by_cases e:x=p
        ·rw [e]; exact hf
        ·exact s2.on x a (by have:x < p+1:=b; omega)
       ·by_cases e:x=p
        ·rw [e]; exact hg
        ·exact s2.no x a (by have:x < p+1:=b; omega)
     ·rintro ⟨h1,h2,h3,h4⟩
      by_cases e:u.2=p+1
      ·right
       have h5:u.1≠p:=fun e'=>by
        rcases h3.st with h6 | h6
        ·rw [e',s2.on (p - 1) (by omega) (by omega)] at h6; cases h6
        ·rw [e',hg] at h6; cases h6
       have h7:=h3.lt
       have h8:Run f g u.1 p:=⟨by omega,fun x a b=>h3.on x a (by omega),fun x a b=>h3.no x a (by omega),h3.st⟩
       have h9:=h8.uniq s2
       exact Prod.ext h9 e
      ·left
       have h5:u.2≠p:=fun e'=>by
        rcases h4 with h4 | h4 | h4
        ·exact e h4
        ·rw [e',hf] at h4; cases h4
        ·rw [e',hg] at h4; cases h4
       have h6:=(I.mem u).mpr ⟨h1,by omega,h3,.inr (h4.resolve_left e)⟩
       rcases List.mem_append.mp h6 with h6 | h6
       ·exact h6
       ·rw [List.mem_singleton.mp h6] at h5; exact absurd rfl h5
    ·rw [List.mem_singleton.mp hb]
     exact od.2.2 a ha (s,p) (by simp)
   ·have hr:runStep g acc p=acc++[(p,p+1)]:=by
     unfold runStep
     cases hl:acc.getLast? with
     | none=>rfl
     | some u =>
      show (if _ then _ else _)=_
      rw [if_neg]
      rintro ⟨a,b⟩
      exact hx ⟨u.1,by rw [hl,← a],b⟩
    rw [hr]
    have top:∀ u∈acc,u.2=p→g p=true:=fun u hu e=>by
     obtain ⟨h1,h2,h3,h4⟩:=(I.mem u).mp hu
     have h5:=h3.lt
     obtain ⟨s,hl⟩:=I.last (h3.on (p - 1) (by omega) (by omega)) (by omega)
     cases hg:g p with
     | true=>rfl
     | false=>exact absurd ⟨s,hl,hg⟩ hx
    refine ⟨fun u=>?_,List.pairwise_append.mpr ⟨I.ord,List.pairwise_singleton _ _,fun a ha b hb=>?_⟩,fun _ _=>⟨p,by simp⟩⟩
    ·rw [List.mem_append,List.mem_singleton]
     constructor
     ·rintro (h | rfl)
      ·obtain ⟨h1,h2,h3,h4⟩:=(I.mem u).mp h
       refine ⟨h1,by omega,h3,?_⟩
       rcases h4 with h4 | h4
       ·exact .inr (.inr (by rw [h4]; exact top u h h4))
       ·exact .inr h4
      ·refine ⟨lo_le,Int.le_refl _,⟨by show p < p+1; omega,fun x a b=>?_,fun x a b=>?_,?_⟩,.inl rfl⟩
       ·have:x=p:=by have:x < p+1:=b; have:p≤x:=a; omega
        rw [this]; exact hf
       ·have:x < p+1:=b
        have:p < x:=a
        omega
       ·show f (p - 1)=false∨g p=true
        cases h1:f (p - 1) with
        | false=>exact .inl rfl
        | true =>
         right
         have lt:lo < p:=by
          apply Classical.byContradiction
          intro hn
          rw [h0 (p - 1) (by omega)] at h1; cases h1
         obtain ⟨s,hl⟩:=I.last h1 lt
         cases hg:g p with
         | true=>rfl
         | false=>exact absurd ⟨s,hl,hg⟩ hx
     ·rintro ⟨h1,h2,h3,h4⟩
      have h7:=h3.lt
      by_cases e:u.2=p+1
      ·right
       refine Prod.ext ?_ e
       show u.1=p
       apply Classical.byContradiction
       intro ne
       have gp:=h3.no p (by omega) (by omega)
       obtain ⟨s,hl⟩:=I.last (h3.on (p - 1) (by omega) (by omega)) (by omega)
       exact hx ⟨s,hl,gp⟩
      ·left
       exact (I.mem u).mpr ⟨h1,by omega,h3,.inr (h4.resolve_left e)⟩
    ·rw [List.mem_singleton.mp hb]
     exact ((I.mem a).mp ha).2.1
structure RunU (f g:Int→Bool) (s e:Int):Prop extends Run f g s e where
 en:f e=false∨g e=true
theorem runs_mem {f g:Int→Bool} {lo hi:Int} (h:lo≤hi) (h0:∀ x,x < lo→f x=false) (h1:∀ x,hi≤x→f x=false) (u:Int × Int):u∈runsN f g lo (hi - lo).toNat↔RunU f g u.1 u.2:=by
 have I:=runs_is (g:=g) h0 (hi - lo).toNat
 have e:lo+((hi - lo).toNat:Int)=hi:=by omega
 rw [e] at I
 rw [I.mem]
 constructor
 ·rintro ⟨a,b,c,d⟩
  exact ⟨c,d.elim (fun z=>.inl (h1 _ (by omega))) id⟩
 ·rintro ⟨c,d⟩
  refine ⟨?_,?_,c,.inr d⟩
  ·apply Classical.byContradiction
   intro hn
   have:=c.on u.1 (Int.le_refl _) c.lt
   rw [h0 u.1 (by omega)] at this; cases this
  ·apply Classical.byContradiction
   intro hn
   have:=c.on (u.2 - 1) (by have:=c.lt; omega) (by omega)
   rw [h1 (u.2 - 1) (by omega)] at this; cases this
theorem runs_nodup {f g:Int→Bool} {lo:Int} (h0:∀ x,x < lo→f x=false) (n:Nat):(runsN f g lo n).Nodup:=by
 have I:=runs_is (g:=g) h0 n
 refine List.Pairwise.imp_of_mem ?_ I.ord
 intro a b ha hb h e
 subst e
 have:=((I.mem a).mp ha).2.2.1.lt
 omega
theorem run_end {f g:Int→Bool} {s e e':Int} (h:RunU f g s e) (h':RunU f g s e'):e=e':=by
 have key:∀ a b,RunU f g s a→RunU f g s b→¬ a < b:=fun a b ha hb lt=>by
  rcases ha.en with h1 | h1
  ·rw [hb.on a (by have:=ha.lt; omega) lt] at h1; cases h1
  ·rw [hb.no a ha.lt lt] at h1; cases h1
 have h1:=key e e' h h'
 have h2:=key e' e h' h
 omega
def hasB (p:Rc) (r c:Int):Bool:=decide (p.t≤r) && decide (r < p.b) && (decide (p.l≤c) && decide (c < p.r))
theorem hasB_iff {p:Rc} {r c:Int}:hasB p r c=true↔p.has r c:=by
 unfold hasB Rc.has
 simp only [Bool.and_eq_true,decide_eq_true_eq]
 constructor
 ·rintro ⟨⟨a,b⟩,c,d⟩; exact ⟨a,b,c,d⟩
 ·rintro ⟨a,b,c,d⟩; exact ⟨⟨a,b⟩,c,d⟩
def own (ps:List Rc) (r c:Int):Rc:=(ps.find? fun p=>hasB p r c).getD ⟨0,0,0,0⟩
theorem own_eq {ps:List Rc} (h:ps.Pairwise Apart) {p:Rc} {r c:Int} (hp:p∈ps) (a:p.has r c):own ps r c=p:=by
 unfold own
 cases e:ps.find? fun p=>hasB p r c with
 | none=>exact absurd (hasB_iff.mpr a) (List.find?_eq_none.mp e p hp)
 | some q=>exact apart_uniq h (List.mem_of_find?_eq_some e) hp (hasB_iff.mp (List.find?_some (p:=fun p=>hasB p r c) e)) a
theorem own_perm {ps qs:List Rc} (h:ps.Pairwise Apart) (e:qs.Perm ps) (r c:Int):own qs r c=own ps r c:=by
 have h':qs.Pairwise Apart:=(e.pairwise_iff (fun {a b} x=>Apart.symm x)).mpr h
 by_cases x:∃ p∈ps,p.has r c
 ·obtain ⟨p,hp,a⟩:=x
  rw [own_eq h hp a,own_eq h' (e.mem_iff.mpr hp) a]
 ·have n1:ps.find? (fun p=>hasB p r c)=none:=List.find?_eq_none.mpr fun p hp a=>x ⟨p,hp,hasB_iff.mp a⟩
  have n2:qs.find? (fun p=>hasB p r c)=none:=List.find?_eq_none.mpr fun p hp a=>x ⟨p,e.mem_iff.mp hp,hasB_iff.mp a⟩
  unfold own
  rw [n1,n2]
def lvB (ps:List Rc) (q:Rc) (r c:Int):Bool:=decide (q.t < r) && decide (r < q.b) && (decide (q.l≤c) && decide (c < q.r)) && !decide (own ps (r - 1) c=own ps r c)
def upB (ps:List Rc) (q:Rc) (r c:Int):Bool:=decide (q.t≤r) && decide (r < q.b) && (decide (q.l < c) && decide (c < q.r)) && !decide (own ps r (c - 1)=own ps r c)
def psB (ps:List Rc) (q:Rc) (r c:Int):Bool:=lvB ps q r (c - 1) && lvB ps q r c
theorem lvB_in {ps:List Rc} {q:Rc} {r c:Int} (h:lvB ps q r c=true):q.t < r∧r < q.b∧q.l≤c∧c < q.r:=by
 unfold lvB at h
 simp only [Bool.and_eq_true,decide_eq_true_eq] at h
 exact ⟨h.1.1.1,h.1.1.2,h.1.2.1,h.1.2.2⟩
theorem upB_in {ps:List Rc} {q:Rc} {r c:Int} (h:upB ps q r c=true):q.t≤r∧r < q.b∧q.l < c∧c < q.r:=by
 unfold upB at h
 simp only [Bool.and_eq_true,decide_eq_true_eq] at h
 exact ⟨h.1.1.1,h.1.1.2,h.1.2.1,h.1.2.2⟩
theorem lvB_of {ps:List Rc} {q:Rc} {r c:Int} (h1:q.t < r) (h2:r < q.b) (h3:q.l≤c) (h4:c < q.r):lvB ps q r c=!decide (own ps (r - 1) c=own ps r c):=by
 unfold lvB; simp [h1,h2,h3,h4]
theorem upB_of {ps:List Rc} {q:Rc} {r c:Int} (h1:q.t≤r) (h2:r < q.b) (h3:q.l < c) (h4:c < q.r):upB ps q r c=!decide (own ps r (c - 1)=own ps r c):=by
 unfold upB; simp [h1,h2,h3,h4]
abbrev LD:Type:=Bool × Int × Int × Int
def IsLead (ps:List Rc) (q:Rc):LD→Prop
 | (false,n,s,e)=>RunU (fun c=>lvB ps q n c) (fun _=>false) s e
 | (true,n,s,e)=>RunU (fun r=>upB ps q r n) (fun r=>psB ps q r n) s e
theorem lead_perm {ps qs:List Rc} (h:ps.Pairwise Apart) (e:qs.Perm ps) (q:Rc) (d:LD):IsLead qs q d↔IsLead ps q d:=by
 have o:own qs=own ps:=funext fun r=>funext fun c=>own_perm h e r c
 have l:lvB qs=lvB ps:=by unfold lvB; rw [o]
 have u:upB qs=upB ps:=by unfold upB; rw [o]
 have p:psB qs=psB ps:=by unfold psB; rw [l]
 rcases d with ⟨b,n,s,x⟩
 cases b
 ·show RunU _ _ _ _↔RunU _ _ _ _; rw [l]
 ·show RunU _ _ _ _↔RunU _ _ _ _; rw [u,p]
def lvN (ps:List Rc) (q:Rc):Nat→List LD
 | 0=>[]
 | n+1=>lvN ps q n++(runsN (fun c=>lvB ps q (q.t+1+n) c) (fun _=>false) q.l (q.r - q.l).toNat).map fun u=>(false,q.t+1+n,u.1,u.2)
def upN (ps:List Rc) (q:Rc):Nat→List LD
 | 0=>[]
 | n+1=>upN ps q n++(runsN (fun r=>upB ps q r (q.l+1+n)) (fun r=>psB ps q r (q.l+1+n)) q.t (q.b - q.t).toNat).map fun u=>(true,q.l+1+n,u.1,u.2)
theorem lvN_mem {ps:List Rc} {q:Rc} (hq:q.l≤q.r) (d:LD):∀ n:Nat,d∈lvN ps q n↔d.1=false∧IsLead ps q d∧q.t < d.2.1∧d.2.1 < q.t+1+n
 | 0=>⟨fun h=>absurd h List.not_mem_nil,fun ⟨_,_,a,b⟩=>by simp at b; omega⟩
 | k+1=>by
  show d∈lvN ps q k++_↔_
  rw [List.mem_append,lvN_mem hq d k,List.mem_map]
  rcases d with ⟨b,n,s,e⟩
  have rm:=fun u:Int × Int=>runs_mem (f:=fun c=>lvB ps q (q.t+1+k) c) (g:=fun _=>false) hq (fun x hx=>by
   cases h:lvB ps q (q.t+1+k) x with
   | false=>rfl
   | true=>have:=lvB_in h; omega) (fun x hx=>by
   cases h:lvB ps q (q.t+1+k) x with
   | false=>rfl
   | true=>have:=lvB_in h; omega) u
  constructor
  ·rintro (⟨a,b,c,d⟩ | ⟨u,hu,e⟩)
   ·exact ⟨a,b,c,by show n < _; have:n < q.t+1+k:=d; omega⟩
   ·cases e
    exact ⟨rfl,(rm u).mp hu,by show q.t < q.t+1+k; omega,by show q.t+1+k < q.t+1+((k+1:Nat):Int); omega⟩
  ·rintro ⟨a,i,c,d⟩
   cases a
   have d':n < q.t+1+((k+1:Nat):Int):=d
   by_cases e1:n=q.t+1+k
   ·subst e1
    exact .inr ⟨(s,e),(rm (s,e)).mpr i,rfl⟩
   ·exact .inl ⟨rfl,i,c,by show n < _; omega⟩
theorem upN_mem {ps:List Rc} {q:Rc} (hq:q.t≤q.b) (d:LD):∀ n:Nat,d∈upN ps q n↔d.1=true∧IsLead ps q d∧q.l < d.2.1∧d.2.1 < q.l+1+n
 | 0=>⟨fun h=>absurd h List.not_mem_nil,fun ⟨_,_,a,b⟩=>by simp at b; omega⟩
 | k+1=>by
  show d∈upN ps q k++_↔_
  rw [List.mem_append,upN_mem hq d k,List.mem_map]
  rcases d with ⟨b,n,s,e⟩
  have rm:=fun u:Int × Int=>runs_mem (f:=fun r=>upB ps q r (q.l+1+k)) (g:=fun r=>psB ps q r (q.l+1+k)) hq (fun x hx=>by
   cases h:upB ps q x (q.l+1+k) with
   | false=>rfl
   | true=>have:=upB_in h; omega) (fun x hx=>by
   cases h:upB ps q x (q.l+1+k) with
   | false=>rfl
   | true=>have:=upB_in h; omega) u
  constructor
  ·rintro (⟨a,b,c,d⟩ | ⟨u,hu,e⟩)
   ·exact ⟨a,b,c,by show n < _; have:n < q.l+1+k:=d; omega⟩
   ·cases e
    exact ⟨rfl,(rm u).mp hu,by show q.l < q.l+1+k; omega,by show q.l+1+k < q.l+1+((k+1:Nat):Int); omega⟩
  ·rintro ⟨a,i,c,d⟩
   cases a
   have d':n < q.l+1+((k+1:Nat):Int):=d
   by_cases e1:n=q.l+1+k
   ·subst e1
    exact .inr ⟨(s,e),(rm (s,e)).mpr i,rfl⟩
   ·exact .inl ⟨rfl,i,c,by show n < _; omega⟩
theorem lvN_nodup {ps:List Rc} {q:Rc} (hq:q.l≤q.r):∀ n:Nat,(lvN ps q n).Nodup
 | 0=>List.Pairwise.nil
 | k+1=>by
  show (lvN ps q k++_).Nodup
  refine List.nodup_append.mpr ⟨lvN_nodup hq k,?_,fun a ha b hb e=>?_⟩
  ·refine List.pairwise_map.mpr ((runs_nodup (fun x hx=>?_) _).imp fun {a b} h e=>h ?_)
   ·cases h:lvB ps q (q.t+1+k) x with
    | false=>rfl
    | true=>have:=lvB_in h; omega
   ·exact congrArg (fun d:LD=>d.2.2) e
  ·subst e
   obtain ⟨u,_,rfl⟩:=List.mem_map.mp hb
   have h1:=((lvN_mem hq _ k).mp ha).2.2.2
   simp at h1
theorem upN_nodup {ps:List Rc} {q:Rc} (hq:q.t≤q.b):∀ n:Nat,(upN ps q n).Nodup
 | 0=>List.Pairwise.nil
 | k+1=>by
  show (upN ps q k++_).Nodup
  refine List.nodup_append.mpr ⟨upN_nodup hq k,?_,fun a ha b hb e=>?_⟩
  ·refine List.pairwise_map.mpr ((runs_nodup (fun x hx=>?_) _).imp fun {a b} h e=>h ?_)
   ·cases h:upB ps q x (q.l+1+k) with
    | false=>rfl
    | true=>have:=upB_in h; omega
   ·exact congrArg (fun d:LD=>d.2.2) e
  ·subst e
   obtain ⟨u,_,rfl⟩:=List.mem_map.mp hb
   have h1:=((upN_mem hq _ k).mp ha).2.2.2
   simp at h1
def lvsOf (ps:List Rc) (q:Rc):List LD:=lvN ps q (q.b - (q.t+1)).toNat
def upsOf (ps:List Rc) (q:Rc):List LD:=upN ps q (q.r - (q.l+1)).toNat
theorem lvsOf_mem {ps:List Rc} {q:Rc} (hq:q.l≤q.r) (d:LD):d∈lvsOf ps q↔d.1=false∧IsLead ps q d:=by
 unfold lvsOf
 rw [lvN_mem hq]
 refine ⟨fun ⟨a,b,_⟩=>⟨a,b⟩,fun ⟨a,b⟩=>⟨a,b,?_⟩⟩
 rcases d with ⟨x,n,s,e⟩
 cases a
 have i:RunU (fun c=>lvB ps q n c) (fun _=>false) s e:=b
 have:=lvB_in (i.on s (Int.le_refl _) i.lt)
 exact ⟨by show q.t < n; omega,by show n < _; omega⟩
theorem upsOf_mem {ps:List Rc} {q:Rc} (hq:q.t≤q.b) (d:LD):d∈upsOf ps q↔d.1=true∧IsLead ps q d:=by
 unfold upsOf
 rw [upN_mem hq]
 refine ⟨fun ⟨a,b,_⟩=>⟨a,b⟩,fun ⟨a,b⟩=>⟨a,b,?_⟩⟩
 rcases d with ⟨x,n,s,e⟩
 cases a
 have i:RunU (fun r=>upB ps q r n) (fun r=>psB ps q r n) s e:=b
 have:=upB_in (i.on s (Int.le_refl _) i.lt)
 exact ⟨by show q.l < n; omega,by show n < _; omega⟩
theorem leads_mem {ps:List Rc} {q:Rc} (h1:q.l≤q.r) (h2:q.t≤q.b) (d:LD):d∈lvsOf ps q++upsOf ps q↔IsLead ps q d:=by
 rw [List.mem_append,lvsOf_mem h1,upsOf_mem h2]
 rcases d with ⟨b,n⟩
 cases b <;> simp
theorem leads_nodup {ps:List Rc} {q:Rc} (h1:q.l≤q.r) (h2:q.t≤q.b):(lvsOf ps q++upsOf ps q).Nodup :=
 List.nodup_append.mpr ⟨lvN_nodup h1 _,upN_nodup h2 _,fun a ha b hb e=>by
  subst e
  have x:=((lvsOf_mem h1 a).mp ha).1
  rw [((upsOf_mem h2 a).mp hb).1] at x
  cases x⟩
theorem run_left (f:Int→Bool) (lo:Int) (h0:∀ x,x < lo→f x=false):∀ (n:Nat) (x:Int),f x=true→x < lo+n→∃ s,s≤x∧f (s - 1)=false∧∀ y,s≤y→y≤x→f y=true
 | 0,x,h,b=>by rw [h0 x (by omega)] at h; cases h
 | n+1,x,h,b=>by
  cases e:f (x - 1) with
  | false=>exact ⟨x,Int.le_refl _,e,fun y a b=>by rw [show y=x by omega]; exact h⟩
  | true =>
   obtain ⟨s,s1,s2,s3⟩:=run_left f lo h0 n (x - 1) e (by omega)
   exact ⟨s,by omega,s2,fun y a b=>by
    by_cases z:y=x
    ·rw [z]; exact h
    ·exact s3 y a (by omega)⟩
theorem run_right (f:Int→Bool) (hi:Int) (h1:∀ x,hi≤x→f x=false):∀ (n:Nat) (x:Int),f x=true→hi≤x+n→∃ e,x < e∧f e=false∧∀ y,x≤y→y < e→f y=true
 | 0,x,h,b=>by rw [h1 x (by omega)] at h; cases h
 | n+1,x,h,b=>by
  cases e:f (x+1) with
  | false=>exact ⟨x+1,by omega,e,fun y a b=>by rw [show y=x by omega]; exact h⟩
  | true =>
   obtain ⟨s,s1,s2,s3⟩:=run_right f hi h1 n (x+1) e (by omega)
   exact ⟨s,by omega,s2,fun y a b=>by
    by_cases z:y=x
    ·rw [z]; exact h
    ·exact s3 y (by omega) b⟩
theorem stops_iff {ps:List Rc} {q:Rc} (hq:q.l≤q.r) (r c:Int):(∃ d∈lvsOf ps q,d.2.1=r∧d.2.2.1 < c∧c < d.2.2.2)↔psB ps q r c=true:=by
 constructor
 ·rintro ⟨⟨b,n,s,e⟩,hd,rfl,h1,h2⟩
  obtain ⟨hb,hl⟩:=(lvsOf_mem hq _).mp hd
  cases hb
  have i:RunU (fun c=>lvB ps q n c) (fun _=>false) s e:=hl
  have h1':s < c:=h1
  have h2':c < e:=h2
  show (lvB ps q n (c - 1) && lvB ps q n c)=true
  rw [i.on (c - 1) (by omega) (by omega),i.on c (by omega) (by omega)]; rfl
 ·intro h
  unfold psB at h
  simp only [Bool.and_eq_true] at h
  obtain ⟨h1,h2⟩:=h
  obtain ⟨s,s1,s2,s3⟩:=run_left (fun c=>lvB ps q r c) q.l (fun x hx=>by
   cases h:lvB ps q r x with
   | false=>rfl
   | true=>have:=lvB_in h; omega) (c - q.l).toNat (c - 1) h1 (by have:=lvB_in h1; omega)
  obtain ⟨e,e1,e2,e3⟩:=run_right (fun c=>lvB ps q r c) q.r (fun x hx=>by
   cases h:lvB ps q r x with
   | false=>rfl
   | true=>have:=lvB_in h; omega) (q.r - c).toNat c h2 (by have:=lvB_in h2; omega)
  refine ⟨(false,r,s,e),(lvsOf_mem hq _).mpr ⟨rfl,?_⟩,rfl,by show s < c; omega,e1⟩
  show RunU (fun c=>lvB ps q r c) (fun _=>false) s e
  exact ⟨⟨by omega,fun x a b=>by
   by_cases z:x < c
   ·exact s3 x a (by omega)
   ·exact e3 x (by omega) b,fun _ _ _=>rfl,.inl s2⟩,.inl e2⟩
theorem same_len {xs ys:List LD} (h1:xs.Nodup) (h2:ys.Nodup) (h:∀ d,d∈xs↔d∈ys):xs.length=ys.length :=
 ((List.perm_ext_iff_of_nodup h1 h2).mpr h).length_eq
def At2 (H:Hp) (us:List (Addr × (Int × Int))):Prop:=∀ u∈us,H u.1=some (.tup [.int u.2.1,.int u.2.2])
theorem At2.same {H H':Hp} {us:List (Addr × (Int × Int))} (a:At2 H us) (s:Same H H'):At2 H' us:=fun t h=>s _ _ (a t h)
abbrev refs2 (us:List (Addr × (Int × Int))):List V:=us.map fun u=>V.ref u.1
def keyL (d:LD):List Key:=[Sum.inr (cond d.1 "upright" "level"),Sum.inl d.2.1,Sum.inl d.2.2.1,Sum.inl d.2.2.2]
def AtL (H:Hp) (us:List (Addr × LD)):Prop:=∀ u∈us,H u.1=some (.tup ((keyL u.2).map kV))
theorem AtL.same {H H':Hp} {us:List (Addr × LD)} (a:AtL H us) (s:Same H H'):AtL H' us:=fun t h=>s _ _ (a t h)
abbrev refsL (us:List (Addr × LD)):List V:=us.map fun u=>V.ref u.1
def sp_chk (C:Addr):Sp:=fun vs H Q _=>∃ (a dx ls ld b:Addr) (w h:Int) (ts:List (Addr × Rc)) (kvs:List (List Key × V)) (q:Rc),vs=[.ref a,.ref b]∧PanelAt C H a w h ts dx ls ld kvs∧H b=some (.tup (four q.t q.l q.b q.r))∧blk w h (rcs ts) q=true∧∀ H',Same H H'→Q .non H'
def sp_runs (K:PySem.W.Frag):Sp:=fun vs H Q _=>∃ (l m:Addr) (ps ss:List Int),vs=[.ref l,.ref m]∧SqL K H l (ps.map V.int)∧SqL K H m (ss.map V.int)∧ps.length≤100∧∀ (lf:Addr) (us:List (Addr × (Int × Int))) (H':Hp),Same H H'→H lf=none→H' lf=some (.lst (refs2 us))→At2 H' us→us.map (·.2)=runsL (fun x=>decide (x∈ss)) ps→Q (.ref lf) H'
def sp_cols (C:Addr):Sp:=fun vs H Q _=>∃ (a dx ls ld b:Addr) (w h n:Int) (ts:List (Addr × Rc)) (kvs:List (List Key × V)) (q:Rc),vs=[.ref a,.ref b,.int n]∧PanelAt C H a w h ts dx ls ld kvs∧H b=some (.tup (four q.t q.l q.b q.r))∧q.In w h∧q.t < n∧n < q.b ∧
 ∀ l H',Same H H'→H l=none→H' l=some (.lst ((placesN (fun c=>lvB (rcs ts) q n c) q.l (q.r - q.l).toNat).map V.int))→Q (.ref l) H'
def sp_rows (C:Addr):Sp:=fun vs H Q _=>∃ (a dx ls ld b:Addr) (w h n:Int) (ts:List (Addr × Rc)) (kvs:List (List Key × V)) (q:Rc),vs=[.ref a,.ref b,.int n]∧PanelAt C H a w h ts dx ls ld kvs∧H b=some (.tup (four q.t q.l q.b q.r))∧q.In w h∧q.l < n∧n < q.r ∧
 ∀ l H',Same H H'→H l=none→H' l=some (.lst ((placesN (fun r=>upB (rcs ts) q r n) q.t (q.b - q.t).toNat).map V.int))→Q (.ref l) H'
def sp_lvl (C:Addr):Sp:=fun vs H Q _=>∃ (a dx ls ld b:Addr) (w h:Int) (ts:List (Addr × Rc)) (kvs:List (List Key × V)) (q:Rc),vs=[.ref a,.ref b]∧PanelAt C H a w h ts dx ls ld kvs∧H b=some (.tup (four q.t q.l q.b q.r))∧q.In w h ∧
 ∀ l us H',Same H H'→H l=none→H' l=some (.lst (refsL us))→AtL H' us→us.map (·.2)=lvsOf (rcs ts) q→Q (.ref l) H'
def sp_upl (C:Addr):Sp:=fun vs H Q _=>∃ (a dx ls ld b m:Addr) (w h:Int) (ts:List (Addr × Rc)) (kvs:List (List Key × V)) (q:Rc) (us:List (Addr × LD)),vs=[.ref a,.ref b,.ref m]∧PanelAt C H a w h ts dx ls ld kvs∧H b=some (.tup (four q.t q.l q.b q.r))∧q.In w h∧H m=some (.lst (refsL us))∧AtL H us∧us.map (·.2)=lvsOf (rcs ts) q ∧
 ∀ l us' H',Same H H'→H l=none→H' l=some (.lst (refsL us'))→AtL H' us'→us'.map (·.2)=upsOf (rcs ts) q→Q (.ref l) H'
def sp_leads (C:Addr):Sp:=fun vs H Q _=>∃ (a dx ls ld b:Addr) (w h:Int) (ts:List (Addr × Rc)) (kvs:List (List Key × V)) (q:Rc),vs=[.ref a,.ref b]∧PanelAt C H a w h ts dx ls ld kvs∧H b=some (.tup (four q.t q.l q.b q.r))∧q.In w h∧blk w h (rcs ts) q=true ∧
 ∀ l us H',Same H H'→H l=none→H' l=some (.lst (refsL us))→AtL H' us→us.map (·.2)=lvsOf (rcs ts) q++upsOf (rcs ts) q→Q (.ref l) H'
def sp_wheel:Sp:=fun vs H Q _=>∃ (l p:Addr) (v:V) (k z w h:Int) (ts:List (Addr × Rc)),vs=[v,.int k,.ref l,.ref p]∧H p=some (.lst [.int z])∧H l=some (.lst (refs ts))∧At H ts∧Tiles w h (rcs ts)∧ts.length≤41∧(1≤w∧w≤12)∧(1≤h∧h≤12) ∧
 ∀ (l':Addr) (ts':List (Addr × Rc)) (H':Hp),SameX p H H'→H' l'=some (.lst (refs ts'))→At H' ts'→Tiles w h (rcs ts')→ts'.length≤52→Q (.ref l') H'
def OwnD (w h:Int) (ps:List Rc) (kvs:List (List Key × V)):Prop:=∀ r c,0≤r→r < h→0≤c→c < w→∃ (k:Nat) (p:Rc),ps[k]?=some p∧p.has r c∧valV kvs (sqK r c)=some (.int k)
def sp_points (K:PySem.W.Frag):Sp:=fun vs H Q _=>∃ (l:Addr) (ts:List (Addr × Rc)) (w h:Int),vs=[.ref l]∧SqL K H l (refs ts)∧At H ts∧Tiles w h (rcs ts)∧ts.length≤52∧w≤12∧h≤12 ∧
 ∀ d kvs H',Same H H'→H d=none→H' d=some (.dT kvs)→OwnD w h (rcs ts) kvs→Q (.ref d) H'
def sqD (xs:List (Int × Int)):List (List Key × V):=xs.map fun s=>(sqK s.1 s.2,V.bl true)
def sp_bits:Sp:=fun vs H Q _=>∃ (d b:Addr) (w h:Int) (ps:List Rc) (kvs:List (List Key × V)) (q:Rc),vs=[.ref d,.ref b]∧H d=some (.dT kvs)∧OwnD w h ps kvs∧Tiles w h ps∧H b=some (.tup (four q.t q.l q.b q.r))∧q.In w h∧w≤12∧h≤12 ∧
 ∀ (t d1 d2:Addr) (xs ys:List (Int × Int)) (H':Hp),Same H H'→H d1=none→H d2=none→d1≠d2→H' t=some (.tup [.ref d1,.ref d2])→H' d1=some (.dT (sqD xs))→H' d2=some (.dT (sqD ys))→xs.Nodup→ys.Nodup→(∀ s,s∈xs↔lvB ps q s.1 s.2=true)→(∀ s,s∈ys↔upB ps q s.1 s.2=true)→xs.length≤144→ys.length≤144→Q (.ref t) H'
def ldD (ds:List LD):List (List Key × V):=ds.map fun d=>(keyL d,V.bl true)
def sp_due:Sp:=fun vs H Q _=>∃ (d b:Addr) (w h:Int) (ps:List Rc) (kvs:List (List Key × V)) (q:Rc),vs=[.ref d,.ref b]∧H d=some (.dT kvs)∧OwnD w h ps kvs∧Tiles w h ps∧H b=some (.tup (four q.t q.l q.b q.r))∧q.In w h∧w≤12∧h≤12 ∧
 ∀ (d':Addr) (ds:List LD) (H':Hp),Same H H'→H d'=none→H' d'=some (.dT (ldD ds))→ds.Nodup→(∀ x,x∈ds↔IsLead ps q x)→Q (.ref d') H'
def sp_right:Sp:=fun vs H Q _=>∃ (l d:Addr) (us:List (Addr × LD)) (ds:List LD),vs=[.ref l,.ref d]∧H l=some (.lst (refsL us))∧AtL H us∧H d=some (.dT (ldD ds))∧(us.map (·.2)).Nodup∧ds.Nodup∧(∀ x,x∈us.map (·.2)↔x∈ds)∧us.length≤1000∧∀ H',Same H H'→Q (.bl true) H'
structure TxtG (mg:Str→Option Value) (tg:Tok × Tok):Prop where
 g_LEVEL:mg "LEVEL"=some (.str "level" tg.1)
 g_UPRIGHT:mg "UPRIGHT"=some (.str "upright" tg.2)
section
variable {P:Program} {w:World} {K:PySem.W.Frag} {mg:Str→Option Value} {base:Heap} {tk:Tok × Tok} {C:Addr} {tg:Tok × Tok}
theorem S_is_whole:FnScope ["thing"] ["thing"] (defScope s_is_whole):=⟨rfl,rfl,rfl,by decide +kernel,rfl,by decide +kernel,by decide +kernel⟩
theorem ok_is_whole {f:Addr} {fd:FuncData} (F:Fun K "is_whole" "is_whole" s_is_whole f fd) (T:Txt mg tk):FnOk P w K mg base CX0 1 f fd ["thing"] sp_whole:=by
 have S:=S_is_whole
 refine F.ok S (fun vs H Q E h=>?_) (fun cdv A outer s H vs Q E hr h=>?_)
 ·obtain ⟨v,rfl,_⟩:=h; rfl
 ·obtain ⟨v,rfl,⟨T',hT⟩,q⟩:=h
  refine ⟨_,(pss_one (ps_ret (pe_and (pe_callB call_isin rfl T.z_isinstance rfl (pa_cons (pv 0) (pa_cons (pe_bltn (v:=.ty "int") rfl T.z_int rfl rfl) pa_nil))) (pe_one (pe_not (pe_callB call_isin rfl T.z_isinstance rfl (pa_cons (pv 0) (pa_cons (pe_bltn (v:=.ty "bool") rfl T.z_bool rfl rfl) pa_nil)))))))),?_⟩
  refine ⟨v,rfl,v,T',"int",rfl,hT,.inl rfl,_,rfl,ite3 (fun h=>?_) (fun h=>?_)⟩
  ·refine ⟨v,rfl,v,T',"bool",rfl,hT,.inr (.inl rfl),_,rfl,?_⟩
   rw [(whole_eq hT).1 h]; exact q
  ·show Q (.bl false) H
   rw [(whole_eq hT).2 h]; exact q
theorem S_is_side:FnScope ["thing"] ["thing"] (defScope s_is_side):=⟨rfl,rfl,rfl,by decide +kernel,rfl,by decide +kernel,by decide +kernel⟩
theorem ok_is_side {f:Addr} {fd:FuncData} (F:Fun K "is_side" "is_side" s_is_side f fd) (T:Txt mg tk) (D_is_whole:DefOk P w K mg base 1 "is_whole" ["thing"] sp_whole):FnOk P w K mg base CX0 2 f fd ["thing"] sp_side:=by
 have S:=S_is_side
 refine F.ok S (fun vs H Q E h=>?_) (fun cdv A outer s H vs Q E hr h=>?_)
 ·obtain ⟨v,rfl,_⟩:=h; rfl
 ·obtain ⟨v,rfl,hv,q⟩:=h
  refine ⟨_,(pss_one (ps_ret (pe_and (pe_fn D_is_whole hr (pa_cons (pv 0) pa_nil)) (pe_one (pe_chain op_le op_le pe_int (pv 0) (pe_glob (v:=.int 12) rfl T.g_LONGEST_SIDE ⟨_,rfl⟩)))))),?_⟩
  refine ⟨v,rfl,v,rfl,hv,_,rfl,ite3 (fun h=>?_) (fun h=>?_)⟩
  ·obtain ⟨i,rfl⟩:∃ i,v=.int i:=by cases v <;> first | exact ⟨_,rfl⟩ | cases h
   refine ⟨_,rfl,_,_,rfl,rfl,_,rfl,ite3 (fun h1=>?_) (fun h1=>?_)⟩
   ·refine ⟨_,_,rfl,rfl,?_⟩
    have e:sideV (.int i)=decide (i≤12):=by
     show (decide (1≤i) && decide (i≤12))=_
     rw [h1]; rfl
    show Q (.bl (decide (i≤12))) H
    rw [← e]; exact q
   ·have e:sideV (.int i)=false:=by
     show (decide (1≤i) && decide (i≤12))=_
     rw [h1]; rfl
    show Q (.bl false) H
    rw [← e]; exact q
  ·have e:sideV v=false:=by cases v <;> first | rfl | cases h
   show Q (.bl false) H
   rw [← e]; exact q
theorem at0 {x0 x1 x2 x3:V}:atI [x0,x1,x2,x3] 0=some x0:=rfl
theorem at1 {x0 x1 x2 x3:V}:atI [x0,x1,x2,x3] 1=some x1:=rfl
theorem at2 {x0 x1 x2 x3:V}:atI [x0,x1,x2,x3] 2=some x2:=rfl
theorem at3 {x0 x1 x2 x3:V}:atI [x0,x1,x2,x3] 3=some x3:=rfl
theorem four_of:∀ {xs:List V},xs.length=4→(xs.map wholeV).all id=true→∃ a b c d,xs=four a b c d
 | [x0,x1,x2,x3],_,h=>by
  simp only [List.map_cons,List.map_nil,List.all_cons,List.all_nil,id,Bool.and_true,Bool.and_eq_true] at h
  obtain ⟨h0,h1,h2,h3⟩:=h
  have g:∀ {x:V},wholeV x=true→∃ i,x=.int i:=fun {x} h=>by cases x <;> first | exact ⟨_,rfl⟩ | cases h
  obtain ⟨a,rfl⟩:=g h0
  obtain ⟨b,rfl⟩:=g h1
  obtain ⟨c,rfl⟩:=g h2
  obtain ⟨d,rfl⟩:=g h3
  exact ⟨a,b,c,d,rfl⟩
theorem rect_no {xs:List V} (h:∀ a b c d,xs≠four a b c d):rectB xs=false:=by
 unfold rectB
 split
 ·exact absurd rfl (h _ _ _ _)
 ·rfl
theorem dec4 {n:Nat}:(!decide (V.int (n:Int)=V.int 4))=true→n≠4:=fun h e=>by
 subst e
 have:decide (V.int ((4:Nat):Int)=V.int 4)=true:=decI.mpr rfl
 rw [this] at h; cases h
theorem dec4' {n:Nat}:(!decide (V.int (n:Int)=V.int 4))=false→n=4:=fun h=>by
 have e:decide (V.int (n:Int)=V.int 4)=true:=by
  cases z:decide (V.int (n:Int)=V.int 4) with
  | true=>rfl
  | false=>rw [z] at h; cases h
 have:=decI.mp e
 omega
theorem take_next {xs:List V} {i:Nat} {x:V} (h:xs[i]?=some x) {f:V→V}:(xs.take i).map f++[f x]=(xs.take (i+1)).map f:=by
 rw [List.take_succ,h,List.map_append]; rfl
theorem S_is_rectangle:FnScope ["thing"] ["thing"] (defScope s_is_rectangle):=⟨rfl,rfl,rfl,by decide +kernel,rfl,by decide +kernel,by decide +kernel⟩
theorem ok_is_rectangle {f:Addr} {fd:FuncData} (F:Fun K "is_rectangle" "is_rectangle" s_is_rectangle f fd) (T:Txt mg tk) (D_is_whole:DefOk P w K mg base 1 "is_whole" ["thing"] sp_whole):FnOk P w K mg base CX0 2 f fd ["thing"] sp_rect:=by
 have S:=S_is_rectangle
 refine F.ok S (fun vs H Q E h=>?_) (fun cdv A outer s H vs Q E hr h=>?_)
 ·obtain ⟨v,rfl,_⟩:=h; rfl
 ·obtain ⟨v,rfl,h⟩:=h
  refine ⟨_,(pss_cons (ps_if (PW.pt (pw_or (pt_not (pt_val (pe_callB call_isin rfl T.z_isinstance rfl (pa_cons (pv 0) (pa_cons (pe_bltn (v:=.ty "tuple") rfl T.z_tuple rfl rfl) pa_nil))))) (pw_or1 (pt_cmpR op_ne (pe_callB call_len_seq rfl T.z_len rfl (pa_cons (pv 0) pa_nil)) pe_int (nomark _))))) (pss_one (ps_ret pe_bl)) pss_nil)
   (pss_cons (ps_if (pt_not (pt_val (pe_callB call_all rfl T.z_all rfl (pa_cons (pe_comp rfl (pi_tup (pv 0)) (fun _ _ _ _ _=>(pg_name (i:=0) (show List.Nodup (["part"]:List Str) from by decide +kernel) rfl (Or.inl rfl))) (fun _ _ _ _ _=>(pe_fn D_is_whole hr (pa_cons (pv 0) pa_nil))) (N:=["part"]) (fr:=[none])) pa_nil)))) (pss_one (ps_ret pe_bl)) pss_nil)
   (pss_one (ps_ret (pe_and (pe_chain op_le op_lt pe_int (pe_ix ix_tup (pv 0) pe_int (fun _ _=>rfl)) (pe_ix ix_tup (pv 0) pe_int (fun _ _=>rfl))) (pe_one (pe_chain op_le op_lt pe_int (pe_ix ix_tup (pv 0) pe_int (fun _ _=>rfl)) (pe_ix ix_tup (pv 0) pe_int (fun _ _=>rfl))))))))),?_⟩
  rcases h with ⟨a,xs,rfl,ha,hlen,hx,q⟩ | ⟨T',hT,hne,q⟩
  ·refine ⟨_,rfl,_,"tuple","tuple",rfl,ty_tup ha,.inr (.inr (.inl rfl)),_,rfl,iteN (by rw [isB_tt]; rfl) ?_⟩
   refine ⟨_,rfl,a,xs,rfl,.inr (SqT.of ha),rfl,_,rfl,ite3 (fun h=>?_) (fun h=>?_)⟩
   ·have e:rectB xs=false:=rect_no fun a b c d z=>dec4 h (by rw [z]; rfl)
    show Q (.bl false) H
    rw [← e]; exact q H (Same.refl H)
   ·have h4:=dec4' h
    refine ⟨_,rfl,a,rfl,⟨xs,SqT.of ha⟩,fun acc hacc=>comp_tup (K:=K) (a:=a) (ys:=xs) (fun i zs σ H'=>(∃ y,σ=[y])∧Same H H'∧zs=(xs.take i).map fun x=>V.bl (wholeV x)) ⟨⟨none,rfl⟩,Same.new hacc,rfl⟩
     (fun i zs σ H' _ _ hp=>SqT.of (hp.2.1 _ _ ha)) ?_ ?_⟩
    ·rintro i x zs σ H' hxi hi hl hacc' ⟨⟨y,rfl⟩,hs,hzs⟩
     refine ⟨x,rfl,x,rfl,(hx x (List.mem_of_getElem? hxi)).same hs,cNx.mk (Nat.le_of_lt (small1000 (by omega))) hi hl hacc' ⟨⟨_,rfl⟩,fun b o e=>?_,?_⟩⟩
     ·rw [upd_ne (ne_of_none e hacc)]; exact hs b o e
     ·rw [hzs]; exact take_next (f:=fun x=>V.bl (wholeV x)) hxi
    ·rintro zs σ H' hl hacc' ⟨_,hs,hzs⟩
     refine ⟨acc,xs.map wholeV,rfl,SqL.of (by rw [hacc',hzs,List.take_length,List.map_map]; rfl),rfl,_,rfl,ite3 (fun h=>?_) (fun h=>?_)⟩
     ·have e:rectB xs=false:=rect_no fun a b c d z=>by subst z; cases h
      show Q (.bl false) H'
      rw [← e]; exact q H' hs
     ·obtain ⟨a0,a1,a2,a3,rfl⟩:=four_of h4 (by simpa using h)
      have ha':=hs _ _ ha
      have key:Q (.bl (decide (0≤a0) && decide (a0 < a2) && (decide (0≤a1) && decide (a1 < a3)))) H':=q H' hs
      refine ⟨_,rfl,a,_,_,_,rfl,rfl,SqT.of ha',at0,_,_,rfl,rfl,_,rfl,ite3 (fun h1=>?_) (fun h1=>?_)⟩
      ·refine ⟨_,rfl,a,_,_,_,rfl,rfl,SqT.of ha',at2,_,_,rfl,rfl,_,rfl,ite3 (fun h2=>?_) (fun h2=>?_)⟩
       ·refine ⟨_,rfl,a,_,_,_,rfl,rfl,SqT.of ha',at1,_,_,rfl,rfl,_,rfl,ite3 (fun h3=>?_) (fun h3=>?_)⟩
        ·refine ⟨_,rfl,a,_,_,_,rfl,rfl,SqT.of ha',at3,_,_,rfl,rfl,?_⟩
         rw [h1,h2,h3] at key; exact key
        ·show Q (.bl false) H'
         rw [h1,h2,h3] at key; exact key
       ·show Q (.bl false) H'
        rw [h1,h2] at key; exact key
      ·refine ⟨_,rfl,iteF ?_⟩
       show Q (.bl false) H'
       rw [h1] at key; exact key
  ·refine ⟨_,rfl,_,T',"tuple",rfl,hT,.inr (.inr (.inl rfl)),_,rfl,iteP ?_ (iteT q)⟩
   have e:isB T' "tuple"=false:=by
    unfold isB
    rw [decide_eq_false hne]
    simp
   rw [e]; rfl
theorem S_inside:FnScope ["one","other","starts_within"] ["one","other"] (defScope s_inside):=⟨rfl,rfl,rfl,by decide +kernel,rfl,by decide +kernel,by decide +kernel⟩
theorem ok_inside {f:Addr} {fd:FuncData} (F:Fun K "inside" "inside" s_inside f fd):FnOk P w K mg base CX0 1 f fd ["one","other"] sp_inside:=by
 have S:=S_inside
 refine F.ok S (fun vs H Q E h=>?_) (fun cdv A outer s H vs Q E hr h=>?_)
 ·obtain ⟨a,b,a0,a1,a2,a3,o0,o1,o2,o3,rfl,_⟩:=h; rfl
 ·obtain ⟨a,b,a0,a1,a2,a3,o0,o1,o2,o3,rfl,ha,hb,q⟩:=h
  refine ⟨_,(pss_cons (ps_set (i:=2) S.nd rfl (Or.inl rfl) (pe_and (pe_cmpR op_le (pe_ix ix_tup (pv 1) pe_int (fun _ _=>rfl)) (pe_ix ix_tup (pv 0) pe_int (fun _ _=>rfl)) (nomark _)) (pe_one (pe_cmpR op_le (pe_ix ix_tup (pv 1) pe_int (fun _ _=>rfl)) (pe_ix ix_tup (pv 0) pe_int (fun _ _=>rfl)) (nomark _)))))
   (pss_one (ps_ret (pe_and (pv 2) (pe_and (pe_cmpR op_le (pe_ix ix_tup (pv 0) pe_int (fun _ _=>rfl)) (pe_ix ix_tup (pv 1) pe_int (fun _ _=>rfl)) (nomark _)) (pe_one (pe_cmpR op_le (pe_ix ix_tup (pv 0) pe_int (fun _ _=>rfl)) (pe_ix ix_tup (pv 1) pe_int (fun _ _=>rfl)) (nomark _)))))))),?_⟩
  have key:Q (.bl (decide (o0≤a0) && decide (o1≤a1) && (decide (a2≤o2) && decide (a3≤o3)))) H:=q
  refine ⟨_,rfl,b,_,_,_,rfl,rfl,SqT.of hb,at0,_,rfl,a,_,_,_,rfl,rfl,SqT.of ha,at0,_,_,rfl,rfl,_,rfl,ite3 (fun h1=>?_) (fun h1=>?_)⟩
  ·refine ⟨_,rfl,b,_,_,_,rfl,rfl,SqT.of hb,at1,_,rfl,a,_,_,_,rfl,rfl,SqT.of ha,at1,_,_,rfl,rfl,?_⟩
   refine ⟨_,rfl,_,rfl,ite3 (fun h2=>?_) (fun h2=>?_)⟩
   ·refine ⟨_,rfl,a,_,_,_,rfl,rfl,SqT.of ha,at2,_,rfl,b,_,_,_,rfl,rfl,SqT.of hb,at2,_,_,rfl,rfl,_,rfl,ite3 (fun h3=>?_) (fun h3=>?_)⟩
    ·refine ⟨_,rfl,a,_,_,_,rfl,rfl,SqT.of ha,at3,_,rfl,b,_,_,_,rfl,rfl,SqT.of hb,at3,_,_,rfl,rfl,?_⟩
     rw [h1,h2,h3] at key; exact key
    ·show Q (.bl false) H
     rw [h1,h2,h3] at key; exact key
   ·show Q (.bl false) H
    rw [h1,h2] at key; exact key
  ·refine ⟨_,rfl,_,rfl,iteF ?_⟩
   show Q (.bl false) H
   rw [h1] at key; exact key
theorem S_law_take:FnScope ["_law_purse_here","_law_many","_law_found"] ["_law_purse_here","_law_many"] (defScope s__law_take):=⟨rfl,rfl,rfl,by decide +kernel,rfl,by decide +kernel,by decide +kernel⟩
theorem ok_law_take {f:Addr} {fd:FuncData} (F:Fun K "_law_take" "_law_take" s__law_take f fd):FnOk P w K mg base CX0 1 f fd ["_law_purse_here","_law_many"] sp_take:=by
 have S:=S_law_take
 refine F.ok S (fun vs H Q E h=>?_) (fun cdv A outer s H vs Q E hr h=>?_)
 ·obtain ⟨p,z,m,rfl,_⟩:=h; rfl
 ·obtain ⟨p,z,m,rfl,hp,hm,hm2,q⟩:=h
  refine ⟨_,(pss_cons (ps_set (i:=2) S.nd rfl (Or.inl rfl) (pe_op op_mod (pe_ix ix_list (pv 0) pe_int (fun _ _=>rfl)) (pv 1)))
   (pss_cons (ps_asg (pe_op op_fdivL (pe_ix ix_list (pv 0) pe_int (fun _ _=>rfl)) (pv 1)) (pg_sub (pv 0) pe_int set_list))
   (pss_one (ps_ret (pv 2))))),?_⟩
  have hdiv:CDivL z m:=⟨hm,Nat.lt_trans (log2_lt_of (k:=64) (by decide) (by omega)) (by decide)⟩
  refine ⟨_,rfl,p,_,_,_,rfl,rfl,SqL.of hp,rfl,_,rfl,_,_,rfl,rfl,hm,?_⟩
  refine ⟨_,rfl,p,_,_,_,rfl,rfl,SqL.of hp,rfl,_,rfl,_,_,rfl,rfl,hdiv,_,rfl,p,_,_,0,rfl,rfl,hp,rfl,?_⟩
  exact ⟨_,rfl,q _ _ (Int.emod_nonneg _ (by omega)) (Int.emod_lt_of_pos _ hm)⟩
theorem S_law_purse:FnScope ["_law_script","_law_k","_law_cell"] ["_law_script","_law_k"] (defScope s__law_purse):=⟨rfl,rfl,rfl,by decide +kernel,rfl,by decide +kernel,by decide +kernel⟩
theorem pow18:CPow 10 18:=⟨by decide,by decide,by decide⟩
theorem pow30:CPow 10 30:=⟨by decide,by decide,by decide⟩
theorem div18 (z:Int):CDivL z (10^(18:Int).toNat):=⟨by decide +kernel,by decide +kernel⟩
theorem big_eq:(10:Int)^(30:Int).toNat+57=1000000000000000000000000000057:=by decide +kernel
theorem big_pos:(0:Int) < (10:Int)^(30:Int).toNat+57:=by rw [big_eq]; decide
theorem big_mul {z k:Int} (h0:0≤k) (h1:k < 1000):IntMulOk (z % ((10:Int)^(30:Int).toNat+57)+k+1) 618033988749894848204586834365:=by
 rw [big_eq]
 refine mulOk_of ?_ (by decide +kernel)
 have a:=Int.emod_nonneg z (b:=1000000000000000000000000000057) (by decide)
 have b:=Int.emod_lt_of_pos z (b:=1000000000000000000000000000057) (by decide)
 have c:(2:Nat)^128=340282366920938463463374607431768211456:=by decide +kernel
 rw [c]
 omega
theorem ok_law_purse {f:Addr} {fd:FuncData} (F:Fun K "_law_purse" "_law_purse" s__law_purse f fd) (T:Txt mg tk):FnOk P w K mg base CX0 1 f fd ["_law_script","_law_k"] (sp_purse K):=by
 have S:=S_law_purse
 refine F.ok S (fun vs H Q E h=>?_) (fun cdv A outer s H vs Q E hr h=>?_)
 ·obtain ⟨a,ns,k,rfl,_⟩:=h; rfl
 ·obtain ⟨a,ns,k,rfl,hS,hk0,hk1,q⟩:=h
  refine ⟨_,(pss_cons (ps_set (i:=2) S.nd rfl (Or.inl rfl) pe_int)
   (pss_cons (ps_if (pt_cmpR op_lt (pv 1) (pe_callB call_len_seq rfl T.z_len rfl (pa_cons (pv 0) pa_nil)) (nomark _)) (pss_one (ps_set (i:=2) S.nd rfl (Or.inl rfl) (pe_ix ix_list (pv 0) (pv 1) (fun _ _=>rfl)))) pss_nil)
   (pss_cons (ps_if (pt_cmpR op_ne (pe_op op_fdivL (pv 2) (pe_op op_pow pe_int pe_int)) pe_int (nomark _)) (pss_one (ps_ret (pe_lst (pa_cons (pv 2) pa_nil)))) pss_nil)
   (pss_one (ps_ret (pe_lst (pa_cons (pe_op op_mod (pe_op op_mulL (pe_op op_add (pe_op op_add (pe_op op_mod (pv 2) (pe_op op_add (pe_op op_pow pe_int pe_int) pe_int)) (pv 1)) pe_int) pe_int) (pe_op op_add (pe_op op_pow pe_int pe_int) pe_int)) pa_nil))))))),?_⟩
  refine ⟨_,rfl,_,rfl,a,_,rfl,.inl hS,_,_,rfl,rfl,_,rfl,ite3 (fun h=>?_) (fun h=>?_)⟩
  ·have hk:k.toNat < ns.length:=by
    have h':k < ((ns.map V.int).length:Int):=of_decide_eq_true h
    rw [List.length_map] at h'
    omega
   have hz:(ns.map V.int)[k.toNat]?=some (.int ns[k.toNat]):=by rw [List.getElem?_map,List.getElem?_eq_getElem hk]; rfl
   have hat:atI (ns.map V.int) k=some (.int ns[k.toNat]):=by
    have e:=atI_nat hz
    rw [Int.toNat_of_nonneg hk0] at e
    exact e
   refine ⟨_,rfl,_,rfl,a,_,k,_,rfl,rfl,hS,hat,?_⟩
   generalize ns[k.toNat]=z0
   refine ⟨_,rfl,_,_,rfl,rfl,pow18,_,_,rfl,rfl,div18 _,rfl,_,rfl,ite3 (fun h=>?_) (fun h=>?_)⟩
   ·exact ⟨_,rfl,lenOk 1,fun p hp=>q p _ hp⟩
   ·exact ⟨_,rfl,_,_,rfl,rfl,pow30,_,_,rfl,rfl,_,_,rfl,rfl,big_pos,_,rfl,_,_,rfl,rfl,_,_,rfl,rfl,_,_,rfl,rfl,big_mul hk0 hk1,_,_,rfl,rfl,pow30,_,_,rfl,rfl,_,_,rfl,rfl,big_pos,lenOk 1,fun p hp=>q p _ hp⟩
  ·refine ⟨_,rfl,_,_,rfl,rfl,pow18,_,_,rfl,rfl,div18 _,rfl,_,rfl,ite3 (fun h=>?_) (fun h=>?_)⟩
   ·exact ⟨_,rfl,lenOk 1,fun p hp=>q p _ hp⟩
   ·exact ⟨_,rfl,_,_,rfl,rfl,pow30,_,_,rfl,rfl,_,_,rfl,rfl,big_pos,_,rfl,_,_,rfl,rfl,_,_,rfl,rfl,_,_,rfl,rfl,big_mul hk0 hk1,_,_,rfl,rfl,pow30,_,_,rfl,rfl,_,_,rfl,rfl,big_pos,lenOk 1,fun p hp=>q p _ hp⟩
theorem atI_in {L:List V} {i:Int} (h0:0≤i) (h1:i < L.length):∃ v,atI L i=some v∧v∈L:=by
 have h:i.toNat < L.length:=by omega
 have e:=atI_nat (List.getElem?_eq_getElem h)
 rw [Int.toNat_of_nonneg h0] at e
 exact ⟨_,e,List.getElem_mem h⟩
theorem S_squares_of:FnScope ["rectangle","squares","row","column"] ["rectangle"] (defScope s_squares_of):=⟨rfl,rfl,rfl,by decide +kernel,rfl,by decide +kernel,by decide +kernel⟩
theorem mul144 {i m:Nat} (h1:i≤12) (h2:m≤12):i * m≤144:=Nat.mul_le_mul h1 h2
theorem ok_squares_of {f:Addr} {fd:FuncData} (F:Fun K "squares_of" "squares_of" s_squares_of f fd) (T:Txt mg tk):FnOk P w K mg base CX0 1 f fd ["rectangle"] sp_squares:=by
 have S:=S_squares_of
 refine F.ok S (fun vs H Q E h=>?_) (fun cdv A outer s H vs Q E hr h=>?_)
 ·obtain ⟨a,p,rfl,_⟩:=h; rfl
 ·obtain ⟨a,p,rfl,ha,g1,g2,g3,g4,g5,g6,q⟩:=h
  refine ⟨_,(pss_cons (ps_set (i:=1) S.nd rfl (Or.inl rfl) (pe_lst pa_nil))
   (pss_cons (ps_for PassesOwn.never rfl (pi_range2 rfl T.z_range (pa_cons (pe_ix ix_tup (pv 0) pe_int (fun _ _=>rfl)) (pa_cons (pe_ix ix_tup (pv 0) pe_int (fun _ _=>rfl)) pa_nil))) (pg_name (i:=2) S.nd rfl (Or.inl rfl)) (pss_one (ps_for PassesOwn.never rfl (pi_range2 rfl T.z_range (pa_cons (pe_ix ix_tup (pv 0) pe_int (fun _ _=>rfl)) (pa_cons (pe_ix ix_tup (pv 0) pe_int (fun _ _=>rfl)) pa_nil))) (pg_name (i:=3) S.nd rfl (Or.inl rfl)) (pss_one (ps_expr (pe_bm PySem.F.plainAttrs_list PySem.F.slot_list_append PySem.F.type_list_append mt_append (pv 1) (pa_cons (pe_tup (pa_cons (pv 2) (pa_cons (pv 3) pa_nil))) pa_nil)))))))
   (pss_one (ps_ret (pv 1))))),?_⟩
  refine ⟨lenOk 0,fun l hl=>?_⟩
  have ha0:(upd H l (.lst [])) a=some (.tup (four p.t p.l p.b p.r)):=Same.new hl _ _ ha
  refine ⟨_,rfl,a,_,_,_,rfl,rfl,SqT.of ha0,at0,_,rfl,a,_,_,_,rfl,rfl,SqT.of ha0,at2,p.t,p.b,rfl,⟨by omega,by omega,by omega,by omega⟩,
   for_range (lo:=p.t) (n:=(p.b - p.t).toNat) (fun i σ H'=>∃ x y,∃ sq:List (Addr × (Int × Int)),σ=[some (.ref a),some (.ref l),x,y]∧Same H H'∧H' l=some (.lst (sq.map fun s=>V.ref s.1))∧(∀ s∈sq,H' s.1=some (.tup [.int s.2.1,.int s.2.2]))∧sq.map (·.2)=sqsN p i)
    ⟨none,none,[],rfl,Same.new hl,upd_same,fun s hs=>(nomatch hs),rfl⟩ ?_ ?_⟩
  ·rintro i σ H' hi ⟨x,y,sq,rfl,hs,hlst,hsq,hmap⟩
   have ha':=hs _ _ ha
   refine ⟨_,rfl,a,_,_,_,rfl,rfl,SqT.of ha',at1,_,rfl,a,_,_,_,rfl,rfl,SqT.of ha',at3,p.l,p.r,rfl,⟨by omega,by omega,by omega,by omega⟩,
    for_range (lo:=p.l) (n:=(p.r - p.l).toNat) (fun j σ H2=>∃ y,∃ sq:List (Addr × (Int × Int)),σ=[some (.ref a),some (.ref l),some (.int (p.t+i)),y]∧Same H H2∧H2 l=some (.lst (sq.map fun s=>V.ref s.1))∧(∀ s∈sq,H2 s.1=some (.tup [.int s.2.1,.int s.2.2]))∧sq.map (·.2)=sqsN p i++rowSq p i j)
     ⟨y,sq,rfl,hs,hlst,hsq,by rw [hmap]; simp [rowSq]⟩ ?_ ?_⟩
   ·rintro j σ H2 hj ⟨y,sq,rfl,hs2,hl2,hq2,hm2⟩
    refine ⟨_,rfl,.inl ⟨rfl,_,SqL.of hl2⟩,_,rfl,_,rfl,lenOk 2,fun t ht=>?_⟩
    have nlt:l≠t:=ne_of_none hl2 ht
    have hlen:sq.length≤288:=by
     have e:=congrArg List.length hm2
     rw [List.length_map,List.length_append,sqsN_len,rowSq,List.length_map,List.length_range] at e
     have:=mul144 (i:=i) (m:=(p.r - p.l).toNat) (by omega) (by omega)
     omega
    refine ⟨l,_,_,rfl,rfl,by rw [upd_ne nlt]; exact hl2,small1000 (by rw [List.length_map]; omega),?_⟩
    refine ⟨_,sq++[(t,(p.t+(i:Int),p.l+(j:Int)))],rfl,fun b o e=>?_,?_,fun z hz=>?_,?_⟩
    ·rw [upd_ne (ne_of_none e hl),upd_ne (ne_of_none (hs2 _ _ e) ht)]; exact hs2 b o e
    ·rw [upd_same,List.map_append]; rfl
    ·rcases List.mem_append.mp hz with hz | hz
     ·have e:=hq2 z hz
      have n1:z.1≠l:=ne_of e hl2 (by intro q; cases q)
      rw [upd_ne n1,upd_ne (ne_of_none e ht)]; exact e
     ·rw [List.mem_singleton.mp hz,upd_ne (Ne.symm nlt)]; exact upd_same
    ·rw [List.map_append,hm2,List.append_assoc,rowSq_succ]; rfl
   ·rintro σ H2 ⟨y,sq,rfl,hs2,hl2,hq2,hm2⟩
    exact ⟨_,_,sq,rfl,hs2,hl2,hq2,hm2⟩
  ·rintro σ H2 ⟨x,y,sq,rfl,hs2,hl2,hq2,hm2⟩
   exact ⟨_,rfl,q l sq H2 hs2 hl hl2 hq2 hm2⟩
theorem S_check_sides:FnScope ["width","height","side"] ["width","height"] (defScope s_check_sides):=⟨rfl,rfl,rfl,by decide +kernel,rfl,by decide +kernel,by decide +kernel⟩
theorem side_ok {x:Int} (h:1≤x∧x≤12):sideV (.int x)=true:=by
 show (decide (1≤x) && decide (x≤12))=true
 rw [decide_eq_true h.1,decide_eq_true h.2]; rfl
theorem ok_check_sides {f:Addr} {fd:FuncData} (F:Fun K "check_sides" "check_sides" s_check_sides f fd) (D_is_side:DefOk P w K mg base 2 "is_side" ["thing"] sp_side):FnOk P w K mg base CX0 3 f fd ["width","height"] sp_check_sides:=by
 have S:=S_check_sides
 refine F.ok S (fun vs H Q E h=>?_) (fun cdv A outer s H vs Q E hr h=>?_)
 ·obtain ⟨a,p,rfl,_⟩:=h; rfl
 ·obtain ⟨w,h,rfl,gw,gh,q⟩:=h
  refine ⟨_,(pss_one (ps_for PassesOwn.never rfl (pi_tup (pe_tup (pa_cons (pv 0) (pa_cons (pv 1) pa_nil)))) (pg_name (i:=2) S.nd rfl (Or.inl rfl)) (pss_one (ps_if (pt_not (pt_val (pe_fn D_is_side hr (pa_cons (pv 2) pa_nil)))) (pss_one ps_never) pss_nil)))),?_⟩
  refine ⟨_,rfl,_,rfl,lenOk 2,fun t ht=>⟨t,rfl,⟨_,SqT.of upd_same⟩,for_tup (K:=K) (a:=t) (xs:=[.int w,.int h]) (fun i σ H'=>(∃ y,σ=[some (.int w),some (.int h),y])∧H'=upd H t (.tup [.int w,.int h])) ⟨⟨none,rfl⟩,rfl⟩ (fun i σ H' _ hp=>by rw [hp.2]; exact SqT.of upd_same) ?_ ?_⟩⟩
  ·rintro i x σ H' hx ⟨⟨y,rfl⟩,rfl⟩
   obtain ⟨z,rfl,hz⟩:∃ z,x=.int z∧(1≤z∧z≤12):=by
    have:=List.mem_of_getElem? hx
    simp only [List.mem_cons,List.not_mem_nil,or_false] at this
    rcases this with rfl | rfl
    ·exact ⟨_,rfl,gw⟩
    ·exact ⟨_,rfl,gh⟩
   refine ⟨_,rfl,.int z,rfl,⟨"int",rfl⟩,_,rfl,iteN (by rw [side_ok hz]; rfl) ?_⟩
   exact ⟨⟨_,rfl⟩,rfl⟩
  ·rintro σ H' ⟨⟨y,rfl⟩,rfl⟩
   exact q _ (Same.new ht)
theorem S_check_panes:FnScope ["panes","sheet","place","pane"] ["panes","sheet"] (defScope s_check_panes):=⟨rfl,rfl,rfl,by decide +kernel,rfl,by decide +kernel,by decide +kernel⟩
theorem in_rect {p:Rc} {w h:Int} (i:p.In w h):rectB (four p.t p.l p.b p.r)=true:=by
 obtain ⟨a1,a2,a3,a4,a5,a6⟩:=i
 show (decide (0≤p.t) && decide (p.t < p.b) && (decide (0≤p.l) && decide (p.l < p.r)))=true
 rw [decide_eq_true a1,decide_eq_true a2,decide_eq_true a4,decide_eq_true a5]; rfl
theorem in_ins {p:Rc} {w h:Int} (i:p.In w h):insB p.t p.l p.b p.r 0 0 h w=true:=by
 obtain ⟨a1,a2,a3,a4,a5,a6⟩:=i
 show (decide (0≤p.t) && decide (0≤p.l) && (decide (p.b≤h) && decide (p.r≤w)))=true
 rw [decide_eq_true a1,decide_eq_true a4,decide_eq_true a3,decide_eq_true a6]; rfl
theorem four_ty {H:Hp} {a b c d:Int}:∀ x∈four a b c d,Ty H x:=fun x hx=>by
 simp only [List.mem_cons,List.not_mem_nil,or_false] at hx
 rcases hx with rfl | rfl | rfl | rfl <;> exact ⟨"int",rfl⟩
theorem ok_check_panes {f:Addr} {fd:FuncData} (F:Fun K "check_panes" "check_panes" s_check_panes f fd) (T:Txt mg tk) (D_is_rectangle:DefOk P w K mg base 2 "is_rectangle" ["thing"] sp_rect) (D_inside:DefOk P w K mg base 1 "inside" ["one","other"] sp_inside) :
  FnOk P w K mg base CX0 3 f fd ["panes","sheet"] (sp_check_panes K):=by
 have S:=S_check_panes
 refine F.ok S (fun vs H Q E h=>?_) (fun cdv A outer s H vs Q E hr h=>?_)
 ·obtain ⟨l,sh,w,h,ts,rfl,_⟩:=h; rfl
 ·obtain ⟨l,sh,w,h,ts,rfl,hl,hat,hsh,hin,hlen,q⟩:=h
  refine ⟨_,(pss_cons (ps_if (pt_cmpR op_gt (pe_callB call_len_seq rfl T.z_len rfl (pa_cons (pv 0) pa_nil)) (pe_glob (v:=.int 52) rfl T.g_MOST_PANES ⟨_,rfl⟩) (nomark _)) (pss_one ps_never) pss_nil)
   (pss_one (ps_for PassesOwn.never rfl (pi_enum rfl T.z_enumerate (pa_cons (pv 0) pa_nil)) (pg_tup rfl (pgs_cons (pg_name (i:=2) S.nd rfl (Or.inl rfl)) (pgs_cons (pg_name (i:=3) S.nd rfl (Or.inl rfl)) pgs_nil))) (pss_one (ps_if (PW.pt (pw_or (pt_not (pt_val (pe_fn D_is_rectangle hr (pa_cons (pv 3) pa_nil)))) (pw_or1 (pt_not (pt_val (pe_fn D_inside hr (pa_cons (pv 3) (pa_cons (pv 1) pa_nil)))))))) (pss_one ps_never) pss_nil))))),?_⟩
  refine ⟨_,rfl,l,_,rfl,.inl hl,_,_,rfl,rfl,_,rfl,iteN (decide_eq_false (by rw [List.length_map]; omega)) ?_⟩
  refine ⟨_,rfl,l,rfl,⟨_,hl⟩,for_enum (K:=K) (a:=l) (xs:=refs ts) (fun i σ H'=>(∃ x y,σ=[some (.ref l),some (.ref sh),x,y])∧Same H H') ⟨⟨none,none,rfl⟩,Same.refl H⟩ (fun i σ H' _ hp=>hp.2.seq hl) ?_ ?_⟩
  ·rintro i x σ H' t hx ⟨⟨x0,y0,rfl⟩,hs⟩ ht
   obtain ⟨u,hu,rfl⟩:=refs_get hx
   have hum:=List.mem_of_getElem? hu
   have hsT:=Same.new (o:=.tup [.int i,.ref u.1]) ht
   have s1:=hs.trans hsT
   have hui:=hin u.2 (List.mem_map.mpr ⟨u,hum,rfl⟩)
   have hua:=s1 _ _ (hat u hum)
   refine ⟨t,_,rfl,SqT.of upd_same,rfl,_,_,rfl,_,_,rfl,rfl,?_⟩
   refine ⟨_,rfl,_,rfl,.inl ⟨u.1,_,rfl,hua,(by show (4:Nat)≤100; decide),four_ty,fun H2 s2=>⟨_,rfl,iteN (by rw [in_rect hui]; rfl) ?_⟩⟩⟩
   refine ⟨_,rfl,_,rfl,u.1,sh,_,_,_,_,_,_,_,_,rfl,s2 _ _ hua,s2 _ _ (s1 _ _ hsh),_,rfl,iteN (by rw [in_ins hui]; rfl) ?_⟩
   exact ⟨⟨_,_,rfl⟩,s1.trans s2⟩
  ·rintro σ H' ⟨⟨x0,y0,rfl⟩,hs⟩
   exact q H' hs
theorem mem_take_succ {α:Type} {xs:List α} {i:Nat} {u x:α} (h:xs[i]?=some u):x∈xs.take (i+1)↔x∈xs.take i∨x=u:=by
 rw [List.take_succ,h,List.mem_append]
 simp
theorem apart_take {ts:List (Addr × Rc)} (hd:(rcs ts).Pairwise Apart) {i:Nat} {u t:Addr × Rc} (h:ts[i]?=some u) (ht:t∈ts.take i):Apart t.2 u.2:=by
 obtain ⟨j,hj,rfl⟩:=List.getElem_of_mem ht
 obtain ⟨hi,rfl⟩:=List.getElem?_eq_some_iff.mp h
 rw [List.pairwise_iff_getElem] at hd
 have hj':j < i:=by rw [List.length_take] at hj; omega
 have:=hd j i (by rw [List.length_map]; omega) (by rw [List.length_map]; exact hi) hj'
 simpa using this
theorem nodup_take {α β:Type} {xs:List α} {f:α→β} (hn:(xs.map f).Nodup) {j:Nat} {s:α} (h:xs[j]?=some s):f s ∉ (xs.take j).map f:=fun hm=>by
 obtain ⟨hj,rfl⟩:=List.getElem?_eq_some_iff.mp h
 obtain ⟨y,hy,e⟩:=List.mem_map.mp hm
 obtain ⟨k,hk,rfl⟩:=List.getElem_of_mem hy
 have hk':k < j:=by rw [List.length_take] at hk; omega
 rw [List.nodup_iff_pairwise_ne,List.pairwise_iff_getElem] at hn
 exact hn k j (by rw [List.length_map]; omega) (by rw [List.length_map]; exact hj) hk' (by simpa using e)
theorem sq_get {sq:List (Addr × (Int × Int))} {i:Nat} {x:V} (h:(sq.map fun s=>V.ref s.1)[i]?=some x):∃ t,sq[i]?=some t∧x=.ref t.1:=by
 rw [List.getElem?_map] at h
 cases e:sq[i]? with
 | none=>rw [e] at h; cases h
 | some t=>rw [e] at h; exact ⟨t,rfl,(Option.some.inj h).symm⟩
theorem sqs_len {p:Rc} {w h:Int} (i:p.In w h) (b1:w≤12) (b2:h≤12):(sqs p).length≤144:=by
 obtain ⟨a1,a2,a3,a4,a5,a6⟩:=i
 unfold sqs
 rw [sqsN_len]
 exact mul144 (by omega) (by omega)
theorem S_panes_by_square:FnScope ["panes","by_square","place","pane","square"] ["panes"] (defScope s_panes_by_square):=⟨rfl,rfl,rfl,by decide +kernel,rfl,by decide +kernel,by decide +kernel⟩
theorem ok_panes_by_square {f:Addr} {fd:FuncData} (F:Fun K "panes_by_square" "panes_by_square" s_panes_by_square f fd) (T:Txt mg tk) (D_squares_of:DefOk P w K mg base 1 "squares_of" ["rectangle"] sp_squares):FnOk P w K mg base CX0 2 f fd ["panes"] (sp_by_square K):=by
 have S:=S_panes_by_square
 refine F.ok S (fun vs H Q E h=>?_) (fun cdv A outer s H vs Q E hr h=>?_)
 ·obtain ⟨l,w,h,ts,rfl,_⟩:=h; rfl
 ·obtain ⟨l,w,h,ts,rfl,hl,hat,hin,hap,hlen,bw,bh,q⟩:=h
  have hu:=hu_of hr
  refine ⟨_,(pss_cons (ps_set (i:=1) S.nd rfl (Or.inl rfl) pe_dnewT)
   (pss_cons (ps_for PassesOwn.never rfl (pi_enum rfl T.z_enumerate (pa_cons (pv 0) pa_nil)) (pg_tup rfl (pgs_cons (pg_name (i:=2) S.nd rfl (Or.inl rfl)) (pgs_cons (pg_name (i:=3) S.nd rfl (Or.inl rfl)) pgs_nil))) (pss_one (ps_for PassesOwn.never rfl (pi_list (pe_fn D_squares_of hr (pa_cons (pv 3) pa_nil))) (pg_name (i:=4) S.nd rfl (Or.inl rfl)) (pss_cons (ps_if (pt_cmp (pc_din hu (pv 4) (pv 1))) (pss_one ps_never) pss_nil)
   (pss_one (ps_dput hu (pv 1) (pv 4) (pv 3) rfl))))))
   (pss_one (ps_ret (pv 1))))),?_⟩
  intro d hd
  refine ⟨_,rfl,l,rfl,⟨_,(Same.new hd).seq hl⟩,for_enum (K:=K) (a:=l) (xs:=refs ts) (fun i σ H'=>(∃ x y z,σ=[some (.ref l),some (.ref d),x,y,z])∧Same H H'∧∃ kvs,H' d=some (.dT kvs)∧kvs.length≤144 * i ∧
    (∀ t∈ts.take i,∀ r c,t.2.has r c→valV kvs (sqK r c)=some (.ref t.1))∧∀ r c v,valV kvs (sqK r c)=some v→∃ t∈ts.take i,t.2.has r c)
   ⟨⟨none,none,none,rfl⟩,Same.new hd,[],upd_same,Nat.zero_le _,fun t ht=>(nomatch ht),fun r c v e=>by cases e⟩ (fun i σ H' _ hp=>hp.2.1.seq hl) ?_ ?_⟩
  ·rintro i x σ H' tt hx ⟨⟨x0,y0,z0,rfl⟩,hs,kvs,hk,hkl,ha1,ha2⟩ htt
   obtain ⟨u,hu',rfl⟩:=refs_get hx
   have hum:=List.mem_of_getElem? hu'
   have hi:i < ts.length:=(List.getElem?_eq_some_iff.mp hu').1
   have s1:=hs.trans (Same.new (o:=.tup [.int i,.ref u.1]) htt)
   have hui:=hin u.2 (List.mem_map.mpr ⟨u,hum,rfl⟩)
   obtain ⟨c1,c2,c3,c4,c5,c6⟩:=id hui
   have hua:=s1 _ _ (hat u hum)
   have hk1:(upd H' tt (.tup [.int i,.ref u.1])) d=some (.dT kvs):=Same.new htt _ _ hk
   refine ⟨tt,_,rfl,SqT.of upd_same,rfl,_,_,rfl,_,_,rfl,rfl,?_⟩
   refine ⟨_,rfl,u.1,u.2,rfl,hua,c1,by omega,by omega,c4,by omega,by omega,fun l2 sq H2 s2 n2 hl2 hsq hmap=>⟨l2,rfl,⟨_,SqL.of hl2⟩,?_⟩⟩
   have hk2:=s2 _ _ hk1
   have nl2:l2≠d:=ne_of hl2 hk2 (by intro z; cases z)
   have sql:sq.length≤144:=by
    have:=sqs_len hui bw bh
    rw [← hmap,List.length_map] at this
    exact this
   have nd:=sqsN_nodup (p:=u.2) (by omega) (u.2.b - u.2.t).toNat
   have nd':(sq.map (·.2)).Nodup:=by rw [hmap]; exact nd
   refine for_list (K:=K) (a:=l2) (xs:=sq.map fun s=>V.ref s.1) (fun j σ H3=>(∃ z,σ=[some (.ref l),some (.ref d),some (.int i),some (.ref u.1),z])∧SameX d H2 H3∧∃ kvs,H3 d=some (.dT kvs)∧kvs.length≤144 * i+j ∧
     (∀ t∈ts.take i,∀ r c,t.2.has r c→valV kvs (sqK r c)=some (.ref t.1))∧(∀ z∈sq.take j,valV kvs (sqK z.2.1 z.2.2)=some (.ref u.1)) ∧
     ∀ r c v,valV kvs (sqK r c)=some v→(∃ t∈ts.take i,t.2.has r c)∨(r,c)∈(sq.take j).map (fun y:Addr × (Int × Int)=>y.2))
    ⟨⟨_,rfl⟩,SameX.refl,kvs,hk2,by omega,ha1,fun z hz=>(nomatch hz),fun r c v e=>.inl (ha2 r c v e)⟩ (fun j σ H3 _ hp=>SqL.of (hp.2.1 _ _ nl2 hl2)) ?_ ?_
   ·rintro j y σ H3 hy ⟨⟨z0,rfl⟩,s3,kv,hk3,hkl3,b1,b2,b3⟩
    obtain ⟨z,hz,rfl⟩:=sq_get hy
    have hzm:=List.mem_of_getElem? hz
    have hj:j < sq.length:=(List.getElem?_eq_some_iff.mp hz).1
    have hz2:=hsq z hzm
    have nz:z.1≠d:=ne_of hz2 hk2 (by intro q; cases q)
    have hz3:=s3 _ _ nz hz2
    have hin2:u.2.has z.2.1 z.2.2:=(mem_sqs (by omega) (by omega)).mp (by rw [← hmap]; exact List.mem_map.mpr ⟨z,hzm,rfl⟩)
    have hno:valV kv (sqK z.2.1 z.2.2)=none:=by
     cases e:valV kv (sqK z.2.1 z.2.2) with
     | none=>rfl
     | some v =>
      rcases b3 _ _ v e with ⟨t,ht,hh⟩ | hm
      ·exact (apart_take hap hu' ht _ _ hh hin2).elim
      ·exact absurd hm (nodup_take nd' hz)
    have dg:=DGet.t (k:=sqK z.2.1 z.2.2) hk3 hz3
    rw [hno] at dg
    refine ⟨_,rfl,_,rfl,d,_,rfl,dg,_,rfl,iteF ?_⟩
    refine ⟨_,rfl,_,rfl,_,rfl,d,_,rfl,DPut.t (k:=sqK z.2.1 z.2.2) hk3 hz3 (Nat.lt_of_le_of_lt (m:=20000) (by omega) (by rw [sizeLine_eq]; decide)),?_⟩
    refine ⟨⟨_,rfl⟩,s3.trans SameX.upd,_,upd_same,?_,fun t ht r c hh=>?_,fun y hy=>?_,fun r c v e=>?_⟩
    ·have:=length_putK kv (sqK z.2.1 z.2.2) (V.ref u.1)
     omega
    ·rw [valV_put,if_neg,b1 t ht r c hh]
     intro e
     obtain ⟨e1,e2⟩:=sqK_inj e
     exact apart_take hap hu' ht _ _ (by rw [← e1,← e2]; exact hh) hin2
    ·rw [valV_put]
     rcases (mem_take_succ hz).mp hy with hy | rfl
     ·split
      ·rfl
      ·exact b2 y hy
     ·rw [if_pos rfl]
    ·rw [valV_put] at e
     split at e
     ·rename_i e2
      obtain ⟨e3,e4⟩:=sqK_inj e2
      exact .inr (List.mem_map.mpr ⟨z,(mem_take_succ hz).mpr (.inr rfl),by rw [e3,e4]⟩)
     ·rcases b3 r c v e with h1 | h1
      ·exact .inl h1
      ·obtain ⟨y,hy,e2⟩:=List.mem_map.mp h1
       exact .inr (List.mem_map.mpr ⟨y,(mem_take_succ hz).mpr (.inl hy),e2⟩)
   ·rintro σ H3 ⟨⟨z0,rfl⟩,s3,kv,hk3,hkl3,b1,b2,b3⟩
    rw [List.length_map] at hkl3 b2 b3
    rw [List.take_length] at b2 b3
    refine ⟨⟨_,_,_,rfl⟩,fun b o e=>?_,kv,hk3,by omega,fun t ht r c hh=>?_,fun r c v e=>?_⟩
    ·exact s3 b o (ne_of_none e hd) (s2 b o (s1 b o e))
    ·rcases (mem_take_succ hu').mp ht with ht | rfl
     ·exact b1 t ht r c hh
     ·have hm:(r,c)∈sq.map (·.2):=by rw [hmap]; exact (mem_sqs (by omega) (by omega)).mpr hh
      obtain ⟨z,hz,e⟩:=List.mem_map.mp hm
      have:=b2 z hz
      rw [e] at this
      exact this
    ·rcases b3 r c v e with ⟨t,ht,hh⟩ | hm
     ·exact ⟨t,(mem_take_succ hu').mpr (.inl ht),hh⟩
     ·exact ⟨u,(mem_take_succ hu').mpr (.inr rfl),(mem_sqs (by omega) (by omega)).mp (by rw [← hmap]; exact hm)⟩
  ·rintro σ H' ⟨⟨x0,y0,z0,rfl⟩,hs,kvs,hk,hkl,ha1,ha2⟩
   rw [List.length_map,List.take_length] at ha1
   exact ⟨_,rfl,q d kvs H' hs hd hk ha1⟩
theorem S_check_covered:FnScope ["by_square","sheet","square"] ["by_square","sheet"] (defScope s_check_covered):=⟨rfl,rfl,rfl,by decide +kernel,rfl,by decide +kernel,by decide +kernel⟩
theorem ok_check_covered {f:Addr} {fd:FuncData} (F:Fun K "check_covered" "check_covered" s_check_covered f fd) (D_squares_of:DefOk P w K mg base 1 "squares_of" ["rectangle"] sp_squares):FnOk P w K mg base CX0 2 f fd ["by_square","sheet"] sp_check_covered:=by
 have S:=S_check_covered
 refine F.ok S (fun vs H Q E h=>?_) (fun cdv A outer s H vs Q E hr h=>?_)
 ·obtain ⟨d,sh,w,h,kvs,rfl,_⟩:=h; rfl
 ·obtain ⟨d,sh,w,h,kvs,rfl,hd,hsh,gw,gh,hcov,q⟩:=h
  have hu:=hu_of hr
  refine ⟨_,(pss_one (ps_for PassesOwn.never rfl (pi_list (pe_fn D_squares_of hr (pa_cons (pv 1) pa_nil))) (pg_name (i:=2) S.nd rfl (Or.inl rfl)) (pss_one (ps_if (pt_cmp (pc_dnotin hu (pv 2) (pv 0))) (pss_one ps_never) pss_nil)))),?_⟩
  refine ⟨_,rfl,sh,⟨0,0,h,w⟩,rfl,hsh,Int.le_refl _,by show (0:Int)≤h; omega,by show h≤12; omega,Int.le_refl _,by show (0:Int)≤w; omega,by show w≤12; omega,fun l2 sq H2 s2 n2 hl2 hsq hmap=>⟨l2,rfl,⟨_,SqL.of hl2⟩,?_⟩⟩
  refine for_list (K:=K) (a:=l2) (xs:=sq.map fun s=>V.ref s.1) (fun j σ H3=>(∃ z,σ=[some (.ref d),some (.ref sh),z])∧H3=H2) ⟨⟨none,rfl⟩,rfl⟩ (fun j σ H3 _ hp=>by rw [hp.2]; exact SqL.of hl2) ?_ ?_
  ·rintro j y σ H3 hy ⟨⟨z0,rfl⟩,rfl⟩
   obtain ⟨z,hz,rfl⟩:=sq_get hy
   have hzm:=List.mem_of_getElem? hz
   have hz2:=hsq z hzm
   have hin2:(⟨0,0,h,w⟩:Rc).has z.2.1 z.2.2:=(mem_sqs (p:=⟨0,0,h,w⟩) (by show (0:Int)≤w; omega) (by show (0:Int)≤h; omega)).mp (by rw [← hmap]; exact List.mem_map.mpr ⟨z,hzm,rfl⟩)
   obtain ⟨i1,i2,i3,i4⟩:=hin2
   have hk2:=s2 _ _ hd
   have dg:=DGet.t (k:=sqK z.2.1 z.2.2) hk2 hz2
   cases e:valV kvs (sqK z.2.1 z.2.2) with
   | none=>exact absurd e (hcov _ _ i1 i2 i3 i4)
   | some v =>
    rw [e] at dg
    exact ⟨_,rfl,_,rfl,d,_,rfl,dg,_,rfl,iteF ⟨⟨_,rfl⟩,rfl⟩⟩
  ·rintro σ H3 ⟨⟨z0,rfl⟩,rfl⟩
   exact q _ s2
theorem perm_unmap {α β:Type} {f:α→β}:∀ {l' m:List β},l'.Perm m→∀ {l:List α},m=l.map f→∃ us:List α,us.Perm l∧l'=us.map f:=by
 intro l' m h
 induction h with
 | nil=>intro l e; exact ⟨l,.refl _,e⟩
 | cons x hp ih =>
  intro l e
  cases l with
  | nil=>cases e
  | cons y r =>
   rw [List.map_cons] at e
   injection e with e1 e2
   obtain ⟨us,h1,h2⟩:=ih e2
   exact ⟨y :: us,h1.cons y,by rw [List.map_cons,← h2,e1]⟩
 | swap x y r =>
  intro l e
  match l,e with
  | a :: b :: r',e =>
   rw [List.map_cons,List.map_cons] at e
   injection e with e1 e2
   injection e2 with e2 e3
   exact ⟨b :: a :: r',.swap a b r',by rw [List.map_cons,List.map_cons,e1,e2,e3]⟩
 | trans h1 h2 ih1 ih2 =>
  intro l e
  obtain ⟨us,a1,a2⟩:=ih2 e
  obtain ⟨vs,b1,b2⟩:=ih1 a2
  exact ⟨vs,b1.trans a1,b2⟩
theorem S_Panel_init:FnScope ["self","width","height","panes","sheet","own_panes","by_square"] ["self","width","height","panes"] (defScope s_Panel_init):=⟨rfl,rfl,rfl,by decide +kernel,rfl,by decide +kernel,by decide +kernel⟩
theorem ok_Panel_init {f:Addr} {fd:FuncData} (F:Fun K "__init__" "Panel.__init__" s_Panel_init f fd) (T:Txt mg tk) (PC:PCls K C) (D_check_sides:DefOk P w K mg base 3 "check_sides" ["width","height"] sp_check_sides) (D_check_panes:DefOk P w K mg base 3 "check_panes" ["panes","sheet"] (sp_check_panes K))
  (D_panes_by_square:DefOk P w K mg base 2 "panes_by_square" ["panes"] (sp_by_square K)) (D_check_covered:DefOk P w K mg base 2 "check_covered" ["by_square","sheet"] sp_check_covered):FnOk P w K mg base CX0 4 f fd ["self","width","height","panes"] (sp_Panel K C):=by
 have S:=S_Panel_init
 refine F.ok S (fun vs H Q E h=>?_) (fun cdv A outer s H vs Q E hr h=>?_)
 ·obtain ⟨a,dx,l,w,h,ts,rfl,_⟩:=h; rfl
 ·obtain ⟨a,dx,l,w,h,ts,rfl,hob,hl,hat,til,hlen,gw,gh,q⟩:=h
  refine ⟨_,(pss_cons (ps_expr (pe_fn D_check_sides hr (pa_cons (pv 1) (pa_cons (pv 2) pa_nil))))
   (pss_cons (ps_set (i:=4) S.nd rfl (Or.inl rfl) (pe_tup (pa_cons pe_int (pa_cons pe_int (pa_cons (pv 2) (pa_cons (pv 1) pa_nil))))))
   (pss_cons (ps_expr (pe_fn D_check_panes hr (pa_cons (pv 3) (pa_cons (pv 4) pa_nil))))
   (pss_cons (ps_setComp rfl (pg_name (i:=5) S.nd rfl (Or.inl rfl)) (pi_list (pv 3)) (fun _ _ _ _ _=>(pg_name (i:=0) (show List.Nodup (["pane"]:List Str) from by decide +kernel) rfl (Or.inl rfl))) (fun _ _ _ _ _=>(pe_callTy (call_tuple_K (K:=K)) rfl T.z_tuple rfl (pa_cons (pv 0) pa_nil))) (N:=["pane"]) (fr:=[none]))
   (pss_cons (ps_set (i:=6) S.nd rfl (Or.inl rfl) (pe_fn D_panes_by_square hr (pa_cons (pv 5) pa_nil)))
   (pss_cons (ps_expr (pe_fn D_check_covered hr (pa_cons (pv 6) (pa_cons (pv 4) pa_nil))))
   (pss_cons (ps_fld (pv 0) (pv 1) rfl)
   (pss_cons (ps_fld (pv 0) (pv 2) rfl)
   (pss_cons (ps_fld (pv 0) (pe_callB call_sortedT rfl T.z_sorted rfl (pa_cons (pv 5) pa_nil)) rfl)
   (pss_one (ps_fld (pv 0) (pv 6) rfl))))))))))),?_⟩
  refine ⟨_,rfl,_,rfl,w,h,rfl,gw,gh,fun H1 s1=>?_⟩
  refine ⟨_,rfl,_,rfl,lenOk 4,fun t ht=>?_⟩
  have s2:=s1.trans (Same.new (o:=.tup (four 0 0 h w)) ht)
  have hsh:(upd H1 t (.tup (four 0 0 h w))) t=some (.tup (four 0 0 h w)):=upd_same
  generalize upd H1 t (.tup (four 0 0 h w))=H2 at s2 hsh ⊢
  refine ⟨_,rfl,_,rfl,l,t,w,h,ts,rfl,s2.seq hl,hat.same s2,hsh,til.ins,hlen,fun H3 s3=>?_⟩
  have s13:=s2.trans s3
  refine ⟨_,rfl,l,rfl,⟨_,s13.seq hl⟩,fun acc hacc=>comp_list (K:=K) (a:=l) (ys:=refs ts) (fun i xs σ H'=>(∃ y,σ=[y])∧Same H3 H'∧xs=(refs ts).take i) ⟨⟨none,rfl⟩,Same.new hacc,rfl⟩
   (fun i xs σ H' _ _ hp=>(s13.trans hp.2.1).seq hl) ?_ ?_⟩
  ·rintro i x xs σ H' hx hi hl' hacc' ⟨⟨y,rfl⟩,hs,rfl⟩
   obtain ⟨u,hu',rfl⟩:=refs_get hx
   have hua:=(s13.trans hs) _ _ (hat u (List.mem_of_getElem? hu'))
   refine ⟨_,rfl,u.1,_,rfl,.inr ⟨SqT.of hua,cNx.mk (Nat.le_of_lt (small1000 (by rw [List.length_map]; omega))) hi hl' hacc' ⟨⟨_,rfl⟩,fun b o e=>?_,?_⟩⟩⟩
   ·rw [upd_ne (ne_of_none e hacc)]; exact hs b o e
   ·rw [List.take_succ,hx]; rfl
  ·rintro xs σ H4 hl4 hacc4 ⟨_,s4,rfl⟩
   rw [List.take_length] at hacc4
   have s14:=s13.trans s4
   refine ⟨_,rfl,acc,w,h,ts,rfl,SqL.of hacc4,hat.same s14,til.ins,til.dis,hlen,gw.2,gh.2,fun d kvs H5 s5 n5 hd5 hk5=>?_⟩
   have s15:=s14.trans s5
   have look:∀ r c,0≤r→r < h→0≤c→c < w→∃ t∈ts,valV kvs (sqK r c)=some (.ref t.1)∧t.2.has r c:=fun r c a1 a2 a3 a4=>by
    obtain ⟨p,hp,hh⟩:=til.cov r c a1 a2 a3 a4
    obtain ⟨u,hu',rfl⟩:=List.mem_map.mp hp
    exact ⟨u,hu',hk5 u hu' r c hh,hh⟩
   refine ⟨_,rfl,_,rfl,d,t,w,h,kvs,rfl,hd5,(s3.trans (s4.trans s5)) _ _ hsh,gw,gh,fun r c a1 a2 a3 a4 e=>?_,fun H6 s6=>?_⟩
   ·obtain ⟨u,_,hv,_⟩:=look r c a1 a2 a3 a4
    rw [hv] at e; cases e
   have s16:=s15.trans s6
   have ob6:=s16 _ _ hob
   have hacc6:=(s5.trans s6) _ _ hacc4
   have hd6:=s6 _ _ hd5
   have na:acc≠a:=ne_of hacc6 ob6 (by intro z; cases z)
   have nd:d≠a:=ne_of hd6 ob6 (by intro z; cases z)
   refine ⟨_,rfl,_,rfl,a,C,dx,_,rfl,ob6,PC.cl,PC.n_width,(by show 0 < 1000; decide),?_⟩
   refine ⟨_,rfl,_,rfl,a,C,dx,_,rfl,upd_same,PC.cl,PC.n_height,(by show 1 < 1000; decide),?_⟩
   have hacc7:(upd (upd H6 a (.ins C dx (putF "width" (.int w) []))) a (.ins C dx (putF "height" (.int h) (putF "width" (.int w) [])))) acc=some (.lst (refs ts)):=by rw [upd_ne na,upd_ne na]; exact hacc6
   have tup:∀ t∈ts,(upd (upd H6 a (.ins C dx (putF "width" (.int w) []))) a (.ins C dx (putF "height" (.int h) (putF "width" (.int w) [])))) t.1=some (.tup (four t.2.t t.2.l t.2.b t.2.r)):=fun t ht=>by
    have e:=s16 _ _ (hat t ht)
    have nt:t.1≠a:=ne_of e ob6 (by intro z; cases z)
    rw [upd_ne nt,upd_ne nt]; exact e
   refine ⟨_,rfl,acc,ts.map fun t=>(t.1,t.2.ls),3,key,rfl,?_,by rw [List.length_map]; omega,?_,?_,fun ls us hls hp hsr=>?_⟩
   ·rw [List.map_map]; exact SqL.of hacc7
   ·intro z hz
    obtain ⟨t,ht,rfl⟩:=List.mem_map.mp hz
    exact ⟨rfl,tup t ht⟩
   ·intro z hz y hy
    obtain ⟨t,ht,rfl⟩:=List.mem_map.mp hz
    obtain ⟨u,hu',rfl⟩:=List.mem_map.mp hy
    exact key_lt (til.ins _ (List.mem_map.mpr ⟨t,ht,rfl⟩)) (til.ins _ (List.mem_map.mpr ⟨u,hu',rfl⟩)) gw.2 gh.2 gw.2 gh.2
   obtain ⟨ts',hp',rfl⟩:=perm_unmap hp rfl
   have nls:ls≠a:=Ne.symm (ne_of_none upd_same hls)
   refine ⟨_,rfl,a,C,dx,_,rfl,by rw [upd_ne (Ne.symm nls)]; exact upd_same,PC.cl,PC.n_sorted_panes,(by show 2 < 1000; decide),?_⟩
   refine ⟨_,rfl,_,rfl,a,C,dx,_,rfl,upd_same,PC.cl,PC.n_by_square,(by show 3 < 1000; decide),?_⟩
   have sx:SameX a H6 (upd (upd (upd (upd (upd H6 a (.ins C dx (putF "width" (.int w) []))) a (.ins C dx (putF "height" (.int h) (putF "width" (.int w) [])))) ls (.lst (List.map (fun t=>V.ref t.1) (List.map (fun t:Addr × Rc=>(t.1,t.2.ls)) ts')))) a (.ins C dx (putF "sorted_panes" (.ref ls) (putF "height" (.int h) (putF "width" (.int w) []))))) a (.ins C dx (flds w h ls d))):=by
    refine SameX.trans (SameX.trans (SameX.trans (SameX.trans SameX.upd SameX.upd) (SameX.new hls)) SameX.upd) SameX.upd
   refine q ts' ls d kvs _ (fun b o nb e=>sx b o nb (s16 b o e)) hp' ⟨upd_same,?_,sx _ _ nd hd6,fun t ht=>?_,til.perm (hp'.map _),by rw [hp'.length_eq]; exact hlen,?_,fun r c a1 a2 a3 a4=>?_,gw,gh⟩
   ·rw [upd_ne nls,upd_ne nls,upd_same,List.map_map]; rfl
   ·have ht':=hp'.mem_iff.mp ht
    have e:=s16 _ _ (hat t ht')
    have nt:t.1≠a:=ne_of e ob6 (by intro z; cases z)
    exact sx _ _ nt e
   ·unfold Srt
    rw [List.map_map] at hsr ⊢
    exact hsr
   ·obtain ⟨u,hu',hv,hh⟩:=look r c a1 a2 a3 a4
    exact ⟨u,hp'.mem_iff.mpr hu',hv,hh⟩
theorem S_Panel_panes:FnScope ["self"] ["self"] (defScope s_Panel_panes):=⟨rfl,rfl,rfl,by decide +kernel,rfl,by decide +kernel,by decide +kernel⟩
theorem ok_Panel_panes {f:Addr} {fd:FuncData} (F:Fun K "panes" "Panel.panes" s_Panel_panes f fd) (T:Txt mg tk) (PC:PCls K C):FnOk P w K mg base CX0 1 f fd ["self"] (sp_panes C):=by
 have S:=S_Panel_panes
 refine F.ok S (fun vs H Q E h=>?_) (fun cdv A outer s H vs Q E hr h=>?_)
 ·obtain ⟨a,dx,ls,ld,w,h,ts,kvs,rfl,_⟩:=h; rfl
 ·obtain ⟨a,dx,ls,ld,w,h,ts,kvs,rfl,pn,q⟩:=h
  refine ⟨_,(pss_one (ps_ret (pe_callTy call_list_of rfl T.z_list rfl (pa_cons (pe_fld (pv 0) rfl) pa_nil)))),?_⟩
  exact ⟨_,rfl,a,C,dx,_,_,rfl,pn.ob,PC.cl,PC.n_sorted_panes,flds_s _ _ _ _,ls,_,rfl,.inl (SqL.of pn.lst),fun l hl=>q l hl⟩
theorem S_Panel_pane_at:FnScope ["self","row","column"] ["self","row","column"] (defScope s_Panel_pane_at):=⟨rfl,rfl,rfl,by decide +kernel,rfl,by decide +kernel,by decide +kernel⟩
theorem ok_Panel_pane_at {f:Addr} {fd:FuncData} (F:Fun K "pane_at" "Panel.pane_at" s_Panel_pane_at f fd) (PC:PCls K C):FnOk P w K mg base CX0 1 f fd ["self","row","column"] (sp_pane_at C):=by
 have S:=S_Panel_pane_at
 refine F.ok S (fun vs H Q E h=>?_) (fun cdv A outer s H vs Q E hr h=>?_)
 ·obtain ⟨a,dx,ls,ld,w,h,r,c,ts,kvs,rfl,_⟩:=h; rfl
 ·obtain ⟨a,dx,ls,ld,w,h,r,c,ts,kvs,rfl,pn,a1,a2,a3,a4,q⟩:=h
  have hu:=hu_of hr
  refine ⟨_,(pss_one (ps_ret (pe_dget hu (pe_fld (pv 0) rfl) (pe_tup (pa_cons (pv 1) (pa_cons (pv 2) pa_nil))) (fun _ _=>rfl)))),?_⟩
  obtain ⟨u,hu',hv,hh⟩:=pn.look r c a1 a2 a3 a4
  refine ⟨_,rfl,a,C,dx,_,_,rfl,pn.ob,PC.cl,PC.n_by_square,flds_d _ _ _ _,_,rfl,_,rfl,lenOk 2,fun t ht=>?_⟩
  have dg:=DGet.t (H:=upd H t (.tup [.int r,.int c])) (b:=t) (k:=sqK r c) (Same.new ht _ _ pn.dic) upd_same
  rw [hv] at dg
  exact ⟨ld,_,rfl,dg,q u _ hu' hh (Same.new ht)⟩
structure Til (H0 H:Hp) (lp d:Addr) (w h r c:Int) (ts:List (Addr × Rc)) (kvs:List (List Key × V)):Prop where
 same:Same H0 H
 lst:H lp=some (.lst (refs ts))
 dic:H d=some (.dT kvs)
 ats:At H ts
 ins:∀ p∈rcs ts,p.In w h
 dis:(rcs ts).Pairwise Apart
 own:∀ r' c',valV kvs (sqK r' c')≠none↔∃ p∈rcs ts,p.has r' c'
 tops:∀ p∈rcs ts,p.t≤r
 done:∀ r' c',0≤r'→0≤c'→c' < w→(r' < r∨(r'=r∧c' < c))→∃ p∈rcs ts,p.has r' c'
 cnt:(ts.length:Int)≤12 * r+c
 siz:kvs.length≤144 * ts.length
 bot:∀ p∈(rcs ts).drop 40,p.b=h
theorem Til.to {H0 H H':Hp} {lp d:Addr} {w h r c:Int} {ts:List (Addr × Rc)} {kvs:List (List Key × V)} (t:Til H0 H lp d w h r c ts kvs) (s:Same H H'):Til H0 H' lp d w h r c ts kvs :=
 ⟨t.same.trans s,s _ _ t.lst,s _ _ t.dic,t.ats.same s,t.ins,t.dis,t.own,t.tops,t.done,t.cnt,t.siz,t.bot⟩
theorem Til.skip {H0 H:Hp} {lp d:Addr} {w h r c:Int} {ts:List (Addr × Rc)} {kvs:List (List Key × V)} (t:Til H0 H lp d w h r c ts kvs) (e:valV kvs (sqK r c)≠none):Til H0 H lp d w h r (c+1) ts kvs :=
 ⟨t.same,t.lst,t.dic,t.ats,t.ins,t.dis,t.own,t.tops,fun r' c' a1 a2 a3 a4=>by
  by_cases h1:r'=r∧c'=c
  ·obtain ⟨rfl,rfl⟩:=h1; exact (t.own _ _).mp e
  ·exact t.done r' c' a1 a2 a3 (by omega),by have:=t.cnt; omega,t.siz,t.bot⟩
theorem Til.line {H0 H:Hp} {lp d:Addr} {w h r:Int} {ts:List (Addr × Rc)} {kvs:List (List Key × V)} (t:Til H0 H lp d w h r w ts kvs) (hw:w≤12):Til H0 H lp d w h (r+1) 0 ts kvs :=
 ⟨t.same,t.lst,t.dic,t.ats,t.ins,t.dis,t.own,fun p hp=>by have:=t.tops p hp; omega,fun r' c' a1 a2 a3 a4=>t.done r' c' a1 a2 a3 (by omega),by have:=t.cnt; omega,t.siz,t.bot⟩
theorem Til.tiles {H0 H:Hp} {lp d:Addr} {w h:Int} {ts:List (Addr × Rc)} {kvs:List (List Key × V)} (t:Til H0 H lp d w h h 0 ts kvs) (hw:w≤12):Tiles w h (rcs ts)∧ts.length≤52:=by
 refine ⟨⟨t.ins,t.dis,fun r c a1 a2 a3 a4=>t.done r c a1 a3 a4 (.inl a2)⟩,?_⟩
 have:=bottom_few (w:=w) (h:=h) (ps:=(rcs ts).drop 40) (fun p hp=>t.ins p (List.mem_of_mem_drop hp)) t.bot (t.dis.sublist (List.drop_sublist _ _))
 rw [List.length_drop,List.length_map] at this
 omega
theorem sq_num {wd hg r c i j:Int} (h1:1≤wd) (h2:1≤hg):(∃ q,0≤q∧q < wd * hg∧r=i+q / wd∧c=j+q % wd)↔(i≤r∧r < i+hg∧j≤c∧c < j+wd):=by
 constructor
 ·rintro ⟨q,q0,q1,rfl,rfl⟩
  have a1:0≤q / wd:=Int.ediv_nonneg q0 (by omega)
  have a2:q / wd < hg:=Int.ediv_lt_of_lt_mul (by omega) (by rw [Int.mul_comm]; exact q1)
  have a3:=Int.emod_nonneg q (b:=wd) (by omega)
  have a4:=Int.emod_lt_of_pos q (b:=wd) (by omega)
  omega
 ·rintro ⟨b1,b2,b3,b4⟩
  refine ⟨(r - i) * wd+(c - j),?_,?_,?_,?_⟩
  ·have:=Int.mul_nonneg (show 0≤r - i by omega) (show 0≤wd by omega)
   omega
  ·have e:(r - i+1) * wd≤hg * wd:=Int.mul_le_mul_of_nonneg_right (by omega) (by omega)
   rw [Int.add_mul,Int.one_mul] at e
   rw [Int.mul_comm wd hg]
   omega
  ·rw [Int.add_comm ((r - i) * wd),Int.add_mul_ediv_right _ _ (by omega),Int.ediv_eq_zero_of_lt (by omega) (by omega)]
   omega
  ·rw [Int.add_comm ((r - i) * wd),Int.add_mul_emod_self_right,Int.emod_eq_of_lt (by omega) (by omega)]
   omega
theorem Til.more {H0 H H':Hp} {lp d t:Addr} {w h i j wd hg:Int} {ts:List (Addr × Rc)} {kvs kv:List (List Key × V)} (T:Til H0 H lp d w h i j ts kvs) (i0:0≤i) (j0:0≤j) (w1:1≤wd) (w2:j+wd≤w) (h1:1≤hg) (h2:i+hg≤h)
  (fr:∀ x,j≤x→x < j+wd→valV kvs (sqK i x)=none) (hb:39 < ts.length→i+hg=h) (hs:Same H0 H') (hl:H' lp=some (.lst (refs ts++[V.ref t]))) (hd:H' d=some (.dT kv)) (ha:At H' ts)
  (ht:H' t=some (.tup (four i j (i+hg) (j+wd)))) (hk:∀ r c,valV kv (sqK r c)≠none↔(valV kvs (sqK r c)≠none∨(i≤r∧r < i+hg∧j≤c∧c < j+wd))) (hz:kv.length≤kvs.length+144) :
  Til H0 H' lp d w h i (j+1) (ts++[(t,⟨i,j,i+hg,j+wd⟩)]) kv:=by
 have ap:∀ p∈rcs ts,Apart p ⟨i,j,i+hg,j+wd⟩:=fun p hp r c a b=>by
  obtain ⟨a1,a2,a3,a4⟩:=a
  obtain ⟨b1,b2,b3,b4⟩:=b
  have tp:=T.tops p hp
  simp only at b1 b2 b3 b4
  exact (T.own i c).mpr ⟨p,hp,⟨tp,by omega,a3,a4⟩⟩ (fr c b3 b4)
 refine ⟨hs,by rw [hl,refs_snoc],hd,fun u hu=>?_,fun p hp=>?_,?_,fun r c=>?_,fun p hp=>?_,fun r c a1 a2 a3 a4=>?_,?_,?_,fun p hp=>?_⟩
 ·rcases List.mem_append.mp hu with hu | hu
  ·exact ha u hu
  ·rw [List.mem_singleton.mp hu]; exact ht
 ·rw [rcs_snoc] at hp
  rcases List.mem_append.mp hp with hp | hp
  ·exact T.ins p hp
  ·rw [List.mem_singleton.mp hp]
   exact ⟨i0,by show i < i+hg; omega,h2,j0,by show j < j+wd; omega,w2⟩
 ·rw [rcs_snoc,List.pairwise_append]
  exact ⟨T.dis,List.pairwise_singleton _ _,fun p hp q hq=>by rw [List.mem_singleton.mp hq]; exact ap p hp⟩
 ·rw [hk,T.own,rcs_snoc]
  constructor
  ·rintro (⟨p,hp,hh⟩ | hh)
   ·exact ⟨p,List.mem_append_left _ hp,hh⟩
   ·exact ⟨_,List.mem_append_right _ (List.mem_singleton.mpr rfl),hh⟩
  ·rintro ⟨p,hp,hh⟩
   rcases List.mem_append.mp hp with hp | hp
   ·exact .inl ⟨p,hp,hh⟩
   ·rw [List.mem_singleton.mp hp] at hh; exact .inr hh
 ·rw [rcs_snoc] at hp
  rcases List.mem_append.mp hp with hp | hp
  ·exact T.tops p hp
  ·rw [List.mem_singleton.mp hp]; exact Int.le_refl _
 ·rw [rcs_snoc]
  by_cases e:r=i∧c=j
  ·obtain ⟨rfl,rfl⟩:=e
   exact ⟨_,List.mem_append_right _ (List.mem_singleton.mpr rfl),⟨Int.le_refl _,by show r < r+hg; omega,Int.le_refl _,by show c < c+wd; omega⟩⟩
  ·obtain ⟨p,hp,hh⟩:=T.done r c a1 a2 a3 (by omega)
   exact ⟨p,List.mem_append_left _ hp,hh⟩
 ·have:=T.cnt
  rw [List.length_append]
  simp only [List.length_cons,List.length_nil]
  omega
 ·have:=T.siz
  rw [List.length_append]
  simp only [List.length_cons,List.length_nil]
  omega
 ·rw [rcs_snoc] at hp
  by_cases e:39 < ts.length
  ·rw [List.drop_append_of_le_length (by rw [List.length_map]; omega)] at hp
   rcases List.mem_append.mp hp with hp | hp
   ·exact T.bot p hp
   ·rw [List.mem_singleton.mp hp]; exact hb e
  ·rw [List.drop_of_length_le (by rw [List.length_append,List.length_map]; simp; omega)] at hp
   cases hp
def nth (b:List Stmt) (i:Nat):Stmt:=b.getD i (.Pass ⟨0,0,0,0⟩)
def forBody:Stmt→List Stmt
 | .For _ _ b _ _=>b
 | _=>[]
def muFree (ww:Int) (σ:St):Nat:=match σ[9]? with
 | some (some (V.int q))=>(ww - q).toNat
 | _=>0
theorem pow20:CPow 10 20:=⟨by decide,by decide,by decide⟩
theorem div20 (z:Int):CDivL z (10^(20:Int).toNat):=⟨by decide +kernel,by decide +kernel⟩
abbrev N_tiled:List Str:=["_law_script","_law_k","_law_width","_law_height","_law_most","_law_panes","_law_owned","_law_row","_law_column","_law_free","_law_purse_here","_law_wide","_law_high","_law_square"]
theorem S_law_tiled:FnScope N_tiled ["_law_script","_law_k","_law_width","_law_height"] (defScope s__law_tiled):=⟨rfl,rfl,rfl,by decide +kernel,rfl,by decide +kernel,by decide +kernel⟩
theorem ok_law_tiled {f:Addr} {fd:FuncData} (F:Fun K "_law_tiled" "_law_tiled" s__law_tiled f fd) (T:Txt mg tk) (D__law_purse:DefOk P w K mg base 1 "_law_purse" ["_law_script","_law_k"] (sp_purse K)) (D__law_take:DefOk P w K mg base 1 "_law_take" ["_law_purse_here","_law_many"] sp_take) :
  FnOk P w K mg base CX0 2 f fd ["_law_script","_law_k","_law_width","_law_height"] (sp_tiled K):=by
 have S:=S_law_tiled
 refine F.ok S (fun vs H Q E h=>?_) (fun cdv A outer s H vs Q E hr h=>?_)
 ·obtain ⟨a,ns,k,w,h,rfl,_⟩:=h; rfl
 ·obtain ⟨a,ns,k,ww,h,rfl,hS,k0,k1,gw,gh,q⟩:=h
  have hu:=hu_of hr
  obtain ⟨tt,htt,fin⟩:∃ rd,PSs (cxOf CX0 P w K mg base N_tiled "_law_tiled" (defScope s__law_tiled) f cdv A outer s H E).nox ((forBody (nth (forBody (nth (defBody s__law_tiled) 3)) 0)).drop 7) rd ∧
    ∀ (D:Ends) (lp d pp:Addr) (i j fr wd hg m:Int) (x13:Option V) (ts:List (Addr × Rc)) (kvs:List (List Key × V)) (H5:Hp),Til H H5 lp d ww h i j ts kvs→H lp=none→H d=none→0≤i→i < h→0≤j→j < ww→1≤wd→j+wd≤ww→1≤hg→i+hg≤h →
     (∀ x,j≤x→x < j+wd→valV kvs (sqK i x)=none)→(39 < ts.length→i+hg=h) →
     (∀ (x13:Option V) (ts':List (Addr × Rc)) (kvs':List (List Key × V)) (H6:Hp),Til H H6 lp d ww h i (j+1) ts' kvs'→D.nx [some (.ref a),some (.int k),some (.int ww),some (.int h),some (.int m),some (.ref lp),some (.ref d),some (.int i),some (.int j),some (.int fr),some (.ref pp),some (.int wd),some (.int hg),x13] H6) →
     rd D [some (.ref a),some (.int k),some (.int ww),some (.int h),some (.int m),some (.ref lp),some (.ref d),some (.int i),some (.int j),some (.int fr),some (.ref pp),some (.int wd),some (.int hg),x13] H5:=by
   refine ⟨_,(pss_cons (ps_expr (pe_bm PySem.F.plainAttrs_list PySem.F.slot_list_append PySem.F.type_list_append mt_append (pv 5) (pa_cons (pe_tup (pa_cons (pv 7) (pa_cons (pv 8) (pa_cons (pe_op op_add (pv 7) (pv 12)) (pa_cons (pe_op op_add (pv 8) (pv 11)) pa_nil))))) pa_nil)))
   (pss_one (ps_for PassesOwn.never rfl (pi_range1 rfl T.z_range (pa_cons (pe_op op_mulL (pv 11) (pv 12)) pa_nil)) (pg_name (i:=13) S.nd rfl (Or.inl rfl)) (pss_one (ps_dput hu (pv 6) (pe_tup (pa_cons (pe_op op_add (pv 7) (pe_op op_fdivL (pv 13) (pv 11))) (pa_cons (pe_op op_add (pv 8) (pe_op op_mod (pv 13) (pv 11))) pa_nil))) pe_bl rfl))))),?_⟩
   intro D lp d pp i j fr wd hg m x13 ts kvs H5 T5 nlp nd i0 i1 j0 j1 w1 w2 h1 h2 hfr hb nx
   have nlpd:lp≠d:=ne_of T5.lst T5.dic (by intro z; cases z)
   have few:ts.length≤200:=by have:=T5.cnt; omega
   refine ⟨_,rfl,.inl ⟨rfl,_,SqL.of T5.lst⟩,_,rfl,_,rfl,_,rfl,_,rfl,_,_,rfl,rfl,_,rfl,_,rfl,_,_,rfl,rfl,lenOk 4,fun t ht=>?_⟩
   have nlt:lp≠t:=ne_of_none T5.lst ht
   have ndt:d≠t:=ne_of_none T5.dic ht
   refine ⟨lp,_,_,rfl,rfl,by rw [upd_ne nlt]; exact T5.lst,small1000 (by rw [List.length_map]; omega),?_⟩
   have l6:(upd (upd H5 t (.tup (four i j (i+hg) (j+wd)))) lp (.lst (refs ts++[V.ref t]))) lp=some (.lst (refs ts++[V.ref t])):=upd_same
   have t6:(upd (upd H5 t (.tup (four i j (i+hg) (j+wd)))) lp (.lst (refs ts++[V.ref t]))) t=some (.tup (four i j (i+hg) (j+wd))):=by rw [upd_ne (Ne.symm nlt)]; exact upd_same
   have d6:(upd (upd H5 t (.tup (four i j (i+hg) (j+wd)))) lp (.lst (refs ts++[V.ref t]))) d=some (.dT kvs):=by rw [upd_ne (Ne.symm nlpd),upd_ne ndt]; exact T5.dic
   have s6:Same H (upd (upd H5 t (.tup (four i j (i+hg) (j+wd)))) lp (.lst (refs ts++[V.ref t]))):=fun b o e=>by
    rw [upd_ne (ne_of_none e nlp),upd_ne (ne_of_none (T5.same _ _ e) ht)]; exact T5.same b o e
   have a6:At (upd (upd H5 t (.tup (four i j (i+hg) (j+wd)))) lp (.lst (refs ts++[V.ref t]))) ts:=fun u hu=>by
    have e:=T5.ats u hu
    rw [upd_ne (ne_of e T5.lst (by intro z; cases z)),upd_ne (ne_of_none e ht)]; exact e
   generalize upd (upd H5 t (.tup (four i j (i+hg) (j+wd)))) lp (.lst (refs ts++[V.ref t]))=H6 at l6 t6 d6 s6 a6 ⊢
   have area:0≤wd * hg∧wd * hg≤144:=by
    refine ⟨Int.mul_nonneg (by omega) (by omega),?_⟩
    have e1:wd * hg≤12 * hg:=Int.mul_le_mul_of_nonneg_right (by omega) (by omega)
    omega
   refine ⟨_,rfl,_,rfl,_,_,rfl,rfl,mulOk_of (by omega) (by omega),wd * hg,rfl,by omega,by omega,for_range (lo:=0) (n:=(wd * hg).toNat)
    (fun n σ H'=>∃ (x13:Option V) (kv:List (List Key × V)),σ=[some (.ref a),some (.int k),some (.int ww),some (.int h),some (.int m),some (.ref lp),some (.ref d),some (.int i),some (.int j),some (.int fr),some (.ref pp),some (.int wd),some (.int hg),x13] ∧
     SameX d H6 H'∧H' d=some (.dT kv)∧kv.length≤kvs.length+n∧∀ r c,valV kv (sqK r c)≠none↔(valV kvs (sqK r c)≠none∨∃ q:Int,0≤q∧q < n∧r=i+q / wd∧c=j+q % wd))
    ⟨x13,kvs,rfl,SameX.refl,d6,by omega,fun r c=>⟨.inl,fun z=>z.elim id fun ⟨q,q0,q1,_⟩=>by omega⟩⟩ ?_ ?_⟩
   ·rintro n σ H' hn ⟨x13,kv,rfl,sx,dk,dl,dv⟩
    rw [Int.zero_add]
    have hdiv:CDivL (n:Int) wd:=⟨by omega,Nat.lt_trans (log2_lt_of (k:=64) (by decide) (by omega)) (by decide)⟩
    refine ⟨_,rfl,_,rfl,_,rfl,_,rfl,_,_,rfl,rfl,hdiv,_,_,rfl,rfl,_,rfl,_,rfl,_,rfl,_,_,rfl,rfl,(show 0 < wd by omega),_,_,rfl,rfl,lenOk 2,fun y hy=>?_⟩
    have ndy:d≠y:=ne_of_none dk hy
    refine ⟨d,_,rfl,DPut.t (k:=sqK (i+n / wd) (j+n % wd)) (by rw [upd_ne ndy]; exact dk) upd_same (Nat.lt_of_le_of_lt (m:=40000) (by have:=T5.siz; omega) (by rw [sizeLine_eq]; decide)),?_⟩
    refine ⟨_,_,rfl,fun b o nb e=>?_,upd_same,?_,fun r c=>?_⟩
    ·rw [upd_ne nb,upd_ne (ne_of_none (sx b o nb e) hy)]; exact sx b o nb e
    ·have:=length_putK kv (sqK (i+n / wd) (j+n % wd)) (V.bl true)
     omega
    ·rw [valV_put]
     by_cases e:sqK r c=sqK (i+n / wd) (j+n % wd)
     ·rw [if_pos e]
      obtain ⟨e1,e2⟩:=sqK_inj e
      exact ⟨fun _=>.inr ⟨n,by omega,by omega,e1,e2⟩,fun _ z=>by cases z⟩
     ·rw [if_neg e,dv]
      constructor
      ·rintro (z | ⟨q,q0,q1,q2,q3⟩)
       ·exact .inl z
       ·exact .inr ⟨q,q0,by omega,q2,q3⟩
      ·rintro (z | ⟨q,q0,q1,q2,q3⟩)
       ·exact .inl z
       ·refine .inr ⟨q,q0,?_,q2,q3⟩
        by_cases eq:q=(n:Int)
        ·subst eq; exact absurd (by rw [q2,q3]) e
        ·omega
   ·rintro σ H' ⟨x13,kv,rfl,sx,dk,dl,dv⟩
    have nl:=ne_of l6 d6 (by intro z; cases z)
    have nt:=ne_of t6 d6 (by intro z; cases z)
    refine nx x13 _ kv H' (T5.more i0 j0 w1 w2 h1 h2 hfr hb (fun b o e=>sx b o (ne_of_none e nd) (s6 b o e)) (sx _ _ nl l6) dk (fun u hu=>sx _ _ (ne_of (a6 u hu) d6 (by intro z; cases z)) (a6 u hu)) (sx _ _ nt t6) (fun r c=>?_) (by omega))
    rw [dv,← sq_num (i:=i) (j:=j) w1 h1]
    have en:(((wd * hg).toNat:Nat):Int)=wd * hg:=Int.toNat_of_nonneg area.1
    rw [en]
  obtain ⟨t2,ht2,fin2⟩:∃ rd,PSs (cxOf CX0 P w K mg base N_tiled "_law_tiled" (defScope s__law_tiled) f cdv A outer s H E).nox ((forBody (nth (forBody (nth (defBody s__law_tiled) 3)) 0)).drop 3) rd ∧
    ∀ (D:Ends) (lp d:Addr) (i j fr m:Int) (x10 x11 x12 x13:Option V) (ts:List (Addr × Rc)) (kvs:List (List Key × V)) (H5:Hp),Til H H5 lp d ww h i j ts kvs→H lp=none→H d=none→0≤i→i < h→0≤j→j < ww→1≤fr→j+fr≤ww→2≤m→m≤12 →
     (∀ x,j≤x→x < j+fr→valV kvs (sqK i x)=none) →
     (∀ (x9 x10 x11 x12 x13:Option V) (ts':List (Addr × Rc)) (kvs':List (List Key × V)) (H6:Hp),Til H H6 lp d ww h i (j+1) ts' kvs'→D.nx [some (.ref a),some (.int k),some (.int ww),some (.int h),some (.int m),some (.ref lp),some (.ref d),some (.int i),some (.int j),x9,x10,x11,x12,x13] H6) →
     rd D [some (.ref a),some (.int k),some (.int ww),some (.int h),some (.int m),some (.ref lp),some (.ref d),some (.int i),some (.int j),some (.int fr),x10,x11,x12,x13] H5:=by
   refine ⟨_,(pss_cons (ps_set (i:=10) S.nd rfl (Or.inl rfl) (pe_fn D__law_purse hr (pa_cons (pv 0) (pa_cons (pe_op op_add (pv 1) (pe_callB call_len_seq rfl T.z_len rfl (pa_cons (pv 5) pa_nil))) pa_nil))))
   (pss_cons (ps_set (i:=11) S.nd rfl (Or.inl rfl) (pe_op op_add pe_int (pe_fn D__law_take hr (pa_cons (pv 10) (pa_cons (pe_callB (call_min2 rfl) rfl T.z_min rfl (pa_cons (pv 4) (pa_cons (pv 9) pa_nil))) pa_nil)))))
   (pss_cons (ps_set (i:=12) S.nd rfl (Or.inl rfl) (pe_op op_add pe_int (pe_fn D__law_take hr (pa_cons (pv 10) (pa_cons (pe_callB (call_min2 rfl) rfl T.z_min rfl (pa_cons (pv 4) (pa_cons (pe_op op_sub (pv 3) (pv 7)) pa_nil))) pa_nil)))))
   (pss_cons (ps_if (pt_cmpR op_gt (pe_callB call_len_seq rfl T.z_len rfl (pa_cons (pv 5) pa_nil)) pe_int (nomark _)) (pss_cons (ps_set (i:=11) S.nd rfl (Or.inl rfl) (pv 9))
   (pss_one (ps_set (i:=12) S.nd rfl (Or.inl rfl) (pe_op op_sub (pv 3) (pv 7))))) pss_nil)
   htt)))),?_⟩
   intro D lp d i j fr m x10 x11 x12 x13 ts kvs H5 T5 nlp nd i0 i1 j0 j1 f1 f2 m1 m2 hfr nx
   have few:(ts.length:Int)≤200:=by have:=T5.cnt; omega
   refine ⟨_,rfl,_,rfl,_,rfl,lp,_,rfl,.inl (SqL.of T5.lst),_,_,rfl,rfl,a,ns,_,rfl,T5.same.seq hS,by omega,by rw [List.length_map]; omega,fun pp z hpp=>?_⟩
   refine ⟨_,rfl,_,rfl,_,rfl,_,_,rfl,pp,z,_,rfl,upd_same,by split <;> omega,by split <;> omega,fun r1 z1 r10 r11=>⟨_,_,rfl,rfl,?_⟩⟩
   refine ⟨_,rfl,_,rfl,_,rfl,_,rfl,_,_,rfl,rfl,_,_,rfl,pp,z1,_,rfl,upd_same,by split <;> omega,by split <;> omega,fun r2 z2 r20 r21=>⟨_,_,rfl,rfl,?_⟩⟩
   have T8:Til H (upd (upd (upd H5 pp (.lst [.int z])) pp (.lst [.int z1])) pp (.lst [.int z2])) lp d ww h i j ts kvs:=T5.to fun b o e=>by
    have n:=ne_of_none e hpp
    rw [upd_ne n,upd_ne n,upd_ne n]; exact e
   have b1:r1+1≤fr:=by split at r11 <;> omega
   have b2:r2+1≤h - i:=by split at r21 <;> omega
   refine ⟨_,rfl,lp,_,rfl,.inl (SqL.of T8.lst),_,_,rfl,rfl,_,rfl,ite3 (fun hb=>?_) (fun hb=>?_)⟩
   ·refine ⟨_,rfl,_,rfl,_,rfl,_,_,rfl,rfl,?_⟩
    exact fin D lp d pp i j fr fr (h - i) m x13 ts kvs _ T8 nlp nd i0 i1 j0 j1 (by omega) (by omega) (by omega) (by omega) hfr (fun _=>by omega) fun y13 ts' kvs' H6 T6=>nx _ _ _ _ _ ts' kvs' H6 T6
   ·have hb':=of_decide_eq_false hb
    rw [List.length_map] at hb'
    exact fin D lp d pp i j fr (1+r1) (1+r2) m x13 ts kvs _ T8 nlp nd i0 i1 j0 j1 (by omega) (by omega) (by omega) (by omega) (fun x hx1 hx2=>hfr x hx1 (by omega)) (fun z=>by omega) fun y13 ts' kvs' H6 T6=>nx _ _ _ _ _ ts' kvs' H6 T6
  refine ⟨_,(pss_cons (ps_set (i:=4) S.nd rfl (Or.inl rfl) (pe_ix ix_list (pe_lst (pa_cons pe_int (pa_cons pe_int (pa_cons pe_int (pa_cons pe_int pa_nil))))) (pe_op op_mod (pe_op op_fdivL (pe_ix ix_list (pe_fn D__law_purse hr (pa_cons (pv 0) (pa_cons pe_int pa_nil))) pe_int (fun _ _=>rfl)) (pe_op op_pow pe_int pe_int)) pe_int) (fun _ _=>rfl)))
   (pss_cons (ps_set (i:=5) S.nd rfl (Or.inl rfl) (pe_lst pa_nil))
   (pss_cons (ps_set (i:=6) S.nd rfl (Or.inl rfl) pe_dnewT)
   (pss_cons (ps_for PassesOwn.never rfl (pi_range1 rfl T.z_range (pa_cons (pv 3) pa_nil)) (pg_name (i:=7) S.nd rfl (Or.inl rfl)) (pss_one (ps_for PassesOwn.never rfl (pi_range1 rfl T.z_range (pa_cons (pv 2) pa_nil)) (pg_name (i:=8) S.nd rfl (Or.inl rfl)) (pss_cons (ps_if (pt_cmp (pc_din hu (pe_tup (pa_cons (pv 7) (pa_cons (pv 8) pa_nil))) (pv 6))) (pss_one ps_continue) pss_nil)
   (pss_cons (ps_set (i:=9) S.nd rfl (Or.inl rfl) pe_int)
   (pss_cons (ps_while PassesOwn.never (PW.pt (pw_and (pt_cmpR op_lt (pe_op op_add (pv 8) (pv 9)) (pv 2) (nomark _)) (pw_and1 (pt_cmp (pc_dnotin hu (pe_tup (pa_cons (pv 7) (pa_cons (pe_op op_add (pv 8) (pv 9)) pa_nil))) (pv 6)))))) (pss_one (ps_set (i:=9) S.nd rfl (Or.inl rfl) (pe_op op_add (pv 9) pe_int))))
   ht2))))))
   (pss_one (ps_ret (pv 5))))))),?_⟩
  refine ⟨lenOk 4,fun l0 h0=>?_⟩
  have s0:Same H (upd H l0 (.lst [.int 12,.int 3,.int 2,.int 12])):=Same.new h0
  refine ⟨_,rfl,a,ns,0,rfl,s0.seq hS,by decide,by decide,fun p0 z0 hp0=>?_⟩
  have n0:l0≠p0:=ne_of_none upd_same hp0
  obtain ⟨v,hv,hm⟩:=atI_in (L:=[V.int 12,V.int 3,V.int 2,V.int 12]) (i:=z0 / 10^(20:Int).toNat % 4) (Int.emod_nonneg _ (by decide)) (by show _ < (4:Int); exact Int.emod_lt_of_pos _ (by decide))
  obtain ⟨m,rfl,m1,m2⟩:∃ m,v=.int m∧2≤m∧m≤12:=by
   simp only [List.mem_cons,List.not_mem_nil,or_false] at hm
   rcases hm with rfl | rfl | rfl | rfl <;> exact ⟨_,rfl,by decide,by decide⟩
  refine ⟨p0,_,_,_,rfl,rfl,SqL.of upd_same,rfl,_,_,rfl,rfl,pow20,_,_,rfl,rfl,div20 _,_,_,rfl,rfl,(show (0:Int) < 4 from by decide),l0,_,_,_,rfl,rfl,SqL.of (by rw [upd_ne n0]; exact upd_same),hv,?_⟩
  have s1:=s0.trans (Same.new (o:=.lst [.int z0]) hp0)
  generalize upd (upd H l0 (.lst [.int 12,.int 3,.int 2,.int 12])) p0 (.lst [.int z0])=H1 at s1 ⊢
  refine ⟨lenOk 0,fun lp hlp=>?_⟩
  intro d hd
  have nlp:H lp=none:=s1.free hlp
  have nd:H d=none:=(s1.trans (Same.new hlp)).free hd
  have nlpd:lp≠d:=ne_of_none upd_same hd
  have T0:Til H (upd (upd H1 lp (.lst [])) d (.dT [])) lp d ww h 0 0 [] []:=⟨(s1.trans (Same.new hlp)).trans (Same.new hd),by rw [upd_ne nlpd]; exact upd_same,upd_same,fun t ht=>(nomatch ht),fun p hp=>(nomatch hp),List.Pairwise.nil,
   fun r c=>⟨fun z=>absurd rfl z,fun ⟨p,hp,_⟩=>(nomatch hp)⟩,fun p hp=>(nomatch hp),fun r c a1 a2 a3 a4=>by omega,by simp,by simp,fun p hp=>by simp at hp⟩
  refine ⟨_,rfl,h,rfl,by omega,by omega,for_range (lo:=0) (n:=h.toNat) (fun i σ H'=>∃ x7 x8 x9 x10 x11 x12 x13 ts kvs,σ=[some (.ref a),some (.int k),some (.int ww),some (.int h),some (.int m),some (.ref lp),some (.ref d),x7,x8,x9,x10,x11,x12,x13]∧Til H H' lp d ww h i 0 ts kvs)
   ⟨_,_,_,_,_,_,_,[],[],rfl,T0⟩ ?_ ?_⟩
  ·rintro i σ H2 hi ⟨x7,x8,x9,x10,x11,x12,x13,ts,kvs,rfl,T2⟩
   rw [Int.zero_add]
   refine ⟨_,rfl,ww,rfl,by omega,by omega,for_range (lo:=0) (n:=ww.toNat) (fun j σ H'=>∃ x8 x9 x10 x11 x12 x13 ts kvs,σ=[some (.ref a),some (.int k),some (.int ww),some (.int h),some (.int m),some (.ref lp),some (.ref d),some (.int i),x8,x9,x10,x11,x12,x13]∧Til H H' lp d ww h i j ts kvs)
    ⟨_,_,_,_,_,_,ts,kvs,rfl,T2⟩ ?_ ?_⟩
   ·rintro j σ H3 hj ⟨x8,x9,x10,x11,x12,x13,ts,kvs,rfl,T3⟩
    rw [Int.zero_add]
    refine ⟨_,rfl,_,rfl,lenOk 2,fun t ht=>?_⟩
    have T4:=T3.to (Same.new (o:=.tup [.int i,.int j]) ht)
    have dg:=DGet.t (k:=sqK i j) T4.dic upd_same
    cases e:valV kvs (sqK i j) with
    | some v =>
     rw [e] at dg
     refine ⟨_,rfl,d,_,rfl,dg,_,rfl,iteT ?_⟩
     exact ⟨_,_,_,_,_,_,ts,kvs,rfl,T4.skip (by rw [e]; intro z; cases z)⟩
    | none =>
     rw [e] at dg
     refine ⟨_,rfl,d,_,rfl,dg,_,rfl,iteF ?_⟩
     refine while_by (fun σ H'=>∃ fr,σ=[some (.ref a),some (.int k),some (.int ww),some (.int h),some (.int m),some (.ref lp),some (.ref d),some (.int i),some (.int j),some (.int fr),x10,x11,x12,x13]∧Til H H' lp d ww h i j ts kvs∧1≤fr∧j+fr≤ww∧∀ x,(j:Int)≤x→x < j+fr→valV kvs (sqK i x)=none)
      (fun σ _=>muFree ww σ) ⟨1,rfl,T4,by omega,by omega,fun x h1 h2=>by rw [show x=(j:Int) by omega]; exact e⟩ ?_ ?_
     ·rintro σ H5 ⟨fr,rfl,T5,f1,f2,f3⟩
      refine ⟨_,rfl,_,rfl,_,_,rfl,rfl,_,rfl,_,_,rfl,rfl,_,rfl,ite3 (fun hlt=>?_) (fun hge=>?_)⟩
      ·have hlt':=of_decide_eq_true hlt
       refine ⟨_,rfl,_,rfl,_,rfl,_,_,rfl,rfl,lenOk 2,fun y hy=>?_⟩
       have T6:=T5.to (Same.new (o:=.tup [.int i,.int (j+fr)]) hy)
       have dg2:=DGet.t (k:=sqK i (j+fr)) T6.dic upd_same
       cases e2:valV kvs (sqK i (j+fr)) with
       | none =>
        rw [e2] at dg2
        refine ⟨_,rfl,d,_,rfl,dg2,_,rfl,iteT ?_⟩
        refine ⟨_,rfl,_,_,rfl,rfl,⟨fr+1,rfl,T6,by omega,by omega,fun x h1 h2=>?_⟩,?_⟩
        ·by_cases ex:x=j+fr
         ·rw [ex]; exact e2
         ·exact f3 x h1 (by omega)
        ·show (ww - (fr+1)).toNat < (ww - fr).toNat
         omega
       | some v =>
        rw [e2] at dg2
        refine ⟨_,rfl,d,_,rfl,dg2,_,rfl,iteF ?_⟩
        refine fin2 _ lp d i j fr m _ _ _ _ ts kvs _ T6 nlp nd (by omega) (by omega) (by omega) (by omega) f1 f2 m1 m2 f3 ?_
        exact fun _ _ _ _ _ ts' kvs' H6 T6=>⟨_,_,_,_,_,_,ts',kvs',rfl,T6⟩
      ·refine iteF ?_
       refine fin2 _ lp d i j fr m _ _ _ _ ts kvs _ T5 nlp nd (by omega) (by omega) (by omega) (by omega) f1 f2 m1 m2 f3 ?_
       exact fun _ _ _ _ _ ts' kvs' H6 T6=>⟨_,_,_,_,_,_,ts',kvs',rfl,T6⟩
     ·rintro σ H5 Q1 Q2 hq ⟨v8,e8,v9,e9,i1,i2,r1,r2,v2,e2,i3,i4,r3,r4,b,rb,hh⟩
      refine ⟨v8,e8,v9,e9,i1,i2,r1,r2,v2,e2,i3,i4,r3,r4,b,rb,?_⟩
      cases b with
      | false =>
       rw [if_neg Bool.false_ne_true] at hh ⊢
       exact hq _ _ hh
      | true =>
       rw [if_pos rfl] at hh ⊢
       obtain ⟨v7,e7,v8',e8',v9',e9',i5,i6,r5,r6,hz,all⟩:=hh
       exact ⟨v7,e7,v8',e8',v9',e9',i5,i6,r5,r6,hz,fun p hp=>let ⟨v6,e6,a,o,ra,dg,c,rc,hQ⟩:=all p hp; ⟨v6,e6,a,o,ra,dg,c,rc,hq _ _ hQ⟩⟩
   ·rintro σ H3 ⟨x8,x9,x10,x11,x12,x13,ts,kvs,rfl,T3⟩
    have ew:((ww.toNat:Nat):Int)=ww:=by omega
    rw [ew] at T3
    exact ⟨_,_,_,_,_,_,_,ts,kvs,rfl,by have:=T3.line gw.2; push_cast; exact this⟩
  ·rintro σ H3 ⟨x7,x8,x9,x10,x11,x12,x13,ts,kvs,rfl,T3⟩
   have eh:((h.toNat:Nat):Int)=h:=by omega
   rw [eh] at T3
   obtain ⟨til,few⟩:=T3.tiles gw.2
   exact ⟨_,rfl,q lp ts H3 T3.same nlp T3.lst T3.ats til few⟩
def lsL (us:List (Addr × Rc)):List (Addr × List Int):=us.map fun t=>(t.1,t.2.ls)
theorem lsL_refs (us:List (Addr × Rc)):(lsL us).map (fun t=>V.ref t.1)=refs us:=by unfold lsL; rw [List.map_map]; rfl
theorem sr0 {us:List (Addr × Rc)} (h:us.length≤52):(lsL us).length < 64:=by unfold lsL; rw [List.length_map]; omega
theorem sr1 {H:Hp} {acc:Addr} {us:List (Addr × Rc)} (hl:SqL K H acc (refs us)):SqL K H acc ((lsL us).map fun t=>V.ref t.1):=by rw [lsL_refs]; exact hl
theorem sr2 {H:Hp} {us:List (Addr × Rc)} (ha:At H us):∀ t∈lsL us,t.2.length=3+1∧H t.1=some (.tup (t.2.map V.int)):=fun z hz=>by
 obtain ⟨t,ht,rfl⟩:=List.mem_map.mp hz
 exact ⟨rfl,ha t ht⟩
theorem sr3 {us:List (Addr × Rc)} {w h:Int} (hin:∀ p∈rcs us,p.In w h) (hw:w≤12) (hh:h≤12):∀ t∈lsL us,∀ u∈lsL us,HT.lexLt t.2 u.2=decide (key t.2 < key u.2):=fun z hz y hy=>by
 obtain ⟨t,ht,rfl⟩:=List.mem_map.mp hz
 obtain ⟨u,hu',rfl⟩:=List.mem_map.mp hy
 exact key_lt (hin _ (List.mem_map.mpr ⟨t,ht,rfl⟩)) (hin _ (List.mem_map.mpr ⟨u,hu',rfl⟩)) hw hh hw hh
theorem sr4 {us:List (Addr × Rc)} {zs:List (Addr × List Int)} (hp:zs.Perm (lsL us)) (hs:(zs.map fun t=>key t.2).Pairwise (·≤·)):∃ us',us'.Perm us∧zs=lsL us'∧Srt (rcs us'):=by
 obtain ⟨us',hp',rfl⟩:=perm_unmap hp rfl
 refine ⟨us',hp',rfl,?_⟩
 unfold Srt
 rw [List.map_map] at hs ⊢
 exact hs
theorem no_panes {w h:Int} {ls ld:Addr}:(flds w h ls ld).lookup ("panes":Str)=none:=flds_no _ _ _ _ (by decide +kernel) (by decide +kernel) (by decide +kernel) (by decide +kernel)
theorem S_apart:FnScope ["one","other","beside"] ["one","other"] (defScope s_apart):=⟨rfl,rfl,rfl,by decide +kernel,rfl,by decide +kernel,by decide +kernel⟩
theorem ok_apart {f:Addr} {fd:FuncData} (F:Fun K "apart" "apart" s_apart f fd):FnOk P w K mg base CX0 1 f fd ["one","other"] sp_apart:=by
 have S:=S_apart
 refine F.ok S (fun vs H Q E h=>?_) (fun cdv A outer s H vs Q E hr h=>?_)
 ·obtain ⟨a,b,p,q,rfl,_⟩:=h; rfl
 ·obtain ⟨a,b,p,q,rfl,ha,hb,k⟩:=h
  refine ⟨_,(pss_cons (ps_set (i:=2) S.nd rfl (Or.inl rfl) (pe_or (pe_cmpR op_le (pe_ix ix_tup (pv 0) pe_int (fun _ _=>rfl)) (pe_ix ix_tup (pv 1) pe_int (fun _ _=>rfl)) (nomark _)) (pe_one (pe_cmpR op_le (pe_ix ix_tup (pv 1) pe_int (fun _ _=>rfl)) (pe_ix ix_tup (pv 0) pe_int (fun _ _=>rfl)) (nomark _)))))
   (pss_one (ps_ret (pe_or (pv 2) (pe_or (pe_cmpR op_le (pe_ix ix_tup (pv 0) pe_int (fun _ _=>rfl)) (pe_ix ix_tup (pv 1) pe_int (fun _ _=>rfl)) (nomark _)) (pe_one (pe_cmpR op_le (pe_ix ix_tup (pv 1) pe_int (fun _ _=>rfl)) (pe_ix ix_tup (pv 0) pe_int (fun _ _=>rfl)) (nomark _)))))))),?_⟩
  have key:Q (.bl (decide (p.r≤q.l) || decide (q.r≤p.l) || (decide (p.b≤q.t) || decide (q.b≤p.t)))) H:=k
  refine ⟨_,rfl,a,_,_,_,rfl,rfl,SqT.of ha,at3,_,rfl,b,_,_,_,rfl,rfl,SqT.of hb,at1,_,_,rfl,rfl,_,rfl,ite3 (fun h1=>?_) (fun h1=>?_)⟩
  ·refine ⟨_,rfl,_,rfl,iteT ?_⟩
   show Q (.bl true) H
   rw [h1] at key; exact key
  ·refine ⟨_,rfl,b,_,_,_,rfl,rfl,SqT.of hb,at3,_,rfl,a,_,_,_,rfl,rfl,SqT.of ha,at1,_,_,rfl,rfl,?_⟩
   refine ⟨_,rfl,_,rfl,ite3 (fun h2=>?_) (fun h2=>?_)⟩
   ·show Q (.bl true) H
    rw [h1,h2] at key; exact key
   ·refine ⟨_,rfl,a,_,_,_,rfl,rfl,SqT.of ha,at2,_,rfl,b,_,_,_,rfl,rfl,SqT.of hb,at0,_,_,rfl,rfl,_,rfl,ite3 (fun h3=>?_) (fun h3=>?_)⟩
    ·show Q (.bl true) H
     rw [h1,h2,h3] at key; exact key
    ·refine ⟨_,rfl,b,_,_,_,rfl,rfl,SqT.of hb,at2,_,rfl,a,_,_,_,rfl,rfl,SqT.of ha,at0,_,_,rfl,rfl,?_⟩
     rw [h1,h2,h3] at key; exact key
theorem S_is_block:FnScope ["panel","block"] ["panel","block"] (defScope s_is_block):=⟨rfl,rfl,rfl,by decide +kernel,rfl,by decide +kernel,by decide +kernel⟩
theorem ok_is_block {f:Addr} {fd:FuncData} (F:Fun K "is_block" "is_block" s_is_block f fd) (T:Txt mg tk) (PC:PCls K C) (D_is_rectangle:DefOk P w K mg base 2 "is_rectangle" ["thing"] sp_rect) (D_inside:DefOk P w K mg base 1 "inside" ["one","other"] sp_inside) (D_apart:DefOk P w K mg base 1 "apart" ["one","other"] sp_apart)
  (M_Panel_panes:MdOk P w K mg base 1 C "panes" ["self"] (sp_panes C)):FnOk P w K mg base CX0 3 f fd ["panel","block"] (sp_block C):=by
 have S:=S_is_block
 refine F.ok S (fun vs H Q E h=>?_) (fun cdv A outer s H vs Q E hr h=>?_)
 ·obtain ⟨a,dx,ls,ld,ww,hh,ts,kvs,v,g,rfl,_⟩:=h; rfl
 ·obtain ⟨a,dx,ls,ld,ww,hh,ts,kvs,v,g,rfl,pn,tg,k⟩:=h
  refine ⟨_,(pss_cons (ps_if (PW.pt (pw_or (pt_not (pt_val (pe_fn D_is_rectangle hr (pa_cons (pv 1) pa_nil)))) (pw_or1 (pt_not (pt_val (pe_fn D_inside hr (pa_cons (pv 1) (pa_cons (pe_tup (pa_cons pe_int (pa_cons pe_int (pa_cons (pe_fld (pv 0) rfl) (pa_cons (pe_fld (pv 0) rfl) pa_nil))))) pa_nil)))))))) (pss_one (ps_ret pe_bl)) pss_nil)
   (pss_one (ps_ret (pe_callB call_all rfl T.z_all rfl (pa_cons (pe_comp rfl (pi_list (pe_md0 M_Panel_panes hr (pv 0))) (fun _ _ _ _ _=>(pg_name (i:=0) (show List.Nodup (["pane","block"]:List Str) from by decide +kernel) rfl (Or.inl rfl))) (fun _ _ _ _ _=>(pe_or (pe_fn D_inside hr (pa_cons (pv 0) (pa_cons (pv 1) pa_nil))) (pe_one (pe_fn D_apart hr (pa_cons (pv 0) (pa_cons (pv 1) pa_nil)))))) (N:=["pane","block"]) (fr:=[none,some 1])) pa_nil))))),?_⟩
  cases g with
  | none =>
   refine ⟨_,rfl,_,rfl,?_⟩
   rcases tg with ⟨b,xs,rfl,hb,hz,ht,hrc⟩ | ⟨T',hT,hne⟩
   ·exact .inl ⟨b,xs,rfl,hb,hz,ht,fun H' s1=>⟨_,rfl,iteP (by rw [hrc]; rfl) (k H' s1)⟩⟩
   ·exact .inr ⟨T',hT,hne,_,rfl,iteP rfl (k H (Same.refl H))⟩
  | some q =>
   obtain ⟨b,rfl,hb⟩:=tg
   have k:∀ H',Same H H'→Q (.bl (rectR q && insR q ⟨0,0,hh,ww⟩ && okA (rcs ts) q)) H':=k
   refine ⟨_,rfl,_,rfl,.inl ⟨b,_,rfl,hb,(by show (4:Nat)≤100; decide),four_ty,fun H1 s1=>⟨_,rfl,?_⟩⟩⟩
   cases h1:rectR q with
   | false =>
    have h1':rectB (four q.t q.l q.b q.r)=false:=h1
    rw [h1] at k
    exact iteP (by rw [h1']; rfl) (k H1 s1)
   | true =>
    have h1':rectB (four q.t q.l q.b q.r)=true:=h1
    rw [h1] at k
    refine iteN (by rw [h1']; rfl) ?_
    have pn1:=pn.same s1
    refine ⟨_,rfl,_,rfl,a,C,dx,_,_,rfl,pn1.ob,PC.cl,PC.n_height,flds_h _ _ _ _,_,rfl,a,C,dx,_,_,rfl,pn1.ob,PC.cl,PC.n_width,flds_w _ _ _ _,lenOk 4,fun t ht=>?_⟩
    have s2:=s1.trans (Same.new (o:=.tup (four 0 0 hh ww)) ht)
    have hb2:=s2 _ _ hb
    have pn2:=pn.same s2
    have et:(upd H1 t (.tup (four 0 0 hh ww))) t=some (.tup (four 0 0 hh ww)):=upd_same
    generalize upd H1 t (.tup (four 0 0 hh ww))=H2 at s2 hb2 pn2 et ⊢
    refine ⟨b,t,_,_,_,_,_,_,_,_,rfl,hb2,et,_,rfl,?_⟩
    cases h2:insR q ⟨0,0,hh,ww⟩ with
    | false =>
     rw [h2] at k
     have h2':insB q.t q.l q.b q.r 0 0 hh ww=false:=h2
     exact iteP (by rw [h2']; rfl) (k H2 s2)
    | true =>
     rw [h2] at k
     have h2':insB q.t q.l q.b q.r 0 0 hh ww=true:=h2
     refine iteN (by rw [h2']; rfl) ?_
     refine ⟨_,rfl,a,dx,_,rfl,pn2.ob,no_panes,a,dx,ls,ld,ww,hh,ts,kvs,rfl,pn2,fun l hl=>?_⟩
     have s3:=s2.trans (Same.new (o:=.lst (refs ts)) hl)
     have el:(upd H2 l (.lst (refs ts))) l=some (.lst (refs ts)):=upd_same
     generalize upd H2 l (.lst (refs ts))=H3 at s3 el ⊢
     have hb3:=s3 _ _ hb
     refine ⟨l,rfl,⟨_,SqL.of el⟩,fun acc hacc=>comp_list (K:=K) (a:=l) (ys:=refs ts) (fun i xs σ H'=>(∃ y,σ=[y,some (.ref b)])∧Same H3 H'∧xs=((rcs ts).take i).map fun p=>V.bl (insR p q || apR p q)) ⟨⟨none,rfl⟩,Same.new hacc,rfl⟩ (fun i xs σ H' _ _ hp=>SqL.of (hp.2.1 _ _ el)) ?_ ?_⟩
     ·rintro i x xs σ H' hx hi hl' hacc' ⟨⟨y,rfl⟩,s4,rfl⟩
      obtain ⟨u,hu',rfl⟩:=refs_get hx
      have hua:=(s3.trans s4) _ _ (pn.ats u (List.mem_of_getElem? hu'))
      have hb4:=s4 _ _ hb3
      have er:(rcs ts)[i]?=some u.2:=by rw [List.getElem?_map,hu']; rfl
      have nx:cNx acc (refs ts).length (fun i xs σ H'=>(∃ y,σ=[y,some (.ref b)])∧Same H3 H'∧xs=((rcs ts).take i).map fun p=>V.bl (insR p q || apR p q)) i [some (.ref u.1),some (.ref b)] (V.bl (insR u.2 q || apR u.2 q)) H':=by
       refine cNx.mk (Nat.le_of_lt (small1000 (by rw [List.length_map]; have:=pn.few; omega))) hi hl' hacc' ⟨⟨_,rfl⟩,fun c o e=>?_,?_⟩
       ·rw [upd_ne (ne_of_none e hacc)]; exact s4 c o e
       ·rw [List.take_succ,er,List.map_append]; rfl
      refine ⟨_,rfl,_,rfl,u.1,b,_,_,_,_,_,_,_,_,rfl,hua,hb4,_,rfl,ite3 (fun h3=>?_) (fun h3=>?_)⟩
      ·have h3':insR u.2 q=true:=h3
       rw [h3'] at nx; exact nx
      ·have h3':insR u.2 q=false:=h3
       rw [h3'] at nx
       exact ⟨_,rfl,_,rfl,u.1,b,u.2,q,rfl,hua,hb4,nx⟩
     ·rintro xs σ H' hl' hacc' ⟨_,s4,rfl⟩
      have e:(refs ts).length=(rcs ts).length:=by rw [List.length_map,List.length_map]
      rw [e,List.take_length] at hacc'
      have e2:List.map V.bl ((rcs ts).map fun p=>insR p q || apR p q)=(rcs ts).map fun p=>V.bl (insR p q || apR p q):=by rw [List.map_map (l:=rcs ts)]; rfl
      refine ⟨acc,(rcs ts).map fun p=>insR p q || apR p q,rfl,SqL.of (by rw [hacc',e2]),rfl,?_⟩
      have:=k H' (s3.trans s4)
      rw [Bool.true_and,Bool.true_and] at this
      show Q (.bl (((rcs ts).map fun p=>insR p q || apR p q).all id)) H'
      rw [List.all_map]
      exact this
theorem filter_get {α:Type} (f:α→Bool) {xs:List α} {i:Nat} {x:α} (h:xs[i]?=some x):(xs.take (i+1)).filter f=(xs.take i).filter f++(if f x then [x] else []):=by
 rw [List.take_succ,h,List.filter_append]
 cases e:f x with
 | true=>simp [e]
 | false=>simp [e]
theorem cut_lo {xs:List V} {i:Int} (h0:0≤i) (h1:i < xs.length):cutV xs none (some i)=xs.take i.toNat:=by
 unfold cutV HT.sIx
 simp only []
 rw [if_neg (by omega),Nat.min_eq_left (by omega)]
 simp
theorem cut_hi {xs:List V} {i:Int} (h0:0≤i) (h1:i < xs.length):cutV xs (some (i+1)) none=xs.drop (i.toNat+1):=by
 unfold cutV HT.sIx
 simp only []
 rw [if_neg (by omega),show (i+1).toNat=i.toNat+1 by omega,Nat.min_eq_left (by omega)]
 exact List.take_of_length_le (by rw [List.length_drop]; exact Nat.le_refl _)
theorem cut_refs (ts:List (Addr × Rc)) (n:Nat) (t1 t2:Addr) (p1 p2:Rc):(refs ts).take n++[V.ref t1,V.ref t2]++(refs ts).drop (n+1)=refs (ts.take n++(t1,p1) :: (t2,p2) :: ts.drop (n+1)):=by
 unfold refs
 rw [List.map_append,List.map_cons,List.map_cons,List.map_take,List.map_drop]
 simp
theorem at_cut {H H':Hp} {ts:List (Addr × Rc)} {n:Nat} {t1 t2:Addr} {p1 p2:Rc} (a:At H ts) (s:Same H H') (h1:H' t1=some (.tup (four p1.t p1.l p1.b p1.r))) (h2:H' t2=some (.tup (four p2.t p2.l p2.b p2.r))):At H' (ts.take n++(t1,p1) :: (t2,p2) :: ts.drop (n+1)):=fun t ht=>by
 rcases List.mem_append.mp ht with h | h
 ·exact s _ _ (a t (List.mem_of_mem_take h))
 ·rcases List.mem_cons.mp h with rfl | h
  ·exact h1
  ·rcases List.mem_cons.mp h with rfl | h
   ·exact h2
   ·exact s _ _ (a t (List.mem_of_mem_drop h))
structure Split (p p1 p2:Rc):Prop where
 o1:p1.t < p1.b∧p1.l < p1.r
 o2:p2.t < p2.b∧p2.l < p2.r
 has:∀ r c,p.has r c↔p1.has r c∨p2.has r c
 ap:Apart p1 p2
 i1:p.t≤p1.t∧p1.b≤p.b∧p.l≤p1.l∧p1.r≤p.r
 i2:p.t≤p2.t∧p2.b≤p.b∧p.l≤p2.l∧p2.r≤p.r
theorem split_u {t l b r m:Int} (h:t < b) (h1:l < m) (h2:m < r):Split ⟨t,l,b,r⟩ ⟨t,l,b,m⟩ ⟨t,m,b,r⟩ :=
 ⟨⟨h,h1⟩,⟨h,h2⟩,fun x y=>by unfold Rc.has; simp only []; omega,fun x y a b=>by unfold Rc.has at a b; simp only [] at a b; omega,by simp only []; omega,by simp only []; omega⟩
theorem split_l {t l b r m:Int} (h:l < r) (h1:t < m) (h2:m < b):Split ⟨t,l,b,r⟩ ⟨t,l,m,r⟩ ⟨m,l,b,r⟩ :=
 ⟨⟨h1,h⟩,⟨h2,h⟩,fun x y=>by unfold Rc.has; simp only []; omega,fun x y a b=>by unfold Rc.has at a b; simp only [] at a b; omega,by simp only []; omega,by simp only []; omega⟩
theorem til_cut {w h:Int} {ts:List (Addr × Rc)} {n:Nat} {u:Addr × Rc} {t1 t2:Addr} {p1 p2:Rc} (T:Tiles w h (rcs ts)) (hu:ts[n]?=some u) (sp:Split u.2 p1 p2):Tiles w h (rcs (ts.take n++(t1,p1) :: (t2,p2) :: ts.drop (n+1))):=by
 obtain ⟨hn,eu⟩:=List.getElem?_eq_some_iff.mp hu
 have e0:ts=ts.take n++u :: ts.drop (n+1):=by rw [← eu,← List.drop_eq_getElem_cons hn,List.take_append_drop]
 generalize ts.take n=As at e0
 generalize ts.drop (n+1)=Bs at e0
 subst e0
 have e1:rcs (As++u :: Bs)=rcs As++u.2 :: rcs Bs:=by simp
 have e2:rcs (As++(t1,p1) :: (t2,p2) :: Bs)=rcs As++p1 :: p2 :: rcs Bs:=by simp
 rw [e1] at T
 rw [e2]
 generalize rcs As=A at T
 generalize rcs Bs=B at T
 have hin:=T.ins u.2 (by simp)
 obtain ⟨a1,a2,a3,a4,a5,a6⟩:=hin
 have i1:=sp.i1
 have i2:=sp.i2
 have o1:=sp.o1
 have o2:=sp.o2
 have in1:p1.In w h:=⟨by omega,o1.1,by omega,by omega,o1.2,by omega⟩
 have in2:p2.In w h:=⟨by omega,o2.1,by omega,by omega,o2.2,by omega⟩
 have d:=T.dis
 rw [List.pairwise_append] at d
 obtain ⟨dA,dB,dAB⟩:=d
 rw [List.pairwise_cons] at dB
 obtain ⟨duB,dB⟩:=dB
 have x1:∀ q,Apart u.2 q→Apart p1 q:=fun q a r c b e=>a r c ((sp.has r c).mpr (.inl b)) e
 have x2:∀ q,Apart u.2 q→Apart p2 q:=fun q a r c b e=>a r c ((sp.has r c).mpr (.inr b)) e
 refine ⟨fun p hp=>?_,?_,fun r c b1 b2 b3 b4=>?_⟩
 ·rcases List.mem_append.mp hp with h | h
  ·exact T.ins p (by simp [h])
  ·rcases List.mem_cons.mp h with rfl | h
   ·exact in1
   ·rcases List.mem_cons.mp h with rfl | h
    ·exact in2
    ·exact T.ins p (by simp [h])
 ·rw [List.pairwise_append,List.pairwise_cons,List.pairwise_cons]
  refine ⟨dA,⟨fun q hq=>?_,fun q hq=>x2 q (duB q hq),dB⟩,fun p hp q hq=>?_⟩
  ·rcases List.mem_cons.mp hq with rfl | hq
   ·exact sp.ap
   ·exact x1 q (duB q hq)
  ·have hu:=dAB p hp u.2 (by simp)
   rcases List.mem_cons.mp hq with rfl | hq
   ·exact (x1 p hu.symm).symm
   ·rcases List.mem_cons.mp hq with rfl | hq
    ·exact (x2 p hu.symm).symm
    ·exact dAB p hp q (by simp [hq])
 ·obtain ⟨p,hp,hh⟩:=T.cov r c b1 b2 b3 b4
  rcases List.mem_append.mp hp with h | h
  ·exact ⟨p,by simp [h],hh⟩
  ·rcases List.mem_cons.mp h with rfl | h
   ·rcases (sp.has r c).mp hh with h | h
    ·exact ⟨p1,by simp,h⟩
    ·exact ⟨p2,by simp,h⟩
   ·exact ⟨p,by simp [h],hh⟩
theorem SameX.of {x:Addr} {H H':Hp} (s:Same H H'):SameX x H H':=fun b o _ e=>s b o e
theorem SameX.drop {x:Addr} {H0 H H':Hp} (s:Same H0 H) (n:H0 x=none) (t:SameX x H H'):Same H0 H':=fun b o e=>t b o (ne_of_none e n) (s b o e)
theorem ref_ne {H:Hp} {p l:Addr} {z:Int} {ts:List (Addr × Rc)} (hp:H p=some (.lst [.int z])) (hl:H l=some (.lst (refs ts))):l≠p:=fun e=>by
 rw [e,hp] at hl
 injection hl with hl
 injection hl with hl
 cases ts with
 | nil=>cases hl
 | cons u r=>injection hl with h1 _; cases h1
theorem At.sx {H H':Hp} {p:Addr} {z:Int} {ts:List (Addr × Rc)} (a:At H ts) (hp:H p=some (.lst [.int z])) (s:SameX p H H'):At H' ts:=fun t h=>s _ _ (ne_of (a t h) hp (by intro z; cases z)) (a t h)
theorem rI0_add {i j:Int} {H:Hp} {Q:VK} (h:Q (.int (i+j)) H):rI0 (fun i j=>V.int (i+j)) (.int i) (.int j) H Q:=⟨i,j,rfl,rfl,h⟩
def ifThen:Stmt→List Stmt
 | .If _ a _ _=>a
 | _=>[]
def ifElse:Stmt→List Stmt
 | .If _ _ b _=>b
 | _=>[]
abbrev N_cutup:List Str:=["_law_script","_law_k","_law_width","_law_height","_law_many","_law_panes","_law_k_more","_law_purse_here","_law_at","_law_top","_law_left","_law_bottom","_law_right_here","_law_line"]
theorem S_law_cut_up:FnScope N_cutup ["_law_script","_law_k","_law_width","_law_height","_law_many"] (defScope s__law_cut_up):=⟨rfl,rfl,rfl,by decide +kernel,rfl,by decide +kernel,by decide +kernel⟩
theorem ok_law_cut_up {f:Addr} {fd:FuncData} (F:Fun K "_law_cut_up" "_law_cut_up" s__law_cut_up f fd) (T:Txt mg tk) (D__law_purse:DefOk P w K mg base 1 "_law_purse" ["_law_script","_law_k"] (sp_purse K)) (D__law_take:DefOk P w K mg base 1 "_law_take" ["_law_purse_here","_law_many"] sp_take):FnOk P w K mg base CX0 2 f fd ["_law_script","_law_k","_law_width","_law_height","_law_many"] (sp_cutup K):=by
 have S:=S_law_cut_up
 refine F.ok S (fun vs H Q E h=>?_) (fun cdv A outer s H vs Q E hr h=>?_)
 ·obtain ⟨a,ns,k,w,h,m,rfl,_⟩:=h; rfl
 ·obtain ⟨a,ns,k,ww,hh,m,rfl,hS,k0,k1,gw,gh,m0,m1,q⟩:=h
  obtain ⟨tu,hup,fin_u⟩:∃ rd,PSs (cxOf CX0 P w K mg base N_cutup "_law_cut_up" (defScope s__law_cut_up) f cdv A outer s H E).nox (ifThen (nth (forBody (nth (defBody s__law_cut_up) 1)) 3)) rd ∧
    ∀ (D:Ends) (lp p:Addr) (ts:List (Addr × Rc)) (u:Addr × Rc) (at' z:Int) (x6 x13:Option V) (H3:Hp),H3 p=some (.lst [.int z])→H3 lp=some (.lst (refs ts))→At H3 ts→Tiles ww hh (rcs ts)→ts.length≤51→0≤at'→at' < (refs ts).length→ts[at'.toNat]?=some u→u.2.r - u.2.l > 1 →
     (∀ (lp':Addr) (ts':List (Addr × Rc)) (ln:Int) (H5:Hp),SameX p H3 H5→H5 lp'=some (.lst (refs ts'))→At H5 ts'→Tiles ww hh (rcs ts')→ts'.length≤ts.length+1→D.nx [some (.ref a),some (.int k),some (.int ww),some (.int hh),some (.int m),some (.ref lp'),x6,some (.ref p),some (.int at'),some (.int u.2.t),some (.int u.2.l),some (.int u.2.b),some (.int u.2.r),some (.int ln)] H5) →
     rd D [some (.ref a),some (.int k),some (.int ww),some (.int hh),some (.int m),some (.ref lp),x6,some (.ref p),some (.int at'),some (.int u.2.t),some (.int u.2.l),some (.int u.2.b),some (.int u.2.r),x13] H3:=by
   refine ⟨_,(pss_cons (ps_set (i:=13) S.nd rfl (Or.inl rfl) (pe_op op_add (pe_op op_add (pv 10) pe_int) (pe_fn D__law_take hr (pa_cons (pv 7) (pa_cons (pe_op op_sub (pe_op op_sub (pv 12) (pv 10)) pe_int) pa_nil)))))
   (pss_one (ps_set (i:=5) S.nd rfl (Or.inl rfl) (pe_op op_cat (pe_op op_cat (pe_slice sl_list (pv 5) po_none (po_some (pv 8))) (pe_lst (pa_cons (pe_tup (pa_cons (pv 9) (pa_cons (pv 10) (pa_cons (pv 11) (pa_cons (pv 13) pa_nil))))) (pa_cons (pe_tup (pa_cons (pv 9) (pa_cons (pv 13) (pa_cons (pv 11) (pa_cons (pv 12) pa_nil))))) pa_nil)))) (pe_slice sl_list (pv 5) (po_some (pe_op op_add (pv 8) pe_int)) po_none))))),?_⟩
   intro D lp p ts u at' z x6 x13 H3 ep hl hat til few at0' at1' hu' hc nx
   obtain ⟨b1,b2,b3,b4,b5,b6⟩:=til.ins u.2 (List.mem_map.mpr ⟨u,List.mem_of_getElem? hu',rfl⟩)
   have fl:ts.length=(refs ts).length:=(List.length_map _).symm
   refine ⟨_,rfl,_,_,rfl,rfl,_,rfl,_,rfl,_,rfl,_,_,rfl,rfl,_,_,rfl,rfl,p,z,u.2.r - u.2.l - 1,rfl,ep,by omega,by omega,fun ln z' r0 r1=>?_⟩
   have sx1:SameX p H3 (upd H3 p (.lst [.int z'])):=SameX.upd
   have hl4:=sx1 _ _ (ref_ne ep hl) hl
   have hat4:=hat.sx ep sx1
   generalize upd H3 p (.lst [.int z'])=H4 at sx1 hl4 hat4 ⊢
   have r2:u.2.l < u.2.l+1+ln:=by omega
   have r3:u.2.l+1+ln < u.2.r:=by omega
   refine rI0_add (i:=u.2.l+1) (j:=ln) ?_
   generalize u.2.l+1+ln=mid at r2 r3 ⊢
   refine ⟨_,rfl,_,rfl,_,rfl,lp,_,rfl,SqL.of hl4,fun c1 n1=>?_⟩
   rw [cut_lo at0' at1']
   have sa:=Same.new (o:=.lst ((refs ts).take at'.toNat)) n1
   have ea:(upd H4 c1 (.lst ((refs ts).take at'.toNat))) c1=_:=upd_same
   generalize upd H4 c1 (.lst ((refs ts).take at'.toNat))=H5 at sa ea ⊢
   refine ⟨_,rfl,_,rfl,_,rfl,_,rfl,lenOk 4,fun t1 m1=>?_⟩
   have sb:=Same.new (o:=.tup (four u.2.t u.2.l u.2.b mid)) m1
   have eb:(upd H5 t1 (.tup (four u.2.t u.2.l u.2.b mid))) t1=_:=upd_same
   generalize upd H5 t1 (.tup (four u.2.t u.2.l u.2.b mid))=H6 at sb eb ⊢
   refine ⟨_,rfl,_,rfl,_,rfl,_,rfl,lenOk 4,fun t2 m2=>?_⟩
   have sc:=Same.new (o:=.tup (four u.2.t mid u.2.b u.2.r)) m2
   have ec:(upd H6 t2 (.tup (four u.2.t mid u.2.b u.2.r))) t2=_:=upd_same
   generalize upd H6 t2 (.tup (four u.2.t mid u.2.b u.2.r))=H7 at sc ec ⊢
   refine ⟨lenOk 2,fun l2 m3=>?_⟩
   have sd:=Same.new (o:=.lst [.ref t1,.ref t2]) m3
   have ed:(upd H7 l2 (.lst [.ref t1,.ref t2])) l2=_:=upd_same
   generalize upd H7 l2 (.lst [.ref t1,.ref t2])=H8 at sd ed ⊢
   refine ⟨c1,l2,_,_,rfl,rfl,(sb.trans (sc.trans sd)) _ _ ea,ed,Nat.le_of_lt (small1000 (by rw [List.length_take]; show _+2≤_; omega)),fun c2 m4=>?_⟩
   have se:=Same.new (o:=.lst ((refs ts).take at'.toNat++[.ref t1,.ref t2])) m4
   have ee:(upd H8 c2 (.lst ((refs ts).take at'.toNat++[.ref t1,.ref t2]))) c2=_:=upd_same
   generalize upd H8 c2 (.lst ((refs ts).take at'.toNat++[.ref t1,.ref t2]))=H9 at se ee ⊢
   have s49:=sa.trans (sb.trans (sc.trans (sd.trans se)))
   refine ⟨_,rfl,_,rfl,_,_,rfl,rfl,_,rfl,lp,_,rfl,SqL.of (s49 _ _ hl4),fun c3 m5=>?_⟩
   rw [cut_hi at0' at1']
   have sf:=Same.new (o:=.lst ((refs ts).drop (at'.toNat+1))) m5
   have ef:(upd H9 c3 (.lst ((refs ts).drop (at'.toNat+1)))) c3=_:=upd_same
   generalize upd H9 c3 (.lst ((refs ts).drop (at'.toNat+1)))=HA at sf ef ⊢
   refine ⟨c2,c3,_,_,rfl,rfl,sf _ _ ee,ef,Nat.le_of_lt (small1000 (by rw [List.length_append,List.length_take,List.length_drop]; show _+2+_≤_; omega)),fun c4 m6=>?_⟩
   have sg:=Same.new (o:=.lst ((refs ts).take at'.toNat++[.ref t1,.ref t2]++(refs ts).drop (at'.toNat+1))) m6
   have s4B:=s49.trans (sf.trans sg)
   have sbB:=sc.trans (sd.trans (se.trans (sf.trans sg)))
   have scB:=sd.trans (se.trans (sf.trans sg))
   refine nx c4 (ts.take at'.toNat++(t1,⟨u.2.t,u.2.l,u.2.b,mid⟩) :: (t2,⟨u.2.t,mid,u.2.b,u.2.r⟩) :: ts.drop (at'.toNat+1)) mid _ (sx1.trans (SameX.of s4B)) (by rw [upd_same,cut_refs ts at'.toNat t1 t2 ⟨u.2.t,u.2.l,u.2.b,mid⟩ ⟨u.2.t,mid,u.2.b,u.2.r⟩]) (at_cut hat4 s4B (sbB _ _ eb) (scB _ _ ec)) (til_cut til hu' (split_u b2 r2 r3)) ?_
   rw [List.length_append,List.length_cons,List.length_cons,List.length_take,List.length_drop]; omega
  obtain ⟨tv,hlv,fin_v⟩:∃ rd,PSs (cxOf CX0 P w K mg base N_cutup "_law_cut_up" (defScope s__law_cut_up) f cdv A outer s H E).nox (ifThen (nth (ifElse (nth (forBody (nth (defBody s__law_cut_up) 1)) 3)) 0)) rd ∧
    ∀ (D:Ends) (lp p:Addr) (ts:List (Addr × Rc)) (u:Addr × Rc) (at' z:Int) (x6 x13:Option V) (H3:Hp),H3 p=some (.lst [.int z])→H3 lp=some (.lst (refs ts))→At H3 ts→Tiles ww hh (rcs ts)→ts.length≤51→0≤at'→at' < (refs ts).length→ts[at'.toNat]?=some u→u.2.b - u.2.t > 1 →
     (∀ (lp':Addr) (ts':List (Addr × Rc)) (ln:Int) (H5:Hp),SameX p H3 H5→H5 lp'=some (.lst (refs ts'))→At H5 ts'→Tiles ww hh (rcs ts')→ts'.length≤ts.length+1→D.nx [some (.ref a),some (.int k),some (.int ww),some (.int hh),some (.int m),some (.ref lp'),x6,some (.ref p),some (.int at'),some (.int u.2.t),some (.int u.2.l),some (.int u.2.b),some (.int u.2.r),some (.int ln)] H5) →
     rd D [some (.ref a),some (.int k),some (.int ww),some (.int hh),some (.int m),some (.ref lp),x6,some (.ref p),some (.int at'),some (.int u.2.t),some (.int u.2.l),some (.int u.2.b),some (.int u.2.r),x13] H3:=by
   refine ⟨_,(pss_cons (ps_set (i:=13) S.nd rfl (Or.inl rfl) (pe_op op_add (pe_op op_add (pv 9) pe_int) (pe_fn D__law_take hr (pa_cons (pv 7) (pa_cons (pe_op op_sub (pe_op op_sub (pv 11) (pv 9)) pe_int) pa_nil)))))
   (pss_one (ps_set (i:=5) S.nd rfl (Or.inl rfl) (pe_op op_cat (pe_op op_cat (pe_slice sl_list (pv 5) po_none (po_some (pv 8))) (pe_lst (pa_cons (pe_tup (pa_cons (pv 9) (pa_cons (pv 10) (pa_cons (pv 13) (pa_cons (pv 12) pa_nil))))) (pa_cons (pe_tup (pa_cons (pv 13) (pa_cons (pv 10) (pa_cons (pv 11) (pa_cons (pv 12) pa_nil))))) pa_nil)))) (pe_slice sl_list (pv 5) (po_some (pe_op op_add (pv 8) pe_int)) po_none))))),?_⟩
   intro D lp p ts u at' z x6 x13 H3 ep hl hat til few at0' at1' hu' hc nx
   obtain ⟨b1,b2,b3,b4,b5,b6⟩:=til.ins u.2 (List.mem_map.mpr ⟨u,List.mem_of_getElem? hu',rfl⟩)
   have fl:ts.length=(refs ts).length:=(List.length_map _).symm
   refine ⟨_,rfl,_,_,rfl,rfl,_,rfl,_,rfl,_,rfl,_,_,rfl,rfl,_,_,rfl,rfl,p,z,u.2.b - u.2.t - 1,rfl,ep,by omega,by omega,fun ln z' r0 r1=>?_⟩
   have sx1:SameX p H3 (upd H3 p (.lst [.int z'])):=SameX.upd
   have hl4:=sx1 _ _ (ref_ne ep hl) hl
   have hat4:=hat.sx ep sx1
   generalize upd H3 p (.lst [.int z'])=H4 at sx1 hl4 hat4 ⊢
   have r2:u.2.t < u.2.t+1+ln:=by omega
   have r3:u.2.t+1+ln < u.2.b:=by omega
   refine rI0_add (i:=u.2.t+1) (j:=ln) ?_
   generalize u.2.t+1+ln=mid at r2 r3 ⊢
   refine ⟨_,rfl,_,rfl,_,rfl,lp,_,rfl,SqL.of hl4,fun c1 n1=>?_⟩
   rw [cut_lo at0' at1']
   have sa:=Same.new (o:=.lst ((refs ts).take at'.toNat)) n1
   have ea:(upd H4 c1 (.lst ((refs ts).take at'.toNat))) c1=_:=upd_same
   generalize upd H4 c1 (.lst ((refs ts).take at'.toNat))=H5 at sa ea ⊢
   refine ⟨_,rfl,_,rfl,_,rfl,_,rfl,lenOk 4,fun t1 m1=>?_⟩
   have sb:=Same.new (o:=.tup (four u.2.t u.2.l mid u.2.r)) m1
   have eb:(upd H5 t1 (.tup (four u.2.t u.2.l mid u.2.r))) t1=_:=upd_same
   generalize upd H5 t1 (.tup (four u.2.t u.2.l mid u.2.r))=H6 at sb eb ⊢
   refine ⟨_,rfl,_,rfl,_,rfl,_,rfl,lenOk 4,fun t2 m2=>?_⟩
   have sc:=Same.new (o:=.tup (four mid u.2.l u.2.b u.2.r)) m2
   have ec:(upd H6 t2 (.tup (four mid u.2.l u.2.b u.2.r))) t2=_:=upd_same
   generalize upd H6 t2 (.tup (four mid u.2.l u.2.b u.2.r))=H7 at sc ec ⊢
   refine ⟨lenOk 2,fun l2 m3=>?_⟩
   have sd:=Same.new (o:=.lst [.ref t1,.ref t2]) m3
   have ed:(upd H7 l2 (.lst [.ref t1,.ref t2])) l2=_:=upd_same
   generalize upd H7 l2 (.lst [.ref t1,.ref t2])=H8 at sd ed ⊢
   refine ⟨c1,l2,_,_,rfl,rfl,(sb.trans (sc.trans sd)) _ _ ea,ed,Nat.le_of_lt (small1000 (by rw [List.length_take]; show _+2≤_; omega)),fun c2 m4=>?_⟩
   have se:=Same.new (o:=.lst ((refs ts).take at'.toNat++[.ref t1,.ref t2])) m4
   have ee:(upd H8 c2 (.lst ((refs ts).take at'.toNat++[.ref t1,.ref t2]))) c2=_:=upd_same
   generalize upd H8 c2 (.lst ((refs ts).take at'.toNat++[.ref t1,.ref t2]))=H9 at se ee ⊢
   have s49:=sa.trans (sb.trans (sc.trans (sd.trans se)))
   refine ⟨_,rfl,_,rfl,_,_,rfl,rfl,_,rfl,lp,_,rfl,SqL.of (s49 _ _ hl4),fun c3 m5=>?_⟩
   rw [cut_hi at0' at1']
   have sf:=Same.new (o:=.lst ((refs ts).drop (at'.toNat+1))) m5
   have ef:(upd H9 c3 (.lst ((refs ts).drop (at'.toNat+1)))) c3=_:=upd_same
   generalize upd H9 c3 (.lst ((refs ts).drop (at'.toNat+1)))=HA at sf ef ⊢
   refine ⟨c2,c3,_,_,rfl,rfl,sf _ _ ee,ef,Nat.le_of_lt (small1000 (by rw [List.length_append,List.length_take,List.length_drop]; show _+2+_≤_; omega)),fun c4 m6=>?_⟩
   have sg:=Same.new (o:=.lst ((refs ts).take at'.toNat++[.ref t1,.ref t2]++(refs ts).drop (at'.toNat+1))) m6
   have s4B:=s49.trans (sf.trans sg)
   have sbB:=sc.trans (sd.trans (se.trans (sf.trans sg)))
   have scB:=sd.trans (se.trans (sf.trans sg))
   refine nx c4 (ts.take at'.toNat++(t1,⟨u.2.t,u.2.l,mid,u.2.r⟩) :: (t2,⟨mid,u.2.l,u.2.b,u.2.r⟩) :: ts.drop (at'.toNat+1)) mid _ (sx1.trans (SameX.of s4B)) (by rw [upd_same,cut_refs ts at'.toNat t1 t2 ⟨u.2.t,u.2.l,mid,u.2.r⟩ ⟨mid,u.2.l,u.2.b,u.2.r⟩]) (at_cut hat4 s4B (sbB _ _ eb) (scB _ _ ec)) (til_cut til hu' (split_l b5 r2 r3)) ?_
   rw [List.length_append,List.length_cons,List.length_cons,List.length_take,List.length_drop]; omega
  refine ⟨_,(pss_cons (ps_set (i:=5) S.nd rfl (Or.inl rfl) (pe_lst (pa_cons (pe_tup (pa_cons pe_int (pa_cons pe_int (pa_cons (pv 3) (pa_cons (pv 2) pa_nil))))) pa_nil)))
   (pss_cons (ps_for PassesOwn.never rfl (pi_range1 rfl T.z_range (pa_cons (pv 4) pa_nil)) (pg_name (i:=6) S.nd rfl (Or.inl rfl)) (pss_cons (ps_set (i:=7) S.nd rfl (Or.inl rfl) (pe_fn D__law_purse hr (pa_cons (pv 0) (pa_cons (pe_op op_add (pv 1) (pv 6)) pa_nil))))
   (pss_cons (ps_set (i:=8) S.nd rfl (Or.inl rfl) (pe_fn D__law_take hr (pa_cons (pv 7) (pa_cons (pe_callB call_len_seq rfl T.z_len rfl (pa_cons (pv 5) pa_nil)) pa_nil))))
   (pss_cons (ps_asg (pe_ix ix_list (pv 5) (pv 8) (fun _ _=>rfl)) (pg_tup rfl (pgs_cons (pg_name (i:=9) S.nd rfl (Or.inl rfl)) (pgs_cons (pg_name (i:=10) S.nd rfl (Or.inl rfl)) (pgs_cons (pg_name (i:=11) S.nd rfl (Or.inl rfl)) (pgs_cons (pg_name (i:=12) S.nd rfl (Or.inl rfl)) pgs_nil))))))
   (pss_one (ps_if (PW.pt (pw_and (pt_cmpR op_gt (pe_op op_sub (pv 12) (pv 10)) pe_int (nomark _)) (pw_and1 (PW.pt (pw_or (pt_cmpR op_lt (pe_op op_sub (pv 11) (pv 9)) pe_int (nomark _)) (pw_or1 (pt_cmpR op_eq (pe_fn D__law_take hr (pa_cons (pv 7) (pa_cons pe_int pa_nil))) pe_int (nomark _)))))))) hup (pss_one (ps_if (pt_cmpR op_gt (pe_op op_sub (pv 11) (pv 9)) pe_int (nomark _)) hlv pss_nil))))))))
   (pss_one (ps_ret (pv 5))))),?_⟩
  refine ⟨_,rfl,_,rfl,lenOk 4,fun t0 ht0=>⟨lenOk 1,fun l0 hl0=>?_⟩⟩
  have sA:=Same.new (o:=.tup (four 0 0 hh ww)) ht0
  have eA:(upd H t0 (.tup (four 0 0 hh ww))) t0=some (.tup (four 0 0 hh ww)):=upd_same
  generalize upd H t0 (.tup (four 0 0 hh ww))=H1 at sA eA hl0 ⊢
  have sB:=Same.new (o:=.lst [.ref t0]) hl0
  have eB:(upd H1 l0 (.lst [.ref t0])) l0=some (.lst [.ref t0]):=upd_same
  generalize upd H1 l0 (.lst [.ref t0])=H2 at sB eB ⊢
  refine ⟨_,rfl,m,rfl,by omega,by omega,for_range (lo:=0) (n:=m.toNat) (fun i σ H'=>∃ (lp:Addr) (ts:List (Addr × Rc)) (x6 x7 x8 x9 x10 x11 x12 x13:Option V),σ=[some (.ref a),some (.int k),some (.int ww),some (.int hh),some (.int m),some (.ref lp),x6,x7,x8,x9,x10,x11,x12,x13]∧Same H H'∧H' lp=some (.lst (refs ts))∧At H' ts∧Tiles ww hh (rcs ts)∧ts.length≤i+1)
   ⟨l0,[(t0,⟨0,0,hh,ww⟩)],_,_,_,_,_,_,_,_,rfl,sA.trans sB,eB,fun t ht=>by rw [List.mem_singleton.mp ht]; exact sB _ _ eA,⟨fun p hp=>by rw [List.mem_singleton.mp hp]; exact ⟨by simp only []; omega,by simp only []; omega,by simp only []; omega,by simp only []; omega,by simp only []; omega,by simp only []; omega⟩,List.pairwise_singleton _ _,fun r c b1 b2 b3 b4=>⟨_,List.mem_singleton.mpr rfl,b1,b2,b3,b4⟩⟩,Nat.le_refl _⟩ ?_ ?_⟩
  ·rintro i σ H' hi ⟨lp,ts,x6,x7,x8,x9,x10,x11,x12,x13,rfl,s1,hl,hat,til,few⟩
   have ne0:0 < ts.length:=by
    obtain ⟨p,hp,_⟩:=til.cov 0 0 (by omega) (by omega) (by omega) (by omega)
    obtain ⟨u,hu,_⟩:=List.mem_map.mp hp
    exact List.length_pos_of_mem hu
   refine ⟨_,rfl,_,rfl,_,rfl,_,_,rfl,rfl,a,ns,k+(0+(i:Int)),rfl,s1.seq hS,by omega,by omega,fun p z hp=>?_⟩
   have sp:=Same.new (o:=.lst [.int z]) hp
   have ep:(upd H' p (.lst [.int z])) p=some (.lst [.int z]):=upd_same
   generalize upd H' p (.lst [.int z])=H2' at sp ep ⊢
   refine ⟨_,rfl,_,rfl,lp,_,rfl,.inl (SqL.of (sp _ _ hl)),p,z,_,rfl,ep,by rw [List.length_map]; omega,by rw [List.length_map]; omega,fun at' z' at0' at1'=>?_⟩
   have sx1:SameX p H2' (upd H2' p (.lst [.int z'])):=SameX.upd
   have ep3:(upd H2' p (.lst [.int z'])) p=some (.lst [.int z']):=upd_same
   have hl3:=sx1 _ _ (ref_ne ep (sp _ _ hl)) (sp _ _ hl)
   have hat3:=(hat.same sp).sx ep sx1
   have s13:Same H' (upd H2' p (.lst [.int z'])):=SameX.drop sp hp sx1
   generalize upd H2' p (.lst [.int z'])=H3 at sx1 ep3 hl3 hat3 s13 ⊢
   have at2':at'.toNat < ts.length:=by rw [List.length_map] at at1'; omega
   obtain ⟨u,hu'⟩:∃ u,ts[at'.toNat]?=some u:=⟨_,List.getElem?_eq_getElem at2'⟩
   have hua:=hat3 u (List.mem_of_getElem? hu')
   have gu:atI (refs ts) at'=some (.ref u.1):=by
    have e:=atI_nat (xs:=refs ts) (j:=at'.toNat) (v:=.ref u.1) (by rw [List.getElem?_map,hu']; rfl)
    rwa [Int.toNat_of_nonneg at0'] at e
   obtain ⟨b1,b2,b3,b4,b5,b6⟩:=til.ins u.2 (List.mem_map.mpr ⟨u,List.mem_of_getElem? hu',rfl⟩)
   refine ⟨_,rfl,_,rfl,lp,_,_,_,rfl,rfl,SqL.of hl3,gu,u.1,_,rfl,SqT.of hua,rfl,_,_,rfl,_,_,rfl,_,_,rfl,_,_,rfl,rfl,?_⟩
   have few51:ts.length≤51:=by omega
   refine ⟨_,rfl,_,rfl,_,_,rfl,rfl,_,_,rfl,rfl,_,rfl,ite3 (fun c1=>?_) (fun c1=>?_)⟩
   ·have c1:=of_decide_eq_true c1
    refine ⟨_,rfl,_,rfl,_,_,rfl,rfl,_,_,rfl,rfl,_,rfl,ite3 (fun c2=>?_) (fun c2=>?_)⟩
    ·exact fin_u _ lp p ts u at' z' _ _ H3 ep3 hl3 hat3 til few51 at0' at1' hu' c1 fun lp' ts' ln H5 sx d1 d2 d3 d4=>⟨lp',ts',_,_,_,_,_,_,_,_,rfl,s1.trans (SameX.drop s13 hp sx),d1,d2,d3,by omega⟩
    ·refine ⟨_,rfl,p,z',2,rfl,ep3,by decide,by decide,fun r z2 r0 r1=>?_⟩
     have sx2:SameX p H3 (upd H3 p (.lst [.int z2])):=SameX.upd
     have hl4:=sx2 _ _ (ref_ne ep3 hl3) hl3
     have hat4:=hat3.sx ep3 sx2
     have ep4:(upd H3 p (.lst [.int z2])) p=some (.lst [.int z2]):=upd_same
     generalize upd H3 p (.lst [.int z2])=H4 at sx2 hl4 hat4 ep4 ⊢
     refine ⟨rfl,_,rfl,ite3 (fun c3=>?_) (fun c3=>?_)⟩
     ·exact fin_u _ lp p ts u at' z2 _ _ H4 ep4 hl4 hat4 til few51 at0' at1' hu' c1 fun lp' ts' ln H5 sx d1 d2 d3 d4=>⟨lp',ts',_,_,_,_,_,_,_,_,rfl,s1.trans (SameX.drop s13 hp (sx2.trans sx)),d1,d2,d3,by omega⟩
     ·refine ⟨_,rfl,_,rfl,_,_,rfl,rfl,_,_,rfl,rfl,_,rfl,ite3 (fun c4=>?_) (fun c4=>?_)⟩
      ·exact fin_v _ lp p ts u at' z2 _ _ H4 ep4 hl4 hat4 til few51 at0' at1' hu' (of_decide_eq_true c4) fun lp' ts' ln H5 sx d1 d2 d3 d4=>⟨lp',ts',_,_,_,_,_,_,_,_,rfl,s1.trans (SameX.drop s13 hp (sx2.trans sx)),d1,d2,d3,by omega⟩
      ·exact ⟨lp,ts,_,_,_,_,_,_,_,_,rfl,s1.trans (SameX.drop s13 hp sx2),hl4,hat4,til,by omega⟩
   ·refine ⟨_,rfl,_,rfl,_,_,rfl,rfl,_,_,rfl,rfl,_,rfl,ite3 (fun c4=>?_) (fun c4=>?_)⟩
    ·exact fin_v _ lp p ts u at' z' _ _ H3 ep3 hl3 hat3 til few51 at0' at1' hu' (of_decide_eq_true c4) fun lp' ts' ln H5 sx d1 d2 d3 d4=>⟨lp',ts',_,_,_,_,_,_,_,_,rfl,s1.trans (SameX.drop s13 hp sx),d1,d2,d3,by omega⟩
    ·exact ⟨lp,ts,_,_,_,_,_,_,_,_,rfl,s1.trans s13,hl3,hat3,til,by omega⟩
  ·rintro σ H' ⟨lp,ts,x6,x7,x8,x9,x10,x11,x12,x13,rfl,s1,hl,hat,til,few⟩
   exact ⟨_,rfl,q lp ts H' s1 hl hat til (by omega)⟩
theorem apR_t {p q:Rc} (h:p.b≤q.t∨q.b≤p.t∨p.r≤q.l∨q.r≤p.l):apR p q=true:=by
 unfold apR
 simp only [Bool.or_eq_true,decide_eq_true_eq]
 omega
theorem apR_f {p q:Rc} (h1:q.t < p.b) (h2:p.t < q.b) (h3:q.l < p.r) (h4:p.l < q.r):apR p q=false:=by
 unfold apR
 simp only [Bool.or_eq_false_iff,decide_eq_false_iff_not]
 omega
theorem insR_t {p q:Rc} (h1:q.t≤p.t) (h2:p.b≤q.b) (h3:q.l≤p.l) (h4:p.r≤q.r):insR p q=true:=by
 unfold insR insB
 simp only [Bool.and_eq_true,decide_eq_true_eq]
 omega
theorem insR_f {p q:Rc} (h:¬ (q.t≤p.t∧p.b≤q.b∧q.l≤p.l∧p.r≤q.r)):insR p q=false:=by
 cases e:insR p q with
 | false=>rfl
 | true =>
  unfold insR insB at e
  simp only [Bool.and_eq_true,decide_eq_true_eq] at e
  exact absurd ⟨e.1.1,e.2.1,e.1.2,e.2.2⟩ h
theorem okA_snoc {ps:List Rc} {p q:Rc} (h:okA ps q=true) (h1:(insR p q || apR p q)=true):okA (ps++[p]) q=true:=by
 unfold okA at h ⊢
 rw [List.all_append,h]
 simpa using h1
theorem okA_no {ps:List Rc} {p q:Rc} (hp:p∈ps) (h1:insR p q=false) (h2:apR p q=false):okA ps q=false:=by
 cases e:okA ps q with
 | false=>rfl
 | true =>
  unfold okA at e
  rw [List.all_eq_true] at e
  have:=e p hp
  rw [h1,h2] at this
  cases this
abbrev N_lpin:List Str:=["_law_panes","_law_block","_law_top","_law_left","_law_bottom","_law_right_here","_law_found","_law_one"]
theorem S_law_panes_in:FnScope N_lpin ["_law_panes","_law_block"] (defScope s__law_panes_in):=⟨rfl,rfl,rfl,by decide +kernel,rfl,by decide +kernel,by decide +kernel⟩
theorem ok_law_panes_in {f:Addr} {fd:FuncData} (F:Fun K "_law_panes_in" "_law_panes_in" s__law_panes_in f fd) (T:Txt mg tk):FnOk P w K mg base CX0 1 f fd ["_law_panes","_law_block"] (sp_lpin K):=by
 have S:=S_law_panes_in
 refine F.ok S (fun vs H Q E h=>?_) (fun cdv A outer s H vs Q E hr h=>?_)
 ·obtain ⟨l,b,ts,q,w,h,rfl,_⟩:=h; rfl
 ·obtain ⟨l,b,ts,q,ww,hh,rfl,hl,hat,til,few,gw,gh,hb,k⟩:=h
  obtain ⟨te,hel,fin_e⟩:∃ rd,PSs (cxOf CX0 P w K mg base N_lpin "_law_panes_in" (defScope s__law_panes_in) f cdv A outer s H E).nox (ifElse (nth (forBody (nth (defBody s__law_panes_in) 2)) 0)) rd ∧
    ∀ (D:Ends) (u:Addr × Rc) (x6:Option V) (H':Hp),H' u.1=some (.tup (four u.2.t u.2.l u.2.b u.2.r))→(apR u.2 q=true→D.nx [some (.ref l),some (.ref b),some (.int q.t),some (.int q.l),some (.int q.b),some (.int q.r),x6,some (.ref u.1)] H')→(apR u.2 q=false→D.rt .non H') →
     rd D [some (.ref l),some (.ref b),some (.int q.t),some (.int q.l),some (.int q.b),some (.int q.r),x6,some (.ref u.1)] H':=by
   refine ⟨_,(pss_one (ps_if (PW.pt (pw_and (pt_cmpR op_lt (pv 2) (pe_ix ix_tup (pv 7) pe_int (fun _ _=>rfl)) (nomark _)) (pw_and (pt_cmpR op_lt (pe_ix ix_tup (pv 7) pe_int (fun _ _=>rfl)) (pv 4) (nomark _)) (pw_and (pt_cmpR op_lt (pv 3) (pe_ix ix_tup (pv 7) pe_int (fun _ _=>rfl)) (nomark _)) (pw_and1 (pt_cmpR op_lt (pe_ix ix_tup (pv 7) pe_int (fun _ _=>rfl)) (pv 5) (nomark _))))))) (pss_one (ps_ret pe_non)) pss_nil)),?_⟩
   intro D u x6 H' hua nx rt
   refine ⟨_,rfl,_,rfl,u.1,_,_,_,rfl,rfl,SqT.of hua,at2,_,_,rfl,rfl,_,rfl,ite3 (fun h1=>?_) (fun h1=>nx (apR_t (.inl (Int.not_lt.mp (of_decide_eq_false h1)))))⟩
   refine ⟨_,rfl,u.1,_,_,_,rfl,rfl,SqT.of hua,at0,_,rfl,_,_,rfl,rfl,_,rfl,ite3 (fun h2=>?_) (fun h2=>nx (apR_t (.inr (.inl (Int.not_lt.mp (of_decide_eq_false h2))))))⟩
   refine ⟨_,rfl,_,rfl,u.1,_,_,_,rfl,rfl,SqT.of hua,at3,_,_,rfl,rfl,_,rfl,ite3 (fun h3=>?_) (fun h3=>nx (apR_t (.inr (.inr (.inl (Int.not_lt.mp (of_decide_eq_false h3)))))))⟩
   refine ⟨_,rfl,u.1,_,_,_,rfl,rfl,SqT.of hua,at1,_,rfl,_,_,rfl,rfl,_,rfl,ite3 (fun h4=>?_) (fun h4=>nx (apR_t (.inr (.inr (.inr (Int.not_lt.mp (of_decide_eq_false h4)))))))⟩
   exact rt (apR_f (of_decide_eq_true h1) (of_decide_eq_true h2) (of_decide_eq_true h3) (of_decide_eq_true h4))
  refine ⟨_,(pss_cons (ps_asg (pv 1) (pg_tup rfl (pgs_cons (pg_name (i:=2) S.nd rfl (Or.inl rfl)) (pgs_cons (pg_name (i:=3) S.nd rfl (Or.inl rfl)) (pgs_cons (pg_name (i:=4) S.nd rfl (Or.inl rfl)) (pgs_cons (pg_name (i:=5) S.nd rfl (Or.inl rfl)) pgs_nil))))))
   (pss_cons (ps_set (i:=6) S.nd rfl (Or.inl rfl) (pe_lst pa_nil))
   (pss_cons (ps_for PassesOwn.never rfl (pi_list (pe_callB call_sortedT rfl T.z_sorted rfl (pa_cons (pv 0) pa_nil))) (pg_name (i:=7) S.nd rfl (Or.inl rfl)) (pss_one (ps_if (PW.pt (pw_and (pt_cmpR op_le (pv 2) (pe_ix ix_tup (pv 7) pe_int (fun _ _=>rfl)) (nomark _)) (pw_and (pt_cmpR op_le (pe_ix ix_tup (pv 7) pe_int (fun _ _=>rfl)) (pv 4) (nomark _)) (pw_and (pt_cmpR op_le (pv 3) (pe_ix ix_tup (pv 7) pe_int (fun _ _=>rfl)) (nomark _)) (pw_and1 (pt_cmpR op_le (pe_ix ix_tup (pv 7) pe_int (fun _ _=>rfl)) (pv 5) (nomark _))))))) (pss_one (ps_expr (pe_bm PySem.F.plainAttrs_list PySem.F.slot_list_append PySem.F.type_list_append mt_append (pv 6) (pa_cons (pv 7) pa_nil)))) hel)))
   (pss_one (ps_ret (pv 6)))))),?_⟩
  refine ⟨_,rfl,b,_,rfl,SqT.of hb,rfl,_,_,rfl,_,_,rfl,_,_,rfl,_,_,rfl,rfl,?_⟩
  refine ⟨lenOk 0,fun lf hlf=>?_⟩
  have s1:=Same.new (o:=.lst []) hlf
  have e1:(upd H lf (.lst [])) lf=some (.lst []):=upd_same
  generalize upd H lf (.lst [])=H1 at s1 e1 ⊢
  refine ⟨_,rfl,l,lsL ts,3,key,rfl,sr1 (s1.seq hl),sr0 few,sr2 (hat.same s1),sr3 til.ins gw gh,fun l5 zs hl5 hpz hsz=>?_⟩
  obtain ⟨us,pus,rfl,sus⟩:=sr4 hpz hsz
  rw [lsL_refs]
  have s2:=Same.new (o:=.lst (refs us)) hl5
  have e2:(upd H1 l5 (.lst (refs us))) l5=some (.lst (refs us)):=upd_same
  have n5:lf≠l5:=ne_of_none e1 hl5
  generalize upd H1 l5 (.lst (refs us))=H2 at s2 e2 ⊢
  have aus:At H2 us:=(At.perm (hat.same s1) pus).same s2
  have k:=k us pus sus
  refine ⟨l5,rfl,⟨_,SqL.of e2⟩,for_list (K:=K) (a:=l5) (xs:=refs us) (fun i σ H'=>∃ x7:Option V,σ=[some (.ref l),some (.ref b),some (.int q.t),some (.int q.l),some (.int q.b),some (.int q.r),some (.ref lf),x7]∧Same H H'∧H' l5=some (.lst (refs us))∧At H' us∧H' lf=some (.lst (refs ((us.take i).filter fun t=>insR t.2 q)))∧okA (rcs (us.take i)) q=true)
   ⟨_,rfl,s1.trans s2,e2,aus,s2 _ _ e1,rfl⟩ (fun i σ H' _ hp=>by obtain ⟨_,_,_,h,_⟩:=hp; exact SqL.of h) ?_ ?_⟩
  ·rintro i x σ H' hx ⟨x7,rfl,s3,e3,a3,f3,o3⟩
   obtain ⟨u,hu',rfl⟩:=refs_get hx
   have hum:=List.mem_of_getElem? hu'
   have hua:=a3 u hum
   have ef:=filter_get (fun t:Addr × Rc=>insR t.2 q) hu'
   have er:rcs (us.take (i+1))=rcs (us.take i)++[u.2]:=by rw [List.take_succ,hu']; simp
   have no:insR u.2 q=false→apR u.2 q=false→Q .non H':=fun i1 i2=>k.1 (okA_no (List.mem_map.mpr ⟨u,hum,rfl⟩) i1 i2) H' s3
   have go:insR u.2 q=false→apR u.2 q=true→∃ x7':Option V,[some (.ref l),some (.ref b),some (.int q.t),some (.int q.l),some (.int q.b),some (.int q.r),some (.ref lf),some (.ref u.1)]=[some (.ref l),some (.ref b),some (.int q.t),some (.int q.l),some (.int q.b),some (.int q.r),some (.ref lf),x7']∧Same H H'∧H' l5=some (.lst (refs us))∧At H' us∧H' lf=some (.lst (refs ((us.take (i+1)).filter fun t=>insR t.2 q)))∧okA (rcs (us.take (i+1))) q=true:=fun i1 i2 =>
    ⟨_,rfl,s3,e3,a3,by rw [ef,i1,if_neg Bool.false_ne_true,List.append_nil]; exact f3,by rw [er]; exact okA_snoc o3 (by rw [i1,i2]; rfl)⟩
   refine ⟨_,rfl,_,rfl,u.1,_,_,_,rfl,rfl,SqT.of hua,at0,_,_,rfl,rfl,_,rfl,ite3 (fun h1=>?_) (fun h1=>?_)⟩
   ·refine ⟨_,rfl,u.1,_,_,_,rfl,rfl,SqT.of hua,at2,_,rfl,_,_,rfl,rfl,_,rfl,ite3 (fun h2=>?_) (fun h2=>?_)⟩
    ·refine ⟨_,rfl,_,rfl,u.1,_,_,_,rfl,rfl,SqT.of hua,at1,_,_,rfl,rfl,_,rfl,ite3 (fun h3=>?_) (fun h3=>?_)⟩
     ·refine ⟨_,rfl,u.1,_,_,_,rfl,rfl,SqT.of hua,at3,_,rfl,_,_,rfl,rfl,_,rfl,ite3 (fun h4=>?_) (fun h4=>?_)⟩
      ·have i1:=insR_t (of_decide_eq_true h1) (of_decide_eq_true h2) (of_decide_eq_true h3) (of_decide_eq_true h4)
       refine ⟨_,rfl,.inl ⟨rfl,_,SqL.of f3⟩,_,rfl,lf,_,_,rfl,rfl,f3,small1000 (by rw [List.length_map]; have:=List.length_filter_le (fun t:Addr × Rc=>insR t.2 q) (us.take i); rw [List.length_take] at this; have:=pus.length_eq; omega),?_⟩
       have n6:l5≠lf:=Ne.symm n5
       refine ⟨_,rfl,fun c o e=>?_,by rw [upd_ne n6]; exact e3,fun t ht=>by rw [upd_ne (ne_of (a3 t ht) f3 (by intro z; cases z))]; exact a3 t ht,by rw [upd_same,ef,i1,if_pos rfl,refs_snoc],by rw [er]; exact okA_snoc o3 (by rw [i1]; rfl)⟩
       rw [upd_ne (ne_of_none e hlf)]; exact s3 c o e
      ·have i1:insR u.2 q=false:=insR_f fun z=>of_decide_eq_false h4 z.2.2.2
       exact fin_e _ u _ H' hua (go i1) (no i1)
     ·have i1:insR u.2 q=false:=insR_f fun z=>of_decide_eq_false h3 z.2.2.1
      exact fin_e _ u _ H' hua (go i1) (no i1)
    ·have i1:insR u.2 q=false:=insR_f fun z=>of_decide_eq_false h2 z.2.1
     exact fin_e _ u _ H' hua (go i1) (no i1)
   ·have i1:insR u.2 q=false:=insR_f fun z=>of_decide_eq_false h1 z.1
    exact fin_e _ u _ H' hua (go i1) (no i1)
  ·rintro σ H' ⟨x7,rfl,s3,e3,a3,f3,o3⟩
   have e:(refs us).length=us.length:=List.length_map _
   rw [e,List.take_length] at f3 o3
   exact ⟨_,rfl,k.2 o3 lf H' s3 hlf f3⟩
theorem S_check_block:FnScope ["panel","block"] ["panel","block"] (defScope s_check_block):=⟨rfl,rfl,rfl,by decide +kernel,rfl,by decide +kernel,by decide +kernel⟩
theorem ok_check_block {f:Addr} {fd:FuncData} (F:Fun K "check_block" "check_block" s_check_block f fd) (D_is_block:DefOk P w K mg base 3 "is_block" ["panel","block"] (sp_block C)):FnOk P w K mg base CX0 4 f fd ["panel","block"] (sp_chk C):=by
 have S:=S_check_block
 refine F.ok S (fun vs H Q E h=>?_) (fun cdv A outer s H vs Q E hr h=>?_)
 ·obtain ⟨a,dx,ls,ld,b,w,h,ts,kvs,q,rfl,_⟩:=h; rfl
 ·obtain ⟨a,dx,ls,ld,b,ww,hh,ts,kvs,q,rfl,pn,hb,hk,k⟩:=h
  refine ⟨_,(pss_one (ps_if (pt_not (pt_val (pe_fn D_is_block hr (pa_cons (pv 0) (pa_cons (pv 1) pa_nil))))) (pss_one ps_never) pss_nil)),?_⟩
  refine ⟨_,rfl,_,rfl,a,dx,ls,ld,ww,hh,ts,kvs,.ref b,some q,rfl,pn,⟨b,rfl,hb⟩,fun H1 s1=>⟨_,rfl,?_⟩⟩
  have e:blkO ww hh (rcs ts) (some q)=true:=hk
  rw [e]
  exact iteN rfl (k H1 s1)
theorem inV_ints {x:Int}:∀ {ks:List Int},inV (.int x) (ks.map V.int)=decide (x∈ks)
 | []=>rfl
 | k :: ks=>by
  have ih:=inV_ints (x:=x) (ks:=ks)
  unfold inV at ih ⊢
  rw [List.map_cons,List.any_cons,ih]
  show (k == x || decide (x∈ks))=_
  rw [Bool.eq_iff_iff,Bool.or_eq_true,beq_iff_eq,decide_eq_true_eq,decide_eq_true_eq,List.mem_cons]
  constructor
  ·rintro (h | h)
   ·exact .inl h.symm
   ·exact .inr h
  ·rintro (h | h)
   ·exact .inl h.symm
   ·exact .inr h
theorem runsL_snoc (g:Int→Bool) (ps:List Int) (p:Int):runsL g (ps++[p])=runStep g (runsL g ps) p:=by
 unfold runsL; rw [List.foldl_append]; rfl
theorem runStep_grow (g:Int→Bool) (acc:List (Int × Int)) (u:Int × Int) (p:Int) (h1:u.2=p) (h2:g p=false):runStep g (acc++[u]) p=acc++[(u.1,p+1)]:=by
 unfold runStep
 rw [show (acc++[u]).getLast?=some u by simp]
 show (if _ then _ else _)=_
 rw [if_pos ⟨h1,h2⟩,List.dropLast_concat]
theorem runStep_more (g:Int→Bool) (acc:List (Int × Int)) (u:Int × Int) (p:Int) (h:¬ (u.2=p∧g p=false)):runStep g (acc++[u]) p=acc++[u]++[(p,p+1)]:=by
 unfold runStep
 rw [show (acc++[u]).getLast?=some u by simp]
 show (if _ then _ else _)=_
 rw [if_neg h]
theorem S_runs:FnScope ["places","stops","found","place"] ["places","stops"] (defScope s_runs):=⟨rfl,rfl,rfl,by decide +kernel,rfl,by decide +kernel,by decide +kernel⟩
theorem ok_runs {f:Addr} {fd:FuncData} (F:Fun K "runs" "runs" s_runs f fd):FnOk P w K mg base CX0 1 f fd ["places","stops"] (sp_runs K):=by
 have S:=S_runs
 refine F.ok S (fun vs H Q E h=>?_) (fun cdv A outer s H vs Q E hr h=>?_)
 ·obtain ⟨l,m,ps,ss,rfl,_⟩:=h; rfl
 ·obtain ⟨l,m,ps,ss,rfl,hl,hm,few,k⟩:=h
  refine ⟨_,(pss_cons (ps_set (i:=2) S.nd rfl (Or.inl rfl) (pe_lst pa_nil))
   (pss_cons (ps_for PassesOwn.never rfl (pi_list (pv 0)) (pg_name (i:=3) S.nd rfl (Or.inl rfl)) (pss_one (ps_if (PW.pt (pw_and (pt_truth (pv 2) (fun _=>rfl)) (pw_and (pt_cmpR op_eq (pe_ix ix_tup (pe_ix ix_list (pv 2) (pe_un un_neg pe_int) (fun _ _=>rfl)) pe_int (fun _ _=>rfl)) (pv 3) (nomark _)) (pw_and1 (pt_cmpR op_notIn_seq (pv 3) (pv 1) rfl))))) (pss_one (ps_asg (pe_tup (pa_cons (pe_ix ix_tup (pe_ix ix_list (pv 2) (pe_un un_neg pe_int) (fun _ _=>rfl)) pe_int (fun _ _=>rfl)) (pa_cons (pe_op op_add (pv 3) pe_int) pa_nil))) (pg_sub (pv 2) (pe_un un_neg pe_int) set_list))) (pss_one (ps_expr (pe_bm PySem.F.plainAttrs_list PySem.F.slot_list_append PySem.F.type_list_append mt_append (pv 2) (pa_cons (pe_tup (pa_cons (pv 3) (pa_cons (pe_op op_add (pv 3) pe_int) pa_nil))) pa_nil)))))))
   (pss_one (ps_ret (pv 2))))),?_⟩
  refine ⟨lenOk 0,fun lf hlf=>?_⟩
  have s1:=Same.new (o:=.lst []) hlf
  have e1:(upd H lf (.lst [])) lf=some (.lst []):=upd_same
  generalize upd H lf (.lst [])=H1 at s1 e1 ⊢
  refine ⟨_,rfl,l,rfl,⟨_,s1.seq hl⟩,for_list (K:=K) (a:=l) (xs:=ps.map V.int) (fun i σ H'=>∃ (us:List (Addr × (Int × Int))) (x3:Option V),σ=[some (.ref l),some (.ref m),some (.ref lf),x3]∧Same H H'∧H' lf=some (.lst (refs2 us))∧At2 H' us∧us.map (·.2)=runsL (fun x=>decide (x∈ss)) (ps.take i)∧us.length≤i)
   ⟨[],_,rfl,s1,e1,fun u hu=>absurd hu List.not_mem_nil,rfl,Nat.le_refl _⟩ (fun i σ H' _ hp=>by obtain ⟨_,_,_,h,_⟩:=hp; exact h.seq hl) ?_ ?_⟩
  ·rintro i x σ H' hx ⟨us,x3,rfl,s2,e2,a2,r2,n2⟩
   obtain ⟨p,hp,rfl⟩:∃ p,ps[i]?=some p∧x=.int p:=by
    rw [List.getElem?_map] at hx
    cases h:ps[i]? with
    | none=>rw [h] at hx; cases hx
    | some p=>rw [h] at hx; exact ⟨p,rfl,(Option.some.inj hx).symm⟩
   have et:ps.take (i+1)=ps.take i++[p]:=by rw [List.take_succ,hp]; rfl
   have hi:i < ps.length:=(List.getElem?_eq_some_iff.mp hp).1
   rcases List.eq_nil_or_concat us with rfl | ⟨vs,u,eu⟩
   ·refine ⟨_,rfl,_,.inl ⟨_,SqL.of e2,rfl⟩,iteN rfl ?_⟩
    refine ⟨_,rfl,.inl ⟨rfl,_,SqL.of e2⟩,_,rfl,_,rfl,_,_,rfl,rfl,lenOk 2,fun t ht=>?_⟩
    have s3:=Same.new (o:=.tup [.int p,.int (p+1)]) ht
    have e3:(upd H' t (.tup [.int p,.int (p+1)])) t=some (.tup [.int p,.int (p+1)]):=upd_same
    have e4:=s3 _ _ e2
    generalize upd H' t (.tup [.int p,.int (p+1)])=H2 at s3 e3 e4 ⊢
    refine ⟨lf,_,_,rfl,rfl,e4,small1000 (by show 0≤1000; omega),[(t,(p,p+1))],_,rfl,fun c o e=>?_,upd_same,fun u hu=>?_,?_,by simp⟩
    ·rw [upd_ne (ne_of_none e hlf)]; exact (s2.trans s3) c o e
    ·rw [List.mem_singleton.mp hu,upd_ne (ne_of e3 e4 (by intro z; cases z))]; exact e3
    ·rw [et,runsL_snoc,← r2]; rfl
   ·rw [List.concat_eq_append] at eu
    subst eu
    have n2':vs.length+1≤i:=by rw [List.length_append] at n2; simpa using n2
    have hu2:=a2 u (by simp)
    have er:refs2 (vs++[u])=refs2 vs++[.ref u.1]:=by simp
    have rm:(vs++[u]).map (·.2)=vs.map (·.2)++[u.2]:=by simp
    rw [er] at e2
    have tru:(!(refs2 vs++[V.ref u.1]).isEmpty)=true:=by cases vs <;> rfl
    have lst:atI (refs2 vs++[V.ref u.1]) (-1)=some (V.ref u.1):=atI_last _ _
    have lng:(refs2 vs++[V.ref u.1]).length=vs.length+1:=by simp
    have fin:¬ (u.2.2=p∧decide (p∈ss)=false)→∀ t:Addr,H' t=none→∃ (us':List (Addr × (Int × Int))) (x3':Option V),[some (V.ref l),some (V.ref m),some (V.ref lf),some (V.int p)]=[some (V.ref l),some (V.ref m),some (V.ref lf),x3']∧Same H (upd (upd H' t (.tup [.int p,.int (p+1)])) lf (.lst (refs2 vs++[V.ref u.1]++[V.ref t])))∧(upd (upd H' t (.tup [.int p,.int (p+1)])) lf (.lst (refs2 vs++[V.ref u.1]++[V.ref t]))) lf=some (.lst (refs2 us'))∧At2 (upd (upd H' t (.tup [.int p,.int (p+1)])) lf (.lst (refs2 vs++[V.ref u.1]++[V.ref t]))) us'∧us'.map (·.2)=runsL (fun x=>decide (x∈ss)) (ps.take (i+1))∧us'.length≤i+1:=fun ng t ht=>by
     have s3:=Same.new (o:=.tup [.int p,.int (p+1)]) ht
     have e3:(upd H' t (.tup [.int p,.int (p+1)])) t=some (.tup [.int p,.int (p+1)]):=upd_same
     have e4:=s3 _ _ e2
     have a4:=a2.same s3
     generalize upd H' t (.tup [.int p,.int (p+1)])=H2 at s3 e3 e4 a4 ⊢
     refine ⟨vs++[u]++[(t,(p,p+1))],_,rfl,fun c o e=>?_,by rw [upd_same]; simp,fun v hv=>?_,?_,by simp; omega⟩
     ·rw [upd_ne (ne_of_none e hlf)]; exact (s2.trans s3) c o e
     ·rcases List.mem_append.mp hv with hv | hv
      ·rw [upd_ne (ne_of (a4 v hv) e4 (by intro z; cases z))]; exact a4 v hv
      ·rw [List.mem_singleton.mp hv,upd_ne (ne_of e3 e4 (by intro z; cases z))]; exact e3
     ·rw [List.map_append,rm,et,runsL_snoc,← r2,rm,runStep_more _ _ _ _ ng]; rfl
    refine ⟨_,rfl,_,.inl ⟨_,SqL.of e2,rfl⟩,iteP tru ?_⟩
    refine ⟨_,rfl,_,rfl,lf,_,_,_,rfl,rfl,SqL.of e2,lst,u.1,_,_,_,rfl,rfl,SqT.of hu2,rfl,_,rfl,rfl,_,rfl,ite3 (fun c1=>?_) (fun c1=>?_)⟩
    ·have c1:u.2.2=p:=by have:=of_decide_eq_true c1; injection this
     refine ⟨_,rfl,_,rfl,m,_,rfl,.inl (s2.seq hm),rfl,by rw [List.all_eq_true]; intro x hx; obtain ⟨z,_,rfl⟩:=List.mem_map.mp hx; rfl,_,rfl,?_⟩
     rw [if_pos rfl,inV_ints]
     cases c2:decide (p∈ss) with
     | false =>
      refine iteP rfl ⟨_,rfl,_,rfl,lf,_,_,_,rfl,rfl,SqL.of e2,lst,u.1,_,_,_,rfl,rfl,SqT.of hu2,rfl,_,rfl,_,_,rfl,rfl,lenOk 2,fun t ht=>?_⟩
      have s3:=Same.new (o:=.tup [.int u.2.1,.int (p+1)]) ht
      have e3:(upd H' t (.tup [.int u.2.1,.int (p+1)])) t=some (.tup [.int u.2.1,.int (p+1)]):=upd_same
      have e4:=s3 _ _ e2
      have a4:=a2.same s3
      generalize upd H' t (.tup [.int u.2.1,.int (p+1)])=H2 at s3 e3 e4 a4 ⊢
      have ij:ixN (refs2 vs++[V.ref u.1]).length (-1)=some vs.length:=by
       rw [lng]; unfold ixN
       rw [if_neg (by omega),if_pos (by omega)]; congr 1; omega
      have st:(refs2 vs++[V.ref u.1]).set vs.length (V.ref t)=refs2 (vs++[(t,(u.2.1,p+1))]):=by
       rw [List.set_append_right _ _ (by simp)]; simp
      refine ⟨_,rfl,_,rfl,lf,_,_,_,rfl,rfl,e4,ij,vs++[(t,(u.2.1,p+1))],_,rfl,fun c o e=>?_,by rw [upd_same,st],fun v hv=>?_,?_,by simp; omega⟩
      ·rw [upd_ne (ne_of_none e hlf)]; exact (s2.trans s3) c o e
      ·rcases List.mem_append.mp hv with hv | hv
       ·have hv':=a4 v (List.mem_append_left _ hv)
        rw [upd_ne (ne_of hv' e4 (by intro z; cases z))]; exact hv'
       ·rw [List.mem_singleton.mp hv,upd_ne (ne_of e3 e4 (by intro z; cases z))]; exact e3
      ·rw [et,runsL_snoc,← r2,rm,runStep_grow _ _ _ _ c1 c2,List.map_append]; rfl
     | true =>
      refine iteN rfl ⟨_,rfl,.inl ⟨rfl,_,SqL.of e2⟩,_,rfl,_,rfl,_,_,rfl,rfl,lenOk 2,fun t ht=>?_⟩
      exact ⟨lf,_,_,rfl,rfl,Same.new ht _ _ e2,small1000 (by rw [lng]; omega),fin (fun z=>by rw [c2] at z; cases z.2) t ht⟩
    ·have c1:u.2.2≠p:=fun z=>of_decide_eq_false c1 (by rw [z])
     refine ⟨_,rfl,.inl ⟨rfl,_,SqL.of e2⟩,_,rfl,_,rfl,_,_,rfl,rfl,lenOk 2,fun t ht=>?_⟩
     exact ⟨lf,_,_,rfl,rfl,Same.new ht _ _ e2,small1000 (by rw [lng]; omega),fin (fun z=>c1 z.1) t ht⟩
  ·rintro σ H' ⟨us,x3,rfl,s2,e2,a2,r2,n2⟩
   rw [List.length_map,List.take_length] at r2
   exact ⟨_,rfl,k lf us H' s2 hlf e2 a2 r2⟩
theorem no_pane_at {w h:Int} {ls ld:Addr}:(flds w h ls ld).lookup ("pane_at":Str)=none:=flds_no _ _ _ _ (by decide +kernel) (by decide +kernel) (by decide +kernel) (by decide +kernel)
theorem op_neDQ {X:Cx} {K:PySem.W.Frag} {k:Nat} (hr:Room k X.A) (hK:X.K=K:=by rfl):OpR X (compareOp .NotEq) (rEqD K true):=by subst hK; exact op_neD hr
theorem rcD_deq (p q:Rc):deq (rcD p) (rcD q)=decide (p=q):=by
 rcases p with ⟨a,b,c,d⟩
 rcases q with ⟨a',b',c',d'⟩
 unfold rcD
 simp only [deq,deqs,eqV]
 rw [Bool.eq_iff_iff]
 simp
theorem own_look {C:Addr} {H:Hp} {a:Addr} {w h:Int} {ts:List (Addr × Rc)} {dx ls ld:Addr} {kvs:List (List Key × V)} (p:PanelAt C H a w h ts dx ls ld kvs) {t:Addr × Rc} {r c:Int} (ht:t∈ts) (hh:t.2.has r c):own (rcs ts) r c=t.2 :=
 own_eq p.til.dis (List.mem_map.mpr ⟨t,ht,rfl⟩) hh
theorem placesN_len (f:Int→Bool) (lo:Int):∀ n,(placesN f lo n).length≤n
 | 0=>Nat.le_refl _
 | n+1=>by
  have:=placesN_len f lo n
  unfold placesN
  rw [List.length_append]
  split <;> simp <;> omega
theorem S_columns_parted:FnScope ["panel","block","line"] ["panel","block","line"] (defScope s_columns_parted):=⟨rfl,rfl,rfl,by decide +kernel,rfl,by decide +kernel,by decide +kernel⟩
theorem ok_columns_parted {f:Addr} {fd:FuncData} (F:Fun K "columns_parted" "columns_parted" s_columns_parted f fd) (T:Txt mg tk) (M_Panel_pane_at:MdOk P w K mg base 1 C "pane_at" ["self","row","column"] (sp_pane_at C)):FnOk P w K mg base CX0 2 f fd ["panel","block","line"] (sp_cols C):=by
 have S:=S_columns_parted
 refine F.ok S (fun vs H Q E h=>?_) (fun cdv A outer s H vs Q E hr h=>?_)
 ·obtain ⟨a,dx,ls,ld,b,ww,hh,n,ts,kvs,q,rfl,_⟩:=h; rfl
 ·obtain ⟨a,dx,ls,ld,b,ww,hh,n,ts,kvs,q,rfl,pn,hb,⟨q1,q2,q3,q4,q5,q6⟩,n1,n2,k⟩:=h
  have gw:=pn.sw
  have gh:=pn.sh
  refine ⟨_,(pss_one (ps_ret (pe_compF rfl (pi_range2 rfl T.z_range (pa_cons (pe_ix ix_tup (pv 1) pe_int (fun _ _=>rfl)) (pa_cons (pe_ix ix_tup (pv 1) pe_int (fun _ _=>rfl)) pa_nil))) (fun _ _ _ _ _=>(pg_name (i:=0) (show List.Nodup (["column","line","panel"]:List Str) from by decide +kernel) rfl (Or.inl rfl))) (fun _ _ _ _ _=>(pt_cmpR (op_neDQ (K:=K) hr) (pe_md M_Panel_pane_at hr (pv 2) (pa_cons (pe_op op_sub (pv 1) pe_int) (pa_cons (pv 0) pa_nil))) (pe_md M_Panel_pane_at hr (pv 2) (pa_cons (pv 1) (pa_cons (pv 0) pa_nil))) (nomark _))) (fun _ _ _ _ _=>(pv 0)) (N:=["column","line","panel"]) (fr:=[none,some 2,some 0])))),?_⟩
  refine ⟨_,rfl,b,_,_,_,rfl,rfl,SqT.of hb,at1,_,rfl,b,_,_,_,rfl,rfl,SqT.of hb,at3,q.l,q.r,rfl,⟨by omega,by omega,by omega,by omega⟩,fun acc hacc=>comp_rangeF (lo:=q.l) (n:=(q.r - q.l).toNat) (fun i xs σ H'=>(∃ y,σ=[y,some (.int n),some (.ref a)])∧Same H H'∧xs=(placesN (fun c=>lvB (rcs ts) q n c) q.l i).map V.int) ⟨⟨none,rfl⟩,Same.new hacc,rfl⟩ ?_ ?_⟩
  ·rintro i xs σ H' hi' hxl hacc' ⟨⟨y,rfl⟩,s1,rfl⟩
   have pn1:=pn.same s1
   refine ⟨_,rfl,a,dx,_,rfl,pn1.ob,no_pane_at,_,rfl,_,_,rfl,rfl,_,rfl,a,dx,ls,ld,ww,hh,n - 1,q.l+i,ts,kvs,rfl,pn1,by omega,by omega,by omega,by omega,fun u1 H2 hu1 hh1 s2=>?_⟩
   have pn2:=pn1.same s2
   refine ⟨_,rfl,a,dx,_,rfl,pn2.ob,no_pane_at,_,rfl,_,rfl,a,dx,ls,ld,ww,hh,n,q.l+i,ts,kvs,rfl,pn2,by omega,by omega,by omega,by omega,fun u2 H3 hu2 hh2 s3=>?_⟩
   have pn3:=pn2.same s3
   have o1:=own_look pn hu1 hh1
   have o2:=own_look pn hu2 hh2
   have lv:lvB (rcs ts) q n (q.l+i)=!decide (u1.2=u2.2):=by rw [lvB_of n1 n2 (by omega) (by omega),o1,o2]
   refine ⟨rcD u1.2,rcD u2.2,rcD_is (pn3.ats u1 hu1),rcD_is (pn3.ats u2 hu2),⟨_,rfl⟩,⟨_,rfl⟩,rcD_dep' _,?_⟩
   rw [if_pos rfl,rcD_deq,← lv]
   refine ⟨_,rfl,?_⟩
   have hacc3:=s3 _ _ (s2 _ _ hacc')
   have nacc:∀ b o,H b=some o→b≠acc:=fun b o e=>ne_of_none e hacc
   have s13:=s1.trans (s2.trans s3)
   cases hb':lvB (rcs ts) q n (q.l+i) with
   | false =>
    refine fSk.mk hi' hxl hacc3 ⟨⟨_,rfl⟩,s13,?_⟩
    rw [placesN,hb',if_neg Bool.false_ne_true,List.append_nil]
   | true =>
    refine ⟨_,rfl,fNx.mk (Nat.le_of_lt (small1000 (by omega))) hi' hxl hacc3 ⟨⟨_,rfl⟩,fun c o e=>?_,?_⟩⟩
    ·rw [upd_ne (nacc c o e)]; exact s13 c o e
    ·rw [placesN,hb',if_pos rfl,List.map_append]; rfl
  ·rintro xs σ H' hxl hacc' ⟨_,s1,rfl⟩
   exact k acc H' s1 hacc hacc'
theorem S_rows_parted:FnScope ["panel","block","line"] ["panel","block","line"] (defScope s_rows_parted):=⟨rfl,rfl,rfl,by decide +kernel,rfl,by decide +kernel,by decide +kernel⟩
theorem ok_rows_parted {f:Addr} {fd:FuncData} (F:Fun K "rows_parted" "rows_parted" s_rows_parted f fd) (T:Txt mg tk) (M_Panel_pane_at:MdOk P w K mg base 1 C "pane_at" ["self","row","column"] (sp_pane_at C)):FnOk P w K mg base CX0 2 f fd ["panel","block","line"] (sp_rows C):=by
 have S:=S_rows_parted
 refine F.ok S (fun vs H Q E h=>?_) (fun cdv A outer s H vs Q E hr h=>?_)
 ·obtain ⟨a,dx,ls,ld,b,ww,hh,n,ts,kvs,q,rfl,_⟩:=h; rfl
 ·obtain ⟨a,dx,ls,ld,b,ww,hh,n,ts,kvs,q,rfl,pn,hb,⟨q1,q2,q3,q4,q5,q6⟩,n1,n2,k⟩:=h
  have gw:=pn.sw
  have gh:=pn.sh
  refine ⟨_,(pss_one (ps_ret (pe_compF rfl (pi_range2 rfl T.z_range (pa_cons (pe_ix ix_tup (pv 1) pe_int (fun _ _=>rfl)) (pa_cons (pe_ix ix_tup (pv 1) pe_int (fun _ _=>rfl)) pa_nil))) (fun _ _ _ _ _=>(pg_name (i:=0) (show List.Nodup (["row","line","panel"]:List Str) from by decide +kernel) rfl (Or.inl rfl))) (fun _ _ _ _ _=>(pt_cmpR (op_neDQ (K:=K) hr) (pe_md M_Panel_pane_at hr (pv 2) (pa_cons (pv 0) (pa_cons (pe_op op_sub (pv 1) pe_int) pa_nil))) (pe_md M_Panel_pane_at hr (pv 2) (pa_cons (pv 0) (pa_cons (pv 1) pa_nil))) (nomark _))) (fun _ _ _ _ _=>(pv 0)) (N:=["row","line","panel"]) (fr:=[none,some 2,some 0])))),?_⟩
  refine ⟨_,rfl,b,_,_,_,rfl,rfl,SqT.of hb,at0,_,rfl,b,_,_,_,rfl,rfl,SqT.of hb,at2,q.t,q.b,rfl,⟨by omega,by omega,by omega,by omega⟩,fun acc hacc=>comp_rangeF (lo:=q.t) (n:=(q.b - q.t).toNat) (fun i xs σ H'=>(∃ y,σ=[y,some (.int n),some (.ref a)])∧Same H H'∧xs=(placesN (fun r=>upB (rcs ts) q r n) q.t i).map V.int) ⟨⟨none,rfl⟩,Same.new hacc,rfl⟩ ?_ ?_⟩
  ·rintro i xs σ H' hi' hxl hacc' ⟨⟨y,rfl⟩,s1,rfl⟩
   have pn1:=pn.same s1
   refine ⟨_,rfl,a,dx,_,rfl,pn1.ob,no_pane_at,_,rfl,_,rfl,_,_,rfl,rfl,a,dx,ls,ld,ww,hh,q.t+i,n - 1,ts,kvs,rfl,pn1,by omega,by omega,by omega,by omega,fun u1 H2 hu1 hh1 s2=>?_⟩
   have pn2:=pn1.same s2
   refine ⟨_,rfl,a,dx,_,rfl,pn2.ob,no_pane_at,_,rfl,_,rfl,a,dx,ls,ld,ww,hh,q.t+i,n,ts,kvs,rfl,pn2,by omega,by omega,by omega,by omega,fun u2 H3 hu2 hh2 s3=>?_⟩
   have pn3:=pn2.same s3
   have o1:=own_look pn hu1 hh1
   have o2:=own_look pn hu2 hh2
   have lv:upB (rcs ts) q (q.t+i) n=!decide (u1.2=u2.2):=by rw [upB_of (by omega) (by omega) n1 n2,o1,o2]
   refine ⟨rcD u1.2,rcD u2.2,rcD_is (pn3.ats u1 hu1),rcD_is (pn3.ats u2 hu2),⟨_,rfl⟩,⟨_,rfl⟩,rcD_dep' _,?_⟩
   rw [if_pos rfl,rcD_deq,← lv]
   refine ⟨_,rfl,?_⟩
   have hacc3:=s3 _ _ (s2 _ _ hacc')
   have nacc:∀ b o,H b=some o→b≠acc:=fun b o e=>ne_of_none e hacc
   have s13:=s1.trans (s2.trans s3)
   cases hb':upB (rcs ts) q (q.t+i) n with
   | false =>
    refine fSk.mk hi' hxl hacc3 ⟨⟨_,rfl⟩,s13,?_⟩
    rw [placesN,hb',if_neg Bool.false_ne_true,List.append_nil]
   | true =>
    refine ⟨_,rfl,fNx.mk (Nat.le_of_lt (small1000 (by omega))) hi' hxl hacc3 ⟨⟨_,rfl⟩,fun c o e=>?_,?_⟩⟩
    ·rw [upd_ne (nacc c o e)]; exact s13 c o e
    ·rw [placesN,hb',if_pos rfl,List.map_append]; rfl
  ·rintro xs σ H' hxl hacc' ⟨_,s1,rfl⟩
   exact k acc H' s1 hacc hacc'
theorem runStep_len (g:Int→Bool) (acc:List (Int × Int)) (p:Int):(runStep g acc p).length≤acc.length+1:=by
 unfold runStep
 split
 ·split
  ·rw [List.length_append,List.length_dropLast]; simp
  ·simp
 ·simp
theorem runsL_len (g:Int→Bool) (ps:List Int):(runsL g ps).length≤ps.length:=by
 have key:∀ (ps:List Int) (acc:List (Int × Int)),(ps.foldl (runStep g) acc).length≤acc.length+ps.length:=by
  intro ps
  induction ps with
  | nil=>intro acc; simp
  | cons p ps ih=>intro acc; have:=ih (runStep g acc p); have:=runStep_len g acc p; simp only [List.foldl_cons,List.length_cons]; omega
 have:=key ps []
 unfold runsL
 simpa using this
theorem runsN_len (f g:Int→Bool) (lo:Int) (n:Nat):(runsN f g lo n).length≤n:=Nat.le_trans (runsL_len _ _) (placesN_len _ _ _)
theorem refs2_get {ts:List (Addr × (Int × Int))} {i:Nat} {x:V} (h:(refs2 ts)[i]?=some x):∃ t,ts[i]?=some t∧x=.ref t.1:=by
 rw [List.getElem?_map] at h
 cases e:ts[i]? with
 | none=>rw [e] at h; cases h
 | some t=>rw [e] at h; exact ⟨t,rfl,(Option.some.inj h).symm⟩
theorem S_level_leads:FnScope ["panel","block","found","line","begin","end"] ["panel","block"] (defScope s_level_leads):=⟨rfl,rfl,rfl,by decide +kernel,rfl,by decide +kernel,by decide +kernel⟩
theorem ok_level_leads {f:Addr} {fd:FuncData} (F:Fun K "level_leads" "level_leads" s_level_leads f fd) (T:Txt mg tk) (TG:TxtG mg tg) (D_runs:DefOk P w K mg base 1 "runs" ["places","stops"] (sp_runs K)) (D_columns_parted:DefOk P w K mg base 2 "columns_parted" ["panel","block","line"] (sp_cols C)):FnOk P w K mg base CX0 3 f fd ["panel","block"] (sp_lvl C):=by
 have S:=S_level_leads
 refine F.ok S (fun vs H Q E h=>?_) (fun cdv A outer s H vs Q E hr h=>?_)
 ·obtain ⟨a,dx,ls,ld,b,ww,hh,ts,kvs,q,rfl,_⟩:=h; rfl
 ·obtain ⟨a,dx,ls,ld,b,ww,hh,ts,kvs,q,rfl,pn,hb,qi,k⟩:=h
  have qi':=qi
  obtain ⟨q1,q2,q3,q4,q5,q6⟩:=qi
  have gw:=pn.sw
  have gh:=pn.sh
  refine ⟨_,(pss_cons (ps_set (i:=2) S.nd rfl (Or.inl rfl) (pe_lst pa_nil))
   (pss_cons (ps_for PassesOwn.never rfl (pi_range2 rfl T.z_range (pa_cons (pe_op op_add (pe_ix ix_tup (pv 1) pe_int (fun _ _=>rfl)) pe_int) (pa_cons (pe_ix ix_tup (pv 1) pe_int (fun _ _=>rfl)) pa_nil))) (pg_name (i:=3) S.nd rfl (Or.inl rfl)) (pss_one (ps_for PassesOwn.never rfl (pi_list (pe_fn D_runs hr (pa_cons (pe_fn D_columns_parted hr (pa_cons (pv 0) (pa_cons (pv 1) (pa_cons (pv 3) pa_nil)))) (pa_cons (pe_lst pa_nil) pa_nil)))) (pg_tup rfl (pgs_cons (pg_name (i:=4) S.nd rfl (Or.inl rfl)) (pgs_cons (pg_name (i:=5) S.nd rfl (Or.inl rfl)) pgs_nil))) (pss_one (ps_expr (pe_bm PySem.F.plainAttrs_list PySem.F.slot_list_append PySem.F.type_list_append mt_append (pv 2) (pa_cons (pe_tup (pa_cons (pe_glob (v:=.str "level") rfl TG.g_LEVEL ⟨_,rfl⟩) (pa_cons (pv 3) (pa_cons (pv 4) (pa_cons (pv 5) pa_nil))))) pa_nil)))))))
   (pss_one (ps_ret (pv 2))))),?_⟩
  refine ⟨lenOk 0,fun lf hlf=>?_⟩
  have s1:=Same.new (o:=.lst []) hlf
  have e1:(upd H lf (.lst [])) lf=some (.lst []):=upd_same
  generalize upd H lf (.lst [])=H1 at s1 e1 ⊢
  refine ⟨_,rfl,b,_,_,_,rfl,rfl,SqT.of (s1 _ _ hb),at0,_,_,rfl,rfl,_,rfl,b,_,_,_,rfl,rfl,SqT.of (s1 _ _ hb),at2,q.t+1,q.b,rfl,⟨by omega,by omega,by omega,by omega⟩,for_range (lo:=q.t+1) (n:=(q.b - (q.t+1)).toNat) (fun i σ H'=>∃ (us:List (Addr × LD)) (x3 x4 x5:Option V),σ=[some (.ref a),some (.ref b),some (.ref lf),x3,x4,x5]∧Same H H'∧H' lf=some (.lst (refsL us))∧AtL H' us∧us.map (·.2)=lvN (rcs ts) q i∧us.length≤12 * i)
   ⟨[],_,_,_,rfl,s1,e1,fun u hu=>absurd hu List.not_mem_nil,rfl,Nat.le_refl _⟩ ?_ ?_⟩
  ·rintro i σ H' hi ⟨us,x3,x4,x5,rfl,s2,e2,a2,r2,n2⟩
   have hil:i < 11:=by omega
   refine ⟨_,rfl,_,rfl,_,rfl,a,dx,ls,ld,b,ww,hh,q.t+1+i,ts,kvs,q,rfl,pn.same s2,s2 _ _ hb,qi',by omega,by omega,fun lc H3 s3 hlc ec=>?_⟩
   refine ⟨lenOk 0,fun l0 hl0=>?_⟩
   have s4:=Same.new (o:=.lst []) hl0
   have e4:(upd H3 l0 (.lst [])) l0=some (.lst []):=upd_same
   have ec4:=s4 _ _ ec
   generalize upd H3 l0 (.lst [])=H4 at s4 e4 ec4 ⊢
   refine ⟨lc,l0,_,[],rfl,SqL.of ec4,SqL.of e4,by have:=placesN_len (fun c=>lvB (rcs ts) q (q.t+1+i) c) q.l (q.r - q.l).toNat; omega,fun lr rs H5 s5 hlr er ar rr=>?_⟩
   have nl:lf≠lr:=ne_of_none (s4 _ _ (s3 _ _ e2)) hlr
   have s25:=s3.trans (s4.trans s5)
   have rr':rs.map (·.2)=runsN (fun c=>lvB (rcs ts) q (q.t+1+i) c) (fun _=>false) q.l (q.r - q.l).toNat:=by
    rw [rr]; unfold runsN; congr 1
   have nr:rs.length≤12:=by
    have:=runsN_len (fun c=>lvB (rcs ts) q (q.t+1+i) c) (fun _=>false) q.l (q.r - q.l).toNat
    rw [← rr',List.length_map] at this; omega
   refine ⟨lr,rfl,⟨_,SqL.of er⟩,for_list (K:=K) (a:=lr) (xs:=refs2 rs) (fun j σ H'=>∃ (vs:List (Addr × LD)) (x4 x5:Option V),σ=[some (.ref a),some (.ref b),some (.ref lf),some (.int (q.t+1+i)),x4,x5]∧Same H H'∧H' lr=some (.lst (refs2 rs))∧At2 H' rs∧H' lf=some (.lst (refsL (us++vs)))∧AtL H' (us++vs)∧vs.map (·.2)=((rs.map (·.2)).take j).map (fun u=>(false,q.t+1+(i:Int),u.1,u.2))∧vs.length≤j)
    ⟨[],_,_,rfl,s2.trans s25,er,ar,by rw [List.append_nil]; exact s25 _ _ e2,by rw [List.append_nil]; exact a2.same s25,rfl,Nat.le_refl _⟩ (fun j σ H' _ hp=>by obtain ⟨_,_,_,_,_,h,_⟩:=hp; exact SqL.of h) ?_ ?_⟩
   ·rintro j x σ H6 hx ⟨vs,y4,y5,rfl,s6,f6,g6,e6,a6,r6,n6⟩
    obtain ⟨u,hu,rfl⟩:=refs2_get hx
    have hua:=g6 u (List.mem_of_getElem? hu)
    have hj:j < rs.length:=(List.getElem?_eq_some_iff.mp hu).1
    refine ⟨u.1,_,rfl,SqT.of hua,rfl,_,_,rfl,_,_,rfl,rfl,?_⟩
    refine ⟨_,rfl,.inl ⟨rfl,_,SqL.of e6⟩,_,rfl,_,rfl,_,rfl,lenOk 4,fun t ht=>?_⟩
    have s7:=Same.new (o:=.tup [.str "level",.int (q.t+1+i),.int u.2.1,.int u.2.2]) ht
    have e7:(upd H6 t (.tup [.str "level",.int (q.t+1+i),.int u.2.1,.int u.2.2])) t=some (.tup [.str "level",.int (q.t+1+i),.int u.2.1,.int u.2.2]):=upd_same
    have f7:=s7 _ _ e6
    have l7:=s7 _ _ f6
    have a7:=a6.same s7
    have g7:=g6.same s7
    generalize upd H6 t (.tup [.str "level",.int (q.t+1+i),.int u.2.1,.int u.2.2])=H7 at s7 e7 f7 l7 a7 g7 ⊢
    refine ⟨lf,_,_,rfl,rfl,f7,small1000 (by rw [List.length_map,List.length_append]; omega),vs++[(t,(false,q.t+1+i,u.2.1,u.2.2))],_,_,rfl,fun c o e=>?_,by rw [upd_ne (Ne.symm nl)]; exact l7,fun v hv=>by rw [upd_ne (ne_of (g7 v hv) f7 (by intro z; cases z))]; exact g7 v hv,by rw [upd_same]; simp,fun v hv=>?_,?_,by simp; omega⟩
    ·rw [upd_ne (ne_of_none e hlf)]; exact (s6.trans s7) c o e
    ·rw [← List.append_assoc] at hv
     rcases List.mem_append.mp hv with hv | hv
     ·rw [upd_ne (ne_of (a7 v hv) f7 (by intro z; cases z))]; exact a7 v hv
     ·rw [List.mem_singleton.mp hv,upd_ne (ne_of e7 f7 (by intro z; cases z))]; exact e7
    ·have:(rs.map (·.2))[j]?=some u.2:=by rw [List.getElem?_map,hu]; rfl
     rw [List.map_append,r6,List.take_succ,this,List.map_append]; rfl
   ·rintro σ H6 ⟨vs,y4,y5,rfl,s6,f6,g6,e6,a6,r6,n6⟩
    have ll:(refs2 rs).length=(rs.map (·.2)).length:=by rw [List.length_map,List.length_map]
    rw [ll,List.take_length,rr'] at r6
    refine ⟨us++vs,_,_,_,rfl,s6,e6,a6,by rw [List.map_append,r2,r6]; rfl,?_⟩
    rw [List.length_map] at n6
    rw [List.length_append]; omega
  ·rintro σ H' ⟨us,x3,x4,x5,rfl,s2,e2,a2,r2,n2⟩
   exact ⟨_,rfl,k lf us H' s2 hlf e2 a2 r2⟩
theorem refsL_get {ts:List (Addr × LD)} {i:Nat} {x:V} (h:(refsL ts)[i]?=some x):∃ t,ts[i]?=some t∧x=.ref t.1:=by
 rw [List.getElem?_map] at h
 cases e:ts[i]? with
 | none=>rw [e] at h; cases h
 | some t=>rw [e] at h; exact ⟨t,rfl,(Option.some.inj h).symm⟩
theorem lvN_len (ps:List Rc) (q:Rc) (hq:q.r - q.l≤12):∀ n,(lvN ps q n).length≤12 * n
 | 0=>Nat.le_refl _
 | n+1=>by
  have h1:=lvN_len ps q hq n
  have h2:=runsN_len (fun c=>lvB ps q (q.t+1+n) c) (fun _=>false) q.l (q.r - q.l).toNat
  show (lvN ps q n++_).length≤_
  rw [List.length_append,List.length_map]; omega
theorem S_upright_leads:FnScope ["panel","block","levels","found","line","stops","begin","end"] ["panel","block","levels"] (defScope s_upright_leads):=⟨rfl,rfl,rfl,by decide +kernel,rfl,by decide +kernel,by decide +kernel⟩
theorem ok_upright_leads {f:Addr} {fd:FuncData} (F:Fun K "upright_leads" "upright_leads" s_upright_leads f fd) (T:Txt mg tk) (TG:TxtG mg tg) (D_runs:DefOk P w K mg base 1 "runs" ["places","stops"] (sp_runs K)) (D_rows_parted:DefOk P w K mg base 2 "rows_parted" ["panel","block","line"] (sp_rows C)):FnOk P w K mg base CX0 3 f fd ["panel","block","levels"] (sp_upl C):=by
 have S:=S_upright_leads
 refine F.ok S (fun vs H Q E h=>?_) (fun cdv A outer s H vs Q E hr h=>?_)
 ·obtain ⟨a,dx,ls,ld,b,m,ww,hh,ts,kvs,q,ws,rfl,_⟩:=h; rfl
 ·obtain ⟨a,dx,ls,ld,b,m,ww,hh,ts,kvs,q,ws,rfl,pn,hb,qi,hm,am,rm,k⟩:=h
  have qi':=qi
  obtain ⟨q1,q2,q3,q4,q5,q6⟩:=qi
  have gw:=pn.sw
  have gh:=pn.sh
  have lws:ws.length≤144:=by
   have h1:=lvN_len (rcs ts) q (by omega) (q.b - (q.t+1)).toNat
   have h2:(ws.map (·.2)).length=(lvsOf (rcs ts) q).length:=by rw [rm]
   rw [List.length_map] at h2
   unfold lvsOf at h2
   omega
  refine ⟨_,(pss_cons (ps_set (i:=3) S.nd rfl (Or.inl rfl) (pe_lst pa_nil))
   (pss_cons (ps_for PassesOwn.never rfl (pi_range2 rfl T.z_range (pa_cons (pe_op op_add (pe_ix ix_tup (pv 1) pe_int (fun _ _=>rfl)) pe_int) (pa_cons (pe_ix ix_tup (pv 1) pe_int (fun _ _=>rfl)) pa_nil))) (pg_name (i:=4) S.nd rfl (Or.inr rfl)) (pss_cons (ps_setCompF rfl (pg_name (i:=5) S.nd rfl (Or.inl rfl)) (pi_list (pv 2)) (fun _ _ _ _ _=>(pg_tupK (K:=K) (n:=4) rfl (pgs_cons (pg_name (i:=0) (show List.Nodup (["word","row","left","right","line"]:List Str) from by decide +kernel) rfl (Or.inl rfl)) (pgs_cons (pg_name (i:=1) (show List.Nodup (["word","row","left","right","line"]:List Str) from by decide +kernel) rfl (Or.inl rfl)) (pgs_cons (pg_name (i:=2) (show List.Nodup (["word","row","left","right","line"]:List Str) from by decide +kernel) rfl (Or.inl rfl)) (pgs_cons (pg_name (i:=3) (show List.Nodup (["word","row","left","right","line"]:List Str) from by decide +kernel) rfl (Or.inl rfl)) pgs_nil)))))) (fun _ _ _ _ _=>(pt_chain op_lt op_lt (pv 2) (pv 4) (pv 3))) (fun _ _ _ _ _=>(pv 1)) (N:=["word","row","left","right","line"]) (fr:=[none,none,none,none,some 4]))
   (pss_one (ps_for PassesOwn.never rfl (pi_list (pe_fn D_runs hr (pa_cons (pe_fn D_rows_parted hr (pa_cons (pv 0) (pa_cons (pv 1) (pa_cons (pv 4) pa_nil)))) (pa_cons (pv 5) pa_nil)))) (pg_tup rfl (pgs_cons (pg_name (i:=6) S.nd rfl (Or.inl rfl)) (pgs_cons (pg_name (i:=7) S.nd rfl (Or.inl rfl)) pgs_nil))) (pss_one (ps_expr (pe_bm PySem.F.plainAttrs_list PySem.F.slot_list_append PySem.F.type_list_append mt_append (pv 3) (pa_cons (pe_tup (pa_cons (pe_glob (v:=.str "upright") rfl TG.g_UPRIGHT ⟨_,rfl⟩) (pa_cons (pv 4) (pa_cons (pv 6) (pa_cons (pv 7) pa_nil))))) pa_nil))))))))
   (pss_one (ps_ret (pv 3))))),?_⟩
  refine ⟨lenOk 0,fun lf hlf=>?_⟩
  have s1:=Same.new (o:=.lst []) hlf
  have e1:(upd H lf (.lst [])) lf=some (.lst []):=upd_same
  generalize upd H lf (.lst [])=H1 at s1 e1 ⊢
  refine ⟨_,rfl,b,_,_,_,rfl,rfl,SqT.of (s1 _ _ hb),at1,_,_,rfl,rfl,_,rfl,b,_,_,_,rfl,rfl,SqT.of (s1 _ _ hb),at3,q.l+1,q.r,rfl,⟨by omega,by omega,by omega,by omega⟩,for_range (lo:=q.l+1) (n:=(q.r - (q.l+1)).toNat) (fun i σ H'=>∃ (us:List (Addr × LD)) (x3 x4 x5 x6:Option V),σ=[some (.ref a),some (.ref b),some (.ref m),some (.ref lf),x3,x4,x5,x6]∧Same H H'∧H' lf=some (.lst (refsL us))∧AtL H' us∧us.map (·.2)=upN (rcs ts) q i∧us.length≤12 * i)
   ⟨[],_,_,_,_,rfl,s1,e1,fun u hu=>absurd hu List.not_mem_nil,rfl,Nat.le_refl _⟩ ?_ ?_⟩
  ·rintro i σ H' hi ⟨us,x3,x4,x5,x6,rfl,s2,e2,a2,r2,n2⟩
   have hil:i < 11:=by omega
   refine ⟨_,rfl,m,rfl,⟨_,SqL.of (s2 _ _ hm)⟩,fun acc hacc=>comp_listF (K:=K) (a:=m) (ys:=refsL ws) (fun j xs σ H2=>(∃ y0 y1 y2 y3,σ=[y0,y1,y2,y3,some (.int (q.l+1+i))])∧Same H' H2∧∃ ss:List Int,xs=ss.map V.int∧∀ x,x∈ss↔∃ d∈(ws.map (·.2)).take j,d.2.1=x∧d.2.2.1 < q.l+1+i∧q.l+1+i < d.2.2.2) ⟨⟨none,none,none,none,rfl⟩,Same.new hacc,[],rfl,fun x=>⟨fun h=>absurd h List.not_mem_nil,fun ⟨d,h,_⟩=>absurd h List.not_mem_nil⟩⟩ (fun j xs σ H2 _ _ hp=>SqL.of ((s2.trans hp.2.1) _ _ hm)) ?_ ?_⟩
   ·rintro j x xs σ H2 hx hj hxl hacc' ⟨⟨y0,y1,y2,y3,rfl⟩,s3,ss,rfl,hss⟩
    obtain ⟨u,hu,rfl⟩:=refsL_get hx
    have hua:=(am.same (s2.trans s3)) u (List.mem_of_getElem? hu)
    have hj':(ws.map (·.2))[j]?=some u.2:=by rw [List.getElem?_map,hu]; rfl
    have skip:¬ (u.2.2.2.1 < q.l+1+i∧q.l+1+i < u.2.2.2.2)→∀ x,x∈ss↔∃ d∈(ws.map (·.2)).take (j+1),d.2.1=x∧d.2.2.1 < q.l+1+i∧q.l+1+i < d.2.2.2:=fun hn x=>by
     rw [hss,List.take_succ,hj']
     constructor
     ·rintro ⟨d,h1,h2⟩; exact ⟨d,List.mem_append_left _ h1,h2⟩
     ·rintro ⟨d,h1,h2,h3⟩
      rcases List.mem_append.mp h1 with h1 | h1
      ·exact ⟨d,h1,h2,h3⟩
      ·have:d=u.2:=by simpa using h1
       subst this
       exact absurd h3 hn
    have add:(u.2.2.2.1 < q.l+1+i∧q.l+1+i < u.2.2.2.2)→∀ x,x∈ss++[u.2.2.1]↔∃ d∈(ws.map (·.2)).take (j+1),d.2.1=x∧d.2.2.1 < q.l+1+i∧q.l+1+i < d.2.2.2:=fun hy x=>by
     rw [List.mem_append,hss,List.take_succ,hj']
     constructor
     ·rintro (⟨d,h1,h2⟩ | h)
      ·exact ⟨d,List.mem_append_left _ h1,h2⟩
      ·exact ⟨u.2,List.mem_append_right _ (by simp),(List.mem_singleton.mp h).symm,hy⟩
     ·rintro ⟨d,h1,h2,h3⟩
      rcases List.mem_append.mp h1 with h1 | h1
      ·exact .inl ⟨d,h1,h2,h3⟩
      ·have:d=u.2:=by simpa using h1
       subst this
       exact .inr (List.mem_singleton.mpr h2.symm)
    have nacc:∀ b o,H' b=some o→b≠acc:=fun b o e=>ne_of_none e hacc
    refine ⟨u.1,_,rfl,SqT.of hua,rfl,_,_,rfl,_,_,rfl,_,_,rfl,_,_,rfl,rfl,?_⟩
    refine ⟨_,rfl,_,rfl,_,_,rfl,rfl,_,rfl,ite3 (fun c1=>?_) (fun c1=>?_)⟩
    ·refine ⟨_,rfl,_,_,rfl,rfl,_,rfl,?_⟩
     cases c2:decide (q.l+1+(i:Int) < u.2.2.2.2) with
     | true =>
      refine ⟨_,rfl,fNx.mk (Nat.le_of_lt (small1000 (by rw [List.length_map]; omega))) hj hxl hacc' ⟨⟨_,_,_,_,rfl⟩,fun c o e=>?_,ss++[u.2.2.1],by rw [List.map_append]; rfl,add ⟨of_decide_eq_true c1,of_decide_eq_true c2⟩⟩⟩
      rw [upd_ne (nacc c o e)]; exact s3 c o e
     | false=>exact fSk.mk hj hxl hacc' ⟨⟨_,_,_,_,rfl⟩,s3,ss,rfl,skip fun z=>of_decide_eq_false c2 z.2⟩
    ·exact ⟨_,rfl,fSk.mk hj hxl hacc' ⟨⟨_,_,_,_,rfl⟩,s3,ss,rfl,skip fun z=>of_decide_eq_false c1 z.1⟩⟩
   rintro xs σ H2 hl' hacc' ⟨_,s3,ss,rfl,hss⟩
   have ll:(refsL ws).length=(ws.map (·.2)).length:=by rw [List.length_map,List.length_map]
   rw [ll,List.take_length,rm] at hss
   have hg:(fun x=>decide (x∈ss))=fun r=>psB (rcs ts) q r (q.l+1+i):=funext fun x=>by
    rw [Bool.eq_iff_iff,decide_eq_true_eq,hss,stops_iff (by omega)]
   refine ⟨_,rfl,_,rfl,_,rfl,a,dx,ls,ld,b,ww,hh,q.l+1+i,ts,kvs,q,rfl,pn.same (s2.trans s3),(s2.trans s3) _ _ hb,qi',by omega,by omega,fun lc H3 s4 hlc ec=>?_⟩
   refine ⟨_,rfl,lc,acc,_,ss,rfl,SqL.of ec,SqL.of (s4 _ _ hacc'),by have:=placesN_len (fun r=>upB (rcs ts) q r (q.l+1+i)) q.t (q.b - q.t).toNat; omega,fun lr rs H5 s5 hlr er ar rr=>?_⟩
   have nl:lf≠lr:=ne_of_none (s4 _ _ (s3 _ _ e2)) hlr
   have s25:=s3.trans (s4.trans s5)
   have rr':rs.map (·.2)=runsN (fun r=>upB (rcs ts) q r (q.l+1+i)) (fun r=>psB (rcs ts) q r (q.l+1+i)) q.t (q.b - q.t).toNat:=by
    rw [rr,hg]; rfl
   have nr:rs.length≤12:=by
    have:=runsN_len (fun r=>upB (rcs ts) q r (q.l+1+i)) (fun r=>psB (rcs ts) q r (q.l+1+i)) q.t (q.b - q.t).toNat
    rw [← rr',List.length_map] at this; omega
   refine ⟨lr,rfl,⟨_,SqL.of er⟩,for_list (K:=K) (a:=lr) (xs:=refs2 rs) (fun j σ H'=>∃ (vs:List (Addr × LD)) (x4 x5:Option V),σ=[some (.ref a),some (.ref b),some (.ref m),some (.ref lf),some (.int (q.l+1+i)),some (.ref acc),x4,x5]∧Same H H'∧H' lr=some (.lst (refs2 rs))∧At2 H' rs∧H' lf=some (.lst (refsL (us++vs)))∧AtL H' (us++vs)∧vs.map (·.2)=((rs.map (·.2)).take j).map (fun u=>(true,q.l+1+(i:Int),u.1,u.2))∧vs.length≤j)
    ⟨[],_,_,rfl,s2.trans s25,er,ar,by rw [List.append_nil]; exact s25 _ _ e2,by rw [List.append_nil]; exact a2.same s25,rfl,Nat.le_refl _⟩ (fun j σ H' _ hp=>by obtain ⟨_,_,_,_,_,h,_⟩:=hp; exact SqL.of h) ?_ ?_⟩
   ·rintro j x σ H6 hx ⟨vs,y4,y5,rfl,s6,f6,g6,e6,a6,r6,n6⟩
    obtain ⟨u,hu,rfl⟩:=refs2_get hx
    have hua:=g6 u (List.mem_of_getElem? hu)
    have hj:j < rs.length:=(List.getElem?_eq_some_iff.mp hu).1
    refine ⟨u.1,_,rfl,SqT.of hua,rfl,_,_,rfl,_,_,rfl,rfl,?_⟩
    refine ⟨_,rfl,.inl ⟨rfl,_,SqL.of e6⟩,_,rfl,_,rfl,_,rfl,lenOk 4,fun t ht=>?_⟩
    have s7:=Same.new (o:=.tup [.str "upright",.int (q.l+1+i),.int u.2.1,.int u.2.2]) ht
    have e7:(upd H6 t (.tup [.str "upright",.int (q.l+1+i),.int u.2.1,.int u.2.2])) t=some (.tup [.str "upright",.int (q.l+1+i),.int u.2.1,.int u.2.2]):=upd_same
    have f7:=s7 _ _ e6
    have l7:=s7 _ _ f6
    have a7:=a6.same s7
    have g7:=g6.same s7
    generalize upd H6 t (.tup [.str "upright",.int (q.l+1+i),.int u.2.1,.int u.2.2])=H7 at s7 e7 f7 l7 a7 g7 ⊢
    refine ⟨lf,_,_,rfl,rfl,f7,small1000 (by rw [List.length_map,List.length_append]; omega),vs++[(t,(true,q.l+1+i,u.2.1,u.2.2))],_,_,rfl,fun c o e=>?_,by rw [upd_ne (Ne.symm nl)]; exact l7,fun v hv=>by rw [upd_ne (ne_of (g7 v hv) f7 (by intro z; cases z))]; exact g7 v hv,by rw [upd_same]; simp,fun v hv=>?_,?_,by simp; omega⟩
    ·rw [upd_ne (ne_of_none e hlf)]; exact (s6.trans s7) c o e
    ·rw [← List.append_assoc] at hv
     rcases List.mem_append.mp hv with hv | hv
     ·rw [upd_ne (ne_of (a7 v hv) f7 (by intro z; cases z))]; exact a7 v hv
     ·rw [List.mem_singleton.mp hv,upd_ne (ne_of e7 f7 (by intro z; cases z))]; exact e7
    ·have:(rs.map (·.2))[j]?=some u.2:=by rw [List.getElem?_map,hu]; rfl
     rw [List.map_append,r6,List.take_succ,this,List.map_append]; rfl
   ·rintro σ H6 ⟨vs,y4,y5,rfl,s6,f6,g6,e6,a6,r6,n6⟩
    have ll:(refs2 rs).length=(rs.map (·.2)).length:=by rw [List.length_map,List.length_map]
    rw [ll,List.take_length,rr'] at r6
    refine ⟨us++vs,_,_,_,_,rfl,s6,e6,a6,by rw [List.map_append,r2,r6]; rfl,?_⟩
    rw [List.length_map] at n6
    rw [List.length_append]; omega
  ·rintro σ H' ⟨us,x3,x4,x5,x6,rfl,s2,e2,a2,r2,n2⟩
   exact ⟨_,rfl,k lf us H' s2 hlf e2 a2 r2⟩
theorem upN_len (ps:List Rc) (q:Rc) (hq:q.b - q.t≤12):∀ n,(upN ps q n).length≤12 * n
 | 0=>Nat.le_refl _
 | n+1=>by
  have h1:=upN_len ps q hq n
  have h2:=runsN_len (fun r=>upB ps q r (q.l+1+n)) (fun r=>psB ps q r (q.l+1+n)) q.t (q.b - q.t).toNat
  show (upN ps q n++_).length≤_
  rw [List.length_append,List.length_map]; omega
theorem leads_len {w h:Int} {ps:List Rc} {q:Rc} (qi:q.In w h) (hw:w≤12) (hh:h≤12):(lvsOf ps q).length≤144∧(upsOf ps q).length≤144:=by
 obtain ⟨q1,q2,q3,q4,q5,q6⟩:=qi
 have h1:=lvN_len ps q (by omega) (q.b - (q.t+1)).toNat
 have h2:=upN_len ps q (by omega) (q.r - (q.l+1)).toNat
 unfold lvsOf upsOf
 omega
theorem S_leads:FnScope ["panel","block","levels"] ["panel","block"] (defScope s_leads):=⟨rfl,rfl,rfl,by decide +kernel,rfl,by decide +kernel,by decide +kernel⟩
theorem ok_leads {f:Addr} {fd:FuncData} (F:Fun K "leads" "leads" s_leads f fd) (D_check_block:DefOk P w K mg base 4 "check_block" ["panel","block"] (sp_chk C)) (D_level_leads:DefOk P w K mg base 3 "level_leads" ["panel","block"] (sp_lvl C)) (D_upright_leads:DefOk P w K mg base 3 "upright_leads" ["panel","block","levels"] (sp_upl C)):FnOk P w K mg base CX0 5 f fd ["panel","block"] (sp_leads C):=by
 have S:=S_leads
 refine F.ok S (fun vs H Q E h=>?_) (fun cdv A outer s H vs Q E hr h=>?_)
 ·obtain ⟨a,dx,ls,ld,b,ww,hh,ts,kvs,q,rfl,_⟩:=h; rfl
 ·obtain ⟨a,dx,ls,ld,b,ww,hh,ts,kvs,q,rfl,pn,hb,qi,hk,k⟩:=h
  have gw:=pn.sw
  have gh:=pn.sh
  obtain ⟨n1,n2⟩:=leads_len (ps:=rcs ts) qi gw.2 gh.2
  refine ⟨_,(pss_cons (ps_expr (pe_fn D_check_block hr (pa_cons (pv 0) (pa_cons (pv 1) pa_nil))))
   (pss_cons (ps_set (i:=2) S.nd rfl (Or.inl rfl) (pe_fn D_level_leads hr (pa_cons (pv 0) (pa_cons (pv 1) pa_nil))))
   (pss_one (ps_ret (pe_op op_cat (pv 2) (pe_fn D_upright_leads hr (pa_cons (pv 0) (pa_cons (pv 1) (pa_cons (pv 2) pa_nil))))))))),?_⟩
  refine ⟨_,rfl,_,rfl,a,dx,ls,ld,b,ww,hh,ts,kvs,q,rfl,pn,hb,hk,fun H1 s1=>?_⟩
  refine ⟨_,rfl,_,rfl,a,dx,ls,ld,b,ww,hh,ts,kvs,q,rfl,pn.same s1,s1 _ _ hb,qi,fun l us H2 s2 hl el al rl=>?_⟩
  have s12:=s1.trans s2
  refine ⟨_,rfl,_,rfl,_,rfl,_,rfl,a,dx,ls,ld,b,l,ww,hh,ts,kvs,q,us,rfl,pn.same s12,s12 _ _ hb,qi,el,al,rl,fun l' us' H3 s3 hl' el' al' rl'=>?_⟩
  have m1:us.length≤144:=by rw [← rl,List.length_map] at n1; exact n1
  have m2:us'.length≤144:=by rw [← rl',List.length_map] at n2; exact n2
  refine ⟨l,l',_,_,rfl,rfl,s3 _ _ el,el',Nat.le_of_lt (small1000 (by rw [List.length_map,List.length_map]; omega)),fun p hp=>?_⟩
  have s4:=Same.new (o:=.lst (refsL us++refsL us')) hp
  have s14:=s12.trans (s3.trans s4)
  have hp0:H p=none:=by
   cases e:H p with
   | none=>rfl
   | some o=>rw [(s12.trans s3) _ _ e] at hp; cases hp
  refine k p (us++us') _ s14 hp0 (by rw [upd_same]; simp) (fun u hu=>?_) (by rw [List.map_append,rl,rl'])
  rcases List.mem_append.mp hu with hu | hu
  ·exact (al.same (s3.trans s4)) u hu
  ·exact (al'.same s4) u hu
theorem S_law_points:FnScope ["_law_panes","_law_owned","_law_k","_law_row","_law_column"] ["_law_panes"] (defScope s__law_points):=⟨rfl,rfl,rfl,by decide +kernel,rfl,by decide +kernel,by decide +kernel⟩
def OwnN (ps:List Rc) (k:Nat) (kvs:List (List Key × V)):Prop:=∀ (j:Nat) (p:Rc) (r c:Int),j < k→ps[j]?=some p→p.has r c→valV kvs (sqK r c)=some (.int j)
def Own3 (ps:List Rc) (i:Nat) (u:Rc) (ro co:Int) (kvs:List (List Key × V)):Prop:=OwnN ps i kvs∧∀ r c,u.has r c→(r < ro∨(r=ro∧c < co))→valV kvs (sqK r c)=some (.int i)
theorem Own3.put {ps:List Rc} (ap:ps.Pairwise Apart) {i:Nat} {u:Rc} {ro co:Int} {kvs:List (List Key × V)} (hu:ps[i]?=some u) (hh:u.has ro co) (o:Own3 ps i u ro co kvs):Own3 ps i u ro (co+1) (putK kvs (sqK ro co) (.int i)):=by
 refine ⟨fun j p r c hj hp hr=>?_,fun r c hr h=>?_⟩
 ·rw [valV_put,if_neg]
  ·exact o.1 j p r c hj hp hr
  ·intro e
   obtain ⟨rfl,rfl⟩:=sqK_inj e
   obtain ⟨l1,e1⟩:=List.getElem?_eq_some_iff.mp hp
   obtain ⟨l2,e2⟩:=List.getElem?_eq_some_iff.mp hu
   have:=List.pairwise_iff_getElem.mp ap j i l1 l2 hj
   rw [e1,e2] at this
   exact this _ _ hr hh
 ·rw [valV_put]
  split
  ·rfl
  ·rename_i ne
   refine o.2 r c hr ?_
   rcases h with h | ⟨h1,h2⟩
   ·exact .inl h
   ·refine .inr ⟨h1,?_⟩
    have:c≠co:=fun e=>ne (by rw [h1,e])
    omega
theorem Own3.row {ps:List Rc} {i:Nat} {u:Rc} {ro co:Int} {kvs:List (List Key × V)} (hc:co=u.r) (o:Own3 ps i u ro co kvs):Own3 ps i u (ro+1) u.l kvs :=
 ⟨o.1,fun r c hr h=>o.2 r c hr (by obtain ⟨a,b,c,d⟩:=hr; omega)⟩
theorem Own3.fin {ps:List Rc} {i:Nat} {u:Rc} {ro co:Int} {kvs:List (List Key × V)} (hu:ps[i]?=some u) (hb:ro=u.b) (o:Own3 ps i u ro co kvs):OwnN ps (i+1) kvs:=fun j p r c hj hp hr=>by
 by_cases e:j=i
 ·subst e
  rw [hu] at hp
  cases hp
  exact o.2 r c hr (by obtain ⟨a,b,c,d⟩:=hr; omega)
 ·exact o.1 j p r c (by omega) hp hr
theorem Own3.start {ps:List Rc} {i:Nat} {u:Rc} {kvs:List (List Key × V)} (o:OwnN ps i kvs):Own3 ps i u u.t u.l kvs :=
 ⟨o,fun r c hr h=>by obtain ⟨a,b,c,d⟩:=hr; omega⟩
theorem ok_law_points {f:Addr} {fd:FuncData} (F:Fun K "_law_points" "_law_points" s__law_points f fd) (T:Txt mg tk):FnOk P w K mg base CX0 1 f fd ["_law_panes"] (sp_points K):=by
 have S:=S_law_points
 refine F.ok S (fun vs H Q E h=>?_) (fun cdv A outer s H vs Q E hr h=>?_)
 ·obtain ⟨l,ts,w,h,rfl,_⟩:=h; rfl
 ·obtain ⟨l,ts,ww,hh,rfl,hl,hat,til,few,gw,gh,k⟩:=h
  have hu:=hu_of hr
  have rl:(refs ts).length=ts.length:=List.length_map _
  refine ⟨_,(pss_cons (ps_set (i:=1) S.nd rfl (Or.inl rfl) pe_dnewT)
   (pss_cons (ps_for PassesOwn.never rfl (pi_range1 rfl T.z_range (pa_cons (pe_callB call_len_seq rfl T.z_len rfl (pa_cons (pv 0) pa_nil)) pa_nil)) (pg_name (i:=2) S.nd rfl (Or.inl rfl)) (pss_one (ps_for PassesOwn.never rfl (pi_range2 rfl T.z_range (pa_cons (pe_ix ix_tup (pe_ix ix_list (pv 0) (pv 2) (fun _ _=>rfl)) pe_int (fun _ _=>rfl)) (pa_cons (pe_ix ix_tup (pe_ix ix_list (pv 0) (pv 2) (fun _ _=>rfl)) pe_int (fun _ _=>rfl)) pa_nil))) (pg_name (i:=3) S.nd rfl (Or.inl rfl)) (pss_one (ps_for PassesOwn.never rfl (pi_range2 rfl T.z_range (pa_cons (pe_ix ix_tup (pe_ix ix_list (pv 0) (pv 2) (fun _ _=>rfl)) pe_int (fun _ _=>rfl)) (pa_cons (pe_ix ix_tup (pe_ix ix_list (pv 0) (pv 2) (fun _ _=>rfl)) pe_int (fun _ _=>rfl)) pa_nil))) (pg_name (i:=4) S.nd rfl (Or.inl rfl)) (pss_one (ps_dput hu (pv 1) (pe_tup (pa_cons (pv 3) (pa_cons (pv 4) pa_nil))) (pv 2) rfl)))))))
   (pss_one (ps_ret (pv 1))))),?_⟩
  intro d hd
  have s1:=Same.new (o:=.dT []) hd
  have e1:(upd H d (.dT [])) d=some (.dT []):=upd_same
  generalize upd H d (.dT [])=H1 at s1 e1 ⊢
  refine ⟨_,rfl,l,_,rfl,.inl (s1.seq hl),((refs ts).length:Int),rfl,by omega,by omega,for_range (lo:=0) (n:=((refs ts).length:Int).toNat) (fun i σ H'=>∃ (kvs:List (List Key × V)) (x2 x3 x4:Option V),σ=[some (.ref l),some (.ref d),x2,x3,x4]∧Same H H'∧H' d=some (.dT kvs)∧kvs.length≤144 * i∧OwnN (rcs ts) i kvs)
   ⟨[],_,_,_,rfl,s1,e1,Nat.le_refl _,fun j p r c hj=>by omega⟩ ?_ ?_⟩
  ·rintro i σ H' hi ⟨kvs,x2,x3,x4,rfl,s2,e2,n2,o2⟩
   rw [Int.zero_add]
   have hi':i < ts.length:=by omega
   have hu':ts[i]?=some ts[i]:=List.getElem?_eq_getElem hi'
   generalize ts[i]=u at hu'
   have hum:=List.mem_of_getElem? hu'
   have hur:(rcs ts)[i]?=some u.2:=by rw [List.getElem?_map,hu']; rfl
   have gu:atI (refs ts) (i:Int)=some (.ref u.1):=atI_nat (by rw [List.getElem?_map,hu']; rfl)
   obtain ⟨b1,b2,b3,b4,b5,b6⟩:=til.ins u.2 (List.mem_map.mpr ⟨u,hum,rfl⟩)
   refine ⟨_,rfl,_,rfl,l,_,_,_,rfl,rfl,s2.seq hl,gu,u.1,_,_,_,rfl,rfl,SqT.of (s2 _ _ (hat u hum)),at0,_,rfl,_,rfl,l,_,_,_,rfl,rfl,s2.seq hl,gu,u.1,_,_,_,rfl,rfl,SqT.of (s2 _ _ (hat u hum)),at2,u.2.t,u.2.b,rfl,⟨by omega,by omega,by omega,by omega⟩,for_range (lo:=u.2.t) (n:=(u.2.b - u.2.t).toNat) (fun ro σ H'=>∃ (kvs:List (List Key × V)) (x3 x4:Option V),σ=[some (.ref l),some (.ref d),some (.int i),x3,x4]∧Same H H'∧H' d=some (.dT kvs)∧kvs.length≤144 * i+12 * ro∧Own3 (rcs ts) i u.2 (u.2.t+ro) u.2.l kvs)
    ⟨kvs,_,_,rfl,s2,e2,n2,by rw [show u.2.t+((0:Nat):Int)=u.2.t by omega]; exact Own3.start o2⟩ ?_ ?_⟩
   ·rintro ro σ H3 hro ⟨kvs,x3,x4,rfl,s3,e3,n3,o3⟩
    refine ⟨_,rfl,_,rfl,l,_,_,_,rfl,rfl,s3.seq hl,gu,u.1,_,_,_,rfl,rfl,SqT.of (s3 _ _ (hat u hum)),at1,_,rfl,_,rfl,l,_,_,_,rfl,rfl,s3.seq hl,gu,u.1,_,_,_,rfl,rfl,SqT.of (s3 _ _ (hat u hum)),at3,u.2.l,u.2.r,rfl,⟨by omega,by omega,by omega,by omega⟩,for_range (lo:=u.2.l) (n:=(u.2.r - u.2.l).toNat) (fun co σ H'=>∃ (kvs:List (List Key × V)) (x4:Option V),σ=[some (.ref l),some (.ref d),some (.int i),some (.int (u.2.t+ro)),x4]∧Same H H'∧H' d=some (.dT kvs)∧kvs.length≤144 * i+12 * ro+co∧Own3 (rcs ts) i u.2 (u.2.t+ro) (u.2.l+co) kvs)
     ⟨kvs,_,rfl,s3,e3,n3,by rw [show u.2.l+((0:Nat):Int)=u.2.l by omega]; exact o3⟩ ?_ ?_⟩
    ·rintro co σ H4 hco ⟨kvs,x4,rfl,s4,e4,n4,o4⟩
     refine ⟨_,rfl,_,rfl,_,rfl,_,rfl,lenOk 2,fun t ht=>?_⟩
     have s5:=Same.new (o:=.tup [.int (u.2.t+ro),.int (u.2.l+co)]) ht
     have e5:(upd H4 t (.tup [.int (u.2.t+ro),.int (u.2.l+co)])) t=some (.tup [.int (u.2.t+ro),.int (u.2.l+co)]):=upd_same
     have f5:=s5 _ _ e4
     generalize upd H4 t (.tup [.int (u.2.t+ro),.int (u.2.l+co)])=H5 at s5 e5 f5 ⊢
     refine ⟨d,_,rfl,DPut.t (k:=sqK (u.2.t+ro) (u.2.l+co)) f5 e5 (Nat.lt_of_le_of_lt (m:=20000) (by omega) (by rw [sizeLine_eq]; decide)),_,_,rfl,fun c o e=>?_,upd_same,?_,?_⟩
     ·rw [upd_ne (ne_of_none e hd)]; exact (s4.trans s5) c o e
     ·have:=length_putK kvs (sqK (u.2.t+ro) (u.2.l+co)) (V.int i); omega
     ·rw [show u.2.l+((co+1:Nat):Int)=u.2.l+co+1 by omega]
      exact Own3.put til.dis hur ⟨by omega,by omega,by omega,by omega⟩ o4
    ·rintro σ H4 ⟨kvs,x4,rfl,s4,e4,n4,o4⟩
     refine ⟨kvs,_,_,rfl,s4,e4,by omega,?_⟩
     rw [show u.2.t+((ro+1:Nat):Int)=u.2.t+ro+1 by omega]
     exact Own3.row (by omega) o4
   ·rintro σ H3 ⟨kvs,x3,x4,rfl,s3,e3,n3,o3⟩
    exact ⟨kvs,_,_,_,rfl,s3,e3,by omega,Own3.fin hur (by omega) o3⟩
  ·rintro σ H' ⟨kvs,x2,x3,x4,rfl,s2,e2,n2,o2⟩
   refine ⟨_,rfl,k d kvs H' s2 hd e2 fun r c h1 h2 h3 h4=>?_⟩
   obtain ⟨p,hp,hpr⟩:=til.cov r c h1 h2 h3 h4
   obtain ⟨j,hj,e⟩:=List.getElem_of_mem hp
   have hj':(rcs ts)[j]?=some p:=by rw [List.getElem?_eq_getElem hj,e]
   refine ⟨j,p,hj',hpr,o2 j p r c ?_ hj' hpr⟩
   rw [List.length_map] at hj
   omega
theorem own_cmp {w h:Int} {ps:List Rc} {kvs:List (List Key × V)} (O:OwnD w h ps kvs) (til:Tiles w h ps) {r c r' c':Int} (h1:0≤r) (h2:r < h) (h3:0≤c) (h4:c < w) (h1':0≤r') (h2':r' < h) (h3':0≤c') (h4':c' < w) :
  ∃ k1 k2:Int,valV kvs (sqK r c)=some (.int k1)∧valV kvs (sqK r' c')=some (.int k2)∧(!decide (V.int k1=V.int k2))=!decide (own ps r c=own ps r' c'):=by
 obtain ⟨k1,p1,a1,b1,c1⟩:=O r c h1 h2 h3 h4
 obtain ⟨k2,p2,a2,b2,c2⟩:=O r' c' h1' h2' h3' h4'
 refine ⟨k1,k2,c1,c2,?_⟩
 rw [own_eq til.dis (List.mem_of_getElem? a1) b1,own_eq til.dis (List.mem_of_getElem? a2) b2]
 have:(V.int (k1:Int)=V.int (k2:Int))↔p1=p2:=by
  constructor
  ·intro e
   injection e with e
   have e':k1=k2:=by omega
   subst e'
   rw [a1] at a2
   exact Option.some.inj a2
  ·intro e
   subst e
   obtain ⟨l1,e1⟩:=List.getElem?_eq_some_iff.mp a1
   obtain ⟨l2,e2⟩:=List.getElem?_eq_some_iff.mp a2
   have pw:=List.pairwise_iff_getElem.mp til.dis
   rcases Nat.lt_trichotomy k1 k2 with h | h | h
   ·have:=pw k1 k2 l1 l2 h
    rw [e1,e2] at this
    exact (this _ _ b1 b1).elim
   ·rw [h]
   ·have:=pw k2 k1 l2 l1 h
    rw [e1,e2] at this
    exact (this _ _ b1 b1).elim
 rw [decide_eq_decide.mpr this]
theorem sqD_no {xs:List (Int × Int)} {r c:Int} (h:(r,c) ∉ xs):valV (sqD xs) (sqK r c)=none:=by
 cases e:valV (sqD xs) (sqK r c) with
 | none=>rfl
 | some v =>
  have:=valV_in e
  unfold sqD at this
  rw [List.map_map] at this
  obtain ⟨s,hs,e⟩:=List.mem_map.mp this
  obtain ⟨e1,e2⟩:=sqK_inj e
  exact absurd (by rw [← e1,← e2]; exact hs) h
theorem sqD_yes {xs:List (Int × Int)} {r c:Int} (h:(r,c)∈xs):∃ v,valV (sqD xs) (sqK r c)=some v:=by
 cases e:valV (sqD xs) (sqK r c) with
 | some v=>exact ⟨v,rfl⟩
 | none =>
  have:=valV_not e
  unfold sqD at this
  rw [List.map_map] at this
  exact absurd (List.mem_map.mpr ⟨(r,c),h,rfl⟩) this
theorem sqD_put {xs:List (Int × Int)} {r c:Int} (h:(r,c) ∉ xs):putK (sqD xs) (sqK r c) (.bl true)=sqD (xs++[(r,c)]):=by
 rw [putK_new _ (sqD_no h)]; unfold sqD; rw [List.map_append]; rfl
structure Bit (f:Int→Int→Bool) (ro co:Int) (xs:List (Int × Int)):Prop where
 nd:xs.Nodup
 mem:∀ s,s∈xs↔f s.1 s.2=true∧(s.1 < ro∨(s.1=ro∧s.2 < co))
theorem Bit.skip {f:Int→Int→Bool} {ro co:Int} {xs:List (Int × Int)} (b:Bit f ro co xs) (h:f ro co=false):Bit f ro (co+1) xs :=
 ⟨b.nd,fun s=>by
  rw [b.mem]
  constructor
  ·rintro ⟨a,c⟩; exact ⟨a,by omega⟩
  ·rintro ⟨a,c⟩
   refine ⟨a,?_⟩
   rcases c with c | ⟨c1,c2⟩
   ·exact .inl c
   ·refine .inr ⟨c1,?_⟩
    have:s.2≠co:=fun e=>by rw [c1,e,h] at a; cases a
    omega⟩
theorem Bit.new {f:Int→Int→Bool} {ro co:Int} {xs:List (Int × Int)} (b:Bit f ro co xs):(ro,co) ∉ xs:=fun h=>by
 have:=((b.mem _).mp h).2
 simp at this
theorem Bit.add {f:Int→Int→Bool} {ro co:Int} {xs:List (Int × Int)} (b:Bit f ro co xs) (h:f ro co=true):Bit f ro (co+1) (xs++[(ro,co)]) :=
 ⟨List.nodup_append.mpr ⟨b.nd,List.pairwise_singleton _ _,fun x hx y hy e=>by rw [List.mem_singleton.mp hy] at e; rw [e] at hx; exact b.new hx⟩,fun s=>by
  rw [List.mem_append,b.mem,List.mem_singleton]
  constructor
  ·rintro (⟨a,c⟩ | rfl)
   ·exact ⟨a,by omega⟩
   ·exact ⟨h,.inr ⟨rfl,by show co < co+1; omega⟩⟩
  ·rintro ⟨a,c⟩
   rcases c with c | ⟨c1,c2⟩
   ·exact .inl ⟨a,.inl c⟩
   ·by_cases e:s.2=co
    ·exact .inr (Prod.ext c1 e)
    ·exact .inl ⟨a,.inr ⟨c1,by omega⟩⟩⟩
theorem Bit.row {f:Int→Int→Bool} {ro co lo:Int} {xs:List (Int × Int)} (b:Bit f ro co xs) (h1:∀ r c,f r c=true→c < co) (h2:∀ r c,f r c=true→lo≤c):Bit f (ro+1) lo xs :=
 ⟨b.nd,fun s=>by
  rw [b.mem]
  constructor
  ·rintro ⟨a,c⟩; exact ⟨a,.inl (by omega)⟩
  ·rintro ⟨a,c⟩
   have:=h1 _ _ a
   have:=h2 _ _ a
   exact ⟨a,by omega⟩⟩
abbrev N_bits:List Str:=["_law_owned","_law_block","_law_top","_law_left","_law_bottom","_law_right_here","_law_level","_law_upright","_law_row","_law_column"]
theorem S_law_bits:FnScope N_bits ["_law_owned","_law_block"] (defScope s__law_bits):=⟨rfl,rfl,rfl,by decide +kernel,rfl,by decide +kernel,by decide +kernel⟩
theorem ok_law_bits {f:Addr} {fd:FuncData} (F:Fun K "_law_bits" "_law_bits" s__law_bits f fd) (T:Txt mg tk):FnOk P w K mg base CX0 1 f fd ["_law_owned","_law_block"] sp_bits:=by
 have S:=S_law_bits
 refine F.ok S (fun vs H Q E h=>?_) (fun cdv A outer s H vs Q E hr h=>?_)
 ·obtain ⟨d,b,w,h,ps,kvs,q,rfl,_⟩:=h; rfl
 ·obtain ⟨d,b,ww,hh,ps,kvs,q,rfl,hd,O,til,hb,⟨q1,q2,q3,q4,q5,q6⟩,gw,gh,k⟩:=h
  have hu:=hu_of hr
  obtain ⟨t2,hb2,fin2⟩:∃ rd,PSs (cxOf CX0 P w K mg base N_bits "_law_bits" (defScope s__law_bits) f cdv A outer s H E).nox ((forBody (nth (forBody (nth (defBody s__law_bits) 3)) 0)).drop 1) rd ∧
    ∀ (D:Ends) (d1 d2:Addr) (ys:List (Int × Int)) (ro co:Int) (H3:Hp),H3 d=some (.dT kvs)→H3 d2=some (.dT (sqD ys))→Bit (upB ps q) ro co ys→q.t≤ro→ro < q.b→q.l≤co→co < q.r→ys.length≤1000 →
     (∀ (ys':List (Int × Int)) (H5:Hp),SameX d2 H3 H5→H5 d2=some (.dT (sqD ys'))→Bit (upB ps q) ro (co+1) ys'→ys'.length≤ys.length+1→D.nx [some (.ref d),some (.ref b),some (.int q.t),some (.int q.l),some (.int q.b),some (.int q.r),some (.ref d1),some (.ref d2),some (.int ro),some (.int co)] H5) →
     rd D [some (.ref d),some (.ref b),some (.int q.t),some (.int q.l),some (.int q.b),some (.int q.r),some (.ref d1),some (.ref d2),some (.int ro),some (.int co)] H3:=by
   refine ⟨_,(pss_one (ps_if (PW.pt (pw_and (pt_cmpR op_gt (pv 9) (pv 3) (nomark _)) (pw_and1 (pt_cmpR op_ne (pe_dget hu (pv 0) (pe_tup (pa_cons (pv 8) (pa_cons (pe_op op_sub (pv 9) pe_int) pa_nil))) (fun _ _=>rfl)) (pe_dget hu (pv 0) (pe_tup (pa_cons (pv 8) (pa_cons (pv 9) pa_nil))) (fun _ _=>rfl)) (nomark _))))) (pss_one (ps_dput hu (pv 7) (pe_tup (pa_cons (pv 8) (pa_cons (pv 9) pa_nil))) pe_bl rfl)) pss_nil)),?_⟩
   intro D d1 d2 ys ro co H3 e0 e2 bt a1 a2 a3 a4 few nx
   refine ⟨_,rfl,_,rfl,_,_,rfl,rfl,_,rfl,ite3 (fun c1=>?_) (fun c1=>?_)⟩
   ·have c1:co > q.l:=of_decide_eq_true c1
    obtain ⟨k1,k2,v1,v2,v3⟩:=own_cmp O til (r:=ro) (c:=co - 1) (r':=ro) (c':=co) (by omega) (by omega) (by omega) (by omega) (by omega) (by omega) (by omega) (by omega)
    have uv:upB ps q ro co=!decide (V.int k1=V.int k2):=by rw [upB_of a1 a2 (by omega) a4,v3]
    refine ⟨_,rfl,_,rfl,_,rfl,_,_,rfl,rfl,lenOk 2,fun t1 ht1=>?_⟩
    have s4:=Same.new (o:=.tup [.int ro,.int (co - 1)]) ht1
    have dg:=DGet.t (H:=upd H3 t1 (.tup [.int ro,.int (co - 1)])) (b:=t1) (k:=sqK ro (co - 1)) (s4 _ _ e0) upd_same
    generalize upd H3 t1 (.tup [.int ro,.int (co - 1)])=H4 at s4 dg ⊢
    rw [v1] at dg
    refine ⟨d,_,rfl,dg,_,rfl,_,rfl,_,rfl,lenOk 2,fun t2 ht2=>?_⟩
    have s5:=Same.new (o:=.tup [.int ro,.int co]) ht2
    have dg2:=DGet.t (H:=upd H4 t2 (.tup [.int ro,.int co])) (b:=t2) (k:=sqK ro co) (s5 _ _ (s4 _ _ e0)) upd_same
    generalize upd H4 t2 (.tup [.int ro,.int co])=H5 at s5 dg2 ⊢
    rw [v2] at dg2
    refine ⟨d,_,rfl,dg2,rfl,_,rfl,?_⟩
    rw [← uv]
    have s35:=s4.trans s5
    cases c2:upB ps q ro co with
    | true =>
     refine iteP rfl ⟨_,rfl,_,rfl,_,rfl,lenOk 2,fun t3 ht3=>?_⟩
     have s6:=Same.new (o:=.tup [.int ro,.int co]) ht3
     have e6:(upd H5 t3 (.tup [.int ro,.int co])) t3=some (.tup [.int ro,.int co]):=upd_same
     have f6:=s6 _ _ (s35 _ _ e2)
     generalize upd H5 t3 (.tup [.int ro,.int co])=H6 at s6 e6 f6 ⊢
     have n6:(sqD ys).length=ys.length:=List.length_map _
     refine ⟨d2,_,rfl,DPut.t (k:=sqK ro co) f6 e6 (Nat.lt_of_le_of_lt (m:=2000) (by omega) (by rw [sizeLine_eq]; decide)),nx (ys++[(ro,co)]) _ (SameX.trans (SameX.of (s35.trans s6)) SameX.upd) (by rw [upd_same,sqD_put bt.new]) (bt.add c2) (by simp)⟩
    | false=>exact iteN rfl (nx ys H5 (SameX.of s35) (s35 _ _ e2) (bt.skip c2) (by omega))
   ·have c1:¬ co > q.l:=of_decide_eq_false c1
    have c2:upB ps q ro co=false:=by
     cases e:upB ps q ro co with
     | false=>rfl
     | true=>have:=upB_in e; omega
    exact nx ys H3 SameX.refl e2 (bt.skip c2) (by omega)
  refine ⟨_,(pss_cons (ps_asg (pv 1) (pg_tup rfl (pgs_cons (pg_name (i:=2) S.nd rfl (Or.inl rfl)) (pgs_cons (pg_name (i:=3) S.nd rfl (Or.inl rfl)) (pgs_cons (pg_name (i:=4) S.nd rfl (Or.inl rfl)) (pgs_cons (pg_name (i:=5) S.nd rfl (Or.inl rfl)) pgs_nil))))))
   (pss_cons (ps_set (i:=6) S.nd rfl (Or.inl rfl) pe_dnewT)
   (pss_cons (ps_set (i:=7) S.nd rfl (Or.inl rfl) pe_dnewT)
   (pss_cons (ps_for PassesOwn.never rfl (pi_range2 rfl T.z_range (pa_cons (pv 2) (pa_cons (pv 4) pa_nil))) (pg_name (i:=8) S.nd rfl (Or.inl rfl)) (pss_one (ps_for PassesOwn.never rfl (pi_range2 rfl T.z_range (pa_cons (pv 3) (pa_cons (pv 5) pa_nil))) (pg_name (i:=9) S.nd rfl (Or.inl rfl)) (pss_cons (ps_if (PW.pt (pw_and (pt_cmpR op_gt (pv 8) (pv 2) (nomark _)) (pw_and1 (pt_cmpR op_ne (pe_dget hu (pv 0) (pe_tup (pa_cons (pe_op op_sub (pv 8) pe_int) (pa_cons (pv 9) pa_nil))) (fun _ _=>rfl)) (pe_dget hu (pv 0) (pe_tup (pa_cons (pv 8) (pa_cons (pv 9) pa_nil))) (fun _ _=>rfl)) (nomark _))))) (pss_one (ps_dput hu (pv 6) (pe_tup (pa_cons (pv 8) (pa_cons (pv 9) pa_nil))) pe_bl rfl)) pss_nil)
   hb2))))
   (pss_one (ps_ret (pe_tup (pa_cons (pv 6) (pa_cons (pv 7) pa_nil))))))))),?_⟩
  refine ⟨_,rfl,b,_,rfl,SqT.of hb,rfl,_,_,rfl,_,_,rfl,_,_,rfl,_,_,rfl,rfl,?_⟩
  intro d1 hd1
  have s1:=Same.new (o:=.dT []) hd1
  have e1:(upd H d1 (.dT [])) d1=some (.dT []):=upd_same
  generalize upd H d1 (.dT [])=H1 at s1 e1 ⊢
  intro d2 hd2
  have s2:=Same.new (o:=.dT []) hd2
  have e2:(upd H1 d2 (.dT [])) d2=some (.dT []):=upd_same
  have n12:d1≠d2:=ne_of_none e1 hd2
  have e1':=s2 _ _ e1
  have hd2':H d2=none:=by
   cases e:H d2 with
   | none=>rfl
   | some o=>rw [s1 _ _ e] at hd2; cases hd2
  generalize upd H1 d2 (.dT [])=H2 at s2 e2 e1' ⊢
  have nil:∀ g:Int→Int→Bool,(∀ r c,g r c=true→q.t≤r∧q.l≤c)→Bit g q.t q.l []:=fun g hg=>⟨List.Pairwise.nil,fun s=>⟨fun h=>absurd h List.not_mem_nil,fun ⟨a,c⟩=>by have:=hg _ _ a; omega⟩⟩
  refine ⟨_,rfl,_,rfl,q.t,q.b,rfl,⟨by omega,by omega,by omega,by omega⟩,for_range (lo:=q.t) (n:=(q.b - q.t).toNat) (fun i σ H'=>∃ (xs ys:List (Int × Int)) (x8 x9:Option V),σ=[some (.ref d),some (.ref b),some (.int q.t),some (.int q.l),some (.int q.b),some (.int q.r),some (.ref d1),some (.ref d2),x8,x9]∧Same H H'∧H' d1=some (.dT (sqD xs))∧H' d2=some (.dT (sqD ys))∧Bit (lvB ps q) (q.t+i) q.l xs∧Bit (upB ps q) (q.t+i) q.l ys∧xs.length≤12 * i∧ys.length≤12 * i)
   ⟨[],[],_,_,rfl,s1.trans s2,e1',e2,by rw [show q.t+((0:Nat):Int)=q.t by omega]; exact nil _ fun r c h=>by have:=lvB_in h; omega,by rw [show q.t+((0:Nat):Int)=q.t by omega]; exact nil _ fun r c h=>by have:=upB_in h; omega,Nat.le_refl _,Nat.le_refl _⟩ ?_ ?_⟩
  ·rintro i σ H3 hi ⟨xs,ys,x8,x9,rfl,s3,f1,f2,bx,by',nx,ny⟩
   refine ⟨_,rfl,_,rfl,q.l,q.r,rfl,⟨by omega,by omega,by omega,by omega⟩,for_range (lo:=q.l) (n:=(q.r - q.l).toNat) (fun j σ H'=>∃ (xs ys:List (Int × Int)) (x9:Option V),σ=[some (.ref d),some (.ref b),some (.int q.t),some (.int q.l),some (.int q.b),some (.int q.r),some (.ref d1),some (.ref d2),some (.int (q.t+i)),x9]∧Same H H'∧H' d1=some (.dT (sqD xs))∧H' d2=some (.dT (sqD ys))∧Bit (lvB ps q) (q.t+i) (q.l+j) xs∧Bit (upB ps q) (q.t+i) (q.l+j) ys∧xs.length≤12 * i+j∧ys.length≤12 * i+j)
    ⟨xs,ys,_,rfl,s3,f1,f2,by rw [show q.l+((0:Nat):Int)=q.l by omega]; exact bx,by rw [show q.l+((0:Nat):Int)=q.l by omega]; exact by',nx,ny⟩ ?_ ?_⟩
   ·rintro j σ H4 hj ⟨xs,ys,x9,rfl,s4,g1,g2,bx,by',nx,ny⟩
    have ej:q.l+((j+1:Nat):Int)=q.l+j+1:=by omega
    have go:∀ (xs':List (Int × Int)) (H5:Hp),SameX d1 H4 H5→H5 d1=some (.dT (sqD xs'))→Bit (lvB ps q) (q.t+i) (q.l+j+1) xs'→xs'.length≤xs.length+1→∀ D:Ends,(D.nx=fun σ H'=>∃ (xs ys:List (Int × Int)) (x9:Option V),σ=[some (.ref d),some (.ref b),some (.int q.t),some (.int q.l),some (.int q.b),some (.int q.r),some (.ref d1),some (.ref d2),some (.int (q.t+i)),x9]∧Same H H'∧H' d1=some (.dT (sqD xs))∧H' d2=some (.dT (sqD ys))∧Bit (lvB ps q) (q.t+i) (q.l+((j+1:Nat):Int)) xs∧Bit (upB ps q) (q.t+i) (q.l+((j+1:Nat):Int)) ys∧xs.length≤12 * i+(j+1)∧ys.length≤12 * i+(j+1)) →
      t2 D [some (.ref d),some (.ref b),some (.int q.t),some (.int q.l),some (.int q.b),some (.int q.r),some (.ref d1),some (.ref d2),some (.int (q.t+i)),some (.int (q.l+j))] H5:=fun xs' H5 sx h1 bx' nx' D hD=>by
     have s5:Same H H5:=SameX.drop s4 hd1 sx
     refine fin2 D d1 d2 ys (q.t+i) (q.l+j) H5 (s5 _ _ hd) (sx _ _ (Ne.symm n12) g2) by' (by omega) (by omega) (by omega) (by omega) (by omega) fun ys' H6 sy h2 by'' ny'=>?_
     rw [hD]
     exact ⟨xs',ys',_,rfl,SameX.drop s5 hd2' sy,sy _ _ n12 h1,h2,by rw [ej]; exact bx',by rw [ej]; exact by'',by omega,by omega⟩
    refine ⟨_,rfl,_,rfl,_,_,rfl,rfl,_,rfl,ite3 (fun c1=>?_) (fun c1=>?_)⟩
    ·have c1:q.t+(i:Int) > q.t:=of_decide_eq_true c1
     obtain ⟨k1,k2,v1,v2,v3⟩:=own_cmp O til (r:=q.t+i - 1) (c:=q.l+j) (r':=q.t+i) (c':=q.l+j) (by omega) (by omega) (by omega) (by omega) (by omega) (by omega) (by omega) (by omega)
     have uv:lvB ps q (q.t+i) (q.l+j)=!decide (V.int k1=V.int k2):=by rw [lvB_of (by omega) (by omega) (by omega) (by omega),v3]
     have e0:=s4 _ _ hd
     refine ⟨_,rfl,_,rfl,_,_,rfl,rfl,_,rfl,lenOk 2,fun t1 ht1=>?_⟩
     have s5:=Same.new (o:=.tup [.int (q.t+i - 1),.int (q.l+j)]) ht1
     have dg:=DGet.t (H:=upd H4 t1 (.tup [.int (q.t+i - 1),.int (q.l+j)])) (b:=t1) (k:=sqK (q.t+i - 1) (q.l+j)) (s5 _ _ e0) upd_same
     generalize upd H4 t1 (.tup [.int (q.t+i - 1),.int (q.l+j)])=H5 at s5 dg ⊢
     rw [v1] at dg
     refine ⟨d,_,rfl,dg,_,rfl,_,rfl,_,rfl,lenOk 2,fun t3 ht3=>?_⟩
     have s6:=Same.new (o:=.tup [.int (q.t+i),.int (q.l+j)]) ht3
     have dg2:=DGet.t (H:=upd H5 t3 (.tup [.int (q.t+i),.int (q.l+j)])) (b:=t3) (k:=sqK (q.t+i) (q.l+j)) (s6 _ _ (s5 _ _ e0)) upd_same
     generalize upd H5 t3 (.tup [.int (q.t+i),.int (q.l+j)])=H6 at s6 dg2 ⊢
     rw [v2] at dg2
     refine ⟨d,_,rfl,dg2,rfl,_,rfl,?_⟩
     rw [← uv]
     have s46:=s5.trans s6
     cases c2:lvB ps q (q.t+i) (q.l+j) with
     | true =>
      refine iteP rfl ⟨_,rfl,_,rfl,_,rfl,lenOk 2,fun t4 ht4=>?_⟩
      have s7:=Same.new (o:=.tup [.int (q.t+i),.int (q.l+j)]) ht4
      have e7:(upd H6 t4 (.tup [.int (q.t+i),.int (q.l+j)])) t4=some (.tup [.int (q.t+i),.int (q.l+j)]):=upd_same
      have f7:=s7 _ _ (s46 _ _ g1)
      generalize upd H6 t4 (.tup [.int (q.t+i),.int (q.l+j)])=H7 at s7 e7 f7 ⊢
      have n7:(sqD xs).length=xs.length:=List.length_map _
      exact ⟨d1,_,rfl,DPut.t (k:=sqK (q.t+i) (q.l+j)) f7 e7 (Nat.lt_of_le_of_lt (m:=2000) (by omega) (by rw [sizeLine_eq]; decide)),go (xs++[(q.t+i,q.l+j)]) _ (SameX.trans (SameX.of (s46.trans s7)) SameX.upd) (by rw [upd_same,sqD_put bx.new]) (bx.add c2) (by simp) _ rfl⟩
     | false=>exact iteN rfl (go xs H6 (SameX.of s46) (s46 _ _ g1) (bx.skip c2) (by omega) _ rfl)
    ·have c1:¬ q.t+(i:Int) > q.t:=of_decide_eq_false c1
     have c2:lvB ps q (q.t+i) (q.l+j)=false:=by
      cases e:lvB ps q (q.t+i) (q.l+j) with
      | false=>rfl
      | true=>have:=lvB_in e; omega
     exact go xs H4 SameX.refl g1 (bx.skip c2) (by omega) _ rfl
   ·rintro σ H4 ⟨xs,ys,x9,rfl,s4,g1,g2,bx,by',nx,ny⟩
    have ei:q.t+((i+1:Nat):Int)=q.t+i+1:=by omega
    exact ⟨xs,ys,_,_,rfl,s4,g1,g2,by rw [ei]; exact bx.row (fun r c h=>by have:=lvB_in h; omega) (fun r c h=>by have:=lvB_in h; omega),by rw [ei]; exact by'.row (fun r c h=>by have:=upB_in h; omega) (fun r c h=>by have:=upB_in h; omega),by omega,by omega⟩
  ·rintro σ H3 ⟨xs,ys,x8,x9,rfl,s3,f1,f2,bx,by',nx,ny⟩
   refine ⟨_,rfl,_,rfl,lenOk 2,fun t ht=>?_⟩
   have s4:=Same.new (o:=.tup [.ref d1,.ref d2]) ht
   refine k t d1 d2 xs ys _ (s3.trans s4) hd1 hd2' n12 upd_same (s4 _ _ f1) (s4 _ _ f2) bx.nd by'.nd (fun s=>?_) (fun s=>?_) (by omega) (by omega)
   ·rw [bx.mem]
    exact ⟨fun h=>h.1,fun h=>⟨h,.inl (by have:=lvB_in h; omega)⟩⟩
   ·rw [by'.mem]
    exact ⟨fun h=>h.1,fun h=>⟨h,.inl (by have:=upB_in h; omega)⟩⟩
def MonoT (c:TT):Prop:=∀ σ H Q Q',(∀ b H1,Q b H1→Q' b H1)→c σ H Q→c σ H Q'
theorem mono_and {t u:TT} (h1:MonoT t) (h2:MonoT u):MonoT (tAnd t u):=fun σ H Q Q' hq h=>h1 σ H _ _ (fun b H1 hb=>by
 cases b with
 | true=>rw [if_pos rfl] at hb ⊢; exact h2 σ H1 _ _ hq hb
 | false=>rw [if_neg Bool.false_ne_true] at hb ⊢; exact hq _ _ hb) h
theorem mono_not {t:TT} (h1:MonoT t):MonoT (tNot t):=fun σ H Q Q' hq h=>h1 σ H _ _ (fun b H1 hb=>hq _ _ hb) h
theorem mono_d2 (i j k:Nat):MonoT (tB (tDIn (tTup (tCons (tVar i) (tCons (tVar j) tNil))) (tVar k))):=by
 rintro σ H Q Q' hq ⟨v1,e1,v2,e2,hl,hh⟩
 refine ⟨v1,e1,v2,e2,hl,fun p hp=>?_⟩
 obtain ⟨v3,e3,a,o,ea,dg,b,eb,h⟩:=hh p hp
 exact ⟨v3,e3,a,o,ea,dg,b,eb,hq _ _ h⟩
theorem mono_d3 (i j k:Nat) (f:Int→Int→V) (v:V):MonoT (tB (tDIn (tTup (tCons (tVar i) (tCons (tOp (rI0 f) (tVar j) (tC v)) tNil))) (tVar k))):=by
 rintro σ H Q Q' hq ⟨v1,e1,v2,e2,x,y,ex,ey,hl,hh⟩
 refine ⟨v1,e1,v2,e2,x,y,ex,ey,hl,fun p hp=>?_⟩
 obtain ⟨v3,e3,a,o,ea,dg,b,eb,h⟩:=hh p hp
 exact ⟨v3,e3,a,o,ea,dg,b,eb,hq _ _ h⟩
theorem sqD_val {xs:List (Int × Int)} {g:Int→Int→Bool} (hg:∀ s,s∈xs↔g s.1 s.2=true) (r c:Int):(valV (sqD xs) (sqK r c)).isSome=g r c:=by
 cases e:g r c with
 | true=>obtain ⟨v,hv⟩:=sqD_yes ((hg (r,c)).mpr e); rw [hv]; rfl
 | false=>rw [sqD_no fun hm=>by rw [(hg (r,c)).mp hm] at e; cases e]; rfl
theorem dget_sq {H:Hp} {a t:Addr} {xs:List (Int × Int)} {r c:Int} (ha:Rd H a (.dT (sqD xs))) (ht:H t=none):DGet (upd H t (.tup [.int r,.int c])) a (.ref t) (valV (sqD xs) (sqK r c)):=by
 refine .inr ⟨sqD xs,sqK r c,t,?_,rfl,upd_same,rfl⟩
 rcases ha with h | ⟨o,h⟩
 ·exact .inl (Same.new ht _ _ h)
 ·exact .inr ⟨o,Same.new ht _ _ h⟩
theorem rd_d2 {σ:St} {H:Hp} {Q:Bool→Hp→Prop} {i j k:Nat} {r c:Int} {a:Addr} {xs:List (Int × Int)} {g:Int→Int→Bool} (ha:Rd H a (.dT (sqD xs))) (hx:∀ s,s∈xs↔g s.1 s.2=true) (hi:σ[i]?=some (some (.int r))) (hj:σ[j]?=some (some (.int c))) (hk:σ[k]?=some (some (.ref a)))
  (h:∀ H',Same H H'→Q (g r c) H'):tB (tDIn (tTup (tCons (tVar i) (tCons (tVar j) tNil))) (tVar k)) σ H Q :=
 ⟨_,hi,_,hj,lenOk 2,fun t ht=>⟨_,hk,a,_,rfl,dget_sq ha ht,_,rfl,by rw [sqD_val hx]; exact h _ (Same.new ht)⟩⟩
theorem rd_d3 {σ:St} {H:Hp} {Q:Bool→Hp→Prop} {i j k:Nat} {r c:Int} {a:Addr} {xs:List (Int × Int)} {g:Int→Int→Bool} (ha:Rd H a (.dT (sqD xs))) (hx:∀ s,s∈xs↔g s.1 s.2=true) (hi:σ[i]?=some (some (.int r))) (hj:σ[j]?=some (some (.int c))) (hk:σ[k]?=some (some (.ref a)))
  (h:∀ H',Same H H'→Q (g r (c - 1)) H'):tB (tDIn (tTup (tCons (tVar i) (tCons (tOp (rI0 fun i j=>V.int (i - j)) (tVar j) (tC (.int 1))) tNil))) (tVar k)) σ H Q :=
 ⟨_,hi,_,hj,_,_,rfl,rfl,lenOk 2,fun t ht=>⟨_,hk,a,_,rfl,dget_sq ha ht,_,rfl,by rw [sqD_val hx]; exact h _ (Same.new ht)⟩⟩
theorem rd_n3 {σ:St} {H:Hp} {Q:Bool→Hp→Prop} {i j k:Nat} {r c:Int} {a:Addr} {xs:List (Int × Int)} {g:Int→Int→Bool} (ha:Rd H a (.dT (sqD xs))) (hx:∀ s,s∈xs↔g s.1 s.2=true) (hi:σ[i]?=some (some (.int r))) (hj:σ[j]?=some (some (.int c))) (hk:σ[k]?=some (some (.ref a)))
  (h:∀ H',Same H H'→Q (!g r (c - 1)) H'):tB (tDNotIn (tTup (tCons (tVar i) (tCons (tOp (rI0 fun i j=>V.int (i - j)) (tVar j) (tC (.int 1))) tNil))) (tVar k)) σ H Q :=
 ⟨_,hi,_,hj,_,_,rfl,rfl,lenOk 2,fun t ht=>⟨_,hk,a,_,rfl,dget_sq ha ht,_,rfl,by rw [sqD_val hx]; exact h _ (Same.new ht)⟩⟩
theorem rd_n4 {σ:St} {H:Hp} {Q:Bool→Hp→Prop} {i j k:Nat} {r c:Int} {a:Addr} {xs:List (Int × Int)} {g:Int→Int→Bool} (ha:Rd H a (.dT (sqD xs))) (hx:∀ s,s∈xs↔g s.1 s.2=true) (hi:σ[i]?=some (some (.int r))) (hj:σ[j]?=some (some (.int c))) (hk:σ[k]?=some (some (.ref a)))
  (h:∀ H',Same H H'→Q (!g (r - 1) c) H'):tB (tDNotIn (tTup (tCons (tOp (rI0 fun i j=>V.int (i - j)) (tVar i) (tC (.int 1))) (tCons (tVar j) tNil))) (tVar k)) σ H Q :=
 ⟨_,hi,_,_,rfl,rfl,_,hj,lenOk 2,fun t ht=>⟨_,hk,a,_,rfl,dget_sq ha ht,_,rfl,by rw [sqD_val hx]; exact h _ (Same.new ht)⟩⟩
theorem rd_same {H H':Hp} (s:Same H H') {a:Addr} {u:HO} (h:Rd H a u):Rd H' a u:=by
 rcases h with h | ⟨o,h⟩
 ·exact .inl (s _ _ h)
 ·exact .inr ⟨o,s _ _ h⟩
theorem or_var {c k:Bool} {σ:St} {i:Nat} {H:Hp} {Q:Bool→Hp→Prop} {K:PySem.W.Frag} (hv:σ[i]?=some (some (.bl k))) (h:Q (c || k) H):if c=true then Q true H else tVar i σ H (fun x H'=>∃ k',TruV K x H' k'∧Q k' H'):=by
 cases c with
 | true=>exact iteT h
 | false=>exact iteF ⟨_,hv,k,rfl,h⟩
theorem rd_while {σ:St} {H:Hp} {Q:Bool→Hp→Prop} {i j kU kL:Nat} {e c:Int} {d1 d2:Addr} {xs ys:List (Int × Int)} {gl gu:Int→Int→Bool} (h1:Rd H d1 (.dT (sqD xs))) (h2:Rd H d2 (.dT (sqD ys))) (hx:∀ s,s∈xs↔gl s.1 s.2=true) (hy:∀ s,s∈ys↔gu s.1 s.2=true)
  (hi:σ[i]?=some (some (.int e))) (hj:σ[j]?=some (some (.int c))) (hU:σ[kU]?=some (some (.ref d2))) (hL:σ[kL]?=some (some (.ref d1))) (h:∀ H',Same H H'→Q (gu e c && !(gl e (c - 1) && gl e c)) H') :
  tAnd (tB (tDIn (tTup (tCons (tVar i) (tCons (tVar j) tNil))) (tVar kU))) (tNot (tAnd (tB (tDIn (tTup (tCons (tVar i) (tCons (tOp (rI0 fun i j=>V.int (i - j)) (tVar j) (tC (.int 1))) tNil))) (tVar kL))) (tB (tDIn (tTup (tCons (tVar i) (tCons (tVar j) tNil))) (tVar kL))))) σ H Q:=by
 refine rd_d2 h2 hy hi hj hU fun H1 s1=>?_
 cases c1:gu e c with
 | false=>rw [c1] at h; exact iteN rfl (h H1 s1)
 | true =>
  rw [c1] at h
  refine iteP rfl (rd_d3 (rd_same s1 h1) hx hi hj hL fun H2 s2=>?_)
  cases c2:gl e (c - 1) with
  | false=>rw [c2] at h; exact iteN rfl (h H2 (s1.trans s2))
  | true =>
   rw [c2] at h
   exact iteP rfl (rd_d2 (rd_same (s1.trans s2) h1) hx hi hj hL fun H3 s3=>h H3 ((s1.trans s2).trans s3))
theorem keyL_inj {x y:LD} (h:keyL x=keyL y):x=y:=by
 rcases x with ⟨a,b,c,d⟩
 rcases y with ⟨a',b',c',d'⟩
 injection h with h1 h2
 injection h2 with h2 h3
 injection h3 with h3 h4
 injection h4 with h4 _
 have e1:cond a (Str.ofString "upright") (Str.ofString "level")=cond a' (Str.ofString "upright") (Str.ofString "level"):=Sum.inr.inj h1
 have ea:a=a':=by
  cases a <;> cases a' <;> first | rfl | (exact absurd e1 (by decide +kernel))
 have e2:b=b':=Sum.inl.inj h2
 have e3:c=c':=Sum.inl.inj h3
 have e4:d=d':=Sum.inl.inj h4
 rw [ea,e2,e3,e4]
theorem ldD_no {ds:List LD} {x:LD} (h:x ∉ ds):valV (ldD ds) (keyL x)=none:=by
 cases e:valV (ldD ds) (keyL x) with
 | none=>rfl
 | some v =>
  have:=valV_in e
  unfold ldD at this
  rw [List.map_map] at this
  obtain ⟨s,hs,e⟩:=List.mem_map.mp this
  exact absurd (by rw [← keyL_inj e]; exact hs) h
theorem ldD_yes {ds:List LD} {x:LD} (h:x∈ds):∃ v,valV (ldD ds) (keyL x)=some v:=by
 cases e:valV (ldD ds) (keyL x) with
 | some v=>exact ⟨v,rfl⟩
 | none =>
  have:=valV_not e
  unfold ldD at this
  rw [List.map_map] at this
  exact absurd (List.mem_map.mpr ⟨x,h,rfl⟩) this
theorem ldD_put {ds:List LD} {x:LD} (h:x ∉ ds):putK (ldD ds) (keyL x) (.bl true)=ldD (ds++[x]):=by
 rw [putK_new _ (ldD_no h)]; unfold ldD; rw [List.map_append]; rfl
theorem nodup_snoc {α:Type} {xs:List α} {x:α} (h:xs.Nodup) (n:x ∉ xs):(xs++[x]).Nodup :=
 List.nodup_append.mpr ⟨h,List.pairwise_singleton _ _,fun a ha b hb e=>by rw [List.mem_singleton.mp hb] at e; rw [e] at ha; exact n ha⟩
theorem nodup_at {α:Type} {xs:List α} (h:xs.Nodup) {i:Nat} {x:α} (hx:xs[i]?=some x):x ∉ xs.take i:=by
 have:=nodup_take (f:=id) (by rw [List.map_id]; exact h) hx
 rwa [List.map_id] at this
theorem sqD_get {xs:List (Int × Int)} {i:Nat} {p:List Key × V} (h:(sqD xs)[i]?=some p):∃ s,xs[i]?=some s∧p.1=sqK s.1 s.2:=by
 unfold sqD at h
 rw [List.getElem?_map] at h
 cases e:xs[i]? with
 | none=>rw [e] at h; cases h
 | some t=>rw [e] at h; exact ⟨t,rfl,by rw [← Option.some.inj h]⟩
def muEnd (hi:Int) (σ:St):Nat:=match σ[7]? with
 | some (some (V.int q))=>(hi - q).toNat
 | _=>0
abbrev N_due:List Str:=["_law_owned","_law_block","_law_level","_law_upright","_law_due_here","_law_row","_law_column","_law_end","_law_passing"]
theorem S_law_due:FnScope N_due ["_law_owned","_law_block"] (defScope s__law_due):=⟨rfl,rfl,rfl,by decide +kernel,rfl,by decide +kernel,by decide +kernel⟩
theorem ok_law_due {f:Addr} {fd:FuncData} (F:Fun K "_law_due" "_law_due" s__law_due f fd) (D__law_bits:DefOk P w K mg base 1 "_law_bits" ["_law_owned","_law_block"] sp_bits):FnOk P w K mg base CX0 2 f fd ["_law_owned","_law_block"] sp_due:=by
 have S:=S_law_due
 refine F.ok S (fun vs H Q E h=>?_) (fun cdv A outer s H vs Q E hr h=>?_)
 ·obtain ⟨d,b,w,h,ps,kvs,q,rfl,_⟩:=h; rfl
 ·obtain ⟨d,b,ww,hh,ps,kvs,q,rfl,hd,O,til,hb,qi,gw,gh,k⟩:=h
  have hu:=hu_of hr
  have qi':=qi
  obtain ⟨q1,q2,q3,q4,q5,q6⟩:=qi
  obtain ⟨t3,hb3,fin3⟩:∃ rd,PSs (cxOf CX0 P w K mg base N_due "_law_due" (defScope s__law_due) f cdv A outer s H E).nox ((forBody (nth (defBody s__law_due) 3)).drop 1) rd ∧
    ∀ (D:Ends) (d1 d2 dd:Addr) (ob1 ob2:Obj) (xs ys:List (Int × Int)) (ds:List LD) (r c:Int) (x7:Option V) (H3:Hp),H3 d1=some (.frz ob1 (.dT (sqD xs)))→H3 d2=some (.frz ob2 (.dT (sqD ys)))→H3 dd=some (.dT (ldD ds))→(∀ s,s∈xs↔lvB ps q s.1 s.2=true)→(∀ s,s∈ys↔upB ps q s.1 s.2=true)→upB ps q r c=true→ds.length≤1000→ds.Nodup→(∀ e,(true,c,r,e) ∉ ds) →
     (∀ (ds':List LD) (x7':Option V) (H5:Hp),SameX dd H3 H5→H5 dd=some (.dT (ldD ds'))→ds'.Nodup→ds'.length≤ds.length+1→(∀ x,x∈ds'↔x∈ds∨(IsLead ps q x∧x.1=true∧x.2.1=c∧x.2.2.1=r))→D.nx [some (.ref d),some (.ref b),some (.ref d1),some (.ref d2),some (.ref dd),some (.int r),some (.int c),x7',some (.bl (psB ps q r c))] H5) →
     rd D [some (.ref d),some (.ref b),some (.ref d1),some (.ref d2),some (.ref dd),some (.int r),some (.int c),x7,some (.bl (psB ps q r c))] H3:=by
   refine ⟨_,(pss_one (ps_if (PW.pt (pw_or (pt_cmp (pc_dnotin hu (pe_tup (pa_cons (pe_op op_sub (pv 5) pe_int) (pa_cons (pv 6) pa_nil))) (pv 3))) (pw_or1 (pt_truth (pv 8) (fun _=>rfl))))) (pss_cons (ps_set (i:=7) S.nd rfl (Or.inl rfl) (pe_op op_add (pv 5) pe_int))
   (pss_cons (ps_while PassesOwn.never (PW.pt (pw_and (pt_cmp (pc_din hu (pe_tup (pa_cons (pv 7) (pa_cons (pv 6) pa_nil))) (pv 3))) (pw_and1 (pt_not (PW.pt (pw_and (pt_cmp (pc_din hu (pe_tup (pa_cons (pv 7) (pa_cons (pe_op op_sub (pv 6) pe_int) pa_nil))) (pv 2))) (pw_and1 (pt_cmp (pc_din hu (pe_tup (pa_cons (pv 7) (pa_cons (pv 6) pa_nil))) (pv 2)))))))))) (pss_one (ps_set (i:=7) S.nd rfl (Or.inl rfl) (pe_op op_add (pv 7) pe_int))))
   (pss_one (ps_dput hu (pv 4) (pe_tup (pa_cons pe_str (pa_cons (pv 6) (pa_cons (pv 5) (pa_cons (pv 7) pa_nil))))) pe_bl rfl)))) pss_nil)),?_⟩
   intro D d1 d2 dd ob1 ob2 xs ys ds r c x7 H3 e1 e2 e3 hx hy up few ndd fresh nx
   refine rd_n4 (r:=r) (c:=c) (.inr ⟨ob2,e2⟩) hy rfl rfl rfl fun H4 s4=>?_
   refine or_var (k:=psB ps q r c) rfl ?_
   have f1:=s4 _ _ e1
   have f2:=s4 _ _ e2
   have f3:=s4 _ _ e3
   cases hst:(!upB ps q (r - 1) c || psB ps q r c) with
   | false =>
    refine iteN rfl (nx ds _ H4 (SameX.of s4) f3 ndd (by omega) fun x=>⟨.inl,fun h=>h.resolve_right ?_⟩)
    rintro ⟨hl,h1,h2,h3⟩
    rcases x with ⟨x1,x2,x3,x4⟩
    cases h1
    have h2:x2=c:=h2
    have h3:x3=r:=h3
    subst h2
    subst h3
    have i:RunU (fun r=>upB ps q r x2) (fun r=>psB ps q r x2) x3 x4:=hl
    rw [Bool.or_eq_false_iff] at hst
    rcases i.st with z | z
    ·have z:upB ps q (x3 - 1) x2=false:=z
     rw [z] at hst; cases hst.1
    ·have z:psB ps q x3 x2=true:=z
     rw [z] at hst; cases hst.2
   | true =>
    refine iteP rfl ?_
    refine ⟨_,rfl,_,_,rfl,rfl,?_⟩
    refine while_by (fun σ H'=>∃ e:Int,σ=[some (.ref d),some (.ref b),some (.ref d1),some (.ref d2),some (.ref dd),some (.int r),some (.int c),some (.int e),some (.bl (psB ps q r c))]∧r < e∧e≤q.b∧(∀ x,r < x→x < e→upB ps q x c=true∧psB ps q x c=false)∧Same H3 H')
     (fun σ _=>muEnd q.b σ) ⟨r+1,rfl,by omega,by have:=upB_in up; omega,fun x h1 h2=>by omega,s4⟩ ?_ (mono_and (mono_d2 _ _ _) (mono_not (mono_and (mono_d3 _ _ _ _ _) (mono_d2 _ _ _))))
    rintro σ H5 ⟨e,rfl,l1,l2,l3,s5⟩
    refine rd_while (d1:=d1) (d2:=d2) (gl:=lvB ps q) (gu:=upB ps q) (.inr ⟨ob1,s5 _ _ e1⟩) (.inr ⟨ob2,s5 _ _ e2⟩) hx hy rfl rfl rfl rfl fun H6 s6=>?_
    have s36:=s5.trans s6
    have psd:(lvB ps q e (c - 1) && lvB ps q e c)=psB ps q e c:=rfl
    rw [psd]
    cases hc:(upB ps q e c && !psB ps q e c) with
    | true =>
     rw [Bool.and_eq_true,Bool.not_eq_true'] at hc
     refine iteP rfl ⟨_,rfl,_,_,rfl,rfl,⟨e+1,rfl,by omega,by have:=upB_in hc.1; omega,fun x h1 h2=>?_,s36⟩,?_⟩
     ·by_cases z:x=e
      ·rw [z]; exact hc
      ·exact l3 x h1 (by omega)
     ·show (q.b - (e+1)).toNat < (q.b - e).toNat
      have:=upB_in hc.1
      omega
    | false =>
     have en:upB ps q e c=false∨psB ps q e c=true:=by
      cases z1:upB ps q e c with
      | false=>exact .inl rfl
      | true =>
       right
       cases z2:psB ps q e c with
       | true=>rfl
       | false=>rw [z1,z2] at hc; cases hc
     have st:upB ps q (r - 1) c=false∨psB ps q r c=true:=by
      cases z1:upB ps q (r - 1) c with
      | false=>exact .inl rfl
      | true =>
       right
       rw [z1] at hst
       exact hst
     have new:RunU (fun r=>upB ps q r c) (fun r=>psB ps q r c) r e:=⟨⟨l1,fun x h1 h2=>by
      by_cases z:x=r
      ·rw [z]; exact up
      ·exact (l3 x (by omega) h2).1,fun x h1 h2=>(l3 x h1 h2).2,st⟩,en⟩
     refine iteN rfl ⟨_,rfl,_,rfl,_,rfl,_,rfl,lenOk 4,fun t ht=>?_⟩
     have s7:=Same.new (o:=.tup [.str "upright",.int c,.int r,.int e]) ht
     have e7:(upd H6 t (.tup [.str "upright",.int c,.int r,.int e])) t=some (.tup [.str "upright",.int c,.int r,.int e]):=upd_same
     have f7:=s7 _ _ (s36 _ _ e3)
     generalize upd H6 t (.tup [.str "upright",.int c,.int r,.int e])=H7 at s7 e7 f7 ⊢
     have n7:(ldD ds).length=ds.length:=List.length_map _
     refine ⟨dd,_,rfl,DPut.t (k:=keyL (true,c,r,e)) f7 e7 (Nat.lt_of_le_of_lt (m:=2000) (by omega) (by rw [sizeLine_eq]; decide)),nx (ds++[(true,c,r,e)]) _ _ (SameX.trans (SameX.of (s36.trans s7)) SameX.upd) (by rw [upd_same,ldD_put (fresh e)]) (nodup_snoc ndd (fresh e)) (by simp) fun x=>?_⟩
     rw [List.mem_append,List.mem_singleton]
     constructor
     ·rintro (h | rfl)
      ·exact .inl h
      ·exact .inr ⟨new,rfl,rfl,rfl⟩
     ·rintro (h | ⟨h1,h2,h3,h4⟩)
      ·exact .inl h
      ·rcases x with ⟨x1,x2,x3,x4⟩
       cases h2
       have h3:x2=c:=h3
       have h4:x3=r:=h4
       subst h3
       subst h4
       have h1:RunU (fun r=>upB ps q r x2) (fun r=>psB ps q r x2) x3 x4:=h1
       exact .inr (by rw [run_end h1 new])
  refine ⟨_,(pss_cons (ps_asg (pe_fn D__law_bits hr (pa_cons (pv 0) (pa_cons (pv 1) pa_nil))) (pg_tup rfl (pgs_cons (pg_name (i:=2) S.nd rfl (Or.inl rfl)) (pgs_cons (pg_name (i:=3) S.nd rfl (Or.inl rfl)) pgs_nil))))
   (pss_cons (ps_set (i:=4) S.nd rfl (Or.inl rfl) pe_dnewT)
   (pss_cons (ps_for PassesOwn.never rfl (pi_keysT (pv 2)) (pg_tup rfl (pgs_cons (pg_name (i:=5) S.nd rfl (Or.inl rfl)) (pgs_cons (pg_name (i:=6) S.nd rfl (Or.inl rfl)) pgs_nil))) (pss_one (ps_if (pt_cmp (pc_dnotin hu (pe_tup (pa_cons (pv 5) (pa_cons (pe_op op_sub (pv 6) pe_int) pa_nil))) (pv 2))) (pss_cons (ps_set (i:=7) S.nd rfl (Or.inl rfl) (pe_op op_add (pv 6) pe_int))
   (pss_cons (ps_while PassesOwn.never (pt_cmp (pc_din hu (pe_tup (pa_cons (pv 5) (pa_cons (pv 7) pa_nil))) (pv 2))) (pss_one (ps_set (i:=7) S.nd rfl (Or.inl rfl) (pe_op op_add (pv 7) pe_int))))
   (pss_one (ps_dput hu (pv 4) (pe_tup (pa_cons pe_str (pa_cons (pv 5) (pa_cons (pv 6) (pa_cons (pv 7) pa_nil))))) pe_bl rfl)))) pss_nil)))
   (pss_cons (ps_for PassesOwn.never rfl (pi_keysT (pv 3)) (pg_tup rfl (pgs_cons (pg_name (i:=5) S.nd rfl (Or.inl rfl)) (pgs_cons (pg_name (i:=6) S.nd rfl (Or.inl rfl)) pgs_nil))) (pss_cons (ps_set (i:=8) S.nd rfl (Or.inl rfl) (pe_and (pe_cmp (pc_din hu (pe_tup (pa_cons (pv 5) (pa_cons (pe_op op_sub (pv 6) pe_int) pa_nil))) (pv 2))) (pe_one (pe_cmp (pc_din hu (pe_tup (pa_cons (pv 5) (pa_cons (pv 6) pa_nil))) (pv 2))))))
   hb3))
   (pss_one (ps_ret (pv 4))))))),?_⟩
  refine ⟨_,rfl,_,rfl,d,b,ww,hh,ps,kvs,q,rfl,hd,O,til,hb,qi',gw,gh,fun t d1 d2 xs ys H1 s1 n1 n2 n12 et e1 e2 ndx ndy hx hy lx ly=>?_⟩
  refine ⟨t,_,rfl,SqT.of et,rfl,_,_,rfl,_,_,rfl,rfl,?_⟩
  intro dd hdd
  have s2:=s1.trans (Same.new (o:=.dT []) hdd)
  have e3:(upd H1 dd (.dT [])) dd=some (.dT []):=upd_same
  have nd1:d1≠dd:=ne_of_none e1 hdd
  have nd2:d2≠dd:=ne_of_none e2 hdd
  have e1':=Same.new (o:=.dT []) hdd _ _ e1
  have e2':=Same.new (o:=.dT []) hdd _ _ e2
  have ndd':H dd=none:=by
   cases e:H dd with
   | none=>rfl
   | some o=>rw [s1 _ _ e] at hdd; cases hdd
  generalize upd H1 dd (.dT [])=H2 at s2 e3 e1' e2' ⊢
  have lnx:(sqD xs).length=xs.length:=List.length_map _
  have lny:(sqD ys).length=ys.length:=List.length_map _
  refine ⟨_,rfl,d1,_,rfl,.inl e1',fun ob1=>for_keysT (a:=d1) (ob:=ob1) (kvs:=sqD xs) (fun i σ H'=>∃ (ds:List LD) (x5 x6 x7 x8:Option V),σ=[some (.ref d),some (.ref b),some (.ref d1),some (.ref d2),some (.ref dd),x5,x6,x7,x8]∧Same H H'∧H' d1=some (.frz ob1 (.dT (sqD xs)))∧H' d2=some (.dT (sqD ys))∧H' dd=some (.dT (ldD ds))∧ds.Nodup∧ds.length≤i∧∀ x,x∈ds↔IsLead ps q x∧x.1=false∧(x.2.1,x.2.2.1)∈xs.take i)
   ⟨[],_,_,_,_,rfl,fun c o e=>by rw [upd_ne (ne_of_none e n1)]; exact s2 c o e,upd_same,by rw [upd_ne (Ne.symm n12)]; exact e2',by rw [upd_ne (Ne.symm nd1)]; exact e3,List.Pairwise.nil,Nat.le_refl _,fun x=>⟨fun h=>absurd h List.not_mem_nil,fun h=>absurd h.2.2 List.not_mem_nil⟩⟩ (fun i σ H' _ hp=>by obtain ⟨_,_,_,_,_,_,_,h,_⟩:=hp; exact h) ?_ ?_⟩
  ·rintro i p σ H3 bb hp ⟨ds,x5,x6,x7,x8,rfl,s3,f1,f2,f3,ndd,nl,hds⟩ hbb
   obtain ⟨⟨r,c⟩,hsq,hp1⟩:=sqD_get hp
   rw [hp1] at hbb
   have lv:lvB ps q r c=true:=(hx (r,c)).mp (List.mem_of_getElem? hsq)
   have hil:i < xs.length:=(List.getElem?_eq_some_iff.mp hsq).1
   have notin:(r,c) ∉ xs.take i:=nodup_at ndx hsq
   refine ⟨bb,_,rfl,SqT.of hbb,rfl,_,_,rfl,_,_,rfl,rfl,?_⟩
   refine rd_n3 (r:=r) (c:=c) (.inr ⟨ob1,f1⟩) hx rfl rfl rfl fun H4 s4=>?_
   cases hst:lvB ps q r (c - 1) with
   | true =>
    refine iteN rfl ⟨ds,_,_,_,_,rfl,s3.trans s4,s4 _ _ f1,s4 _ _ f2,s4 _ _ f3,ndd,by omega,fun x=>?_⟩
    rw [hds,mem_take_succ hsq]
    refine ⟨fun ⟨h1,h2,h3⟩=>⟨h1,h2,.inl h3⟩,fun ⟨h1,h2,h3⟩=>⟨h1,h2,h3.resolve_right fun z=>?_⟩⟩
    rcases x with ⟨x1,x2,x3,x4⟩
    cases h2
    injection z with z1 z2
    have z1:x2=r:=z1
    have z2:x3=c:=z2
    subst z1
    subst z2
    have i:RunU (fun c=>lvB ps q x2 c) (fun _=>false) x3 x4:=h1
    rcases i.st with z | z
    ·have z:lvB ps q x2 (x3 - 1)=false:=z
     rw [hst] at z; cases z
    ·cases z
   | false =>
    refine iteP rfl ⟨_,rfl,_,_,rfl,rfl,?_⟩
    refine while_by (fun σ H'=>∃ e:Int,σ=[some (.ref d),some (.ref b),some (.ref d1),some (.ref d2),some (.ref dd),some (.int r),some (.int c),some (.int e),x8]∧c < e∧e≤q.r∧(∀ x,c < x→x < e→lvB ps q r x=true)∧Same H3 H')
     (fun σ _=>muEnd q.r σ) ⟨c+1,rfl,by omega,by have:=lvB_in lv; omega,fun x h1 h2=>by omega,s4⟩ ?_ (mono_d2 _ _ _)
    rintro σ H5 ⟨e,rfl,l1,l2,l3,s5⟩
    refine rd_d2 (r:=r) (c:=e) (.inr ⟨ob1,s5 _ _ f1⟩) hx rfl rfl rfl fun H6 s6=>?_
    have s36:=s5.trans s6
    cases hc:lvB ps q r e with
    | true =>
     refine iteP rfl ⟨_,rfl,_,_,rfl,rfl,⟨e+1,rfl,by omega,by have:=lvB_in hc; omega,fun x h1 h2=>?_,s36⟩,?_⟩
     ·by_cases z:x=e
      ·rw [z]; exact hc
      ·exact l3 x h1 (by omega)
     ·show (q.r - (e+1)).toNat < (q.r - e).toNat
      have:=lvB_in hc
      omega
    | false =>
     have new:RunU (fun c=>lvB ps q r c) (fun _=>false) c e:=⟨⟨l1,fun x h1 h2=>by
      by_cases z:x=c
      ·rw [z]; exact lv
      ·exact l3 x (by omega) h2,fun _ _ _=>rfl,.inl hst⟩,.inl hc⟩
     have fresh:((false,r,c,e):LD) ∉ ds:=fun z=>notin ((hds _).mp z).2.2
     refine iteN rfl ⟨_,rfl,_,rfl,_,rfl,_,rfl,lenOk 4,fun t ht=>?_⟩
     have s7:=Same.new (o:=.tup [.str "level",.int r,.int c,.int e]) ht
     have e7:(upd H6 t (.tup [.str "level",.int r,.int c,.int e])) t=some (.tup [.str "level",.int r,.int c,.int e]):=upd_same
     have s37:=s36.trans s7
     generalize upd H6 t (.tup [.str "level",.int r,.int c,.int e])=H7 at s7 e7 s37 ⊢
     have n7:(ldD ds).length=ds.length:=List.length_map _
     refine ⟨dd,_,rfl,DPut.t (k:=keyL (false,r,c,e)) (s37 _ _ f3) e7 (Nat.lt_of_le_of_lt (m:=2000) (by omega) (by rw [sizeLine_eq]; decide)),ds++[(false,r,c,e)],_,_,_,_,rfl,fun c o z=>by rw [upd_ne (ne_of_none z ndd')]; exact (s3.trans s37) c o z,by rw [upd_ne nd1]; exact s37 _ _ f1,by rw [upd_ne nd2]; exact s37 _ _ f2,by rw [upd_same,ldD_put fresh],nodup_snoc ndd fresh,by simp; omega,fun x=>?_⟩
     rw [List.mem_append,List.mem_singleton,hds,mem_take_succ hsq]
     constructor
     ·rintro (⟨h1,h2,h3⟩ | rfl)
      ·exact ⟨h1,h2,.inl h3⟩
      ·exact ⟨new,rfl,.inr rfl⟩
     ·rintro ⟨h1,h2,h3⟩
      rcases h3 with h3 | z
      ·exact .inl ⟨h1,h2,h3⟩
      ·rcases x with ⟨x1,x2,x3,x4⟩
       cases h2
       injection z with z1 z2
       have z1:x2=r:=z1
       have z2:x3=c:=z2
       subst z1
       subst z2
       have h1:RunU (fun c=>lvB ps q x2 c) (fun _=>false) x3 x4:=h1
       exact .inr (by rw [run_end h1 new])
  ·rintro σ H3 ⟨ds,x5,x6,x7,x8,rfl,s3,f1,f2,f3,ndd,nl,hds⟩
   rw [lnx] at nl hds
   rw [List.take_length] at hds
   refine ⟨_,rfl,d2,_,rfl,.inl f2,fun ob2=>for_keysT (a:=d2) (ob:=ob2) (kvs:=sqD ys) (fun i σ H'=>∃ (ds:List LD) (x5 x6 x7 x8:Option V),σ=[some (.ref d),some (.ref b),some (.ref d1),some (.ref d2),some (.ref dd),x5,x6,x7,x8]∧Same H H'∧H' d1=some (.frz ob1 (.dT (sqD xs)))∧H' d2=some (.frz ob2 (.dT (sqD ys)))∧H' dd=some (.dT (ldD ds))∧ds.Nodup∧ds.length≤144+i∧∀ x,x∈ds↔IsLead ps q x∧(x.1=false∨(x.1=true∧(x.2.2.1,x.2.1)∈ys.take i)))
    ⟨ds,_,_,_,_,rfl,fun c o e=>by rw [upd_ne (ne_of_none e n2)]; exact s3 c o e,by rw [upd_ne n12]; exact f1,upd_same,by rw [upd_ne (Ne.symm nd2)]; exact f3,ndd,by omega,fun x=>?_⟩ (fun i σ H' _ hp=>by obtain ⟨_,_,_,_,_,_,_,_,h,_⟩:=hp; exact h) ?_ ?_⟩
   ·rw [hds]
    constructor
    ·rintro ⟨h1,h2,_⟩; exact ⟨h1,.inl h2⟩
    ·rintro ⟨h1,h2⟩
     rcases h2 with h2 | ⟨_,h2⟩
     ·refine ⟨h1,h2,?_⟩
      rcases x with ⟨x1,x2,x3,x4⟩
      cases h2
      have i:RunU (fun c=>lvB ps q x2 c) (fun _=>false) x3 x4:=h1
      exact (hx (x2,x3)).mpr (i.on x3 (Int.le_refl _) i.lt)
     ·exact absurd h2 List.not_mem_nil
   ·rintro i p σ H4 bb hp ⟨ds,x5,x6,x7,x8,rfl,s4,g1,g2,g3,ndd,nl,hds⟩ hbb
    obtain ⟨⟨r,c⟩,hsq,hp1⟩:=sqD_get hp
    rw [hp1] at hbb
    have up:upB ps q r c=true:=(hy (r,c)).mp (List.mem_of_getElem? hsq)
    have hil:i < ys.length:=(List.getElem?_eq_some_iff.mp hsq).1
    have notin:(r,c) ∉ ys.take i:=nodup_at ndy hsq
    refine ⟨bb,_,rfl,SqT.of hbb,rfl,_,_,rfl,_,_,rfl,rfl,?_⟩
    have fin:∀ (H5:Hp),Same H4 H5→∀ D:Ends,(D.nx=fun σ H'=>∃ (ds:List LD) (x5 x6 x7 x8:Option V),σ=[some (.ref d),some (.ref b),some (.ref d1),some (.ref d2),some (.ref dd),x5,x6,x7,x8]∧Same H H'∧H' d1=some (.frz ob1 (.dT (sqD xs)))∧H' d2=some (.frz ob2 (.dT (sqD ys)))∧H' dd=some (.dT (ldD ds))∧ds.Nodup∧ds.length≤144+(i+1)∧∀ x,x∈ds↔IsLead ps q x∧(x.1=false∨(x.1=true∧(x.2.2.1,x.2.1)∈ys.take (i+1))))→∀ pv:Bool,pv=psB ps q r c →
      t3 D [some (.ref d),some (.ref b),some (.ref d1),some (.ref d2),some (.ref dd),some (.int r),some (.int c),x7,some (.bl pv)] H5:=fun H5 s5 D hD pv hpv=>by
     subst hpv
     refine fin3 D d1 d2 dd ob1 ob2 xs ys ds r c x7 H5 (s5 _ _ g1) (s5 _ _ g2) (s5 _ _ g3) hx hy up (by omega) ndd (fun e z=>?_) fun ds' x7' H6 sx f6 nd6 n6 h6=>?_
     ·rcases ((hds _).mp z).2 with z | ⟨_,z⟩
      ·cases z
      ·exact notin z
     ·rw [hD]
      refine ⟨ds',_,_,_,_,rfl,SameX.drop (s4.trans s5) ndd' sx,sx _ _ nd1 (s5 _ _ g1),sx _ _ nd2 (s5 _ _ g2),f6,nd6,by omega,fun x=>?_⟩
      rw [h6,hds,mem_take_succ hsq]
      constructor
      ·rintro (⟨h1,h2⟩ | ⟨h1,h2,h3,h4⟩)
       ·exact ⟨h1,h2.imp_right fun ⟨z1,z2⟩=>⟨z1,.inl z2⟩⟩
       ·exact ⟨h1,.inr ⟨h2,.inr (by rw [h3,h4])⟩⟩
      ·rintro ⟨h1,h2⟩
       rcases h2 with h2 | ⟨h2,h3 | h3⟩
       ·exact .inl ⟨h1,.inl h2⟩
       ·exact .inl ⟨h1,.inr ⟨h2,h3⟩⟩
       ·injection h3 with h3 h4
        exact .inr ⟨h1,h2,h4,h3⟩
    refine ⟨_,rfl,_,rfl,_,_,rfl,rfl,lenOk 2,fun ta hta=>⟨_,rfl,d1,_,rfl,dget_sq (.inr ⟨ob1,g1⟩) hta,_,rfl,?_⟩⟩
    rw [sqD_val hx]
    cases h1:lvB ps q r (c - 1) with
    | false =>
     have hp:psB ps q r c=false:=by unfold psB; rw [h1]; rfl
     exact iteN rfl (fin _ (Same.new hta) _ rfl _ hp.symm)
    | true =>
     have hp:psB ps q r c=lvB ps q r c:=by unfold psB; rw [h1]; rfl
     refine iteP rfl ⟨_,rfl,_,rfl,lenOk 2,fun tb htb=>⟨_,rfl,d1,_,rfl,dget_sq (.inr ⟨ob1,Same.new hta _ _ g1⟩) htb,?_⟩⟩
     rw [sqD_val hx,← hp]
     exact fin _ ((Same.new hta).trans (Same.new htb)) _ rfl _ rfl
   ·rintro σ H4 ⟨ds,x5,x6,x7,x8,rfl,s4,g1,g2,g3,ndd,nl,hds⟩
    rw [lny,List.take_length] at hds
    refine ⟨_,rfl,k dd ds H4 s4 ndd' g3 ndd fun x=>?_⟩
    rw [hds]
    refine ⟨fun h=>h.1,fun h=>⟨h,?_⟩⟩
    rcases x with ⟨x1,x2,x3,x4⟩
    cases x1 with
    | false=>exact .inl rfl
    | true =>
     have i:RunU (fun r=>upB ps q r x2) (fun r=>psB ps q r x2) x3 x4:=h
     exact .inr ⟨rfl,(hy (x3,x2)).mpr (i.on x3 (Int.le_refl _) i.lt)⟩
theorem S_law_right:FnScope ["_law_found","_law_due_here","_law_met","_law_lead"] ["_law_found","_law_due_here"] (defScope s__law_right):=⟨rfl,rfl,rfl,by decide +kernel,rfl,by decide +kernel,by decide +kernel⟩
theorem ok_law_right {f:Addr} {fd:FuncData} (F:Fun K "_law_right" "_law_right" s__law_right f fd) (T:Txt mg tk):FnOk P w K mg base CX0 1 f fd ["_law_found","_law_due_here"] sp_right:=by
 have S:=S_law_right
 refine F.ok S (fun vs H Q E h=>?_) (fun cdv A outer s H vs Q E hr h=>?_)
 ·obtain ⟨l,d,us,ds,rfl,_⟩:=h; rfl
 ·obtain ⟨l,d,us,ds,rfl,hl,hat,hd,ndu,ndd,same,few,k⟩:=h
  have hu:=hu_of hr
  have len:us.length=ds.length:=by
   have:=same_len ndu ndd same
   rwa [List.length_map] at this
  refine ⟨_,(pss_cons (ps_if (PW.pt (pw_or (pt_not (pt_val (pe_callB call_isin rfl T.z_isinstance rfl (pa_cons (pv 0) (pa_cons (pe_bltn (v:=.ty "list") rfl T.z_list rfl rfl) pa_nil))))) (pw_or1 (pt_cmpR op_ne (pe_callB call_len_seq rfl T.z_len rfl (pa_cons (pv 0) pa_nil)) (pe_callB call_lenT rfl T.z_len rfl (pa_cons (pv 1) pa_nil)) (nomark _))))) (pss_one (ps_ret pe_bl)) pss_nil)
   (pss_cons (ps_set (i:=2) S.nd rfl (Or.inl rfl) pe_dnewT)
   (pss_cons (ps_for PassesOwn.never rfl (pi_list (pv 0)) (pg_name (i:=3) S.nd rfl (Or.inl rfl)) (pss_cons (ps_if (PW.pt (pw_or (pt_not (pt_val (pe_callB call_isin rfl T.z_isinstance rfl (pa_cons (pv 3) (pa_cons (pe_bltn (v:=.ty "tuple") rfl T.z_tuple rfl rfl) pa_nil))))) (pw_or (pt_cmp (pc_dnotin hu (pv 3) (pv 1))) (pw_or1 (pt_cmp (pc_din hu (pv 3) (pv 2))))))) (pss_one (ps_ret pe_bl)) pss_nil)
   (pss_cons (ps_if (pt_not (pt_val (pe_callB call_all rfl T.z_all rfl (pa_cons (pe_comp rfl (pi_tup (pe_slice sl_tup (pv 3) (po_some pe_int) po_none)) (fun _ _ _ _ _=>(pg_name (i:=0) (show List.Nodup (["_law_one"]:List Str) from by decide +kernel) rfl (Or.inl rfl))) (fun _ _ _ _ _=>(pe_and (pe_callB call_isin rfl T.z_isinstance rfl (pa_cons (pv 0) (pa_cons (pe_bltn (v:=.ty "int") rfl T.z_int rfl rfl) pa_nil))) (pe_one (pe_not (pe_callB call_isin rfl T.z_isinstance rfl (pa_cons (pv 0) (pa_cons (pe_bltn (v:=.ty "bool") rfl T.z_bool rfl rfl) pa_nil))))))) (N:=["_law_one"]) (fr:=[none])) pa_nil)))) (pss_one (ps_ret pe_bl)) pss_nil)
   (pss_one (ps_dput hu (pv 2) (pv 3) pe_bl rfl)))))
   (pss_one (ps_ret pe_bl))))),?_⟩
  refine ⟨_,rfl,_,"list","list",rfl,ty_lst hl,.inr (.inr (.inr (.inl rfl))),_,rfl,iteN (by decide +kernel) ?_⟩
  refine ⟨_,rfl,l,_,rfl,.inl (SqL.of hl),_,rfl,d,_,rfl,hd,rfl,_,rfl,iteN ?_ ?_⟩
  ·have e:((refsL us).length:Int)=((ldD ds).length:Int):=by rw [List.length_map,ldD,List.length_map,len]
   rw [e,decide_eq_true rfl]; rfl
  intro dm hdm
  have s1:=Same.new (o:=.dT []) hdm
  have e1:(upd H dm (.dT [])) dm=some (.dT []):=upd_same
  generalize upd H dm (.dT [])=H1 at s1 e1 ⊢
  refine ⟨_,rfl,l,rfl,⟨_,SqL.of (s1 _ _ hl)⟩,for_list (K:=K) (a:=l) (xs:=refsL us) (fun i σ H'=>∃ x3:Option V,σ=[some (.ref l),some (.ref d),some (.ref dm),x3]∧Same H H'∧H' dm=some (.dT (ldD ((us.map (·.2)).take i))))
   ⟨_,rfl,s1,e1⟩ (fun i σ H' _ hp=>by obtain ⟨_,_,h,_⟩:=hp; exact SqL.of (h _ _ hl)) ?_ ?_⟩
  ·rintro i x σ H2 hx ⟨x3,rfl,s2,e2⟩
   obtain ⟨u,hu',rfl⟩:=refsL_get hx
   have hum:=List.mem_of_getElem? hu'
   have hur:(us.map (·.2))[i]?=some u.2:=by rw [List.getElem?_map,hu']; rfl
   have hua:=s2 _ _ (hat u hum)
   have hi:i < us.length:=(List.getElem?_eq_some_iff.mp hu').1
   have notin:u.2 ∉ (us.map (·.2)).take i:=nodup_at ndu hur
   obtain ⟨v,hv⟩:=ldD_yes ((same u.2).mp (List.mem_map.mpr ⟨u,hum,rfl⟩))
   have dg:=DGet.t (H:=H2) (k:=keyL u.2) (s2 _ _ hd) hua
   rw [hv] at dg
   have dg2:=DGet.t (H:=H2) (k:=keyL u.2) e2 hua
   rw [ldD_no notin] at dg2
   refine ⟨_,rfl,_,"tuple","tuple",rfl,ty_tup hua,.inr (.inr (.inl rfl)),_,rfl,iteN (by rw [isB_tt]; rfl) ?_⟩
   refine ⟨_,rfl,_,rfl,d,_,rfl,dg,_,rfl,iteF ?_⟩
   refine ⟨_,rfl,_,rfl,dm,_,rfl,dg2,_,rfl,iteF ?_⟩
   refine ⟨_,rfl,_,rfl,u.1,_,rfl,SqT.of hua,(fun z=>absurd z.1 (show ¬ (HT.sIx 4 0 (some 1)=0) by decide)),fun tp htp=>?_⟩
   have ec:cutV ((keyL u.2).map kV) (some 1) none=[.int u.2.2.1,.int u.2.2.2.1,.int u.2.2.2.2]:=rfl
   rw [ec]
   have s3:=Same.new (o:=.tup [.int u.2.2.1,.int u.2.2.2.1,.int u.2.2.2.2]) htp
   have e3:(upd H2 tp (.tup [.int u.2.2.1,.int u.2.2.2.1,.int u.2.2.2.2])) tp=some (.tup [.int u.2.2.1,.int u.2.2.2.1,.int u.2.2.2.2]):=upd_same
   generalize upd H2 tp (.tup [.int u.2.2.1,.int u.2.2.2.1,.int u.2.2.2.2])=H3 at s3 e3 ⊢
   refine ⟨tp,rfl,⟨_,SqT.of e3⟩,fun acc hacc=>comp_tup (K:=K) (a:=tp) (ys:=[.int u.2.2.1,.int u.2.2.2.1,.int u.2.2.2.2]) (fun j zs σ H'=>(∃ y,σ=[y])∧Same H3 H'∧zs=(([.int u.2.2.1,.int u.2.2.2.1,.int u.2.2.2.2]:List V).take j).map fun _=>V.bl true) ⟨⟨none,rfl⟩,Same.new hacc,rfl⟩
    (fun j zs σ H' _ _ hp=>SqT.of (hp.2.1 _ _ e3)) ?_ ?_⟩
   ·rintro j x zs σ H4 hxj hj hzl hacc' ⟨⟨y,rfl⟩,s4,hzs⟩
    obtain ⟨n,rfl⟩:∃ n,x=.int n:=by
     have:=List.mem_of_getElem? hxj
     simp only [List.mem_cons,List.not_mem_nil,or_false] at this
     rcases this with rfl | rfl | rfl <;> exact ⟨_,rfl⟩
    refine ⟨_,rfl,.int n,"int","int",rfl,rfl,.inl rfl,_,rfl,iteP (by decide +kernel) ?_⟩
    refine ⟨_,rfl,.int n,"int","bool",rfl,rfl,.inr (.inl rfl),_,rfl,?_⟩
    have eb:(!isB "int" "bool")=true:=by decide +kernel
    rw [eb]
    refine cNx.mk (Nat.le_of_lt (small1000 (by show 3≤1000; omega))) hj hzl hacc' ⟨⟨_,rfl⟩,fun b o e=>?_,?_⟩
    ·rw [upd_ne (ne_of_none e hacc)]; exact s4 b o e
    ·rw [hzs]; exact take_next (f:=fun _=>V.bl true) hxj
   ·rintro zs σ H4 hzl hacc' ⟨_,s4,hzs⟩
    refine ⟨acc,[true,true,true],rfl,SqL.of (by rw [hacc',hzs]; rfl),rfl,_,rfl,iteN rfl ?_⟩
    have s24:=s3.trans s4
    have n4:(ldD ((us.map (·.2)).take i)).length≤us.length:=by unfold ldD; rw [List.length_map,List.length_take,List.length_map]; omega
    refine ⟨_,rfl,_,rfl,dm,_,rfl,DPut.t (k:=keyL u.2) (s24 _ _ e2) (s24 _ _ hua) (Nat.lt_of_le_of_lt (m:=2000) (by omega) (by rw [sizeLine_eq]; decide)),_,rfl,fun c o e=>?_,?_⟩
    ·rw [upd_ne (ne_of_none e hdm)]; exact (s2.trans s24) c o e
    ·rw [upd_same,ldD_put notin,List.take_succ,hur]; rfl
  ·rintro σ H2 ⟨x3,rfl,s2,e2⟩
   exact k H2 s2
theorem til_repl {w h:Int} {A B qs:List Rc} {u:Rc} (T:Tiles w h (A++u :: B)) (h1:∀ x∈qs,x.t < x.b∧x.l < x.r∧u.t≤x.t∧x.b≤u.b∧u.l≤x.l∧x.r≤u.r) (h2:qs.Pairwise Apart) (h3:∀ r c,u.has r c→∃ x∈qs,x.has r c):Tiles w h (A++qs++B):=by
 have sub:∀ x∈qs,∀ r c,x.has r c→u.has r c:=fun x hx r c hh=>by
  obtain ⟨a1,a2,a3,a4,a5,a6⟩:=h1 x hx
  obtain ⟨b1,b2,b3,b4⟩:=hh
  exact ⟨by omega,by omega,by omega,by omega⟩
 obtain ⟨d1,d2,d3⟩:=List.pairwise_append.mp T.dis
 obtain ⟨d4,d5⟩:=List.pairwise_cons.mp d2
 refine ⟨fun p hp=>?_,?_,fun r c b1 b2 b3 b4=>?_⟩
 ·rcases List.mem_append.mp hp with hp | hp
  ·rcases List.mem_append.mp hp with hp | hp
   ·exact T.ins p (List.mem_append_left _ hp)
   ·obtain ⟨u1,u2,u3,u4,u5,u6⟩:=T.ins u (by simp)
    obtain ⟨a1,a2,a3,a4,a5,a6⟩:=h1 p hp
    exact ⟨by omega,by omega,by omega,by omega,by omega,by omega⟩
  ·exact T.ins p (List.mem_append_right _ (List.mem_cons_of_mem _ hp))
 ·refine List.pairwise_append.mpr ⟨List.pairwise_append.mpr ⟨d1,h2,fun a ha b hb r c x y=>d3 a ha u (by simp) r c x (sub b hb r c y)⟩,d5,fun a ha b hb=>?_⟩
  rcases List.mem_append.mp ha with ha | ha
  ·exact d3 a ha b (List.mem_cons_of_mem _ hb)
  ·exact fun r c x y=>d4 b hb r c (sub a ha r c x) y
 ·obtain ⟨p,hp,hh⟩:=T.cov r c b1 b2 b3 b4
  rcases List.mem_append.mp hp with hp | hp
  ·exact ⟨p,List.mem_append_left _ (List.mem_append_left _ hp),hh⟩
  ·rcases List.mem_cons.mp hp with rfl | hp
   ·obtain ⟨x,hx,hx'⟩:=h3 r c hh
    exact ⟨x,List.mem_append_left _ (List.mem_append_right _ hx),hx'⟩
   ·exact ⟨p,List.mem_append_right _ hp,hh⟩
def five1 (u:Rc) (high low near far:Int):List Rc:=[⟨u.t,u.l,low,near⟩,⟨low,u.l,u.b,far⟩,⟨high,far,u.b,u.r⟩,⟨u.t,near,high,u.r⟩]
def five2 (u:Rc) (high low near far:Int):List Rc:=[⟨u.t,u.l,high,far⟩,⟨u.t,far,low,u.r⟩,⟨low,near,u.b,u.r⟩,⟨high,u.l,u.b,near⟩]
theorem apt {t l b r t' l' b' r':Int} (h:b≤t'∨b'≤t∨r≤l'∨r'≤l):Apart ⟨t,l,b,r⟩ ⟨t',l',b',r'⟩:=by
 rintro ro co ⟨a1,a2,a3,a4⟩ ⟨a5,a6,a7,a8⟩
 have a1:t≤ro:=a1
 have a2:ro < b:=a2
 have a3:l≤co:=a3
 have a4:co < r:=a4
 have a5:t'≤ro:=a5
 have a6:ro < b':=a6
 have a7:l'≤co:=a7
 have a8:co < r':=a8
 omega
def FiveOk (t l b r:Int) (qs:List Rc):Prop:=(∀ x∈qs,x.t < x.b∧x.l < x.r∧t≤x.t∧x.b≤b∧l≤x.l∧x.r≤r)∧qs.Pairwise Apart∧∀ ro co,t≤ro→ro < b→l≤co→co < r→∃ x∈qs,x.has ro co
theorem five1_ok {t l b r high low near far:Int} (a1:t < high) (a2:high < low) (a3:low < b) (b1:l < near) (b2:near < far) (b3:far < r):FiveOk t l b r (five1 ⟨t,l,b,r⟩ high low near far++[⟨high,near,low,far⟩]):=by
 refine ⟨?_,?_,fun ro co c1 c2 c3 c4=>?_⟩
 ·simp only [five1,List.cons_append,List.nil_append,List.forall_mem_cons,List.not_mem_nil,false_implies,implies_true,and_true]
  omega
 ·simp only [five1,List.cons_append,List.nil_append,List.pairwise_cons,List.forall_mem_cons,List.not_mem_nil,false_implies,implies_true,and_true,List.Pairwise.nil]
  refine ⟨⟨?_,?_,?_,?_⟩,⟨?_,?_,?_⟩,⟨?_,?_⟩,?_⟩ <;> exact apt (by omega)
 ·by_cases h1:ro < low∧co < near
  ·exact ⟨⟨t,l,low,near⟩,by simp [five1],c1,h1.1,c3,h1.2⟩
  by_cases h2:low≤ro∧co < far
  ·exact ⟨⟨low,l,b,far⟩,by simp [five1],h2.1,c2,c3,h2.2⟩
  by_cases h3:high≤ro∧far≤co
  ·exact ⟨⟨high,far,b,r⟩,by simp [five1],h3.1,c2,h3.2,c4⟩
  by_cases h4:ro < high∧near≤co
  ·exact ⟨⟨t,near,high,r⟩,by simp [five1],c1,h4.1,h4.2,c4⟩
  ·exact ⟨⟨high,near,low,far⟩,by simp [five1],by show high≤ro; omega,by show ro < low; omega,by show near≤co; omega,by show co < far; omega⟩
theorem five2_ok {t l b r high low near far:Int} (a1:t < high) (a2:high < low) (a3:low < b) (b1:l < near) (b2:near < far) (b3:far < r):FiveOk t l b r (five2 ⟨t,l,b,r⟩ high low near far++[⟨high,near,low,far⟩]):=by
 refine ⟨?_,?_,fun ro co c1 c2 c3 c4=>?_⟩
 ·simp only [five2,List.cons_append,List.nil_append,List.forall_mem_cons,List.not_mem_nil,false_implies,implies_true,and_true]
  omega
 ·simp only [five2,List.cons_append,List.nil_append,List.pairwise_cons,List.forall_mem_cons,List.not_mem_nil,false_implies,implies_true,and_true,List.Pairwise.nil]
  refine ⟨⟨?_,?_,?_,?_⟩,⟨?_,?_,?_⟩,⟨?_,?_⟩,?_⟩ <;> exact apt (by omega)
 ·by_cases h1:ro < high∧co < far
  ·exact ⟨⟨t,l,high,far⟩,by simp [five2],c1,h1.1,c3,h1.2⟩
  by_cases h2:ro < low∧far≤co
  ·exact ⟨⟨t,far,low,r⟩,by simp [five2],c1,h2.1,h2.2,c4⟩
  by_cases h3:low≤ro∧near≤co
  ·exact ⟨⟨low,near,b,r⟩,by simp [five2],h3.1,c2,h3.2,c4⟩
  by_cases h4:high≤ro∧co < near
  ·exact ⟨⟨high,l,b,near⟩,by simp [five2],h4.1,c2,c3,h4.2⟩
  ·exact ⟨⟨high,near,low,far⟩,by simp [five2],by show high≤ro; omega,by show ro < low; omega,by show near≤co; omega,by show co < far; omega⟩
theorem five_ok {w h:Int} {A B qs:List Rc} {u:Rc} {high low near far:Int} (T:Tiles w h (A++u :: B)) (a1:u.t < high) (a2:high < low) (a3:low < u.b) (b1:u.l < near) (b2:near < far) (b3:far < u.r)
  (hq:qs=five1 u high low near far∨qs=five2 u high low near far):Tiles w h (A++(qs++[⟨high,near,low,far⟩])++B):=by
 have o:FiveOk u.t u.l u.b u.r (qs++[⟨high,near,low,far⟩]):=by
  rcases hq with rfl | rfl
  ·exact five1_ok a1 a2 a3 b1 b2 b3
  ·exact five2_ok a1 a2 a3 b1 b2 b3
 exact til_repl T o.1 o.2.1 fun r c hh=>o.2.2 r c hh.1 hh.2.1 hh.2.2.1 hh.2.2.2
theorem take_drop_at {α:Type} {xs:List α} {n:Nat} {x:α} (h:xs[n]?=some x):xs=xs.take n++x :: xs.drop (n+1):=by
 obtain ⟨h1,rfl⟩:=List.getElem?_eq_some_iff.mp h
 rw [List.getElem_cons_drop,List.take_append_drop]
abbrev N_wheel:List Str:=["_law_script","_law_k","_law_panes","_law_purse_here","_law_spots","_law_at","_law_top","_law_left","_law_bottom","_law_right_here","_law_high","_law_low","_law_near","_law_far","_law_five"]
theorem S_law_wheel:FnScope N_wheel ["_law_script","_law_k","_law_panes","_law_purse_here"] (defScope s__law_wheel):=⟨rfl,rfl,rfl,by decide +kernel,rfl,by decide +kernel,by decide +kernel⟩
theorem ok_law_wheel {f:Addr} {fd:FuncData} (F:Fun K "_law_wheel" "_law_wheel" s__law_wheel f fd) (T:Txt mg tk) (D__law_take:DefOk P w K mg base 1 "_law_take" ["_law_purse_here","_law_many"] sp_take):FnOk P w K mg base CX0 2 f fd ["_law_script","_law_k","_law_panes","_law_purse_here"] sp_wheel:=by
 have S:=S_law_wheel
 refine F.ok S (fun vs H Q E h=>?_) (fun cdv A outer s H vs Q E hr h=>?_)
 ·obtain ⟨l,p,v,k,z,w,h,ts,rfl,_⟩:=h; rfl
 ·obtain ⟨l,p,v,kk,z,ww,hh,ts,rfl,hp,hl,hat,til,few,gw,gh,k⟩:=h
  have rl:(refs ts).length=ts.length:=List.length_map _
  obtain ⟨tw,hw,fin⟩:∃ rd,PSs (cxOf CX0 P w K mg base N_wheel "_law_wheel" (defScope s__law_wheel) f cdv A outer s H E).nox ((defBody s__law_wheel).drop 10) rd ∧
    ∀ (D:Ends) (lf:Addr) (qs:List (Addr × Rc)) (at' high low near far:Int) (x4 x6 x7 x8 x9:Option V) (H3:Hp),H3 l=some (.lst (refs ts))→At H3 ts→H3 lf=some (.lst (refs qs))→At H3 qs→qs.length=4→0≤at'→at' < (refs ts).length →
     (∀ (l':Addr) (ts':List (Addr × Rc)) (H5:Hp),Same H3 H5→H5 l'=some (.lst (refs ts'))→At H5 ts'→rcs ts'=rcs (ts.take at'.toNat)++(rcs qs++[⟨high,near,low,far⟩])++rcs (ts.drop (at'.toNat+1))→ts'.length≤ts.length+5→D.rt (.ref l') H5) →
     rd D [some v,some (.int kk),some (.ref l),some (.ref p),x4,some (.int at'),x6,x7,x8,x9,some (.int high),some (.int low),some (.int near),some (.int far),some (.ref lf)] H3:=by
   refine ⟨_,(pss_one (ps_ret (pe_op op_cat (pe_op op_cat (pe_op op_cat (pe_slice sl_list (pv 2) po_none (po_some (pv 5))) (pv 14)) (pe_lst (pa_cons (pe_tup (pa_cons (pv 10) (pa_cons (pv 12) (pa_cons (pv 11) (pa_cons (pv 13) pa_nil))))) pa_nil))) (pe_slice sl_list (pv 2) (po_some (pe_op op_add (pv 5) pe_int)) po_none)))),?_⟩
   intro D lf qs at' high low near far x4 x6 x7 x8 x9 H3 e1 a1 e2 a2 n4 at0' at1' rt
   refine ⟨_,rfl,_,rfl,_,rfl,l,_,rfl,SqL.of e1,fun c1 m1=>?_⟩
   rw [cut_lo at0' at1']
   have sa:=Same.new (o:=.lst ((refs ts).take at'.toNat)) m1
   have ea:(upd H3 c1 (.lst ((refs ts).take at'.toNat))) c1=_:=upd_same
   generalize upd H3 c1 (.lst ((refs ts).take at'.toNat))=H4 at sa ea ⊢
   have nq:(refs qs).length=4:=by rw [List.length_map]; exact n4
   refine ⟨_,rfl,c1,lf,_,_,rfl,rfl,ea,sa _ _ e2,Nat.le_of_lt (small1000 (by rw [List.length_take,nq]; omega)),fun c2 m2=>?_⟩
   have sb:=Same.new (o:=.lst ((refs ts).take at'.toNat++refs qs)) m2
   have eb:(upd H4 c2 (.lst ((refs ts).take at'.toNat++refs qs))) c2=_:=upd_same
   generalize upd H4 c2 (.lst ((refs ts).take at'.toNat++refs qs))=H5 at sb eb ⊢
   refine ⟨_,rfl,_,rfl,_,rfl,_,rfl,lenOk 4,fun t5 m3=>⟨lenOk 1,fun l5 m4=>?_⟩⟩
   have sc:=Same.new (o:=.tup (four high near low far)) m3
   have ec:(upd H5 t5 (.tup (four high near low far))) t5=_:=upd_same
   generalize upd H5 t5 (.tup (four high near low far))=H6 at sc ec m4 ⊢
   have sd:=Same.new (o:=.lst [.ref t5]) m4
   have ed:(upd H6 l5 (.lst [.ref t5])) l5=_:=upd_same
   generalize upd H6 l5 (.lst [.ref t5])=H7 at sd ed ⊢
   refine ⟨c2,l5,_,_,rfl,rfl,(sc.trans sd) _ _ eb,ed,Nat.le_of_lt (small1000 (by rw [List.length_append,List.length_take,nq]; show _+1≤_; omega)),fun c3 m5=>?_⟩
   have se:=Same.new (o:=.lst ((refs ts).take at'.toNat++refs qs++[.ref t5])) m5
   have ee:(upd H7 c3 (.lst ((refs ts).take at'.toNat++refs qs++[.ref t5]))) c3=_:=upd_same
   generalize upd H7 c3 (.lst ((refs ts).take at'.toNat++refs qs++[.ref t5]))=H8 at se ee ⊢
   have s38:=sa.trans (sb.trans (sc.trans (sd.trans se)))
   refine ⟨_,rfl,_,rfl,_,_,rfl,rfl,_,rfl,l,_,rfl,SqL.of (s38 _ _ e1),fun c4 m6=>?_⟩
   rw [cut_hi at0' at1']
   have sf:=Same.new (o:=.lst ((refs ts).drop (at'.toNat+1))) m6
   have ef:(upd H8 c4 (.lst ((refs ts).drop (at'.toNat+1)))) c4=_:=upd_same
   generalize upd H8 c4 (.lst ((refs ts).drop (at'.toNat+1)))=H9 at sf ef ⊢
   refine ⟨c3,c4,_,_,rfl,rfl,sf _ _ ee,ef,Nat.le_of_lt (small1000 (by rw [List.length_append,List.length_append,List.length_take,List.length_drop,nq]; show _+4+1+_≤_; omega)),fun c5 m7=>?_⟩
   have sg:=Same.new (o:=.lst ((refs ts).take at'.toNat++refs qs++[.ref t5]++(refs ts).drop (at'.toNat+1))) m7
   have s3A:=s38.trans (sf.trans sg)
   refine rt c5 (ts.take at'.toNat++(qs++[(t5,⟨high,near,low,far⟩)])++ts.drop (at'.toNat+1)) _ s3A (by rw [upd_same]; simp [refs,List.map_take,List.map_drop]) (fun x hx=>?_) (by simp [rcs]) (by rw [List.length_append,List.length_append,List.length_append,List.length_take,List.length_drop,n4]; show _+(4+1)+_≤_; omega)
   rcases List.mem_append.mp hx with hx | hx
   ·rcases List.mem_append.mp hx with hx | hx
    ·exact (a1.same s3A) x (List.mem_of_mem_take hx)
    ·rcases List.mem_append.mp hx with hx | hx
     ·exact (a2.same s3A) x hx
     ·rw [List.mem_singleton.mp hx]
      exact (sd.trans (se.trans (sf.trans sg))) _ _ ec
   ·exact (a1.same s3A) x (List.mem_of_mem_drop hx)
  obtain ⟨tw8,hw8,fin8⟩:∃ rd,PSs (cxOf CX0 P w K mg base N_wheel "_law_wheel" (defScope s__law_wheel) f cdv A outer s H E).nox ((defBody s__law_wheel).drop 8) rd ∧
    ∀ (D:Ends) (u:Rc) (at' high low near far z3p:Int) (x4 x14:Option V) (H3:Hp),H3 p=some (.lst [.int z3p])→H3 l=some (.lst (refs ts))→At H3 ts→0≤at'→at' < (refs ts).length →
     (∀ (l':Addr) (ts':List (Addr × Rc)) (H5:Hp) (qs:List Rc),SameX p H3 H5→H5 l'=some (.lst (refs ts'))→At H5 ts'→(qs=five1 u high low near far∨qs=five2 u high low near far)→rcs ts'=rcs (ts.take at'.toNat)++(qs++[⟨high,near,low,far⟩])++rcs (ts.drop (at'.toNat+1))→ts'.length≤ts.length+5→D.rt (.ref l') H5) →
     rd D [some v,some (.int kk),some (.ref l),some (.ref p),x4,some (.int at'),some (.int u.t),some (.int u.l),some (.int u.b),some (.int u.r),some (.int high),some (.int low),some (.int near),some (.int far),x14] H3:=by
   refine ⟨_,(pss_cons (ps_set (i:=14) S.nd rfl (Or.inl rfl) (pe_lst (pa_cons (pe_tup (pa_cons (pv 6) (pa_cons (pv 7) (pa_cons (pv 11) (pa_cons (pv 12) pa_nil))))) (pa_cons (pe_tup (pa_cons (pv 11) (pa_cons (pv 7) (pa_cons (pv 8) (pa_cons (pv 13) pa_nil))))) (pa_cons (pe_tup (pa_cons (pv 10) (pa_cons (pv 13) (pa_cons (pv 8) (pa_cons (pv 9) pa_nil))))) (pa_cons (pe_tup (pa_cons (pv 6) (pa_cons (pv 12) (pa_cons (pv 10) (pa_cons (pv 9) pa_nil))))) pa_nil))))))
   (pss_cons (ps_if (pt_cmpR op_eq (pe_fn D__law_take hr (pa_cons (pv 3) (pa_cons pe_int pa_nil))) pe_int (nomark _)) (pss_one (ps_set (i:=14) S.nd rfl (Or.inl rfl) (pe_lst (pa_cons (pe_tup (pa_cons (pv 6) (pa_cons (pv 7) (pa_cons (pv 10) (pa_cons (pv 13) pa_nil))))) (pa_cons (pe_tup (pa_cons (pv 6) (pa_cons (pv 13) (pa_cons (pv 11) (pa_cons (pv 9) pa_nil))))) (pa_cons (pe_tup (pa_cons (pv 11) (pa_cons (pv 12) (pa_cons (pv 8) (pa_cons (pv 9) pa_nil))))) (pa_cons (pe_tup (pa_cons (pv 10) (pa_cons (pv 7) (pa_cons (pv 8) (pa_cons (pv 12) pa_nil))))) pa_nil))))))) pss_nil)
   hw)),?_⟩
   intro D u at' high low near far z3p x4 x14 H3 e3p e1 a1 at0' at1' rt
   have nlp:l≠p:=ref_ne e3p e1
   refine ⟨_,rfl,_,rfl,_,rfl,_,rfl,lenOk 4,fun ta0 ma0=>?_⟩
   have sa0:=Same.new (o:=.tup (four u.t u.l low near)) ma0
   have ea0:(upd H3 ta0 (.tup (four u.t u.l low near))) ta0=_:=upd_same
   generalize upd H3 ta0 (.tup (four u.t u.l low near))=Ha0 at sa0 ea0 ⊢
   refine ⟨_,rfl,_,rfl,_,rfl,_,rfl,lenOk 4,fun ta1 ma1=>?_⟩
   have sa1:=Same.new (o:=.tup (four low u.l u.b far)) ma1
   have ea1:(upd Ha0 ta1 (.tup (four low u.l u.b far))) ta1=_:=upd_same
   generalize upd Ha0 ta1 (.tup (four low u.l u.b far))=Ha1 at sa1 ea1 ⊢
   refine ⟨_,rfl,_,rfl,_,rfl,_,rfl,lenOk 4,fun ta2 ma2=>?_⟩
   have sa2:=Same.new (o:=.tup (four high far u.b u.r)) ma2
   have ea2:(upd Ha1 ta2 (.tup (four high far u.b u.r))) ta2=_:=upd_same
   generalize upd Ha1 ta2 (.tup (four high far u.b u.r))=Ha2 at sa2 ea2 ⊢
   refine ⟨_,rfl,_,rfl,_,rfl,_,rfl,lenOk 4,fun ta3 ma3=>?_⟩
   have sa3:=Same.new (o:=.tup (four u.t near high u.r)) ma3
   have ea3:(upd Ha2 ta3 (.tup (four u.t near high u.r))) ta3=_:=upd_same
   generalize upd Ha2 ta3 (.tup (four u.t near high u.r))=Ha3 at sa3 ea3 ⊢
   refine ⟨lenOk 4,fun la mla=>?_⟩
   have sla:=Same.new (o:=.lst [.ref ta0,.ref ta1,.ref ta2,.ref ta3]) mla
   have ela:(upd Ha3 la (.lst [.ref ta0,.ref ta1,.ref ta2,.ref ta3])) la=_:=upd_same
   generalize upd Ha3 la (.lst [.ref ta0,.ref ta1,.ref ta2,.ref ta3])=HLa at sla ela ⊢
   have aqa:At HLa [(ta0,⟨u.t,u.l,low,near⟩),(ta1,⟨low,u.l,u.b,far⟩),(ta2,⟨high,far,u.b,u.r⟩),(ta3,⟨u.t,near,high,u.r⟩)]:=fun x hx=>by
    simp only [List.mem_cons,List.not_mem_nil,or_false] at hx
    rcases hx with rfl | rfl | rfl | rfl
    ·exact (sa1.trans (sa2.trans (sa3.trans (sla)))) _ _ ea0
    ·exact (sa2.trans (sa3.trans (sla))) _ _ ea1
    ·exact (sa3.trans (sla)) _ _ ea2
    ·exact (sla) _ _ ea3
   have sxa:=(SameX.refl (p:=p) (H:=H3)).trans (SameX.of (sa0.trans (sa1.trans (sa2.trans (sa3.trans (sla))))))
   have ep7:HLa p=some (.lst [.int z3p]):=(sa0.trans (sa1.trans (sa2.trans (sa3.trans sla)))) _ _ e3p
   have nla:la≠p:=fun z=>by rw [z] at ela; rw [ep7] at ela; cases ela
   refine ⟨_,rfl,p,z3p,2,rfl,ep7,by decide,by decide,fun r8 z8 k8 k9=>?_⟩
   have s8:=sxa.trans (SameX.upd (p:=p) (o:=.lst [.int z8]) (H:=HLa))
   have el8:(upd HLa p (.lst [.int z8])) la=_:=(upd_ne nla).trans ela
   have aq8:=aqa.sx ep7 (SameX.upd (p:=p) (o:=.lst [.int z8]) (H:=HLa))
   generalize upd HLa p (.lst [.int z8])=H8 at s8 el8 aq8 ⊢
   refine ⟨rfl,_,rfl,ite3 (fun c=>?_) (fun c=>?_)⟩
   ·skip
    refine ⟨_,rfl,_,rfl,_,rfl,_,rfl,lenOk 4,fun tb0 mb0=>?_⟩
    have sb0:=Same.new (o:=.tup (four u.t u.l high far)) mb0
    have eb0:(upd H8 tb0 (.tup (four u.t u.l high far))) tb0=_:=upd_same
    generalize upd H8 tb0 (.tup (four u.t u.l high far))=Hb0 at sb0 eb0 ⊢
    refine ⟨_,rfl,_,rfl,_,rfl,_,rfl,lenOk 4,fun tb1 mb1=>?_⟩
    have sb1:=Same.new (o:=.tup (four u.t far low u.r)) mb1
    have eb1:(upd Hb0 tb1 (.tup (four u.t far low u.r))) tb1=_:=upd_same
    generalize upd Hb0 tb1 (.tup (four u.t far low u.r))=Hb1 at sb1 eb1 ⊢
    refine ⟨_,rfl,_,rfl,_,rfl,_,rfl,lenOk 4,fun tb2 mb2=>?_⟩
    have sb2:=Same.new (o:=.tup (four low near u.b u.r)) mb2
    have eb2:(upd Hb1 tb2 (.tup (four low near u.b u.r))) tb2=_:=upd_same
    generalize upd Hb1 tb2 (.tup (four low near u.b u.r))=Hb2 at sb2 eb2 ⊢
    refine ⟨_,rfl,_,rfl,_,rfl,_,rfl,lenOk 4,fun tb3 mb3=>?_⟩
    have sb3:=Same.new (o:=.tup (four high u.l u.b near)) mb3
    have eb3:(upd Hb2 tb3 (.tup (four high u.l u.b near))) tb3=_:=upd_same
    generalize upd Hb2 tb3 (.tup (four high u.l u.b near))=Hb3 at sb3 eb3 ⊢
    refine ⟨lenOk 4,fun lb mlb=>?_⟩
    have slb:=Same.new (o:=.lst [.ref tb0,.ref tb1,.ref tb2,.ref tb3]) mlb
    have elb:(upd Hb3 lb (.lst [.ref tb0,.ref tb1,.ref tb2,.ref tb3])) lb=_:=upd_same
    generalize upd Hb3 lb (.lst [.ref tb0,.ref tb1,.ref tb2,.ref tb3])=HLb at slb elb ⊢
    have aqb:At HLb [(tb0,⟨u.t,u.l,high,far⟩),(tb1,⟨u.t,far,low,u.r⟩),(tb2,⟨low,near,u.b,u.r⟩),(tb3,⟨high,u.l,u.b,near⟩)]:=fun x hx=>by
     simp only [List.mem_cons,List.not_mem_nil,or_false] at hx
     rcases hx with rfl | rfl | rfl | rfl
     ·exact (sb1.trans (sb2.trans (sb3.trans (slb)))) _ _ eb0
     ·exact (sb2.trans (sb3.trans (slb))) _ _ eb1
     ·exact (sb3.trans (slb)) _ _ eb2
     ·exact (slb) _ _ eb3
    have sxb:=s8.trans (SameX.of (sb0.trans (sb1.trans (sb2.trans (sb3.trans (slb))))))
    refine fin D lb [(tb0,⟨u.t,u.l,high,far⟩),(tb1,⟨u.t,far,low,u.r⟩),(tb2,⟨low,near,u.b,u.r⟩),(tb3,⟨high,u.l,u.b,near⟩)] at' high low near far x4 _ _ _ _ HLb (sxb _ _ nlp e1) (a1.sx e3p sxb) elb aqb rfl at0' at1' fun l' ts' H5 s5 e5' a5 hr n5=>rt l' ts' H5 _ (sxb.trans (SameX.of s5)) e5' a5 (.inr rfl) hr n5
   ·refine fin D la [(ta0,⟨u.t,u.l,low,near⟩),(ta1,⟨low,u.l,u.b,far⟩),(ta2,⟨high,far,u.b,u.r⟩),(ta3,⟨u.t,near,high,u.r⟩)] at' high low near far x4 _ _ _ _ H8 (s8 _ _ nlp e1) (a1.sx e3p s8) el8 aq8 rfl at0' at1' fun l' ts' H5 s5 e5' a5 hr n5=>rt l' ts' H5 _ (s8.trans (SameX.of s5)) e5' a5 (.inl rfl) hr n5
  refine ⟨_,(pss_cons (ps_setCompF rfl (pg_name (i:=4) S.nd rfl (Or.inl rfl)) (pi_range1 rfl T.z_range (pa_cons (pe_callB call_len_seq rfl T.z_len rfl (pa_cons (pv 2) pa_nil)) pa_nil)) (fun _ _ _ _ _=>(pg_name (i:=0) (show List.Nodup (["_law_at","_law_panes"]:List Str) from by decide +kernel) rfl (Or.inl rfl))) (fun _ _ _ _ _=>(pt_cmpR op_gt (pe_callB (call_min2 rfl) rfl T.z_min rfl (pa_cons (pe_op op_sub (pe_ix (ix_tupK (K:=K)) (pe_ix (ix_listK (K:=K)) (pv 1) (pv 0) (fun _ _=>rfl)) pe_int (fun _ _=>rfl)) (pe_ix (ix_tupK (K:=K)) (pe_ix (ix_listK (K:=K)) (pv 1) (pv 0) (fun _ _=>rfl)) pe_int (fun _ _=>rfl))) (pa_cons (pe_op op_sub (pe_ix (ix_tupK (K:=K)) (pe_ix (ix_listK (K:=K)) (pv 1) (pv 0) (fun _ _=>rfl)) pe_int (fun _ _=>rfl)) (pe_ix (ix_tupK (K:=K)) (pe_ix (ix_listK (K:=K)) (pv 1) (pv 0) (fun _ _=>rfl)) pe_int (fun _ _=>rfl))) pa_nil))) pe_int (nomark _))) (fun _ _ _ _ _=>(pv 0)) (N:=["_law_at","_law_panes"]) (fr:=[none,some 2]))
   (pss_cons (ps_if (pt_cmpR op_eq (pe_callB call_len_seq rfl T.z_len rfl (pa_cons (pv 4) pa_nil)) pe_int (nomark _)) (pss_one (ps_ret (pv 2))) pss_nil)
   (pss_cons (ps_set (i:=5) S.nd rfl (Or.inl rfl) (pe_ix ix_list (pv 4) (pe_fn D__law_take hr (pa_cons (pv 3) (pa_cons (pe_callB call_len_seq rfl T.z_len rfl (pa_cons (pv 4) pa_nil)) pa_nil))) (fun _ _=>rfl)))
   (pss_cons (ps_asg (pe_ix ix_list (pv 2) (pv 5) (fun _ _=>rfl)) (pg_tup rfl (pgs_cons (pg_name (i:=6) S.nd rfl (Or.inl rfl)) (pgs_cons (pg_name (i:=7) S.nd rfl (Or.inl rfl)) (pgs_cons (pg_name (i:=8) S.nd rfl (Or.inl rfl)) (pgs_cons (pg_name (i:=9) S.nd rfl (Or.inl rfl)) pgs_nil))))))
   (pss_cons (ps_set (i:=10) S.nd rfl (Or.inl rfl) (pe_op op_add (pe_op op_add (pv 6) pe_int) (pe_fn D__law_take hr (pa_cons (pv 3) (pa_cons (pe_op op_sub (pe_op op_sub (pv 8) (pv 6)) pe_int) pa_nil)))))
   (pss_cons (ps_set (i:=11) S.nd rfl (Or.inl rfl) (pe_op op_add (pe_op op_add (pv 10) pe_int) (pe_fn D__law_take hr (pa_cons (pv 3) (pa_cons (pe_op op_sub (pe_op op_sub (pv 8) (pv 10)) pe_int) pa_nil)))))
   (pss_cons (ps_set (i:=12) S.nd rfl (Or.inl rfl) (pe_op op_add (pe_op op_add (pv 7) pe_int) (pe_fn D__law_take hr (pa_cons (pv 3) (pa_cons (pe_op op_sub (pe_op op_sub (pv 9) (pv 7)) pe_int) pa_nil)))))
   (pss_cons (ps_set (i:=13) S.nd rfl (Or.inl rfl) (pe_op op_add (pe_op op_add (pv 12) pe_int) (pe_fn D__law_take hr (pa_cons (pv 3) (pa_cons (pe_op op_sub (pe_op op_sub (pv 9) (pv 12)) pe_int) pa_nil)))))
   hw8)))))))),?_⟩
  refine ⟨_,rfl,l,_,rfl,.inl (SqL.of hl),((refs ts).length:Int),rfl,by omega,by omega,fun acc hacc=>comp_rangeF (lo:=0) (n:=((refs ts).length:Int).toNat) (fun i xs σ H'=>(∃ y,σ=[y,some (.ref l)])∧Same H H'∧∃ ss:List Int,xs=ss.map V.int∧∀ x∈ss,∃ (j:Nat) (u:Addr × Rc),x=j∧ts[j]?=some u∧2 < u.2.b - u.2.t∧2 < u.2.r - u.2.l) ⟨⟨none,rfl⟩,Same.new hacc,[],rfl,fun x h=>absurd h List.not_mem_nil⟩ ?_ ?_⟩
  ·rintro i xs σ H1 hi hxl hacc' ⟨⟨y,rfl⟩,s1,ss,rfl,hss⟩
   rw [Int.zero_add]
   have hi':i < ts.length:=by omega
   have hu':ts[i]?=some ts[i]:=List.getElem?_eq_getElem hi'
   generalize ts[i]=u at hu'
   have hum:=List.mem_of_getElem? hu'
   have gu:atI (refs ts) (i:Int)=some (.ref u.1):=atI_nat (by rw [List.getElem?_map,hu']; rfl)
   have hua:=s1 _ _ (hat u hum)
   have hl1:=s1 _ _ hl
   refine ⟨_,rfl,_,rfl,l,_,_,_,rfl,rfl,SqL.of hl1,gu,u.1,_,_,_,rfl,rfl,SqT.of hua,at2,_,rfl,_,rfl,l,_,_,_,rfl,rfl,SqL.of hl1,gu,u.1,_,_,_,rfl,rfl,SqT.of hua,at0,_,_,rfl,rfl,?_⟩
   refine ⟨_,rfl,_,rfl,l,_,_,_,rfl,rfl,SqL.of hl1,gu,u.1,_,_,_,rfl,rfl,SqT.of hua,at3,_,rfl,_,rfl,l,_,_,_,rfl,rfl,SqL.of hl1,gu,u.1,_,_,_,rfl,rfl,SqT.of hua,at1,_,_,rfl,rfl,?_⟩
   refine ⟨_,_,rfl,_,_,rfl,rfl,_,rfl,?_⟩
   cases hc:decide (2 < if u.2.r - u.2.l < u.2.b - u.2.t then u.2.r - u.2.l else u.2.b - u.2.t) with
   | true =>
    have hc':=of_decide_eq_true hc
    have h2:2 < u.2.b - u.2.t∧2 < u.2.r - u.2.l:=by split at hc' <;> omega
    refine ⟨_,rfl,fNx.mk (Nat.le_of_lt (small1000 (by omega))) hi hxl hacc' ⟨⟨_,rfl⟩,fun c o e=>?_,ss++[(i:Int)],by rw [List.map_append]; rfl,fun x hx=>?_⟩⟩
    ·rw [upd_ne (ne_of_none e hacc)]; exact s1 c o e
    ·rcases List.mem_append.mp hx with hx | hx
     ·exact hss x hx
     ·exact ⟨i,u,List.mem_singleton.mp hx,hu',h2⟩
   | false=>exact fSk.mk hi hxl hacc' ⟨⟨_,rfl⟩,s1,ss,rfl,hss⟩
  ·rintro xs σ H1 hxl hacc' ⟨_,s1,ss,rfl,hss⟩
   have hl1:=s1 _ _ hl
   have ep:=s1 _ _ hp
   have na:acc≠p:=Ne.symm (ne_of_none hp hacc)
   refine ⟨_,rfl,acc,_,rfl,.inl (SqL.of hacc'),rfl,_,rfl,ite3 (fun c0=>?_) (fun c0=>?_)⟩
   ·exact ⟨_,rfl,k l ts H1 (SameX.of s1) hl1 (hat.same s1) til (by omega)⟩
   have pos:0 < ss.length:=by
    cases ss with
    | nil=>exact absurd rfl (of_decide_eq_false c0)
    | cons a r=>simp
   have sl:(ss.map V.int).length=ss.length:=List.length_map _
   have few':ss.length≤41:=by rw [sl] at hxl; omega
   refine ⟨_,rfl,_,rfl,_,rfl,acc,_,rfl,.inl (SqL.of hacc'),p,z,_,rfl,ep,by rw [sl]; omega,by rw [sl]; omega,fun ix z2 i0 i1=>?_⟩
   rw [sl] at i1
   have s2:=(SameX.of s1).trans (SameX.upd (p:=p) (o:=.lst [.int z2]) (H:=H1))
   have e2:(upd H1 p (.lst [.int z2])) p=some (.lst [.int z2]):=upd_same
   have ea2:(upd H1 p (.lst [.int z2])) acc=some (.lst (ss.map V.int)):=by rw [upd_ne na]; exact hacc'
   generalize upd H1 p (.lst [.int z2])=H2 at s2 e2 ea2 ⊢
   have i2:ix.toNat < ss.length:=by omega
   obtain ⟨j,u,hj,hu',hb,hw'⟩:=hss ss[ix.toNat] (List.getElem_mem i2)
   have gi:atI (ss.map V.int) ix=some (.int (j:Int)):=by
    have e:=atI_nat (xs:=ss.map V.int) (j:=ix.toNat) (v:=.int ss[ix.toNat]) (by rw [List.getElem?_map,List.getElem?_eq_getElem i2]; rfl)
    rw [Int.toNat_of_nonneg i0,hj] at e
    exact e
   have hjl:j < ts.length:=(List.getElem?_eq_some_iff.mp hu').1
   have hum:=List.mem_of_getElem? hu'
   have gu:atI (refs ts) (j:Int)=some (.ref u.1):=atI_nat (by rw [List.getElem?_map,hu']; rfl)
   obtain ⟨b1,b2,b3,b4,b5,b6⟩:=til.ins u.2 (List.mem_map.mpr ⟨u,hum,rfl⟩)
   have lk:∀ {Hk:Hp},SameX p H Hk→Hk l=some (.lst (refs ts)):=fun sx=>sx _ _ (ref_ne hp hl) hl
   have ak:∀ {Hk:Hp},SameX p H Hk→At Hk ts:=fun sx=>hat.sx hp sx
   refine ⟨acc,_,_,_,rfl,rfl,SqL.of ea2,gi,?_⟩
   refine ⟨_,rfl,_,rfl,l,_,_,_,rfl,rfl,SqL.of (lk s2),gu,u.1,_,rfl,SqT.of (ak s2 u hum),rfl,_,_,rfl,_,_,rfl,_,_,rfl,_,_,rfl,rfl,?_⟩
   refine ⟨_,rfl,_,_,rfl,rfl,_,rfl,_,rfl,_,rfl,_,_,rfl,rfl,_,_,rfl,rfl,p,z2,u.2.b - u.2.t - 2,rfl,e2,by omega,by omega,fun r3 z3 k0 k1=>rI0_add (i:=u.2.t+1) (j:=r3) ?_⟩
   have s3:=s2.trans (SameX.upd (o:=.lst [.int z3]) (H:=H2))
   have e3:(upd H2 p (.lst [.int z3])) p=some (.lst [.int z3]):=upd_same
   generalize upd H2 p (.lst [.int z3])=H3 at s3 e3 ⊢
   have hg:u.2.t < u.2.t+1+r3∧u.2.t+1+r3 < u.2.b - 1:=by omega
   generalize u.2.t+1+r3=high at hg ⊢
   refine ⟨_,rfl,_,_,rfl,rfl,_,rfl,_,rfl,_,rfl,_,_,rfl,rfl,_,_,rfl,rfl,p,z3,u.2.b - high - 1,rfl,e3,by omega,by omega,fun r4 z4 k2 k3=>rI0_add (i:=high+1) (j:=r4) ?_⟩
   have s4:=s3.trans (SameX.upd (o:=.lst [.int z4]) (H:=H3))
   have e4:(upd H3 p (.lst [.int z4])) p=some (.lst [.int z4]):=upd_same
   generalize upd H3 p (.lst [.int z4])=H4 at s4 e4 ⊢
   have lo:high < high+1+r4∧high+1+r4 < u.2.b:=by omega
   generalize high+1+r4=low at lo ⊢
   refine ⟨_,rfl,_,_,rfl,rfl,_,rfl,_,rfl,_,rfl,_,_,rfl,rfl,_,_,rfl,rfl,p,z4,u.2.r - u.2.l - 2,rfl,e4,by omega,by omega,fun r5 z5 k4 k5=>rI0_add (i:=u.2.l+1) (j:=r5) ?_⟩
   have s5:=s4.trans (SameX.upd (o:=.lst [.int z5]) (H:=H4))
   have e5:(upd H4 p (.lst [.int z5])) p=some (.lst [.int z5]):=upd_same
   generalize upd H4 p (.lst [.int z5])=H5 at s5 e5 ⊢
   have ne:u.2.l < u.2.l+1+r5∧u.2.l+1+r5 < u.2.r - 1:=by omega
   generalize u.2.l+1+r5=near at ne ⊢
   refine ⟨_,rfl,_,_,rfl,rfl,_,rfl,_,rfl,_,rfl,_,_,rfl,rfl,_,_,rfl,rfl,p,z5,u.2.r - near - 1,rfl,e5,by omega,by omega,fun r6 z6 k6 k7=>rI0_add (i:=near+1) (j:=r6) ?_⟩
   have s6:=s5.trans (SameX.upd (o:=.lst [.int z6]) (H:=H5))
   have e6:(upd H5 p (.lst [.int z6])) p=some (.lst [.int z6]):=upd_same
   generalize upd H5 p (.lst [.int z6])=H6 at s6 e6 ⊢
   have fa:near < near+1+r6∧near+1+r6 < u.2.r:=by omega
   generalize near+1+r6=far at fa ⊢
   have til':Tiles ww hh (rcs (ts.take j)++u.2 :: rcs (ts.drop (j+1))):=by
    have:=take_drop_at hu'
    have e:rcs ts=rcs (ts.take j)++u.2 :: rcs (ts.drop (j+1)):=by
     conv=>lhs; rw [this]
     simp [rcs]
    rw [← e]; exact til
   refine fin8 _ u.2 j high low near far z6 _ _ H6 e6 (lk s6) (ak s6) (by omega) (by omega) fun l' ts' H7 qs s7 e7 a7 hq hr n7=>?_
   refine k l' ts' H7 (s6.trans s7) e7 a7 ?_ (by omega)
   rw [hr,Int.toNat_natCast]
   exact five_ok til' hg.1 lo.1 lo.2 ne.1 fa.1 fa.2 hq
theorem S_law_drawn:FnScope ["_law_script","_law_purse_here","_law_width","_law_height","_law_panes"] ["_law_script"] (defScope s__law_drawn):=⟨rfl,rfl,rfl,by decide +kernel,rfl,by decide +kernel,by decide +kernel⟩
abbrev N_drawn:List Str:=["_law_script","_law_purse_here","_law_width","_law_height","_law_panes"]
theorem ok_law_drawn {f:Addr} {fd:FuncData} (F:Fun K "_law_drawn" "_law_drawn" s__law_drawn f fd) (D__law_purse:DefOk P w K mg base 1 "_law_purse" ["_law_script","_law_k"] (sp_purse K)) (D__law_take:DefOk P w K mg base 1 "_law_take" ["_law_purse_here","_law_many"] sp_take)
  (D__law_cut_up:DefOk P w K mg base 2 "_law_cut_up" ["_law_script","_law_k","_law_width","_law_height","_law_many"] (sp_cutup K)) (D__law_tiled:DefOk P w K mg base 2 "_law_tiled" ["_law_script","_law_k","_law_width","_law_height"] (sp_tiled K)) (D__law_wheel:DefOk P w K mg base 2 "_law_wheel" ["_law_script","_law_k","_law_panes","_law_purse_here"] sp_wheel):FnOk P w K mg base CX0 3 f fd ["_law_script"] (sp_drawn K):=by
 have S:=S_law_drawn
 refine F.ok S (fun vs H Q E h=>?_) (fun cdv A outer s H vs Q E hr h=>?_)
 ·obtain ⟨a,ns,rfl,_⟩:=h; rfl
 ·obtain ⟨a,ns,rfl,hS,k⟩:=h
  obtain ⟨tr,hdr,fin⟩:∃ rd,PSs (cxOf CX0 P w K mg base N_drawn "_law_drawn" (defScope s__law_drawn) f cdv A outer s H E).nox ((defBody s__law_drawn).drop 5) rd ∧
    ∀ (D:Ends) (lp:Addr) (ts:List (Addr × Rc)) (ww hh:Int) (x1:Option V) (H3:Hp),D.rt=Q→Same H H3→H3 lp=some (.lst (refs ts))→At H3 ts→Tiles ww hh (rcs ts)→ts.length≤52→(1≤ww∧ww≤12)→(1≤hh∧hh≤12)→rd D [some (.ref a),x1,some (.int ww),some (.int hh),some (.ref lp)] H3:=by
   refine ⟨_,(pss_one (ps_ret (pe_tup (pa_cons (pv 2) (pa_cons (pv 3) (pa_cons (pv 4) pa_nil)))))),?_⟩
   intro D lp ts ww hh x1 H3 hD s3 el at3 til few gw gh
   refine ⟨_,rfl,_,rfl,_,rfl,lenOk 3,fun t ht=>?_⟩
   rw [hD]
   have s4:=Same.new (o:=.tup [.int ww,.int hh,.ref lp]) ht
   exact k t lp ww hh ts _ (s3.trans s4) upd_same (s4 _ _ el) (at3.same s4) til few gw gh
  refine ⟨_,(pss_cons (ps_set (i:=1) S.nd rfl (Or.inl rfl) (pe_fn D__law_purse hr (pa_cons (pv 0) (pa_cons pe_int pa_nil))))
   (pss_cons (ps_set (i:=2) S.nd rfl (Or.inl rfl) (pe_op op_add pe_int (pe_fn D__law_take hr (pa_cons (pv 1) (pa_cons pe_int pa_nil)))))
   (pss_cons (ps_set (i:=3) S.nd rfl (Or.inl rfl) (pe_op op_add pe_int (pe_fn D__law_take hr (pa_cons (pv 1) (pa_cons pe_int pa_nil)))))
   (pss_cons (ps_set (i:=4) S.nd rfl (Or.inl rfl) (pe_fn D__law_tiled hr (pa_cons (pv 0) (pa_cons pe_int (pa_cons (pv 2) (pa_cons (pv 3) pa_nil))))))
   (pss_cons (ps_if (pt_cmpR op_eq (pe_fn D__law_take hr (pa_cons (pv 1) (pa_cons pe_int pa_nil))) pe_int (nomark _)) (pss_cons (ps_set (i:=4) S.nd rfl (Or.inl rfl) (pe_fn D__law_cut_up hr (pa_cons (pv 0) (pa_cons pe_int (pa_cons (pv 2) (pa_cons (pv 3) (pa_cons (pe_fn D__law_take hr (pa_cons (pv 1) (pa_cons pe_int pa_nil))) pa_nil)))))))
   (pss_one (ps_if (pt_cmpR op_eq (pe_fn D__law_take hr (pa_cons (pv 1) (pa_cons pe_int pa_nil))) pe_int (nomark _)) (pss_one (ps_set (i:=4) S.nd rfl (Or.inl rfl) (pe_fn D__law_wheel hr (pa_cons (pv 0) (pa_cons pe_int (pa_cons (pv 4) (pa_cons (pv 1) pa_nil))))))) pss_nil))) pss_nil)
   hdr))))),?_⟩
  refine ⟨_,rfl,a,ns,0,rfl,hS,by omega,by omega,fun p z hp=>?_⟩
  have sp:=Same.new (o:=.lst [.int z]) hp
  have ep:(upd H p (.lst [.int z])) p=some (.lst [.int z]):=upd_same
  generalize upd H p (.lst [.int z])=H1 at sp ep ⊢
  refine ⟨_,rfl,p,z,12,rfl,ep,by decide,by decide,fun r1 z1 a1 b1=>rI0_add (i:=1) (j:=r1) ?_⟩
  have s1:=SameX.drop sp hp (SameX.upd (o:=.lst [.int z1]) (H:=H1))
  have e1:(upd H1 p (.lst [.int z1])) p=some (.lst [.int z1]):=upd_same
  generalize upd H1 p (.lst [.int z1])=H2 at s1 e1 ⊢
  have gw:1≤1+r1∧1+r1≤12:=by omega
  generalize 1+r1=ww at gw ⊢
  refine ⟨_,rfl,p,z1,12,rfl,e1,by decide,by decide,fun r2 z2 a2 b2=>rI0_add (i:=1) (j:=r2) ?_⟩
  have s2:=SameX.drop s1 hp (SameX.upd (o:=.lst [.int z2]) (H:=H2))
  have e2:(upd H2 p (.lst [.int z2])) p=some (.lst [.int z2]):=upd_same
  generalize upd H2 p (.lst [.int z2])=H3 at s2 e2 ⊢
  have gh:1≤1+r2∧1+r2≤12:=by omega
  generalize 1+r2=hh at gh ⊢
  refine ⟨_,rfl,_,rfl,_,rfl,a,ns,3,ww,hh,rfl,s2.seq hS,by decide,by decide,gw,gh,fun l ts H4 s4 _ hl hat til few=>?_⟩
  have e4:=s4 _ _ e2
  have s04:=s2.trans s4
  refine ⟨_,rfl,p,z2,2,rfl,e4,by decide,by decide,fun r5 z5 a5 b5=>?_⟩
  have s5:=SameX.drop s04 hp (SameX.upd (o:=.lst [.int z5]) (H:=H4))
  have e5:(upd H4 p (.lst [.int z5])) p=some (.lst [.int z5]):=upd_same
  have sx5:=SameX.upd (p:=p) (o:=.lst [.int z5]) (H:=H4)
  have l5:=sx5 _ _ (ref_ne e4 hl) hl
  have at5:=hat.sx e4 sx5
  generalize upd H4 p (.lst [.int z5])=H5 at s5 e5 l5 at5 ⊢
  refine ⟨rfl,_,rfl,ite3 (fun c=>?_) (fun c=>?_)⟩
  ·refine ⟨_,rfl,_,rfl,_,rfl,_,rfl,p,z5,40,rfl,e5,by decide,by decide,fun r6 z6 a6 b6=>?_⟩
   have s6:=SameX.drop s5 hp (SameX.upd (o:=.lst [.int z6]) (H:=H5))
   have e6:(upd H5 p (.lst [.int z6])) p=some (.lst [.int z6]):=upd_same
   generalize upd H5 p (.lst [.int z6])=H6 at s6 e6 ⊢
   refine ⟨a,ns,3,ww,hh,r6,rfl,s6.seq hS,by decide,by decide,gw,gh,by omega,by omega,fun l7 ts7 H7 s7 hl7 hat7 til7 few7=>?_⟩
   have e7:=s7 _ _ e6
   have s07:=s6.trans s7
   refine ⟨_,rfl,p,z6,2,rfl,e7,by decide,by decide,fun r8 z8 a8 b8=>?_⟩
   have s8:=SameX.drop s07 hp (SameX.upd (o:=.lst [.int z8]) (H:=H7))
   have e8:(upd H7 p (.lst [.int z8])) p=some (.lst [.int z8]):=upd_same
   have sx8:=SameX.upd (p:=p) (o:=.lst [.int z8]) (H:=H7)
   have l8:=sx8 _ _ (ref_ne e7 hl7) hl7
   have at8:=hat7.sx e7 sx8
   generalize upd H7 p (.lst [.int z8])=H8 at s8 e8 l8 at8 ⊢
   refine ⟨rfl,_,rfl,ite3 (fun c=>?_) (fun c=>?_)⟩
   ·refine ⟨_,rfl,_,rfl,_,rfl,l7,p,.ref a,3,z8,ww,hh,ts7,rfl,e8,l8,at8,til7,by omega,gw,gh,fun l9 ts9 H9 sx9 hl9 hat9 til9 few9=>?_⟩
    exact fin _ l9 ts9 ww hh _ H9 rfl (SameX.drop s8 hp sx9) hl9 hat9 til9 few9 gw gh
   ·exact fin _ l7 ts7 ww hh _ H8 rfl s8 l8 at8 til7 (by omega) gw gh
  ·exact fin _ l ts ww hh _ H5 rfl s5 l5 at5 til few gw gh
theorem blk_is {w h:Int} {ps:List Rc} {q:Rc} (h1:q.b≤h) (h2:q.r≤w) (bt:0≤q.t∧q.t < q.b) (bl:0≤q.l∧q.l < q.r):blk w h ps q=okA ps q:=by
 have e1:rectR q=true:=by
  show (decide (0≤q.t) && decide (q.t < q.b) && (decide (0≤q.l) && decide (q.l < q.r)))=true
  rw [decide_eq_true bt.1,decide_eq_true bt.2,decide_eq_true bl.1,decide_eq_true bl.2]; rfl
 have e2:insR q ⟨0,0,h,w⟩=true:=by
  show (decide (0≤q.t) && decide (0≤q.l) && (decide (q.b≤h) && decide (q.r≤w)))=true
  rw [decide_eq_true bt.1,decide_eq_true bl.1,decide_eq_true h1,decide_eq_true h2]; rfl
 unfold blk
 rw [e1,e2]; rfl
theorem PanelAt.sx {C:Addr} {H H':Hp} {a p:Addr} {z w h:Int} {ts:List (Addr × Rc)} {dx ls ld:Addr} {kvs:List (List Key × V)} (q:PanelAt C H a w h ts dx ls ld kvs) (hp:H p=some (.lst [.int z])) (s:SameX p H H'):PanelAt C H' a w h ts dx ls ld kvs :=
 ⟨s _ _ (ne_of q.ob hp (by intro z; cases z)) q.ob,s _ _ (ref_ne hp q.lst) q.lst,s _ _ (ne_of q.dic hp (by intro z; cases z)) q.dic,q.ats.sx hp s,q.til,q.few,q.srt,q.look,q.sw,q.sh⟩
abbrev N_law:List Str:=["_law_script","_law_width","_law_height","_law_panes","_law_panel","_law_purse_here","_law_block","_law_one","_law_other","_law_near","_law_due_here","_law_found"]
theorem S_law:FnScope N_law ["_law_script"] (defScope s_law):=⟨rfl,rfl,rfl,by decide +kernel,rfl,by decide +kernel,by decide +kernel⟩
theorem ok_lawB {f:Addr} {cdv:Value} {A:Around} {outer:List Env} {s:Shared} {H:Hp} {E:XK} {Q:VK} {v0:Option V} (hr:Room 6 (A.deeper (PyProof.Rows.envOfC "law" (defScope s_law) s.heap.objs.size f cdv))) (k:∀ H',Q (.bl true) H') (D__law_points:DefOk P w K mg base 1 "_law_points" ["_law_panes"] (sp_points K)) (D__law_due:DefOk P w K mg base 2 "_law_due" ["_law_owned","_law_block"] sp_due) (D_leads:DefOk P w K mg base 5 "leads" ["panel","block"] (sp_leads C)) (D__law_right:DefOk P w K mg base 1 "_law_right" ["_law_found","_law_due_here"] sp_right) :
  ∃ rd,PSs (cxOf CX0 P w K mg base N_law "law" (defScope s_law) f cdv A outer s H E).nox ((defBody s_law).drop 8) rd ∧
   ∀ (D:Ends) (lp x b dx ls ld:Addr) (ww hh:Int) (ts ts1:List (Addr × Rc)) (kvs:List (List Key × V)) (q:Rc) (x5 x7 x8 x9 x10 x11:Option V) (H3:Hp),D.rt=Q→H3 lp=some (.lst (refs ts))→At H3 ts→Tiles ww hh (rcs ts)→ts.length≤52→(1≤ww∧ww≤12)→(1≤hh∧hh≤12)→PanelAt C H3 x ww hh ts1 dx ls ld kvs→ts1.Perm ts→H3 b=some (.tup (four q.t q.l q.b q.r))→q.In ww hh→blk ww hh (rcs ts1) q=true →
    rd D [v0,some (.int ww),some (.int hh),some (.ref lp),some (.ref x),x5,some (.ref b),x7,x8,x9,x10,x11] H3:=by
 have S:=S_law
 refine ⟨_,(pss_cons (ps_set (i:=10) S.nd rfl (Or.inl rfl) (pe_fn D__law_due hr (pa_cons (pe_fn D__law_points hr (pa_cons (pv 3) pa_nil)) (pa_cons (pv 6) pa_nil))))
   (pss_cons (ps_set (i:=11) S.nd rfl (Or.inl rfl) (pe_fn D_leads hr (pa_cons (pv 4) (pa_cons (pv 6) pa_nil))))
   (pss_cons (ps_if (pt_not (pt_val (pe_fn D__law_right hr (pa_cons (pv 11) (pa_cons (pv 10) pa_nil))))) (pss_one (ps_ret pe_bl)) pss_nil)
   (pss_cons (ps_expr (pe_bm PySem.F.plainAttrs_list PySem.F.slot_list_append PySem.F.type_list_append mt_append (pv 11) (pa_cons pe_non pa_nil)))
   (pss_one (ps_ret (pe_fn D__law_right hr (pa_cons (pe_fn D_leads hr (pa_cons (pv 4) (pa_cons (pv 6) pa_nil))) (pa_cons (pv 10) pa_nil))))))))),?_⟩
 intro D lp x b dx ls ld ww hh ts ts1 kvs q x5 x7 x8 x9 x10 x11 H3 hD el at3 til few gw gh pn pm hb qi hk
 have qi':=qi
 obtain ⟨q1,q2,q3,q4,q5,q6⟩:=qi
 refine ⟨_,rfl,lp,ts,ww,hh,rfl,SqL.of el,at3,til,few,gw.2,gh.2,fun d kv H4 s4 hd ed od=>?_⟩
 refine ⟨_,rfl,d,b,ww,hh,rcs ts,kv,q,rfl,ed,od,til,s4 _ _ hb,qi',gw.2,gh.2,fun dd ds H5 s5 hdd edd ndd hds=>?_⟩
 have s35:=s4.trans s5
 refine ⟨_,rfl,_,rfl,x,dx,ls,ld,b,ww,hh,ts1,kvs,q,rfl,pn.same s35,s35 _ _ hb,qi',hk,fun l us H6 s6 hl e6 a6 r6=>?_⟩
 obtain ⟨n1,n2⟩:=leads_len (ps:=rcs ts1) qi' gw.2 gh.2
 have two:∀ us:List (Addr × LD),us.map (·.2)=lvsOf (rcs ts1) q++upsOf (rcs ts1) q→(us.map (·.2)).Nodup∧(∀ x,x∈us.map (·.2)↔x∈ds)∧us.length≤1000:=fun us r=>by
  refine ⟨by rw [r]; exact leads_nodup (by omega) (by omega),fun x=>?_,?_⟩
  ·rw [r,leads_mem (by omega) (by omega),hds,lead_perm til.dis (pm.map _)]
  ·have:(us.map (·.2)).length=(lvsOf (rcs ts1) q++upsOf (rcs ts1) q).length:=by rw [r]
   rw [List.length_map,List.length_append] at this
   omega
 obtain ⟨t1,t2,t3⟩:=two us r6
 refine ⟨_,rfl,_,rfl,l,dd,us,ds,rfl,e6,a6,s6 _ _ edd,t1,ndd,t2,t3,fun H7 s7=>⟨_,rfl,iteN rfl ?_⟩⟩
 have e7:=s7 _ _ e6
 refine ⟨_,rfl,.inl ⟨rfl,_,SqL.of e7⟩,l,_,_,rfl,rfl,e7,small1000 (by rw [List.length_map]; omega),?_⟩
 have s58:Same H5 (upd H7 l (.lst (refsL us++[.non]))):=fun c o e=>by rw [upd_ne (ne_of_none e hl)]; exact (s6.trans s7) c o e
 generalize upd H7 l (.lst (refsL us++[.non]))=H8 at s58 ⊢
 have s38:=s35.trans s58
 refine ⟨_,rfl,_,rfl,x,dx,ls,ld,b,ww,hh,ts1,kvs,q,rfl,pn.same s38,s38 _ _ hb,qi',hk,fun l' us' H9 s9 hl' e9 a9 r9=>?_⟩
 obtain ⟨t4,t5,t6⟩:=two us' r9
 refine ⟨_,rfl,l',dd,us',ds,rfl,e9,a9,(s58.trans s9) _ _ edd,t4,ndd,t5,t6,fun HA sA=>?_⟩
 rw [hD]
 exact k HA
theorem ok_law {f:Addr} {fd:FuncData} (F:Fun K "law" "law" s_law f fd) (T:Txt mg tk) (D__law_drawn:DefOk P w K mg base 3 "_law_drawn" ["_law_script"] (sp_drawn K)) (K_Panel:MkOk P w K mg base 4 "Panel" C ["self","width","height","panes"] (sp_Panel K C)) (D__law_purse:DefOk P w K mg base 1 "_law_purse" ["_law_script","_law_k"] (sp_purse K)) (D__law_take:DefOk P w K mg base 1 "_law_take" ["_law_purse_here","_law_many"] sp_take) (D__law_panes_in:DefOk P w K mg base 1 "_law_panes_in" ["_law_panes","_law_block"] (sp_lpin K)) (D__law_points:DefOk P w K mg base 1 "_law_points" ["_law_panes"] (sp_points K)) (D__law_due:DefOk P w K mg base 2 "_law_due" ["_law_owned","_law_block"] sp_due) (D_leads:DefOk P w K mg base 5 "leads" ["panel","block"] (sp_leads C)) (D__law_right:DefOk P w K mg base 1 "_law_right" ["_law_found","_law_due_here"] sp_right):FnOk P w K mg base CX0 7 f fd ["_law_script"] (sp_law K):=by
 have S:=S_law
 refine F.ok S (fun vs H Q E h=>?_) (fun cdv A outer s H vs Q E hr h=>?_)
 ·obtain ⟨a,ns,rfl,_⟩:=h; rfl
 ·obtain ⟨a,ns,rfl,hS,hlen,k⟩:=h
  obtain ⟨t8,hl8,fin⟩:=ok_lawB (f:=f) (cdv:=cdv) (A:=A) (outer:=outer) (s:=s) (H:=H) (E:=E) (P:=P) (w:=w) (K:=K) (mg:=mg) (base:=base) (v0:=some (.ref a)) hr k D__law_points D__law_due D_leads D__law_right
  refine ⟨_,(pss_cons (ps_asg (pe_fn D__law_drawn hr (pa_cons (pv 0) pa_nil)) (pg_tup rfl (pgs_cons (pg_name (i:=1) S.nd rfl (Or.inl rfl)) (pgs_cons (pg_name (i:=2) S.nd rfl (Or.inl rfl)) (pgs_cons (pg_name (i:=3) S.nd rfl (Or.inl rfl)) pgs_nil)))))
   (pss_cons (ps_set (i:=4) S.nd rfl (Or.inl rfl) (pe_mk K_Panel hr (pa_cons (pv 1) (pa_cons (pv 2) (pa_cons (pe_callTy call_list_of rfl T.z_list rfl (pa_cons (pv 3) pa_nil)) pa_nil)))))
   (pss_cons (ps_set (i:=5) S.nd rfl (Or.inl rfl) (pe_fn D__law_purse hr (pa_cons (pv 0) (pa_cons pe_int pa_nil))))
   (pss_cons (ps_set (i:=6) S.nd rfl (Or.inl rfl) (pe_tup (pa_cons pe_int (pa_cons pe_int (pa_cons (pv 2) (pa_cons (pv 1) pa_nil))))))
   (pss_cons (ps_set (i:=7) S.nd rfl (Or.inl rfl) (pe_ix ix_list (pv 3) (pe_fn D__law_take hr (pa_cons (pv 5) (pa_cons (pe_callB call_len_seq rfl T.z_len rfl (pa_cons (pv 3) pa_nil)) pa_nil))) (fun _ _=>rfl)))
   (pss_cons (ps_set (i:=8) S.nd rfl (Or.inl rfl) (pe_ix ix_list (pv 3) (pe_fn D__law_take hr (pa_cons (pv 5) (pa_cons (pe_callB call_len_seq rfl T.z_len rfl (pa_cons (pv 3) pa_nil)) pa_nil))) (fun _ _=>rfl)))
   (pss_cons (ps_set (i:=9) S.nd rfl (Or.inl rfl) (pe_tup (pa_cons (pe_callB (call_min2 rfl) rfl T.z_min rfl (pa_cons (pe_ix ix_tup (pv 7) pe_int (fun _ _=>rfl)) (pa_cons (pe_ix ix_tup (pv 8) pe_int (fun _ _=>rfl)) pa_nil))) (pa_cons (pe_callB (call_min2 rfl) rfl T.z_min rfl (pa_cons (pe_ix ix_tup (pv 7) pe_int (fun _ _=>rfl)) (pa_cons (pe_ix ix_tup (pv 8) pe_int (fun _ _=>rfl)) pa_nil))) (pa_cons (pe_callB (call_max2 rfl) rfl T.z_max rfl (pa_cons (pe_ix ix_tup (pv 7) pe_int (fun _ _=>rfl)) (pa_cons (pe_ix ix_tup (pv 8) pe_int (fun _ _=>rfl)) pa_nil))) (pa_cons (pe_callB (call_max2 rfl) rfl T.z_max rfl (pa_cons (pe_ix ix_tup (pv 7) pe_int (fun _ _=>rfl)) (pa_cons (pe_ix ix_tup (pv 8) pe_int (fun _ _=>rfl)) pa_nil))) pa_nil))))))
   (pss_cons (ps_if (PW.pt (pw_and (pt_cmpR op_eq (pe_fn D__law_take hr (pa_cons (pv 5) (pa_cons pe_int pa_nil))) pe_int (nomark _)) (pw_and1 (pt_cmpR op_notN (pe_fn D__law_panes_in hr (pa_cons (pv 3) (pa_cons (pv 9) pa_nil))) pe_non (nomark _))))) (pss_one (ps_set (i:=6) S.nd rfl (Or.inl rfl) (pv 9))) pss_nil)
   hl8)))))))),?_⟩
  refine ⟨_,rfl,a,ns,rfl,hS,fun t lp ww hh ts H1 s1 ht hlp hat til few gw gh=>⟨t,_,rfl,SqT.of ht,rfl,_,_,rfl,_,_,rfl,_,_,rfl,rfl,?_⟩⟩
  refine ⟨_,rfl,_,rfl,_,rfl,lp,_,rfl,.inl (SqL.of hlp),fun l2 hl2=>?_⟩
  have s2:=s1.trans (Same.new (o:=.lst (refs ts)) hl2)
  have e2:(upd H1 l2 (.lst (refs ts))) l2=some (.lst (refs ts)):=upd_same
  have hlp2:=Same.new (o:=.lst (refs ts)) hl2 _ _ hlp
  have hat2:=hat.same (Same.new (o:=.lst (refs ts)) hl2)
  generalize upd H1 l2 (.lst (refs ts))=H2 at s2 e2 hlp2 hat2 ⊢
  intro x dx nx ndx ne
  have sn:Same H2 (upd (upd H2 dx (.own x)) x (.ins C dx [])):=fun b o e=>by rw [upd_ne (ne_of_none e nx),upd_ne (ne_of_none e ndx)]; exact e
  refine ⟨x,dx,l2,ww,hh,ts,rfl,upd_same,SqL.of (sn _ _ e2),hat2.same sn,til,few,gw,gh,fun ts1 ls ld kvs H3 sx3 pm pn=>⟨rfl,?_⟩⟩
  have s23:Same H2 H3:=fun b o e=>sx3 b o (ne_of_none e nx) (sn _ _ e)
  have s3:=s2.trans s23
  refine ⟨_,rfl,a,ns,1,rfl,s3.seq hS,by decide,by decide,fun p z hp=>?_⟩
  have s4:=Same.new (o:=.lst [.int z]) hp
  have ep:(upd H3 p (.lst [.int z])) p=some (.lst [.int z]):=upd_same
  generalize upd H3 p (.lst [.int z])=H4 at s4 ep ⊢
  have s24:=s23.trans s4
  refine ⟨_,rfl,_,rfl,lenOk 4,fun b0 hb0=>?_⟩
  have s5:=Same.new (o:=.tup (four 0 0 hh ww)) hb0
  have e5:(upd H4 b0 (.tup (four 0 0 hh ww))) b0=some (.tup (four 0 0 hh ww)):=upd_same
  have ep5:=s5 _ _ ep
  generalize upd H4 b0 (.tup (four 0 0 hh ww))=H5 at s5 e5 ep5 ⊢
  have s25:=s24.trans s5
  have l5:=s25 _ _ hlp2
  have a5:=hat2.same s25
  have p5:=pn.same (s4.trans s5)
  have rl:(refs ts).length=ts.length:=List.length_map _
  have ne0:0 < ts.length:=by
   obtain ⟨p,hp,_⟩:=til.cov 0 0 (by omega) (by omega) (by omega) (by omega)
   obtain ⟨u,hu,_⟩:=List.mem_map.mp hp
   exact List.length_pos_of_mem hu
  have get:∀ (Hk:Hp) (i:Int),SameX p H5 Hk→0≤i→i < (refs ts).length→∃ u:Addr × Rc,u.2∈rcs ts∧atI (refs ts) i=some (.ref u.1)∧Hk u.1=some (.tup (four u.2.t u.2.l u.2.b u.2.r)):=fun Hk i sx i0 i1=>by
   have i2:i.toNat < ts.length:=by omega
   have hu':ts[i.toNat]?=some ts[i.toNat]:=List.getElem?_eq_getElem i2
   refine ⟨ts[i.toNat],List.mem_map.mpr ⟨_,List.getElem_mem i2,rfl⟩,?_,a5.sx ep5 sx _ (List.getElem_mem i2)⟩
   have e:=atI_nat (xs:=refs ts) (j:=i.toNat) (v:=.ref (ts[i.toNat]).1) (by rw [List.getElem?_map,hu']; rfl)
   rwa [Int.toNat_of_nonneg i0] at e
  refine ⟨_,rfl,_,rfl,_,rfl,lp,_,rfl,.inl (SqL.of l5),p,z,_,rfl,ep5,by omega,by omega,fun i z6 i0 i1=>?_⟩
  have s6:=SameX.upd (p:=p) (o:=.lst [.int z6]) (H:=H5)
  have e6:(upd H5 p (.lst [.int z6])) p=some (.lst [.int z6]):=upd_same
  generalize upd H5 p (.lst [.int z6])=H6 at s6 e6 ⊢
  obtain ⟨u,um,gu,eu⟩:=get H6 i s6 i0 i1
  have l6:=s6 _ _ (ref_ne ep5 l5) l5
  refine ⟨lp,_,_,_,rfl,rfl,SqL.of l6,gu,?_⟩
  refine ⟨_,rfl,_,rfl,_,rfl,lp,_,rfl,.inl (SqL.of l6),p,z6,_,rfl,e6,by omega,by omega,fun j z7 j0 j1=>?_⟩
  have s7:=s6.trans (SameX.upd (p:=p) (o:=.lst [.int z7]) (H:=H6))
  have e7:(upd H6 p (.lst [.int z7])) p=some (.lst [.int z7]):=upd_same
  have eu7:(upd H6 p (.lst [.int z7])) u.1=some (.tup (four u.2.t u.2.l u.2.b u.2.r)):=by rw [upd_ne (ne_of eu e6 (by intro z; cases z))]; exact eu
  generalize upd H6 p (.lst [.int z7])=H7 at s7 e7 eu7 ⊢
  obtain ⟨v,vm,gv,ev⟩:=get H7 j s7 j0 j1
  have l7:=s7 _ _ (ref_ne ep5 l5) l5
  refine ⟨lp,_,_,_,rfl,rfl,SqL.of l7,gv,?_⟩
  obtain ⟨x1,x2,x3,x4,x5,x6⟩:=til.ins _ um
  obtain ⟨y1,y2,y3,y4,y5,y6⟩:=til.ins _ vm
  refine ⟨_,rfl,u.1,_,_,_,rfl,rfl,SqT.of eu7,at0,_,rfl,v.1,_,_,_,rfl,rfl,SqT.of ev,at0,_,_,rfl,?_⟩
  refine ⟨_,rfl,u.1,_,_,_,rfl,rfl,SqT.of eu7,at1,_,rfl,v.1,_,_,_,rfl,rfl,SqT.of ev,at1,_,_,rfl,?_⟩
  refine ⟨_,rfl,u.1,_,_,_,rfl,rfl,SqT.of eu7,at2,_,rfl,v.1,_,_,_,rfl,rfl,SqT.of ev,at2,_,_,rfl,?_⟩
  refine ⟨_,rfl,u.1,_,_,_,rfl,rfl,SqT.of eu7,at3,_,rfl,v.1,_,_,_,rfl,rfl,SqT.of ev,at3,_,_,rfl,?_⟩
  refine ⟨lenOk 4,fun bn hbn=>?_⟩
  obtain ⟨q,hq⟩:∃ q:Rc,q=⟨if v.2.t < u.2.t then v.2.t else u.2.t,if v.2.l < u.2.l then v.2.l else u.2.l,if v.2.b > u.2.b then v.2.b else u.2.b,if v.2.r > u.2.r then v.2.r else u.2.r⟩:=⟨_,rfl⟩
  have qi:q.In ww hh:=by
   rw [hq]
   refine ⟨?_,?_,?_,?_,?_,?_⟩ <;> simp only [] <;> split <;> (try split) <;> omega
  have s8:=Same.new (o:=.tup (four q.t q.l q.b q.r)) hbn
  have e8:(upd H7 bn (.tup (four q.t q.l q.b q.r))) bn=some (.tup (four q.t q.l q.b q.r)):=upd_same
  have eH:upd H7 bn (.tup [V.int (if v.2.t < u.2.t then v.2.t else u.2.t),V.int (if v.2.l < u.2.l then v.2.l else u.2.l),V.int (if v.2.b > u.2.b then v.2.b else u.2.b),V.int (if v.2.r > u.2.r then v.2.r else u.2.r)])=upd H7 bn (.tup (four q.t q.l q.b q.r)):=by rw [hq]
  have l8:=s8 _ _ l7
  have a8:=(a5.sx ep5 s7).same s8
  have p8:=(p5.sx ep5 s7).same s8
  have ep8:=s8 _ _ e7
  have b8:=s8 _ _ (s7 _ _ (ne_of e5 ep5 (by intro z; cases z)) e5)
  have whole:blk ww hh (rcs ts1) ⟨0,0,hh,ww⟩=true:=by
   rw [blk_is (w:=ww) (h:=hh) (ps:=rcs ts1) (q:=⟨0,0,hh,ww⟩) (Int.le_refl _) (Int.le_refl _) ⟨Int.le_refl _,by show (0:Int) < hh; omega⟩ ⟨Int.le_refl _,by show (0:Int) < ww; omega⟩]
   unfold okA
   rw [List.all_eq_true]
   intro y hy
   obtain ⟨w1,w2,w3,w4,w5,w6⟩:=pn.til.ins y hy
   rw [insR_t w1 w3 w4 w6]; rfl
  have qw:Rc.In ww hh ⟨0,0,hh,ww⟩:=⟨Int.le_refl _,by show (0:Int) < hh; omega,Int.le_refl _,Int.le_refl _,by show (0:Int) < ww; omega,Int.le_refl _⟩
  show _
  rw [eH]
  generalize upd H7 bn (.tup (four q.t q.l q.b q.r))=H8 at s8 e8 l8 a8 p8 ep8 b8 ⊢
  refine ⟨_,rfl,p,z7,2,rfl,ep8,by decide,by decide,fun r9 z9 k0 k1=>?_⟩
  have sx9:=SameX.upd (p:=p) (o:=.lst [.int z9]) (H:=H8)
  have l9:=sx9 _ _ (ref_ne ep8 l8) l8
  have a9:=a8.sx ep8 sx9
  have p9:=p8.sx ep8 sx9
  have b9:=sx9 _ _ (ne_of b8 ep8 (by intro z; cases z)) b8
  have q9:=sx9 _ _ (ne_of e8 ep8 (by intro z; cases z)) e8
  generalize upd H8 p (.lst [.int z9])=H9 at l9 a9 p9 b9 q9 ⊢
  refine ⟨rfl,_,rfl,ite3 (fun c=>?_) (fun c=>?_)⟩
  ·refine ⟨_,rfl,_,rfl,lp,bn,ts,q,ww,hh,rfl,SqL.of l9,a9,til,few,gw.2,gh.2,q9,fun us pus sus=>?_⟩
   have e1:rcs ts1=rcs us:=sorted_same pn.til.ins gw.2 gh.2 ((pm.map _).trans (pus.map _).symm) pn.srt sus
   obtain ⟨q1,q2,q3,q4,q5,q6⟩:=id qi
   have eb':blk ww hh (rcs ts1) q=okA (rcs us) q:=by rw [blk_is q3 q6 ⟨q1,q2⟩ ⟨q4,q5⟩,e1]
   refine ⟨fun hf HA sA=>⟨rfl,_,rfl,iteN rfl ?_⟩,fun ht l' HA sA nl el=>⟨rfl,_,rfl,iteP rfl ⟨_,rfl,?_⟩⟩⟩
   ·exact fin _ lp x b0 dx ls ld ww hh ts ts1 kvs ⟨0,0,hh,ww⟩ _ _ _ _ _ _ HA rfl (sA _ _ l9) (a9.same sA) til few gw gh (p9.same sA) pm (sA _ _ b9) qw whole
   ·exact fin _ lp x bn dx ls ld ww hh ts ts1 kvs q _ _ _ _ _ _ HA rfl (sA _ _ l9) (a9.same sA) til few gw gh (p9.same sA) pm (sA _ _ q9) qi (by rw [eb',ht])
  ·exact fin _ lp x b0 dx ls ld ww hh ts ts1 kvs ⟨0,0,hh,ww⟩ _ _ _ _ _ _ H9 rfl l9 a9 til few gw gh p9 pm b9 qw whole
theorem len1 {α:Type} {us:List α} (h:us.length=1):∃ a,us=[a]:=List.length_eq_one_iff.mp h
theorem len2 {α:Type} {us:List α} (h:us.length=2):∃ a b,us=[a,b]:=by
 cases us with
 | nil=>cases h
 | cons a r=>obtain ⟨b,rfl⟩:=len1 (Nat.succ.inj h); exact ⟨a,b,rfl⟩
theorem len3 {α:Type} {us:List α} (h:us.length=3):∃ a b c,us=[a,b,c]:=by
 cases us with
 | nil=>cases h
 | cons a r=>obtain ⟨b,c,rfl⟩:=len2 (Nat.succ.inj h); exact ⟨a,b,c,rfl⟩
theorem len4 {α:Type} {us:List α} (h:us.length=4):∃ a b c d,us=[a,b,c,d]:=by
 cases us with
 | nil=>cases h
 | cons a r=>obtain ⟨b,c,d,rfl⟩:=len3 (Nat.succ.inj h); exact ⟨a,b,c,d,rfl⟩
theorem len5 {α:Type} {us:List α} (h:us.length=5):∃ a b c d e,us=[a,b,c,d,e]:=by
 cases us with
 | nil=>cases h
 | cons a r=>obtain ⟨b,c,d,e,rfl⟩:=len4 (Nat.succ.inj h); exact ⟨a,b,c,d,e,rfl⟩
end
theorem all_mk {l:PySem.W.OpenLaw} {w:World} {K:PySem.W.Frag} {h:Heap} {mg:Str→Option Value} {fa:Addr} (X:K.In h) (G:h.Ns mainGlobals mg) (hfa:mg "law"=some (.ref fa))
  {C:Addr} (aC:PySem.W.nsIn K mainGlobals "Panel"=some (some (.ref C)))
  (pg_C:PySem.W.plainGet K C Str.empty=true)
  (hd_C:PySem.W.hasDictIn K C=true)
  (po_C:PySem.W.plainOver K C=true)
  (sa_C:PySem.W.findIn K (.ref C) "__setattr__"=some (some (.builtin "object.__setattr__")))
  (mk_C:PySem.W.makesIn K C=true)
  (kc_C:PySem.W.keepIn K (.ref C)=true)
  (n_C_width:PySem.W.findIn K (.ref C) "width"=some none)
  (n_C_height:PySem.W.findIn K (.ref C) "height"=some none)
  (n_C_sorted_panes:PySem.W.findIn K (.ref C) "sorted_panes"=some none)
  (n_C_by_square:PySem.W.findIn K (.ref C) "by_square"=some none)
  {f0:Addr} {od0 an0:Option Addr} {sl0:Array (Option Value)} {oc0 kV0 dc0 pm0 cd0 ct0:Value} (a0:PySem.W.nsIn K mainGlobals "is_whole"=some (some (.ref f0))) (l0:K.lookup f0=some ⟨oc0,od0,.func (PySem.W.fnOf "is_whole" "is_whole" (defArgs s_is_whole) (defBody s_is_whole) (defScope s_is_whole) .none kV0 dc0 pm0 an0 cd0 ct0),sl0⟩) (cc0:PySem.W.codeIn K cd0 "is_whole"=true) (k0:PySem.W.keepIn K (.ref f0)=true)
  {f1:Addr} {od1 an1:Option Addr} {sl1:Array (Option Value)} {oc1 kV1 dc1 pm1 cd1 ct1:Value} (a1:PySem.W.nsIn K mainGlobals "is_side"=some (some (.ref f1))) (l1:K.lookup f1=some ⟨oc1,od1,.func (PySem.W.fnOf "is_side" "is_side" (defArgs s_is_side) (defBody s_is_side) (defScope s_is_side) .none kV1 dc1 pm1 an1 cd1 ct1),sl1⟩) (cc1:PySem.W.codeIn K cd1 "is_side"=true) (k1:PySem.W.keepIn K (.ref f1)=true)
  {f2:Addr} {od2 an2:Option Addr} {sl2:Array (Option Value)} {oc2 kV2 dc2 pm2 cd2 ct2:Value} (a2:PySem.W.nsIn K mainGlobals "is_rectangle"=some (some (.ref f2))) (l2:K.lookup f2=some ⟨oc2,od2,.func (PySem.W.fnOf "is_rectangle" "is_rectangle" (defArgs s_is_rectangle) (defBody s_is_rectangle) (defScope s_is_rectangle) .none kV2 dc2 pm2 an2 cd2 ct2),sl2⟩) (cc2:PySem.W.codeIn K cd2 "is_rectangle"=true) (k2:PySem.W.keepIn K (.ref f2)=true)
  {f3:Addr} {od3 an3:Option Addr} {sl3:Array (Option Value)} {oc3 kV3 dc3 pm3 cd3 ct3:Value} (a3:PySem.W.nsIn K mainGlobals "inside"=some (some (.ref f3))) (l3:K.lookup f3=some ⟨oc3,od3,.func (PySem.W.fnOf "inside" "inside" (defArgs s_inside) (defBody s_inside) (defScope s_inside) .none kV3 dc3 pm3 an3 cd3 ct3),sl3⟩) (cc3:PySem.W.codeIn K cd3 "inside"=true) (k3:PySem.W.keepIn K (.ref f3)=true)
  {f4:Addr} {od4 an4:Option Addr} {sl4:Array (Option Value)} {oc4 kV4 dc4 pm4 cd4 ct4:Value} (a4:PySem.W.nsIn K mainGlobals "squares_of"=some (some (.ref f4))) (l4:K.lookup f4=some ⟨oc4,od4,.func (PySem.W.fnOf "squares_of" "squares_of" (defArgs s_squares_of) (defBody s_squares_of) (defScope s_squares_of) .none kV4 dc4 pm4 an4 cd4 ct4),sl4⟩) (cc4:PySem.W.codeIn K cd4 "squares_of"=true) (k4:PySem.W.keepIn K (.ref f4)=true)
  {f5:Addr} {od5 an5:Option Addr} {sl5:Array (Option Value)} {oc5 kV5 dc5 pm5 cd5 ct5:Value} (a5:PySem.W.nsIn K mainGlobals "check_sides"=some (some (.ref f5))) (l5:K.lookup f5=some ⟨oc5,od5,.func (PySem.W.fnOf "check_sides" "check_sides" (defArgs s_check_sides) (defBody s_check_sides) (defScope s_check_sides) .none kV5 dc5 pm5 an5 cd5 ct5),sl5⟩) (cc5:PySem.W.codeIn K cd5 "check_sides"=true) (k5:PySem.W.keepIn K (.ref f5)=true)
  {f6:Addr} {od6 an6:Option Addr} {sl6:Array (Option Value)} {oc6 kV6 dc6 pm6 cd6 ct6:Value} (a6:PySem.W.nsIn K mainGlobals "check_panes"=some (some (.ref f6))) (l6:K.lookup f6=some ⟨oc6,od6,.func (PySem.W.fnOf "check_panes" "check_panes" (defArgs s_check_panes) (defBody s_check_panes) (defScope s_check_panes) .none kV6 dc6 pm6 an6 cd6 ct6),sl6⟩) (cc6:PySem.W.codeIn K cd6 "check_panes"=true) (k6:PySem.W.keepIn K (.ref f6)=true)
  {f7:Addr} {od7 an7:Option Addr} {sl7:Array (Option Value)} {oc7 kV7 dc7 pm7 cd7 ct7:Value} (a7:PySem.W.nsIn K mainGlobals "panes_by_square"=some (some (.ref f7))) (l7:K.lookup f7=some ⟨oc7,od7,.func (PySem.W.fnOf "panes_by_square" "panes_by_square" (defArgs s_panes_by_square) (defBody s_panes_by_square) (defScope s_panes_by_square) .none kV7 dc7 pm7 an7 cd7 ct7),sl7⟩) (cc7:PySem.W.codeIn K cd7 "panes_by_square"=true) (k7:PySem.W.keepIn K (.ref f7)=true)
  {f8:Addr} {od8 an8:Option Addr} {sl8:Array (Option Value)} {oc8 kV8 dc8 pm8 cd8 ct8:Value} (a8:PySem.W.nsIn K mainGlobals "check_covered"=some (some (.ref f8))) (l8:K.lookup f8=some ⟨oc8,od8,.func (PySem.W.fnOf "check_covered" "check_covered" (defArgs s_check_covered) (defBody s_check_covered) (defScope s_check_covered) .none kV8 dc8 pm8 an8 cd8 ct8),sl8⟩) (cc8:PySem.W.codeIn K cd8 "check_covered"=true) (k8:PySem.W.keepIn K (.ref f8)=true)
  {f9:Addr} {od9 an9:Option Addr} {sl9:Array (Option Value)} {oc9 kV9 dc9 pm9 cd9 ct9:Value} (a9C:PySem.W.findIn K (.ref C) "__init__"=some (some (.ref f9))) (i9:PySem.W.isFn K (.ref f9)=true) (l9:K.lookup f9=some ⟨oc9,od9,.func (PySem.W.fnOf "__init__" "Panel.__init__" (defArgs s_Panel_init) (defBody s_Panel_init) (defScope s_Panel_init) .none kV9 dc9 pm9 an9 cd9 ct9),sl9⟩) (cc9:PySem.W.codeIn K cd9 "Panel.__init__"=true) (k9:PySem.W.keepIn K (.ref f9)=true)
  {f10:Addr} {od10 an10:Option Addr} {sl10:Array (Option Value)} {oc10 kV10 dc10 pm10 cd10 ct10:Value} (a10C:PySem.W.findIn K (.ref C) "panes"=some (some (.ref f10))) (i10:PySem.W.isFn K (.ref f10)=true) (l10:K.lookup f10=some ⟨oc10,od10,.func (PySem.W.fnOf "panes" "Panel.panes" (defArgs s_Panel_panes) (defBody s_Panel_panes) (defScope s_Panel_panes) .none kV10 dc10 pm10 an10 cd10 ct10),sl10⟩) (cc10:PySem.W.codeIn K cd10 "Panel.panes"=true) (k10:PySem.W.keepIn K (.ref f10)=true)
  {f11:Addr} {od11 an11:Option Addr} {sl11:Array (Option Value)} {oc11 kV11 dc11 pm11 cd11 ct11:Value} (a11C:PySem.W.findIn K (.ref C) "pane_at"=some (some (.ref f11))) (i11:PySem.W.isFn K (.ref f11)=true) (l11:K.lookup f11=some ⟨oc11,od11,.func (PySem.W.fnOf "pane_at" "Panel.pane_at" (defArgs s_Panel_pane_at) (defBody s_Panel_pane_at) (defScope s_Panel_pane_at) .none kV11 dc11 pm11 an11 cd11 ct11),sl11⟩) (cc11:PySem.W.codeIn K cd11 "Panel.pane_at"=true) (k11:PySem.W.keepIn K (.ref f11)=true)
  {f12:Addr} {od12 an12:Option Addr} {sl12:Array (Option Value)} {oc12 kV12 dc12 pm12 cd12 ct12:Value} (a12:PySem.W.nsIn K mainGlobals "apart"=some (some (.ref f12))) (l12:K.lookup f12=some ⟨oc12,od12,.func (PySem.W.fnOf "apart" "apart" (defArgs s_apart) (defBody s_apart) (defScope s_apart) .none kV12 dc12 pm12 an12 cd12 ct12),sl12⟩) (cc12:PySem.W.codeIn K cd12 "apart"=true) (k12:PySem.W.keepIn K (.ref f12)=true)
  {f13:Addr} {od13 an13:Option Addr} {sl13:Array (Option Value)} {oc13 kV13 dc13 pm13 cd13 ct13:Value} (a13:PySem.W.nsIn K mainGlobals "is_block"=some (some (.ref f13))) (l13:K.lookup f13=some ⟨oc13,od13,.func (PySem.W.fnOf "is_block" "is_block" (defArgs s_is_block) (defBody s_is_block) (defScope s_is_block) .none kV13 dc13 pm13 an13 cd13 ct13),sl13⟩) (cc13:PySem.W.codeIn K cd13 "is_block"=true) (k13:PySem.W.keepIn K (.ref f13)=true)
  {f14:Addr} {od14 an14:Option Addr} {sl14:Array (Option Value)} {oc14 kV14 dc14 pm14 cd14 ct14:Value} (a14:PySem.W.nsIn K mainGlobals "check_block"=some (some (.ref f14))) (l14:K.lookup f14=some ⟨oc14,od14,.func (PySem.W.fnOf "check_block" "check_block" (defArgs s_check_block) (defBody s_check_block) (defScope s_check_block) .none kV14 dc14 pm14 an14 cd14 ct14),sl14⟩) (cc14:PySem.W.codeIn K cd14 "check_block"=true) (k14:PySem.W.keepIn K (.ref f14)=true)
  {f15:Addr} {od15 an15:Option Addr} {sl15:Array (Option Value)} {oc15 kV15 dc15 pm15 cd15 ct15:Value} (a15:PySem.W.nsIn K mainGlobals "runs"=some (some (.ref f15))) (l15:K.lookup f15=some ⟨oc15,od15,.func (PySem.W.fnOf "runs" "runs" (defArgs s_runs) (defBody s_runs) (defScope s_runs) .none kV15 dc15 pm15 an15 cd15 ct15),sl15⟩) (cc15:PySem.W.codeIn K cd15 "runs"=true) (k15:PySem.W.keepIn K (.ref f15)=true)
  {f16:Addr} {od16 an16:Option Addr} {sl16:Array (Option Value)} {oc16 kV16 dc16 pm16 cd16 ct16:Value} (a16:PySem.W.nsIn K mainGlobals "columns_parted"=some (some (.ref f16))) (l16:K.lookup f16=some ⟨oc16,od16,.func (PySem.W.fnOf "columns_parted" "columns_parted" (defArgs s_columns_parted) (defBody s_columns_parted) (defScope s_columns_parted) .none kV16 dc16 pm16 an16 cd16 ct16),sl16⟩) (cc16:PySem.W.codeIn K cd16 "columns_parted"=true) (k16:PySem.W.keepIn K (.ref f16)=true)
  {f17:Addr} {od17 an17:Option Addr} {sl17:Array (Option Value)} {oc17 kV17 dc17 pm17 cd17 ct17:Value} (a17:PySem.W.nsIn K mainGlobals "rows_parted"=some (some (.ref f17))) (l17:K.lookup f17=some ⟨oc17,od17,.func (PySem.W.fnOf "rows_parted" "rows_parted" (defArgs s_rows_parted) (defBody s_rows_parted) (defScope s_rows_parted) .none kV17 dc17 pm17 an17 cd17 ct17),sl17⟩) (cc17:PySem.W.codeIn K cd17 "rows_parted"=true) (k17:PySem.W.keepIn K (.ref f17)=true)
  {f18:Addr} {od18 an18:Option Addr} {sl18:Array (Option Value)} {oc18 kV18 dc18 pm18 cd18 ct18:Value} (a18:PySem.W.nsIn K mainGlobals "level_leads"=some (some (.ref f18))) (l18:K.lookup f18=some ⟨oc18,od18,.func (PySem.W.fnOf "level_leads" "level_leads" (defArgs s_level_leads) (defBody s_level_leads) (defScope s_level_leads) .none kV18 dc18 pm18 an18 cd18 ct18),sl18⟩) (cc18:PySem.W.codeIn K cd18 "level_leads"=true) (k18:PySem.W.keepIn K (.ref f18)=true)
  {f19:Addr} {od19 an19:Option Addr} {sl19:Array (Option Value)} {oc19 kV19 dc19 pm19 cd19 ct19:Value} (a19:PySem.W.nsIn K mainGlobals "upright_leads"=some (some (.ref f19))) (l19:K.lookup f19=some ⟨oc19,od19,.func (PySem.W.fnOf "upright_leads" "upright_leads" (defArgs s_upright_leads) (defBody s_upright_leads) (defScope s_upright_leads) .none kV19 dc19 pm19 an19 cd19 ct19),sl19⟩) (cc19:PySem.W.codeIn K cd19 "upright_leads"=true) (k19:PySem.W.keepIn K (.ref f19)=true)
  {f20:Addr} {od20 an20:Option Addr} {sl20:Array (Option Value)} {oc20 kV20 dc20 pm20 cd20 ct20:Value} (a20:PySem.W.nsIn K mainGlobals "leads"=some (some (.ref f20))) (l20:K.lookup f20=some ⟨oc20,od20,.func (PySem.W.fnOf "leads" "leads" (defArgs s_leads) (defBody s_leads) (defScope s_leads) .none kV20 dc20 pm20 an20 cd20 ct20),sl20⟩) (cc20:PySem.W.codeIn K cd20 "leads"=true) (k20:PySem.W.keepIn K (.ref f20)=true)
  {f21:Addr} {od21 an21:Option Addr} {sl21:Array (Option Value)} {oc21 kV21 dc21 pm21 cd21 ct21:Value} (a21:PySem.W.nsIn K mainGlobals "_law_purse"=some (some (.ref f21))) (l21:K.lookup f21=some ⟨oc21,od21,.func (PySem.W.fnOf "_law_purse" "_law_purse" (defArgs s__law_purse) (defBody s__law_purse) (defScope s__law_purse) .none kV21 dc21 pm21 an21 cd21 ct21),sl21⟩) (cc21:PySem.W.codeIn K cd21 "_law_purse"=true) (k21:PySem.W.keepIn K (.ref f21)=true)
  {f22:Addr} {od22 an22:Option Addr} {sl22:Array (Option Value)} {oc22 kV22 dc22 pm22 cd22 ct22:Value} (a22:PySem.W.nsIn K mainGlobals "_law_take"=some (some (.ref f22))) (l22:K.lookup f22=some ⟨oc22,od22,.func (PySem.W.fnOf "_law_take" "_law_take" (defArgs s__law_take) (defBody s__law_take) (defScope s__law_take) .none kV22 dc22 pm22 an22 cd22 ct22),sl22⟩) (cc22:PySem.W.codeIn K cd22 "_law_take"=true) (k22:PySem.W.keepIn K (.ref f22)=true)
  {f23:Addr} {od23 an23:Option Addr} {sl23:Array (Option Value)} {oc23 kV23 dc23 pm23 cd23 ct23:Value} (a23:PySem.W.nsIn K mainGlobals "_law_tiled"=some (some (.ref f23))) (l23:K.lookup f23=some ⟨oc23,od23,.func (PySem.W.fnOf "_law_tiled" "_law_tiled" (defArgs s__law_tiled) (defBody s__law_tiled) (defScope s__law_tiled) .none kV23 dc23 pm23 an23 cd23 ct23),sl23⟩) (cc23:PySem.W.codeIn K cd23 "_law_tiled"=true) (k23:PySem.W.keepIn K (.ref f23)=true)
  {f24:Addr} {od24 an24:Option Addr} {sl24:Array (Option Value)} {oc24 kV24 dc24 pm24 cd24 ct24:Value} (a24:PySem.W.nsIn K mainGlobals "_law_wheel"=some (some (.ref f24))) (l24:K.lookup f24=some ⟨oc24,od24,.func (PySem.W.fnOf "_law_wheel" "_law_wheel" (defArgs s__law_wheel) (defBody s__law_wheel) (defScope s__law_wheel) .none kV24 dc24 pm24 an24 cd24 ct24),sl24⟩) (cc24:PySem.W.codeIn K cd24 "_law_wheel"=true) (k24:PySem.W.keepIn K (.ref f24)=true)
  {f25:Addr} {od25 an25:Option Addr} {sl25:Array (Option Value)} {oc25 kV25 dc25 pm25 cd25 ct25:Value} (a25:PySem.W.nsIn K mainGlobals "_law_cut_up"=some (some (.ref f25))) (l25:K.lookup f25=some ⟨oc25,od25,.func (PySem.W.fnOf "_law_cut_up" "_law_cut_up" (defArgs s__law_cut_up) (defBody s__law_cut_up) (defScope s__law_cut_up) .none kV25 dc25 pm25 an25 cd25 ct25),sl25⟩) (cc25:PySem.W.codeIn K cd25 "_law_cut_up"=true) (k25:PySem.W.keepIn K (.ref f25)=true)
  {f26:Addr} {od26 an26:Option Addr} {sl26:Array (Option Value)} {oc26 kV26 dc26 pm26 cd26 ct26:Value} (a26:PySem.W.nsIn K mainGlobals "_law_panes_in"=some (some (.ref f26))) (l26:K.lookup f26=some ⟨oc26,od26,.func (PySem.W.fnOf "_law_panes_in" "_law_panes_in" (defArgs s__law_panes_in) (defBody s__law_panes_in) (defScope s__law_panes_in) .none kV26 dc26 pm26 an26 cd26 ct26),sl26⟩) (cc26:PySem.W.codeIn K cd26 "_law_panes_in"=true) (k26:PySem.W.keepIn K (.ref f26)=true)
  {f27:Addr} {od27 an27:Option Addr} {sl27:Array (Option Value)} {oc27 kV27 dc27 pm27 cd27 ct27:Value} (a27:PySem.W.nsIn K mainGlobals "_law_drawn"=some (some (.ref f27))) (l27:K.lookup f27=some ⟨oc27,od27,.func (PySem.W.fnOf "_law_drawn" "_law_drawn" (defArgs s__law_drawn) (defBody s__law_drawn) (defScope s__law_drawn) .none kV27 dc27 pm27 an27 cd27 ct27),sl27⟩) (cc27:PySem.W.codeIn K cd27 "_law_drawn"=true) (k27:PySem.W.keepIn K (.ref f27)=true)
  {f28:Addr} {od28 an28:Option Addr} {sl28:Array (Option Value)} {oc28 kV28 dc28 pm28 cd28 ct28:Value} (a28:PySem.W.nsIn K mainGlobals "_law_points"=some (some (.ref f28))) (l28:K.lookup f28=some ⟨oc28,od28,.func (PySem.W.fnOf "_law_points" "_law_points" (defArgs s__law_points) (defBody s__law_points) (defScope s__law_points) .none kV28 dc28 pm28 an28 cd28 ct28),sl28⟩) (cc28:PySem.W.codeIn K cd28 "_law_points"=true) (k28:PySem.W.keepIn K (.ref f28)=true)
  {f29:Addr} {od29 an29:Option Addr} {sl29:Array (Option Value)} {oc29 kV29 dc29 pm29 cd29 ct29:Value} (a29:PySem.W.nsIn K mainGlobals "_law_bits"=some (some (.ref f29))) (l29:K.lookup f29=some ⟨oc29,od29,.func (PySem.W.fnOf "_law_bits" "_law_bits" (defArgs s__law_bits) (defBody s__law_bits) (defScope s__law_bits) .none kV29 dc29 pm29 an29 cd29 ct29),sl29⟩) (cc29:PySem.W.codeIn K cd29 "_law_bits"=true) (k29:PySem.W.keepIn K (.ref f29)=true)
  {f30:Addr} {od30 an30:Option Addr} {sl30:Array (Option Value)} {oc30 kV30 dc30 pm30 cd30 ct30:Value} (a30:PySem.W.nsIn K mainGlobals "_law_due"=some (some (.ref f30))) (l30:K.lookup f30=some ⟨oc30,od30,.func (PySem.W.fnOf "_law_due" "_law_due" (defArgs s__law_due) (defBody s__law_due) (defScope s__law_due) .none kV30 dc30 pm30 an30 cd30 ct30),sl30⟩) (cc30:PySem.W.codeIn K cd30 "_law_due"=true) (k30:PySem.W.keepIn K (.ref f30)=true)
  {f31:Addr} {od31 an31:Option Addr} {sl31:Array (Option Value)} {oc31 kV31 dc31 pm31 cd31 ct31:Value} (a31:PySem.W.nsIn K mainGlobals "_law_right"=some (some (.ref f31))) (l31:K.lookup f31=some ⟨oc31,od31,.func (PySem.W.fnOf "_law_right" "_law_right" (defArgs s__law_right) (defBody s__law_right) (defScope s__law_right) .none kV31 dc31 pm31 an31 cd31 ct31),sl31⟩) (cc31:PySem.W.codeIn K cd31 "_law_right"=true) (k31:PySem.W.keepIn K (.ref f31)=true)
  {f32:Addr} {od32 an32:Option Addr} {sl32:Array (Option Value)} {oc32 kV32 dc32 pm32 cd32 ct32:Value} (a32:PySem.W.nsIn K mainGlobals "law"=some (some (.ref f32))) (l32:K.lookup f32=some ⟨oc32,od32,.func (PySem.W.fnOf "law" "law" (defArgs s_law) (defBody s_law) (defScope s_law) .none kV32 dc32 pm32 an32 cd32 ct32),sl32⟩) (cc32:PySem.W.codeIn K cd32 "law"=true) (k32:PySem.W.keepIn K (.ref f32)=true)
  (z0:PySem.W.nsIn K mainGlobals "isinstance"=some none)
  (z1:PySem.W.nsIn K mainGlobals "int"=some none)
  (z2:PySem.W.nsIn K mainGlobals "bool"=some none)
  (z3:PySem.W.nsIn K mainGlobals "tuple"=some none)
  (z4:PySem.W.nsIn K mainGlobals "len"=some none)
  (z5:PySem.W.nsIn K mainGlobals "all"=some none)
  (z6:PySem.W.nsIn K mainGlobals "any"=some none)
  (z7:PySem.W.nsIn K mainGlobals "range"=some none)
  (z8:PySem.W.nsIn K mainGlobals "sorted"=some none)
  (z9:PySem.W.nsIn K mainGlobals "min"=some none)
  (z10:PySem.W.nsIn K mainGlobals "max"=some none)
  (z11:PySem.W.nsIn K mainGlobals "list"=some none)
  (z12:PySem.W.nsIn K mainGlobals "enumerate"=some none)
  (z13:PySem.W.nsIn K mainGlobals "str"=some none)
  (z14:PySem.W.nsIn K mainGlobals "ValueError"=some none)
  {tk0:Tok} (g0:PySem.W.nsIn K mainGlobals "LONGEST_SIDE"=some (some (.int 12 tk0)))
  {tk1:Tok} (g1:PySem.W.nsIn K mainGlobals "MOST_PANES"=some (some (.int 52 tk1)))
  {tk2:Tok} (g2:PySem.W.nsIn K mainGlobals "LEVEL"=some (some (.str "level" tk2)))
  {tk3:Tok} (g3:PySem.W.nsIn K mainGlobals "UPRIGHT"=some (some (.str "upright" tk3)))
  : ∃ fd:FuncData,(∀ (s:Shared) (v:Value),BindsTo s fd ⟨[v],[]⟩ [("_law_script",v)])∧∀ base:Heap,K.In base→base.Ns mainGlobals mg→FnOk l.prog w K mg base CX0 7 fa fd ["_law_script"] (sp_law K):=by
 have e:=hfa.symm.trans (PySem.W.mg_of X G a32)
 cases e
 have T:Txt mg (tk0,tk1):=⟨PySem.W.mg_none_of X G z0,PySem.W.mg_none_of X G z1,PySem.W.mg_none_of X G z2,PySem.W.mg_none_of X G z3,PySem.W.mg_none_of X G z4,PySem.W.mg_none_of X G z5,PySem.W.mg_none_of X G z6,PySem.W.mg_none_of X G z7,PySem.W.mg_none_of X G z8,PySem.W.mg_none_of X G z9,PySem.W.mg_none_of X G z10,PySem.W.mg_none_of X G z11,PySem.W.mg_none_of X G z12,PySem.W.mg_none_of X G z13,PySem.W.mg_none_of X G z14,PySem.W.mg_of X G g0,PySem.W.mg_of X G g1⟩
 have PC:PCls K C:=⟨⟨pg_C,hd_C,po_C,sa_C⟩,n_C_width,n_C_height,n_C_sorted_panes,n_C_by_square⟩
 have TG:TxtG mg (tk2,tk3):=⟨PySem.W.mg_of X G g2,PySem.W.mg_of X G g3⟩
 have F0:=fun_mk (st:=s_is_whole) l0 cc0 k0
 have b0:=F0.binds (ps:=["thing"]) fun _ _ _ _ _ _ us hl=>by obtain ⟨u0,rfl⟩:=len1 hl; rfl
 have F1:=fun_mk (st:=s_is_side) l1 cc1 k1
 have b1:=F1.binds (ps:=["thing"]) fun _ _ _ _ _ _ us hl=>by obtain ⟨u0,rfl⟩:=len1 hl; rfl
 have F2:=fun_mk (st:=s_is_rectangle) l2 cc2 k2
 have b2:=F2.binds (ps:=["thing"]) fun _ _ _ _ _ _ us hl=>by obtain ⟨u0,rfl⟩:=len1 hl; rfl
 have F3:=fun_mk (st:=s_inside) l3 cc3 k3
 have b3:=F3.binds (ps:=["one","other"]) fun _ _ _ _ _ _ us hl=>by obtain ⟨u0,u1,rfl⟩:=len2 hl; rfl
 have F4:=fun_mk (st:=s_squares_of) l4 cc4 k4
 have b4:=F4.binds (ps:=["rectangle"]) fun _ _ _ _ _ _ us hl=>by obtain ⟨u0,rfl⟩:=len1 hl; rfl
 have F5:=fun_mk (st:=s_check_sides) l5 cc5 k5
 have b5:=F5.binds (ps:=["width","height"]) fun _ _ _ _ _ _ us hl=>by obtain ⟨u0,u1,rfl⟩:=len2 hl; rfl
 have F6:=fun_mk (st:=s_check_panes) l6 cc6 k6
 have b6:=F6.binds (ps:=["panes","sheet"]) fun _ _ _ _ _ _ us hl=>by obtain ⟨u0,u1,rfl⟩:=len2 hl; rfl
 have F7:=fun_mk (st:=s_panes_by_square) l7 cc7 k7
 have b7:=F7.binds (ps:=["panes"]) fun _ _ _ _ _ _ us hl=>by obtain ⟨u0,rfl⟩:=len1 hl; rfl
 have F8:=fun_mk (st:=s_check_covered) l8 cc8 k8
 have b8:=F8.binds (ps:=["by_square","sheet"]) fun _ _ _ _ _ _ us hl=>by obtain ⟨u0,u1,rfl⟩:=len2 hl; rfl
 have F9:=fun_mk (st:=s_Panel_init) l9 cc9 k9
 have b9:=F9.binds (ps:=["self","width","height","panes"]) fun _ _ _ _ _ _ us hl=>by obtain ⟨u0,u1,u2,u3,rfl⟩:=len4 hl; rfl
 have F10:=fun_mk (st:=s_Panel_panes) l10 cc10 k10
 have b10:=F10.binds (ps:=["self"]) fun _ _ _ _ _ _ us hl=>by obtain ⟨u0,rfl⟩:=len1 hl; rfl
 have F11:=fun_mk (st:=s_Panel_pane_at) l11 cc11 k11
 have b11:=F11.binds (ps:=["self","row","column"]) fun _ _ _ _ _ _ us hl=>by obtain ⟨u0,u1,u2,rfl⟩:=len3 hl; rfl
 have F12:=fun_mk (st:=s_apart) l12 cc12 k12
 have b12:=F12.binds (ps:=["one","other"]) fun _ _ _ _ _ _ us hl=>by obtain ⟨u0,u1,rfl⟩:=len2 hl; rfl
 have F13:=fun_mk (st:=s_is_block) l13 cc13 k13
 have b13:=F13.binds (ps:=["panel","block"]) fun _ _ _ _ _ _ us hl=>by obtain ⟨u0,u1,rfl⟩:=len2 hl; rfl
 have F14:=fun_mk (st:=s_check_block) l14 cc14 k14
 have b14:=F14.binds (ps:=["panel","block"]) fun _ _ _ _ _ _ us hl=>by obtain ⟨u0,u1,rfl⟩:=len2 hl; rfl
 have F15:=fun_mk (st:=s_runs) l15 cc15 k15
 have b15:=F15.binds (ps:=["places","stops"]) fun _ _ _ _ _ _ us hl=>by obtain ⟨u0,u1,rfl⟩:=len2 hl; rfl
 have F16:=fun_mk (st:=s_columns_parted) l16 cc16 k16
 have b16:=F16.binds (ps:=["panel","block","line"]) fun _ _ _ _ _ _ us hl=>by obtain ⟨u0,u1,u2,rfl⟩:=len3 hl; rfl
 have F17:=fun_mk (st:=s_rows_parted) l17 cc17 k17
 have b17:=F17.binds (ps:=["panel","block","line"]) fun _ _ _ _ _ _ us hl=>by obtain ⟨u0,u1,u2,rfl⟩:=len3 hl; rfl
 have F18:=fun_mk (st:=s_level_leads) l18 cc18 k18
 have b18:=F18.binds (ps:=["panel","block"]) fun _ _ _ _ _ _ us hl=>by obtain ⟨u0,u1,rfl⟩:=len2 hl; rfl
 have F19:=fun_mk (st:=s_upright_leads) l19 cc19 k19
 have b19:=F19.binds (ps:=["panel","block","levels"]) fun _ _ _ _ _ _ us hl=>by obtain ⟨u0,u1,u2,rfl⟩:=len3 hl; rfl
 have F20:=fun_mk (st:=s_leads) l20 cc20 k20
 have b20:=F20.binds (ps:=["panel","block"]) fun _ _ _ _ _ _ us hl=>by obtain ⟨u0,u1,rfl⟩:=len2 hl; rfl
 have F21:=fun_mk (st:=s__law_purse) l21 cc21 k21
 have b21:=F21.binds (ps:=["_law_script","_law_k"]) fun _ _ _ _ _ _ us hl=>by obtain ⟨u0,u1,rfl⟩:=len2 hl; rfl
 have F22:=fun_mk (st:=s__law_take) l22 cc22 k22
 have b22:=F22.binds (ps:=["_law_purse_here","_law_many"]) fun _ _ _ _ _ _ us hl=>by obtain ⟨u0,u1,rfl⟩:=len2 hl; rfl
 have F23:=fun_mk (st:=s__law_tiled) l23 cc23 k23
 have b23:=F23.binds (ps:=["_law_script","_law_k","_law_width","_law_height"]) fun _ _ _ _ _ _ us hl=>by obtain ⟨u0,u1,u2,u3,rfl⟩:=len4 hl; rfl
 have F24:=fun_mk (st:=s__law_wheel) l24 cc24 k24
 have b24:=F24.binds (ps:=["_law_script","_law_k","_law_panes","_law_purse_here"]) fun _ _ _ _ _ _ us hl=>by obtain ⟨u0,u1,u2,u3,rfl⟩:=len4 hl; rfl
 have F25:=fun_mk (st:=s__law_cut_up) l25 cc25 k25
 have b25:=F25.binds (ps:=["_law_script","_law_k","_law_width","_law_height","_law_many"]) fun _ _ _ _ _ _ us hl=>by obtain ⟨u0,u1,u2,u3,u4,rfl⟩:=len5 hl; rfl
 have F26:=fun_mk (st:=s__law_panes_in) l26 cc26 k26
 have b26:=F26.binds (ps:=["_law_panes","_law_block"]) fun _ _ _ _ _ _ us hl=>by obtain ⟨u0,u1,rfl⟩:=len2 hl; rfl
 have F27:=fun_mk (st:=s__law_drawn) l27 cc27 k27
 have b27:=F27.binds (ps:=["_law_script"]) fun _ _ _ _ _ _ us hl=>by obtain ⟨u0,rfl⟩:=len1 hl; rfl
 have F28:=fun_mk (st:=s__law_points) l28 cc28 k28
 have b28:=F28.binds (ps:=["_law_panes"]) fun _ _ _ _ _ _ us hl=>by obtain ⟨u0,rfl⟩:=len1 hl; rfl
 have F29:=fun_mk (st:=s__law_bits) l29 cc29 k29
 have b29:=F29.binds (ps:=["_law_owned","_law_block"]) fun _ _ _ _ _ _ us hl=>by obtain ⟨u0,u1,rfl⟩:=len2 hl; rfl
 have F30:=fun_mk (st:=s__law_due) l30 cc30 k30
 have b30:=F30.binds (ps:=["_law_owned","_law_block"]) fun _ _ _ _ _ _ us hl=>by obtain ⟨u0,u1,rfl⟩:=len2 hl; rfl
 have F31:=fun_mk (st:=s__law_right) l31 cc31 k31
 have b31:=F31.binds (ps:=["_law_found","_law_due_here"]) fun _ _ _ _ _ _ us hl=>by obtain ⟨u0,u1,rfl⟩:=len2 hl; rfl
 have F32:=fun_mk (st:=s_law) l32 cc32 k32
 refine ⟨PySem.W.fnOf "law" "law" (defArgs s_law) (defBody s_law) (defScope s_law) .none kV32 dc32 pm32 an32 cd32 ct32,fun s v=>.of_eq rfl,fun base _ _=>?_⟩
 have D_is_whole:DefOk l.prog w K mg base 1 "is_whole" ["thing"] sp_whole:=⟨_,_,ok_is_whole F0 T,PySem.W.mg_of X G a0,k0,b0⟩
 have D_is_side:DefOk l.prog w K mg base 2 "is_side" ["thing"] sp_side:=⟨_,_,ok_is_side F1 T D_is_whole,PySem.W.mg_of X G a1,k1,b1⟩
 have D_is_rectangle:DefOk l.prog w K mg base 2 "is_rectangle" ["thing"] sp_rect:=⟨_,_,ok_is_rectangle F2 T D_is_whole,PySem.W.mg_of X G a2,k2,b2⟩
 have D_inside:DefOk l.prog w K mg base 1 "inside" ["one","other"] sp_inside:=⟨_,_,ok_inside F3,PySem.W.mg_of X G a3,k3,b3⟩
 have D_squares_of:DefOk l.prog w K mg base 1 "squares_of" ["rectangle"] sp_squares:=⟨_,_,ok_squares_of F4 T,PySem.W.mg_of X G a4,k4,b4⟩
 have D_check_sides:DefOk l.prog w K mg base 3 "check_sides" ["width","height"] sp_check_sides:=⟨_,_,ok_check_sides F5 D_is_side,PySem.W.mg_of X G a5,k5,b5⟩
 have D_check_panes:DefOk l.prog w K mg base 3 "check_panes" ["panes","sheet"] (sp_check_panes K):=⟨_,_,ok_check_panes F6 T D_is_rectangle D_inside,PySem.W.mg_of X G a6,k6,b6⟩
 have D_panes_by_square:DefOk l.prog w K mg base 2 "panes_by_square" ["panes"] (sp_by_square K):=⟨_,_,ok_panes_by_square F7 T D_squares_of,PySem.W.mg_of X G a7,k7,b7⟩
 have D_check_covered:DefOk l.prog w K mg base 2 "check_covered" ["by_square","sheet"] sp_check_covered:=⟨_,_,ok_check_covered F8 D_squares_of,PySem.W.mg_of X G a8,k8,b8⟩
 have K_Panel:MkOk l.prog w K mg base 4 "Panel" C ["self","width","height","panes"] (sp_Panel K C):=⟨_,_,⟨mk_C,a9C,i9,kc_C⟩,ok_Panel_init F9 T PC D_check_sides D_check_panes D_panes_by_square D_check_covered,PySem.W.mg_of X G aC,b9⟩
 have M_Panel_panes:MdOk l.prog w K mg base 1 C "panes" ["self"] (sp_panes C):=⟨⟨pg_C,hd_C,po_C,sa_C⟩,_,_,⟨a10C,i10,k10⟩,ok_Panel_panes F10 T PC,b10⟩
 have M_Panel_pane_at:MdOk l.prog w K mg base 1 C "pane_at" ["self","row","column"] (sp_pane_at C):=⟨⟨pg_C,hd_C,po_C,sa_C⟩,_,_,⟨a11C,i11,k11⟩,ok_Panel_pane_at F11 PC,b11⟩
 have D_apart:DefOk l.prog w K mg base 1 "apart" ["one","other"] sp_apart:=⟨_,_,ok_apart F12,PySem.W.mg_of X G a12,k12,b12⟩
 have D_is_block:DefOk l.prog w K mg base 3 "is_block" ["panel","block"] (sp_block C):=⟨_,_,ok_is_block F13 T PC D_is_rectangle D_inside D_apart M_Panel_panes,PySem.W.mg_of X G a13,k13,b13⟩
 have D_check_block:DefOk l.prog w K mg base 4 "check_block" ["panel","block"] (sp_chk C):=⟨_,_,ok_check_block F14 D_is_block,PySem.W.mg_of X G a14,k14,b14⟩
 have D_runs:DefOk l.prog w K mg base 1 "runs" ["places","stops"] (sp_runs K):=⟨_,_,ok_runs F15,PySem.W.mg_of X G a15,k15,b15⟩
 have D_columns_parted:DefOk l.prog w K mg base 2 "columns_parted" ["panel","block","line"] (sp_cols C):=⟨_,_,ok_columns_parted F16 T M_Panel_pane_at,PySem.W.mg_of X G a16,k16,b16⟩
 have D_rows_parted:DefOk l.prog w K mg base 2 "rows_parted" ["panel","block","line"] (sp_rows C):=⟨_,_,ok_rows_parted F17 T M_Panel_pane_at,PySem.W.mg_of X G a17,k17,b17⟩
 have D_level_leads:DefOk l.prog w K mg base 3 "level_leads" ["panel","block"] (sp_lvl C):=⟨_,_,ok_level_leads F18 T TG D_runs D_columns_parted,PySem.W.mg_of X G a18,k18,b18⟩
 have D_upright_leads:DefOk l.prog w K mg base 3 "upright_leads" ["panel","block","levels"] (sp_upl C):=⟨_,_,ok_upright_leads F19 T TG D_runs D_rows_parted,PySem.W.mg_of X G a19,k19,b19⟩
 have D_leads:DefOk l.prog w K mg base 5 "leads" ["panel","block"] (sp_leads C):=⟨_,_,ok_leads F20 D_check_block D_level_leads D_upright_leads,PySem.W.mg_of X G a20,k20,b20⟩
 have D__law_purse:DefOk l.prog w K mg base 1 "_law_purse" ["_law_script","_law_k"] (sp_purse K):=⟨_,_,ok_law_purse F21 T,PySem.W.mg_of X G a21,k21,b21⟩
 have D__law_take:DefOk l.prog w K mg base 1 "_law_take" ["_law_purse_here","_law_many"] sp_take:=⟨_,_,ok_law_take F22,PySem.W.mg_of X G a22,k22,b22⟩
 have D__law_tiled:DefOk l.prog w K mg base 2 "_law_tiled" ["_law_script","_law_k","_law_width","_law_height"] (sp_tiled K):=⟨_,_,ok_law_tiled F23 T D__law_purse D__law_take,PySem.W.mg_of X G a23,k23,b23⟩
 have D__law_wheel:DefOk l.prog w K mg base 2 "_law_wheel" ["_law_script","_law_k","_law_panes","_law_purse_here"] sp_wheel:=⟨_,_,ok_law_wheel F24 T D__law_take,PySem.W.mg_of X G a24,k24,b24⟩
 have D__law_cut_up:DefOk l.prog w K mg base 2 "_law_cut_up" ["_law_script","_law_k","_law_width","_law_height","_law_many"] (sp_cutup K):=⟨_,_,ok_law_cut_up F25 T D__law_purse D__law_take,PySem.W.mg_of X G a25,k25,b25⟩
 have D__law_panes_in:DefOk l.prog w K mg base 1 "_law_panes_in" ["_law_panes","_law_block"] (sp_lpin K):=⟨_,_,ok_law_panes_in F26 T,PySem.W.mg_of X G a26,k26,b26⟩
 have D__law_drawn:DefOk l.prog w K mg base 3 "_law_drawn" ["_law_script"] (sp_drawn K):=⟨_,_,ok_law_drawn F27 D__law_purse D__law_take D__law_cut_up D__law_tiled D__law_wheel,PySem.W.mg_of X G a27,k27,b27⟩
 have D__law_points:DefOk l.prog w K mg base 1 "_law_points" ["_law_panes"] (sp_points K):=⟨_,_,ok_law_points F28 T,PySem.W.mg_of X G a28,k28,b28⟩
 have D__law_bits:DefOk l.prog w K mg base 1 "_law_bits" ["_law_owned","_law_block"] sp_bits:=⟨_,_,ok_law_bits F29 T,PySem.W.mg_of X G a29,k29,b29⟩
 have D__law_due:DefOk l.prog w K mg base 2 "_law_due" ["_law_owned","_law_block"] sp_due:=⟨_,_,ok_law_due F30 D__law_bits,PySem.W.mg_of X G a30,k30,b30⟩
 have D__law_right:DefOk l.prog w K mg base 1 "_law_right" ["_law_found","_law_due_here"] sp_right:=⟨_,_,ok_law_right F31 T,PySem.W.mg_of X G a31,k31,b31⟩
 exact ok_law F32 T D__law_drawn K_Panel D__law_purse D__law_take D__law_panes_in D__law_points D__law_due D_leads D__law_right
theorem walk {l:PySem.W.OpenLaw} {q:Program} {loose:List Str} {XP:(Str→Option Value)→Heap→Prop} {YP:World→Heap→Prop} {d:DefRec} {K:Params→PySem.W.Frag} (hn:l.most=some 63) (hdf:d.params.defaults=[])
  (hY:∀ (w:World) (h:Heap),YP w h→(K w.params).In h)
  (F:∀ (w:World) (mg:Str→Option Value) (fa:Addr) (h:Heap),(K w.params).In h→h.Ns mainGlobals mg→mg d.name=some (.ref fa) →
   ∃ fd:FuncData,(∀ (s:Shared) (u:Value),BindsTo s fd ⟨[u],[]⟩ [("_law_script",u)])∧∀ base:Heap,(K w.params).In base→base.Ns mainGlobals mg→FnOk l.prog w (K w.params) mg base CX0 7 fa fd ["_law_script"] (sp_law (K w.params))) :
  PySem.W.WalkO q loose XP YP l.row.toRowW d [] (fun f vs=>PySem.call f vs) :=
 L2.walk_of (n:=63) (k:=7) (x:="_law_script") (CX:=fun _=>CX0) (sp:=fun w=>sp_law (K w.params)) hn (by decide) hdf ⟨rfl,by decide,by decide⟩ hY F (fun _ _ a ns hl _ hS=>⟨a,ns,rfl,hS,hl,fun _=>rfl⟩) fun _ _ _ _ _ z=>z
end K21
open PySem PySem.W PyProof.Rows
set_option maxRecDepth 100000 in
set_option maxHeartbeats 0 in
theorem PySem.Challenge.cw_glazebench_k21_leads_of_a_block_holds : PySem.Challenge.rw_glazebench_k21_leads_of_a_block.Holds := by
 refine KH.prep fun said => ?_
 have fx : ∀ s, KH.Xp PySem.Challenge.pw_glazebench_k21_leads_of_a_block s = true → XL (KH.qv PySem.Challenge.pw_glazebench_k21_leads_of_a_block) [] (s.heap.nsMap mainGlobals) s.heap := fun s e => xl_of s (Bool.and_eq_true_iff.mp e).1
 have fr : ∀ s, KH.Xp PySem.Challenge.pw_glazebench_k21_leads_of_a_block s = true → RecFacts (RowW.records (OpenRow.toRowW PySem.Challenge.rw_glazebench_k21_leads_of_a_block.row)) s.heap := fun s e => recFacts_of (Bool.and_eq_true_iff.mp e).2
 refine holds_open (XP := XL (KH.qv PySem.Challenge.pw_glazebench_k21_leads_of_a_block) []) KH.left (kHook KH.KK KH.kas KH.kas_is).of (kHook KH.KK KH.kas KH.kas_is).keeps fx XL.keeps (by rfl) (by rfl) (by rfl) fr (by rfl) said (by decide +kernel) ?hb ?hw ?hc
 case hb => exact ⟨rfl,rfl, rfl,rfl, rfl, by decide +kernel⟩
 case hw => w_witness2
 case hc =>
  k_fill
  refine K21.walk (l := PySem.Challenge.rw_glazebench_k21_leads_of_a_block) rfl rfl (fun w h Y => PySem.W.kIn_of Y) ?F
  case F =>
   intro w mg fa h KX G hmg
   refine' K21.all_mk KX G hmg ?my_aC ?my_pg_C ?my_hd_C ?my_po_C ?my_sa_C ?my_mk_C ?my_kc_C ?my_n_C_width ?my_n_C_height ?my_n_C_sorted_panes ?my_n_C_by_square ?my_a0 ?my_l0 ?my_cc0 ?my_k0 ?my_a1 ?my_l1 ?my_cc1 ?my_k1 ?my_a2 ?my_l2 ?my_cc2 ?my_k2 ?my_a3 ?my_l3 ?my_cc3 ?my_k3 ?my_a4 ?my_l4 ?my_cc4 ?my_k4 ?my_a5 ?my_l5 ?my_cc5 ?my_k5 ?my_a6 ?my_l6 ?my_cc6 ?my_k6 ?my_a7 ?my_l7 ?my_cc7 ?my_k7 ?my_a8 ?my_l8 ?my_cc8 ?my_k8 ?my_a9C ?my_i9 ?my_l9 ?my_cc9 ?my_k9 ?my_a10C ?my_i10 ?my_l10 ?my_cc10 ?my_k10 ?my_a11C ?my_i11 ?my_l11 ?my_cc11 ?my_k11 ?my_a12 ?my_l12 ?my_cc12 ?my_k12 ?my_a13 ?my_l13 ?my_cc13 ?my_k13 ?my_a14 ?my_l14 ?my_cc14 ?my_k14 ?my_a15 ?my_l15 ?my_cc15 ?my_k15 ?my_a16 ?my_l16 ?my_cc16 ?my_k16 ?my_a17 ?my_l17 ?my_cc17 ?my_k17 ?my_a18 ?my_l18 ?my_cc18 ?my_k18 ?my_a19 ?my_l19 ?my_cc19 ?my_k19 ?my_a20 ?my_l20 ?my_cc20 ?my_k20 ?my_a21 ?my_l21 ?my_cc21 ?my_k21 ?my_a22 ?my_l22 ?my_cc22 ?my_k22 ?my_a23 ?my_l23 ?my_cc23 ?my_k23 ?my_a24 ?my_l24 ?my_cc24 ?my_k24 ?my_a25 ?my_l25 ?my_cc25 ?my_k25 ?my_a26 ?my_l26 ?my_cc26 ?my_k26 ?my_a27 ?my_l27 ?my_cc27 ?my_k27 ?my_a28 ?my_l28 ?my_cc28 ?my_k28 ?my_a29 ?my_l29 ?my_cc29 ?my_k29 ?my_a30 ?my_l30 ?my_cc30 ?my_k30 ?my_a31 ?my_l31 ?my_cc31 ?my_k31 ?my_a32 ?my_l32 ?my_cc32 ?my_k32 ?my_z0 ?my_z1 ?my_z2 ?my_z3 ?my_z4 ?my_z5 ?my_z6 ?my_z7 ?my_z8 ?my_z9 ?my_z10 ?my_z11 ?my_z12 ?my_z13 ?my_z14 ?my_g0 ?my_g1 ?my_g2 ?my_g3
   (case my_aC => k_is); (case my_pg_C => k_is); (case my_hd_C => k_is); (case my_po_C => k_is); (case my_sa_C => k_is); (case my_mk_C => k_is); (case my_kc_C => k_is); (case my_n_C_width => k_is)
   (case my_n_C_height => k_is); (case my_n_C_sorted_panes => k_is); (case my_n_C_by_square => k_is); (case my_a0 => k_is); (case my_l0 => k_is); (case my_cc0 => k_is); (case my_k0 => k_is); (case my_a1 => k_is)
   (case my_l1 => k_is); (case my_cc1 => k_is); (case my_k1 => k_is); (case my_a2 => k_is); (case my_l2 => k_is); (case my_cc2 => k_is); (case my_k2 => k_is); (case my_a3 => k_is)
   (case my_l3 => k_is); (case my_cc3 => k_is); (case my_k3 => k_is); (case my_a4 => k_is); (case my_l4 => k_is); (case my_cc4 => k_is); (case my_k4 => k_is); (case my_a5 => k_is)
   (case my_l5 => k_is); (case my_cc5 => k_is); (case my_k5 => k_is); (case my_a6 => k_is); (case my_l6 => k_is); (case my_cc6 => k_is); (case my_k6 => k_is); (case my_a7 => k_is)
   (case my_l7 => k_is); (case my_cc7 => k_is); (case my_k7 => k_is); (case my_a8 => k_is); (case my_l8 => k_is); (case my_cc8 => k_is); (case my_k8 => k_is); (case my_a9C => k_is)
   (case my_i9 => k_is); (case my_l9 => k_is); (case my_cc9 => k_is); (case my_k9 => k_is); (case my_a10C => k_is); (case my_i10 => k_is); (case my_l10 => k_is); (case my_cc10 => k_is)
   (case my_k10 => k_is); (case my_a11C => k_is); (case my_i11 => k_is); (case my_l11 => k_is); (case my_cc11 => k_is); (case my_k11 => k_is); (case my_a12 => k_is); (case my_l12 => k_is)
   (case my_cc12 => k_is); (case my_k12 => k_is); (case my_a13 => k_is); (case my_l13 => k_is); (case my_cc13 => k_is); (case my_k13 => k_is); (case my_a14 => k_is); (case my_l14 => k_is)
   (case my_cc14 => k_is); (case my_k14 => k_is); (case my_a15 => k_is); (case my_l15 => k_is); (case my_cc15 => k_is); (case my_k15 => k_is); (case my_a16 => k_is); (case my_l16 => k_is)
   (case my_cc16 => k_is); (case my_k16 => k_is); (case my_a17 => k_is); (case my_l17 => k_is); (case my_cc17 => k_is); (case my_k17 => k_is); (case my_a18 => k_is); (case my_l18 => k_is)
   (case my_cc18 => k_is); (case my_k18 => k_is); (case my_a19 => k_is); (case my_l19 => k_is); (case my_cc19 => k_is); (case my_k19 => k_is); (case my_a20 => k_is); (case my_l20 => k_is)
   (case my_cc20 => k_is); (case my_k20 => k_is); (case my_a21 => k_is); (case my_l21 => k_is); (case my_cc21 => k_is); (case my_k21 => k_is); (case my_a22 => k_is); (case my_l22 => k_is)
   (case my_cc22 => k_is); (case my_k22 => k_is); (case my_a23 => k_is); (case my_l23 => k_is); (case my_cc23 => k_is); (case my_k23 => k_is); (case my_a24 => k_is); (case my_l24 => k_is)
   (case my_cc24 => k_is); (case my_k24 => k_is); (case my_a25 => k_is); (case my_l25 => k_is); (case my_cc25 => k_is); (case my_k25 => k_is); (case my_a26 => k_is); (case my_l26 => k_is)
   (case my_cc26 => k_is); (case my_k26 => k_is); (case my_a27 => k_is); (case my_l27 => k_is); (case my_cc27 => k_is); (case my_k27 => k_is); (case my_a28 => k_is); (case my_l28 => k_is)
   (case my_cc28 => k_is); (case my_k28 => k_is); (case my_a29 => k_is); (case my_l29 => k_is); (case my_cc29 => k_is); (case my_k29 => k_is); (case my_a30 => k_is); (case my_l30 => k_is)
   (case my_cc30 => k_is); (case my_k30 => k_is); (case my_a31 => k_is); (case my_l31 => k_is); (case my_cc31 => k_is); (case my_k31 => k_is); (case my_a32 => k_is); (case my_l32 => k_is)
   (case my_cc32 => k_is); (case my_k32 => k_is); (case my_z0 => k_is); (case my_z1 => k_is); (case my_z2 => k_is); (case my_z3 => k_is); (case my_z4 => k_is); (case my_z5 => k_is)
   (case my_z6 => k_is); (case my_z7 => k_is); (case my_z8 => k_is); (case my_z9 => k_is); (case my_z10 => k_is); (case my_z11 => k_is); (case my_z12 => k_is); (case my_z13 => k_is)
   (case my_z14 => k_is); (case my_g0 => k_is); (case my_g1 => k_is); (case my_g2 => k_is); (case my_g3 => k_is)
