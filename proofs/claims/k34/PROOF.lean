import PyProof.Rows.All
import Wide.All
import OpenK.AllK
import Wide.FinOn
import Lean
import PyProof.EqAt
import PyProof.EqKinds
import PyProof.TupleCall
import PyProof.Rows.SortRuns
import PyProof.NeKinds
import PyProof.ExcAttrAll.ValueError
import PyProof.StationsW
import PyProof.PassesOwn
import PyProof.RulesAs
import PyProof.NsDelKeeps
import PyProof.CompMap
import PyProof.DictItems
import KE.KPairComp
import KE.KMinKey
import KE.KDictList
import KE.KDictOf
import KE.KEqDict
import PyProof.DictIter
import PyProof.DictWalks
import PyProof.Rows.DictUnroll
import KE.KRevIter
import KE.KLam
import KE.KSortKey
import KE.KSortTup
import PyProof.Rows.StrJoin2
import PyProof.Rows.StrNews
import PyProof.StrLawsTight
import PyProof.StrWalks
import PyProof.StrBlockH
import KE.KIntText
import KE.LcSums
import KE.KNest
import PySem.Challenge.RW_glazebench_k34_forms_refused
set_option Elab.async false
set_option linter.all false
set_option maxRecDepth 100000
abbrev VPz:=PySem.Value→PySem.Shared→Prop
abbrev PNz:=List (PySem.Addr × PySem.Obj)
abbrev MGz:=PySem.Str→Option PySem.Value
abbrev AOz:=Array (Option PySem.Value)
abbrev LSz:=List PySem.Str
abbrev LWz:=List PySem.Value
namespace L2
open PySem.W
open PySem PySem.Spec PyProof.Rows
abbrev Key:=Sum Int Str
def IS:Key->Value->Bool
 |.inl k,v=>Value.isInt k v
 |.inr x,v=>Value.isStrOf x v
def UH(w:World):Key->Int
 |.inl k=>hashInt k
 |.inr x=>hashStr w x
theorem Ba:∀{k:Key}{v:Value},IS k v=true->(∃i t,k=Sum.inl i/\v=Value.int i t)\/(∃x t,k=Sum.inr x/\v=Value.str x t)
 |.inl i,v,h=>by
  obtain⟨t,e⟩:=Value.isInt_shape (k:=i) (v:=v) h;exact .inl ⟨i,t,rfl,e⟩
 |.inr x,v,h=>by
  obtain⟨t,e⟩:=Value.isStrOf_shape (x:=x) (v:=v) h;exact .inr ⟨x,t,rfl,e⟩
theorem Oy(i:Int)(t:Tok):IS (.inl i) (.int i t)=true:=by simp[IS,Value.isInt]
theorem Ox(x:Str)(t:Tok):IS (.inr x) (.str x t)=true:=by simp[IS,Value.isStrOf]
theorem SI(a b:Int):decide ((Sum.inl a:Key)=Sum.inl b)=(a==b):=by
 by_cases e:a=b
 .subst e;simp
 .have h:¬(Sum.inl a:Key)=Sum.inl b:=λ q=>e (Sum.inl.inj q);rw[decide_eq_false h];exact(beq_eq_false_iff_ne.mpr e).symm
theorem SE(a b:Str):decide ((Sum.inr a:Key)=Sum.inr b)=decide (a=b):=by
 by_cases e:a=b
 .subst e;simp
 .have h:¬(Sum.inr a:Key)=Sum.inr b:=λ q=>e (Sum.inr.inj q);rw[decide_eq_false h,decide_eq_false e]
theorem SH(a:Int)(b:Str):decide ((Sum.inl a:Key)=Sum.inr b)=false:=decide_eq_false (λ q=>nomatch q)
theorem SG(a:Str)(b:Int):decide ((Sum.inr a:Key)=Sum.inl b)=false:=decide_eq_false (λ q=>nomatch q)
def Bd(prog:Program)(w:World):PySem.KeyKind prog w Key where
 is:=IS
 hash:=UH w
 inj:=λ v a b ha hb=>by
  rcases Ba ha with ⟨i,t,rfl,rfl⟩|⟨x,t,rfl,rfl⟩
  .rcases Ba hb with ⟨j,u,rfl,e⟩|⟨y,u,rfl,e⟩
   .injection e with e1 _;rw[e1]
   .exact nomatch e
  .rcases Ba hb with ⟨j,u,rfl,e⟩|⟨y,u,rfl,e⟩
   .exact nomatch e
   .injection e with e1 _;rw[e1]
 byValue:=λ k v h=>by
  rcases Ba h with ⟨i,t,rfl,rfl⟩|⟨x,t,rfl,rfl⟩<;>rfl
 pyHash:=λ hv h=>by
  rcases Ba hv with ⟨i,t,rfl,rfl⟩|⟨x,t,rfl,rfl⟩
  .exact wpAny_pyHash_int h
  .exact wpAny_pyHash_str h
 eqBool:=λ hu hv h=>by
  rcases Ba hu with ⟨i,t,rfl,rfl⟩|⟨x,t,rfl,rfl⟩
  .rcases Ba hv with ⟨j,u,rfl,rfl⟩|⟨y,u,rfl,rfl⟩
   .rw[SI]at h;exact wpAny_eqBool_int h
   .rw[SH]at h;exact SeqAt.EqAt.int_str i t y u _ _ _ _ h
  .rcases Ba hv with ⟨j,u,rfl,rfl⟩|⟨y,u,rfl,rfl⟩
   .rw[SG]at h;exact SeqAt.EqAt.str_int x t j u _ _ _ _ h
   .rw[SE]at h;exact wpAny_eqBool_str h
 «strs»:=λ k x t v h=>by
  rcases Ba h with ⟨i,u,rfl,e⟩|⟨y,u,rfl,e⟩
  .exact nomatch e
  .injection e with e1 _;subst e1;cases v<;>rfl
theorem Le(prog:Program)(w:World)(i:Int)(t:Tok):(Bd prog w).is (.inl i) (.int i t)=true:=Oy i t
theorem Ld(prog:Program)(w:World)(x:Str)(t:Tok):(Bd prog w).is (.inr x) (.str x t)=true:=Ox x t
inductive V where
 |non|bl (b:Bool)|int (i:Int)|str (x:Str)|byt (b:Array UInt8)|flt (b:UInt64)|ref (a:Addr)|ty (n:String)
 deriving DecidableEq
abbrev LKz:=List (List Key×V)
abbrev LFz:=List (Str×V)
abbrev LUz:=List V
def RelV:V->Value->Prop
 |.non,u=>u=Value.none
 |.bl b,u=>u=Value.bool b
 |.int i,u=>∃t,u=Value.int i t
 |.str x,u=>∃t,u=Value.str x t
 |.byt b,u=>∃t,u=Value.bytes b t
 |.flt b,u=>∃t,u=Value.float b t
 |.ref a,u=>u=Value.ref a
 |.ty n,u=>u=Value.type n
abbrev Vals:LUz->LWz->Prop:=Paired RelV
theorem Vals.length{xs:LUz}{us:LWz}(r:Vals xs us):xs.length=us.length:=Paired.length r
theorem Vals.get:∀{xs:LUz}{us:LWz}{i:Nat}{x:V},Vals xs us->xs[i]?=some x->∃u,us[i]?=some u/\RelV x u
 |_,_,_,_,.nil,e=>by simp at e
 |_,_,0,_,.cons r _,e=>by simp at e;subst e;exact⟨_,rfl,r⟩
 |_,_,i+1,x,.cons _ t,e=>by
  obtain⟨u,h1,h2⟩:=Vals.get (i:=i) (x:=x) t (by simpa using e);exact⟨u,by simpa using h1,h2⟩
theorem Vals.set{x:V}{u:Value}(r:RelV x u):∀{xs:LUz}{us:LWz}(i:Nat),Vals xs us->Vals (xs.set i x) (us.set i u)
 |_,_,_,.nil=>.nil
 |_,_,0,.cons _ t=>.cons r t
 |_,_,i+1,.cons q t=>.cons q (Vals.set r i t)
theorem Vals.append:∀{xs ys:LUz}{us ws:LWz},Vals xs us->Vals ys ws->Vals (xs++ys) (us++ws)
 |_,_,_,_,.nil,s=>s
 |_,_,_,_,.cons r t,s=>.cons r (Vals.append t s)
theorem Vals.take:∀{xs:LUz}{us:LWz}(n:Nat),Vals xs us->Vals (xs.take n) (us.take n)
 |_,_,0,_=>.nil
 |_,_,_+1,.nil=>.nil
 |_,_,n+1,.cons r t=>.cons r (Vals.take n t)
theorem Vals.drop:∀{xs:LUz}{us:LWz}(n:Nat),Vals xs us->Vals (xs.drop n) (us.drop n)
 |_,_,0,r=>r
 |_,_,_+1,.nil=>.nil
 |_,_,n+1,.cons _ t=>Vals.drop n t
def RelO:Option V->Option Value->Prop
 |some v,some u=>RelV v u
 |none,none=>True
 |_,_=>False
def KV{κ:Type}:List (κ×V)->List (κ×Value)->Prop:=Paired λ(p:κ×V)(q:κ×Value)=>p.1=q.1/\RelV p.2 q.2
def kV:Key->V
 |.inl i=>.int i
 |.inr x=>.str x
inductive HO where
 |lst (xs:LUz)
 |tup (xs:LUz)
 |dK (kvs:List (Key×V))|dT (kvs:LKz)
 |set (S:Int->Bool) (n:Nat)
 |ins (C dx:Addr) (fs:LFz)
 |own (x:Addr)
 |xd (fs:LFz)
 |met (f x:Addr)
 |rng (lo hi:Int)
 |frz (o:Obj) (u:HO)
 |tbl (ps:Array Value)
 |ext (φ:Heap->Prop)
abbrev Hp:=Addr->Option HO
def upd(H:Hp)(a:Addr)(o:HO):Hp:=λ b=>if b=a then some o else H b
theorem upd_same{H:Hp}{a:Addr}{o:HO}:upd H a o a=some o:=by unfold upd;rw[if_pos rfl]
theorem Ah{H:Hp}{a b:Addr}{o:HO}(h:b≠a):upd H a o b=H b:=by unfold upd;rw[if_neg h]
theorem EX{H:Hp}{a b:Addr}{o u:HO}(h:H a=some o)(h':H b=some u)(d:o≠u):a≠b:=by
 intro e;subst e;rw[h]at h';exact d (Option.some.inj h')
theorem Ae{H:Hp}{a b:Addr}{o:HO}(h:H a=some o)(h':H b=none):a≠b:=by
 intro e;subst e;rw[h]at h';cases h'
section
variable(P:Program)(w:World)
def ObjOk(H:Hp)(h:Heap)(a:Addr):HO->Prop
 |.lst xs=>xs.length<=sizeLine/\∃(its:LWz)(n:Nat),Vals xs its/\h.get? a=some { cls:=.type "list",data:=.seq its.toArray n }
 |.tup xs=>xs.length<=sizeLine/\∃its:LWz,Vals xs its/\IsTup h a its.toArray
 |.dK kvs=>kvs.length<=sizeLine/\(a==sysModules)=false/\∃vs,KV kvs vs/\h.DictOf (Bd P w) a vs
 |.dT kvs=>kvs.length<=sizeLine/\(a==sysModules)=false/\∃xs:List (List Key×Addr×Value),
   Paired (λ(p:List Key×V)(q:List Key×Addr×Value)=>p.1=q.1/\H q.2.1=some (.tup (p.1.map kV))/\RelV p.2 q.2.2) kvs xs /\
   ∃o es ep,h.get? a=some o/\o.ExactDict/\o.data=.dict es ep/\es.toList=xs.map (entryOfKey (tupleKind (Bd P w)))/\(xs.map (·.1)).Nodup
 |.set S n=>h.SetOf (intKind P w) a S n
 |.ins C dx fs=>H dx=some (.own a)/\fs.length<=1000/\dx≠a/\h.get? a=some (instObj C dx) /\
   ∃mA,h.Ns1 dx mA/\(∀f,RelO (fs.lookup f) (mA f))/\PySem.Within mA (fs.map (·.1))
 |.own _=>∃o,h.get? a=some o
 |.xd fs=>∃mA,h.Ns1 a mA/\∀f,RelO (fs.lookup f) (mA f)
 |.rng lo hi=>∃t u v,h.get? a=some { cls:=.type "range",data:=.fields #[.int lo t,.int hi u,.int 1 v] }
 |.frz o u=>h.get? a=some o/\ObjOk H h a u
 |.tbl ps=>h.get? a=some { cls:=.none,data:=.fields ps }
 |.met f x=>h.get? a=some (methodObj (.ref f) (.ref x))
 |.ext φ=>φ h/\(∃o,h.get? a=some o)/\∀h1 h2:Heap,φ h1->(∀o,h1.get? a=some o->h2.get? a=some o)->φ h2
def HOk(H:Hp)(h:Heap):Prop:=∀a o,H a=some o->ObjOk P w H h a o
end
section
variable{P:Program}{w:World}{H H':Hp}{h h':Heap}{a:Addr}{o:HO}
theorem ObjOk.lt(x:ObjOk P w H h a o):a<h.objs.size:=by
 cases o with
 |lst xs=>obtain⟨_,_,_,_,e⟩:=x;exact Heap.lt_size e
 |tup xs=>obtain⟨_,_,_,p⟩:=x;exact p.lt
 |dK kvs=>obtain⟨_,_,_,_,o,_,_,e,_⟩:=x;exact Heap.lt_size e
 |dT kvs=>obtain⟨_,_,_,_,o,_,_,e,_⟩:=x;exact Heap.lt_size e
 |set S n=>obtain⟨o,_,_,_,e,_⟩:=x;exact Heap.lt_size e
 |ins C dx fs=>obtain⟨_,_,_,e,_⟩:=x;exact Heap.lt_size e
 |own y=>obtain⟨_,e⟩:=x;exact Heap.lt_size e
 |xd fs=>obtain⟨_,⟨_,_,_,e,_⟩,_⟩:=x;exact Heap.lt_size e
 |rng lo hi=>obtain⟨_,_,_,e⟩:=x;exact Heap.lt_size e
 |frz ob u=>obtain⟨e,_⟩:=x;exact Heap.lt_size e
 |tbl ps=>exact Heap.lt_size (show h.get? a=some _ from x)
 |met f y=>exact Heap.lt_size (show h.get? a=some _ from x)
 |ext φ=>obtain⟨_,⟨_,e⟩,_⟩:=x;exact Heap.lt_size e
theorem Paired.mapP{α β:Type}{F G:α->β->Prop}:∀{l₁:List α}{l₂:List β},Paired F l₁ l₂->(∀a b,F a b->G a b)->Paired G l₁ l₂
 |_,_,.nil,_=>.nil
 |_,_,.cons r t,f=>.cons (f _ _ r) (Paired.mapP t f)
theorem ObjOk.stay(x:ObjOk P w H h a o)(k:∀b u,(b=a\/H b=some (.own a))->h.get? b=some u->h'.get? b=some u)
  (ho:∀b,H b=some (.own a)->H' b=some (.own a)) (ht:∀b xs,H b=some (.tup xs)->H' b=some (.tup xs)):ObjOk P w H' h' a o:=by
 induction o with
 |lst xs=>obtain⟨z,its,n,r,e⟩:=x;exact⟨z,its,n,r,k _ _ (.inl rfl) e⟩
 |tup xs=>obtain⟨z,its,r,ob,e,c⟩:=x;exact⟨z,its,r,ob,k _ _ (.inl rfl) e,c⟩
 |dK kvs=>obtain⟨z,y,vs,r,ob,es,ep,e,c⟩:=x;exact⟨z,y,vs,r,ob,es,ep,k _ _ (.inl rfl) e,c⟩
 |dT kvs =>
  obtain⟨z,y,xs,r,ob,es,ep,e,c⟩:=x;exact⟨z,y,xs,Paired.mapP r λ p q z=>⟨z.1,ht _ _ z.2.1,z.2.2⟩,ob,es,ep,k _ _ (.inl rfl) e,c⟩
 |set S n=>obtain⟨ob,es,ep,t,e,c⟩:=x;exact⟨ob,es,ep,t,k _ _ (.inl rfl) e,c⟩
 |ins C dx fs =>
  obtain⟨d,z,ne,e,mA,⟨od,es,ep,e2,c⟩,r⟩:=x;exact⟨ho _ d,z,ne,k _ _ (.inl rfl) e,mA,⟨od,es,ep,k _ _ (.inr d) e2,c⟩,r⟩
 |own y=>obtain⟨ob,e⟩:=x;exact⟨ob,k _ _ (.inl rfl) e⟩
 |xd fs=>obtain⟨mA,⟨od,es,ep,e,c⟩,r⟩:=x;exact⟨mA,⟨od,es,ep,k _ _ (.inl rfl) e,c⟩,r⟩
 |rng lo hi=>obtain⟨t,u,v,e⟩:=x;exact⟨t,u,v,k _ _ (.inl rfl) e⟩
 |frz ob u ih=>obtain⟨e,q⟩:=x;exact⟨k _ _ (.inl rfl) e,ih q⟩
 |tbl ps =>
  have e:h.get? a=some { cls:=.none,data:=.fields ps }:=x;show h'.get? a=some { cls:=.none,data:=.fields ps };exact k a _ (.inl rfl) e
 |met f y =>
  have e:h.get? a=some (methodObj (.ref f) (.ref y)):=x;show h'.get? a=some (methodObj (.ref f) (.ref y));exact k a _ (.inl rfl) e
 |ext φ=>obtain⟨p,⟨o,e⟩,st⟩:=x;exact⟨st _ _ p λ o q=>k _ _ (.inl rfl) q,⟨o,k _ _ (.inl rfl) e⟩,st⟩
theorem HOk.lt(x:HOk P w H h)(e:H a=some o):a<h.objs.size:=(x a o e).lt
theorem HOk.fresh(x:HOk P w H h)(e:h.objs.size<=a):H a=none:=by
 cases q:H a with
 |none=>rfl
 |some u=>exact absurd (Nat.lt_of_lt_of_le (x.lt q) e) (Nat.lt_irrefl _)
theorem HOk.kept(x:HOk P w H h)(k:∀b u,h.get? b=some u->h'.get? b=some u):HOk P w H h':=λ a o e =>
 (x a o e).stay (λ b u _ q=>k b u q) (λ_ q=>q) λ_ _ q=>q
theorem HOk.laid(x:HOk P w H h)(k:∀b u,h.get? b=some u->h'.get? b=some u)(hp:h.objs.size<=a)(new:ObjOk P w (upd H a o) h' a o):HOk P w (upd H a o) h':=λ b u e=>by
 have hn:=x.fresh hp;by_cases hb:b=a
 .subst hb;rw[upd_same]at e;cases e;exact new
 .rw[Ah hb]at e;exact(x b u e).stay (λ c v _ q=>k c v q) (λ c q=>by rw[Ah (Ae q hn)];exact q) λ c xs q=>by rw[Ah (Ae q hn)];exact q
end
def Rd(H:Hp)(a:Addr)(u:HO):Prop:=H a=some u\/∃o,H a=some (.frz o u)
theorem Rd.ok{P:Program}{w:World}{H:Hp}{h:Heap}{a:Addr}{u:HO}(r:Rd H a u)(x:HOk P w H h):ObjOk P w H h a u:=by
 rcases r with r|⟨o,r⟩
 .exact x a u r
 .obtain⟨_,q⟩:=x a _ r;exact q
def Mut:Option HO->Prop
 |some (.lst _)=>True
 |some (.dK _)=>True
 |some (.dT _)=>True
 |some (.set _ _)=>True
 |some (.ins _ _ _)=>True
 |some (.ext _)=>True
 |_=>False
section
variable{P:Program}{w:World}{H:Hp}{h h':Heap}{x e:Addr}{o':HO}
theorem HOk.write(ok:HOk P w H h)(mu:Mut (H x))(he:e=x\/H e=some (.own x))(k:∀b u,b≠e->h.get? b=some u->h'.get? b=some u)(heo:∃u,h'.get? e=some u)
  (new:ObjOk P w (upd H x o') h' x o'):HOk P w (upd H x o') h':=λ b u q=>by
 have nown:∀c y,H c=some (.own y)->c≠x:=λ c y r z=>by subst z;rw[r]at mu;exact mu
 have ntup:∀c xs,H c=some (.tup xs)->c≠x:=λ c xs r z=>by subst z;rw[r]at mu;exact mu
 by_cases hb:b=x
 .subst hb;rw[upd_same]at q;cases q;exact new
 .rw[Ah hb]at q;by_cases hbe:b=e
  .have q':H b=some (.own x):=by
    rcases he with z|z
    .exact absurd (hbe.trans z) hb
    .rw[hbe];exact z
   rw[q]at q';cases q';obtain⟨v,hv⟩:=heo;exact⟨v,by rw[hbe];exact hv⟩
  .refine(ok b u q).stay (λ c v hc r=>k c v ?_ r) (λ c r=>by rw[Ah (nown c b r)];exact r) λ c xs r=>by rw[Ah (ntup c xs r)];exact r
   rcases hc with rfl|hc
   .exact hbe
   .rintro rfl;rcases he with z|z
    .exact nown c b hc z
    .rw[hc]at z;cases z;exact hb rfl
end
structure Un(fs ex:List Addr)(H H':Hp)(h h':Heap):Prop where
 keep:∀b o,h.get? b=some o->H b=none->b∉fs->b∉ex->h'.get? b=some o
 slot:∀b o,h.get? b=some o->H b=none->b∈fs->b∉ex->∃sl,h'.get? b=some { o with slots:=sl }
 free:∀b o,h.get? b=some o->H b=none->b∉ex->H' b=none
 there:∀b o,h.get? b=some o->b∉ex->∃o',h'.get? b=some o'
 tups:∀b xs,H b=some (.tup xs)->H' b=some (.tup xs)
 frzs:∀b o u,H b=some (.frz o u)->H' b=some (.frz o u)
 tbls:∀b ps,H b=some (.tbl ps)->∃more,H' b=some (.tbl (ps++more))
section
variable{fs fs' ex ex':List Addr}{H H1 H2:Hp}{h h1 h2 h':Heap}{a x e:Addr}{o:HO}
theorem Un.any(u:Un fs ex H H1 h h1){b:Addr}{ob:Obj}(q:h.get? b=some ob)(n:H b=none)(hx:b∉ex):∃sl,h1.get? b=some { ob with slots:=sl }:=by
 by_cases hb:b∈fs
 .exact u.slot b ob q n hb hx
 .exact⟨ob.slots,u.keep b ob q n hb hx⟩
theorem Un.kept(k:∀b u,h.get? b=some u->h'.get? b=some u):Un fs ex H H h h' :=
 ⟨λ b ob q _ _ _=>k b ob q,λ b ob q _ _ _=>⟨ob.slots,k b ob q⟩,λ_ _ _ n _=>n,λ b ob q _=>⟨ob,k b ob q⟩,λ_ _ q=>q,λ_ _ _ q=>q,λ_ ps q=>⟨#[],by rw[q];simp⟩⟩
theorem Un.refl:Un fs ex H H h h:=Un.kept λ_ _ q=>q
theorem Un.laid(k:∀b u,h.get? b=some u->h'.get? b=some u)(hp:h.objs.size<=a)(hn:H a=none):Un fs ex H (upd H a o) h h' where
 keep:=λ b u q _ _ _=>k b u q
 slot:=λ b u q _ _ _=>⟨u.slots,k b u q⟩
 free:=λ b u q n _=>by rw[Ah (Nat.ne_of_lt (Nat.lt_of_lt_of_le (Heap.lt_size q) hp))];exact n
 there:=λ b u q _=>⟨u,k b u q⟩
 tups:=λ b xs q=>by rw[Ah (Ae q hn)];exact q
 frzs:=λ b u xs q=>by rw[Ah (Ae q hn)];exact q
 tbls:=λ b ps q=>⟨#[],by rw[Ah (Ae q hn),q];simp⟩
theorem Un.write(mu:Mut (H x))(he:e=x\/H e=some (.own x))(k:∀b u,b≠e->h.get? b=some u->h'.get? b=some u)(heo:∃u,h'.get? e=some u):Un fs ex H (upd H x o) h h':=by
 have hx:∀b,H b=none->b≠x:=λ b n z=>by subst z;rw[n]at mu;exact mu
 have hb:∀b,H b=none->b≠e:=λ b n z=>by
  subst z;rcases he with r|r
  .exact hx b n r
  .rw[n]at r;cases r
 have hm:∀b u,H b=some u->¬Mut (some u)->b≠x:=λ b u q nm z=>by subst z;rw[q]at mu;exact nm mu
 refine⟨λ b u q n _ _=>k b u (hb b n) q,λ b u q n _ _=>⟨u.slots,k b u (hb b n) q⟩,λ b u q n _=>by rw[Ah (hx b n)];exact n,λ b u q _=>?_,
  λ b xs q=>by rw[Ah (hm b _ q λ z=>z)];exact q,λ b u xs q=>by rw[Ah (hm b _ q λ z=>z)];exact q,λ b ps q=>⟨#[],by rw[Ah (hm b _ q λ z=>z),q];simp⟩⟩
 by_cases hbe:b=e
 .subst hbe;exact heo
 .exact⟨u,k b u hbe q⟩
end
def trk(h:Heap)(H:Hp):List Addr:=(List.range h.objs.size).filter λ a=>(H a).isSome
def JZ(h:Heap)(H:Hp):Heap:=hideAll h (trk h H)
theorem O1(h:Heap)(H:Hp):(JZ h H).objs.size=h.objs.size:=hideAll_size _ _
theorem PK{h:Heap}{H:Hp}{b:Addr}{o:Obj}(e:h.get? b=some o)(n:H b=none):(JZ h H).get? b=some o :=
 hideAll_get _ e λ hm=>by
  have q:(H b).isSome=true:=(List.mem_filter.mp hm).2;rw[n]at q;simp at q
theorem QY{h:Heap}{H:Hp}{b:Addr}{o:Obj}(e:(JZ h H).get? b=some o):h.get? b=some o/\H b=none:=by
 have e':h.get? b=some o:=of_hideAll (trk h H) e;refine⟨e',?_⟩;cases q:H b with
 |none=>rfl
 |some x =>
  have hm:b∈trk h H:=List.mem_filter.mpr ⟨List.mem_range.mpr (Heap.lt_size e'),by simp[q]⟩;have z:(JZ h H).get? b=none:=hideAll_none (trk h H) hm;rw[z]at e;cases e
structure Mod(K:Frag)(mg:MGz)(base:Heap):Prop where
 kin:K.In base
 glob:base.Ns mainGlobals mg
 blt:∃mb,base.Ns builtinsNs mb/\∀x:Str,x≠"__name__"->mb x=bootBuiltins x
 nolimit:base.NoLimit
structure Cx where
 prog:Program
 w:World
 K:Frag
 mg:MGz
 base:Heap
 A:Around
 N:LSz
 s₀:Shared
 H₀:Hp
 env:Env
 outer:List Env
 stack:List Env
 ex:List Addr
 fn:Str->Bool
 calm:Bool
 pn:PNz
 xe:VPz
def frs(l:List Env):List Addr:=l.filterMap (·.frame)
abbrev Cx.fs(X:Cx):List Addr:=frs X.outer
def Vis(sc:Scope)(x:Str):Prop:=sc.names.lookup x=some .local\/sc.names.lookup x=some .cell\/sc.names.lookup x=some .free
def Loc(sc:Scope)(x:Str):Prop:=sc.names.lookup x=some .local\/sc.names.lookup x=some .cell
def UT(env:Env)(h:Heap)(m:MGz)(x:Str)(u:Value):Prop :=
 (env.kindOf x=some .local/\m x=some u)\/((env.kindOf x=some .cell\/env.kindOf x=some .free)/\∃c,env.cells.lookup x=some c/\h.IsCell c (some u))
structure Cx.Ok(X:Cx):Prop where
 mod:Mod X.K X.mg X.base
 kind:X.env.scope.kind=.function
 glob:X.env.globals=mainGlobals
 blt:X.env.builtins=builtinsNs
 above:X.s₀.heap.objs.size<=X.env.locals
 inj:∀x y c,X.env.cells.lookup x=some c->X.env.cells.lookup y=some c->x=y
 has:∀x,(X.env.kindOf x=some .cell\/X.env.kindOf x=some .free)->∃c,X.env.cells.lookup x=some c
 cab:∀x c,X.fn x=true->X.env.cells.lookup x=some c->X.s₀.heap.objs.size<=c
 hd:X.calm=true->X.A.handled=none
 frames:X.A.frames=some X.stack
 stk:X.stack=X.outer\/(X.stack=X.env::X.outer/\X.env.frame=some X.env.locals)
 exf:∀b∈X.ex,b≠X.env.locals/\∀x c,X.env.cells.lookup x=some c->c≠b
 bs:∀b o,X.base.get? b=some o->X.s₀.heap.get? b=some o/\X.H₀ b=none
 bsz:X.base.objs.size<=X.s₀.heap.objs.size
 noex:∀b o,X.base.get? b=some o->b∉X.ex
 exfs:∀b∈X.ex,b∉X.fs
 funs:X.s₀.heap.FunFrames X.base X.outer
 frf:∀b∈X.fs,X.H₀ b=none
structure Inv(X:Cx)(pins:PNz)(σ:List (Option V))(H:Hp)(s:Shared):Prop where
 ok:X.Ok
 os:s.os=X.s₀.os
 bare:AllBare s.gens
 base:Un X.fs X.ex X.H₀ H X.s₀.heap s.heap
 loc:∃m,s.heap.Ns X.env.locals m/\∀(i:Nat)(x:Str)(v:V),X.N[i]?=some x->σ[i]?=some (some v)->Vis X.env.scope x->∃u,RelV v u/\UT X.env s.heap m x u
 cell:∀x c,X.env.cells.lookup x=some c->∃v,s.heap.IsCell c v
 free:H X.env.locals=none
 freeC:∀x c,X.env.cells.lookup x=some c->H c=none
 pin:∀p∈X.pn++pins,s.heap.get? p.1=some p.2/\H p.1=none/\p.1≠X.env.locals/\p.1∉X.fs/\∀v,p.2.data≠.cell v
 hok:HOk X.prog X.w H s.heap
 len:σ.length=X.N.length
section
variable{X:Cx}{pins:PNz}{σ:List (Option V)}{H H':Hp}{s:Shared}{h':Heap}
theorem Cx.Ok.nofr(ok:X.Ok){b:Addr}{o:Obj}(e:X.base.get? b=some o):b∉X.fs:=λ hb=>by
 have:=(ok.funs.mem hb).1;rw[e]at this;cases this
theorem Inv.bs(I:Inv X pins σ H s):∀b o,X.base.get? b=some o->s.heap.get? b=some o/\H b=none:=λ b o e =>
 ⟨I.base.keep b o (I.ok.bs b o e).1 (I.ok.bs b o e).2 (I.ok.nofr e) (I.ok.noex b o e),I.base.free b o (I.ok.bs b o e).1 (I.ok.bs b o e).2 (I.ok.noex b o e)⟩
theorem Inv.bk(I:Inv X pins σ H s):∀b o,X.base.get? b=some o->s.heap.get? b=some o:=λ b o e=>(I.bs b o e).1
theorem Inv.mod(I:Inv X pins σ H s):Mod X.K X.mg X.base:=I.ok.mod
theorem Inv.kIn(I:Inv X pins σ H s):X.K.In s.heap:=I.ok.mod.kin.keeps I.bk
theorem Inv.lt(I:Inv X pins σ H s):X.env.locals<s.heap.objs.size:=let ⟨_,hn,_⟩:=I.loc;hn.lt
theorem Inv.sz(I:Inv X pins σ H s):X.s₀.heap.objs.size<=s.heap.objs.size:=Nat.le_trans I.ok.above (Nat.le_of_lt I.lt)
theorem Inv.nofs(I:Inv X pins σ H s){a:Addr}(h:s.heap.objs.size<=a):a∉X.fs:=λ hb=>by
 obtain⟨_,o,ho,_⟩:=I.ok.funs.mem hb;exact absurd (Nat.lt_of_lt_of_le (Heap.lt_size ho) (Nat.le_trans I.sz h)) (Nat.lt_irrefl _)
theorem Inv.cne(I:Inv X pins σ H s):∀x c,X.env.cells.lookup x=some c->c≠X.env.locals:=λ x c e z=>by
 obtain⟨v,o,ho,hd⟩:=I.cell x c e;obtain⟨m,⟨o',es,ep,ho',hd',_⟩,_⟩:=I.loc;rw[z,ho']at ho;cases ho;rw[hd']at hd;cases hd
theorem Inv.funs(I:Inv X pins σ H s):s.heap.FunFrames X.base X.outer:=by
 have all:∀(l:List Env),(∀b∈frs l,b∈X.fs)->X.s₀.heap.FunFrames X.base l->s.heap.FunFrames X.base l:=by
  intro l
  induction l with
  |nil=>intro _ _;trivial
  |cons env r ih =>
   intro hs hl;obtain⟨hk,⟨L,o,hf,hn,ho,hd⟩,hr⟩:=hl;have hL:L∈X.fs:=hs L (by unfold frs;rw[List.filterMap_cons,hf];exact List.mem_cons_self);obtain⟨sl,e⟩:=I.base.slot L o ho (I.ok.frf L hL) hL λ z=>I.ok.exfs L z hL;exact⟨hk,⟨L,_,hf,hn,e,hd⟩,ih (λ b hb=>hs b (by unfold frs;rw[List.filterMap_cons,hf];exact List.mem_cons_of_mem _ hb)) hr⟩
 exact all X.outer (λ_ hb=>hb) I.ok.funs
theorem Inv.stack(I:Inv X pins σ H s):s.heap.FunFrames X.base X.stack:=by
 rcases I.ok.stk with e|⟨e,hf⟩
 .rw[e];exact I.funs
 .rw[e];obtain⟨m,hn,_⟩:=I.loc;refine .cons (by rw[I.ok.kind];decide) hf hn ?_ I.funs;exact Heap.get?_none_of_le (Nat.le_trans I.ok.bsz I.ok.above)
theorem Inv.stkSub(I:Inv X pins σ H s):∀b∈frs X.stack,b∈X.env.locals::X.fs:=λ b hb=>by
 rcases I.ok.stk with e|⟨e,hf⟩
 .rw[e]at hb;exact List.mem_cons_of_mem _ hb
 .rw[e]at hb;unfold frs at hb;rw[List.filterMap_cons,hf]at hb;exact hb
theorem Inv.stkFree(I:Inv X pins σ H s):∀b∈frs X.stack,H b=none:=λ b hb=>by
 rcases List.mem_cons.mp (I.stkSub b hb) with e|hb
 .rw[e];exact I.free
 .obtain⟨_,o,ho,_⟩:=I.ok.funs.mem hb;exact I.base.free b o ho (I.ok.frf b hb) λ z=>I.ok.exfs b z hb
theorem Inv.step{g':Array GenState}{t':Nat}{d':Drawn}{ch:List Addr}(I:Inv X pins σ H s)
  (hch:∀b∈ch,(b∈X.ex\/X.s₀.heap.objs.size<=b)/\b≠X.env.locals/\(∀x c,X.env.cells.lookup x=some c->c≠b)/\∀p∈X.pn++pins,p.1≠b)
  (keep:∀b o,b≠X.env.locals->b∉X.fs->b∉ch->s.heap.get? b=some o->H b=none->h'.get? b=some o)
  (slot:∀b o,b≠X.env.locals->b∈X.fs->b∉ch->s.heap.get? b=some o->H b=none->∃sl,h'.get? b=some { o with slots:=sl }) (free:∀b o,b∉ch->s.heap.get? b=some o->H b=none->H' b=none)
  (there:∀b o,b∉ch->s.heap.get? b=some o->∃o',h'.get? b=some o')
  (tups:∀b xs,H b=some (.tup xs)->H' b=some (.tup xs)) (frzs:∀b o u,H b=some (.frz o u)->H' b=some (.frz o u)) (tbls:∀b ps,H b=some (.tbl ps)->∃more,H' b=some (.tbl (ps++more)))
  (ns:∀m,s.heap.Ns X.env.locals m->h'.Ns X.env.locals m) (hok:HOk X.prog X.w H' h') (hg:AllBare g') :
  Inv X pins σ H' { s with heap:=h',gens:=g',drawn:=d',toks:=t' }:=by
 have neL:∀b o,X.s₀.heap.get? b=some o->b≠X.env.locals:=λ b o e=>Nat.ne_of_lt (Nat.lt_of_lt_of_le (Heap.lt_size e) I.ok.above);have neC:∀b o,X.s₀.heap.get? b=some o->b∉X.ex->b∉ch:=λ b o e hx hb=>by
  rcases(hch b hb).1 with z|z
  .exact hx z
  .exact absurd (Nat.lt_of_lt_of_le (Heap.lt_size e) z) (Nat.lt_irrefl _)
 have cellK:∀x c,X.env.cells.lookup x=some c->∀v,s.heap.IsCell c v->h'.IsCell c v:=λ x c e v ⟨o,ho,hd⟩=>by
  have nch:c∉ch:=λ z=>(hch c z).2.2.1 x c e rfl;by_cases hc:c∈X.fs
  .obtain⟨sl,q⟩:=slot c o (I.cne x c e) hc nch ho (I.freeC x c e);exact⟨_,q,hd⟩
  .exact⟨o,keep c o (I.cne x c e) hc nch ho (I.freeC x c e),hd⟩
 refine⟨I.ok,I.os,hg,⟨λ b o e n hb hx=>?_,λ b o e n hb hx=>?_,λ b o e n hx=>?_,λ b o e hx=>?_,λ b xs e=>tups b xs (I.base.tups b xs e),λ b o xs e=>frzs b o xs (I.base.frzs b o xs e),λ b ps e=>?_⟩,?_,λ x c e=>?_,?_,λ x c e=>?_,λ p hp=>?_,hok,I.len⟩
 .exact keep b o (neL b o e) hb (neC b o e hx) (I.base.keep b o e n hb hx) (I.base.free b o e n hx)
 .obtain⟨sl,e1⟩:=I.base.slot b o e n hb hx;obtain⟨sl',e2⟩:=slot b _ (neL b o e) hb (neC b o e hx) e1 (I.base.free b o e n hx);exact⟨sl',e2⟩
 .obtain⟨o',e1⟩:=I.base.there b o e hx;exact free b o' (neC b o e hx) e1 (I.base.free b o e n hx)
 .obtain⟨o',e1⟩:=I.base.there b o e hx;exact there b o' (neC b o e hx) e1
 .obtain⟨m1,e1⟩:=I.base.tbls b ps e;obtain⟨m2,e2⟩:=tbls b _ e1;exact⟨m1++m2,by rw[e2,Array.append_assoc]⟩
 .obtain⟨m,hn,hl⟩:=I.loc;refine⟨m,ns m hn,λ i x v e1 e2 e3=>?_⟩;obtain⟨u,r,l⟩:=hl i x v e1 e2 e3;refine⟨u,r,?_⟩;rcases l with l|⟨k,c,e,z⟩
  .exact .inl l
  .exact .inr ⟨k,c,e,cellK x c e _ z⟩
 .obtain⟨v,z⟩:=I.cell x c e;exact⟨v,cellK x c e v z⟩
 .obtain⟨m,⟨o,_,_,ho,_⟩,_⟩:=I.loc;exact free _ o (λ z=>(hch _ z).2.1 rfl) ho I.free
 .obtain⟨v,o,ho,hd⟩:=I.cell x c e;exact free c o (λ z=>(hch c z).2.2.1 x c e rfl) ho (I.freeC x c e)
 .obtain⟨e,n,ne,nf,d⟩:=I.pin p hp;have nch:p.1∉ch:=λ z=>(hch p.1 z).2.2.2 p hp rfl;exact⟨keep p.1 p.2 ne nf nch e n,free p.1 p.2 nch e n,ne,nf,d⟩
theorem Inv.un{t':Nat}(I:Inv X pins σ H s)(u:Un X.fs [] H H' s.heap h')(hok:HOk X.prog X.w H' h'):Inv X pins σ H' { s with heap:=h',toks:=t' }:=by
 obtain⟨m,⟨o,es,ep,ho,r⟩,_⟩:=id I.loc;obtain⟨sl,hL⟩:=u.any ho I.free (by simp);exact I.step (g':=s.gens) (d':=s.drawn) (ch:=[]) (λ_ z=>nomatch z) (λ b o _ hb _ e n=>u.keep b o e n hb (by simp)) (λ b o _ hb _ e n=>u.slot b o e n hb (by simp)) (λ b o _ e n=>u.free b o e n (by simp)) (λ b o _ e=>u.there b o e (by simp)) u.tups u.frzs u.tbls (λ m' hm=>by
  obtain⟨o',es',ep',ho',r'⟩:=hm;rw[ho]at ho';cases ho';exact⟨_,es',ep',hL,r'⟩) hok I.bare
theorem Inv.call{g':Array GenState}{t':Nat}{d':Drawn}{ch:List Addr}(I:Inv X pins σ H s)(u:Un (frs X.stack) ch H H' s.heap h')(hok:HOk X.prog X.w H' h')(hg:AllBare g')
  (hch:∀b∈ch,(b∈X.ex\/X.s₀.heap.objs.size<=b)/\b≠X.env.locals/\(∀x c,X.env.cells.lookup x=some c->c≠b)/\∀p∈X.pn++pins,p.1≠b) :
  Inv X pins σ H' { s with heap:=h',gens:=g',drawn:=d',toks:=t' }:=by
 obtain⟨m,⟨o,es,ep,ho,r⟩,_⟩:=id I.loc;obtain⟨sl,hL⟩:=u.any ho I.free λ z=>(hch _ z).2.1 rfl;exact I.step (ch:=ch) hch (λ b o hL hb hc e n=>u.keep b o e n (λ z=>(List.mem_cons.mp (I.stkSub b z)).elim hL hb) hc) (λ b o _ _ hc e n=>u.any e n hc) (λ b o hc e n=>u.free b o e n hc) (λ b o hc e=>u.there b o e hc) u.tups u.frzs u.tbls (λ m' hm=>by
  obtain⟨o',es',ep',ho',r'⟩:=hm;rw[ho]at ho';cases ho';exact⟨_,es',ep',hL,r'⟩) hok hg
theorem Inv.turned{t':Nat}{it:Addr}(I:Inv X pins σ H s)(k:∀b o,b≠it->s.heap.get? b=some o->h'.get? b=some o)(hn:H it=none)(hL:it≠X.env.locals)
  (h1:it∈X.ex\/X.s₀.heap.objs.size<=it) (h2:∀x c,X.env.cells.lookup x=some c->c≠it) (h3:∀p∈X.pn++pins,p.1≠it):Inv X pins σ H { s with heap:=h',toks:=t' }:=by
 have nit:∀b u,H b=some u->b≠it:=λ b u e z=>by rw[z,hn]at e;cases e
 refine I.step (g':=s.gens) (d':=s.drawn) (ch:=[it]) (λ b hb=>?_) (λ b o _ _ hc e _=>k b o (λ z=>hc (by simp[z])) e) (λ b o _ _ hc e _=>⟨o.slots,k b o (λ z=>hc (by simp[z])) e⟩) (λ_ _ _ _ n=>n)
  (λ b o hc e=>⟨o,k b o (λ z=>hc (by simp[z])) e⟩) (λ_ _ e=>e) (λ_ _ _ e=>e) (λ b ps e=>⟨#[],by rw[e];simp⟩) (λ m hm=>?_) (λ b u e=>?_) I.bare
 .have e:b=it:=by simpa using hb
  subst e;exact⟨h1,hL,h2,h3⟩
 .obtain⟨o,es,ep,ho,r⟩:=hm;exact⟨o,es,ep,k _ o (Ne.symm hL) ho,r⟩
 .refine(I.hok b u e).stay (λ c v hc q=>k c v ?_ q) (λ_ q=>q) λ_ _ q=>q;rcases hc with z|z
  .rw[z];exact nit b u e
  .exact nit c _ z
theorem Inv.tok(I:Inv X pins σ H s)(t:Nat):Inv X pins σ H { s with toks:=t }:=I.un (h':=s.heap) (t':=t) Un.refl I.hok
theorem Inv.kept{t':Nat}(I:Inv X pins σ H s)(k:∀b u,s.heap.get? b=some u->h'.get? b=some u):Inv X pins σ H { s with heap:=h',toks:=t' }:=I.un (Un.kept k) (I.hok.kept k)
theorem Inv.laid{a:Addr}{o:HO}{t':Nat}(I:Inv X pins σ H s)(k:∀b u,s.heap.get? b=some u->h'.get? b=some u)(hp:s.heap.objs.size<=a)(new:ObjOk X.prog X.w (upd H a o) h' a o) :
  Inv X pins σ (upd H a o) { s with heap:=h',toks:=t' }:=I.un (Un.laid k hp (I.hok.fresh hp)) (I.hok.laid k hp new)
theorem Inv.write{x e:Addr}{o:HO}{t':Nat}(I:Inv X pins σ H s)(mu:Mut (H x))(he:e=x\/H e=some (.own x))(k:∀b u,b≠e->s.heap.get? b=some u->h'.get? b=some u)(heo:∃u,h'.get? e=some u)
  (new:ObjOk X.prog X.w (upd H x o) h' x o):Inv X pins σ (upd H x o) { s with heap:=h',toks:=t' }:=I.un (Un.write mu he k heo) (I.hok.write mu he k heo new)
theorem Inv.pins_of{pins':PNz}(I:Inv X pins σ H s)(h:∀p∈pins',s.heap.get? p.1=some p.2/\H p.1=none/\p.1≠X.env.locals/\p.1∉X.fs/\∀v,p.2.data≠.cell v):Inv X pins' σ H s :=
 ⟨I.ok,I.os,I.bare,I.base,I.loc,I.cell,I.free,I.freeC,λ p hp=>(List.mem_append.mp hp).elim (λ z=>I.pin p (List.mem_append_left _ z)) (h p),I.hok,I.len⟩
theorem GU{N:LSz}(hN:N.Nodup){i j:Nat}{x:Str}(a:N[i]?=some x)(b:N[j]?=some x):i=j:=by
 obtain⟨h1,e1⟩:=List.getElem?_eq_some_iff.mp a;obtain⟨h2,e2⟩:=List.getElem?_eq_some_iff.mp b;exact(List.getElem_inj hN).mp (e1.trans e2.symm)
theorem NW{M:Model}{A:Around}{E:VPz}{i:Nat}{x:Str}{v:V}{u:Value}{Q:Unit->Shared->Prop}(I:Inv X pins σ H s)(hN:X.N.Nodup)(hi:X.N[i]?=some x)(hx:Loc X.env.scope x)(r:RelV v u)
  (h:∀s',Inv X pins (σ.set i (some v)) H s'->(∃a,Heap.SameBut a s.heap s'.heap/\(a=X.env.locals\/X.env.cells.lookup x=some a))->Q () s') (hf:X.fn x=true\/X.env.scope.names.lookup x=some .local:=by first|exact .inl rfl|exact .inr rfl|assumption):wpAny M A (storeName X.env x u) Q E s:=by
 obtain⟨m,hn,hl⟩:=id I.loc;have hcls:(X.env.scope.kind==.class||(X.env.scope.kind==.module&&X.env.locals != X.env.globals))=false:=by rw[I.ok.kind];rfl
 have hiσ:i<σ.length:=by rw[I.len];exact(List.getElem?_eq_some_iff.mp hi).1
 have cne:=I.cne;have tracked:∀{a:Addr}{h':Heap},(∃o,s.heap.get? a=some o/\H a=none)->Heap.SameBut a s.heap h'->HOk X.prog X.w H h':=λ{a h'} ha hs b ob e=>by
  obtain⟨_,_,hfree⟩:=ha;refine(I.hok b ob e).stay (λ c w' hc q=>(hs.2 c ?_).trans q) (λ_ q=>q) λ_ _ q=>q;rintro rfl;rcases hc with rfl|hc
  .rw[hfree]at e;cases e
  .rw[hfree]at hc;cases hc
 rcases hx with hk|hk
 .refine wpAny_storeName_local hk hn (λ h' hn' hs=>?_) hcls;obtain⟨oL,_,_,hoL,_⟩:=id hn;refine h _ ⟨I.ok,I.os,I.bare,⟨λ b o e n hb hx=>?_,λ b o e n hb hx=>?_,I.base.free,λ b o e hx=>?_,I.base.tups,I.base.frzs,I.base.tbls⟩,⟨_,hn',λ j y v' e1 e2 e3=>?_⟩,λ y c e=>?_,I.free,I.freeC,λ p hp=>?_,tracked ⟨oL,hoL,I.free⟩ hs,by simpa using I.len⟩ ⟨_,hs,.inl rfl⟩
  .exact(hs.2 b (Nat.ne_of_lt (Nat.lt_of_lt_of_le (Heap.lt_size e) I.ok.above))).trans (I.base.keep b o e n hb hx)
  .obtain⟨sl,e1⟩:=I.base.slot b o e n hb hx;exact⟨sl,(hs.2 b (Nat.ne_of_lt (Nat.lt_of_lt_of_le (Heap.lt_size e) I.ok.above))).trans e1⟩
  .obtain⟨o',e1⟩:=I.base.there b o e hx;exact⟨o',(hs.2 b (Nat.ne_of_lt (Nat.lt_of_lt_of_le (Heap.lt_size e) I.ok.above))).trans e1⟩
  .by_cases hj:j=i
   .subst hj;rw[hi]at e1;cases e1;rw[List.getElem?_set_self hiσ]at e2;cases e2;exact⟨u,r,.inl ⟨hk,by simp⟩⟩
   .rw[List.getElem?_set_ne (Ne.symm hj)]at e2;obtain⟨u',r',q⟩:=hl j y v' e1 e2 e3;refine⟨u',r',?_⟩;rcases q with ⟨k,e⟩|⟨k,c,e,z⟩
    .refine .inl ⟨k,?_⟩;have:y≠x:=λ e=>hj (GU hN e1 (e ▸ hi));simp[this,e]
    .exact .inr ⟨k,c,e,z.sameBut hs (cne y c e)⟩
  .obtain⟨w',z⟩:=I.cell y c e;exact⟨w',z.sameBut hs (cne y c e)⟩
  .obtain⟨e,n,ne,nf,d⟩:=I.pin p hp;exact⟨(hs.2 p.1 ne).trans e,n,ne,nf,d⟩
 .have hfn:X.fn x=true:=by
   rcases hf with z|z
   .exact z
   .rw[z]at hk;cases hk
  obtain⟨c,hc⟩:=I.ok.has x (.inl hk);obtain⟨w',z⟩:=I.cell x c hc;refine wpAny_storeName_cell I.ok.kind hk hc z (λ h' hc' hs=>?_);obtain⟨oc,hoc,hocd⟩:=id z;refine h { s with heap:=h' } ⟨I.ok,I.os,I.bare,⟨λ b o e n hb hx=>?_,λ b o e n hb hx=>?_,I.base.free,λ b o e hx=>?_,I.base.tups,I.base.frzs,I.base.tbls⟩,⟨m,hn.sameBut hs (Ne.symm (cne x c hc)),λ j y v' e1 e2 e3=>?_⟩,λ y c' e=>?_,I.free,I.freeC,λ p hp=>?_,tracked ⟨oc,hoc,I.freeC x c hc⟩ hs,by simpa using I.len⟩ ⟨c,hs,.inr hc⟩
  .exact(hs.2 b (Nat.ne_of_lt (Nat.lt_of_lt_of_le (Heap.lt_size e) (I.ok.cab x c hfn hc)))).trans (I.base.keep b o e n hb hx)
  .obtain⟨sl,e1⟩:=I.base.slot b o e n hb hx;exact⟨sl,(hs.2 b (Nat.ne_of_lt (Nat.lt_of_lt_of_le (Heap.lt_size e) (I.ok.cab x c hfn hc)))).trans e1⟩
  .obtain⟨o',e1⟩:=I.base.there b o e hx;exact⟨o',(hs.2 b (Nat.ne_of_lt (Nat.lt_of_lt_of_le (Heap.lt_size e) (I.ok.cab x c hfn hc)))).trans e1⟩
  .by_cases hj:j=i
   .subst hj;rw[hi]at e1;cases e1;rw[List.getElem?_set_self hiσ]at e2;cases e2;exact⟨u,r,.inr ⟨.inl hk,c,hc,hc'⟩⟩
   .rw[List.getElem?_set_ne (Ne.symm hj)]at e2;obtain⟨u',r',q⟩:=hl j y v' e1 e2 e3;refine⟨u',r',?_⟩;rcases q with q|⟨k,c',e,z'⟩
    .exact .inl q
    .refine .inr ⟨k,c',e,z'.sameBut hs ?_⟩;rintro rfl;exact hj (GU hN e1 (I.ok.inj _ _ _ e hc ▸ hi))
  .by_cases hcc:c'=c
   .subst hcc;exact⟨_,hc'⟩
   .obtain⟨w2,z2⟩:=I.cell y c' e;exact⟨w2,z2.sameBut hs hcc⟩
  .obtain⟨e,n,ne,nf,d⟩:=I.pin p hp;refine⟨(hs.2 p.1 ?_).trans e,n,ne,nf,d⟩;intro q;rw[q,hoc]at e;have q':oc=p.2:=Option.some.inj e;exact d w' (by rw[<-q'];exact hocd)
theorem EO{M:Model}{A:Around}{E:VPz}{i:Nat}{x:Str}{v:V}{u:Value}{Q:Unit->Shared->Prop}(I:Inv X pins σ H s)(hN:X.N.Nodup)(hi:X.N[i]?=some x)(hx:Loc X.env.scope x)(r:RelV v u)
  (h:∀s',Inv X pins (σ.set i (some v)) H s'->Q () s') (hf:X.fn x=true\/X.env.scope.names.lookup x=some .local:=by first|exact .inl rfl|exact .inr rfl|assumption):wpAny M A (storeName X.env x u) Q E s :=
 NW I hN hi hx r (λ s' I' _=>h s' I') hf
theorem Inv.call'{s':Shared}{ch:List Addr}(I:Inv X pins σ H s)(ho:s'.os=s.os)(u:Un (frs X.stack) ch H H' s.heap s'.heap)(hok:HOk X.prog X.w H' s'.heap)(hg:AllBare s'.gens)
  (hch:∀b∈ch,(b∈X.ex\/X.s₀.heap.objs.size<=b)/\b≠X.env.locals/\(∀x c,X.env.cells.lookup x=some c->c≠b)/\∀p∈X.pn++pins,p.1≠b):Inv X pins σ H' s':=by
 obtain⟨h',g',d',t',o'⟩:=s';have e:o'=s.os:=ho;subst e;exact I.call (g':=g') (t':=t') (d':=d') u hok hg hch
end
abbrev XK:=Value->Option Addr->Hp->Prop
abbrev St:=List (Option V)
abbrev VK:=V->Hp->Prop
abbrev TE:=St->Hp->VK->Prop
abbrev TT:=St->Hp->(Bool->Hp->Prop)->Prop
abbrev TA:=St->Hp->(LUz->Hp->Prop)->Prop
structure EG where
 nx:St->Hp->Prop
 rt:VK
 bk:St->Hp->Prop:=λ_ _=>False
 ct:St->Hp->Prop:=λ_ _=>False
abbrev TS:=EG->St->Hp->Prop
def EP(X:Cx)(pins:PNz)(σ:St)(Q:VK)(u:Value)(s':Shared):Prop:=∃v H',Inv X pins σ H' s'/\RelV v u/\Q v H'
def TP(X:Cx)(pins:PNz)(σ:St)(Q:Bool->Hp->Prop)(b:Bool)(s':Shared):Prop:=∃H',Inv X pins σ H' s'/\Q b H'
def AP(X:Cx)(pins:PNz)(σ:St)(Q:LUz->Hp->Prop)(us:LWz)(s':Shared):Prop:=∃vs H',Inv X pins σ H' s'/\Vals vs us/\Q vs H'
def SP(X:Cx)(pins:PNz)(D:EG)(f:Flow)(s':Shared):Prop :=
 match f with
 |.next=>∃σ' H',Inv X pins σ' H' s'/\D.nx σ' H'
 |.brk=>∃σ' H',Inv X pins σ' H' s'/\D.bk σ' H'
 |.cont=>∃σ' H',Inv X pins σ' H' s'/\D.ct σ' H'
 |.ret u=>∃v σ' H',Inv X pins σ' H' s'/\RelV v u/\D.rt v H'
def PE(X:Cx)(e:Expr)(t:TE):Prop :=
 ∀(pins:PNz)(s:Shared)(σ:St)(H:Hp)(Q:VK),Inv X pins σ H s->t σ H Q->wpAny (model X.prog X.w) X.A (eval e X.env) (EP X pins σ Q) X.xe s
def PT(X:Cx)(e:Expr)(t:TT):Prop :=
 ∀(pins:PNz)(s:Shared)(σ:St)(H:Hp)(Q:Bool->Hp->Prop),Inv X pins σ H s->t σ H Q->wpAny (model X.prog X.w) X.A (isTrue e X.env (eval e X.env)) (TP X pins σ Q) X.xe s
def PW(X:Cx)(e:Expr)(t:TT):Prop :=
 ∀(whole:Sem Value)(pins:PNz)(s:Shared)(σ:St)(H:Hp)(Q:Bool->Hp->Prop),Inv X pins σ H s->t σ H Q->wpAny (model X.prog X.w) X.A (isTrue e X.env whole) (TP X pins σ Q) X.xe s
theorem PW.pt{X:Cx}{e:Expr}{t:TT}(h:PW X e t):PT X e t:=h _
def PA(X:Cx)(es:List Expr)(t:TA):Prop :=
 ∀(pos:Pos)(pins:PNz)(s:Shared)(σ:St)(H:Hp)(Q:LUz->Hp->Prop),Inv X pins σ H s->t σ H Q->wpAny (model X.prog X.w) X.A (spliced (backTo pos (starEach es X.env))) (AP X pins σ Q) X.xe s
def PS(X:Cx)(st:Stmt)(t:TS):Prop :=
 ∀(pins:PNz)(s:Shared)(σ:St)(H:Hp)(D:EG),Inv X pins σ H s->t D σ H->wpAny (model X.prog X.w) X.A (exec st X.env) (SP X pins D) X.xe s
def PSs(X:Cx)(st:List Stmt)(t:TS):Prop :=
 ∀(pins:PNz)(s:Shared)(σ:St)(H:Hp)(D:EG),Inv X pins σ H s->t D σ H->wpAny (model X.prog X.w) X.A (execs st X.env) (SP X pins D) X.xe s
theorem thn{α:Type}{t:Sem α}{Q Q':α->Shared->Prop}{M:Model}{A:Around}{E:VPz}{s:Shared}(h:wpAny M A t Q E s)(hQ:∀a s,Q a s->Q' a s):wpAny M A t Q' E s:=wpAny_mono h hQ λ_ _ x=>x
section
variable{X:Cx}
inductive Uj(i:Nat)(σ:St)(H:Hp)(Q:VK):Prop
 |mk (v:V) (e:σ[i]?=some (some v)) (q:Q v H):Uj i σ H Q
def Sl(i:Nat):TE:=λ σ H Q=>Uj i σ H Q
inductive IBl(x:V)(Q:Bool->Prop):Prop
 |mk (c:Bool) (e:x=.bl c) (q:Q c):IBl x Q
def tC(v:V):TE:=λ_ H Q=>Q v H
theorem S3{i:Nat}{x:Str}{pos:Pos}(hN:X.N[i]?=some x)(hv:Vis X.env.scope x)(hd:(x==("__debug__":Str))=false:=by decide)(hcd:(x==("__classdict__":Str))=false:=by decide):PE X (.Name x pos) (Sl i):=by
 intro pins s σ H Q I h;obtain⟨v,e,h⟩:=h;obtain⟨m,hn,hl⟩:=I.loc;obtain⟨u,r,l⟩:=hl i x v hN e hv;have fin:EP X pins σ Q u s:=⟨v,H,I,r,h⟩;rcases l with ⟨hk,hm⟩|⟨hk,c,hc,hcell⟩
 .exact wpAny_Name (wpAny_loadName_local I.ok.kind hk hn hm fin) hd
 .rcases hk with hk|hk
  .exact wpAny_Name (wpAny_loadName_cell I.ok.kind hk hc hcell fin) hd
  .exact wpAny_Name (wpAny_loadName_free I.ok.kind hk hc hcell fin hcd) hd
theorem Ad{i j pos}:PE X (.Constant (.int i) j pos) (tC (.int i)):=λ_ _ _ H _ I h=>wpAny_Constant_int ⟨.int i,H,I.tok _,⟨_,rfl⟩,h⟩
theorem KF{b j pos}:PE X (.Constant (.bool b) j pos) (tC (.bl b)):=λ_ _ _ H _ I h=>Constant_bool ⟨.bl b,H,I,rfl,h⟩
theorem Bu{j pos}:PE X (.Constant .none j pos) (tC .non):=λ_ _ _ H _ I h=>Constant_none ⟨.non,H,I,rfl,h⟩
theorem A4{x j pos}:PE X (.Constant (.str x) j pos) (tC (.str x)):=λ_ _ _ H _ I h=>Calls.Constant_str ⟨.str x,H,I.tok _,⟨_,rfl⟩,h⟩
def Gl(X:Cx)(x:Str):Prop:=X.env.kindOf x=some .globalImplicit
theorem C3{E:VPz}{pins:PNz}{s:Shared}{σ:St}{H:Hp}{x:Str}{u:Value}{pos:Pos}{Q:VPz}(I:Inv X pins σ H s)(hg:Gl X x)(hm:X.mg x=some u)(h:Q u s)
  (hd:(x==("__debug__":Str))=false:=by decide):wpAny (model X.prog X.w) X.A (eval (.Name x pos) X.env) Q E s :=
 Calls.Name_function_global I.ok.kind hg (Calls.loadGlobal_global (by rw[I.ok.glob];exact I.mod.glob.keeps I.bk) hm h) hd
theorem E5{E:VPz}{pins:PNz}{s:Shared}{σ:St}{H:Hp}{x:Str}{u:Value}{pos:Pos}{Q:VPz}(I:Inv X pins σ H s)(hg:Gl X x)(hm:X.mg x=none)(hv:bootBuiltins x=some u)(h:Q u s)
  (hn:x≠"__name__":=by decide) (hd:(x==("__debug__":Str))=false:=by decide):wpAny (model X.prog X.w) X.A (eval (.Name x pos) X.env) Q E s:=by
 obtain⟨mb,h1,h2⟩:=I.mod.blt;exact Calls.Name_function_global I.ok.kind hg (Calls.loadGlobal_builtin (by rw[I.ok.glob];exact I.mod.glob.keeps I.bk) hm (by rw[I.ok.blt];exact h1.keeps I.bk) ((h2 x hn).trans hv) h) hd
theorem Ax{x:Str}{v:V}{u:Value}{pos:Pos}(hg:Gl X x)(hm:X.mg x=some u)(r:RelV v u)(hd:(x==("__debug__":Str))=false:=by decide):PE X (.Name x pos) (tC v) :=
 λ_ _ _ H _ I h=>C3 I hg hm ⟨v,H,I,r,h⟩ hd
theorem Dm{x:Str}{v:V}{u:Value}{pos:Pos}(hg:Gl X x)(hm:X.mg x=none)(hv:bootBuiltins x=some u)(r:RelV v u)(hn:x≠"__name__":=by decide)(hd:(x==("__debug__":Str))=false:=by decide):PE X (.Name x pos) (tC v) :=
 λ_ _ _ H _ I h=>E5 I hg hm hv ⟨v,H,I,r,h⟩ hn hd
variable{a b:Expr}{ta tb:TE}{pos:Pos}
def tB(t:TE):TT:=λ σ H Q=>t σ H λ x H1=>IBl x λ c=>Q c H1
theorem CI{e:Expr}{t:TE}(h:PE X e t)(he:∀whole,isTrue e X.env whole=(do let v <-whole;standAt e.pos;holding [v] (truthy v)):=by intro _;rfl):PT X e (tB t):=by
  intro pins s σ H Q I hw;refine isTrue_plain (thn (h pins s σ H _ I hw) λ v s1 hz_=>?_) (he _);obtain⟨x,H1,I1,r1,q1⟩:=hz_;obtain⟨d,rfl,q⟩:=q1;cases r1;exact wpAny_truthy_bool ⟨H1,I1,q⟩
variable{tA tB':TT}{rest:List Expr}
def U3(t u:TT):TT:=λ σ H Q=>t σ H λ c H1=>if c=true then u σ H1 Q else Q false H1
def tOr(t u:TT):TT:=λ σ H Q=>t σ H λ c H1=>if c=true then Q true H1 else u σ H1 Q
def Uw(t:TT):TT:=λ σ H Q=>t σ H λ c H1=>Q (!c) H1
theorem FZ(ha:PT X a tA):PW X (.BoolOp .And [a] pos) tA:=by
 intro wh pins s σ H Q I h;refine isTrue_and (thn (ha pins s σ H Q I h) λ c s1 e=>?_);cases c with
 |true=>exact isTrue_and_nil e
 |false=>exact e
theorem G8(ha:PT X a tA):PW X (.BoolOp .Or [a] pos) tA:=by
 intro wh pins s σ H Q I h;refine isTrue_or (thn (ha pins s σ H Q I h) λ c s1 e=>?_);cases c with
 |false=>exact isTrue_or_nil e
 |true=>exact e
theorem JF(ha:PT X a tA)(hb:PW X (.BoolOp .And (b::rest) pos) tB'):PW X (.BoolOp .And (a::b::rest) pos) (U3 tA tB'):=by
 intro wh pins s σ H Q I h;refine isTrue_and (thn (ha pins s σ H _ I h) λ c s1 hz_=>?_);obtain⟨H1,I1,q1⟩:=hz_;cases c with
 |true=>exact hb wh pins s1 σ H1 Q I1 q1
 |false=>exact⟨H1,I1,q1⟩
theorem G9(ha:PT X a tA)(hb:PW X (.BoolOp .Or (b::rest) pos) tB'):PW X (.BoolOp .Or (a::b::rest) pos) (tOr tA tB'):=by
 intro wh pins s σ H Q I h;refine isTrue_or (thn (ha pins s σ H _ I h) λ c s1 hz_=>?_);obtain⟨H1,I1,q1⟩:=hz_;cases c with
 |true=>exact⟨H1,I1,q1⟩
 |false=>exact hb wh pins s1 σ H1 Q I1 q1
theorem DC(ha:PT X a tA):PT X (.UnaryOp .Not a pos) (Uw tA):=by
 intro pins s σ H Q I h;exact isTrue_not (ha pins s σ H (λ c H1=>Q (!c) H1) I h)
def Tm(ta tb:TE):TE:=λ σ H Q=>ta σ H λ x H1=>IBl x λ c=>if c=true then tb σ H1 Q else Q (.bl false) H1
def Uv(ta tb:TE):TE:=λ σ H Q=>ta σ H λ x H1=>IBl x λ c=>if c=true then Q (.bl true) H1 else tb σ H1 Q
def Td(ta:TE):TE:=λ σ H Q=>ta σ H λ x H1=>IBl x λ c=>Q (.bl (!c)) H1
theorem Fq{op}{t:TE}(h:PE X a t):PE X (.BoolOp op [a] pos) t:=λ pins s σ H Q I hw=>BoolOp_one (h pins s σ H Q I hw)
theorem Fs(ha:PE X a ta)(hb:PE X (.BoolOp .And (b::rest) pos) tb):PE X (.BoolOp .And (a::b::rest) pos) (Tm ta tb):=by
 intro pins s σ H Q I h;refine BoolOp_and (thn (ha pins s σ H _ I h) λ v s1 hz_=>?_);obtain⟨x,H1,I1,r1,q1⟩:=hz_;obtain⟨c,rfl,q1⟩:=q1;cases r1;refine wpAny_truthy_bool ?_;cases c with
 |true=>exact hb pins s1 σ H1 Q I1 q1
 |false=>exact⟨.bl false,H1,I1,rfl,q1⟩
theorem RM(ha:PE X a ta)(hb:PE X (.BoolOp .Or (b::rest) pos) tb):PE X (.BoolOp .Or (a::b::rest) pos) (Uv ta tb):=by
 intro pins s σ H Q I h;refine BoolOp_or (thn (ha pins s σ H _ I h) λ v s1 hz_=>?_);obtain⟨x,H1,I1,r1,q1⟩:=hz_;obtain⟨c,rfl,q1⟩:=q1;cases r1;refine wpAny_truthy_bool ?_;cases c with
 |false=>exact hb pins s1 σ H1 Q I1 q1
 |true=>exact⟨.bl true,H1,I1,rfl,q1⟩
theorem JI(ha:PE X a ta):PE X (.UnaryOp .Not a pos) (Td ta):=by
 intro pins s σ H Q I h;refine UnaryOp_ (thn (ha pins s σ H _ I h) λ v s1 hz_=>?_);obtain⟨x,H1,I1,r1,q1⟩:=hz_;obtain⟨c,rfl,q1⟩:=q1;cases r1;exact not_of (wpAny_truthy_bool ⟨.bl (!c),H1,I1,rfl,q1⟩)
def tIf(t:TT)(ta tb:TE):TE:=λ σ H Q=>t σ H λ c H1=>if c=true then ta σ H1 Q else tb σ H1 Q
theorem GG{c:Expr}(hc:PT X c tA)(ha:PE X a ta)(hb:PE X b tb):PE X (.IfExp c a b pos) (tIf tA ta tb):=by
 intro pins s σ H Q I h;refine wpAny_IfExp (thn (hc pins s σ H _ I h) λ d s1 hz_=>?_);obtain⟨H1,I1,q1⟩:=hz_;cases d with
 |true=>exact ha pins s1 σ H1 Q I1 q1
 |false=>exact hb pins s1 σ H1 Q I1 q1
end
def SqL(K:Frag)(H:Hp)(a:Addr)(xs:LUz):Prop :=
 Rd H a (.lst xs) \/
  ∃(o:Obj)(its:Array Value)(n:Nat),K.lookup a=some o/\o.cls=.type "list"/\o.dict=none/\o.data=.seq its n/\its.size<=sizeLine/\Vals xs its.toList
def SqT(K:Frag)(H:Hp)(a:Addr)(xs:LUz):Prop :=
 Rd H a (.tup xs) \/
  ∃(o:Obj)(its:Array Value)(n:Nat),K.lookup a=some o/\o.cls=.type "tuple"/\o.data=.seq its n/\its.size<=sizeLine/\Vals xs its.toList
def UQ:Value->Option V
 |.none=>some .non
 |.bool b=>some (.bl b)
 |.int i _=>some (.int i)
 |.str x _=>some (.str x)
 |.bytes b _=>some (.byt b)
 |.float b _=>some (.flt b)
 |.ref a=>some (.ref a)
 |.type n=>some (.ty n)
 |_=>none
theorem RelV.abs{x:V}{u:Value}(r:RelV x u):UQ u=some x:=by
 cases x with
 |non=>cases r;rfl
 |bl _=>cases r;rfl
 |int _=>obtain⟨t,rfl⟩:=r;rfl
 |str _=>obtain⟨t,rfl⟩:=r;rfl
 |byt _=>obtain⟨t,rfl⟩:=r;rfl
 |flt _=>obtain⟨t,rfl⟩:=r;rfl
 |ref _=>cases r;rfl
 |ty _=>cases r;rfl
theorem RelV.inj{x y:V}{u:Value}(r:RelV x u)(q:RelV y u):x=y:=Option.some.inj (r.abs.symm.trans q.abs)
theorem Vals.inj:∀{xs ys:LUz}{us:LWz},Vals xs us->Vals ys us->xs=ys
 |_,_,_,.nil,.nil=>rfl
 |_,_,_,.cons r t,.cons r' t'=>by rw[r.inj r',Vals.inj t t']
section
variable{X:Cx}{pins:PNz}{σ:St}{H:Hp}{s:Shared}{a:Addr}{xs ys:LUz}
theorem SqL.of{K:Frag}(h:H a=some (.lst xs)):SqL K H a xs:=.inl (.inl h)
theorem SqT.of{K:Frag}(h:H a=some (.tup xs)):SqT K H a xs:=.inl (.inl h)
theorem Inv.list(I:Inv X pins σ H s)(h:SqL X.K H a xs):∃its:LWz,Vals xs its/\PlainL s.heap a its.toArray/\xs.length<=sizeLine:=by
 rcases h with h|⟨o,its,n,hk,hc,hd,hs,hz,r⟩
 .obtain⟨z,its,n,r,e⟩:=h.ok I.hok;exact⟨its,r,⟨_,n,e,rfl,rfl,rfl⟩,z⟩
 .refine⟨its.toList,r,⟨o,n,I.kIn a o hk,hc,hd,by simpa using hs⟩,?_⟩;have e:=r.length;simp only[Array.length_toList]at e;lia
theorem Inv.tuple(I:Inv X pins σ H s)(h:SqT X.K H a xs):∃its:LWz,Vals xs its/\IsTup s.heap a its.toArray/\xs.length<=sizeLine:=by
 rcases h with h|⟨o,its,n,hk,hc,hs,hz,r⟩
 .obtain⟨z,its,r,p⟩:=h.ok I.hok;exact⟨its,r,p,z⟩
 .refine⟨its.toList,r,⟨o,I.kIn a o hk,hc,n,by simpa using hs⟩,?_⟩;have e:=r.length;simp only[Array.length_toList]at e;lia
theorem Inv.list_inj(I:Inv X pins σ H s)(h:SqL X.K H a xs)(h':SqL X.K H a ys):xs=ys:=by
 obtain⟨its,r,⟨o,n,e,_,_,d⟩,_⟩:=I.list h;obtain⟨its',r',⟨o',n',e',_,_,d'⟩,_⟩:=I.list h';rw[e]at e';cases e';rw[d]at d';injection d' with d1 _;have:its=its':=by simpa using congrArg Array.toList d1
 subst this;exact r.inj r'
theorem Inv.tuple_inj(I:Inv X pins σ H s)(h:SqT X.K H a xs)(h':SqT X.K H a ys):xs=ys:=by
 obtain⟨its,r,⟨o,e,_,n,d⟩,_⟩:=I.tuple h;obtain⟨its',r',⟨o',e',_,n',d'⟩,_⟩:=I.tuple h';rw[e]at e';cases e';rw[d]at d';injection d' with d1 _;have:its=its':=by simpa using congrArg Array.toList d1
 subst this;exact r.inj r'
end
abbrev Cx.wish(X:Cx)(E:VPz):Cx:={ X with xe:=E }
abbrev Cx.nox(X:Cx):Cx:=X.wish λ_ _=>False
theorem Cx.Ok.wish{X:Cx}(ok:X.Ok)(E:VPz):(X.wish E).Ok :=
 ⟨ok.mod,ok.kind,ok.glob,ok.blt,ok.above,ok.inj,ok.has,ok.cab,ok.hd,ok.frames,ok.stk,ok.exf,ok.bs,ok.bsz,ok.noex,ok.exfs,ok.funs,ok.frf⟩
theorem Cx.Ok.unwish{X:Cx}{E:VPz}(ok:(X.wish E).Ok):X.Ok :=
 ⟨ok.mod,ok.kind,ok.glob,ok.blt,ok.above,ok.inj,ok.has,ok.cab,ok.hd,ok.frames,ok.stk,ok.exf,ok.bs,ok.bsz,ok.noex,ok.exfs,ok.funs,ok.frf⟩
section
variable{X:Cx}{pins:PNz}{σ:St}{H:Hp}{s:Shared}{E:VPz}
theorem Inv.wish(I:Inv X pins σ H s)(E:VPz):Inv (X.wish E) pins σ H s:=⟨I.ok.wish E,I.os,I.bare,I.base,I.loc,I.cell,I.free,I.freeC,I.pin,I.hok,I.len⟩
theorem Inv.unwish(I:Inv (X.wish E) pins σ H s):Inv X pins σ H s:=⟨I.ok.unwish,I.os,I.bare,I.base,I.loc,I.cell,I.free,I.freeC,I.pin,I.hok,I.len⟩
theorem SP.unwish{D:EG}{f:Flow}{s':Shared}(h:SP (X.wish E) pins D f s'):SP X pins D f s':=by
 cases f with
 |next=>obtain⟨σ',H',I,q⟩:=h;exact⟨σ',H',I.unwish,q⟩
 |brk=>obtain⟨σ',H',I,q⟩:=h;exact⟨σ',H',I.unwish,q⟩
 |cont=>obtain⟨σ',H',I,q⟩:=h;exact⟨σ',H',I.unwish,q⟩
 |ret u=>obtain⟨v,σ',H',I,r,q⟩:=h;exact⟨v,σ',H',I.unwish,r,q⟩
theorem PSs.nox{st:List Stmt}{t:TS}(h:PSs X.nox st t):PSs X st t:=λ pins s σ H D I hw =>
 wpAny_mono (h pins s σ H D (I.wish _) hw) (λ_ _ q=>q.unwish) λ_ _ z=>False.elim z
end
section
variable{X:Cx}{st:Stmt}{rest:List Stmt}{t u:TS}{e:Expr}{te:TE}{pos:Pos}
def Tf:TS:=λ D σ H=>D.nx σ H
def Us(t u:TS):TS:=λ D σ H=>t { D with nx:=u D } σ H
theorem Ar:PSs X [] Tf:=λ_ _ σ H _ I h=>wpAny_execs_nil ⟨σ,H,I,h⟩
theorem Ac(h1:PS X st t)(h2:PSs X rest u):PSs X (st::rest) (Us t u):=by
 intro pins s σ H D I h;refine wpAny_execs_cons (thn (h1 pins s σ H { D with nx:=u D } I h) λ f s1 q=>?_);cases f with
 |next =>
  obtain⟨σ',H',I',q⟩:=q;exact h2 pins s1 σ' H' D I' q
 |ret v=>exact q
 |brk=>exact q
 |cont=>exact q
theorem Af(h1:PS X st t):PSs X [st] t:=by
 intro pins s σ H D I h;refine wpAny_execs_cons (thn (h1 pins s σ H D I h) λ f s1 q=>?_);cases f with
 |next=>exact wpAny_execs_nil q
 |ret v=>exact q
 |brk=>exact q
 |cont=>exact q
theorem Inv.quiet{pins:PNz}{σ:St}{H:Hp}{s:Shared}(I:Inv X pins σ H s):interactive X.env=false:=by simp[interactive,I.ok.kind]
def Ti(te:TE):TS:=λ D σ H=>te σ H λ_ H1=>D.nx σ H1
theorem Bt(he:PE X e te)(hs:swapsWith e none pos.line X.env=pure false:=by rfl):PS X (.Expr e pos) (Ti te):=by
 intro pins s σ H D I h;exact wpAny_Expr_any (thn (he pins s σ H _ I h) λ v s1 ⟨x,H1,I1,r1,q1⟩=>⟨σ,H1,I1,q1⟩) I.quiet hs
def Uu(te:TE):TS:=λ D σ H=>te σ H D.rt
theorem Ak(he:PE X e te):PS X (.Return (some e) pos) (Uu te):=by
 intro pins s σ H D I h;exact wpAny_Return_some (thn (he pins s σ H _ I h) λ v s1 ⟨x,H1,I1,r1,q1⟩=>⟨x,σ,H1,I1,r1,q1⟩)
def Th(c:TT)(t u:TS):TS:=λ D σ H=>c σ H λ b H1=>if b=true then t D σ H1 else u D σ H1
theorem A3{c:Expr}{a b:List Stmt}{tc:TT}(hc:PT X c tc)(ha:PSs X a t)(hb:PSs X b u):PS X (.If c a b pos) (Th tc t u):=by
 intro pins s σ H D I h;refine wpAny_If (thn (hc pins s σ H _ I h) λ d s1 hz_=>?_);obtain⟨H1,I1,q1⟩:=hz_;cases d with
 |true=>exact ha pins s1 σ H1 D I1 q1
 |false=>exact hb pins s1 σ H1 D I1 q1
end
abbrev TG:=V->St->Hp->(St->Hp->Prop)->Prop
abbrev TGs:=LUz->St->Hp->(St->Hp->Prop)->Prop
def PG(X:Cx)(target:Expr)(t:TG):Prop :=
 ∀(pins:PNz)(s:Shared)(σ:St)(H:Hp)(v:V)(u:Value)(Q:St->Hp->Prop),Inv X pins σ H s->RelV v u->t v σ H Q ->
  wpAny (model X.prog X.w) X.A (assign target X.env u) (λ_ s'=>∃σ' H',Inv X pins σ' H' s'/\Q σ' H') X.xe s
def PGs(X:Cx)(ts:List Expr)(t:TGs):Prop :=
 ∀(pins:PNz)(s:Shared)(σ:St)(H:Hp)(vs:LUz)(us:LWz)(Q:St->Hp->Prop),Inv X pins σ H s->Vals vs us->t vs σ H Q ->
  wpAny (model X.prog X.w) X.A (assignInOrder ((assignEach ts X.env).map (·.2)) us) (λ_ s'=>∃σ' H',Inv X pins σ' H' s'/\Q σ' H') X.xe s
abbrev SN:=V->V->V->Hp->(Hp->Prop)->Prop
def Uh(X:Cx)(t:SN):Prop :=
 ∀(pins:PNz)(s:Shared)(σ:St)(H:Hp)(o i v:V)(ov iv u:Value)(Q:Hp->Prop),Inv X pins σ H s->RelV o ov->RelV i iv->RelV v u->t o i v H Q ->
  wpAny (model X.prog X.w) X.A (setItem ov iv u) (λ_ s'=>∃H',Inv X pins σ H' s'/\Q H') X.xe s
section
variable{X:Cx}{pos:Pos}
def RW(i:Nat):TG:=λ v σ H Q=>Q (σ.set i (some v)) H
theorem Aw{i:Nat}{x:Str}(hN:X.N.Nodup)(hi:X.N[i]?=some x)(hx:Loc X.env.scope x)(hf:X.fn x=true\/X.env.scope.names.lookup x=some .local:=by first|exact .inl rfl|exact .inr rfl|assumption):PG X (.Name x pos) (RW i):=by
 intro pins s σ H v u Q I r h;exact wpAny_assign_Name (EO I hN hi hx r (λ s' I'=>⟨_,H,I',h⟩) hf)
def UM:TGs:=λ vs σ H Q=>vs=[]/\Q σ H
def TU(t:TG)(u:TGs):TGs:=λ vs σ H Q=>∃v r,vs=v::r/\t v σ H λ σ' H'=>u r σ' H' Q
theorem B3:PGs X [] UM:=by
 intro pins s σ H vs us Q I r h;obtain⟨e,h⟩:=h;subst e;cases r;exact assignInOrder_nil ⟨σ,H,I,h⟩
theorem Ay{e:Expr}{es:List Expr}{t:TG}{u:TGs}(h1:PG X e t)(h2:PGs X es u)
  (hs:(assignEach (e::es) X.env).map (·.2)=assign e X.env::(assignEach es X.env).map (·.2):=by rfl):PGs X (e::es) (TU t u):=by
 intro pins s σ H vs us Q I r h;obtain⟨v,vr,e1,h⟩:=h;subst e1;cases r with
 |cons r rr =>
  rw[hs];refine assignInOrder_cons (thn (h1 pins s σ H _ _ _ I r h) λ_ s1 hz_=>?_);obtain⟨σ1,H1,I1,q1⟩:=hz_;exact h2 pins s1 σ1 H1 _ _ Q I1 rr q1
inductive Sa(K:Frag)(n:Nat)(t:TGs)(v:V)(σ:St)(H:Hp)(Q:St->Hp->Prop):Prop
 |mk (a:Addr) (xs:LUz) (e:v=.ref a) (s:SqT K H a xs) (l:xs.length=n) (q:t xs σ H Q):Sa K n t v σ H Q
def TR(K:Frag)(n:Nat)(t:TGs):TG:=λ v σ H Q=>Sa K n t v σ H Q
theorem DE{es:List Expr}{k:Nat}{t:TGs}{n:Nat}(hc:X.calm=true)(h:PGs X es t)
  (hn:(assignEach es X.env).length=n:=by rfl) (hst:(assignEach es X.env).findIdx? (·.1)=none:=by rfl):PG X (.Tuple es k pos) (TR X.K n t):=by
 intro pins s σ H v u Q I r hw;obtain⟨a,xs,e1,hq,hl,hw⟩:=hw;subst e1;cases r;obtain⟨its,rv,ht,hz⟩:=I.tuple hq;refine assign_Tuple_tuple (I.ok.hd hc) ht (by simp[hn,<-hl,rv.length]) hst λ h' hx=>?_;have I1:Inv X pins σ H { s with heap:=h' }:=I.kept (t':=s.toks) λ b o e=>hx b o (Nat.ne_of_lt (Heap.lt_size e)) e;exact h pins _ σ H xs _ Q I1 (by simpa using rv) hw
def UL(to ti:TE)(t:SN):TG:=λ v σ H Q=>to σ H λ o H1=>ti σ H1 λ i H2=>t o i v H2 λ H3=>Q σ H3
theorem S0{o i:Expr}{to ti:TE}{t:SN}(ho:PE X o to)(hi:PE X i ti)(hs:Uh X t)
    (ha:∀v,assign (.Subscript o i pos) X.env v=(do
      let ov <-holding [v] (eval o X.env)
      let iv <-holding [v,ov] (eval i X.env)
      standAt pos
      holding [v,ov,iv] (setItem ov iv v)
      release [v,ov,iv] []):=by intro _;rfl):PG X (.Subscript o i pos) (UL to ti t):=by
  intro pins s σ H v u Q I r h;rw[ha];refine wpAny_bind (wpAny_holding (thn (ho pins s σ H _ I h) λ ov s1 hz_=>?_));obtain⟨x,H1,I1,r1,q1⟩:=hz_;refine wpAny_bind (wpAny_holding (thn (hi pins s1 σ H1 _ I1 q1) λ iv s2 hz_=>?_));obtain⟨y,H2,I2,r2,q2⟩:=hz_;refine wpAny_bind (wpAny_standAt (wpAny_bind (wpAny_holding (thn (hs pins s2 σ H2 x y v ov iv u _ I2 r1 r2 r q2) λ_ s3 hz_=>?_))));obtain⟨H3,I3,q3⟩:=hz_;exact wpAny_release ⟨σ,H3,I3,q3⟩
def Q6(te:TE)(g:TG):TS:=λ D σ H=>te σ H λ x H1=>g x σ H1 D.nx
theorem Fo{tg e:Expr}{te:TE}{g:TG}(he:PE X e te)(hg:PG X tg g)(hs:swapsWithSole [tg] e pos.line X.env=pure false:=by rfl)(hw:swappedStores [tg] e X.env=pure none:=by rfl)
  (h1:(assignEach [tg] X.env).map (·.2)=[assign tg X.env]:=by rfl):PS X (.Assign [tg] e pos) (Q6 te g):=by
 intro pins s σ H D I h;refine wpAny_Assign_stores (thn (he pins s σ H _ I h) λ v s1 hz_=>?_) hs hw;obtain⟨x,H1,I1,r1,q1⟩:=hz_;rw[h1];exact thn (hg pins s1 σ H1 x v _ I1 r1 q1) λ_ s2 q=>q
theorem As{i:Nat}{x:Str}{e:Expr}{te:TE}{pos':Pos}(hN:X.N.Nodup)(hi:X.N[i]?=some x)(hx:Loc X.env.scope x)(he:PE X e te)(hs:swapsWith e (some (.Name x pos')) pos.line X.env=pure false:=by rfl)(hf:X.fn x=true\/X.env.scope.names.lookup x=some .local:=by first|exact .inl rfl|exact .inr rfl|assumption) :
  PS X (.Assign [.Name x pos'] e pos) (Q6 te (RW i)):=by
 intro pins s σ H D I h;refine wpAny_Assign_Name (thn (he pins s σ H _ I h) λ v s1 hz_=>?_) hs;obtain⟨y,H1,I1,r1,q1⟩:=hz_;exact EO I1 hN hi hx r1 (λ s2 I2=>⟨_,H1,I2,q1⟩) hf
def Sk(c:TT)(tb:TS):TS:=λ D σ H=>∃W:Nat->St->Hp->Prop,(∃m,W m σ H)/\∀m σ H,W m σ H ->
 c σ H λ b H1=>if b=true then ∃N:St->Hp->Prop,(∀σ' H',N σ' H'->∃m',m'<m/\W m' σ' H')/\tb { D with nx:=N,ct:=N,bk:=D.nx } σ H1 else D.nx σ H1
theorem K9{c:Expr}{body:List Stmt}{tc:TT}{tb:TS}(hp:PassesOwn (model X.prog X.w) X.A X.env X.xe)(hc:PT X c tc)(hb:PSs X body tb):PS X (.While c body [] pos) (Sk tc tb):=by
 intro pins s σ H D I h;obtain⟨W,⟨m0,w0⟩,turn⟩:=h;refine wpAny_While (codeAny_whileLoop (λ n s'=>∃σ' H',Inv X pins σ' H' s'/\W n σ' H') ?_ m0 ⟨σ,H,I,w0⟩);rintro n s1 ⟨σ1,H1,I1,w1⟩;refine wpAny_passesOwn hp (thn (hc pins s1 σ1 H1 _ I1 (turn n σ1 H1 w1)) λ b s2 hz_=>?_);obtain⟨H2,I2,q2⟩:=hz_;cases b with
 |true =>
  obtain⟨N,hN,q2⟩:=q2;rw[if_pos rfl];refine wpAny_passesOwn hp (thn (hb pins s2 σ1 H2 _ I2 q2) λ f s3 q3=>?_);cases f with
  |next =>
   obtain⟨σ3,H3,I3,n3⟩:=q3;obtain⟨m',hm,w3⟩:=hN σ3 H3 n3;exact⟨m',hm,σ3,H3,I3,w3⟩
  |cont =>
   obtain⟨σ3,H3,I3,n3⟩:=q3;obtain⟨m',hm,w3⟩:=hN σ3 H3 n3;exact⟨m',hm,σ3,H3,I3,w3⟩
  |brk=>exact q3
  |ret v=>exact q3
 |false =>
  rw[if_neg Bool.false_ne_true];exact wpAny_execs_nil ⟨σ1,H2,I2,q2⟩
end
structure It where
 go:Nat->Hp->Prop
 yld:Nat->Hp->V->Hp->Prop
 stop:Nat->Hp->Prop
def FC(X:Cx)(pins:PNz)(H:Hp)(b:Addr):Prop :=
 H b=none/\b≠X.env.locals/\b∉X.fs/\(b∈X.ex\/X.s₀.heap.objs.size<=b)/\(∀x c,X.env.cells.lookup x=some c->c≠b)/\∀p∈X.pn++pins,p.1≠b
theorem Inv.fpOk{X:Cx}{pins:PNz}{σ:St}{H H':Hp}{s:Shared}{b:Addr}(I:Inv X pins σ H s)(hb:s.heap.objs.size<=b)(hn:H' b=none):FC X pins H' b:=by
 refine⟨hn,Nat.ne_of_gt (Nat.lt_of_lt_of_le I.lt hb),I.nofs hb,.inr (Nat.le_trans I.sz hb),λ x c e z=>?_,λ p hp z=>?_⟩
 .obtain⟨v,q⟩:=I.cell x c e;exact absurd (Nat.lt_of_lt_of_le q.lt (by rw[z];exact hb)) (Nat.lt_irrefl _)
 .exact absurd (Nat.lt_of_lt_of_le (Heap.lt_size (I.pin p hp).1) (by rw[z];exact hb)) (Nat.lt_irrefl _)
structure Qq(P:Program)(w:World)(K:Frag)(tg:Expr)(J:It)(fp:List Addr)(it:Addr)(tn:Nat->Heap->Prop):Prop where
 mem:it∈fp
 obj:∀i h,tn i h->∀b∈fp,∃o,h.get? b=some o/\∀v,o.data≠.cell v
 keep:∀i h h',tn i h->(∀b∈fp,∀o,h.get? b=some o->h'.get? b=some o)->tn i h'
 item:∀(X:Cx),X.prog=P->X.w=w->X.K=K->X.calm=true->∀(i:Nat)(pins:PNz)(s:Shared)(σ:St)(H:Hp)(E:VPz),Inv X pins σ H s->(∀b∈fp,FC X pins H b)->tn i s.heap->J.go i H ->
  wpAny (model P w) X.A (pyNext (.ref it)) (λ r s1=>∃u,r=some u /\
   wpAny (model P w) X.A (letOwnedTupleGo tg (.ref it) u) (λ_ s2=>∃x H',Inv X pins σ H' s2/\RelV x u/\J.yld i H x H'/\tn (i+1) s2.heap/\∀b∈fp,H' b=none) E s1) E s
 done:∀(X:Cx),X.prog=P->X.w=w->X.K=K->X.calm=true->∀(i:Nat)(pins:PNz)(s:Shared)(σ:St)(H:Hp)(E:VPz),Inv X pins σ H s->(∀b∈fp,FC X pins H b)->tn i s.heap->J.stop i H ->
  wpAny (model P w) X.A (pyNext (.ref it)) (λ r s1=>r=none/\Inv X pins σ H s1) E s
 self:∀(A:Around)(i:Nat)(s:Shared)(Q:VPz)(E:VPz),tn i s.heap->Q (.ref it) s->wpAny (model P w) A (pyIter (.ref it)) Q E s
abbrev TI:=St->Hp->(It->Hp->Prop)->Prop
def PIE(X:Cx)(pins:PNz)(σ:St)(tg:Expr)(R:It->Hp->Prop)(itv:Value)(s2:Shared):Prop :=
 ∃(it:Addr)(fp:List Addr)(tn:Nat->Heap->Prop)(J:It)(H':Hp),itv=.ref it/\Inv X pins σ H' s2/\Qq X.prog X.w X.K tg J fp it tn/\tn 0 s2.heap/\(∀b∈fp,FC X pins H' b)/\R J H'
def PI(X:Cx)(tg iter:Expr)(wi:TI):Prop :=
 ∀(pins:PNz)(s:Shared)(σ:St)(H:Hp)(R:It->Hp->Prop),Inv X pins σ H s->wi σ H R ->
  wpAny (model X.prog X.w) X.A (eval iter X.env) (λ v s1=>wpAny (model X.prog X.w) X.A (pyIter v) (PIE X pins σ tg R) X.xe s1) X.xe s
theorem N0{M:Model}{A:Around}{E:VPz}{s:Shared}{tg:Expr}{it:Addr}{u:Value}{o:Obj}{n:String}{vs:Array Value}{Q:Unit->Shared->Prop}(ho:s.heap.get? it=some o)(hc:o.cls=.type n)(hd:o.data=.fields vs)
    (hn:["enumerate","zip","dict_itemiterator","dict_reverseitemiterator","odict_iterator","itertools.zip_longest","itertools.pairwise"].contains n=false) (hQ:Q () s):wpAny M A (letOwnedTupleGo tg (.ref it) u) Q E s:=by
  unfold letOwnedTupleGo;cases tg<;>first
    |exact wpAny_pure hQ
    | (cases u<;>first
        |exact wpAny_pure hQ
        | (refine wpAny_bind (wpAny_load ho ?_)
           rw[hc,hd];show wpAny M A (if (["enumerate","zip","dict_itemiterator","dict_reverseitemiterator","odict_iterator","itertools.zip_longest","itertools.pairwise"].contains n&&vs[0]?==some (rawInt _))=true then _ else _) Q E s;rw[if_neg (by intro h;rw[hn,Bool.false_and]at h;cases h)];exact wpAny_pure hQ))
def Itl(K:Frag)(a:Addr):It :=
 ⟨λ i H=>∃xs x,SqL K H a xs/\xs[i]?=some x,λ i H x H'=>H'=H/\∀xs,SqL K H a xs->xs[i]?=some x,λ i H=>∃xs,SqL K H a xs/\xs.length<=i⟩
def Itt(K:Frag)(a:Addr):It :=
 ⟨λ i H=>∃xs x,SqT K H a xs/\xs[i]?=some x,λ i H x H'=>H'=H/\∀xs,SqT K H a xs->xs[i]?=some x,λ i H=>∃xs,SqT K H a xs/\xs.length<=i⟩
def Itr(lo:Int)(n:Nat):It:=⟨λ i _=>i<n,λ i H x H'=>H'=H/\x=.int (lo+i),λ i _=>n<=i⟩
theorem NV{P:Program}{w:World}{K:Frag}{tg:Expr}(a it:Addr):Qq P w K tg (Itl K a) [it] it (λ i h=>h.IsListIter it a i) where
 mem:=by simp
 obj:=λ i h st b hb=>by
  have e:b=it:=by simpa using hb
  subst e;obtain⟨o,e,c,d⟩:=st;exact⟨o,e,λ v z=>by rw[d]at z;cases z⟩
 keep:=λ i h h' st k=>st.at λ o e=>k it (by simp) o e
 item:=by
  intro X hP hw hK hc i pins s σ H E I hf st hg;subst hP hw hK;obtain⟨xs,x,hq,hx⟩:=hg;obtain⟨its,rv,p,hz⟩:=I.list hq;obtain⟨u,hu,ru⟩:=rv.get hx;obtain⟨f0,f1,f2,f3,f4,f5⟩:=hf it (by simp);refine wpAny_pyNext_list_item st p.isList (x:=u) (by simpa using hu) λ h' st' sb=>?_;have I1:Inv X pins σ H { s with heap:=h' }:=I.turned (t':=s.toks) (λ b o hb e=>(sb.2 b hb).trans e) f0 f1 f3 f4 f5;obtain⟨o,e,c,d⟩:=id st';exact⟨u,rfl,N0 (s:={ s with heap:=h' }) e c d (by decide) ⟨x,H,I1,ru,⟨rfl,λ ys hy=>by rw[I.list_inj hy hq];exact hx⟩,st',λ b hb=>(hf b hb).1⟩⟩
 done:=by
  intro X hP hw hK hc i pins s σ H E I hf st hg;subst hP hw hK;obtain⟨xs,hq,hx⟩:=hg;obtain⟨its,rv,p,hz⟩:=I.list hq;obtain⟨f0,f1,f2,f3,f4,f5⟩:=hf it (by simp);have hl:=rv.length;exact wpAny_pyNext_list_end (I.ok.hd hc) st p.isList (by simp;lia) λ h' eb=>⟨rfl,I.turned (t':=s.toks) (λ b o hb e=>eb b o hb e) f0 f1 f3 f4 f5⟩
 self:=λ_ _ _ _ _ st h=>wpAny_pyIter_listiter st h
theorem LK{P:Program}{w:World}{K:Frag}{tg:Expr}(a it:Addr):Qq P w K tg (Itt K a) [it] it (λ i h=>h.IsTupleIter it a i) where
 mem:=by simp
 obj:=λ i h st b hb=>by
  have e:b=it:=by simpa using hb
  subst e;obtain⟨o,e,c,d⟩:=st;exact⟨o,e,λ v z=>by rw[d]at z;cases z⟩
 keep:=λ i h h' st k=>st.at λ o e=>k it (by simp) o e
 item:=by
  intro X hP hw hK hc i pins s σ H E I hf st hg;subst hP hw hK;obtain⟨xs,x,hq,hx⟩:=hg;obtain⟨its,rv,p,hz⟩:=I.tuple hq;obtain⟨u,hu,ru⟩:=rv.get hx;obtain⟨f0,f1,f2,f3,f4,f5⟩:=hf it (by simp);refine wpAny_pyNext_tuple_item st (show s.heap.IsTuple a its.toArray from p) (x:=u) (by simpa using hu) λ h' st' sb=>?_;have I1:Inv X pins σ H { s with heap:=h' }:=I.turned (t':=s.toks) (λ b o hb e=>(sb.2 b hb).trans e) f0 f1 f3 f4 f5;obtain⟨o,e,c,d⟩:=id st';exact⟨u,rfl,N0 (s:={ s with heap:=h' }) e c d (by decide) ⟨x,H,I1,ru,⟨rfl,λ ys hy=>by rw[I.tuple_inj hy hq];exact hx⟩,st',λ b hb=>(hf b hb).1⟩⟩
 done:=by
  intro X hP hw hK hc i pins s σ H E I hf st hg;subst hP hw hK;obtain⟨xs,hq,hx⟩:=hg;obtain⟨its,rv,p,hz⟩:=I.tuple hq;obtain⟨f0,f1,f2,f3,f4,f5⟩:=hf it (by simp);have hl:=rv.length;exact wpAny_pyNext_tuple_end (I.ok.hd hc) st (show s.heap.IsTuple a its.toArray from p) (by simp;lia) λ h' eb=>⟨rfl,I.turned (t':=s.toks) (λ b o hb e=>eb b o hb e) f0 f1 f3 f4 f5⟩
 self:=λ_ _ _ _ _ st h=>wpAny_pyIter_tupleiter st h
theorem LL{P:Program}{w:World}{K:Frag}{tg:Expr}(it:Addr)(lo:Int)(n:Nat):Qq P w K tg (Itr lo n) [it] it (λ i h=>IsRangeIter h it (lo+(i:Nat)*1) ((n:Int)-(i:Nat)) 1) where
 mem:=by simp
 obj:=λ i h st b hb=>by
  have e:b=it:=by simpa using hb
  subst e;exact⟨_,st,λ v z=>by
   have z':Data.fields _=Data.cell v:=z;cases z'⟩
 keep:=λ i h h' st k=>k it (by simp) _ st
 item:=by
  intro X hP hw hK hc i pins s σ H E I hf st hg;subst hP hw hK;obtain⟨f0,f1,f2,f3,f4,f5⟩:=hf it (by simp);have W:=Walks.range (prog:=X.prog) (w:=X.w) (I.ok.hd hc) it lo 1 n;refine W.item i s _ _ hg st λ v h' tk hv st' kk=>?_;obtain⟨t,rfl⟩:=hv;have I1:Inv X pins σ H { s with heap:=h',toks:=tk }:=I.turned (λ b o hb e=>kk b o (by simpa using hb) e) f0 f1 f3 f4 f5;refine⟨_,rfl,N0 (s:={ s with heap:=h',toks:=tk }) (n:="range_iterator") st' rfl rfl (by decide) ⟨.int (lo+i),H,I1,⟨t,?_⟩,⟨rfl,rfl⟩,st',λ b hb=>(hf b hb).1⟩⟩;rw[Int.mul_one]
 done:=by
  intro X hP hw hK hc i pins s σ H E I hf st hg;subst hP hw hK;obtain⟨f0,f1,f2,f3,f4,f5⟩:=hf it (by simp);exact wpAny_pyNext_range_end (I.ok.hd hc) st (by have:n<=i:=hg;lia) λ h' eb=>⟨rfl,I.turned (t':=s.toks) (λ b o hb e=>eb b o hb e) f0 f1 f3 f4 f5⟩
 self:=λ_ _ _ _ _ st h=>wpAny_pyIter_rangeiter st h
section
variable{X:Cx}{tg:Expr}
inductive SR(x:V)(S Q:Addr->Prop):Prop
 |mk (a:Addr) (e:x=.ref a) (s:S a) (q:Q a):SR x S Q
def TN(K:Frag)(tl:TE):TI:=λ σ H R=>tl σ H λ x H1=>SR x (λ a=>∃xs,SqL K H1 a xs) λ a=>R (Itl K a) H1
def UI(K:Frag)(tl:TE):TI:=λ σ H R=>tl σ H λ x H1=>SR x (λ a=>∃xs,SqT K H1 a xs) λ a=>R (Itt K a) H1
theorem BL{l:Expr}{tl:TE}(hl:PE X l tl):PI X tg l (TN X.K tl):=by
 intro pins s σ H R I h;refine thn (hl pins s σ H _ I h) λ v s1 hz_=>?_;obtain⟨x,H1,I1,r1,q1⟩:=hz_;obtain⟨a,e,⟨xs,hq⟩,q⟩:=q1;subst e;cases r1;obtain⟨its,rv,p,hz⟩:=I1.list hq;refine wpAny_pyIter_list p.isList ?_;refine⟨s1.heap.objs.size,[s1.heap.objs.size],_,_,H1,rfl,I1.kept (t':=s1.toks) λ b o e=>Heap.get?_push_of_some _ e,NV a _,⟨_,Heap.get?_push_size _ rfl,rfl,rfl⟩,λ b hb=>?_,q⟩;have e:b=s1.heap.objs.size:=by simpa using hb
 subst e;exact I1.fpOk (Nat.le_refl _) (I1.hok.fresh (Nat.le_refl _))
theorem Ps{l:Expr}{tl:TE}(hl:PE X l tl):PI X tg l (UI X.K tl):=by
 intro pins s σ H R I h;refine thn (hl pins s σ H _ I h) λ v s1 hz_=>?_;obtain⟨x,H1,I1,r1,q1⟩:=hz_;obtain⟨a,e,⟨xs,hq⟩,q⟩:=q1;subst e;cases r1;obtain⟨its,rv,p,hz⟩:=I1.tuple hq;refine wpAny_pyIter_tuple (show s1.heap.IsTuple a its.toArray from p) ?_;refine⟨s1.heap.objs.size,[s1.heap.objs.size],_,_,H1,rfl,I1.kept (t':=s1.toks) λ b o e=>Heap.get?_push_of_some _ e,LK a _,⟨_,Heap.get?_push_size _ rfl,rfl,rfl⟩,λ b hb=>?_,q⟩;have e:b=s1.heap.objs.size:=by simpa using hb
 subst e;exact I1.fpOk (Nat.le_refl _) (I1.hok.fresh (Nat.le_refl _))
theorem K6{pins:PNz}{σ:St}{H:Hp}{s:Shared}{R:It->Hp->Prop}{E:VPz}{lo hi:Int}{t u v:Tok}{tk:Nat}(I:Inv X pins σ H s)(h1:-(2^62)<=lo)(h2:lo<2^62)(h3:-(2^62)<=hi)(h4:hi<2^62)
  (q:R (Itr lo (hi-lo).toNat) H):wpAny (model X.prog X.w) X.A (pyIter (.ref s.heap.objs.size)) (PIE X pins σ tg R) E { s with heap:=s.heap.push { cls:=.type "range",data:=.fields #[.int lo t,.int hi u,.int 1 v] },toks:=tk }:=by
 refine wpAny_pyIter_range (IsRange.new ..) (small_one h1 h2 h3 h4) ?_;have I1:Inv X pins σ H { s with heap:=s.heap.push { cls:=.type "range",data:=.fields #[.int lo t,.int hi u,.int 1 v] },toks:=tk }:=I.kept λ b o e=>Heap.get?_push_of_some _ e;refine⟨(s.heap.push { cls:=.type "range",data:=.fields #[.int lo t,.int hi u,.int 1 v] }).objs.size,[(s.heap.push { cls:=.type "range",data:=.fields #[.int lo t,.int hi u,.int 1 v] }).objs.size],_,_,H,rfl,
  I1.kept (t':=tk) λ b o e=>Heap.get?_push_of_some _ e,LL _ lo (hi-lo).toNat,?_,λ b hb=>?_,q⟩
 .have e1:lo+((0:Nat):Int)*1=lo:=by simp
  have e2:(((hi-lo).toNat:Nat):Int)-((0:Nat):Int)=Builtin.Range.rangeSize lo hi 1:=by rw[rangeSize_one];split<;>lia
  show IsRangeIter _ _ (lo+((0:Nat):Int)*1) ((((hi-lo).toNat:Nat):Int)-((0:Nat):Int)) 1;rw[e1,e2];exact Heap.get?_push_size _ rfl
 .have e:b=(s.heap.push { cls:=.type "range",data:=.fields #[.int lo t,.int hi u,.int 1 v] }).objs.size:=by simpa using hb
  subst e;exact I1.fpOk (Nat.le_refl _) (I1.hok.fresh (Nat.le_refl _))
inductive Sb(vs:LUz)(R:Int->Prop):Prop
 |mk (j:Int) (e:vs=[.int j]) (l:-(2^62)<=j) (h:j<2^62) (q:R j):Sb vs R
def TM(ta:TA):TI:=λ σ H R=>ta σ H λ vs H1=>Sb vs λ j=>R (Itr 0 j.toNat) H1
def TL(ta:TA):TI:=λ σ H R=>ta σ H λ vs H1=>∃i j:Int,vs=[.int i,.int j]/\(-(2^62)<=i/\i<2^62/\-(2^62)<=j/\j<2^62)/\R (Itr i (j-i).toNat) H1
theorem Of{a:Expr}{ta:TA}{p pos:Pos}(hg:Gl X "range")(hm:X.mg "range"=none)(ha:PA X [a] ta)(hs:starEach [a] X.env=[(false,eval a X.env)]:=by rfl):PI X tg (.Call (.Name "range" p) [a] [] pos) (TM ta):=by
 intro pins s σ H R I h;refine Call_ (E5 I hg hm boot_range (PyProof.Rows.callWith_type1 (thn (ha pos pins s σ H _ I h) λ us s1 hz_=>?_) hs rfl));obtain⟨vs,H1,I1,r1,q1⟩:=hz_;obtain⟨j,e,q1,q2,q⟩:=q1;subst e;cases r1 with
 |cons r rr =>
  cases rr;obtain⟨t,rfl⟩:=r;exact call_range_1 (K6 I1 (by lia) (by lia) q1 q2 (by simpa using q))
theorem IJ{a b:Expr}{ta:TA}{p pos:Pos}(hg:Gl X "range")(hm:X.mg "range"=none)(ha:PA X [a,b] ta)(hs:starEach [a,b] X.env=[(false,eval a X.env),(false,eval b X.env)]:=by rfl)(hs2:starEach [b] X.env=[(false,eval b X.env)]:=by rfl) :
  PI X tg (.Call (.Name "range" p) [a,b] [] pos) (TL ta):=by
 intro pins s σ H R I h;refine Call_ (E5 I hg hm boot_range (PyProof.Rows.callWith_type1 (thn (ha pos pins s σ H _ I h) λ us s1 hz_=>?_) (by rw[hs,hs2]) (by rw[hs2];rfl)));obtain⟨vs,H1,I1,r1,q1⟩:=hz_;obtain⟨i,j,e,⟨q1,q2,q3,q4⟩,q⟩:=q1;subst e;cases r1 with
 |cons r rr =>
  cases rr with
  |cons r' rr =>
   cases rr;obtain⟨t,rfl⟩:=r;obtain⟨t',rfl⟩:=r';exact call_range_2 (K6 I1 q1 q2 q3 q4 q)
def Uz(wi:TI)(g:TG)(tb:TS):TS:=λ D σ H=>wi σ H λ J H1=>∃W:Nat->Nat->St->Hp->Prop,(∃m,W 0 m σ H1)/\∀i m σ H,W i m σ H ->
 (J.stop i H/\D.nx σ H)\/(J.go i H/\∃N:St->Hp->Prop,(∀σ' H',N σ' H'->∃m',m'<m/\W (i+1) m' σ' H')/\∀x H',J.yld i H x H'->g x σ H' λ σ2 H2=>tb { D with nx:=N,ct:=N,bk:=D.nx } σ2 H2)
def JG(fp:List Addr)(h:Heap):PNz:=fp.filterMap λ b=>(h.get? b).map λ o=>(b,o)
theorem Bc{fp:List Addr}{h:Heap}{b:Addr}{o:Obj}(hb:b∈fp)(e:h.get? b=some o):(b,o)∈JG fp h:=List.mem_filterMap.mpr ⟨b,hb,by rw[e];rfl⟩
theorem On{fp:List Addr}{h:Heap}{p:Addr×Obj}(hp:p∈JG fp h):p.1∈fp/\h.get? p.1=some p.2:=by
 obtain⟨b,hb,e⟩:=List.mem_filterMap.mp hp;cases q:h.get? b with
 |none=>rw[q]at e;cases e
 |some o =>
  rw[q]at e;have e':(b,o)=p:=Option.some.inj e;subst e';exact⟨hb,q⟩
theorem Inv.pinned{pins:PNz}{σ:St}{H:Hp}{s:Shared}{fp:List Addr}(I:Inv X pins σ H s)(hf:∀b∈fp,FC X pins H b)(ho:∀b∈fp,∃o,s.heap.get? b=some o/\∀v,o.data≠.cell v):Inv X (pins++JG fp s.heap) σ H s :=
 I.pins_of λ p hp=>(List.mem_append.mp hp).elim (λ z=>I.pin p (List.mem_append_right _ z)) λ z=>by
  obtain⟨hb,e⟩:=On z;obtain⟨f0,f1,f2,_⟩:=hf p.1 hb;obtain⟨o,e',d⟩:=ho p.1 hb;rw[e]at e';cases e';exact⟨e,f0,f1,f2,d⟩
theorem Inv.unpinned{pins pl:PNz}{σ:St}{H:Hp}{s:Shared}(I:Inv X (pins++pl) σ H s):Inv X pins σ H s:=I.pins_of λ p hp=>I.pin p (List.mem_append_right _ (List.mem_append_left _ hp))
theorem DD{iter:Expr}{body:List Stmt}{wi:TI}{g:TG}{tb:TS}{pos:Pos}(hp:PassesOwn (model X.prog X.w) X.A X.env X.xe)(hc:X.calm=true)(hi:PI X tg iter wi)(hg:PG X tg g)(hb:PSs X body tb)
  (hs:∀x,foldedSetIterable iter X.env x=pure x:=by intro _;rfl):PS X (.For tg iter body [] pos) (Uz wi g tb):=by
 intro pins s σ H D I h;refine wpAny_For (thn (hi pins s σ H _ I h) λ v s1 h1=>thn h1 λ itv s2 h2=>?_) hs;obtain⟨it,fp,tn,J,H2,e,I2,T,st2,f2,W,⟨m0,w0⟩,turn⟩:=h2;subst e;have stat:∀{H':Hp},(∀b∈fp,H' b=none)->∀b∈fp,FC X pins H' b:=λ hn b hb=>⟨hn b hb,(f2 b hb).2⟩;refine codeAny_forLoop_any (λ n s'=>∃i σ' H',Inv X pins σ' H' s'/\tn i s'.heap/\(∀b∈fp,H' b=none)/\W i n σ' H') ?_ m0 ⟨0,σ,H2,I2,st2,λ b hb=>(f2 b hb).1,w0⟩;rintro n s3 ⟨i,σ3,H3,I3,st3,fr3,w3⟩;rcases turn i n σ3 H3 w3 with ⟨stop,qn⟩|⟨go,N,hN,step⟩
 .refine wpAny_passesOwn hp (thn (T.done X rfl rfl rfl hc i pins s3 σ3 H3 X.xe I3 (stat fr3) st3 stop) λ r s4 hz_=>?_);obtain⟨hr,I4⟩:=hz_;subst hr;exact wpAny_execs_nil ⟨σ3,H3,I4,qn⟩
 .refine wpAny_passesOwn hp (thn (T.item X rfl rfl rfl hc i pins s3 σ3 H3 X.xe I3 (stat fr3) st3 go) λ r s4 hz_=>?_);obtain⟨u,hr,h4⟩:=hz_;subst hr;refine wpAny_passesOwn hp (thn h4 λ_ s5 hz_=>?_);obtain⟨x,H5,I5,r5,y5,st5,fr5⟩:=hz_;have I5':=I5.pinned (stat fr5) (T.obj _ _ st5);refine wpAny_passesOwn hp (thn (hg _ s5 σ3 H5 x u _ I5' r5 (step x H5 y5)) λ_ s6 hz_=>?_);obtain⟨σ6,H6,I6,q6⟩:=hz_;refine wpAny_passesOwn hp (thn (hb _ s6 σ6 H6 _ I6 q6) λ f s7 q7=>?_);have again:∀{σ7:St}{H7:Hp},Inv X (pins++JG fp s5.heap) σ7 H7 s7->N σ7 H7->∃m,m<n/\∃i σ' H',Inv X pins σ' H' s7/\tn i s7.heap/\(∀b∈fp,H' b=none)/\W i m σ' H':=λ{σ7 H7} I7 n7=>by
   obtain⟨m',hm,w7⟩:=hN σ7 H7 n7;refine⟨m',hm,i+1,σ7,H7,I7.unpinned,T.keep _ _ _ st5 λ b hb o e=>(I7.pin (b,o) (List.mem_append_right _ (List.mem_append_right _ (Bc hb e)))).1,λ b hb=>?_,w7⟩;obtain⟨o,e,d⟩:=T.obj _ _ st5 b hb;exact(I7.pin (b,o) (List.mem_append_right _ (List.mem_append_right _ (Bc hb e)))).2.1
  cases f with
  |next=>obtain⟨σ7,H7,I7,n7⟩:=q7;exact again I7 n7
  |cont=>obtain⟨σ7,H7,I7,n7⟩:=q7;exact again I7 n7
  |brk=>obtain⟨σ7,H7,I7,q7⟩:=q7;exact⟨σ7,H7,I7.unpinned,q7⟩
  |ret v=>obtain⟨x7,σ7,H7,I7,r7,q7⟩:=q7;exact⟨x7,σ7,H7,I7.unpinned,r7,q7⟩
end
theorem Fb{K:Frag}{a:Addr}{xs:LUz}{g:TG}{tb:TS}{D:EG}{σ:St}{H:Hp}(Pv:Nat->St->Hp->Prop)(h0:Pv 0 σ H)(hl:∀i σ H,i<=xs.length->Pv i σ H->SqL K H a xs)
  (hs:∀i x σ H,xs[i]?=some x->Pv i σ H->g x σ H λ σ2 H2=>tb { D with nx:=Pv (i+1),ct:=Pv (i+1),bk:=D.nx } σ2 H2) (hd:∀σ H,Pv xs.length σ H->D.nx σ H) :
  ∃W:Nat->Nat->St->Hp->Prop,(∃m,W 0 m σ H)/\∀i m σ H,W i m σ H ->
   ((Itl K a).stop i H/\D.nx σ H)\/((Itl K a).go i H/\∃N:St->Hp->Prop,(∀σ' H',N σ' H'->∃m',m'<m/\W (i+1) m' σ' H')/\∀x H',(Itl K a).yld i H x H'->g x σ H' λ σ2 H2=>tb { D with nx:=N,ct:=N,bk:=D.nx } σ2 H2):=by
 refine⟨λ i m σ H=>m=xs.length-i/\i<=xs.length/\Pv i σ H,⟨xs.length,by simp,Nat.zero_le _,h0⟩,?_⟩;rintro i m σ H ⟨rfl,hi,p⟩;have q:=hl i σ H hi p;by_cases hlt:i<xs.length
 .refine .inr ⟨⟨xs,xs[i],q,by simp[hlt]⟩,Pv (i+1),λ σ' H' p'=>⟨xs.length-(i+1),by lia,rfl,hlt,p'⟩,λ x H' y=>?_⟩;obtain⟨e,y⟩:=y;subst e;exact hs i x σ _ (y xs q) p
 .have e:i=xs.length:=by lia
  subst e;exact .inl ⟨⟨xs,q,Nat.le_refl _⟩,hd σ H p⟩
theorem N2{K:Frag}{a:Addr}{xs:LUz}{g:TG}{tb:TS}{D:EG}{σ:St}{H:Hp}(Pv:Nat->St->Hp->Prop)(h0:Pv 0 σ H)(hl:∀i σ H,i<=xs.length->Pv i σ H->SqT K H a xs)
  (hs:∀i x σ H,xs[i]?=some x->Pv i σ H->g x σ H λ σ2 H2=>tb { D with nx:=Pv (i+1),ct:=Pv (i+1),bk:=D.nx } σ2 H2) (hd:∀σ H,Pv xs.length σ H->D.nx σ H) :
  ∃W:Nat->Nat->St->Hp->Prop,(∃m,W 0 m σ H)/\∀i m σ H,W i m σ H ->
   ((Itt K a).stop i H/\D.nx σ H)\/((Itt K a).go i H/\∃N:St->Hp->Prop,(∀σ' H',N σ' H'->∃m',m'<m/\W (i+1) m' σ' H')/\∀x H',(Itt K a).yld i H x H'->g x σ H' λ σ2 H2=>tb { D with nx:=N,ct:=N,bk:=D.nx } σ2 H2):=by
 refine⟨λ i m σ H=>m=xs.length-i/\i<=xs.length/\Pv i σ H,⟨xs.length,by simp,Nat.zero_le _,h0⟩,?_⟩;rintro i m σ H ⟨rfl,hi,p⟩;have q:=hl i σ H hi p;by_cases hlt:i<xs.length
 .refine .inr ⟨⟨xs,xs[i],q,by simp[hlt]⟩,Pv (i+1),λ σ' H' p'=>⟨xs.length-(i+1),by lia,rfl,hlt,p'⟩,λ x H' y=>?_⟩;obtain⟨e,y⟩:=y;subst e;exact hs i x σ _ (y xs q) p
 .have e:i=xs.length:=by lia
  subst e;exact .inl ⟨⟨xs,q,Nat.le_refl _⟩,hd σ H p⟩
theorem O4{lo:Int}{n:Nat}{g:TG}{tb:TS}{D:EG}{σ:St}{H:Hp}(Pv:Nat->St->Hp->Prop)(h0:Pv 0 σ H)
  (hs:∀i σ H,i<n->Pv i σ H->g (.int (lo+i)) σ H λ σ2 H2=>tb { D with nx:=Pv (i+1),ct:=Pv (i+1),bk:=D.nx } σ2 H2) (hd:∀σ H,Pv n σ H->D.nx σ H) :
  ∃W:Nat->Nat->St->Hp->Prop,(∃m,W 0 m σ H)/\∀i m σ H,W i m σ H ->
   ((Itr lo n).stop i H/\D.nx σ H)\/((Itr lo n).go i H/\∃N:St->Hp->Prop,(∀σ' H',N σ' H'->∃m',m'<m/\W (i+1) m' σ' H')/\∀x H',(Itr lo n).yld i H x H'->g x σ H' λ σ2 H2=>tb { D with nx:=N,ct:=N,bk:=D.nx } σ2 H2):=by
 refine⟨λ i m σ H=>m=n-i/\i<=n/\Pv i σ H,⟨n,by simp,Nat.zero_le _,h0⟩,?_⟩;rintro i m σ H ⟨rfl,hi,p⟩;by_cases hlt:i<n
 .refine .inr ⟨hlt,Pv (i+1),λ σ' H' p'=>⟨n-(i+1),by lia,rfl,hlt,p'⟩,λ x H' y=>?_⟩;obtain⟨e,y⟩:=y;subst e y;exact hs i σ _ hlt p
 .have e:i=n:=by lia
  subst e;exact .inl ⟨Nat.le_refl _,hd σ H p⟩
abbrev R2:=V->V->Hp->VK->Prop
def OpR(X:Cx)(f:Value->Value->Sem Value)(r:R2):Prop :=
 ∀(pins:PNz)(s:Shared)(σ:St)(H:Hp)(x y:V)(v u:Value)(Q:VK),Inv X pins σ H s->RelV x v->RelV y u->r x y H Q ->
  wpAny (model X.prog X.w) X.A (f v u) (EP X pins σ Q) X.xe s
def UnR(X:Cx)(f:Value->Sem Value)(r:V->Hp->VK->Prop):Prop :=
 ∀(pins:PNz)(s:Shared)(σ:St)(H:Hp)(x:V)(v:Value)(Q:VK),Inv X pins σ H s->RelV x v->r x H Q ->
  wpAny (model X.prog X.w) X.A (f v) (EP X pins σ Q) X.xe s
def Da(X:Cx)(f:Value)(r:LUz->Hp->VK->Prop):Prop :=
 ∀(pins:PNz)(s:Shared)(σ:St)(H:Hp)(xs:LUz)(us:LWz)(Q:VK),Inv X pins σ H s->Vals xs us->r xs H Q ->
  wpAny (model X.prog X.w) X.A (call f us) (EP X pins σ Q) X.xe s
def UR(X:Cx)(r:V->Hp->(Bool->Hp->Prop)->Prop):Prop :=
 ∀(pins:PNz)(s:Shared)(σ:St)(H:Hp)(x:V)(v:Value)(Q:Bool->Hp->Prop),Inv X pins σ H s->RelV x v->r x H Q ->
  wpAny (model X.prog X.w) X.A (truthy v) (TP X pins σ Q) X.xe s
def tOp(r:R2)(ta tb:TE):TE:=λ σ H Q=>ta σ H λ x H1=>tb σ H1 λ y H2=>r x y H2 Q
def tUn(r:V->Hp->VK->Prop)(ta:TE):TE:=λ σ H Q=>ta σ H λ x H1=>r x H1 Q
inductive II1(C:Int->Int->Prop)(g:Int->Int->V)(x y:V)(H:Hp)(Q:VK):Prop
 |mk (i j:Int) (e1:x=.int i) (e2:y=.int j) (c:C i j) (q:Q (g i j) H):II1 C g x y H Q
inductive II0(g:Int->Int->V)(x y:V)(H:Hp)(Q:VK):Prop
 |mk (i j:Int) (e1:x=.int i) (e2:y=.int j) (q:Q (g i j) H):II0 g x y H Q
inductive IU(g:Int->V)(x:V)(H:Hp)(Q:VK):Prop
 |mk (i:Int) (e:x=.int i) (q:Q (g i) H):IU g x H Q
def rI(C:Int->Int->Prop)(g:Int->Int->V):R2:=λ x y H Q=>II1 C g x y H Q
def rI0(g:Int->Int->V):R2:=λ x y H Q=>II0 g x y H Q
def rU(g:Int->V):V->Hp->VK->Prop:=λ x H Q=>IU g x H Q
section
variable{X:Cx}{a b c:Expr}{ta tb tc:TE}{pos:Pos}
theorem SL(ha:PE X a ta)(hb:PE X b tb){pins:PNz}{s:Shared}{σ:St}{H:Hp}{R:V->V->Hp->Prop}(I:Inv X pins σ H s)
  (h:ta σ H λ x H1=>tb σ H1 λ y H2=>R x y H2) {Q:VPz} {f:Value->Value->Sem Value}
  (hf:∀v u s2 x y H2,Inv X pins σ H2 s2->RelV x v->RelV y u->R x y H2->wpAny (model X.prog X.w) X.A (f v u) Q X.xe s2) :
  wpAny (model X.prog X.w) X.A (eval a X.env) (λ v s₁=>wpAny (model X.prog X.w) X.A (eval b X.env) (λ u s₂=>wpAny (model X.prog X.w) X.A (f v u) Q X.xe s₂) X.xe s₁) X.xe s:=by
 refine thn (ha pins s σ H _ I h) λ v s1 hz_=>?_;obtain⟨x,H1,I1,r1,q1⟩:=hz_;refine thn (hb pins s1 σ H1 _ I1 q1) λ u s2 hz_=>?_;obtain⟨y,H2,I2,r2,q2⟩:=hz_;exact hf v u s2 x y H2 I2 r1 r2 q2
theorem Au{op:Operator}{r:R2}(ho:OpR X (binaryOp op) r)(ha:PE X a ta)(hb:PE X b tb):PE X (.BinOp a op b pos) (tOp r ta tb):=by
 intro pins s σ H Q I h;exact wpAny_BinOp (SL ha hb I h λ v u s2 x y H2 I2 rx ry q=>ho pins s2 σ H2 x y v u Q I2 rx ry q)
theorem Nk{op:UnaryOp}{r:V->Hp->VK->Prop}(ho:UnR X (unaryOp op) r)(ha:PE X a ta):PE X (.UnaryOp op a pos) (tUn r ta):=by
 intro pins s σ H Q I h;exact UnaryOp_ (thn (ha pins s σ H _ I h) λ v s1 ⟨x,H1,I1,r1,q1⟩=>ho pins s1 σ H1 x v Q I1 r1 q1)
theorem opI{f:Value->Value->Sem Value}{C:Int->Int->Prop}{g:Int->Int->Int}
  (rule:∀(i j:Int)(t u:Tok)(s:Shared)(Q:VPz)(E:VPz),C i j->Q (.int (g i j) s.toks) { s with toks:=s.toks+1 }->wpAny (model X.prog X.w) X.A (f (.int i t) (.int j u)) Q E s) :
  OpR X f (rI C λ i j=>.int (g i j)):=by
 intro pins s σ H x y v u Q I rx ry h;obtain⟨i,j,rfl,rfl,hc,q⟩:=h;obtain⟨t,rfl⟩:=rx;obtain⟨t',rfl⟩:=ry;exact rule i j t t' s _ _ hc ⟨.int (g i j),H,I.tok _,⟨_,rfl⟩,q⟩
theorem T6{f:Value->Value->Sem Value}{g:Int->Int->Int}
  (rule:∀(i j:Int)(t u:Tok)(s:Shared)(Q:VPz)(E:VPz),Q (.int (g i j) s.toks) { s with toks:=s.toks+1 }->wpAny (model X.prog X.w) X.A (f (.int i t) (.int j u)) Q E s) :
  OpR X f (rI0 λ i j=>.int (g i j)):=by
 intro pins s σ H x y v u Q I rx ry h;obtain⟨i,j,rfl,rfl,q⟩:=h;obtain⟨t,rfl⟩:=rx;obtain⟨t',rfl⟩:=ry;exact rule i j t t' s _ _ ⟨.int (g i j),H,I.tok _,⟨_,rfl⟩,q⟩
theorem QW{f:Value->Value->Sem Value}{g:Int->Int->Bool}
  (rule:∀(i j:Int)(t u:Tok)(s:Shared)(Q:VPz)(E:VPz),Q (.bool (g i j)) s->wpAny (model X.prog X.w) X.A (f (.int i t) (.int j u)) Q E s) :
  OpR X f (rI0 λ i j=>.bl (g i j)):=by
 intro pins s σ H x y v u Q I rx ry h;obtain⟨i,j,rfl,rfl,q⟩:=h;obtain⟨t,rfl⟩:=rx;obtain⟨t',rfl⟩:=ry;exact rule i j t t' s _ _ ⟨.bl (g i j),H,I,rfl,q⟩
def SS(i j:Int):Prop:=0<=j/\j<=1000000/\i.natAbs<2^64
theorem AW:OpR X (binaryOp .Add) (rI0 λ i j=>.int (i+j)):=T6 λ_ _ _ _ _ _ _ q=>add_int q
theorem Bq:OpR X (binaryOp .Sub) (rI0 λ i j=>.int (i-j)):=T6 λ_ _ _ _ _ _ _ q=>sub_int q
theorem BX:OpR X (binaryOp .Mod) (rI (λ_ j=>0<j) λ i j=>.int (i % j)):=opI λ i j _ _ _ _ _ hc q=>by
 have h1:(0:Int)<j:=hc;exact mod_int' (by lia) (by rw[Int.fmod_eq_emod_of_nonneg i (by lia)];exact q)
theorem Mc:OpR X (binaryOp .Pow) (rI SS λ i j=>.int (i^j.toNat)):=opI λ_ _ _ _ _ _ _ hc q=>pow_int_small hc.1 hc.2.1 hc.2.2 q
theorem unI{f:Value->Sem Value}{g:Int->Int}
  (rule:∀(i:Int)(t:Tok)(s:Shared)(Q:VPz)(E:VPz),Q (.int (g i) s.toks) { s with toks:=s.toks+1 }->wpAny (model X.prog X.w) X.A (f (.int i t)) Q E s) :
  UnR X f (rU λ i=>.int (g i)):=by
 intro pins s σ H x v Q I rx h;obtain⟨i,rfl,q⟩:=h;obtain⟨t,rfl⟩:=rx;exact rule i t s _ _ ⟨.int (g i),H,I.tok _,⟨_,rfl⟩,q⟩
theorem J9:UnR X (unaryOp .USub) (rU λ i=>.int (-i)):=unI λ_ _ _ _ _ q=>neg_int q
end
def Sr:V->V->Bool
 |.non,.non=>true|.non,.int _=>true|.int _,.non=>true|.non,.bl _=>true|.bl _,.non=>true|.non,.str _=>true|.str _,.non=>true
 |.int _,.int _=>true|.bl _,.bl _=>true|.str _,.str _=>true|.byt _,.byt _=>true
 |.int _,.str _=>true|.str _,.int _=>true|.bl _,.str _=>true|.str _,.bl _=>true
 |_,_=>false
def rEq:R2:=λ x y H Q=>Sr x y=true/\Q (.bl (decide (x=y))) H
def rNe:R2:=λ x y H Q=>Sr x y=true/\Q (.bl (!decide (x=y))) H
theorem N8{i j:Int}:decide (V.int i=V.int j)=(i==j):=by
 rw[Bool.eq_iff_iff];simp
theorem Qi{i j:Bool}:decide (V.bl i=V.bl j)=(i==j):=by
 rw[Bool.eq_iff_iff];simp
theorem N7{i j:Str}:decide (V.str i=V.str j)=(i==j):=by
 rw[Bool.eq_iff_iff];simp
theorem N9{i j:Array UInt8}:decide (V.byt i=V.byt j)=(i.toList==j.toList):=by
 rw[Bool.eq_iff_iff];cases i;cases j;simp
section
variable{X:Cx}{a b c:Expr}{ta tb tc:TE}{pos:Pos}
theorem AB{pins:PNz}{σ:St}{H:Hp}{s:Shared}{Q:VK}{k k':Bool}(I:Inv X pins σ H s)(q:Q (.bl k) H)(e:k=k'):EP X pins σ Q (.bool k') s:=by
 subst e;exact⟨.bl k,H,I,rfl,q⟩
theorem AZ:OpR X (compareOp .Eq) rEq:=by
 intro pins s σ H x y v u Q I rx ry h;obtain⟨hs,q⟩:=h;cases x with
 |non =>
  cases rx;cases y with
  |non=>cases ry;exact PySem.EqNone.eq_none_none (AB I q (by simp))
  |bl j=>cases ry;exact PySem.EqNone.eq_none_bool (AB I q (by simp))
  |int j=>obtain⟨t',rfl⟩:=ry;exact PySem.EqNone.eq_none_int (AB I q (by simp))
  |str j=>obtain⟨t',rfl⟩:=ry;exact PySem.EqNone.eq_none_str (AB I q (by simp))
  |_=>exact absurd (show false=true from hs) Bool.false_ne_true
 |bl i =>
  cases rx;cases y with
  |non=>cases ry;exact PySem.EqNone.eq_bool_none (AB I q (by simp))
  |bl j=>cases ry;exact eq_bool (AB I q Qi)
  |str j=>obtain⟨t',rfl⟩:=ry;exact PySem.EqMixed.eq_bool_str (AB I q (by simp))
  |_=>exact absurd (show false=true from hs) Bool.false_ne_true
 |int i =>
  obtain⟨t,rfl⟩:=rx;cases y with
  |non=>cases ry;exact PySem.EqNone.eq_int_none (AB I q (by simp))
  |int j=>obtain⟨t',rfl⟩:=ry;exact eq_int (AB I q N8)
  |str j=>obtain⟨t',rfl⟩:=ry;exact PySem.EqMixed.eq_int_str (AB I q (by simp))
  |_=>exact absurd (show false=true from hs) Bool.false_ne_true
 |str i =>
  obtain⟨t,rfl⟩:=rx;cases y with
  |non=>cases ry;exact PySem.EqNone.eq_str_none (AB I q (by simp))
  |bl j=>cases ry;exact PySem.EqMixed.eq_str_bool (AB I q (by simp))
  |int j=>obtain⟨t',rfl⟩:=ry;exact PySem.EqMixed.eq_str_int (AB I q (by simp))
  |str j=>obtain⟨t',rfl⟩:=ry;exact eq_str (AB I q N7)
  |_=>exact absurd (show false=true from hs) Bool.false_ne_true
 |byt i =>
  obtain⟨t,rfl⟩:=rx;cases y with
  |byt j=>obtain⟨t',rfl⟩:=ry;exact eq_bytes (AB I q N9)
  |_=>exact absurd (show false=true from hs) Bool.false_ne_true
 |_=>cases y<;>exact absurd (show false=true from hs) Bool.false_ne_true
theorem Eh:OpR X (compareOp .NotEq) rNe:=by
 intro pins s σ H x y v u Q I rx ry h;obtain⟨hs,q⟩:=h;cases x with
 |non =>
  cases rx;cases y with
  |non=>cases ry;exact PySem.EqNone.ne_none_none (AB I q (by simp))
  |bl j=>cases ry;exact PySem.EqNone.ne_none_bool (AB I q (by simp))
  |int j=>obtain⟨t',rfl⟩:=ry;exact PySem.EqNone.ne_none_int (AB I q (by simp))
  |str j=>obtain⟨t',rfl⟩:=ry;exact PySem.EqNone.ne_none_str (AB I q (by simp))
  |_=>exact absurd (show false=true from hs) Bool.false_ne_true
 |bl i =>
  cases rx;cases y with
  |non=>cases ry;exact PySem.EqNone.ne_bool_none (AB I q (by simp))
  |bl j=>cases ry;exact ne_bool (AB I q (congrArg not Qi))
  |str j=>obtain⟨t',rfl⟩:=ry;exact PySem.EqMixed.ne_bool_str (AB I q (by simp))
  |_=>exact absurd (show false=true from hs) Bool.false_ne_true
 |int i =>
  obtain⟨t,rfl⟩:=rx;cases y with
  |non=>cases ry;exact PySem.EqNone.ne_int_none (AB I q (by simp))
  |int j=>obtain⟨t',rfl⟩:=ry;exact ne_int (AB I q (congrArg not N8))
  |str j=>obtain⟨t',rfl⟩:=ry;exact PySem.EqMixed.ne_int_str (AB I q (by simp))
  |_=>exact absurd (show false=true from hs) Bool.false_ne_true
 |str i =>
  obtain⟨t,rfl⟩:=rx;cases y with
  |non=>cases ry;exact PySem.EqNone.ne_str_none (AB I q (by simp))
  |bl j=>cases ry;exact PySem.EqMixed.ne_str_bool (AB I q (by simp))
  |int j=>obtain⟨t',rfl⟩:=ry;exact PySem.EqMixed.ne_str_int (AB I q (by simp))
  |str j=>obtain⟨t',rfl⟩:=ry;exact ne_str (AB I q (congrArg not N7))
  |_=>exact absurd (show false=true from hs) Bool.false_ne_true
 |byt i =>
  obtain⟨t,rfl⟩:=rx;cases y with
  |byt j=>obtain⟨t',rfl⟩:=ry;exact ne_bytes (AB I q (congrArg not N9))
  |_=>exact absurd (show false=true from hs) Bool.false_ne_true
 |_=>cases y<;>exact absurd (show false=true from hs) Bool.false_ne_true
theorem BS:OpR X (compareOp .Lt) (rI0 λ i j=>.bl (decide (i<j))):=QW λ_ _ _ _ _ _ _ q=>lt_int q
theorem GJ:OpR X (compareOp .LtE) (rI0 λ i j=>.bl (decide (i<=j))):=QW λ_ _ _ _ _ _ _ q=>le_int q
theorem IL:OpR X (compareOp .Gt) (rI0 λ i j=>.bl (decide (j<i))):=QW λ_ _ _ _ _ _ _ q=>gt_int q
theorem RN:OpR X (compareOp .GtE) (rI0 λ i j=>.bl (decide (j<=i))):=QW λ_ _ _ _ _ _ _ q=>ge_int q
theorem GK:OpR X (compareOp .Is) (λ x y H Q=>y=.non/\Q (.bl (decide (x=.non))) H):=by
 intro pins s σ H x y v u Q I rx ry h;obtain⟨rfl,q⟩:=h;cases ry;refine is_none_gen (AB I q ?_);cases x<;>first
  | (cases rx;rfl)
  | (obtain⟨t,rfl⟩:=rx;rfl)
theorem Np:OpR X (compareOp .IsNot) (λ x y H Q=>y=.non/\Q (.bl (!decide (x=.non))) H):=by
 intro pins s σ H x y v u Q I rx ry h;obtain⟨rfl,q⟩:=h;cases ry;refine isnot_none_gen (AB I q ?_);cases x<;>first
  | (cases rx;rfl)
  | (obtain⟨t,rfl⟩:=rx;rfl)
theorem Aq(b:Expr){op:CmpOp}(h:op≠.In:=by decide)(h2:op≠.NotIn:=by decide):behindInMarks op b=false:=by
 have e1:(op==CmpOp.In)=false:=by cases op<;>first|rfl|exact absurd rfl h
 have e2:(op==CmpOp.NotIn)=false:=by cases op<;>first|rfl|exact absurd rfl h2
 cases b<;>simp[behindInMarks,e1,e2]
theorem BB{op:CmpOp}{r:R2}(ho:OpR X (compareOp op) r)(ha:PE X a ta)(hb:PE X b tb)(hm:behindInMarks op b=false):PE X (.Compare a [op] [b] pos) (tOp r ta tb):=by
 intro pins s σ H Q I h;exact wpAny_Compare1 (SL ha hb I h λ v u s2 x y H2 I2 rx ry q=>ho pins s2 σ H2 x y v u Q I2 rx ry q) hm
def RF(t:TE):TT:=λ σ H Q=>t σ H λ x H'=>IBl x λ k=>Q k H'
theorem Ao{op:CmpOp}{r:R2}(ho:OpR X (compareOp op) r)(ha:PE X a ta)(hb:PE X b tb)(hm:behindInMarks op b=false):PT X (.Compare a [op] [b] pos) (RF (tOp r ta tb)):=by
 intro pins s σ H Q I h;refine wpAny_isTrue_Compare1 (thn (ha pins s σ H _ I h) λ v s1 ⟨x,H1,I1,r1,q1⟩=>thn (hb pins s1 σ H1 _ I1 q1) λ u s2 ⟨y,H2,I2,r2,q2⟩ =>
  thn (ho pins s2 σ H2 x y v u _ I2 r1 r2 q2) λ c s3 ⟨z,H3,I3,r3,k,e,q3⟩=>?_) hm
 subst e;cases r3;exact wpAny_truthy_bool ⟨H3,I3,q3⟩
def OV(r r':R2)(ta tb tc:TE):TE:=λ σ H Q=>ta σ H λ x H1=>tb σ H1 λ y H2=>r x y H2 λ z H3=>IBl z λ k =>
 (if k=true then tc σ H3 λ w' H4=>r' y w' H4 Q else Q (.bl false) H3)
theorem GH{op op':CmpOp}{r r':R2}(ho:OpR X (compareOp op) r)(ho':OpR X (compareOp op') r')(ha:PE X a ta)(hb:PE X b tb)(hc:PE X c tc)
  (hm:lastMarks [op,op'] [b,c]=false:=by with_unfolding_all rfl):PE X (.Compare a [op,op'] [b,c] pos) (OV r r' ta tb tc):=by
 intro pins s σ H Q I h;refine Compare_chain (thn (ha pins s σ H _ I h) λ v s1 ⟨x,H1,I1,r1,q1⟩=>chain_link (thn (hb pins s1 σ H1 _ I1 q1) λ u s2 ⟨y,H2,I2,r2,q2⟩ =>
  thn (ho pins s2 σ H2 x y v u _ I2 r1 r2 q2) λ d s3 ⟨z,H3,I3,r3,k,e,q3⟩=>?_)) hm
 subst e;cases r3;refine wpAny_truthy_bool ?_;cases k with
 |false=>exact ite_ff ⟨.bl false,H3,I3,rfl,q3⟩
 |true=>exact ite_tt (chain_last (thn (hc pins s3 σ H3 _ I3 q3) λ w' s4 ⟨z',H4,I4,r4,q4⟩=>ho' pins s4 σ H4 y z' u w' Q I4 r2 r4 q4))
theorem GA{op op':CmpOp}{r r':R2}(ho:OpR X (compareOp op) r)(ho':OpR X (compareOp op') r')(ha:PE X a ta)(hb:PE X b tb)(hc:PE X c tc)
  (hm:lastMarks [op,op'] [b,c]=false:=by with_unfolding_all rfl):PT X (.Compare a [op,op'] [b,c] pos) (RF (OV r r' ta tb tc)):=by
 intro pins s σ H Q I h;refine isTrue_chain (thn (ha pins s σ H _ I h) λ v s1 ⟨x,H1,I1,r1,q1⟩=>test_link (thn (hb pins s1 σ H1 _ I1 q1) λ u s2 ⟨y,H2,I2,r2,q2⟩ =>
  thn (ho pins s2 σ H2 x y v u _ I2 r1 r2 q2) λ d s3 ⟨z,H3,I3,r3,k,e,q3⟩=>?_)) hm
 subst e;cases r3;refine wpAny_truthy_bool ?_;cases k with
 |false =>
  obtain⟨k',e',q'⟩:=q3;cases e';exact ite_ff ⟨H3,I3,q'⟩
 |true =>
  refine ite_tt (test_last (thn (hc pins s3 σ H3 _ I3 q3) λ w' s4 ⟨z',H4,I4,r4,q4⟩=>thn (ho' pins s4 σ H4 y z' u w' _ I4 r2 r4 q4) λ d' s5 ⟨z2,H5,I5,r5,k2,e2,q5⟩=>?_));subst e2;cases r5;exact wpAny_truthy_bool ⟨H5,I5,q5⟩
def Ua(K:Frag)(x:V)(H:Hp)(k:Bool):Prop :=
 match x with
 |.non=>k=false
 |.bl b=>k=b
 |.int i=>k=(i != 0)
 |.str y=>y.length<=sizeLine/\k=((y.length:Int) != 0)
 |.byt y=>y.size<=sizeLine/\k=((y.size:Int) != 0)
 |.ref p=>(∃xs,SqL K H p xs/\k=!xs.isEmpty)\/(∃xs,SqT K H p xs/\k=!xs.isEmpty)\/∃kvs,H p=some (.dK kvs)/\k=!kvs.isEmpty
 |_=>False
theorem Mx{κ:Type}{kvs:List (κ×V)}{vs:List (κ×Value)}(r:KV kvs vs):(!vs.isEmpty)=!kvs.isEmpty:=by
 cases r<;>rfl
theorem Hg{xs:LUz}{its:LWz}(r:Vals xs its):(!its.toArray.isEmpty)=!xs.isEmpty:=by
 cases r<;>simp
theorem GY:(sizeLine:Nat)<2^63:=by rw[sizeLine_eq];decide
theorem Si:UR X (λ x H Q=>∃k,Ua X.K x H k/\Q k H):=by
 intro pins s σ H x v Q I rx h;obtain⟨k,e,q⟩:=h;have hl:=GY;have hs:sizeLine=16777216:=sizeLine_eq;cases x with
 |non =>
  cases rx;have e':k=false:=e;subst e';exact truthy_none ⟨H,I,q⟩
 |bl b =>
  cases rx;have e':k=b:=e;subst e';exact wpAny_truthy_bool ⟨H,I,q⟩
 |int i =>
  obtain⟨t,rfl⟩:=rx;have e':k=(i != 0):=e;subst e';exact PySem.P.truthy_int ⟨H,I,q⟩
 |str y =>
  obtain⟨t,rfl⟩:=rx;obtain⟨hy,e'⟩:y.length<=sizeLine/\k=((y.length:Int) != 0):=e;subst e';exact PySem.P.truthy_str (by lia) ⟨H,I.tok _,q⟩
 |byt y =>
  obtain⟨t,rfl⟩:=rx;obtain⟨hy,e'⟩:y.size<=sizeLine/\k=((y.size:Int) != 0):=e;subst e';exact truthy_bytes (by lia) ⟨H,I.tok _,q⟩
 |ref p =>
  cases rx;have e':(∃xs,SqL X.K H p xs/\k=!xs.isEmpty)\/(∃xs,SqT X.K H p xs/\k=!xs.isEmpty)\/∃kvs,H p=some (.dK kvs)/\k=!kvs.isEmpty:=e;rcases e' with ⟨xs,hx,e'⟩|⟨xs,hx,e'⟩|⟨kvs,hx,e'⟩
  .subst e';obtain⟨its,r,pl,hz⟩:=I.list hx;have hlen:=r.length;exact wpAny_truthy_list pl.isList (by simp only[List.size_toArray];lia) ⟨H,I.tok _,by rw[Hg r];exact q⟩
  .subst e';obtain⟨its,r,pl,hz⟩:=I.tuple hx;have hlen:=r.length;exact truthy_tuple pl (by simp only[List.size_toArray];lia) ⟨H,I.tok _,by rw[Hg r];exact q⟩
  .subst e';obtain⟨hz,hS,vs,r,m⟩:kvs.length<=sizeLine/\(p==sysModules)=false/\∃vs,KV kvs vs/\s.heap.DictOf (Bd X.prog X.w) p vs:=I.hok p _ hx;have hlen:kvs.length=vs.length:=Paired.length r;exact wpAny_truthy_dict hS m (by lia) ⟨H,I.tok _,by rw[Mx r];exact q⟩
 |_=>exact(show False from e).elim
theorem CT(ha:PE X a ta)(he:∀whole,isTrue a X.env whole=(do let v <-whole;standAt a.pos;holding [v] (truthy v))) :
    PT X a (λ σ H Q=>ta σ H λ x H'=>∃k,Ua X.K x H' k/\Q k H'):=by
  intro pins s σ H Q I h;exact isTrue_plain (thn (ha pins s σ H _ I h) λ v s1 ⟨x,H1,I1,r1,q1⟩=>Si pins s1 σ H1 x v Q I1 r1 q1) (he _)
theorem FD{x:V}{us:LWz}(r:Vals [x] us):∃u,us=[u]/\RelV x u:=by
 cases r with
 |cons r1 r2=>cases r2;exact⟨_,rfl,r1⟩
theorem K0{x y:V}{us:LWz}(r:Vals [x,y] us):∃u w',us=[u,w']/\RelV x u/\RelV y w':=by
 cases r with
 |cons r1 r2 =>
  cases r2 with
  |cons r3 r4=>cases r4;exact⟨_,_,rfl,r1,r3⟩
theorem Ql:Da X (.builtin "abs") (λ xs H Q=>∃i,xs=[.int i]/\Q (.int (if i<0 then -i else i)) H):=by
 intro pins s σ H xs us Q I r h;obtain⟨i,rfl,q⟩:=h;obtain⟨u,rfl,t,rfl⟩:=FD r;exact call_abs_int λ u tk=>⟨.int (if i<0 then -i else i),H,I.tok _,⟨_,rfl⟩,q⟩
theorem F8:Da X (.type "int") (λ xs H Q=>(∃i,xs=[.int i]/\Q (.int i) H)\/∃k,xs=[.bl k]/\Q (.int (if k then 1 else 0)) H):=by
 intro pins s σ H xs us Q I r h;rcases h with ⟨i,rfl,q⟩|⟨k,rfl,q⟩
 .obtain⟨u,rfl,t,rfl⟩:=FD r;exact call_int_int ⟨.int i,H,I,⟨_,rfl⟩,q⟩
 .obtain⟨u,rfl,r1⟩:=FD r;cases r1;exact call_int_bool ⟨.int (if k then 1 else 0),H,I.tok _,⟨_,rfl⟩,q⟩
end
structure ObjM(h:Heap)(x dx C:Addr)(mA:MGz):Prop where
 obj:h.get? x=some (instObj C dx)
 ns:h.Ns1 dx mA
 ne:dx≠x
theorem IR{h:Heap}{dx:Addr}{mA:MGz}(n:h.Ns1 dx mA):∃od,h.get? dx=some od/\∀name,lookIn name od=some (mA name):=by
 obtain⟨o,es,ep,ho,hd,hk,_,hm⟩:=n;refine⟨o,ho,λ name=>?_⟩;have e:=hm name;unfold nsFind findBy at e;rw[<-Array.find?_toList]at e;unfold lookIn;rw[hd];dsimp only;split
 .rename_i y q;rw[q]at e;exact congrArg some e
 .rename_i q;rw[q]at e;have a:es.toList.any (·.refKey)=false:=by
   rw[List.any_eq_false];intro y hy;obtain⟨z,t,hkey⟩:=hk y (Array.mem_toList_iff.mp hy);simp[DictEntry.refKey,hkey]
  have a':¬es.toList.any (·.refKey)=true:=by rw[a];exact Bool.false_ne_true
  rw[if_neg a'];exact congrArg some e
theorem ObjM.look{h:Heap}{x dx C:Addr}{mA:MGz}(I:ObjM h x dx C mA):∃od,InstAt h x (instObj C dx) C (some od)/\∀name,lookIn name od=some (mA name) :=
 let ⟨od,ho,hl⟩:=IR I.ns
 ⟨od,⟨I.obj,rfl,rfl,ho⟩,hl⟩
section
variable{prog:Program}{w:World}{A:Around}{E:VPz}{s:Shared}{K:Frag}{x dx C f:Addr}{mA:MGz}{name:Str}{v:Value}
theorem Ro{expr:Bool}{Q:VPz}(X:K.In s.heap)(I:ObjM s.heap x dx C mA)(hg:plainGet K C name=true)(hh:hasDictIn K C=true)
  (ha:findIn K (.ref C) name=some none) (hv:mA name=some v) (hv':handedIn v=true) (h:Q v { s with toks:=s.toks+1 }) :
  wpAny (model prog w) A (getAttr (.ref x) name expr) Q E s:=by
 obtain⟨od,J,hl⟩:=I.look;exact get_value X J (plainGet_of hg).1 (findObj_own hh ha rfl (by rw[hl,hv])) hv' h
theorem QC{ns:LSz}{Q:Unit->Shared->Prop}(X:K.In s.heap)(I:ObjM s.heap x dx C mA)
  (hs:findIn K (.ref C) "__setattr__"=some (some (.builtin "object.__setattr__"))) (hp:plainOver K C=true) (ht:takerIn K C name=some none) (hh:hasDictIn K C=true)
  (hw:PySem.Within mA ns) (hsz:ns.length<=sizeLine)
  (h:∀h',ObjM h' x dx C (λ y=>if y=name then some v else mA y)->Heap.SameBut dx s.heap h'->Q () { s with heap:=h',toks:=s.toks+2 }) :
  wpAny (model prog w) A (setAttr (.ref x) name v) Q E s:=by
 obtain⟨od,J,hl⟩:=I.look;refine set_plain X J hs (osa_open (s:={ s with toks:=s.toks+1 }) (r:=none) X J hp ht λ b=>?_);obtain⟨cd,hc,hd'⟩:=any_some hh;have hx:s.heap.get? x=some ⟨.ref C,some dx,.plain,#[]⟩:=I.obj;refine wpAny_bind (wpAny_pure (wpAny_bind (wpAny_bind (wpAny_loadPart hx (wpAny_bind (Looks.here (s:={ s with toks:=s.toks+1 }) (looks_clsIn X hc) ?_))))));rw[hd'];refine wpAny_pure (a:=some dx) (wpAny_bind (wpAny_pure (wpAny_bind ?_)));refine wpAny_nsSet1 (s:={ s with toks:=s.toks+1 }) I.ns λ h' hn2 hs2=>?_;obtain⟨oD,esD,epD,hoD,hdD,hcD⟩:=hn2.count (PySem.Within.cons name v hw);refine wpAny_bind (wpAny_lookBehind hoD (by rw[hdD];exact pastItsLine_dict (Nat.le_trans hcD (by rw[List.length_cons];lia))) ?_);exact wpAny_pure (h _ ⟨(hs2.2 _ (Ne.symm I.ne)).trans I.obj,hn2,I.ne⟩ hs2)
theorem P6{R:Result->Shared->Prop}{vs:LWz}{kw:List (Str×Value)}(X:K.In s.heap)(hm:makesIn K C=true)
  (hi:findIn K (.ref C) "__init__"=some (some (.ref f))) (hf:typeIn K (.ref f)=some (.type "function"))
  (h:codeAny (model prog w) (A.under (.builtin "type.__call__" ⟨.ref C::vs,kw⟩)) (.call (.ref f) ⟨.ref (s.heap.objs.size+1)::vs,kw⟩) (InitBack (s.heap.objs.size+1) R)
   { s with heap:=(s.heap.push emptyDict).push (instObj C s.heap.objs.size) }) :
  codeAny (model prog w) A (.call (.ref C) ⟨vs,kw⟩) R s:=by
 obtain⟨hh,g,d,t,os⟩:=s;exact make_core (makes_of X hm) (looks_findIn X hi) (λ self=>bind_fn X self hf) (.inl rfl) h
end
def Cr(f:Str)(v:V):LFz->LFz
 |[]=>[(f,v)]
 | (g,x)::r=>if g=f then (g,v)::r else (g,x)::Cr f v r
theorem AT(f g:Str)(v:V):∀fs:LFz,(Cr f v fs).lookup g=if g=f then some v else fs.lookup g
 |[]=>by
  show List.lookup g [(f,v)]=_;by_cases h:g=f
  .have hb:(g==f)=true:=beq_iff_eq.mpr h;simp only[List.lookup,hb,if_pos h]
  .have hb:(g==f)=false:=beq_eq_false_iff_ne.mpr h;simp only[List.lookup,hb,if_neg h]
 | (k,x)::r=>by
  have ih:=AT f g v r;rw[show Cr f v ((k,x)::r)=(if k=f then (k,v)::r else (k,x)::Cr f v r) from rfl];by_cases hk:k=f
  .rw[if_pos hk];by_cases h:g=k
   .have hb:(g==k)=true:=beq_iff_eq.mpr h;simp only[List.lookup,hb,if_pos (h.trans hk)]
   .have hb:(g==k)=false:=beq_eq_false_iff_ne.mpr h;simp only[List.lookup,hb,if_neg (λ e:g=f=>h (e.trans hk.symm))]
  .rw[if_neg hk];by_cases h:g=k
   .have hb:(g==k)=true:=beq_iff_eq.mpr h;simp only[List.lookup,hb,if_neg (λ e:g=f=>hk (h.symm.trans e))]
   .have hb:(g==k)=false:=beq_eq_false_iff_ne.mpr h;simp only[List.lookup,hb];exact ih
theorem CW(f:Str)(v:V):∀fs:LFz,f∈(Cr f v fs).map (·.1)/\∀g,g∈fs.map (·.1)->g∈(Cr f v fs).map (·.1)
 |[]=>⟨by simp[Cr],λ g h=>by simp at h⟩
 | (k,x)::r=>by
  obtain⟨i1,i2⟩:=CW f v r;rw[show Cr f v ((k,x)::r)=(if k=f then (k,v)::r else (k,x)::Cr f v r) from rfl];by_cases hk:k=f
  .rw[if_pos hk];subst hk;exact⟨by simp,λ g h=>by simpa using h⟩
  .rw[if_neg hk];refine⟨?_,λ g h=>?_⟩
   .rw[List.map_cons];exact List.mem_cons_of_mem _ i1
   .rw[List.map_cons]at h |-;rcases List.mem_cons.mp h with e|e
    .exact List.mem_cons.mpr (.inl e)
    .exact List.mem_cons_of_mem _ (i2 g e)
theorem FJ(f:Str)(v:V):∀fs:LFz,(Cr f v fs).length<=fs.length+1
 |[]=>by simp[Cr]
 | (k,x)::r=>by
  have ih:=FJ f v r;rw[show Cr f v ((k,x)::r)=(if k=f then (k,v)::r else (k,x)::Cr f v r) from rfl];by_cases hk:k=f
  .rw[if_pos hk,List.length_cons,List.length_cons];lia
  .rw[if_neg hk,List.length_cons,List.length_cons];lia
theorem RelO.some_of{v:V}{o:Option Value}(r:RelO (some v) o):∃u,o=some u/\RelV v u:=by
 cases o with
 |none=>exact(show False from r).elim
 |some u=>exact⟨u,rfl,r⟩
theorem IZ{v:V}{u:Value}(r:RelV v u):handedIn u=true:=by
 cases v with
 |non=>cases(show u=Value.none from r);rfl
 |bl b=>cases(show u=Value.bool b from r);rfl
 |int i=>obtain⟨t,e⟩:=(show ∃t,u=Value.int i t from r);cases e;rfl
 |str x=>obtain⟨t,e⟩:=(show ∃t,u=Value.str x t from r);cases e;rfl
 |byt b=>obtain⟨t,e⟩:=(show ∃t,u=Value.bytes b t from r);cases e;rfl
 |flt b=>obtain⟨t,e⟩:=(show ∃t,u=Value.float b t from r);cases e;rfl
 |ref a=>cases(show u=Value.ref a from r);rfl
 |ty n=>cases(show u=Value.type n from r);rfl
section
variable{P:Program}{w:World}{H H':Hp}{h h':Heap}{a C dx:Addr}{fs fs':LFz}
theorem JY(hok:HOk P w H h)(e:H a=some (.ins C dx fs)):∃mA,ObjM h a dx C mA/\(∀f,RelO (fs.lookup f) (mA f))/\PySem.Within mA (fs.map (·.1))/\fs.length<=1000/\H dx=some (.own a):=by
 obtain⟨d,z,ne,ob,mA,n,r,q⟩:=(show ObjOk P w H h a (.ins C dx fs) from hok a _ e);exact⟨mA,⟨ob,n,ne⟩,r,q,z,d⟩
end
structure Cls(K:Frag)(C:Addr):Prop where
 pg:plainGet K C Str.empty=true
 hd:hasDictIn K C=true
 po:plainOver K C=true
 sa:findIn K (.ref C) "__setattr__"=some (some (.builtin "object.__setattr__"))
theorem Cls.get{K:Frag}{C:Addr}(c:Cls K C)(f:Str):plainGet K C f=true:=c.pg
def NoAttr(K:Frag)(C:Addr)(f:Str):Prop:=findIn K (.ref C) f=some none
theorem NoAttr.taker{K:Frag}{C:Addr}{f:Str}(n:NoAttr K C f):takerIn K C f=some none:=by
 unfold takerIn;rw[show findIn K (.ref C) f=some none from n];rfl
section
variable{X:Cx}{pins:PNz}{σ:St}{H:Hp}{s:Shared}{a C dx:Addr}{fs:LFz}{f:Str}{v:V}{A:Around}{E:VPz}
theorem M0{b:Bool}{Q:VPz}(I:Inv X pins σ H s)(e:H a=some (.ins C dx fs))(c:Cls X.K C)(n:NoAttr X.K C f)(l:fs.lookup f=some v)
  (h:∀u s',Inv X pins σ H s'->RelV v u->Q u s'):wpAny (model X.prog X.w) A (getAttr (.ref a) f b) Q E s:=by
 obtain⟨mA,O,r,_,_,_⟩:=JY I.hok e;obtain⟨u,hu,ru⟩:=RelO.some_of (v:=v) (o:=mA f) (by rw[<-l];exact r f);exact Ro I.kIn O (c.get f) c.hd n hu (IZ ru) (h u _ (I.tok _) ru)
theorem LX{y:V}{u:Value}{Q:Unit->Shared->Prop}(I:Inv X pins σ H s)(e:H a=some (.ins C dx fs))(c:Cls X.K C)(n:NoAttr X.K C f)(hl:fs.length<1000)(ry:RelV y u)
  (h:∀s',Inv X pins σ (upd H a (.ins C dx (Cr f y fs))) s'->Q () s'):wpAny (model X.prog X.w) A (setAttr (.ref a) f u) Q E s:=by
 obtain⟨mA,O,r,wi,_,ho⟩:=JY I.hok e;have hz:(fs.map (·.1)).length<=sizeLine:=by rw[List.length_map,sizeLine_eq];lia
 refine QC I.kIn O c.sa c.po n.taker c.hd wi hz λ h' O' sb=>h _ ?_;have hd:∃o,h'.get? dx=some o:=let ⟨o,_,_,e',_⟩:=O'.ns;⟨o,e'⟩;refine I.write (x:=a) (e:=dx) (by rw[e];exact True.intro) (.inr ho) (λ b q hb z=>(sb.2 b hb).trans z) hd ?_;refine⟨by rw[Ah O.ne];exact ho,?_,O.ne,O'.obj,_,O'.ns,λ g=>?_,λ g hg=>?_⟩
 .have:=FJ f y fs;lia
 .show RelO ((Cr f y fs).lookup g) (if g=f then some u else mA g);rw[AT];by_cases q:g=f
  .rw[if_pos q,if_pos q];exact ry
  .rw[if_neg q,if_neg q];exact r g
 .by_cases q:g=f
  .rw[q];exact(CW f y fs).1
  .refine(CW f y fs).2 g (wi g λ z=>hg ?_);show(if g=f then some u else mA g)=none;rw[if_neg q];exact z
theorem Inv.made(I:Inv X pins σ H s):Inv X pins σ (upd (upd H s.heap.objs.size (.own (s.heap.objs.size+1))) (s.heap.objs.size+1) (.ins C s.heap.objs.size []))
  { s with heap:=(s.heap.push emptyDict).push (instObj C s.heap.objs.size) }:=by
 have e1:(s.heap.push emptyDict).get? s.heap.objs.size=some emptyDict:=Heap.get?_push_size s.heap rfl;have e2:((s.heap.push emptyDict).push (instObj C s.heap.objs.size)).get? (s.heap.objs.size+1)=some (instObj C s.heap.objs.size):=by
  have:=Heap.get?_push_size (s.heap.push emptyDict) (o:=instObj C s.heap.objs.size) rfl;rwa [Heap.size_push]at this
 have e3:(s.heap.push emptyDict).Ns s.heap.objs.size (λ_=>none):=⟨emptyDict,#[],_,e1,rfl,(λ e he=>absurd he (by simp)),λ_=>rfl⟩;have I1:=I.laid (a:=s.heap.objs.size) (o:=.own (s.heap.objs.size+1)) (h':=s.heap.push emptyDict) (t':=s.toks) (λ b u q=>Heap.get?_push_of_some _ q) (Nat.le_refl _) ⟨_,e1⟩;refine I1.laid (a:=s.heap.objs.size+1) (o:=.ins C s.heap.objs.size []) (t':=s.toks) (λ b u q=>Heap.get?_push_of_some _ q) (Nat.le_of_eq (Heap.size_push _ _)) ?_;have ne:s.heap.objs.size≠s.heap.objs.size+1:=Nat.ne_of_lt (Nat.lt_succ_self _);refine⟨by rw[Ah ne,upd_same],Nat.zero_le _,ne,e2,λ_=>none,(Heap.Ns1.of_empty e3).at λ o q=>Heap.get?_push_of_some _ q,λ_=>True.intro,λ y hy=>absurd rfl hy⟩
theorem NB{prog:Program}{w:World}{env:Env}{e:Expr}{f:Str}{pos:Pos}{s:Shared}{Q:VPz}(hb:attributeBase e f env (eval e env)=eval e env)
  (h:wpAny (model prog w) A (eval e env) (λ o s₁=>wpAny (model prog w) A (getAttr o f true) Q E s₁) E s):wpAny (model prog w) A (eval (.Attribute e f pos) env) Q E s :=
 Attribute_any_ h (by rw[arm_eval_Attribute,hb])
end
inductive Um(K:Frag)(f:Str)(x:V)(H:Hp)(Q:VK):Prop
 |mk (a C dx:Addr) (fs:LFz) (v:V) (e:x=.ref a) (h:H a=some (.ins C dx fs)) (c:Cls K C) (n:NoAttr K C f) (l:fs.lookup f=some v) (q:Q v H):Um K f x H Q
def U0(K:Frag)(ta:TE)(f:Str):TE:=λ σ H Q=>ta σ H λ x H1=>Um K f x H1 Q
def U4(K:Frag)(ta tv:TE)(f:Str):TS:=λ D σ H=>tv σ H λ y H1=>ta σ H1 λ x H2=>∃a C dx fs,x=.ref a/\H2 a=some (.ins C dx fs)/\Cls K C/\NoAttr K C f/\fs.length<1000 /\
 D.nx σ (upd H2 a (.ins C dx (Cr f y fs)))
section
variable{X:Cx}{o e value:Expr}{f:Str}{pos pos' tpos:Pos}{ta tv:TE}
theorem A9(he:PE X e ta)(hb:attributeBase e f X.env (eval e X.env)=eval e X.env):PE X (.Attribute e f pos) (U0 X.K ta f):=by
 intro pins s σ H Q I h;refine NB hb (thn (he pins s σ H _ I h) λ u s1 hz_=>?_);obtain⟨x,H1,I1,rx,a,C,dx,fs,v,ex,ea,c,n,l,q⟩:=hz_;subst ex;obtain rfl:u=Value.ref a:=rx;exact M0 I1 ea c n l λ u' s2 I2 ru=>⟨v,H1,I2,ru,q⟩
theorem Ew(ha:PE X o ta)(hv:PE X value tv)(hs:swapsWith value (some (.Attribute o f pos')) pos.line X.env=pure false):PS X (.Assign [.Attribute o f pos'] value pos) (U4 X.K ta tv f):=by
 intro pins s σ H D I h;refine plainObj_wpAny_Assign_Attribute (thn (hv pins s σ H _ I h) λ u s1 hz_=>?_) hs;obtain⟨y,H1,I1,ry,q⟩:=hz_;refine thn (ha pins s1 σ H1 _ I1 q) λ ov s2 hz_=>?_;obtain⟨x,H2,I2,rx,a,C,dx,fs,ex,ea,c,n,l,q2⟩:=hz_;subst ex;obtain rfl:ov=Value.ref a:=rx;exact LX I2 ea c n l ry λ s3 I3=>⟨σ,_,I3,q2⟩
end
section
variable{X:Cx}{pins:PNz}{σ:St}{H:Hp}{s:Shared}{A:Around}{E:VPz}{Q:VPz}{c:Value}{b:Bool}
inductive F9(K:Frag)(H:Hp):V->Value->Prop where
 |non:F9 K H .non (.type "NoneType")
 |bl (x:Bool):F9 K H (.bl x) (.type "bool")
 |int (i:Int):F9 K H (.int i) (.type "int")
 |str (x:Str):F9 K H (.str x) (.type "str")
 |flt (x:UInt64):F9 K H (.flt x) (.type "float")
 |lst {a:Addr} {xs:LUz} (e:H a=some (.lst xs)):F9 K H (.ref a) (.type "list")
 |frz {a:Addr} {o:Obj} {xs:LUz} (e:H a=some (.frz o (.lst xs))):F9 K H (.ref a) (.type "list")
 |tup {a:Addr} {xs:LUz} (e:H a=some (.tup xs)):F9 K H (.ref a) (.type "tuple")
 |dK {a:Addr} {kvs:List (Key×V)} (e:H a=some (.dK kvs)):F9 K H (.ref a) (.type "dict")
 |dT {a:Addr} {kvs:LKz} (e:H a=some (.dT kvs)):F9 K H (.ref a) (.type "dict")
 |ins {a C dx:Addr} {fs:LFz} (e:H a=some (.ins C dx fs)) (cl:Cls K C) (ha:findIn K (.ref C) "__class__"=some (some (.builtin "object.__class__")))
   (hn:specialIn K (.builtin "object.__class__") "__get__"=some (some (.builtin "getset_descriptor.__get__"))) (htk:takesIn K (.builtin "object.__class__")=some true)
   (hm:mroIn K C (.type "object")=some true):F9 K H (.ref a) (.ref C)
theorem IV{x:V}{u t:Value}(I:Inv X pins σ H s)(rx:RelV x u)(ty:F9 X.K H x t)(e:kitOne X.K t c=some b)(h:∀tk,Q (.bool b) { s with toks:=tk }) :
  wpAny (model X.prog X.w) A (call (.builtin "isinstance") [u,c]) Q E s:=by
 cases ty with
 |non=>cases(show u=Value.none from rx);exact kia_one kitx_none I.kIn True.intro e (λ z=>nomatch z) h
 |bl y=>cases(show u=Value.bool y from rx);exact kia_one kitx_bool I.kIn True.intro e (λ z=>nomatch z) h
 |int i=>obtain⟨t,q⟩:=(show ∃t,u=Value.int i t from rx);cases q;exact kia_one kitx_int I.kIn True.intro e (λ z=>nomatch z) h
 |str y=>obtain⟨t,q⟩:=(show ∃t,u=Value.str y t from rx);cases q;exact kia_one kitx_str I.kIn True.intro e (λ z=>nomatch z) h
 |flt y=>obtain⟨t,q⟩:=(show ∃t,u=Value.float y t from rx);cases q;exact kia_one kitx_float I.kIn True.intro e (λ z=>nomatch z) h
 |@lst a xs ea =>
  cases(show u=Value.ref a from rx);obtain⟨_,_,n,_,h1⟩:=(show ObjOk X.prog X.w H s.heap a (.lst xs) from I.hok a _ ea);exact kia_one kitx_list I.kIn ⟨_,h1,rfl⟩ e (λ z=>nomatch z) h
 |@frz a ob xs ea =>
  cases(show u=Value.ref a from rx);obtain⟨_,_,_,n,_,h1⟩:=(show ObjOk X.prog X.w H s.heap a (.frz ob (.lst xs)) from I.hok a _ ea);exact kia_one kitx_list I.kIn ⟨_,h1,rfl⟩ e (λ z=>nomatch z) h
 |@tup a xs ea =>
  cases(show u=Value.ref a from rx);obtain⟨_,_,_,p⟩:=(show ObjOk X.prog X.w H s.heap a (.tup xs) from I.hok a _ ea);obtain⟨o,h1,h2,_⟩:=p;exact kia_one kitx_tuple I.kIn ⟨o,h1,h2⟩ e (λ z=>nomatch z) h
 |@dK a kvs ea =>
  cases(show u=Value.ref a from rx);obtain⟨_,_,vs,_,p⟩:=(show ObjOk X.prog X.w H s.heap a (.dK kvs) from I.hok a _ ea);obtain⟨o,es,ep,h1,h2,_⟩:=p;exact kia_one kitx_dict I.kIn ⟨o,h1,h2.1⟩ e (λ z=>nomatch z) h
 |@dT a kvs ea =>
  cases(show u=Value.ref a from rx);obtain⟨_,_,xs,_,o,es,ep,h1,h2,_⟩:=(show ObjOk X.prog X.w H s.heap a (.dT kvs) from I.hok a _ ea);exact kia_one kitx_dict I.kIn ⟨o,h1,h2.1⟩ e (λ z=>nomatch z) h
 |@ins a C dx fs ea cl ha hn htk hm =>
  cases(show u=Value.ref a from rx);obtain⟨mA,O,_⟩:=JY I.hok ea;obtain⟨od,J,_⟩:=O.look;exact kia_one (kitx_own (cl.get _) cl.hd ha hn htk hm) I.kIn J e (λ z=>nomatch z) h
end
structure Room(k:Nat)(A:Around):Prop where
 hd:A.handled=none
 dp:A.depth+3*k+5<recursionLimit
 un:A.units+16*k+200<cLine
theorem Room.mono{j k:Nat}{A:Around}(r:Room k A)(h:j<=k):Room j A:=⟨r.hd,by have:=r.dp;lia,by have:=r.un;lia⟩
theorem Room.deeper{k:Nat}{A:Around}(r:Room (k+1) A)(env:Env):Room k (A.deeper env) :=
 ⟨r.hd,by have:=r.dp;show A.depth+1+3*k+5<_;lia,by have:=r.un;show A.units+3+16*k+200<_;lia⟩
theorem Room.in1{k:Nat}{A:Around}(r:Room (k+1) A):Room k A.in1 :=
 ⟨r.hd,by have:=r.dp;show A.depth+3*k+5<_;lia,by have:=r.un;show A.units+1+16*k+200<_;lia⟩
theorem Mr{A:Around}{C:Addr}{us:LWz}{kw:List (Str×Value)}:(A.under (.builtin "type.__call__" ⟨.ref C::us,kw⟩)).depth=A.depth+1:=by
 first|rfl|simp[Around.under,Code.weight,Code.isCreation,Code.isGuard,Code.isCaller,Code.frames,Code.isFrame,guardIds]
theorem Mq{A:Around}{C:Addr}{us:LWz}{kw:List (Str×Value)}:(A.under (.builtin "type.__call__" ⟨.ref C::us,kw⟩)).units=A.units+1:=by
 first|rfl|simp[Around.under,Code.cUnits,Code.frames,Code.isFrame]
theorem Room.make{k:Nat}{A:Around}(r:Room (k+1) A)(C:Addr)(us:LWz)(kw:List (Str×Value)):Room k (A.under (.builtin "type.__call__" ⟨.ref C::us,kw⟩)) :=
 ⟨r.hd,by have:=r.dp;rw[Mr];lia,by have:=r.un;rw[Mq];lia⟩
theorem Room.depth{k:Nat}{A:Around}(r:Room k A):A.depth<recursionLimit:=by have:=r.dp;lia
theorem Room.units{k:Nat}{A:Around}(r:Room k A):A.units+64<cLine:=by have:=r.un;lia
def Te:TA:=λ_ H Q=>Q [] H
def Tl(ta:TE)(tr:TA):TA:=λ σ H Q=>ta σ H λ x H1=>tr σ H1 λ xs H2=>Q (x::xs) H2
section
variable{X:Cx}{e:Expr}{es:List Expr}{te:TE}{t:TA}{pos:Pos}
theorem Ab:PA X [] Te:=λ_ _ _ _ H Q I h=>Calls.spliced_nil ⟨[],H,I,.nil,h⟩
theorem Aa(ha:PE X e te)(hr:PA X es t)(hs:starEach (e::es) X.env=(false,eval e X.env)::starEach es X.env:=by rfl):PA X (e::es) (Tl te t):=by
 intro pos pins s σ H Q I h;rw[hs];show wpAny _ _ (spliced ((false,eval e X.env)::backTo pos (starEach es X.env))) _ _ s;refine Calls.spliced_cons (thn (ha pins s σ H _ I h) λ u s1 hz_=>?_);obtain⟨x,H1,I1,r1,q1⟩:=hz_;exact thn (hr pos pins s1 σ H1 _ I1 q1) λ us s2 ⟨xs,H2,I2,r2,q2⟩=>⟨x::xs,H2,I2,.cons r1 r2,q2⟩
def Ur(t:TA):TE:=λ σ H Q=>t σ H λ xs H1=>xs.length<=sizeLine/\∀p,H1 p=none->Q (.ref p) (upd H1 p (.tup xs))
def Ux(t:TA):TE:=λ σ H Q=>t σ H λ xs H1=>xs.length<=sizeLine/\∀p,H1 p=none->Q (.ref p) (upd H1 p (.lst xs))
theorem At{x1}(h:PA X es t):PE X (.Tuple es x1 pos) (Ur t):=by
 intro pins s σ H Q I hq;refine wpAny_Tuple_spliced (thn (h pos pins s σ H _ I hq) λ us s1 ⟨xs,H1,I1,r,z,q⟩=>⟨by rw[<-r.length];exact z,?_⟩);have hf:H1 s1.heap.objs.size=none:=I1.hok.fresh (Nat.le_refl _);refine⟨.ref s1.heap.objs.size,upd H1 s1.heap.objs.size (.tup xs),I1.laid (t':=s1.toks) (λ b u e=>Heap.get?_push_of_some _ e) (Nat.le_refl _) ?_,rfl,q _ hf⟩;exact⟨z,us,r,⟨_,Heap.get?_push_size _ rfl,rfl,_,rfl⟩⟩
theorem AE(h:PA X es t):PE X (.List es pos) (Ux t):=by
 intro pins s σ H Q I hq;refine wpAny_List_spliced (thn (h pos pins s σ H _ I hq) λ us s1 ⟨xs,H1,I1,r,z,q⟩=>⟨by rw[<-r.length];exact z,?_⟩);have hf:H1 s1.heap.objs.size=none:=I1.hok.fresh (Nat.le_refl _);refine⟨.ref s1.heap.objs.size,upd H1 s1.heap.objs.size (.lst xs),I1.laid (t':=s1.toks) (λ b u e=>Heap.get?_push_of_some _ e) (Nat.le_refl _) ?_,rfl,q _ hf⟩;exact⟨z,us,0,r,Heap.get?_push_size _ rfl⟩
end
abbrev Sp:=LUz->Hp->VK->XK->Prop
abbrev CXT:=List Env->Hp->Shared->XK->Value->Shared->Prop
structure Env0(P:Program)(w:World)(K:Frag)(mg:MGz)(base:Heap)(A:Around)(outer:List Env)(s:Shared)(H:Hp):Prop where
 frames:A.frames=some outer
 mod:Mod K mg base
 bs:∀b o,base.get? b=some o->s.heap.get? b=some o/\H b=none
 bsz:base.objs.size<=s.heap.objs.size
 funs:s.heap.FunFrames base outer
 frf:∀b∈frs outer,H b=none
 hok:HOk P w H s.heap
 bare:AllBare s.gens
def CE(outer:List Env)(P:Program)(w:World)(H:Hp)(s:Shared)(Q:VK)(u:Value)(s':Shared):Prop :=
 ∃v H',s'.os=s.os/\AllBare s'.gens/\Un (frs outer) [] H H' s.heap s'.heap/\HOk P w H' s'.heap/\RelV v u/\Q v H'
def CR(CX:CXT)(outer:List Env)(P:Program)(w:World)(H:Hp)(s:Shared)(Q:VK)(E:XK)(r:Result)(s':Shared):Prop :=
 match r with
 |.ok (.ret u)=>CE outer P w H s Q u s'
 |.ok _=>False
 |.error e=>CX outer H s E e s'
structure A8(P:Program)(w:World)(K:Frag)(mg:MGz)(base:Heap)(CX:CXT)(k:Nat)(f:Addr)(fd:FuncData)(ps:LSz)(sp:Sp):Prop where
 len:∀vs H Q E,sp vs H Q E->vs.length=ps.length
 run:∀(A:Around)(outer:List Env)(s:Shared)(H:Hp)(args:Args)(us:LWz)(vs:LUz)(Q:VK)(E:XK),Room k A->Env0 P w K mg base A outer s H->BindsTo s fd args (ps.zip us)->Vals vs us->sp vs H Q E ->
  codeAny (model P w) A (.call (.ref f) args) (CR CX outer P w H s Q E) s
theorem Env0.make{P:Program}{w:World}{K:Frag}{mg:MGz}{base:Heap}{A:Around}{outer:List Env}{s:Shared}{H:Hp}(e:Env0 P w K mg base A outer s H)(C:Addr)(us:LWz)(kw:List (Str×Value)) :
  Env0 P w K mg base (A.under (.builtin "type.__call__" ⟨.ref C::us,kw⟩)) outer s H:=⟨by first|exact e.frames|(simpa [Around.under,Code.envs,Code.isFrame,pushEnvs] using e.frames),e.mod,e.bs,e.bsz,e.funs,e.frf,e.hok,e.bare⟩
theorem Env0.in1{P:Program}{w:World}{K:Frag}{mg:MGz}{base:Heap}{A:Around}{outer:List Env}{s:Shared}{H:Hp}(e:Env0 P w K mg base A outer s H) :
  Env0 P w K mg base A.in1 outer s H:=⟨e.frames,e.mod,e.bs,e.bsz,e.funs,e.frf,e.hok,e.bare⟩
section
variable{X:Cx}{pins:PNz}{σ:St}{H:Hp}{s s':Shared}
theorem Inv.env0(I:Inv X pins σ H s):Env0 X.prog X.w X.K X.mg X.base X.A X.stack s H :=
 ⟨I.ok.frames,I.ok.mod,I.bs,Nat.le_trans I.ok.bsz I.sz,I.stack,I.stkFree,I.hok,I.bare⟩
theorem Inv.after{Q:VK}{u:Value}(I:Inv X pins σ H s)(h:CE X.stack X.prog X.w H s Q u s'):EP X pins σ Q u s':=by
 obtain⟨v,H',os,bare,un,hok,r,q⟩:=h;obtain⟨hh,g,d,t,os'⟩:=s';obtain rfl:os'=s.os:=os;exact⟨v,H',I.call (h':=hh) (g':=g) (d':=d) (t':=t) (ch:=[]) un hok bare (λ b z=>absurd z (by simp)),r,q⟩
end
def MR(sp:Sp)(dvs:LUz)(E:XK)(t:TA):TE:=λ σ H Q=>t σ H λ vs H1=>sp (vs++dvs) H1 Q E
def RH(C:Addr)(sp:Sp)(dvs:LUz)(E:XK)(t:TA):TE:=λ σ H Q=>t σ H λ vs H1=>∀x dx,H1 x=none->H1 dx=none->dx≠x ->
 sp (.ref x::(vs++dvs)) (upd (upd H1 dx (.own x)) x (.ins C dx [])) (λ v H2=>v=.non/\Q (.ref x) H2) E
def Binds(K:Frag)(fd:FuncData)(ps:LSz)(ds:LWz):Prop :=
 ∀(s:Shared)(us:LWz),K.In s.heap->(us++ds).length=ps.length->BindsTo s fd ⟨us,[]⟩ (ps.zip (us++ds))
theorem Binds.all{K:Frag}{fd:FuncData}{ps:LSz}(h:∀us:LWz,us.length=ps.length->bindArgs fd ⟨us,[]⟩=pure (ps.zip us)):Binds K fd ps []:=λ s us _ hl=>by
 rw[List.append_nil]at hl |-;exact .of_eq (h us hl)
def DP(CX:CXT)(X:Cx)(E:XK):Prop:=∀(pins:PNz)(σ:St)(H:Hp)(s:Shared)(e:Value)(s':Shared),Inv X pins σ H s->CX X.stack H s E e s'->X.xe e s'
section
variable{X:Cx}{CX:CXT}{k:Nat}{f C:Addr}{fd:FuncData}{ps:LSz}{sp:Sp}{dvs:LUz}{ds:LWz}{E:XK}{x m:Str}{p pos apos:Pos}{e o:Expr}{es:List Expr}{ta:TE}{t:TA}
theorem Su{pins:PNz}{σ:St}{H:Hp}{s:Shared}{Q:VK}{us:LWz}{vs:LUz}(F:A8 X.prog X.w X.K X.mg X.base CX k f fd ps sp)(hr:Room k X.A)(hb:Binds X.K fd ps ds)(hd:Vals dvs ds)(hx:DP CX X E)
  (I:Inv X pins σ H s) (r:Vals vs us) (h:sp (vs++dvs) H Q E):wpAny (model X.prog X.w) X.A (call (.ref f) us) (EP X pins σ Q) X.xe s:=by
 have r2:Vals (vs++dvs) (us++ds):=r.append hd;have hl:(us++ds).length=ps.length:=by rw[<-r2.length];exact F.len _ _ _ _ h
 refine wpAny_call (codeAny_mono (F.run X.A X.stack s H ⟨us,[]⟩ (us++ds) (vs++dvs) Q E hr I.env0 (hb s us I.kIn hl) r2 h) λ r s' hq=>?_);cases r with
 |error e=>exact hx pins σ H s e s' I hq
 |ok fl =>
  cases fl with
  |ret u=>exact I.after hq
  |next=>exact False.elim hq
  |brk=>exact False.elim hq
  |cont=>exact False.elim hq
theorem Nm(F:A8 X.prog X.w X.K X.mg X.base CX k f fd ps sp)(hr:Room k X.A)(hg:Gl X x)(hm:X.mg x=some (.ref f))(hk:keepIn X.K (.ref f)=true)(hb:Binds X.K fd ps ds)(hd:Vals dvs ds)(hx:DP CX X E)
  (ha:PA X (e::es) t) (hdb:(x==("__debug__":Str))=false:=by decide) (he:starEach (e::es) X.env=(false,eval e X.env)::starEach es X.env:=by rfl) (hpl:(backTo pos (starEach es X.env)).any (·.1)=false:=by rfl) :
  PE X (.Call (.Name x p) (e::es) [] pos) (MR sp dvs E t):=by
 intro pins s σ H Q I h;refine wpAny_Call_Name_kw (C3 I hg hm ?_ hdb);refine callWith_K (h₀:=X.base) I.ok.mod.kin hk (thn (ha pos pins s σ H _ I h) λ us s1 ⟨vs,H1,I1,r,q⟩=>⟨I1.kIn,?_⟩) he hpl;exact Su F hr hb hd hx I1 r q
structure Mk(K:Frag)(C f:Addr):Prop where
 makes:makesIn K C=true
 init:findIn K (.ref C) "__init__"=some (some (.ref f))
 fn:isFn K (.ref f)=true
 kp:keepIn K (.ref C)=true
theorem Pj{pins:PNz}{σ:St}{H:Hp}{s:Shared}{Q:VK}{us:LWz}{vs:LUz}(M:Mk X.K C f)(F:A8 X.prog X.w X.K X.mg X.base CX k f fd ps sp)(hr:Room (k+1) X.A)(hb:Binds X.K fd ps ds)(hd:Vals dvs ds)
  (hx:DP CX X E) (I:Inv X pins σ H s) (r:Vals vs us)
  (h:∀x dx,H x=none->H dx=none->dx≠x->sp (.ref x::(vs++dvs)) (upd (upd H dx (.own x)) x (.ins C dx [])) (λ v H2=>v=.non/\Q (.ref x) H2) E) :
  wpAny (model X.prog X.w) X.A (call (.ref C) us) (EP X pins σ Q) X.xe s:=by
 have hq:=h (s.heap.objs.size+1) s.heap.objs.size (I.hok.fresh (Nat.le_succ _)) (I.hok.fresh (Nat.le_refl _)) (Nat.ne_of_lt (Nat.lt_succ_self _));have I2:=Inv.made (C:=C) I;have r2:Vals (V.ref (s.heap.objs.size+1)::(vs++dvs)) (Value.ref (s.heap.objs.size+1)::(us++ds)):=.cons rfl (r.append hd);have hl:(Value.ref (s.heap.objs.size+1)::us++ds).length=ps.length:=by
  have e:=r2.length;rw[F.len _ _ _ _ hq]at e;exact e.symm
 refine wpAny_call (P6 (f:=f) I.kIn M.makes M.init (beq_iff_eq.mp M.fn) (codeAny_mono (F.run _ X.stack _ _ ⟨Value.ref (s.heap.objs.size+1)::us,[]⟩ (Value.ref (s.heap.objs.size+1)::(us++ds)) _ _ E (hr.make C us [])
  (I2.env0.make C us []) (hb _ (Value.ref (s.heap.objs.size+1)::us) I2.kIn hl) r2 hq) λ r s' hq'=>?_))
 cases r with
 |error e=>exact hx pins σ _ _ e s' I2 hq'
 |ok fl =>
  cases fl with
  |ret u =>
   obtain⟨v,H',I3,rv,ev,q3⟩:=I2.after hq';subst ev;exact⟨rv,⟨V.ref (s.heap.objs.size+1),H',I3,rfl,q3⟩⟩
  |next=>exact False.elim hq'
  |brk=>exact False.elim hq'
  |cont=>exact False.elim hq'
theorem QT(M:Mk X.K C f)(F:A8 X.prog X.w X.K X.mg X.base CX k f fd ps sp)(hr:Room (k+1) X.A)(hg:Gl X x)(hm:X.mg x=some (.ref C))(hb:Binds X.K fd ps ds)(hd:Vals dvs ds)(hx:DP CX X E)
  (ha:PA X (e::es) t) (hdb:(x==("__debug__":Str))=false:=by decide) (he:starEach (e::es) X.env=(false,eval e X.env)::starEach es X.env:=by rfl) (hpl:(backTo pos (starEach es X.env)).any (·.1)=false:=by rfl) :
  PE X (.Call (.Name x p) (e::es) [] pos) (RH C sp dvs E t):=by
 intro pins s σ H Q I h;refine wpAny_Call_Name_kw (C3 I hg hm ?_ hdb);refine callWith_K (h₀:=X.base) I.ok.mod.kin M.kp (thn (ha pos pins s σ H _ I h) λ us s1 ⟨vs,H1,I1,r,q⟩=>⟨I1.kIn,?_⟩) he hpl;exact Pj M F hr hb hd hx I1 r q
end
structure An(N P:LSz)(sc:Scope):Prop where
 kind:sc.kind=.function
 co:sc.isCoroutine=false
 gen:sc.isGenerator=false
 nd:N.Nodup
 pre:N.take P.length=P
 par:∀x∈P,sc.names.lookup x=some .local\/sc.names.lookup x=some .cell
 nofree:∀y∈sc.names,y.2≠.free
theorem fsc{N P:List Str}{sc:Scope}(a:sc.kind=.function:=by rfl)(b:sc.isCoroutine=false:=by rfl)(c:sc.isGenerator=false:=by rfl)(d:N.Nodup:=by decide +kernel)(e:N.take P.length=P:=by rfl)(f:∀x∈P,sc.names.lookup x=some .local\/sc.names.lookup x=some .cell:=by decide +kernel)(g:∀y∈sc.names,y.2≠.free:=by decide +kernel):An N P sc:=⟨a,b,c,d,e,f,g⟩
theorem Jh{kindOf:Str->Option NameKind}{x:Str}:∀{binds:List (Str×Value)}{m:MGz},(∀v,(x,v)∉binds)->bindL kindOf binds m x=m x
 |[],_,_=>rfl
 | (n,v)::r,m,h=>by
  unfold bindL;rw[Jh λ w hw=>h w (List.mem_cons_of_mem _ hw)];split
  .have:x≠n:=by rintro rfl;exact h v List.mem_cons_self
   simp[this]
  .rfl
theorem Jj{kindOf:Str->Option NameKind}{x:Str}:∀{binds:List (Str×Value)}{m:MGz},(∀v,(x,v)∉binds)->bindC kindOf binds m x=m x
 |[],_,_=>rfl
 | (n,v)::r,m,h=>by
  unfold bindC;rw[Jj λ w hw=>h w (List.mem_cons_of_mem _ hw)];split
  .rfl
  .have:x≠n:=by rintro rfl;exact h v List.mem_cons_self
   simp[this]
theorem Ji{kindOf:Str->Option NameKind}{x:Str}{v:Value}:∀{P:LSz}{vs:LWz}{i:Nat}{m:MGz},P.Nodup->P[i]?=some x->vs[i]?=some v->kindOf x=some .local ->
  bindL kindOf (P.zip vs) m x=some v
 |[],_,_,_,_,h,_,_=>by simp at h
 |_::_,[],_,_,_,_,h,_=>by simp at h
 |p::P,w::vs,0,m,nd,h1,h2,hk=>by
  simp at h1 h2;subst h1;subst h2;show bindL kindOf ((p,w)::P.zip vs) m p=_;unfold bindL;rw[Jh λ v hv=>(List.nodup_cons.mp nd).1 (List.of_mem_zip hv).1,if_pos hk];simp
 |p::P,w::vs,i+1,m,nd,h1,h2,hk=>by
  show bindL kindOf ((p,w)::P.zip vs) m x=_;unfold bindL;exact Ji (i:=i) (List.nodup_cons.mp nd).2 (by simpa using h1) (by simpa using h2) hk
theorem Jk{kindOf:Str->Option NameKind}{x:Str}{v:Value}:∀{P:LSz}{vs:LWz}{i:Nat}{m:MGz},P.Nodup->P[i]?=some x->vs[i]?=some v->kindOf x≠some .local ->
  bindC kindOf (P.zip vs) m x=some v
 |[],_,_,_,_,h,_,_=>by simp at h
 |_::_,[],_,_,_,_,h,_=>by simp at h
 |p::P,w::vs,0,m,nd,h1,h2,hk=>by
  simp at h1 h2;subst h1;subst h2;show bindC kindOf ((p,w)::P.zip vs) m p=_;unfold bindC;rw[Jj λ v hv=>(List.nodup_cons.mp nd).1 (List.of_mem_zip hv).1,if_neg hk];simp
 |p::P,w::vs,i+1,m,nd,h1,h2,hk=>by
  show bindC kindOf ((p,w)::P.zip vs) m x=_;unfold bindC;exact Jk (i:=i) (List.nodup_cons.mp nd).2 (by simpa using h1) (by simpa using h2) hk
def start(N:LSz)(vs:LUz):St:=vs.map some++List.replicate (N.length-vs.length) none
def Bm(CX:CXT)(P:Program)(w:World)(K:Frag)(mg:MGz)(base:Heap)(N:LSz)(qual:Str)(scope:Scope)(f:Addr)(cd:Value)(A:Around)(outer:List Env)(s:Shared)(H:Hp)(E:XK):Cx where
 prog:=P
 w:=w
 K:=K
 mg:=mg
 base:=base
 A:=A.deeper (envOfC qual scope s.heap.objs.size f cd)
 N:=N
 s₀:=s
 H₀:=H
 env:=envOfC qual scope s.heap.objs.size f cd
 outer:=outer
 stack:=envOfC qual scope s.heap.objs.size f cd::outer
 ex:=[]
 calm:=true
 fn:=λ_=>true
 pn:=[]
 xe:=λ e s'=>wpAny (model P w) (A.deeper (envOfC qual scope s.heap.objs.size f cd)) (leaving (envOfC qual scope s.heap.objs.size f cd) e) (λ_ s''=>CX outer H s E e s'') (λ e' s''=>CX outer H s E e' s'') s'
theorem Lx{sc:Scope}{n:Nat}{x:Str}(h:sc.names.lookup x=some .cell):∃c,(cellsFrom n sc.names []).lookup x=some c:=by
 have q:=cellsFrom_some sc.names n [] (.inl h);exact Option.isSome_iff_exists.mp q
theorem IW{CX:CXT}{P:Program}{w:World}{K:Frag}{mg:MGz}{base:Heap}{N ps:LSz}{qual:Str}{scope:Scope}{f:Addr}{cd:Value}{A:Around}{outer:List Env}{s s1:Shared}{H:Hp}{E:XK}{us:LWz}{vs:LUz}
  (S:An N ps scope) (hd:A.handled=none) (e0:Env0 P w K mg base A outer s H) (hl:vs.length=ps.length) (r:Vals vs us)
  (x:InCallC s s.heap.objs.size (bindL (envOfC qual scope s.heap.objs.size f cd).kindOf (ps.zip us) λ_=>none) (cellsFrom (s.heap.objs.size+1) scope.names []) (bindC (envOfC qual scope s.heap.objs.size f cd).kindOf (ps.zip us) λ_=>none) s1) :
  Inv (Bm CX P w K mg base N qual scope f cd A outer s H E) [] (start N vs) H s1:=by
 have hpl:ps.length<=N.length:=by have:=congrArg List.length S.pre;rw[List.length_take]at this;lia
 obtain⟨h1,tk,rfl,hk⟩:=x.done;have noA:∀b:Addr,b∉(Bm CX P w K mg base N qual scope f cd A outer s H E).ex:=λ b z=>absurd (show b∈([]:List Addr) from z) (by simp);refine⟨⟨e0.mod,S.kind,rfl,rfl,Nat.le_refl _,λ y z c h1 h2=>?_,λ y hy=>?_,λ y c _ h=>?_,λ_=>hd,Around.frames_deeper e0.frames,.inr ⟨rfl,rfl⟩,λ b z=>absurd z (noA b),e0.bs,e0.bsz,λ b _ _=>noA b,λ b z=>absurd z (noA b),e0.funs,e0.frf⟩,
  rfl,e0.bare,Un.kept hk,⟨_,x.toInCall.ns,λ i y v h1 h2 h3=>?_⟩,λ y c h=>⟨_,x.cell y c h⟩,e0.hok.fresh (Nat.le_refl _),λ y c h=>?_,λ p hp=>absurd (show p∈([]:PNz) from hp) (by simp),e0.hok.kept hk,?_⟩
 .exact name_of_addr x.apart (PySem.mem_of_lookup h1) (PySem.mem_of_lookup h2)
 .have hy:scope.names.lookup y=some .cell\/scope.names.lookup y=some .free:=hy;rcases hy with hy|hy
  .exact Lx hy
  .exact absurd rfl (S.nofree _ (PySem.mem_of_lookup hy))
 .exact Nat.le_of_lt (x.above y c (PySem.mem_of_lookup h))
 .have hi:i<vs.length:=by
   unfold start at h2;by_cases hi:i<vs.length
   .exact hi
   .rw[List.getElem?_append_right (by simpa using hi)]at h2;rw[List.getElem?_replicate]at h2;split at h2<;>cases h2
  have ha:vs[i]?=some v:=by
   unfold start at h2;rw[List.getElem?_append_left (by simpa using hi),List.getElem?_map]at h2;cases e:vs[i]? with
   |none=>rw[e]at h2;cases h2
   |some a=>rw[e]at h2;cases h2;rfl
  obtain⟨u,hu,rv⟩:=r.get ha;have hp:ps[i]?=some y:=by
   rw[<-S.pre,List.getElem?_take_of_lt (by lia)];exact h1
  have ndP:ps.Nodup:=by rw[<-S.pre];exact S.nd.sublist (List.take_sublist _ _)
  refine⟨u,rv,?_⟩;rcases S.par y (List.mem_of_getElem? hp) with k|k
  .exact .inl ⟨k,Ji ndP hp hu k⟩
  .obtain⟨c,e⟩:=Lx (n:=s.heap.objs.size+1) k;refine .inr ⟨.inl k,c,e,?_⟩;have q:=x.cell y c e;rw[Jk ndP hp hu (by show scope.names.lookup y≠_;rw[k];decide)]at q;exact q
 .exact e0.hok.fresh (Nat.le_of_lt (x.above y c (PySem.mem_of_lookup h)))
 .unfold start;show _=N.length;rw[List.length_append,List.length_map,List.length_replicate];lia
theorem Lp{CX:CXT}{P:Program}{w:World}{K:Frag}{mg:MGz}{base:Heap}{k:Nat}{f:Addr}{name qual:Str}{params:Arguments}{body:List Stmt}{scope:Scope}{dV kV doc pm cdv ct oc:Value}{an od:Option Addr}
  {osl:AOz} {N ps:LSz} {sp:Sp} (lk:K.lookup f=some ⟨oc,od,.func (fnOf name qual params body scope dV kV doc pm an cdv ct),osl⟩) (hcd:codeIn K cdv qual=true) (S:An N ps scope)
  (len:∀vs H Q E,sp vs H Q E->vs.length=ps.length)
  (hbody:∀(A:Around)(outer:List Env)(s:Shared)(H:Hp)(vs:LUz)(Q:VK)(E:XK),Room k (A.deeper (envOfC qual scope s.heap.objs.size f cdv))->sp vs H Q E ->
   ∃t,PSs (Bm CX P w K mg base N qual scope f cdv A outer s H E) body t/\t { nx:=λ_ H'=>Q .non H',rt:=Q } (start N vs) H) :
  A8 P w K mg base CX (k+1) f (fnOf name qual params body scope dV kV doc pm an cdv ct) ps sp:=by
 refine⟨len,λ A outer s H args us vs Q E hr e0 hb r hsp=>?_⟩;have hl:=len _ _ _ _ hsp;have KX:K.In s.heap:=e0.mod.kin.keeps λ b o e=>(e0.bs b o e).1;have lim:s.heap.NoLimit:=e0.mod.nolimit.keeps λ b o e=>(e0.bs b o e).1;have hkind:∀y∈ps.zip us,scope.names.lookup y.1=some .local\/(scope.names.lookup y.1=some .cell/\((cellsFrom (s.heap.objs.size+1) scope.names []).lookup y.1).isSome=true):=λ⟨n,v⟩ hy=>by
  rcases S.par n (List.of_mem_zip hy).1 with q|q
  .exact .inl q
  .exact .inr ⟨q,cellsFrom_some _ _ _ (.inl q)⟩
 refine codeAny_call_function hr.depth (KX _ _ lk) rfl S.co S.gen rfl (codeRec_of KX hcd) (hb _ _ _ _ ?_);refine wpAny_newFunctionEnv_cells S.kind hkind λ env he s1 x=>?_;subst he;refine⟨lim.keeps x.toInCall.keep,codeAny_func ?_⟩;obtain⟨t,ht,hq⟩:=hbody A outer s H vs Q E (hr.deeper _) hsp;have I:Inv (Bm CX P w K mg base N qual scope f cdv A outer s H E) [] (start N vs) H s1:=IW S hr.hd e0 hl r x;refine wpAny_mono (ht [] s1 (start N vs) H _ I hq) (λ fl s' hs=>?_) λ e s' hs=>hs;have fin:∀{σ':St}{H':Hp}{v:V}{u:Value},Inv (Bm CX P w K mg base N qual scope f cdv A outer s H E) [] σ' H' s'->RelV v u->Q v H'->CE outer P w H s Q u s' :=
  λ{σ' H' v u} J rv q=>⟨v,H',J.os,J.bare,J.base,J.hok,rv,q⟩
 cases fl with
 |ret u =>
  obtain⟨v,σ',H',J,rv,q⟩:=hs;exact fin J rv q
 |next =>
  obtain⟨σ',H',J,q⟩:=hs;exact fin (v:=V.non) (u:=Value.none) J rfl q
 |brk =>
  obtain⟨_,_,_,q⟩:=hs;exact False.elim q
 |cont =>
  obtain⟨_,_,_,q⟩:=hs;exact False.elim q
section
variable{X:Cx}{x:Str}{p pos:Pos}{e:Expr}{es:List Expr}{t:TA}{id T:String}{r:LUz->Hp->VK->Prop}
def tCB(r:LUz->Hp->VK->Prop)(t:TA):TE:=λ σ H Q=>t σ H λ vs H1=>r vs H1 Q
theorem A6(hc:Da X (.builtin id) r)(hg:Gl X x)(hm:X.mg x=none)(hv:bootBuiltins x=some (.builtin id))(ha:PA X (e::es) t)(hn:x≠"__name__":=by decide)(hdb:(x==("__debug__":Str))=false:=by decide)
  (he:starEach (e::es) X.env=(false,eval e X.env)::starEach es X.env:=by rfl) (hpl:(backTo pos (starEach es X.env)).any (·.1)=false:=by rfl):PE X (.Call (.Name x p) (e::es) [] pos) (tCB r t):=by
 intro pins s σ H Q I h;refine wpAny_Call_Name_kw (E5 I hg hm hv ?_ hn hdb);exact PyProof.Rows.callWith_builtin1 (thn (ha pos pins s σ H _ I h) λ us s1 ⟨vs,H1,I1,r1,q1⟩=>hc pins s1 σ H1 vs us Q I1 r1 q1) he hpl
theorem Fr(hc:Da X (.type T) r)(hg:Gl X x)(hm:X.mg x=none)(hv:bootBuiltins x=some (.type T))(ha:PA X (e::es) t)(hn:x≠"__name__":=by decide)(hdb:(x==("__debug__":Str))=false:=by decide)
  (he:starEach (e::es) X.env=(false,eval e X.env)::starEach es X.env:=by rfl) (hpl:(backTo pos (starEach es X.env)).any (·.1)=false:=by rfl):PE X (.Call (.Name x p) (e::es) [] pos) (tCB r t):=by
 intro pins s σ H Q I h;refine wpAny_Call_Name_kw (E5 I hg hm hv ?_ hn hdb);exact PyProof.Rows.callWith_type1 (thn (ha pos pins s σ H _ I h) λ us s1 ⟨vs,H1,I1,r1,q1⟩=>hc pins s1 σ H1 vs us Q I1 r1 q1) he hpl
end
end L2
namespace HT
open PySem.W
open PySem PyProof.Rows
def lexLt:List Int->List Int->Bool
 |[],[]=>false
 |[],_::_=>true
 |_::_,[]=>false
 |x::xs,y::ys=>if x=y then lexLt xs ys else decide (x<y)
theorem lexLt_cons(x y:Int)(xs ys:List Int):lexLt (x::xs) (y::ys)=if x=y then lexLt xs ys else decide (x<y):=rfl
theorem lexLt_nil_nil:lexLt [] []=false:=rfl
theorem GZ(y:Int)(ys:List Int):lexLt [] (y::ys)=true:=rfl
theorem Ha(x:Int)(xs:List Int):lexLt (x::xs) []=false:=rfl
theorem Qa(A:Around)(s:Shared)(a:Int)(t:Tok)(c:Int)(u:Tok):∃e,SeqAt.EqAt A s (.int a t) (.int c u) e/\(e=true↔a=c) :=
 ⟨(a==c),SeqAt.EqAt.int_int a t c u,by simp⟩
theorem Po(A:Around)(s:Shared)(a:Int)(t:Tok)(c:Int)(u:Tok)(prog:Program)(w:World)(E:VPz)(Q:VPz)(h:Q (.bool (decide (a<c))) s) :
  wpAny (model prog w) A (richCompare .Lt (.int a t) (.int c u)) Q E s :=
 (PyProof.Rows.lt_int h:wpAny (model prog w) A (compareOp .Lt (.int a t) (.int c u)) Q E s)
section
open PySem.SeqAt
open PySem.AutoSeq1 (wpAny_loadPart')
open PySem.MeetsSeq PySem.MeetsSeq2 PySem.MeetsSeq3
theorem HW(l b:Addr)(items items2:Array Value)(n n2:Nat)(dd dd2:Option Addr)(sl sl2:AOz)(ns ms:List Int)(hi:IntsAre items.toList ns)(hj:IntsAre items2.toList ms) :
  Meets (Builtin.«tuple.__lt__» ⟨[.ref l,.ref b],[]⟩)
   (λ_ R s=>s.heap.get? l=some { cls:=.type "tuple",dict:=dd,data:=.seq items n,slots:=sl }/\s.heap.get? b=some { cls:=.type "tuple",dict:=dd2,data:=.seq items2 n2,slots:=sl2 } /\
    R (.ok (.ret (.bool (lexLt ns ms)))) s) :=
 .of_wp λ prog w A R s h=>by
  obtain⟨hp,g,d,tk,os⟩:=s;obtain⟨hl,hb,h⟩:=h;have f2:=AutoSeq1.sub_tuple_tuple;have z1:items.size=ns.length:=by rw[<-hi.length];simp
  have z2:items2.size=ms.length:=by rw[<-hj.length];simp
  wp_walk using wpAny_loadPart' hl,wpAny_loadPart' hb,wpAny_forIn_list _ (λ rest b s'=>b.1=none/\s'=⟨hp,g,d,tk,os⟩/\∃(vs ws:LWz)(ns' ms':List Int),rest=vs.zip ws /\
   IntsAre vs ns'/\IntsAre ws ms'/\ns'.length+items2.size=ms'.length+items.size/\R (.ok (.ret (.bool (lexLt ns' ms')))) ⟨hp,g,d,tk,os⟩) _
  case turn =>
   rintro⟨y,x⟩ rest b s' ⟨hb',rfl,vs,ws,ns',ms',hz,hvi,hwi,hlen,hR⟩;cases hvi with
   |nil=>rw[List.zip_nil_left]at hz;cases hz
   |cons a t hvi' =>
    cases hwi with
    |nil=>rw[List.zip_nil_right]at hz;cases hz
    |cons c u hwi' =>
     rw[List.zip_cons_cons]at hz;injection hz with hyx hrest;injection hyx with hy hx;subst hy hx;rw[lexLt_cons]at hR;simp only[List.length_cons]at hlen;obtain⟨e,he,hiff⟩:=Qa A.in1 ⟨hp,g,d,tk,os⟩ a t c u;refine wpAny_bind (he prog w _ _ ?_);cases e with
     |true =>
      rw[if_pos (hiff.mp rfl)]at hR
      wp_walk
      exact⟨rfl,rfl,_,_,_,_,hrest,hvi',hwi',by lia,hR⟩
     |false =>
      rw[if_neg (λ q=>absurd (hiff.mpr q) Bool.false_ne_true)]at hR;have hri:=Po A.in1 ⟨hp,g,d,tk,os⟩ a t c u prog w
      wp_walk using hri
      exact⟨_,rfl,by simpa using hR⟩
  case fin =>
   rintro⟨b1,b2⟩ s' ⟨hb',rfl,vs,ws,ns',ms',hz,hvi,hwi,hlen,hR⟩;simp only at hb';subst hb';have hv:lexLt ns' ms'=decide (items.size<items2.size):=by
    cases hvi with
    |nil =>
     cases hwi with
     |nil =>
      simp only[List.length_nil]at hlen;rw[lexLt_nil_nil];exact(decide_eq_false (by lia)).symm
     |cons c u hw =>
      simp only[List.length_nil,List.length_cons]at hlen;rw[GZ];exact(decide_eq_true (by lia)).symm
    |cons a t hv =>
     cases hwi with
     |nil =>
      simp only[List.length_nil,List.length_cons]at hlen;rw[Ha];exact(decide_eq_false (by lia)).symm
     |cons c u hw =>
      rw[List.zip_cons_cons]at hz;cases hz
   rw[hv]at hR
   wp_walk
   exact⟨_,rfl,by simpa [Builtin.Tuple.tupleCompareSizes] using hR⟩
  case h =>
   exact⟨rfl,rfl,items.toList,items2.toList,ns,ms,rfl,hi,hj,by lia,h⟩
end
section
variable{prog:Program}{w:World}{A:Around}{E:VPz}{s:Shared}
theorem lt_tupInts{l b:Addr}{items items2:Array Value}{ns ms:List Int}{Q:VPz}(hl:IsTup s.heap l items)(hb:IsTup s.heap b items2)(hi:IntsAre items.toList ns)(hj:IntsAre items2.toList ms)
  (hu:A.units<cLine) (h:Q (.bool (lexLt ns ms)) s):wpAny (model prog w) A (compareOp .Lt (.ref l) (.ref b)) Q E s:=by
 obtain⟨⟨cls,dd,data,sl⟩,ho,hc,n,hd⟩:=id hl;obtain⟨⟨cls2,dd2,data2,sl2⟩,ho2,hc2,n2,hd2⟩:=id hb;simp only at hc hd hc2 hd2;subst hc hd hc2 hd2;exact richCompare_meets_room (op:=.Lt) ⟨_,ho,rfl⟩ ⟨_,ho2,rfl⟩ PySem.F.slot_tuple_lt PySem.F.entry_tuple_lt (PySem.F.args_tuple_lt_2 _ _) (HW l b items items2 n n2 dd dd2 sl sl2 ns ms hi hj)
  ⟨ho,ho2,show Value.bool (lexLt ns ms)≠Value.notImplemented/\Q (.bool (lexLt ns ms)) s from ⟨(λ x=>nomatch x),h⟩⟩ hu
theorem cat_tup{t b:Addr}{vs ws:LWz}{Q:VPz}(ht:IsTup s.heap t vs.toArray)(hb:IsTup s.heap b ws.toArray)(hv:vs≠[])
  (h1:ws=[]->Q (.ref t) s) (h2:ws≠[]->Q (.ref s.heap.objs.size) { s with heap:=s.heap.push { cls:=.type "tuple",data:=.seq (vs++ws).toArray } })
  (hsz:vs.length+ws.length<=sizeLine):wpAny (model prog w) A (binaryOp .Add (.ref t) (.ref b)) Q E s:=by
 obtain⟨⟨cls,dd,data,sl⟩,ho,hc,n,hd⟩:=id ht;obtain⟨⟨cls2,dd2,data2,sl2⟩,ho2,hc2,n2,hd2⟩:=id hb;simp only at hc hd hc2 hd2;subst hc hd hc2 hd2;have e:vs.toArray++ws.toArray=(vs++ws).toArray:=by simp
 by_cases hw:ws=[]
 .exact concat_meets ⟨_,ho,rfl⟩ ⟨_,ho2,rfl⟩ noFill_tuple_add seq_tuple_add PySem.F.slot_tuple_add PySem.F.entry_tuple_add (PySem.F.args_tuple_add_2 _ _)
   (tuple_addW1 t b vs.toArray ws.toArray n n2 dd dd2 sl sl2 (by simpa using hv) (by simp[hw])) ⟨ho,ho2,h1 hw⟩
 .refine concat_meets ⟨_,ho,rfl⟩ ⟨_,ho2,rfl⟩ noFill_tuple_add seq_tuple_add PySem.F.slot_tuple_add PySem.F.entry_tuple_add (PySem.F.args_tuple_add_2 _ _)
   (tuple_addW2 t b vs.toArray ws.toArray n n2 dd dd2 sl sl2 (by simpa using hv) (by simpa using hw) (by rw[List.size_toArray,List.size_toArray];exact hsz)) ⟨ho,ho2,?_⟩
  rw[e];exact h2 hw
def sIx(n d:Nat):Option Int->Nat
 |none=>d
 |some v=>if v<0 then (v+(n:Int)).toNat else min v.toNat n
end
end HT
namespace L2
open PySem.W
open PySem PySem.Spec PyProof.Rows
abbrev TO:=St->Hp->(Option Int->Hp->Prop)->Prop
def PO(X:Cx)(e:Option Expr)(t:TO):Prop :=
 ∀(pins:PNz)(s:Shared)(σ:St)(H:Hp)(Q:Option Int->Hp->Prop),Inv X pins σ H s->t σ H Q ->
  wpAny (model X.prog X.w) X.A (evalPart e X.env) (λ u s'=>∃o H',Inv X pins σ H' s'/\IsPart u o/\Q o H') X.xe s
def Tc(t:TE):TO:=λ σ H Q=>t σ H λ x H1=>∃i,x=.int i/\Q (some i) H1
theorem Hi{ns:List Int}:∀{us:LWz},Vals (ns.map V.int) us->IntsAre us ns:=by
 induction ns with
 |nil=>intro us r;rw[List.map_nil]at r;cases r;exact .nil
 |cons n ns ih =>
  intro us r;rw[List.map_cons]at r;cases r with
  |cons r1 r2 =>
   obtain⟨t,e⟩:=r1;subst e;exact .cons n t (ih r2)
section
variable{X:Cx}{e:Expr}{te:TE}{lo hi:Option Expr}{tl th:TO}{pos p2:Pos}
theorem Ga(h:PE X e te):PO X (some e) (Tc te):=by
 intro pins s σ H Q I hw;rw[evalPart_some];refine thn (h pins s σ H _ I hw) λ u s1 hz_=>?_;obtain⟨x,H1,I1,r1,q1⟩:=hz_;obtain⟨i,rfl,q⟩:=q1;obtain⟨t,rfl⟩:=r1;exact⟨some i,H1,I1,.int i t,q⟩
def SlR(X:Cx)(r:V->Option Int->Option Int->Hp->VK->Prop):Prop :=
 ∀(pins:PNz)(s:Shared)(σ:St)(H:Hp)(x:V)(v vl vu:Value)(lo hi:Option Int)(sl:Addr)(Q:VK),Inv X pins σ H s->RelV x v->s.heap.IsSliceOf sl vl vu .none->IsPart vl lo->IsPart vu hi->r x lo hi H Q ->
  ∃T id,typeLookup (.type T) "__getitem__"=pure (some (.builtin id))/\s.TypeIs v T/\wpAny (model X.prog X.w) X.A (getItem v (.ref sl)) (EP X pins σ Q) X.xe s
def tSl(r:V->Option Int->Option Int->Hp->VK->Prop)(te:TE)(tl th:TO):TE:=λ σ H Q=>te σ H λ x H1=>tl σ H1 λ l H2=>th σ H2 λ u H3=>r x l u H3 Q
theorem KC{r:V->Option Int->Option Int->Hp->VK->Prop}(hr:SlR X r)(he:PE X e te)(hl:PO X lo tl)(hu:PO X hi th):PE X (.Subscript e (.Slice lo hi none p2) pos) (tSl r te tl th):=by
 intro pins s σ H Q I h;refine Subscript_ (thn (he pins s σ H _ I h) λ v s1 hz_=>?_);obtain⟨x,H1,I1,r1,q1⟩:=hz_;refine wpAny_Slice (thn (hl pins s1 σ H1 _ I1 q1) λ vl s2 hz_=>?_);obtain⟨l,H2,I2,pl,q2⟩:=hz_;refine thn (hu pins s2 σ H2 _ I2 q2) λ vu s3 hz_=>?_;obtain⟨u,H3,I3,pu,q3⟩:=hz_;rw[evalPart_none];refine wpAny_pure ?_;have I4:Inv X pins σ H3 { s3 with heap:=s3.heap.push { cls:=.type "slice",data:=.fields #[vl,vu,.none] } }:=I3.kept (t':=s3.toks) λ b ob q=>Heap.get?_push_of_some _ q;obtain⟨T,id,hT,ht,hg⟩:=hr pins { s3 with heap:=s3.heap.push { cls:=.type "slice",data:=.fields #[vl,vu,.none] } } σ H3 x v vl vu l u s3.heap.objs.size Q I4 r1 (Heap.IsSliceOf.new ..) pl pu q3;show wpAny (model X.prog X.w) X.A (subscriptTail e (.Slice lo hi none p2) v (.ref s3.heap.objs.size)) (EP X pins σ Q) X.xe { s3 with heap:=s3.heap.push { cls:=.type "slice",data:=.fields #[vl,vu,.none] } };exact tail_any (ops:=[.ref s3.heap.objs.size,v]) ht hT hg (by with_unfolding_all rfl)
def Lu(xs:LUz)(lo hi:Option Int):LUz:=(xs.drop (HT.sIx xs.length 0 lo)).take (HT.sIx xs.length xs.length hi-HT.sIx xs.length 0 lo)
theorem Ls(xs:LUz)(lo hi:Option Int):(Lu xs lo hi).length<=xs.length:=by
 unfold Lu;rw[List.length_take,List.length_drop];lia
def Tu(K:Frag):R2:=λ x y H Q=>∃a b xs ys,x=.ref a/\y=.ref b/\SqT K H a xs/\SqT K H b ys/\xs≠[]/\xs.length+ys.length<=sizeLine /\
 (ys=[]->Q (.ref a) H)/\(ys≠[]->∀p,H p=none->Q (.ref p) (upd H p (.tup (xs++ys))))
theorem Vals.nil_iff{xs:LUz}{us:LWz}(r:Vals xs us):us=[]↔xs=[]:=by
 cases r with
 |nil=>simp
 |cons _ _=>simp
theorem QV:OpR X (binaryOp .Add) (Tu X.K):=by
 intro pins s σ H x y v u Q I rx ry h;obtain⟨a,b,xs,ys,rfl,rfl,ha,hb,hx,hz,q1,q2⟩:=h;cases rx;cases ry;obtain⟨its,r1,p1,_⟩:=I.tuple ha;obtain⟨its2,r2,p2,_⟩:=I.tuple hb;refine HT.cat_tup p1 p2 (λ z=>hx (r1.nil_iff.mp z)) (λ z=>⟨.ref a,H,I,rfl,q1 (r2.nil_iff.mp z)⟩) (λ z=>?_) (by rw[<-r1.length,<-r2.length];exact hz);refine⟨.ref s.heap.objs.size,_,I.laid (t':=s.toks) (o:=.tup (xs++ys)) (λ b ob q=>Heap.get?_push_of_some _ q) (Nat.le_refl _) ?_,rfl,q2 (λ w=>z (r2.nil_iff.mpr w)) _ (I.hok.fresh (Nat.le_refl _))⟩;exact⟨by rw[List.length_append];exact hz,_,r1.append r2,IsTup.new _ _⟩
end
def ixN(n:Nat)(i:Int):Option Nat:=if 0<=i then (if i<n then some i.toNat else none) else if -(n:Int)<=i then some (i+n).toNat else none
def atI{α:Type}(xs:List α)(i:Int):Option α:=(ixN xs.length i).bind λ j=>xs[j]?
theorem Ny{n:Nat}{i:Int}{j:Nat}(h:ixN n i=some j):seqIndex? i n=some j/\j<n/\-(n:Int)<=i/\i<n:=by
 unfold ixN at h;by_cases h0:0<=i
 .rw[if_pos h0]at h;by_cases h1:i<n
  .rw[if_pos h1]at h;have e:i.toNat=j:=Option.some.inj h;exact⟨by rw[seqIndex_of h0 h1,e],by lia,by lia,h1⟩
  .rw[if_neg h1]at h;cases h
 .rw[if_neg h0]at h;by_cases h1:-(n:Int)<=i
  .rw[if_pos h1]at h;have e:(i+n).toNat=j:=Option.some.inj h;exact⟨by rw[seqIndex_neg (by lia) h1,e],by lia,h1,by lia⟩
  .rw[if_neg h1]at h;cases h
theorem ND{α:Type}{xs:List α}{i:Int}{v:α}(h:atI xs i=some v):∃j,seqIndex? i xs.length=some j/\xs[j]?=some v/\j<xs.length/\-(xs.length:Int)<=i/\i<xs.length:=by
 unfold atI at h;cases e:ixN xs.length i with
 |none=>rw[e]at h;cases h
 |some j =>
  rw[e]at h;obtain⟨h1,h2,h3,h4⟩:=Ny e;exact⟨j,h1,h,h2,h3,h4⟩
theorem Gn{α:Type}{xs:List α}{j:Nat}{v:α}(h:xs[j]?=some v):atI xs (j:Int)=some v:=by
 have hj:j<xs.length:=(List.getElem?_eq_some_iff.mp h).1;have e:ixN xs.length (j:Int)=some j:=by
  unfold ixN;rw[if_pos (by lia),if_pos (by lia)];simp
 unfold atI;rw[e];exact h
def R9(b:Expr):Prop:=∀o i,subscripted b false o i=operate [o,i] (getItem o i)
def IxR(X:Cx)(r:R2):Prop :=
 ∀(value slice:Expr)(pins:PNz)(s:Shared)(σ:St)(H:Hp)(x y:V)(v u:Value)(Q:VK),Inv X pins σ H s->RelV x v->RelV y u->r x y H Q ->
  subscripted slice false v u=operate [v,u] (getItem v u)->wpAny (model X.prog X.w) X.A (subscriptTail value slice v u) (EP X pins σ Q) X.xe s
def MtR(X:Cx)(id:String)(r:V->LUz->Hp->VK->Prop):Prop :=
 ∀(pins:PNz)(s:Shared)(σ:St)(H:Hp)(x:V)(xs:LUz)(v:Value)(us:LWz)(Q:VK),Inv X pins σ H s->RelV x v->Vals xs us->r x xs H Q ->
  wpAny (model X.prog X.w) X.A (call (.builtin id) (v::us)) (EP X pins σ Q) X.xe s
section
variable{X:Cx}{a b:Expr}{ta tb:TE}{pos:Pos}
theorem Al{r:R2}(hr:IxR X r)(ha:PE X a ta)(hb:PE X b tb)(hs:R9 b):PE X (.Subscript a b pos) (tOp r ta tb):=by
 intro pins s σ H Q I h;exact Subscript_ (SL ha hb I h λ v u s2 x y H2 I2 rx ry q=>hr a b pins s2 σ H2 x y v u Q I2 rx ry q (hs _ _))
inductive Ul(K:Frag)(x y:V)(H:Hp)(Q:VK):Prop
 |mk (p:Addr) (xs:LUz) (i:Int) (v:V) (e1:x=.ref p) (e2:y=.int i) (s:SqL K H p xs) (a:atI xs i=some v) (q:Q v H):Ul K x y H Q
inductive Uk(K:Frag)(x y:V)(H:Hp)(Q:VK):Prop
 |mk (p:Addr) (xs:LUz) (i:Int) (v:V) (e1:x=.ref p) (e2:y=.int i) (s:SqT K H p xs) (a:atI xs i=some v) (q:Q v H):Uk K x y H Q
def UB(K:Frag):R2:=λ x y H Q=>Ul K x y H Q
def Sy(K:Frag):R2:=λ x y H Q=>Uk K x y H Q
theorem AD:IxR X (UB X.K):=by
 intro value slice pins s σ H x y v u Q I rx ry h hs;obtain⟨p,xs,i,z,rfl,rfl,hq,he,q⟩:=h;cases rx;obtain⟨t,rfl⟩:=ry;obtain⟨its,r,pl,hz⟩:=I.list hq;obtain⟨j,h1,h2,h3,h4,h5⟩:=ND he;obtain⟨w,ew,rw'⟩:=r.get h2;have hl:=r.length;have hn:=GY;have fin:EP X pins σ Q w s:=⟨z,H,I,rw',q⟩;by_cases h0:0<=i
 .have hj:i.toNat=j:=by
   rw[seqIndex_of h0 h5]at h1;exact Option.some.inj h1
  exact item_listR pl.isList h0 (by lia) (by rw[hj];simpa using ew) fin hs
 .have hj:(i+(its.toArray.size:Int)).toNat=j:=by
   rw[seqIndex_neg (by lia) h4]at h1;rw[List.size_toArray,<-hl];exact Option.some.inj h1
  exact subscriptTail_builtinR (x:=w) pl.isList.typeIs slot_list_getitem.lookup
   (wpAny_getItem_list_neg (Q:=λ r s'=>r=w/\EP X pins σ Q r s') pl.isList (by lia) (by rw[List.size_toArray]<;>lia) (by lia) (by rw[hj];simpa using ew) ⟨rfl,fin⟩) hs
theorem Am:IxR X (Sy X.K):=by
 intro value slice pins s σ H x y v u Q I rx ry h hs;obtain⟨p,xs,i,z,rfl,rfl,hq,he,q⟩:=h;cases rx;obtain⟨t,rfl⟩:=ry;obtain⟨its,r,pl,hz⟩:=I.tuple hq;obtain⟨j,h1,h2,h3,h4,h5⟩:=ND he;obtain⟨w,ew,rw'⟩:=r.get h2;have hl:=r.length;have hn:=GY;have fin:EP X pins σ Q w s:=⟨z,H,I,rw',q⟩;exact subscriptTail_builtinR (x:=w) pl.typeIs slot_tuple_getitem.lookup
  (getItem_tuple (j:=j) (Q:=λ r s'=>r=w/\EP X pins σ Q r s') pl (by lia) (by lia) (by rw[List.size_toArray,<-hl];exact h1) (by simpa using ew) ⟨rfl,fin⟩) hs
theorem Mp(its:LWz)(n j:Nat)(u:Value):Obj.mapSeq (·.setIfInBounds j u) { cls:=.type "list",data:=.seq its.toArray n }={ cls:=.type "list",data:=.seq (its.set j u).toArray n }:=by
 simp[Obj.mapSeq]
theorem Inv.lst{pins:PNz}{σ:St}{H:Hp}{s:Shared}{p:Addr}{xs:LUz}(I:Inv X pins σ H s)(h:H p=some (.lst xs)) :
  ∃(its:LWz)(n:Nat),Vals xs its/\s.heap.get? p=some { cls:=.type "list",data:=.seq its.toArray n }/\xs.length<=sizeLine:=by
 obtain⟨z,its,n,r,e⟩:=I.hok p _ h;exact⟨its,n,r,e,z⟩
theorem Inv.lstUpd{pins:PNz}{σ:St}{H:Hp}{s:Shared}{p:Addr}{xs ys:LUz}{its its':LWz}{n n':Nat}{f:Obj->Obj}(I:Inv X pins σ H s)(h:H p=some (.lst xs))
  (ho:s.heap.get? p=some { cls:=.type "list",data:=.seq its.toArray n }) (hf:f { cls:=.type "list",data:=.seq its.toArray n }={ cls:=.type "list",data:=.seq its'.toArray n' }) (r:Vals ys its') (hz:ys.length<=sizeLine) (t:Nat) :
  Inv X pins σ (upd H p (.lst ys)) { s with heap:=s.heap.update p f,toks:=t }:=by
 have e:(s.heap.update p f).get? p=some { cls:=.type "list",data:=.seq its'.toArray n' }:=by
  rw[Heap.get?_update_self f ho (by rw[hf]<;>rfl),hf]
 refine I.write (x:=p) (e:=p) (by rw[h];trivial) (.inl rfl) (λ b u hb q=>(Heap.get?_update_other _ _ (Ne.symm hb)).trans q) ⟨_,e⟩ ?_;exact⟨hz,its',n',r,e⟩
def Tt:V->V->V->Hp->(Hp->Prop)->Prop:=λ o i v H Q=>∃p xs k j,o=.ref p/\i=.int k/\H p=some (.lst xs)/\ixN xs.length k=some j/\Q (upd H p (.lst (xs.set j v)))
theorem Pd:Uh X Tt:=by
 intro pins s σ H o i v ov iv u Q I ro ri rv h;obtain⟨p,xs,k,j,rfl,rfl,hp,hj,q⟩:=h;cases ro;obtain⟨t,rfl⟩:=ri;obtain⟨its,n,r,ho,hz⟩:=I.lst hp;obtain⟨h1,h2,h3,h4⟩:=Ny hj;have hl:=r.length;have hn:=GY;have I':Inv X pins σ (upd H p (.lst (xs.set j v))) { s with heap:=s.heap.update p (Obj.mapSeq (·.setIfInBounds j u)) } :=
  I.lstUpd hp ho (Mp its n j u) (r.set rv j) (by rw[List.length_set];exact hz) s.toks
 by_cases h0:0<=k
 .have hk:k.toNat=j:=by
   rw[seqIndex_of h0 h4]at h1;exact Option.some.inj h1
  exact ki_setAt ho h0 (by lia) (by rw[List.size_toArray,<-hl];exact h4) (by rw[hk];exact⟨_,I',q⟩)
 .have hk:(k+(its.toArray.size:Int)).toNat=j:=by
   rw[seqIndex_neg (by lia) h3]at h1;rw[List.size_toArray,<-hl];exact Option.some.inj h1
  exact ki_setBack ho (by lia) (by rw[List.size_toArray,<-hl];exact h3) (by lia) (by rw[hk];exact⟨_,I',q⟩)
theorem JD(lo hi:Option Int)(n:Nat):(sliceBounds lo hi none n).1=((HT.sIx n 0 lo:Nat):Int)/\(sliceBounds lo hi none n).2.1=((HT.sIx n n hi:Nat):Int)/\(sliceBounds lo hi none n).2.2=1:=by
 refine⟨?_,?_,rfl⟩
 .cases lo with
  |none=>simp[sliceBounds,HT.sIx]
  |some i =>
   simp only[sliceBounds,HT.sIx,Option.getD_none,show(1:Int)>0 by decide,if_true];by_cases h:i<0
   .simp only[h,if_true]<;>lia
   .simp only[h,if_false]<;>lia
 .cases hi with
  |none=>simp[sliceBounds,HT.sIx]
  |some i =>
   simp only[sliceBounds,HT.sIx,Option.getD_none,show(1:Int)>0 by decide,if_true];by_cases h:i<0
   .simp only[h,if_true]<;>lia
   .simp only[h,if_false]<;>lia
theorem HX(its:LWz)(lo hi:Option Int):slicePick its.toArray lo hi none=((its.drop (HT.sIx its.length 0 lo)).take (HT.sIx its.length its.length hi-HT.sIx its.length 0 lo)).toArray:=by
 obtain⟨h1,h2,h3⟩:=JD lo hi its.toArray.size;unfold slicePick;rw[h1,h2,h3];simp only[sliceRange_one,pick_run,List.size_toArray]<;>rfl
def U8(K:Frag):V->Option Int->Option Int->Hp->VK->Prop:=λ x lo hi H Q=>∃a xs,x=.ref a/\SqL K H a xs/\∀p,H p=none->Q (.ref p) (upd H p (.lst (Lu xs lo hi)))
theorem Na:SlR X (U8 X.K):=by
 intro pins s σ H x v vl vu lo hi sl Q I rx hs pl pu h;obtain⟨a,xs,rfl,hx,q⟩:=h;cases rx;obtain⟨its,r,ht,hz⟩:=I.list hx;have hlen:=r.length;refine⟨"list",_,slot_list_getitem.lookup,ht.isList.typeIs,?_⟩;refine wpAny_getItem_list_slice ht.isList hs pl pu .none (by simp) ?_ (by rw[List.size_toArray]<;>lia);rw[HX,<-hlen];refine⟨.ref s.heap.objs.size,_,I.laid (t':=s.toks) (o:=.lst (Lu xs lo hi)) (λ b ob q=>Heap.get?_push_of_some _ q) (Nat.le_refl _) ?_,rfl,q _ (I.hok.fresh (Nat.le_refl _))⟩;exact⟨Nat.le_trans (Ls xs lo hi) hz,_,0,(r.drop (HT.sIx xs.length 0 lo)).take (HT.sIx xs.length xs.length hi-HT.sIx xs.length 0 lo),Heap.get?_push_size _ rfl⟩
def AA:V->Bool
 |.non=>true
 |.bl _=>true
 |.int _=>true
 |.str _=>true
 |_=>false
def eqV:V->V->Bool
 |.non,.non=>true
 |.bl a,.bl b=>a==b
 |.bl a,.int b=>(if a then 1 else 0)==b
 |.int a,.bl b=>a==(if b then 1 else 0)
 |.int a,.int b=>a==b
 |.str a,.str b=>a==b
 |_,_=>false
theorem M3{A:Around}{s:Shared}{y x:V}{u v:Value}(ry:RelV y u)(rx:RelV x v)(fy:AA y=true)(fx:AA x=true):SeqAt.EqAt A s u v (eqV y x):=by
 cases y with
 |non =>
  cases ry;cases x with
  |non=>cases rx;exact SeqAt.EqAt.same _
  |bl b=>cases rx;exact SeqAt.EqAt.none_bool b
  |int b=>obtain⟨t,rfl⟩:=rx;exact SeqAt.EqAt.none_int b t
  |str b=>obtain⟨t,rfl⟩:=rx;exact SeqAt.EqAt.none_str b t
  |_=>exact absurd (show false=true from fx) Bool.false_ne_true
 |bl a =>
  cases ry;cases x with
  |non=>cases rx;exact SeqAt.EqAt.bool_none a
  |bl b=>cases rx;exact SeqAt.EqAt.bool_bool a b
  |int b=>obtain⟨t,rfl⟩:=rx;exact SeqAt.EqAt.bool_int a b t
  |str b=>obtain⟨t,rfl⟩:=rx;exact SeqAt.EqAt.bool_str a b t
  |_=>exact absurd (show false=true from fx) Bool.false_ne_true
 |int a =>
  obtain⟨t',rfl⟩:=ry;cases x with
  |non=>cases rx;exact SeqAt.EqAt.int_none a t'
  |bl b=>cases rx;exact SeqAt.EqAt.int_bool a t' b
  |int b=>obtain⟨t,rfl⟩:=rx;exact SeqAt.EqAt.int_int a t' b t
  |str b=>obtain⟨t,rfl⟩:=rx;exact SeqAt.EqAt.int_str a t' b t
  |_=>exact absurd (show false=true from fx) Bool.false_ne_true
 |str a =>
  obtain⟨t',rfl⟩:=ry;cases x with
  |non=>cases rx;exact SeqAt.EqAt.str_none a t'
  |bl b=>cases rx;exact SeqAt.EqAt.str_bool a t' b
  |int b=>obtain⟨t,rfl⟩:=rx;exact SeqAt.EqAt.str_int a t' b t
  |str b=>obtain⟨t,rfl⟩:=rx;exact SeqAt.EqAt.str_str a t' b t
  |_=>exact absurd (show false=true from fx) Bool.false_ne_true
 |_=>exact absurd (show false=true from fy) Bool.false_ne_true
def eqU(x:V)(u:Value):Bool:=match u with
 |.none=>eqV .non x
 |.bool b=>eqV (.bl b) x
 |.int i _=>eqV (.int i) x
 |.str z _=>eqV (.str z) x
 |_=>false
theorem PZ{x y:V}{u:Value}(r:RelV y u)(f:AA y=true):eqU x u=eqV y x:=by
 cases y with
 |non=>cases r;rfl
 |bl b=>cases r;rfl
 |int i=>obtain⟨t,rfl⟩:=r;rfl
 |str z=>obtain⟨t,rfl⟩:=r;rfl
 |_=>exact absurd (show false=true from f) Bool.false_ne_true
theorem Kl{x:V}:∀{xs:LUz}{us:LWz},Vals xs us->xs.all AA=true->us.any (eqU x)=xs.any λ y=>eqV y x
 |_,_,.nil,_=>rfl
 |y::xs,u::us,.cons r t,f=>by
  rw[List.all_cons,Bool.and_eq_true]at f;rw[List.any_cons,List.any_cons,PZ r f.1,Kl t f.2]
theorem GW{A:Around}{s:Shared}{x:V}{v:Value}(rx:RelV x v)(fx:AA x=true):∀{xs:LUz}{us:LWz},Vals xs us->xs.all AA=true->∀u∈us,SeqAt.EqAt A s u v (eqU x u)
 |_,_,.nil,_=>λ u hu=>by cases hu
 |y::xs,u::us,.cons r t,f=>λ u' hu=>by
  rw[List.all_cons,Bool.and_eq_true]at f;rcases List.mem_cons.mp hu with rfl|hu
  .rw[PZ r f.1];exact M3 r rx f.1 fx
  .exact GW rx fx t f.2 u' hu
def inV(x:V)(xs:LUz):Bool:=xs.any λ y=>eqV y x
def rIn(K:Frag)(neg:Bool):R2:=λ x y H Q=>∃p xs,y=.ref p/\(SqL K H p xs\/SqT K H p xs)/\AA x=true/\xs.all AA=true/\Q (.bl (if neg then !inV x xs else inV x xs)) H
theorem Oi:OpR X (compareOp .In) (rIn X.K false):=by
 intro pins s σ H x y v u Q I rx ry h;obtain⟨p,xs,rfl,hq,fx,fs,q⟩:=h;cases ry;rcases hq with hq|hq
 .obtain⟨its,r,pl,hz⟩:=I.list hq;refine SeqAt.in_listAt (eqU x) pl.isList (λ w hw=>GW rx fx r fs w (by simpa using hw)) ⟨.bl _,H,I,rfl,?_⟩;rw[show its.toArray.any (eqU x)=its.any (eqU x) by simp,Kl r fs];exact q
 .obtain⟨its,r,pl,hz⟩:=I.tuple hq;refine SeqAt.in_tupleAt (eqU x) pl (λ w hw=>GW rx fx r fs w (by simpa using hw)) ⟨.bl _,H,I,rfl,?_⟩;rw[show its.toArray.any (eqU x)=its.any (eqU x) by simp,Kl r fs];exact q
theorem Ca:Da X (.builtin "len") (λ xs H Q=>∃p ys,xs=[.ref p]/\(SqL X.K H p ys\/SqT X.K H p ys)/\Q (.int ys.length) H):=by
 intro pins s σ H xs us Q I r h;obtain⟨p,ys,rfl,hq,q⟩:=h;obtain⟨u,rfl,rx⟩:=FD r;cases rx;have hn:=GY;rcases hq with hq|hq
 .obtain⟨its,r',pl,hz⟩:=I.list hq;have hlen:=r'.length;exact Calls.call_len_list pl.isList (by simp only[List.size_toArray]<;>lia) ⟨.int ys.length,H,I.tok _,⟨s.toks+1,by rw[List.size_toArray,hlen]⟩,q⟩
 .obtain⟨its,r',pl,hz⟩:=I.tuple hq;have hlen:=r'.length;exact len_tuple pl (by simp only[List.size_toArray]<;>lia) ⟨.int ys.length,H,I.tok _,⟨s.toks+1,by rw[List.size_toArray,hlen]⟩,q⟩
def tyV(K:Frag)(T:String)(x:V)(H:Hp):Prop:=match x with
 |.str _=>T="str"
 |.int _=>T="int"
 |.ref p=>(T="list"/\∃xs,SqL K H p xs)\/(T="tuple"/\∃o,K.lookup p=some o/\o.cls=.type "tuple"/\o.dict=none) \/
   (T="dict"/\((∃kvs,H p=some (.dK kvs))\/∃kvs,H p=some (.dT kvs)))\/(T="set"/\∃S n,H p=some (.set S n))
 |_=>False
theorem OQ{pins:PNz}{σ:St}{H:Hp}{s:Shared}{T:String}{x:V}{v:Value}(I:Inv X pins σ H s)(r:RelV x v)(ty:tyV X.K T x H) :
  s.TypeIs v T/\∀a,v=.ref a->∃ob,s.heap.get? a=some ob/\ob.dict=none:=by
 cases x with
 |str z =>
  obtain⟨t,rfl⟩:=r;cases(show T="str" from ty);exact⟨typeIs_str s z t,λ_ e=>nomatch e⟩
 |int i =>
  obtain⟨t,rfl⟩:=r;cases(show T="int" from ty);exact⟨typeIs_int s i t,λ_ e=>nomatch e⟩
 |ref p =>
  cases r;rcases ty with ⟨rfl,xs,hq⟩|⟨rfl,o,hk,hc,hd⟩|⟨rfl,hk⟩|⟨rfl,S,n,hk⟩
  .obtain⟨its,_,pl,_⟩:=I.list hq;refine⟨pl.isList.typeIs,λ a e=>?_⟩;cases e;obtain⟨o,n,e,c,hd,_⟩:=pl;exact⟨o,e,hd⟩
  .refine⟨⟨o,I.kIn p o hk,hc⟩,λ a e=>?_⟩;cases e;exact⟨o,I.kIn _ o hk,hd⟩
  .have z:∃o,s.heap.get? p=some o/\o.ExactDict:=by
    rcases hk with ⟨kvs,hk⟩|⟨kvs,hk⟩
    .obtain⟨_,_,_,_,o,_,_,e,ex,_⟩:=I.hok p _ hk;exact⟨o,e,ex⟩
    .obtain⟨_,_,_,_,o,_,_,e,ex,_⟩:=I.hok p _ hk;exact⟨o,e,ex⟩
   obtain⟨o,e,ex⟩:=z;refine⟨⟨o,e,ex.1⟩,λ a e2=>?_⟩;cases e2;exact⟨o,e,ex.2.1⟩
  .obtain⟨o,_,_,_,e,ex,_⟩:=I.hok p _ hk;refine⟨⟨o,e,ex.1⟩,λ a e2=>?_⟩;cases e2;exact⟨o,e,ex.2.1⟩
 |_=>exact False.elim ty
def U2(K:Frag)(T:String)(r:V->LUz->Hp->VK->Prop)(to:TE):TE:=λ σ H Q=>to σ H λ x H1=>tyV K T x H1/\r x [] H1 Q
def tBM(K:Frag)(T:String)(r:V->LUz->Hp->VK->Prop)(to:TE)(t:TA):TE:=λ σ H Q=>to σ H λ x H1=>tyV K T x H1/\t σ H1 λ xs H2=>r x xs H2 Q
variable{o e:Expr}{es:List Expr}{to:TE}{t:TA}{name:Str}{apos cpos:Pos}{T id:String}{r:V->LUz->Hp->VK->Prop}
theorem Ez(pa:PlainAttrs T)(slot:Slot T name id)(hty:typeOf (.builtin id)=pure (.type "method_descriptor"))(hm:MtR X id r)(ho:PE X o to)
  (hbase:attributeBase o name X.env (eval o X.env)=eval o X.env:=by rfl) (hline:(apos.endLine==cpos.line)=true:=by rfl):PE X (.Call (.Attribute o name apos) [] [] cpos) (U2 X.K T r to):=by
 intro pins s σ H Q I h;refine wpAny_Call_method0_late hbase hline (thn (ho pins s σ H _ I h) λ v s1 hz_=>?_);obtain⟨x,H1,I1,r1,ty,q1⟩:=hz_;obtain⟨h1,h2⟩:=OQ I1 r1 ty;exact⟨T,id,pa,slot,hty,h1,h2,Calls.callWith_builtin rfl (PySem.evalArgs_none (hm pins s1 σ H1 x [] v [] Q I1 r1 .nil q1))⟩
theorem DG(pa:PlainAttrs T)(slot:Slot T name id)(hty:typeOf (.builtin id)=pure (.type "method_descriptor"))(hm:MtR X id r)(ho:PE X o to)(ha:PA X (e::es) t)
  (hbase:attributeBase o name X.env (eval o X.env)=eval o X.env:=by rfl)
  (hfew:((backTo cpos (starEach (e::es) X.env)).all (λ x=>!x.1)&&(backToKw cpos (keywordEach [] X.env)).all (λ x=>x.1.isSome)
  &&decide ((e::es).length+([]:List Keyword).length+(if ([]:List Keyword).isEmpty then 0 else 1)<30))=true:=by rfl)
  (hline:(apos.endLine==cpos.line)=true:=by rfl) (hs:starEach (e::es) X.env=(false,eval e X.env)::starEach es X.env:=by rfl) (hplain:(backTo cpos (starEach es X.env)).any (·.1)=false:=by rfl) :
  PE X (.Call (.Attribute o name apos) (e::es) [] cpos) (tBM X.K T r to t):=by
 intro pins s σ H Q I h;refine wpAny_Call_method_late hbase hfew hline rfl (thn (ho pins s σ H _ I h) λ v s1 hz_=>?_);obtain⟨x,H1,I1,r1,ty,q1⟩:=hz_;obtain⟨h1,h2⟩:=OQ I1 r1 ty;refine⟨T,id,pa,slot,hty,h1,h2,?_⟩;have hA:=ha cpos pins s1 σ H1 _ I1 q1;rw[hs]at hA |-;refine Calls.callWith_builtin (by show(false||(backTo cpos (starEach es X.env)).any (·.1))=false;rw[hplain]<;>rfl) (Calls.evalArgs_plain ?_);exact thn hA λ us s2 ⟨vs,H2,I2,r2,q2⟩=>hm pins s2 σ H2 x vs v us Q I2 r1 r2 q2
/- xs.append(e),list.index on a module's tuple .. are MtR facts of 06m -/
end
def MtM(X:Cx)(id:String)(r:V->LUz->Hp->VK->Prop):Prop :=
 ∀(pins:PNz)(s:Shared)(σ:St)(H:Hp)(x:V)(xs:LUz)(v:Value)(us:LWz)(Q:VK),Inv X pins σ H s->RelV x v->Vals xs us->r x xs H Q ->
  wpAny (model X.prog X.w) X.A (call (.builtin id) (v::us)) (EP X pins σ Q) X.xe s
theorem Vals.one:∀{x:V}{us:LWz},Vals [x] us->∃u,us=[u]/\RelV x u
 |_,_,.cons r .nil=>⟨_,rfl,r⟩
theorem Vals.zero:∀{us:LWz},Vals [] us->us=[]
 |_,.nil=>rfl
theorem Vals.dropLast{xs:LUz}{us:LWz}(h:Vals xs us):Vals xs.dropLast us.dropLast:=by
 induction h with
 |nil=>exact .nil
 |cons r t ih =>
  cases t with
  |nil=>exact .nil
  |cons q t'=>exact .cons r ih
theorem Vals.reverse{xs:LUz}{us:LWz}(h:Vals xs us):Vals xs.reverse us.reverse:=by
 induction h with
 |nil=>exact .nil
 |cons r t ih=>rw[List.reverse_cons,List.reverse_cons];exact Vals.append ih (.cons r .nil)
theorem M2{α:Type}(l:List α):l.eraseIdx (l.length-1)=l.dropLast:=by
 induction l with
 |nil=>rfl
 |cons a r ih =>
  cases r with
  |nil=>rfl
  |cons b r =>
   have e:(a::b::r).length-1=((b::r).length-1)+1:=by
    have h1:(a::b::r).length=r.length+2:=rfl;have h2:(b::r).length=r.length+1:=rfl;lia
   rw[e,List.eraseIdx_cons_succ,ih]
   all_goals rfl
section
variable{X:Cx}{pins:PNz}{σ:St}{H:Hp}{s:Shared}{l b:Addr}{xs ys zs:LUz}
theorem Inv.lset{its its':LWz}{n:Nat}{f:Array Value->Array Value}{t':Nat}(I:Inv X pins σ H s)(hH:H l=some (.lst xs))
  (e:s.heap.get? l=some { cls:=.type "list",data:=.seq its.toArray n }) (hf:f its.toArray=its'.toArray) (hv:Vals ys its') (hz:ys.length<=sizeLine) :
  Inv X pins σ (upd H l (.lst ys)) { s with heap:=s.heap.update l (Obj.mapSeq f),toks:=t' }:=by
 have q:=PySem.IsL.update e f;rw[hf]at q;refine I.write (x:=l) (e:=l) (by rw[hH];exact trivial) (.inl rfl) (λ b' u hb hu=>(Heap.get?_update_other s.heap (Obj.mapSeq f) (Ne.symm hb)).trans hu) ⟨_,q⟩ ?_;exact⟨hz,its',_,hv,q⟩
theorem Inv.lnew{its:LWz}{t':Nat}(I:Inv X pins σ H s)(hv:Vals ys its)(hz:ys.length<=sizeLine) :
  Inv X pins σ (upd H s.heap.objs.size (.lst ys)) { s with heap:=s.heap.push { cls:=.type "list",data:=.seq its.toArray },toks:=t' } :=
 I.laid (λ_ _ q=>Heap.get?_push_of_some _ q) (Nat.le_refl _) ⟨hz,its,0,hv,Heap.get?_push_size _ rfl⟩
theorem Inv.fresh(I:Inv X pins σ H s):H s.heap.objs.size=none:=I.hok.fresh (Nat.le_refl _)
theorem Inv.lstM(I:Inv X pins σ H s)(hH:H l=some (.lst xs)):xs.length<=sizeLine/\∃(its:LWz)(n:Nat),Vals xs its/\xs.length=its.length/\s.heap.get? l=some { cls:=.type "list",data:=.seq its.toArray n }:=by
 obtain⟨z,its,n,r,e⟩:=I.hok l _ hH;exact⟨z,its,n,r,r.length,e⟩
theorem P0{n:Nat}(h:n<=sizeLine):Builtin.List.listTooLong n=false:=by
 unfold Builtin.List.listTooLong;exact decide_eq_false (by lia)
end
section
variable{X:Cx}
def QK:V->LUz->Hp->VK->Prop:=λ x vs H Q=>∃l xs y,x=.ref l/\vs=[y]/\H l=some (.lst xs)/\xs.length<sizeLine/\Q .non (upd H l (.lst (xs++[y])))
theorem AX:MtM X "list.append" QK:=by
 intro pins s σ H x vs v us Q I rx rv h;obtain⟨l,xs,y,rfl,rfl,hH,hz,q⟩:=h;cases rx;obtain⟨u,rfl,ru⟩:=rv.one;obtain⟨z,its,n,r,hl,e⟩:=I.lstM hH;refine call_meets F.slot_list_append ⟨_,e,rfl⟩ F.entry_list_append (F.args_list_append_2 _ _) (PySem.list_append l its.toArray n u (by rw[List.size_toArray];lia)) ⟨e,?_⟩;refine⟨.non,_,I.lset (its':=its++[u]) hH e (by simp) (r.append (.cons ru .nil)) ?_,rfl,q⟩;rw[List.length_append,List.length_singleton];lia
def QJ:V->LUz->Hp->VK->Prop:=λ x vs H Q=>∃l b xs zs,x=.ref l/\vs=[.ref b]/\H l=some (.lst xs)/\H b=some (.lst zs)/\xs.length+zs.length<=sizeLine/\Q .non (upd H l (.lst (xs++zs)))
theorem Op:MtM X "list.extend" QJ:=by
 intro pins s σ H x vs v us Q I rx rv h;obtain⟨l,b,xs,zs,rfl,rfl,hH,hB,hz,q⟩:=h;cases rx;obtain⟨u,rfl,ru⟩:=rv.one;cases ru;obtain⟨z,its,n,r,hl,e⟩:=I.lstM hH;obtain⟨z2,its2,n2,r2,hl2,e2⟩:=I.lstM hB;have hsz:its.toArray.size+its2.toArray.size<=sizeLine:=by rw[List.size_toArray,List.size_toArray];lia
 have hlong:¬(!its.toArray.isEmpty&&Builtin.List.listTooLong (its.toArray.size+its2.toArray.size))=true:=by
  rw[P0 hsz,Bool.and_false];exact Bool.false_ne_true
 refine call_meets F.slot_list_extend ⟨_,e,rfl⟩ F.entry_list_extend (F.args_list_extend_2 _ _)
  (AutoSeq1.list_extend_list_list_0 l its.toArray n b its2.toArray n2 hlong (by rw[List.size_toArray];lia) (by lia)) ⟨e,e2,?_⟩
 refine⟨.non,_,I.lset (its':=its++its2) hH e (by simp) (r.append r2) ?_,rfl,q⟩;rw[List.length_append];lia
def U9:V->LUz->Hp->VK->Prop:=λ x vs H Q=>∃l xs y,x=.ref l/\vs=[]/\H l=some (.lst xs)/\xs[xs.length-1]?=some y/\Q y (upd H l (.lst xs.dropLast))
theorem E4:MtM X "list.pop" U9:=by
 intro pins s σ H x vs v us Q I rx rv h;obtain⟨l,xs,y,rfl,rfl,hH,hy,q⟩:=h;cases rx;have hus:=rv.zero;subst hus;obtain⟨z,its,n,r,hl,e⟩:=I.lstM hH;obtain⟨u,hu,ru⟩:=r.get hy;have hy':its.toArray[its.toArray.size-1]?=some u:=by
  show its.toArray[its.length-1]?=some u;rw[<-Array.getElem?_toList,<-hl];exact hu
 refine call_meets F.slot_list_pop ⟨_,e,rfl⟩ F.entry_list_pop (F.args_list_pop_1 _) (MeetsSeq.list_pop_last l its.toArray n u hy' (by rw[List.size_toArray];lia)) ⟨e,?_⟩;refine⟨y,_,I.lset (its':=its.dropLast) hH e ?_ r.dropLast ?_,ru,q⟩
 .show its.toArray.eraseIdxIfInBounds (its.toArray.size-1)=its.dropLast.toArray;rw[List.size_toArray,List.eraseIdxIfInBounds_toArray,M2]
 .rw[List.length_dropLast];lia
inductive Uo(x y:V)(H:Hp)(Q:VK):Prop
 |mk (l b:Addr) (xs zs:LUz) (e1:x=.ref l) (e2:y=.ref b) (h1:H l=some (.lst xs)) (h2:H b=some (.lst zs)) (n:xs.length+zs.length<=sizeLine) (q:∀p,H p=none->Q (.ref p) (upd H p (.lst (xs++zs)))):Uo x y H Q
def Tv:R2:=λ x y H Q=>Uo x y H Q
theorem Dn:OpR X (binaryOp .Add) Tv:=by
 intro pins s σ H x y v u Q I rx ry h;obtain⟨l,b,xs,zs,rfl,rfl,hH,hB,hz,q⟩:=h;cases rx;cases ry;obtain⟨z,its,n,r,hl,e⟩:=I.lstM hH;obtain⟨z2,its2,n2,r2,hl2,e2⟩:=I.lstM hB;refine PySem.P.add_list e e2 ?_ (by rw[List.size_toArray,List.size_toArray];lia);have ea:its.toArray++its2.toArray=(its++its2).toArray:=by simp
 rw[ea];exact⟨.ref _,_,I.lnew (t':=s.toks) (r.append r2) (by rw[List.length_append];lia),rfl,q _ I.fresh⟩
end
end L2
namespace Att
open PySem.W
open PySem PySem.Calls PyProof.Rows
theorem FV{P:Params}{h:Heap}:∀(ns:List Int)(vs:LWz),WellAll P h vs (ns.map WData.int)->IntsAre vs ns:=by
 intro ns
 induction ns with
 |nil =>
  intro vs w;rw[List.map_nil]at w;cases w;exact .nil
 |cons n ns ih =>
  intro vs w;rw[List.map_cons]at w;cases w with
  |cons a b =>
   cases a;exact .cons _ _ (ih _ b)
theorem NZ{l:OpenLaw}{n:Nat}(hn:l.most=some n){P:Params}{h:Heap}{args:List WData}{vals:LWz}
  (hpre:l.row.toRowW.claim.pre args=true) (hwl:WellAll P h vals args) :
  ∃a vs ns,vals=[Value.ref a]/\args=[WData.list (ns.map WData.int)]/\h.get? a=some { cls:=.type "list",data:=.seq vs.toArray }/\IntsAre vs ns/\ns.length<=n:=by
 have hsh:WShape.hasAll [] args [.list .int]=true:=(pre_splitW hpre).1;have hc:l.pre.holds [] { args:=args }=true:=(pre_splitW hpre).2;obtain⟨d,r,rfl,h1,h2⟩:=hasAllW_cons hsh;obtain rfl:=hasAllW_nil h2;obtain⟨xs,rfl,h3⟩:=hasW_list h1;obtain⟨ns,rfl⟩:=items_int h3;have hlen:ns.length<=n:=by
  unfold OpenLaw.pre at hc;have h4:(WTm.not (.lt (.lit (.int (n:Int))) (.len (.arg 0)))).holds [] { args:=[.list (ns.map .int)] }=true:=by
   have h4:=(holds_andW hc).1;rw[hn]at h4;exact h4
  have h5:=condW_of h4 (w_not (w_lt w_lit (w_len_list (w_arg rfl))));rw[List.length_map]at h5;refine Nat.le_of_not_lt λ q=>?_;have q':(n:Int)<((ns.length:Nat):Int):=by lia
  first
   | (rw[decide_eq_true q']at h5;exact absurd h5 (by decide))
   | (simp at h5;lia)
 cases hwl with
 |cons w1 w2 =>
  cases w2;cases w1 with
  |list ho hall=>exact⟨_,_,ns,rfl,rfl,ho,FV ns _ hall,hlen⟩
theorem Oe(l:OpenLaw)(args:List WData):l.row.toRowW.claim.post args (.bool true) args=true :=
 postW_of (r:=l.row.toRowW) (X:=(true==true))
  (show WShape.has [] (.bool true) .bool=true by first|rfl|decide|simp[WShape.has,WShape.arms,WShape.armsAll])
  (show(WTm.eq .res (.lit (.bool true))).value [] { args:=args,res:=some (.bool true),after:=args }=some (.bool (true==true)) from w_eq_bool (w_res rfl) w_lit) rfl
theorem attach_call{l:OpenLaw}{n:Nat}{q:Program}{loose:LSz}{XP:(MGz)->Heap->Prop}{YP:World->Heap->Prop}{d:DefRec}
  (hn:l.most=some n) (hdf:d.params.defaults=[])
  (call:∀(w:World)(s₀ s₁:Shared)(mg mb:MGz)(fa:Addr)(o:Obj)(pm cd doc:Value)(a:Addr)(vs:LWz)(ns:List Int),
   Ground q loose [] XP w s₀ mg mb s₁.heap->YP w s₁.heap ->
   s₁.heap.get? fa=some o->o.data=.func (docDef d.name d.params d.body d.scope pm cd doc)->s₁.heap.CodeRec cd d.name->mg d.name=some (.ref fa) ->
   s₁.heap.get? a=some { cls:=.type "list",data:=.seq vs.toArray }->IntsAre vs ns->ns.length<=n->s₁.gens=#[] ->
   codeAny (model l.prog w) callerA (.call (.ref fa) ⟨[.ref a],[]⟩) (λ r s'=>r=.ok (.ret (.bool true))/\OldK s₁.heap s'.heap/\s'.os=s₁.os/\AllBare s'.gens) s₁) :
  WalkO q loose XP YP l.row.toRowW d [] (λ f vs=>PySem.call f vs):=by
 intro w s₀ s₁ mg mb G Y fa o pm cd doc dV kV ho hd hcd hD hmg hg args vals as hpre hlay hrd hwl hlo;obtain rfl:dV=.none:=Dflts.none hD hdf;obtain rfl:kV=.none:=Dflts.noKw hD;obtain⟨a,vs,ns,rfl,rfl,hobj,hints,hlen⟩:=NZ hn hpre hwl;refine enter_call (codeAny_mono (call w s₀ s₁ mg mb fa o pm cd doc a vs ns G Y ho (fd_plain hd) hcd hmg hobj hints hlen hg) λ r s' hq=>?_);obtain⟨rfl,h2,h3,h4⟩:=hq;exact⟨.inl ⟨.bool true,.bool true,[],rfl,λ_=>rfl,.bool true,Oe l _,λ_=>⟨List.Pairwise.nil,λ_ hm=>(nomatch hm)⟩⟩,h2,h3,h4⟩
end Att
namespace L2
open PySem.W
open PySem PySem.Spec PyProof.Rows
theorem I9:∀{vs:LWz}{ns:List Int},IntsAre vs ns->Vals (ns.map V.int) vs
 |_,_,.nil=>.nil
 |_,_,.cons n t h=>.cons ⟨t,rfl⟩ (I9 h)
end L2
/- THE LAST THEOREM (shape;LID,My.* are yours):
  My.Adr: a structure of the addresses that your layer names (classes,functions);My.Txt K t: a structure (Prop) of the equations over K;
  My.txt_mk:{K} {implicit addresses ..} (e1:nsIn K mainGlobals "law"=some (some (.ref f))) (e2:K.lookup f=some ⟨oc,od,.func (fnOf "law" "law" params body scope dV kV doc pm an cdv ct),sl⟩) (e3:codeIn K cdv "law"=true) ..:∃t,My.Txt K t
set_option maxRecDepth 100000 in
set_option maxHeartbeats 0 in
theorem PySem.Challenge.cw_LID_holds:PySem.Challenge.rw_LID.Holds:=by
 w_on;o_law;k_head;(case hw=>w_witness2)
 k_fill
 refine L2.walk_of (l:=PySem.Challenge.rw_LID) (n:=63) (k:=40) (x:="script") (CX:=λ w=>..) (sp:=λ_=>My.sp_law) rfl (by decide) rfl ⟨rfl,by decide,by decide⟩ (λ w h Y=>kIn_of Y) ?F ?S ?C
 case F =>
  intro w mg fa h KX G hmg;have T:∃t,My.Txt (L2.KOf KX) t:=by
   dsimp only[L2.KOf]                          -- K must stand as «<heap const> w.params» for k_is;refine' My.txt_mk ?e1 ?e2 ?e3 ..
   (case e1=>k_is)                    -- in the order: a name -> its address -> its object -> its parts
   (case e2=>k_is)
   ..
  obtain⟨t,T⟩:=T;have e0:=hmg.symm.trans (mg_of KX G T.law);cases e0                                       -- fa is the law's own address;exact⟨_,λ s u=>.of_eq rfl,λ base kb nb=>My.law_fn T kb nb⟩     -- if «.of_eq rfl» comes too early: refine'⟨_,?b,λ base kb nb=>My.law_fn T kb nb⟩;exact λ s u=>.of_eq rfl
 case S=>exact λ w H a ns hl hO hS=>..
 case C=>exact ..
(the tactic k_is has no namespace: write k_is) -/
namespace L2
open PySem.W
open PySem PySem.Spec PyProof.Rows
def Be(s:Stmt)(j:Nat):Stmt:=match s with
 |.ClassDef _ _ _ body _ _ _ _ _ _ _=>body.getD j (.Pass ⟨0,0,0,0⟩)
 |_=>.Pass ⟨0,0,0,0⟩
def Bh(s:Stmt):Arguments:=match s with
 |.FunctionDef _ a _ _ _ _ _ _ _ _=>a
 |_=>{ posonlyargs:=[],args:=[],vararg:=none,kwonlyargs:=[],kw_defaults:=[],kwarg:=none,defaults:=[] }
def A7(s:Stmt):List Stmt:=match s with
 |.FunctionDef _ _ b _ _ _ _ _ _ _=>b
 |_=>[]
def Ag(s:Stmt):Scope:=match s with
 |.FunctionDef _ _ _ _ _ _ sc _ _ _=>sc
 |_=>{ kind:=.function,names:=[],isGenerator:=false,isCoroutine:=false }
abbrev CX0:CXT:=λ_ _ _ _ _ _=>False
abbrev E0:XK:=λ_ _ _=>False
theorem KI{X:Cx}:DP CX0 X E0:=λ_ _ _ _ _ _ _ h=>h.elim
structure Fun(K:Frag)(x qual:Str)(st:Stmt)(f:Addr)(fd:FuncData):Prop where
 ex:∃(oc:Value)(od:Option Addr)(kV doc pm:Value)(an:Option Addr)(cdv ct:Value)(osl:AOz),
  fd=fnOf x qual (Bh st) (A7 st) (Ag st) .none kV doc pm an cdv ct/\K.lookup f=some ⟨oc,od,.func fd,osl⟩/\codeIn K cdv qual=true
 kp:keepIn K (.ref f)=true
section
variable{P:Program}{w:World}{K:Frag}{mg:MGz}{base:Heap}
theorem Fun.ok{x qual:Str}{st:Stmt}{f:Addr}{fd:FuncData}{N ps:LSz}{k:Nat}{sp:Sp}(F:Fun K x qual st f fd)(S:An N ps (Ag st))(len:∀vs H Q E,sp vs H Q E->vs.length=ps.length)
  (hbody:∀(cdv:Value)(A:Around)(outer:List Env)(s:Shared)(H:Hp)(vs:LUz)(Q:VK)(E:XK),Room k (A.deeper (envOfC qual (Ag st) s.heap.objs.size f cdv))->sp vs H Q E ->
   ∃t,PSs (Bm CX0 P w K mg base N qual (Ag st) f cdv A outer s H E).nox (A7 st) t/\t { nx:=λ_ H'=>Q .non H',rt:=Q } (start N vs) H):A8 P w K mg base CX0 (k+1) f fd ps sp:=by
 obtain⟨oc,od,kV,doc,pm,an,cdv,ct,osl,rfl,lk,hcd⟩:=F.ex;refine Lp lk hcd S len λ A outer s H vs Q E hr hsp=>?_;obtain⟨t,h,q⟩:=hbody cdv A outer s H vs Q E hr hsp;exact⟨t,h.nox,q⟩
theorem Fun.binds{x qual:Str}{st:Stmt}{f:Addr}{fd:FuncData}{ps:LSz}(F:Fun K x qual st f fd)
  (h:∀(kV doc pm:Value)(an:Option Addr)(cdv ct:Value)(us:LWz),us.length=ps.length->bindArgs (fnOf x qual (Bh st) (A7 st) (Ag st) .none kV doc pm an cdv ct) ⟨us,[]⟩=pure (ps.zip us)):Binds K fd ps []:=by
 obtain⟨oc,od,kV,doc,pm,an,cdv,ct,osl,rfl,lk,hcd⟩:=F.ex;exact .all (h kV doc pm an cdv ct)
end
theorem TQ{A:Around}{k:Nat}(hr:Room k A):A.units+1<cLine:=Nat.lt_of_le_of_lt (Nat.add_le_add_left (by decide:1<=64) _) hr.units
theorem A0{n:Nat}(h:n<=1000):n<sizeLine:=Nat.lt_of_le_of_lt h (by decide)
section
variable{X:Cx}
theorem pv(i:Nat){x:Str}{pos:Pos}(hN:X.N[i]?=some x:=by rfl)(hv:Vis X.env.scope x:=by first|exact Or.inl rfl|exact Or.inr (Or.inl rfl)|exact Or.inr (Or.inr rfl))(hd:(x==("__debug__":Str))=false:=by decide)
  (hcd:(x==("__classdict__":Str))=false:=by decide):PE X (.Name x pos) (Sl i):=S3 hN hv hd hcd
end
theorem Ll{A B:Prop}(h:B):if false=true then A else B:=by
 rw[if_neg Bool.false_ne_true];exact h
theorem PC{A B:Prop}(h:A):if true=true then A else B:=by
 rw[if_pos rfl];exact h
def Same(H H':Hp):Prop:=∀b o,H b=some o->H' b=some o
theorem Same.refl(H:Hp):Same H H:=λ_ _ h=>h
theorem Same.trans{H H1 H2:Hp}(a:Same H H1)(b:Same H1 H2):Same H H2:=λ c o h=>b c o (a c o h)
theorem Same.seq{K:Frag}{H H':Hp}{a:Addr}{xs:LUz}(e:Same H H')(h:SqL K H a xs):SqL K H' a xs:=by
 rcases h with (h|⟨o,h⟩)|h
 .exact .inl (.inl (e _ _ h))
 .exact .inl (.inr ⟨o,e _ _ h⟩)
 .exact .inr h
end L2
set_option maxHeartbeats 4000000
namespace L2
open PySem.W
open PySem PyProof.Rows
def IQ{α β:Type}(oS:Program->LSz->LSz->(Shared->Bool)->Bool->Shared->α)(ms:LSz)(p q:Program)(lo:LSz)(Xt:Shared->Bool)(Yf:Shared->β)(h0:Heap)(s:Shared):Bool×α×β :=
 ((((staticsOk ms h0 s.heap&&namesBound p s.heap)&&gensDone s)&&laidKept h0 s.heap),oS q lo ms Xt true s,Yf s)
noncomputable abbrev DO(P:Params)(os:OsState):Shared:=Shared.mk (boot_heap P) (Array.mk []) boot_drawn boot_toks os
theorem Ot{p q:Program}{lo:LSz}{Xt:Shared->Bool}{β:Type}{Yf:Shared->β}{Ya:World->β}{N m:Nat}{an:Option Value}
  (bo:∀w:World,Option.map (λ s=>(s.heap,s.gens,s.drawn,s.toks)) (fencedOpening treeTable p w N)=some (boot_heap w.params,Array.mk [],boot_drawn,boot_toks))
  (sz:∀w:World,((boot_heap w.params).isNs mainGlobals,(boot_heap w.params).objs.size,(boot_heap w.params).nsMap mainGlobals "__annotations__")=(true,m,an))
  (rn:∀(w:World)(os:OsState),Option.map (IQ openSeen (importedModules p.main.body) p q lo Xt Yf (boot_heap w.params)) (topRun treeTable p w m an N (DO w.params os) (topStub p))=some (true,openGood q lo,Ya w)) :
  LeftO p q lo Xt Yf Ya N:=by
 intro w;obtain⟨s0,e0,e1⟩:=Option.map_eq_some_iff.mp (bo w);obtain⟨hp,gs,dr,tk,os⟩:=s0;simp only[Prod.mk.injEq]at e1;obtain⟨rfl,rfl,rfl,rfl⟩:=e1;have z:=sz w;simp only[Prod.mk.injEq]at z;obtain⟨z1,z2,z3⟩:=z;obtain⟨s1,r1,r2⟩:=Option.map_eq_some_iff.mp (rn w os);unfold IQ at r2;simp only[Prod.mk.injEq]at r2;obtain⟨l1,l2,l3⟩:=r2;have tf:topFrom treeTable p w N (DO w.params os)=some s1:=by
  unfold topFrom;dsimp only;rw[z1,z2,z3];show Option.bind (topRun treeTable p w m an N (DO w.params os) (topStub p)) _=_;rw[r1];show(match (((staticsOk (importedModules p.main.body) (boot_heap w.params) s1.heap&&namesBound p s1.heap)&&gensDone s1)&&laidKept (boot_heap w.params) s1.heap) with|true=>some s1|false=>none)=_;rw[l1]
 unfold openEnds;rw[e0];show Option.map _ (topFrom treeTable p w N (DO w.params os))=_;rw[tf];exact congrArg some (Prod.ext l2 l3)
def OT:List Obj->Nat->BT->BT
 |[],_,t=>t
 |o::r,i,t=>OT r (i+1) (t.ins i o)
def Db(ok:Thread->Bool)(stp:SharedT->Thread->Option (SharedT×Thread)):Nat->SharedT->Thread->Option SharedT
 |0,_,_=>none
 |n+1,s,t=>match through t with
  |true=>some s
  |false=>match ok t with
   |false=>none
   |true=>match stp s t with
    |some (s1,t1)=>Db ok stp n s1 t1
    |none=>none
theorem Gr{tb:String->Option Builtin}{p:Program}{w:World}{m:Nat}{an:Option Value}:∀{n:Nat}{s s1:SharedT}{t:Thread},Db (stepOk m an) (stepT (denote tb) p w) n s t=some s1->topRun tb p w m an n s.abs t=some s1.abs
 |0,_,_,_,h=>by cases h
 |n+1,s,s1,t,h=>by
  rw[Db]at h;rw[topRun];cases ht:through t with
  |true=>rw[ht]at h;cases h;rfl
  |false =>
   rw[ht]at h;cases hk:stepOk m an t with
   |false=>rw[hk]at h;cases h
   |true =>
    rw[hk]at h;cases hs:stepT (denote tb) p w s t with
    |none=>rw[hs]at h;cases h
    |some r =>
     obtain⟨s2,t2⟩:=r;rw[hs]at h;rw[stepT_spec hs];exact Gr h
noncomputable def TX(P:Params):BT:=OT (boot_heap P).objs.toList 0 .nil
noncomputable def Fd(P:Params)(os:OsState):SharedT:=SharedT.mk (TX P) 11 (boot_heap P).life (Array.mk []) boot_drawn boot_toks os
theorem Qm(P:Params)(os:OsState):(Fd P os).abs=DO P os:=by kernel_rfl
theorem Sx{p q:Program}{lo ms:LSz}{Xt:Shared->Bool}{α β:Type}{Yf:Shared->β}{N m:Nat}{an:Option Value}{w:World}{os:OsState}{r:Bool×α×β}{oS:Program->LSz->LSz->(Shared->Bool)->Bool->Shared->α}
  (h:Option.map (λ s=>IQ oS ms p q lo Xt Yf (boot_heap w.params) (SharedT.abs s)) (Db (stepOk m an) (stepT (denote treeTable) p w) N (Fd w.params os) (topStub p))=some r) :
  Option.map (IQ oS ms p q lo Xt Yf (boot_heap w.params)) (topRun treeTable p w m an N (DO w.params os) (topStub p))=some r:=by
 obtain⟨s,e,z⟩:=Option.map_eq_some_iff.mp h;have e:=Gr e;rw[Qm]at e;rw[e];exact congrArg some z
theorem TD{σ α β:Type}{r:Option σ}{f:σ->Bool}{g:σ->α}{k:σ->β}{a:α}{b:β}(h1:r.map f=some true)(h2:r.map g=some a)(h3:r.map k=some b):r.map (λ s=>(f s,g s,k s))=some (true,a,b):=by
 cases r with
 |none=>cases h1
 |some s =>
  have e1:=Option.some.inj h1;have e2:=Option.some.inj h2;have e3:=Option.some.inj h3;exact congrArg some (Prod.ext e1 (Prod.ext e2 e3))
def TC(ms:LSz)(p:Program)(h0:Heap)(s:Shared):Bool:=(((staticsOk ms h0 s.heap&&namesBound p s.heap)&&gensDone s)&&laidKept h0 s.heap)
def Ug(N m:Nat)(an:Option Value){p p':Program}{sT:(Code->Sem Fin)->Program->World->SharedT->Thread->Option (SharedT×Thread)}{dn:(String->Option Builtin)->Code->Sem Fin}{tT:String->Option Builtin}{iM:List Stmt->LSz}{oS:∀(q:Program)(lo ms:LSz)(Xt:Shared->Bool)(g0:Bool)(s:Shared),_}(h1:@stepT=sT)(h0:@denote=dn)(h2:treeTable=tT)(h3:@importedModules=iM)(h4:@openSeen=oS)(h5:p=p'):Prop:=∀(w:World)(os:OsState),Option.map (λ s=>TC (iM p'.main.body) p' (boot_heap w.params) (SharedT.abs s)) (Db (stepOk m an) (sT (dn tT) p' w) N (Fd w.params os) (topStub p'))=some true
def Uf(N m:Nat)(an:Option Value)(q:Program->Program)(lo:LSz)(Xt:Program->Shared->Bool){p p':Program}{sT:(Code->Sem Fin)->Program->World->SharedT->Thread->Option (SharedT×Thread)}{dn:(String->Option Builtin)->Code->Sem Fin}{tT:String->Option Builtin}{iM:List Stmt->LSz}{oS:∀(q:Program)(lo ms:LSz)(Xt:Shared->Bool)(g0:Bool)(s:Shared),_}(h1:@stepT=sT)(h0:@denote=dn)(h2:treeTable=tT)(h3:@importedModules=iM)(h4:@openSeen=oS)(h5:p=p'):Prop:=∀(w:World)(os:OsState),Option.map (λ s=>oS (q p') lo (iM p'.main.body) (Xt p') true (SharedT.abs s)) (Db (stepOk m an) (sT (dn tT) p' w) N (Fd w.params os) (topStub p'))=some (openGood (q p') lo)
def Ue(N m:Nat)(an:Option Value){β:Type}(Yf:Shared->β)(Ya:World->β){p p':Program}{sT:(Code->Sem Fin)->Program->World->SharedT->Thread->Option (SharedT×Thread)}{dn:(String->Option Builtin)->Code->Sem Fin}{tT:String->Option Builtin}{iM:List Stmt->LSz}{oS:∀(q:Program)(lo ms:LSz)(Xt:Shared->Bool)(g0:Bool)(s:Shared),_}(h1:@stepT=sT)(h0:@denote=dn)(h2:treeTable=tT)(h3:@importedModules=iM)(h4:@openSeen=oS)(h5:p=p'):Prop:=∀(w:World)(os:OsState),Option.map (λ s=>Yf (SharedT.abs s)) (Db (stepOk m an) (sT (dn tT) p' w) N (Fd w.params os) (topStub p'))=some (Ya w)
theorem QG{q:Program->Program}{lo:LSz}{Xt:Program->Shared->Bool}{β:Type}{Yf:Shared->β}{Ya:World->β}{N m:Nat}{an:Option Value}{p p':Program}{sT:(Code->Sem Fin)->Program->World->SharedT->Thread->Option (SharedT×Thread)}{dn:(String->Option Builtin)->Code->Sem Fin}{tT:String->Option Builtin}{iM:List Stmt->LSz}{oS:∀(q:Program)(lo ms:LSz)(Xt:Shared->Bool)(g0:Bool)(s:Shared),_}{h1:@stepT=sT}{h0:@denote=dn}{h2:treeTable=tT}{h3:@importedModules=iM}{h4:@openSeen=oS}{h5:p=p'}
  (rA:Ug N m an h1 h0 h2 h3 h4 h5) (rB:Uf N m an q lo Xt h1 h0 h2 h3 h4 h5) (rC:Ue N m an Yf Ya h1 h0 h2 h3 h4 h5) :
  ∀(w:World)(os:OsState),Option.map (IQ openSeen (importedModules p.main.body) p (q p) lo (Xt p) Yf (boot_heap w.params)) (topRun treeTable p w m an N (DO w.params os) (topStub p))=some (true,openGood (q p) lo,Ya w):=by
 subst h1 h0 h2 h3 h4 h5;exact λ w os=>Sx (TD (rA w os) (rB w os) (rC w os))
open PySem.Spec
def hookT(K:Hook)(Ts:List Addr):Hook :=
 ⟨K.α×List (Option Obj),λ s=>(K.obs s,Ts.map λ T=>s.heap.get? T),λ w=>(K.val w,Ts.map λ_=>some (tabObj #[])),λ w h=>K.says w h/\∀T∈Ts,h.get? T=some (tabObj #[]),
  λ w s e=>⟨K.of w s (Prod.mk.inj e).1,λ T hT=>by
   have e2:=(Prod.mk.inj e).2;have:=List.map_eq_map_iff.mp e2 T hT;exact this⟩,λ w h h' x k=>⟨K.keeps w h h' x.1 k,λ T hT=>k _ _ (x.2 T hT)⟩⟩
end L2
namespace KH
open PySem.W
open PySem PyProof.Rows L2
noncomputable def top(i:Nat):Stmt:=PySem.Challenge.pw_glazebench_k34_forms_refused.main.body.getD i (.Pass ⟨0,0,0,0⟩)
noncomputable def kE(P:Params)(x:Str)(t:Tok)(v:Value):DictEntry:=⟨PyData.keyHash P x,.str x t,v⟩
noncomputable abbrev fo(a b:Str)(e:Stmt)(d m:Value)(c:Addr):Obj:=⟨(.type "function"),none,(.func (fnOf a b (Bh e) (A7 e) (Ag e) d .none .none m none (.ref c) .none)),#[]⟩
noncomputable abbrev cp(a b:Str)(t u v:Tok)(l n:Int)(r:Addr)(i:Int)(p:Addr)(q x y:Value)(j k:Int)(z:Tok):Obj:=⟨(.type "code"),none,(.fields #[(.str a t),(.str b u),(.str "/claim/cut.py" v),(.int l 0),(.int n 0),(.int (0) 0),(.int (0) 0),(.int (3) 0),(.ref r),(.bool true),(.int i 0),(.ref p),.none,q,x,y,(.int j 0),(.int k 0),(.str "/claim/cut.py" z)]),#[]⟩
noncomputable abbrev co(a b:Str)(t u v:Tok)(l n:Int)(r:Addr)(i:Int)(p q x y:Addr)(j k:Int)(z:Tok):Obj:=⟨(.type "code"),none,(.fields #[(.str a t),(.str b u),(.str "/claim/cut.py" v),(.int l 0),(.int n 0),(.int (0) 0),(.int (0) 0),(.int (3) 0),(.ref r),(.bool true),(.int i 0),(.ref p),.none,(.ref q),(.ref x),(.ref y),(.int j 0),(.int k 0),(.str "/claim/cut.py" z)]),#[]⟩
noncomputable def KK:Params->Frag:=λ P=>(nat_lit 2,⟨.none,none,(.dict #[] 0),#[]⟩)::(nat_lit 3,⟨(.type "dict"),none,(.dict #[kE P "__name__" 165 (.str "law_glazebench_k34_forms_refused" 727),kE P "__doc__" 166 .none,kE P "__package__" 167 .none,kE P "__loader__" 168 (.builtin "__main__.__loader__#opaque"),kE P "__spec__" 169 .none,kE P "__annotations__" 170 (.ref 6),kE P "__builtins__" 171 (.ref 4),kE P "__file__" 173 (.str "/claim/cut.py" 172),kE P "__cached__" 174 .none,kE P "_wall" 193 (.ref 21),kE P "GlassError" 213 (.ref 31),kE P "NoSide" 238 (.ref 51),kE P "NoCut" 263 (.ref 70),kE P "NoMove" 288 (.ref 89),kE P "Unlike" 304 (.ref 101),kE P "LONGEST_SIDE" 308 (.int (12) 307),kE P "is_whole" 315 (.ref 110),kE P "is_side" 322 (.ref 117),kE P "inside" 331 (.ref 124),kE P "check_sides" 340 (.ref 131),kE P "WHOLE" 344 (.str "whole" 343),kE P "UPRIGHT" 346 (.str "upright" 345),kE P "LEVEL" 348 (.str "level" 347),kE P "Tree" 405 (.ref 174),kE P "Whole" 430 (.ref 196),kE P "Upright" 459 (.ref 215),kE P "Level" 488 (.ref 234),kE P "kind_of" 495 (.ref 243),kE P "entry_of" 503 (.ref 250),kE P "entries_of" 513 (.ref 257),kE P "cut_from" 523 (.ref 264),kE P "tree_from" 535 (.ref 271),kE P "entries_by" 547 (.ref 278),kE P "check_cut" 557 (.ref 285),kE P "first_piece" 566 (.ref 292),kE P "other_piece" 575 (.ref 299),kE P "cut_out" 589 (.ref 306),kE P "pieces" 598 (.ref 313),kE P "TOP" 602 (.int (0) 601),kE P "LEFT" 604 (.int (1) 603),kE P "line_breaks" 613 (.ref 320),kE P "goes_through" 619 (.ref 325),kE P "lines_through" 625 (.ref 330),kE P "ROOM" 629 (.str "room" 628),kE P "entry_for" 635 (.ref 335),kE P "cut_up" 644 (.ref 342),kE P "form" 655 (.ref 349),kE P "alike" 665 (.ref 356),kE P "LEAN" 669 (.str "lean" 668),kE P "BACK" 671 (.str "back" 670),kE P "CROSS" 673 (.str "cross" 672),kE P "moves_up" 684 (.ref 363),kE P "ahead_of" 694 (.ref 370),kE P "behind_of" 704 (.ref 377),kE P "moves_to" 716 (.ref 384),kE P "led" 726 (.ref 391),kE P "_law_cell" 736 (.ref 398),kE P "_law_draw" 746 (.ref 405),kE P "_law_state" 754 (.ref 412),kE P "_law_pick" 763 (.ref 419),kE P "_law_tree" 776 (.ref 426),kE P "_law_made" 783 (.ref 433),kE P "_law_whole" 790 (.ref 440),kE P "_law_told" 800 (.ref 447),kE P "_law_pieces" 814 (.ref 454),kE P "_law_through" 820 (.ref 459),kE P "_law_parted" 826 (.ref 464),kE P "_law_recut" 843 (.ref 471),kE P "_law_low" 853 (.ref 478),kE P "_law_side" 860 (.ref 485),kE P "_law_no_side" 867 (.ref 492),kE P "_law_no_cut" 881 (.ref 499),kE P "_law_due" 895 (.ref 506),kE P "_law_free" 907 (.ref 513),kE P "_law_asked" 920 (.ref 520),kE P "law" 926 (.ref 525)] 76),#[]⟩)::(nat_lit 20,co "_wall" "_wall" 187 188 189 1 1 15 181 16 17 18 19 191 1 192)::(nat_lit 21,fo "_wall" "_wall" (top 0) .none (.str "__main__" 164) 20)::(nat_lit 30,⟨(.type "dict"),none,(.dict #[kE P "__module__" 203 (.str "glazebench.errors" 194),kE P "__firstlineno__" 207 (.int (5) 206),kE P "__static_attributes__" 208 (.ref 29),kE P "__weakref__" 210 (.ref 32),kE P "__doc__" 211 .none] 3),#[]⟩)::(nat_lit 31,⟨(.type "type"),none,(.cls { name:="GlassError",bases:=[(.type "ValueError")],mro:=[(.ref 31),(.type "ValueError"),(.type "Exception"),(.type "BaseException"),(.type "object")],ns:=30,qualname:="GlassError",hasDict:=true,slotNames:=[],subclasses:=[(.ref 51),(.ref 70),(.ref 89),(.ref 101)],abstract:=false,collection:=none,hasDel:=false }),#[some (.ref 22),none,some (.str "GlassError" 196),some (.str "GlassError" 204),some (.builtin "ValueError.__new__"),some (.bool true)]⟩)::(nat_lit 32,⟨(.type "getset_descriptor"),none,(.fields #[(.str "__weakref__" 209),(.ref 31),(.builtin "ExceptionGroup.__weakref__"),.none]),#[]⟩)::(nat_lit 47,co "__init__" "NoSide.__init__" 226 227 228 9 2 42 181 43 44 45 46 231 9 232)::(nat_lit 48,fo "__init__" "NoSide.__init__" (Be (top 3) 0) .none (.str "glazebench.errors" 194) 47)::(nat_lit 50,⟨(.type "dict"),none,(.dict #[kE P "__module__" 221 (.str "glazebench.errors" 194),kE P "__firstlineno__" 225 (.int (7) 224),kE P "__init__" 233 (.ref 48),kE P "__static_attributes__" 235 (.ref 49),kE P "__doc__" 236 .none] 2),#[]⟩)::(nat_lit 51,⟨(.type "type"),none,(.cls { name:="NoSide",bases:=[(.ref 31)],mro:=[(.ref 51),(.ref 31),(.type "ValueError"),(.type "Exception"),(.type "BaseException"),(.type "object")],ns:=50,qualname:="NoSide",hasDict:=true,slotNames:=[],subclasses:=[],abstract:=false,collection:=none,hasDel:=false }),#[some (.ref 35),none,some (.str "NoSide" 214),some (.str "NoSide" 222),some (.builtin "ValueError.__new__"),some (.bool true)]⟩)::(nat_lit 66,co "__init__" "NoCut.__init__" 251 252 253 13 2 61 181 62 63 64 65 256 13 257)::(nat_lit 67,fo "__init__" "NoCut.__init__" (Be (top 4) 0) .none (.str "glazebench.errors" 194) 66)::(nat_lit 69,⟨(.type "dict"),none,(.dict #[kE P "__module__" 246 (.str "glazebench.errors" 194),kE P "__firstlineno__" 250 (.int (11) 249),kE P "__init__" 258 (.ref 67),kE P "__static_attributes__" 260 (.ref 68),kE P "__doc__" 261 .none] 2),#[]⟩)::(nat_lit 70,⟨(.type "type"),none,(.cls { name:="NoCut",bases:=[(.ref 31)],mro:=[(.ref 70),(.ref 31),(.type "ValueError"),(.type "Exception"),(.type "BaseException"),(.type "object")],ns:=69,qualname:="NoCut",hasDict:=true,slotNames:=[],subclasses:=[],abstract:=false,collection:=none,hasDel:=false }),#[some (.ref 54),none,some (.str "NoCut" 239),some (.str "NoCut" 247),some (.builtin "ValueError.__new__"),some (.bool true)]⟩)::(nat_lit 85,co "__init__" "NoMove.__init__" 276 277 278 17 2 80 181 81 82 83 84 281 17 282)::(nat_lit 86,fo "__init__" "NoMove.__init__" (Be (top 5) 0) .none (.str "glazebench.errors" 194) 85)::(nat_lit 88,⟨(.type "dict"),none,(.dict #[kE P "__module__" 271 (.str "glazebench.errors" 194),kE P "__firstlineno__" 275 (.int (15) 274),kE P "__init__" 283 (.ref 86),kE P "__static_attributes__" 285 (.ref 87),kE P "__doc__" 286 .none] 2),#[]⟩)::(nat_lit 89,⟨(.type "type"),none,(.cls { name:="NoMove",bases:=[(.ref 31)],mro:=[(.ref 89),(.ref 31),(.type "ValueError"),(.type "Exception"),(.type "BaseException"),(.type "object")],ns:=88,qualname:="NoMove",hasDict:=true,slotNames:=[],subclasses:=[],abstract:=false,collection:=none,hasDel:=false }),#[some (.ref 73),none,some (.str "NoMove" 264),some (.str "NoMove" 272),some (.builtin "ValueError.__new__"),some (.bool true)]⟩)::(nat_lit 100,⟨(.type "dict"),none,(.dict #[kE P "__module__" 296 (.str "glazebench.errors" 194),kE P "__firstlineno__" 300 (.int (19) 299),kE P "__static_attributes__" 301 (.ref 99),kE P "__doc__" 302 .none] 2),#[]⟩)::(nat_lit 101,⟨(.type "type"),none,(.cls { name:="Unlike",bases:=[(.ref 31)],mro:=[(.ref 101),(.ref 31),(.type "ValueError"),(.type "Exception"),(.type "BaseException"),(.type "object")],ns:=100,qualname:="Unlike",hasDict:=true,slotNames:=[],subclasses:=[],abstract:=false,collection:=none,hasDel:=false }),#[some (.ref 92),none,some (.str "Unlike" 289),some (.str "Unlike" 297),some (.builtin "ValueError.__new__"),some (.bool true)]⟩)::(nat_lit 109,co "is_whole" "is_whole" 309 310 311 23 1 104 181 105 106 107 108 313 23 314)::(nat_lit 110,fo "is_whole" "is_whole" (top 9) .none (.str "glazebench.panels" 305) 109)::(nat_lit 116,co "is_side" "is_side" 316 317 318 25 1 111 181 112 113 114 115 320 25 321)::(nat_lit 117,fo "is_side" "is_side" (top 10) .none (.str "glazebench.panels" 305) 116)::(nat_lit 123,co "inside" "inside" 323 324 325 27 2 118 181 119 120 121 122 329 27 330)::(nat_lit 124,fo "inside" "inside" (top 11) .none (.str "glazebench.panels" 305) 123)::(nat_lit 130,co "check_sides" "check_sides" 332 333 334 30 2 125 181 126 127 128 129 338 30 339)::(nat_lit 131,fo "check_sides" "check_sides" (top 12) .none (.str "glazebench.panels" 305) 130)::(nat_lit 142,cp "leaves" "Tree.leaves" 361 362 363 40 1 139 181 140 .none .none (.ref 141) 364 40 365)::(nat_lit 143,fo "leaves" "Tree.leaves" (Be (top 17) 0) .none (.str "glazebench.cuts" 341) 142)::(nat_lit 149,co "depth" "Tree.depth" 367 368 369 43 1 144 181 145 146 147 148 371 43 372)::(nat_lit 150,fo "depth" "Tree.depth" (Be (top 17) 1) .none (.str "glazebench.cuts" 341) 149)::(nat_lit 156,co "turned" "Tree.turned" 374 375 376 46 1 151 181 152 153 154 155 378 46 379)::(nat_lit 157,fo "turned" "Tree.turned" (Be (top 17) 2) .none (.str "glazebench.cuts" 341) 156)::(nat_lit 163,co "fits" "Tree.fits" 381 382 383 49 3 158 181 159 160 161 162 387 49 388)::(nat_lit 164,fo "fits" "Tree.fits" (Be (top 17) 3) .none (.str "glazebench.cuts" 341) 163)::(nat_lit 170,co "same" "Tree.same" 390 391 392 52 2 165 181 166 167 168 169 395 52 396)::(nat_lit 171,fo "same" "Tree.same" (Be (top 17) 4) .none (.str "glazebench.cuts" 341) 170)::(nat_lit 173,⟨(.type "dict"),none,(.dict #[kE P "__module__" 356 (.str "glazebench.cuts" 341),kE P "__firstlineno__" 360 (.int (38) 359),kE P "leaves" 366 (.ref 143),kE P "depth" 373 (.ref 150),kE P "turned" 380 (.ref 157),kE P "fits" 389 (.ref 164),kE P "same" 397 (.ref 171),kE P "__static_attributes__" 398 (.ref 172),kE P "__dict__" 400 (.ref 175),kE P "__weakref__" 402 (.ref 176),kE P "__doc__" 403 .none] 4),#[]⟩)::(nat_lit 174,⟨(.type "type"),none,(.cls { name:="Tree",bases:=[(.type "object")],mro:=[(.ref 174),(.type "object")],ns:=173,qualname:="Tree",hasDict:=true,slotNames:=[],subclasses:=[(.ref 196),(.ref 215),(.ref 234)],abstract:=false,collection:=none,hasDel:=false }),#[none,none,some (.str "Tree" 349),some (.str "Tree" 357),some (.builtin "object.__new__"),some (.bool true)]⟩)::(nat_lit 175,⟨(.type "getset_descriptor"),none,(.fields #[(.str "__dict__" 399),(.ref 174),(.builtin "function.__dict__"),(.builtin "function.__dict__#set")]),#[]⟩)::(nat_lit 176,⟨(.type "getset_descriptor"),none,(.fields #[(.str "__weakref__" 401),(.ref 174),(.builtin "ExceptionGroup.__weakref__"),.none]),#[]⟩)::(nat_lit 186,⟨(.type "tuple"),none,(.seq #[.none] 0),#[]⟩)::(nat_lit 192,co "__init__" "Whole.__init__" 418 419 420 56 2 187 181 188 189 190 191 423 56 424)::(nat_lit 193,fo "__init__" "Whole.__init__" (Be (top 18) 0) (.ref 186) (.str "glazebench.cuts" 341) 192)::(nat_lit 195,⟨(.type "dict"),none,(.dict #[kE P "__module__" 413 (.str "glazebench.cuts" 341),kE P "__firstlineno__" 417 (.int (54) 416),kE P "__init__" 425 (.ref 193),kE P "__static_attributes__" 427 (.ref 194),kE P "__doc__" 428 .none] 2),#[]⟩)::(nat_lit 196,⟨(.type "type"),none,(.cls { name:="Whole",bases:=[(.ref 174)],mro:=[(.ref 196),(.ref 174),(.type "object")],ns:=195,qualname:="Whole",hasDict:=true,slotNames:=[],subclasses:=[],abstract:=false,collection:=none,hasDel:=false }),#[some (.ref 179),none,some (.str "Whole" 406),some (.str "Whole" 414),some (.builtin "object.__new__"),some (.bool true)]⟩)::(nat_lit 211,co "__init__" "Upright.__init__" 443 444 445 60 4 206 181 207 208 209 210 450 60 451)::(nat_lit 212,fo "__init__" "Upright.__init__" (Be (top 19) 0) .none (.str "glazebench.cuts" 341) 211)::(nat_lit 214,⟨(.type "dict"),none,(.dict #[kE P "__module__" 438 (.str "glazebench.cuts" 341),kE P "__firstlineno__" 442 (.int (58) 441),kE P "__init__" 452 (.ref 212),kE P "__static_attributes__" 456 (.ref 213),kE P "__doc__" 457 .none] 2),#[]⟩)::(nat_lit 215,⟨(.type "type"),none,(.cls { name:="Upright",bases:=[(.ref 174)],mro:=[(.ref 215),(.ref 174),(.type "object")],ns:=214,qualname:="Upright",hasDict:=true,slotNames:=[],subclasses:=[],abstract:=false,collection:=none,hasDel:=false }),#[some (.ref 199),none,some (.str "Upright" 431),some (.str "Upright" 439),some (.builtin "object.__new__"),some (.bool true)]⟩)::(nat_lit 230,co "__init__" "Level.__init__" 472 473 474 66 4 225 181 226 227 228 229 479 66 480)::(nat_lit 231,fo "__init__" "Level.__init__" (Be (top 20) 0) .none (.str "glazebench.cuts" 341) 230)::(nat_lit 233,⟨(.type "dict"),none,(.dict #[kE P "__module__" 467 (.str "glazebench.cuts" 341),kE P "__firstlineno__" 471 (.int (64) 470),kE P "__init__" 481 (.ref 231),kE P "__static_attributes__" 485 (.ref 232),kE P "__doc__" 486 .none] 2),#[]⟩)::(nat_lit 234,⟨(.type "type"),none,(.cls { name:="Level",bases:=[(.ref 174)],mro:=[(.ref 234),(.ref 174),(.type "object")],ns:=233,qualname:="Level",hasDict:=true,slotNames:=[],subclasses:=[],abstract:=false,collection:=none,hasDel:=false }),#[some (.ref 218),none,some (.str "Level" 460),some (.str "Level" 468),some (.builtin "object.__new__"),some (.bool true)]⟩)::(nat_lit 242,co "kind_of" "kind_of" 489 490 491 70 1 237 181 238 239 240 241 493 70 494)::(nat_lit 243,fo "kind_of" "kind_of" (top 21) .none (.str "glazebench.cuts" 341) 242)::(nat_lit 249,co "entry_of" "entry_of" 496 497 498 74 1 244 181 245 246 247 248 501 74 502)::(nat_lit 250,fo "entry_of" "entry_of" (top 22) .none (.str "glazebench.cuts" 341) 249)::(nat_lit 256,co "entries_of" "entries_of" 504 505 506 77 1 251 181 252 253 254 255 511 77 512)::(nat_lit 257,fo "entries_of" "entries_of" (top 23) .none (.str "glazebench.cuts" 341) 256)::(nat_lit 263,co "cut_from" "cut_from" 514 515 516 86 4 258 181 259 260 261 262 521 86 522)::(nat_lit 264,fo "cut_from" "cut_from" (top 24) .none (.str "glazebench.cuts" 341) 263)::(nat_lit 270,co "tree_from" "tree_from" 524 525 526 90 1 265 181 266 267 268 269 533 90 534)::(nat_lit 271,fo "tree_from" "tree_from" (top 25) .none (.str "glazebench.cuts" 341) 270)::(nat_lit 277,co "entries_by" "entries_by" 536 537 538 100 2 272 181 273 274 275 276 545 100 546)::(nat_lit 278,fo "entries_by" "entries_by" (top 26) .none (.str "glazebench.cuts" 341) 277)::(nat_lit 284,co "check_cut" "check_cut" 548 549 550 111 3 279 181 280 281 282 283 555 111 556)::(nat_lit 285,fo "check_cut" "check_cut" (top 27) .none (.str "glazebench.cuts" 341) 284)::(nat_lit 291,co "first_piece" "first_piece" 558 559 560 115 3 286 181 287 288 289 290 564 115 565)::(nat_lit 292,fo "first_piece" "first_piece" (top 28) .none (.str "glazebench.cuts" 341) 291)::(nat_lit 298,co "other_piece" "other_piece" 567 568 569 119 3 293 181 294 295 296 297 573 119 574)::(nat_lit 299,fo "other_piece" "other_piece" (top 29) .none (.str "glazebench.cuts" 341) 298)::(nat_lit 305,co "cut_out" "cut_out" 576 577 578 123 3 300 181 301 302 303 304 587 123 588)::(nat_lit 306,fo "cut_out" "cut_out" (top 30) .none (.str "glazebench.cuts" 341) 305)::(nat_lit 312,co "pieces" "pieces" 590 591 592 135 3 307 181 308 309 310 311 596 135 597)::(nat_lit 313,fo "pieces" "pieces" (top 31) .none (.str "glazebench.cuts" 341) 312)::(nat_lit 319,co "line_breaks" "line_breaks" 605 606 607 141 3 314 181 315 316 317 318 611 141 612)::(nat_lit 320,fo "line_breaks" "line_breaks" (top 35) .none (.str "glazebench.blocks" 599) 319)::(nat_lit 324,cp "goes_through" "goes_through" 614 615 616 143 3 321 181 322 .none .none (.ref 323) 617 143 618)::(nat_lit 325,fo "goes_through" "goes_through" (top 36) .none (.str "glazebench.blocks" 599) 324)::(nat_lit 329,cp "lines_through" "lines_through" 620 621 622 145 3 326 181 327 .none .none (.ref 328) 623 145 624)::(nat_lit 330,fo "lines_through" "lines_through" (top 37) .none (.str "glazebench.blocks" 599) 329)::(nat_lit 334,cp "entry_for" "entry_for" 630 631 632 149 2 331 181 332 .none .none (.ref 333) 633 149 634)::(nat_lit 335,fo "entry_for" "entry_for" (top 40) .none (.str "glazebench.rooms" 626) 334)::(nat_lit 341,co "cut_up" "cut_up" 636 637 638 160 2 336 181 337 338 339 340 642 160 643)::(nat_lit 342,fo "cut_up" "cut_up" (top 41) .none (.str "glazebench.rooms" 626) 341)::(nat_lit 348,co "form" "form" 647 648 649 163 3 343 181 344 345 346 347 653 163 654)::(nat_lit 349,fo "form" "form" (top 43) .none (.str "glazebench.forms" 645) 348)::(nat_lit 355,co "alike" "alike" 656 657 658 165 4 350 181 351 352 353 354 663 165 664)::(nat_lit 356,fo "alike" "alike" (top 44) .none (.str "glazebench.forms" 645) 355)::(nat_lit 362,co "moves_up" "moves_up" 674 675 676 171 4 357 181 358 359 360 361 682 171 683)::(nat_lit 363,fo "moves_up" "moves_up" (top 49) .none (.str "glazebench.moves" 666) 362)::(nat_lit 369,co "ahead_of" "ahead_of" 685 686 687 180 3 364 181 365 366 367 368 692 180 693)::(nat_lit 370,fo "ahead_of" "ahead_of" (top 50) .none (.str "glazebench.moves" 666) 369)::(nat_lit 376,co "behind_of" "behind_of" 695 696 697 189 3 371 181 372 373 374 375 702 189 703)::(nat_lit 377,fo "behind_of" "behind_of" (top 51) .none (.str "glazebench.moves" 666) 376)::(nat_lit 383,co "moves_to" "moves_to" 705 706 707 198 3 378 181 379 380 381 382 714 198 715)::(nat_lit 384,fo "moves_to" "moves_to" (top 52) .none (.str "glazebench.moves" 666) 383)::(nat_lit 390,co "led" "led" 717 718 719 206 4 385 181 386 387 388 389 724 206 725)::(nat_lit 391,fo "led" "led" (top 53) .none (.str "glazebench.moves" 666) 390)::(nat_lit 397,co "_law_cell" "_law_cell" 729 730 731 211 2 392 181 393 394 395 396 734 211 735)::(nat_lit 398,fo "_law_cell" "_law_cell" (top 55) .none (.str "law_glazebench_k34_forms_refused" 727) 397)::(nat_lit 404,co "_law_draw" "_law_draw" 737 738 739 215 3 399 181 400 401 402 403 744 215 745)::(nat_lit 405,fo "_law_draw" "_law_draw" (top 56) .none (.str "law_glazebench_k34_forms_refused" 727) 404)::(nat_lit 411,co "_law_state" "_law_state" 747 748 749 218 1 406 181 407 408 409 410 752 218 753)::(nat_lit 412,fo "_law_state" "_law_state" (top 57) .none (.str "law_glazebench_k34_forms_refused" 727) 411)::(nat_lit 418,co "_law_pick" "_law_pick" 755 756 757 223 2 413 181 414 415 416 417 761 223 762)::(nat_lit 419,fo "_law_pick" "_law_pick" (top 58) .none (.str "law_glazebench_k34_forms_refused" 727) 418)::(nat_lit 425,co "_law_tree" "_law_tree" 764 765 766 230 3 420 181 421 422 423 424 774 230 775)::(nat_lit 426,fo "_law_tree" "_law_tree" (top 59) .none (.str "law_glazebench_k34_forms_refused" 727) 425)::(nat_lit 432,co "_law_made" "_law_made" 777 778 779 244 1 427 181 428 429 430 431 781 244 782)::(nat_lit 433,fo "_law_made" "_law_made" (top 60) .none (.str "law_glazebench_k34_forms_refused" 727) 432)::(nat_lit 439,co "_law_whole" "_law_whole" 784 785 786 250 1 434 181 435 436 437 438 788 250 789)::(nat_lit 440,fo "_law_whole" "_law_whole" (top 61) .none (.str "law_glazebench_k34_forms_refused" 727) 439)::(nat_lit 453,co "_law_pieces" "_law_pieces" 801 802 803 267 2 448 181 449 450 451 452 812 267 813)::(nat_lit 454,fo "_law_pieces" "_law_pieces" (top 63) .none (.str "law_glazebench_k34_forms_refused" 727) 453)::(nat_lit 458,cp "_law_through" "_law_through" 815 816 817 277 2 455 181 456 .none .none (.ref 457) 818 277 819)::(nat_lit 459,fo "_law_through" "_law_through" (top 64) .none (.str "law_glazebench_k34_forms_refused" 727) 458)::(nat_lit 463,cp "_law_parted" "_law_parted" 821 822 823 284 4 460 181 461 .none .none (.ref 462) 824 284 825)::(nat_lit 464,fo "_law_parted" "_law_parted" (top 65) .none (.str "law_glazebench_k34_forms_refused" 727) 463)::(nat_lit 470,co "_law_recut" "_law_recut" 827 828 829 292 3 465 181 466 467 468 469 841 292 842)::(nat_lit 471,fo "_law_recut" "_law_recut" (top 66) .none (.str "law_glazebench_k34_forms_refused" 727) 470)::(nat_lit 477,co "_law_low" "_law_low" 844 845 846 300 2 472 181 473 474 475 476 851 300 852)::(nat_lit 478,fo "_law_low" "_law_low" (top 67) .none (.str "law_glazebench_k34_forms_refused" 727) 477)::(nat_lit 484,co "_law_side" "_law_side" 854 855 856 309 1 479 181 480 481 482 483 858 309 859)::(nat_lit 485,fo "_law_side" "_law_side" (top 68) .none (.str "law_glazebench_k34_forms_refused" 727) 484)::(nat_lit 491,co "_law_no_side" "_law_no_side" 861 862 863 313 1 486 181 487 488 489 490 865 313 866)::(nat_lit 492,fo "_law_no_side" "_law_no_side" (top 69) .none (.str "law_glazebench_k34_forms_refused" 727) 491)::(nat_lit 498,co "_law_no_cut" "_law_no_cut" 868 869 870 315 3 493 181 494 495 496 497 879 315 880)::(nat_lit 499,fo "_law_no_cut" "_law_no_cut" (top 70) .none (.str "law_glazebench_k34_forms_refused" 727) 498)::(nat_lit 505,co "_law_due" "_law_due" 882 883 884 330 5 500 181 501 502 503 504 893 330 894)::(nat_lit 506,fo "_law_due" "_law_due" (top 71) .none (.str "law_glazebench_k34_forms_refused" 727) 505)::(nat_lit 512,co "_law_free" "_law_free" 896 897 898 343 5 507 181 508 509 510 511 905 343 906)::(nat_lit 513,fo "_law_free" "_law_free" (top 72) .none (.str "law_glazebench_k34_forms_refused" 727) 512)::(nat_lit 519,co "_law_asked" "_law_asked" 908 909 910 348 5 514 181 515 516 517 518 918 348 919)::(nat_lit 520,fo "_law_asked" "_law_asked" (top 73) .none (.str "law_glazebench_k34_forms_refused" 727) 519)::(nat_lit 524,cp "law" "law" 921 922 923 364 1 521 181 522 .none .none (.ref 523) 924 364 925)::(nat_lit 525,fo "law" "law" (top 74) .none (.str "law_glazebench_k34_forms_refused" 727) 524)::(nat_lit 4,⟨(.type "module"),(some 0),.plain,#[]⟩)::[]
noncomputable def kas:List Addr:=nat_lit 2::nat_lit 3::nat_lit 20::nat_lit 21::nat_lit 30::nat_lit 31::nat_lit 32::nat_lit 47::nat_lit 48::nat_lit 50::nat_lit 51::nat_lit 66::nat_lit 67::nat_lit 69::nat_lit 70::nat_lit 85::nat_lit 86::nat_lit 88::nat_lit 89::nat_lit 100::nat_lit 101::nat_lit 109::nat_lit 110::nat_lit 116::nat_lit 117::nat_lit 123::nat_lit 124::nat_lit 130::nat_lit 131::nat_lit 142::nat_lit 143::nat_lit 149::nat_lit 150::nat_lit 156::nat_lit 157::nat_lit 163::nat_lit 164::nat_lit 170::nat_lit 171::nat_lit 173::nat_lit 174::nat_lit 175::nat_lit 176::nat_lit 186::nat_lit 192::nat_lit 193::nat_lit 195::nat_lit 196::nat_lit 211::nat_lit 212::nat_lit 214::nat_lit 215::nat_lit 230::nat_lit 231::nat_lit 233::nat_lit 234::nat_lit 242::nat_lit 243::nat_lit 249::nat_lit 250::nat_lit 256::nat_lit 257::nat_lit 263::nat_lit 264::nat_lit 270::nat_lit 271::nat_lit 277::nat_lit 278::nat_lit 284::nat_lit 285::nat_lit 291::nat_lit 292::nat_lit 298::nat_lit 299::nat_lit 305::nat_lit 306::nat_lit 312::nat_lit 313::nat_lit 319::nat_lit 320::nat_lit 324::nat_lit 325::nat_lit 329::nat_lit 330::nat_lit 334::nat_lit 335::nat_lit 341::nat_lit 342::nat_lit 348::nat_lit 349::nat_lit 355::nat_lit 356::nat_lit 362::nat_lit 363::nat_lit 369::nat_lit 370::nat_lit 376::nat_lit 377::nat_lit 383::nat_lit 384::nat_lit 390::nat_lit 391::nat_lit 397::nat_lit 398::nat_lit 404::nat_lit 405::nat_lit 411::nat_lit 412::nat_lit 418::nat_lit 419::nat_lit 425::nat_lit 426::nat_lit 432::nat_lit 433::nat_lit 439::nat_lit 440::nat_lit 453::nat_lit 454::nat_lit 458::nat_lit 459::nat_lit 463::nat_lit 464::nat_lit 470::nat_lit 471::nat_lit 477::nat_lit 478::nat_lit 484::nat_lit 485::nat_lit 491::nat_lit 492::nat_lit 498::nat_lit 499::nat_lit 505::nat_lit 506::nat_lit 512::nat_lit 513::nat_lit 519::nat_lit 520::nat_lit 524::nat_lit 525::nat_lit 4::[]
noncomputable def keeps:List Nat:=0::2::3::4::5::6::8::9::10::11::12::14::15::16::17::18::19::20::21::22::23::24::25::26::27::28::29::30::31::33::34::35::36::37::39::40::41::43::44::46::47::48::49::50::51::52::53::55::56::57::58::59::60::61::62::63::64::65::66::67::68::69::70::71::72::73::74::[]
noncomputable def lo:LSz:=["Whole"]
noncomputable def Ts:List Addr:=nat_lit 308::nat_lit 337::[]
theorem prep(h:PySem.Challenge.rw_glazebench_k34_forms_refused.row.wellSaid=true->PySem.Challenge.rw_glazebench_k34_forms_refused.row.Holds):PySem.Challenge.rw_glazebench_k34_forms_refused.Holds:=by
 w_on
 o_law
 exact h (by assumption)
noncomputable def qv(p:Program):Program:=view p keeps
noncomputable def Xp(p:Program)(s:Shared):Bool:=xlAt (qv p) [] s&&recOk (RowW.records (OpenRow.toRowW PySem.Challenge.rw_glazebench_k34_forms_refused.row)) s
theorem kas_is(P:Params):kas=(KK P).map (λ x=>x.1):=by kernel_rfl
theorem T5:opening PySem.Challenge.pw_glazebench_k34_forms_refused=plainProg PySem.Challenge.pw_glazebench_k34_forms_refused.main.scope.names:=by kernel_rfl
theorem PV(s:Shared):fenceModules? PySem.Challenge.pw_glazebench_k34_forms_refused s=some s:=by kernel_rfl
theorem R3(w:World):((boot_heap w.params).isNs mainGlobals,(boot_heap w.params).objs.size,(boot_heap w.params).nsMap mainGlobals "__annotations__")=(true,11,(some (.ref 6))):=by kernel_rfl
theorem U7:Ug 7892 11 (some (.ref 6)) Fast.te10156331382660048174 Fast.te11892475500146522536 Fast.te14364793385576792824 Fast.te5923862056798008813 Fast.te4187177175401517315 Fast.te13446181665610587800:=λ w os=>by kernel_rfl
theorem U6:Uf 7892 11 (some (.ref 6)) qv lo Xp Fast.te10156331382660048174 Fast.te11892475500146522536 Fast.te14364793385576792824 Fast.te5923862056798008813 Fast.te4187177175401517315 Fast.te13446181665610587800:=λ w os=>by kernel_rfl
theorem U5:Ue 7892 11 (some (.ref 6)) (hookT (kHook KK kas kas_is) Ts).obs (hookT (kHook KK kas kas_is) Ts).val Fast.te10156331382660048174 Fast.te11892475500146522536 Fast.te14364793385576792824 Fast.te5923862056798008813 Fast.te4187177175401517315 Fast.te13446181665610587800:=λ w os=>by kernel_rfl
theorem ran:∀(w:World)(os:OsState),Option.map (IQ openSeen (importedModules PySem.Challenge.pw_glazebench_k34_forms_refused.main.body) PySem.Challenge.pw_glazebench_k34_forms_refused (qv PySem.Challenge.pw_glazebench_k34_forms_refused) lo (Xp PySem.Challenge.pw_glazebench_k34_forms_refused) (hookT (kHook KK kas kas_is) Ts).obs (boot_heap w.params)) (topRun treeTable PySem.Challenge.pw_glazebench_k34_forms_refused w 11 (some (.ref 6)) 7892 (DO w.params os) (topStub PySem.Challenge.pw_glazebench_k34_forms_refused))=some (true,openGood (qv PySem.Challenge.pw_glazebench_k34_forms_refused) lo,(hookT (kHook KK kas kas_is) Ts).val w):=QG U7 U6 U5
theorem left:LeftO PySem.Challenge.pw_glazebench_k34_forms_refused (qv PySem.Challenge.pw_glazebench_k34_forms_refused) lo (Xp PySem.Challenge.pw_glazebench_k34_forms_refused) (hookT (kHook KK kas kas_is) Ts).obs (hookT (kHook KK kas kas_is) Ts).val 7892:=Ot (boot_open T5 (by decide) PV) R3 ran
end KH
namespace L2
open PySem.W
open PySem PySem.Spec PyProof.Rows
section
variable{M:Model}{A:Around}{E:VPz}{s:Shared}
def Rr:Bool->Keyed->Array Keyed->Nat->Nat->Nat->StateT SortSt Sem (Option Nat):=sortPriv% PySem.Builtin.gallop
def ST(M:Model)(A:Around)(E:VPz)(s:Shared)(left:Bool)(key:Keyed)(arr:Array Keyed)(base n:Nat)(kd:SortKind)(B:Nat->Bool):Prop :=
 ∀i,i<n->∀(st:SortSt)(Q:Option Bool->SortSt->Prop),kindOf st=kd->Q (some (B i)) st->wpS M A E s (elem' arr (base+i) >>= λ x=>if left=true then lt' x key else lt' key x >>= λ r=>pure (r.map (!·))) Q st
theorem RR{n:Nat}{B:Nat->Bool}{f:Nat->Option (Option Nat)×Nat×Nat->StateT SortSt Sem (ForInStep (Option (Option Nat)×Nat×Nat))}{g:Option (Option Nat)×Nat×Nat->StateT SortSt Sem (Option Nat)}{lo hi:Nat}{st:SortSt}{Q:Option Nat->SortSt->Prop}(mono:∀i j,i<=j->j<n->B j=true->B i=true)
  (hf:∀x lo hi (Q':ForInStep (Option (Option Nat)×Nat×Nat)->SortSt->Prop),hi<=n->(lo>=hi->Q' (.done (none,lo,hi)) st)->(lo<hi->B (lo+(hi-lo) / 2)=true->Q' (.yield (none,lo+(hi-lo) / 2+1,hi)) st)->(lo<hi->B (lo+(hi-lo) / 2)=false->Q' (.yield (none,lo,lo+(hi-lo) / 2)) st)->wpS M A E s (f x (none,lo,hi)) Q' st)
  (hg:∀lo hi,g (none,lo,hi)=pure (some hi)) (h1:lo<=hi) (h2:hi<=n) (h3:∀i,i<lo->B i=true) (h4:∀i,hi<=i->i<n->B i=false)
  (h:∀k,k<=n->(∀i,i<k->B i=true)->(∀i,k<=i->i<n->B i=false)->Q (some k) st):wpS M A E s (forIn [0:n] (none,lo,hi) f >>= g) Q st:=by
 have anti:∀i j,i<=j->j<n->B i=false->B j=false:=λ i j hij hj hi=>by
  cases e:B j with
  |false=>rfl
  |true=>rw[mono i j hij hj e]at hi;cases hi
 refine wpS_bind (wpS_mono (wpS_forRange (I:=λ x (c:Option (Option Nat)×Nat×Nat) st'=>st'=st/\c.1=none/\c.2.1<=c.2.2/\c.2.2<=n/\(c.2.2-c.2.1)+x<=n/\(∀i,i<c.2.1->B i=true)/\(∀i,c.2.2<=i->i<n->B i=false))
  (Q:=λ(c:Option (Option Nat)×Nat×Nat) st'=>st'=st/\c.1=none/\c.2.2<=n/\(∀i,i<c.2.2->B i=true)/\(∀i,c.2.2<=i->i<n->B i=false)) ?step ?fin (And.intro rfl ⟨rfl,h1,h2,by show hi-lo+0<=n;lia,h3,h4⟩)) ?post)
 case fin =>
  rintro⟨r,lo,hi⟩ st' ⟨e,e1,c1,c2,c3,c4,c5⟩;have:lo=hi:=by
   have c3:hi-lo+max 0 n<=n:=c3;have c1:lo<=hi:=c1;lia
  subst this;exact And.intro e ⟨e1,c2,c4,c5⟩
 case step =>
  rintro x ⟨r,lo,hi⟩ st' _ hx ⟨e,e1,c1,c2,c3,c4,c5⟩;have e1:r=none:=e1;subst e1;subst e;have c1:lo<=hi:=c1;have c2:hi<=n:=c2;have c3:hi-lo+x<=n:=c3;have c4:∀i,i<lo->B i=true:=c4;have c5:∀i,hi<=i->i<n->B i=false:=c5;refine hf x lo hi _ c2 (λ hl=>?_) (λ hl hb=>?_) (λ hl hb=>?_)
  .have:lo=hi:=by lia
   subst this;exact And.intro rfl ⟨rfl,c2,c4,c5⟩
  .refine And.intro rfl ⟨rfl,by show lo+(hi-lo) / 2+1<=hi;lia,c2,by show hi-(lo+(hi-lo) / 2+1)+(x+1)<=n;lia,λ i hi'=>?_,c5⟩;exact mono i _ (by have:i<lo+(hi-lo) / 2+1:=hi';lia) (by lia) hb
  .refine And.intro rfl ⟨rfl,by show lo<=lo+(hi-lo) / 2;lia,by show lo+(hi-lo) / 2<=n;lia,by show lo+(hi-lo) / 2-lo+(x+1)<=n;lia,c4,λ i h1 h2=>?_⟩;exact anti _ i h1 h2 hb
 case post =>
  rintro⟨r,lo,hi⟩ st' ⟨e,e1,c1,c2,c3⟩;have e1:r=none:=e1;subst e1;subst e;rw[hg];exact wpS_pure (h hi c1 c2 c3)
theorem OX{n mx:Nat}{C:Nat->Bool}{f:Nat->Option (Option Nat)×Nat×Nat->StateT SortSt Sem (ForInStep (Option (Option Nat)×Nat×Nat))}{g:Option (Option Nat)×Nat×Nat->StateT SortSt Sem (Option Nat)}{st:SortSt}{Q:Option Nat->SortSt->Prop}(hmx:mx<=n)(h1:1<=mx)(c0:C 0=true)
  (hf:∀x la of (Q':ForInStep (Option (Option Nat)×Nat×Nat)->SortSt->Prop),(of>=mx->Q' (.done (none,la,of)) st)->(of<mx->C of=false->Q' (.done (none,la,of)) st)->(of<mx->C of=true->Q' (.yield (none,of,2*of+1)) st)->wpS M A E s (f x (none,la,of)) Q' st)
  (hg:∀la of,la<of->la<mx->C la=true->(of>=mx\/(of<mx/\C of=false))->wpS M A E s (g (none,la,of)) Q st):wpS M A E s (forIn [0:n] (none,0,1) f >>= g) Q st:=by
 refine wpS_bind (wpS_mono (wpS_forRange (I:=λ x (c:Option (Option Nat)×Nat×Nat) st'=>st'=st/\c.1=none/\c.2.1<c.2.2/\c.2.1<mx/\x+1<=c.2.2/\C c.2.1=true)
  (Q:=λ(c:Option (Option Nat)×Nat×Nat) st'=>st'=st/\c.1=none/\c.2.1<c.2.2/\c.2.1<mx/\C c.2.1=true/\(c.2.2>=mx\/(c.2.2<mx/\C c.2.2=false))) ?step ?fin (And.intro rfl ⟨rfl,by show 0<1;lia,by show 0<mx;lia,by show 0+1<=1;lia,c0⟩)) ?post)
 case fin =>
  rintro⟨r,la,of⟩ st' ⟨e,e1,c1,c2,c3,c4⟩;have c3:max 0 n+1<=of:=c3;exact And.intro e ⟨e1,c1,c2,c4,.inl (by show of>=mx;lia)⟩
 case step =>
  rintro x ⟨r,la,of⟩ st' _ hx ⟨e,e1,c1,c2,c3,c4⟩;have e1:r=none:=e1;subst e1;subst e;have c1:la<of:=c1;have c2:la<mx:=c2;have c3:x+1<=of:=c3;refine hf x la of _ (λ hl=>?_) (λ hl hb=>?_) (λ hl hb=>?_)
  .exact And.intro rfl ⟨rfl,c1,c2,c4,.inl hl⟩
  .exact And.intro rfl ⟨rfl,c1,c2,c4,.inr ⟨hl,hb⟩⟩
  .exact And.intro rfl ⟨rfl,by show of<2*of+1;lia,hl,by show x+1+1<=2*of+1;lia,hb⟩
 case post =>
  rintro⟨r,la,of⟩ st' ⟨e,e1,c1,c2,c3,c4⟩;have e1:r=none:=e1;subst e1;subst e;exact hg la of c1 c2 c3 c4
theorem AG{left:Bool}{key:Keyed}{arr:Array Keyed}{base n hint:Nat}{kd:SortKind}{B:Nat->Bool}{st:SortSt}{Q:Option Nat->SortSt->Prop}(hk:kindOf st=kd)(ask:ST M A E s left key arr base n kd B)(mono:∀i j,i<=j->j<n->B j=true->B i=true)(hh:hint<n)
  (h:∀k,k<=n->(∀i,i<k->B i=true)->(∀i,k<=i->i<n->B i=false)->Q (some k) st):wpS M A E s (Rr left key arr base n hint) Q st:=by
 have anti:∀i j,i<=j->j<n->B i=false->B j=false:=λ i j hij hj hi=>by
  cases e:B j with
  |false=>rfl
  |true=>rw[mono i j hij hj e]at hi;cases hi
 refine wpS_bind (ask hint hh st _ hk ?_);dsimp only;cases hr:B hint with
 |true =>
  rw[if_pos rfl];refine OX (mx:=n-hint) (C:=λ o=>B (hint+o)) (by lia) (by lia) hr (λ x la of Q' k1 k2 k3=>?_) (λ la of d1 d2 d3 d4=>?_)
  .dsimp only;by_cases hl:of>=n-hint
   .rw[if_pos hl];exact wpS_pure (k1 hl)
   .rw[if_neg hl];refine wpS_bind (ask (hint+of) (by lia) st _ hk ?_);dsimp only;cases hb:B (hint+of) with
    |true=>exact wpS_pure (k3 (by lia) hb)
    |false=>exact wpS_pure (k2 (by lia) hb)
  .dsimp only;refine RR mono (λ x lo hi Q' hn k1 k2 k3=>?_) (λ lo hi=>rfl) (by lia) (by lia) (λ i hi=>mono i (hint+la) (by lia) (by lia) d3) (λ i hi hi2=>?_) h
   .dsimp only;by_cases hl:lo>=hi
    .rw[if_pos hl];exact wpS_pure (k1 hl)
    .rw[if_neg hl];refine wpS_bind (ask (lo+(hi-lo) / 2) (by lia) st _ hk ?_);dsimp only;cases hb:B (lo+(hi-lo) / 2) with
     |true=>exact wpS_pure (k2 (by lia) hb)
     |false=>exact wpS_pure (k3 (by lia) hb)
   .rcases d4 with d4|⟨d4,d5⟩
    .lia
    .exact anti (hint+of) i (by lia) hi2 d5
 |false =>
  rw[if_neg Bool.false_ne_true];refine OX (mx:=hint+1) (C:=λ o=>!B (hint-o)) (by lia) (by lia) (by show(!B hint)=true;rw[hr];rfl) (λ x la of Q' k1 k2 k3=>?_) (λ la of d1 d2 d3 d4=>?_)
  .dsimp only;by_cases hl:of>=hint+1
   .rw[if_pos hl];exact wpS_pure (k1 hl)
   .rw[if_neg hl];refine wpS_bind (ask (hint-of) (by lia) st _ hk ?_);dsimp only;cases hb:B (hint-of) with
    |true=>exact wpS_pure (k2 (by lia) (by rw[hb];rfl))
    |false=>exact wpS_pure (k3 (by lia) (by rw[hb];rfl))
  .dsimp only;have d3:B (hint-la)=false:=by simpa using d3
   refine RR mono (λ x lo hi Q' hn k1 k2 k3=>?_) (λ lo hi=>rfl) (by lia) (by lia) (λ i hi=>?_) (λ i hi hi2=>anti (hint-la) i (by lia) hi2 d3) h
   .dsimp only;by_cases hl:lo>=hi
    .rw[if_pos hl];exact wpS_pure (k1 hl)
    .rw[if_neg hl];refine wpS_bind (ask (lo+(hi-lo) / 2) (by lia) st _ hk ?_);dsimp only;cases hb:B (lo+(hi-lo) / 2) with
     |true=>exact wpS_pure (k2 (by lia) hb)
     |false=>exact wpS_pure (k3 (by lia) hb)
   .rcases d4 with d4|⟨d4,d5⟩
    .lia
    .have d5:B (hint-of)=true:=by simpa using d5
     exact mono i (hint-of) (by lia) (by lia) d5
def LtG(M:Model)(A:Around)(E:VPz)(s:Shared)(kd:SortKind)(κ:Keyed->Int)(S:Keyed->Prop):Prop :=
 ∀x y,S x->S y->∀(st:SortSt)(Q:Option Bool->SortSt->Prop),kindOf st=kd->Q (some (decide (κ x<κ y))) st->wpS M A E s (lt' x y) Q st
theorem Ai{arr:Array Keyed}{i:Nat}{x:Keyed}{st:SortSt}{Q:Keyed->SortSt->Prop}(hx:arr[i]?=some x)(h:Q x st):wpS M A E s (elem' arr i) Q st:=by
 rw[elem'_eq,hx];exact wpS_pure h
theorem Du{kd:SortKind}{κ:Keyed->Int}{S:Keyed->Prop}(L:LtG M A E s kd κ S){key:Keyed}{arr:Array Keyed}{base n:Nat}(hk:S key)(ha:∀i,i<n->∃x,arr[base+i]?=some x/\S x) :
  ST M A E s true key arr base n kd (λ i=>decide (κ (arr.getD (base+i) default)<κ key)):=λ i hi st Q hs hq=>by
 obtain⟨x,hx,sx⟩:=ha i hi;refine wpS_bind (Ai hx ?_);rw[if_pos rfl];refine L x key sx hk st Q hs ?_;have e:arr.getD (base+i) default=x:=by rw[Array.getD_eq_getD_getElem?,hx];rfl
 dsimp only at hq;rw[e]at hq;exact hq
theorem HE{kd:SortKind}{κ:Keyed->Int}{S:Keyed->Prop}(L:LtG M A E s kd κ S){key:Keyed}{arr:Array Keyed}{base n:Nat}(hk:S key)(ha:∀i,i<n->∃x,arr[base+i]?=some x/\S x) :
  ST M A E s false key arr base n kd (λ i=>!decide (κ key<κ (arr.getD (base+i) default))):=λ i hi st Q hs hq=>by
 obtain⟨x,hx,sx⟩:=ha i hi;refine wpS_bind (Ai hx ?_);rw[if_neg Bool.false_ne_true];refine wpS_bind (L key x hk sx st _ hs ?_);have e:arr.getD (base+i) default=x:=by rw[Array.getD_eq_getD_getElem?,hx];rfl
 dsimp only at hq;rw[e]at hq;exact wpS_pure hq
end
section
variable{α:Type}{κ:α->Int}
def Rise(κ:α->Int)(xs:List α):Prop:=xs.Pairwise λ x y=>κ x<=κ y
structure MI(κ:α->Int)(a b out:List α)(ia ib:Nat):Prop where
 pm:(out++(a.drop ia++b.drop ib)).Perm (a++b)
 so:Rise κ out
 le:∀x∈out,∀y∈a.drop ia++b.drop ib,κ x<=κ y
 la:ia<=a.length
 lb:ib<=b.length
theorem Rise.drop{xs:List α}(h:Rise κ xs)(n:Nat):Rise κ (xs.drop n):=List.Pairwise.sublist (List.drop_sublist n xs) h
theorem Rise.app{xs ys:List α}(h1:Rise κ xs)(h2:Rise κ ys)(h:∀x∈xs,∀y∈ys,κ x<=κ y):Rise κ (xs++ys):=List.pairwise_append.mpr ⟨h1,h2,h⟩
theorem B5(xs:List α)(i k:Nat):xs.drop i=(xs.drop i).take k++xs.drop (i+k):=by
 rw[<-List.drop_drop];exact(List.take_append_drop k _).symm
theorem MI.start(a b:List α):MI κ a b [] 0 0:=⟨by simp,List.Pairwise.nil,λ x h=>absurd h List.not_mem_nil,Nat.zero_le _,Nat.zero_le _⟩
theorem MI.takeA{a b out:List α}{ia ib k:Nat}(m:MI κ a b out ia ib)(sa:Rise κ a)(hk:ia+k<=a.length)(h:∀x∈(a.drop ia).take k,∀y∈b.drop ib,κ x<=κ y):MI κ a b (out++(a.drop ia).take k) (ia+k) ib:=by
 have e:=B5 a ia k;have sd:=sa.drop ia;rw[e]at sd;obtain⟨s1,s2,s3⟩:=List.pairwise_append.mp sd;refine⟨?_,m.so.app s1 λ x hx y hy=>m.le x hx y (List.mem_append_left _ (by rw[e];exact List.mem_append_left _ hy)),λ x hx y hy=>?_,hk,m.lb⟩
 .refine List.Perm.trans ?_ m.pm;rw[List.append_assoc,<-List.append_assoc ((a.drop ia).take k),<-e]
 .rcases List.mem_append.mp hx with hx|hx
  .rcases List.mem_append.mp hy with hy|hy
   .exact m.le x hx y (List.mem_append_left _ (by rw[e];exact List.mem_append_right _ hy))
   .exact m.le x hx y (List.mem_append_right _ hy)
  .rcases List.mem_append.mp hy with hy|hy
   .exact s3 x hx y hy
   .exact h x hx y hy
theorem MI.takeB{a b out:List α}{ia ib k:Nat}(m:MI κ a b out ia ib)(sb:Rise κ b)(hk:ib+k<=b.length)(h:∀x∈(b.drop ib).take k,∀y∈a.drop ia,κ x<=κ y):MI κ a b (out++(b.drop ib).take k) ia (ib+k):=by
 have e:=B5 b ib k;have sd:=sb.drop ib;rw[e]at sd;obtain⟨s1,s2,s3⟩:=List.pairwise_append.mp sd;refine⟨?_,m.so.app s1 λ x hx y hy=>m.le x hx y (List.mem_append_right _ (by rw[e];exact List.mem_append_left _ hy)),λ x hx y hy=>?_,m.la,hk⟩
 .refine List.Perm.trans ?_ m.pm;rw[List.append_assoc];refine List.Perm.append_left out ?_;have e2:a.drop ia++b.drop ib=a.drop ia++((b.drop ib).take k++b.drop (ib+k)):=by rw[<-e]
  rw[e2,<-List.append_assoc,<-List.append_assoc];exact List.Perm.append_right _ List.perm_append_comm
 .rcases List.mem_append.mp hx with hx|hx
  .rcases List.mem_append.mp hy with hy|hy
   .exact m.le x hx y (List.mem_append_left _ hy)
   .exact m.le x hx y (List.mem_append_right _ (by rw[e];exact List.mem_append_right _ hy))
  .rcases List.mem_append.mp hy with hy|hy
   .exact h x hx y hy
   .exact s3 x hx y hy
theorem MI.done{a b out:List α}{ia ib:Nat}(m:MI κ a b out ia ib)(sa:Rise κ a)(sb:Rise κ b)(h:ib=b.length\/ia=a.length):Rise κ (out++a.drop ia++b.drop ib)/\(out++a.drop ia++b.drop ib).Perm (a++b):=by
 refine⟨?_,by rw[List.append_assoc];exact m.pm⟩;rw[List.append_assoc];refine m.so.app ?_ m.le;refine(sa.drop ia).app (sb.drop ib) λ x hx y hy=>?_;rcases h with h|h
 .rw[h,List.drop_length]at hy;exact absurd hy List.not_mem_nil
 .rw[h,List.drop_length]at hx;exact absurd hx List.not_mem_nil
theorem MI.lastA{a b out:List α}{ia ib:Nat}(m:MI κ a b out ia ib)(sa:Rise κ a)(sb:Rise κ b)(h:∀x∈b,∀y∈a.drop ia,κ x<=κ y):Rise κ (out++b.drop ib++a.drop ia)/\(out++b.drop ib++a.drop ia).Perm (a++b):=by
 refine⟨?_,?_⟩
 .rw[List.append_assoc];refine m.so.app ((sb.drop ib).app (sa.drop ia) λ x hx y hy=>h x (List.mem_of_mem_drop hx) y hy) λ x hx y hy=>m.le x hx y ?_;rcases List.mem_append.mp hy with hy|hy
  .exact List.mem_append_right _ hy
  .exact List.mem_append_left _ hy
 .refine List.Perm.trans ?_ m.pm;rw[List.append_assoc];exact List.Perm.append_left out List.perm_append_comm
end
section
variable{M:Model}{A:Around}{E:VPz}{s:Shared}
def P4:Array Keyed->Array Keyed->StateT SortSt Sem (Array Keyed):=sortPriv% PySem.Builtin.mergeLo
theorem Gi{α:Type}(a:Array α)(i:Nat):(a.extract i a.size).toList=a.toList.drop i:=by
 rw[Array.toList_extract,List.extract_eq_drop_take];exact List.take_of_length_le (by rw[List.length_drop,Array.length_toList];lia)
theorem PY{α:Type}(a:Array α)(i k:Nat):(a.extract i (i+k)).toList=(a.toList.drop i).take k:=by
 rw[Array.toList_extract,List.extract_eq_drop_take];congr 1;lia
theorem CJ{α:Type}{a:Array α}{i:Nat}(h:i<a.size):∃x,a[i]?=some x/\x∈a.toList/\a.toList.drop i=x::a.toList.drop (i+1):=by
 refine⟨a[i],by simp[h],by simp,?_⟩;have h':i<a.toList.length:=by rw[Array.length_toList];exact h
 rw[List.drop_eq_getElem_cons h'];simp
theorem B7{α:Type}{κ:α->Int}{xs:List α}(h:Rise κ xs){i:Nat}{x:α}(e:xs.drop i=x::xs.drop (i+1)):∀y∈xs.drop i,κ x<=κ y:=λ y hy=>by
 have hd:=h.drop i;rw[e]at hd hy;rcases List.mem_cons.mp hy with rfl|hy
 .exact Int.le_refl _
 .exact(List.pairwise_cons.mp hd).1 y hy
theorem Bj{α:Type}[Inhabited α]{κ:α->Int}{a:Array α}(h:Rise κ a.toList){i j:Nat}(hij:i<=j)(hj:j<a.size):κ (a.getD i default)<=κ (a.getD j default):=by
 have hi:i<a.size:=by lia
 have ei:a.getD i default=a.toList[i]'(by simpa using hi):=by simp[Array.getD,hi]
 have ej:a.getD j default=a.toList[j]'(by simpa using hj):=by simp[Array.getD,hj]
 rw[ei,ej];rcases Nat.lt_or_ge i j with h'|h'
 .exact List.pairwise_iff_getElem.mp h i j _ _ h'
 .have:i=j:=by lia
  subst this;exact Int.le_refl _
structure CL(st st':SortSt):Prop where
 kd:kindOf st'=kindOf st
 ar:arrOf st'=arrOf st
 pe:pendingOf st'=pendingOf st
 fa:failedOf st'=failedOf st
structure GoL(κ:Keyed->Int)(a b out:Array Keyed)(ia ib:Nat):Prop where
 mi:MI κ a.toList b.toList out.toList ia ib
 la:ia+1<a.size
 lb:ib<b.size
def Bb(κ:Keyed->Int)(a b r:Array Keyed):Prop:=Rise κ r.toList/\r.toList.Perm (a.toList++b.toList)
theorem AL{κ:Keyed->Int}{a b out:Array Keyed}{ia ib:Nat}(m:MI κ a.toList b.toList out.toList ia ib)(sa:Rise κ a.toList)(sb:Rise κ b.toList)(h:ib=b.size\/ia=a.size):Bb κ a b (out++a.extract ia a.size++b.extract ib b.size):=by
 have:=m.done sa sb (by rw[Array.length_toList,Array.length_toList];exact h);unfold Bb;rw[Array.toList_append,Array.toList_append,Gi,Gi];exact this
theorem AK{κ:Keyed->Int}{a b out:Array Keyed}{ia ib:Nat}(m:MI κ a.toList b.toList out.toList ia ib)(sa:Rise κ a.toList)(sb:Rise κ b.toList)(h:∀x∈b.toList,∀y∈a.toList.drop ia,κ x<=κ y):Bb κ a b (out++b.extract ib b.size++a.extract ia a.size):=by
 have:=m.lastA sa sb h;unfold Bb;rw[Array.toList_append,Array.toList_append,Gi,Gi];exact this
theorem GoL.stepB{κ:Keyed->Int}{a b out:Array Keyed}{ia ib:Nat}{x y:Keyed}(g:GoL κ a b out ia ib)(sa:Rise κ a.toList)(sb:Rise κ b.toList)(db:b.toList.drop ib=x::b.toList.drop (ib+1))(da:a.toList.drop ia=y::a.toList.drop (ia+1))(h:κ x<=κ y):MI κ a.toList b.toList (out.push x).toList ia (ib+1):=by
 have:=g.mi.takeB sb (k:=1) (by rw[Array.length_toList];have:=g.lb;lia) (λ z hz w hw=>?_)
 .rw[db]at this;rw[Array.toList_push]
  simpa using this
 .rw[db]at hz;have:z=x:=by simpa using hz
  rw[this];exact Int.le_trans h (B7 sa da w hw)
theorem GoL.stepA{κ:Keyed->Int}{a b out:Array Keyed}{ia ib:Nat}{x y:Keyed}(g:GoL κ a b out ia ib)(sa:Rise κ a.toList)(sb:Rise κ b.toList)(db:b.toList.drop ib=x::b.toList.drop (ib+1))(da:a.toList.drop ia=y::a.toList.drop (ia+1))(h:κ y<=κ x):MI κ a.toList b.toList (out.push y).toList (ia+1) ib:=by
 have:=g.mi.takeA sa (k:=1) (by rw[Array.length_toList];have:=g.la;lia) (λ z hz w hw=>?_)
 .rw[da]at this;rw[Array.toList_push]
  simpa using this
 .rw[da]at hz;have:z=y:=by simpa using hz
  rw[this];exact Int.le_trans h (B7 sb db w hw)
theorem MI.pushB{κ:Keyed->Int}{a b out:Array Keyed}{ia ib:Nat}{x:Keyed}(m:MI κ a.toList b.toList out.toList ia ib)(sb:Rise κ b.toList)(lb:ib<b.size)(db:b.toList.drop ib=x::b.toList.drop (ib+1))(h:∀w∈a.toList.drop ia,κ x<=κ w):MI κ a.toList b.toList (out.push x).toList ia (ib+1):=by
 have:=m.takeB sb (k:=1) (by rw[Array.length_toList];lia) (λ z hz w hw=>?_)
 .rw[db]at this;rw[Array.toList_push]
  simpa using this
 .rw[db]at hz;have:z=x:=by simpa using hz
  rw[this];exact h w hw
theorem MI.pushA{κ:Keyed->Int}{a b out:Array Keyed}{ia ib:Nat}{x:Keyed}(m:MI κ a.toList b.toList out.toList ia ib)(sa:Rise κ a.toList)(la:ia<a.size)(da:a.toList.drop ia=x::a.toList.drop (ia+1))(h:∀w∈b.toList.drop ib,κ x<=κ w):MI κ a.toList b.toList (out.push x).toList (ia+1) ib:=by
 have:=m.takeA sa (k:=1) (by rw[Array.length_toList];lia) (λ z hz w hw=>?_)
 .rw[da]at this;rw[Array.toList_push]
  simpa using this
 .rw[da]at hz;have:z=x:=by simpa using hz
  rw[this];exact h w hw
theorem MI.extA{κ:Keyed->Int}{a b out:Array Keyed}{ia ib k:Nat}(m:MI κ a.toList b.toList out.toList ia ib)(sa:Rise κ a.toList)(hk:ia+k<=a.size)(h:∀x∈(a.toList.drop ia).take k,∀y∈b.toList.drop ib,κ x<=κ y):MI κ a.toList b.toList (out++a.extract ia (ia+k)).toList (ia+k) ib:=by
 rw[Array.toList_append,PY];exact m.takeA sa (by rw[Array.length_toList];exact hk) h
theorem MI.extB{κ:Keyed->Int}{a b out:Array Keyed}{ia ib k:Nat}(m:MI κ a.toList b.toList out.toList ia ib)(sb:Rise κ b.toList)(hk:ib+k<=b.size)(h:∀x∈(b.toList.drop ib).take k,∀y∈a.toList.drop ia,κ x<=κ y):MI κ a.toList b.toList (out++b.extract ib (ib+k)).toList ia (ib+k):=by
 rw[Array.toList_append,PY];exact m.takeB sb (by rw[Array.length_toList];exact hk) h
theorem Cd{a:Array Keyed}{i:Nat}{x:Keyed}(h:x∈a.toList.drop i):∃j,i+j<a.size/\x=a.getD (i+j) default:=by
 obtain⟨j,hj,e⟩:=List.getElem_of_mem h;rw[List.length_drop,Array.length_toList]at hj;refine⟨j,by lia,?_⟩;rw[List.getElem_drop]at e;rw[<-e];have:i+j<a.size:=by lia
 simp[Array.getD,this]
theorem AR{a:Array Keyed}{i k:Nat}{x:Keyed}(h:x∈(a.toList.drop i).take k):∃j,j<k/\i+j<a.size/\x=a.getD (i+j) default:=by
 obtain⟨j,hj,e⟩:=List.getElem_of_mem h;rw[List.length_take,List.length_drop,Array.length_toList]at hj;refine⟨j,by lia,by lia,?_⟩;rw[List.getElem_take,List.getElem_drop]at e;rw[<-e];have:i+j<a.size:=by lia
 simp[Array.getD,this]
theorem Gg{a:Array Keyed}{i:Nat}{x:Keyed}(h:a[i]?=some x):a.getD i default=x:=by rw[Array.getD_eq_getD_getElem?,h];rfl
theorem Kx{kd:SortKind}{κ:Keyed->Int}{S:Keyed->Prop}{a b:Array Keyed}{st:SortSt}{Q:Array Keyed->SortSt->Prop}(L:LtG M A E s kd κ S)(hk:kindOf st=kd)(ha:0<a.size)(hb:0<b.size)(hSa:∀x∈a.toList,S x)(hSb:∀x∈b.toList,S x)
  (sa:Rise κ a.toList) (sb:Rise κ b.toList) (hf:∀x∈b.toList.take 1,∀y∈a.toList,κ x<=κ y) (hl:∀x∈b.toList,∀y∈a.toList.drop (a.size-1),κ x<=κ y)
  (h:∀r st',Bb κ a b r->CL st st'->Q r st'):wpS M A E s (P4 a b) Q st:=by
 refine wpS_bind (wpS_lift (wpAny_rule ⟨rfl,?_⟩));obtain⟨b0,eb0,mb0,db0⟩:=CJ hb;have lk0:CL st st:=⟨rfl,rfl,rfl,rfl⟩;have m0:MI κ a.toList b.toList (#[b0]:Array Keyed).toList 0 1:=by
  have:=(MI.start (κ:=κ) a.toList b.toList).takeB sb (k:=1) (by rw[Array.length_toList];lia) (λ x hx y hy=>hf x (by simpa using hx) y (by simpa using hy));rw[db0]at this
  simpa using this
 refine wpS_bind (Ai eb0 ?_);dsimp only;by_cases h1:1=b.size
 .rw[if_pos (beq_iff_eq.mpr h1)];exact wpS_pure (h _ _ (AL m0 sa sb (.inl h1)) lk0)
 rw[if_neg (λ z=>h1 (beq_iff_eq.mp z))];by_cases h2:0+1=a.size
 .rw[if_pos (beq_iff_eq.mpr h2)];exact wpS_pure (h _ _ (AK m0 sa sb (by rw[show(0:Nat)=a.size-1 by lia];exact hl)) lk0)
 rw[if_neg (λ z=>h2 (beq_iff_eq.mp z))];refine wpS_bind (wpS_get ?_);refine wpS_bind (wpS_mono (wpS_forRange (I:=λ x (c:Option (Array Keyed)×Array Keyed×Nat×Nat×Nat) st'=>c.1=none/\GoL κ a b c.2.1 c.2.2.1 c.2.2.2.1/\x+1<=c.2.2.1+c.2.2.2.1/\CL st st')
  (Q:=λ(c:Option (Array Keyed)×Array Keyed×Nat×Nat×Nat) st'=>CL st st'/\∃r,c.1=some r/\Bb κ a b r) ?ostep ?ofin (And.intro rfl ⟨⟨m0,by show 0+1<a.size;lia,by show 1<b.size;lia⟩,by show 0+1<=0+1;lia,lk0⟩)) ?opost)
 case ofin =>
  rintro⟨r,out,ia,ib,mg⟩ st1 ⟨e1,go,hge,lk⟩;have hge:max 0 (a.size+b.size)+1<=ia+ib:=hge;have l1:ia+1<a.size:=go.la;have l2:ib<b.size:=go.lb;lia
 case opost =>
  rintro⟨r,out,ia,ib,mg⟩ st1 ⟨lk,r',e1,mr⟩;have e1:r=some r':=e1;subst e1;exact wpS_pure (h _ _ mr lk)
 case ostep =>
  rintro x ⟨r,out,ia,ib,mg⟩ st1 _ hx ⟨e1,go,hge,lk⟩;have e1:r=none:=e1;subst e1;have hge:x+1<=ia+ib:=hge;dsimp only;refine wpS_bind (wpS_mono (wpS_forRange (I:=λ y (c:Option (Array Keyed)×Array Keyed×Nat×Nat×Nat×Nat) st'=>c.1=none/\GoL κ a b c.2.1 c.2.2.1 c.2.2.2.1/\c.2.2.1+c.2.2.2.1=ia+ib+y/\CL st st')
   (Q:=λ(c:Option (Array Keyed)×Array Keyed×Nat×Nat×Nat×Nat) st'=>CL st st'/\((∃r,c.1=some r/\Bb κ a b r)\/(c.1=none/\GoL κ a b c.2.1 c.2.2.1 c.2.2.2.1/\ia+ib+1<=c.2.2.1+c.2.2.2.1))) ?istep ?ifin (And.intro rfl ⟨go,rfl,lk⟩)) ?ipost)
  case ifin =>
   rintro⟨r,out,ia',ib',ac,bc⟩ st2 ⟨e1,go',hs,lk'⟩;have hs:ia'+ib'=ia+ib+max 0 (a.size+b.size):=hs;exact And.intro lk' (.inr ⟨e1,go',by show ia+ib+1<=ia'+ib';lia⟩)
  case istep =>
   rintro y ⟨r,out',ia',ib',ac,bc⟩ st2 _ hy ⟨e1,go',hs,lk'⟩;have e1:r=none:=e1;subst e1;have go':GoL κ a b out' ia' ib':=go';have hs:ia'+ib'=ia+ib+y:=hs;have l1:=go'.la;have l2:=go'.lb;dsimp only;obtain⟨xb,exb,mb,db⟩:=CJ l2;obtain⟨xa,exa,ma,da⟩:=CJ (show ia'<a.size by lia);refine wpS_bind (Ai exb (wpS_bind (Ai exa (wpS_bind (L xb xa (hSb _ mb) (hSa _ ma) st2 _ (lk'.kd.trans hk) ?_)))));dsimp only;by_cases hlt:κ xb<κ xa
   .rw[decide_eq_true hlt,if_pos rfl];refine wpS_bind (Ai exb ?_);have mi':=go'.stepB sa sb db da (Int.le_of_lt hlt);by_cases q1:ib'+1=b.size
    .rw[if_pos (beq_iff_eq.mpr q1)];exact wpS_pure (And.intro lk' (.inl ⟨_,rfl,AL mi' sa sb (.inl q1)⟩))
    .rw[if_neg (λ z=>q1 (beq_iff_eq.mp z))];have gn:GoL κ a b (out'.push xb) ia' (ib'+1):=⟨mi',l1,by lia⟩;split
     .exact wpS_pure (And.intro lk' (.inr ⟨rfl,gn,by show ia+ib+1<=ia'+(ib'+1);lia⟩))
     .exact wpS_pure (And.intro rfl ⟨gn,by show ia'+(ib'+1)=ia+ib+(y+1);lia,lk'⟩)
   .rw[decide_eq_false hlt,if_neg Bool.false_ne_true];refine wpS_bind (Ai exa ?_);have mi':=go'.stepA sa sb db da (by lia);by_cases q1:ia'+1+1=a.size
    .rw[if_pos (beq_iff_eq.mpr q1)];exact wpS_pure (And.intro lk' (.inl ⟨_,rfl,AK mi' sa sb (by rw[show ia'+1=a.size-1 by lia];exact hl)⟩))
    .rw[if_neg (λ z=>q1 (beq_iff_eq.mp z))];have gn:GoL κ a b (out'.push xa) (ia'+1) ib':=⟨mi',by lia,l2⟩;split
     .exact wpS_pure (And.intro lk' (.inr ⟨rfl,gn,by show ia+ib+1<=ia'+1+ib';lia⟩))
     .exact wpS_pure (And.intro rfl ⟨gn,by show ia'+1+ib'=ia+ib+(y+1);lia,lk'⟩)
  case ipost =>
   rintro⟨r,out',ia',ib',ac,bc⟩ st2 ⟨lk',hh⟩;rcases hh with ⟨r',e1,mr⟩|⟨e1,go',hs⟩
   .have e1:r=some r':=e1;subst e1;exact wpS_pure (And.intro lk' ⟨_,rfl,mr⟩)
   .have e1:r=none:=e1;subst e1;have go':GoL κ a b out' ia' ib':=go';have hs:ia+ib+1<=ia'+ib':=hs;dsimp only;refine wpS_bind (wpS_lift (wpAny_rule ⟨rfl,?_⟩));refine wpS_bind (wpS_mono (wpS_forRange (I:=λ y (c:Option (Array Keyed)×Array Keyed×Nat×Nat×Nat×Nat×Nat) st'=>c.1=none/\GoL κ a b c.2.1 c.2.2.1 c.2.2.2.1/\ia+ib+1<=c.2.2.1+c.2.2.2.1/\CL st st')
     (Q:=λ(c:Option (Array Keyed)×Array Keyed×Nat×Nat×Nat×Nat×Nat) st'=>CL st st'/\((∃r,c.1=some r/\Bb κ a b r)\/(c.1=none/\GoL κ a b c.2.1 c.2.2.1 c.2.2.2.1/\ia+ib+1<=c.2.2.1+c.2.2.2.1))) ?gstep ?gfin (And.intro rfl ⟨go',hs,lk'⟩)) ?gpost)
    case gfin =>
     rintro⟨r,out,ia2,ib2,mg2,ac,bc⟩ st3 ⟨e1,go2,hs2,lk2⟩;exact And.intro lk2 (.inr ⟨e1,go2,hs2⟩)
    case gpost =>
     rintro⟨r,out,ia2,ib2,mg2,ac,bc⟩ st3 ⟨lk2,hh2⟩;rcases hh2 with ⟨r',e1,mr⟩|⟨e1,go2,hs2⟩
     .have e1:r=some r':=e1;subst e1;exact wpS_pure (And.intro lk2 ⟨_,rfl,mr⟩)
     .have e1:r=none:=e1;subst e1;have hs2:ia+ib+1<=ia2+ib2:=hs2;refine wpS_bind (wpS_modify ?_);exact wpS_pure (And.intro rfl ⟨go2,by show x+1+1<=ia2+ib2;lia,⟨lk2.kd,lk2.ar,lk2.pe,lk2.fa⟩⟩)
    case gstep =>
     rintro y ⟨r,out2,ia2,ib2,mg2,ac,bc⟩ st3 _ hy ⟨e1,go2,hs2,lk2⟩;have e1:r=none:=e1;subst e1;have go2:GoL κ a b out2 ia2 ib2:=go2;have hs2:ia+ib+1<=ia2+ib2:=hs2;dsimp only;have l1:=go2.la;have l2:=go2.lb;have inA:∀i,i<a.size->∃x,a[i]?=some x/\S x:=λ i hi=>by
      obtain⟨x,e,m,_⟩:=CJ hi;exact⟨x,e,hSa x m⟩
     have inB:∀i,i<b.size->∃x,b[i]?=some x/\S x:=λ i hi=>by
      obtain⟨x,e,m,_⟩:=CJ hi;exact⟨x,e,hSb x m⟩
     by_cases hm:mg2>1
     .rw[if_pos hm];refine wpS_bind (wpS_modify ?_);have lkN:CL st (SortSt.mk' (kindOf st3) (arrOf st3) (pendingOf st3) (mg2-1) (failedOf st3)):=⟨lk2.kd,lk2.ar,lk2.pe,lk2.fa⟩;obtain⟨xb,exb,mb,db⟩:=CJ l2;refine wpS_bind (Ai exb (wpS_bind (AG (B:=λ i=>!decide (κ xb<κ (a.getD (ia2+i) default))) (lkN.kd.trans hk) (HE L (hSb _ mb) (λ i hi=>inA _ (by lia))) (λ i j hij hj hB=>?_) (by lia) λ k hk' f1 f2=>?_)))
      .have h3:=Bj sa (i:=ia2+i) (j:=ia2+j) (by lia) (by lia);simp only[Bool.not_eq_true',decide_eq_false_iff_not]at hB |-;lia
      have u1:∀z∈(a.toList.drop ia2).take k,∀w∈b.toList.drop ib2,κ z<=κ w:=λ z hz w hw=>by
       obtain⟨j,j1,j2,rfl⟩:=AR hz;have h3:=f1 j j1;simp only[Bool.not_eq_true',decide_eq_false_iff_not]at h3;have h4:=B7 sb db w hw;lia
      have u2:∀w∈a.toList.drop (ia2+k),κ xb<=κ w:=λ w hw=>by
       obtain⟨j,j1,rfl⟩:=Cd hw;have h3:=f2 (k+j) (by lia) (by lia);simp only[Bool.not_eq_false',decide_eq_true_eq]at h3;rw[<-Nat.add_assoc]at h3;lia
      dsimp only;by_cases p0:k>0
      .rw[if_pos p0];have m2:=go2.mi.extA sa (k:=k) (by lia) u1;by_cases q1:ia2+k+1=a.size
       .rw[if_pos (beq_iff_eq.mpr q1)];exact wpS_pure (And.intro lkN (.inl ⟨_,rfl,AK m2 sa sb (by rw[show ia2+k=a.size-1 by lia];exact hl)⟩))
       .rw[if_neg (λ z=>q1 (beq_iff_eq.mp z))];by_cases q2:ia2+k=a.size
        .rw[if_pos (beq_iff_eq.mpr q2)];exact wpS_pure (And.intro lkN (.inl ⟨_,rfl,AL m2 sa sb (.inr q2)⟩))
        .rw[if_neg (λ z=>q2 (beq_iff_eq.mp z))];have kB:=u2;refine wpS_bind (Ai exb ?_);have m3:=m2.pushB sb l2 db kB;by_cases q3:ib2+1=b.size
         .rw[if_pos (beq_iff_eq.mpr q3)];exact wpS_pure (And.intro lkN (.inl ⟨_,rfl,AL m3 sa sb (.inl q3)⟩))
         .rw[if_neg (λ z=>q3 (beq_iff_eq.mp z))];obtain⟨xa,exa,ma,da⟩:=CJ (show ia2+k<a.size by lia);refine wpS_bind (Ai exa (wpS_bind (AG (B:=λ i=>decide (κ (b.getD (ib2+1+i) default)<κ xa)) (lkN.kd.trans hk) (Du L (hSa _ ma) (λ i hi=>inB _ (by lia))) (λ i j hij hj hB=>decide_eq_true (Int.lt_of_le_of_lt (Bj sb (by lia) (by lia)) (of_decide_eq_true hB))) (by lia) λ k1 hk1 g1 g2=>?_)));have t1:∀z∈(b.toList.drop (ib2+1)).take k1,∀w∈a.toList.drop (ia2+k),κ z<=κ w:=λ z hz w hw=>by
           obtain⟨j,j1,j2,rfl⟩:=AR hz;exact Int.le_trans (Int.le_of_lt (of_decide_eq_true (g1 j j1))) (B7 sa da w hw)
          have t2:∀w∈b.toList.drop (ib2+1+k1),κ xa<=κ w:=λ w hw=>by
           obtain⟨j,j1,rfl⟩:=Cd hw;have:=of_decide_eq_false (g2 (k1+j) (by lia) (by lia));rw[<-Nat.add_assoc]at this;lia
          dsimp only;by_cases p1:k1>0
          .rw[if_pos p1];have m4:=m3.extB sb (k:=k1) (by lia) t1;by_cases q4:ib2+1+k1=b.size
           .rw[if_pos (beq_iff_eq.mpr q4)];exact wpS_pure (And.intro lkN (.inl ⟨_,rfl,AL m4 sa sb (.inl q4)⟩))
           .rw[if_neg (λ z=>q4 (beq_iff_eq.mp z))];have kA:=t2;refine wpS_bind (Ai exa ?_);have m5:=m4.pushA sa (by lia) da kA;by_cases q5:ia2+k+1+1=a.size
            .rw[if_pos (beq_iff_eq.mpr q5)];exact wpS_pure (And.intro lkN (.inl ⟨_,rfl,AK m5 sa sb (by rw[show ia2+k+1=a.size-1 by lia];exact hl)⟩))
            .rw[if_neg (λ z=>q5 (beq_iff_eq.mp z))];have gn:GoL κ a b _ (ia2+k+1) (ib2+1+k1):=⟨m5,by lia,by lia⟩;split
             .exact wpS_pure (And.intro lkN (.inr ⟨rfl,gn,by show ia+ib+1<=ia2+k+1+(ib2+1+k1);lia⟩))
             .exact wpS_pure (And.intro rfl ⟨gn,by show ia+ib+1<=ia2+k+1+(ib2+1+k1);lia,lkN⟩)
          .rw[if_neg p1];have k10:k1=0:=by lia
           subst k10;have kA:∀w∈b.toList.drop (ib2+1),κ xa<=κ w:=t2;refine wpS_bind (Ai exa ?_);have m5:=m3.pushA sa (by lia) da kA;by_cases q5:ia2+k+1+1=a.size
           .rw[if_pos (beq_iff_eq.mpr q5)];exact wpS_pure (And.intro lkN (.inl ⟨_,rfl,AK m5 sa sb (by rw[show ia2+k+1=a.size-1 by lia];exact hl)⟩))
           .rw[if_neg (λ z=>q5 (beq_iff_eq.mp z))];have gn:GoL κ a b _ (ia2+k+1) (ib2+1):=⟨m5,by lia,by lia⟩;split
            .exact wpS_pure (And.intro lkN (.inr ⟨rfl,gn,by show ia+ib+1<=ia2+k+1+(ib2+1);lia⟩))
            .exact wpS_pure (And.intro rfl ⟨gn,by show ia+ib+1<=ia2+k+1+(ib2+1);lia,lkN⟩)
      .rw[if_neg p0];have k00:k=0:=by lia
       subst k00;have kB:∀w∈a.toList.drop ia2,κ xb<=κ w:=u2;have mi2:=go2.mi;refine wpS_bind (Ai exb ?_);have m3:=mi2.pushB sb l2 db kB;by_cases q3:ib2+1=b.size
       .rw[if_pos (beq_iff_eq.mpr q3)];exact wpS_pure (And.intro lkN (.inl ⟨_,rfl,AL m3 sa sb (.inl q3)⟩))
       .rw[if_neg (λ z=>q3 (beq_iff_eq.mp z))];obtain⟨xa,exa,ma,da⟩:=CJ (show ia2<a.size by lia);refine wpS_bind (Ai exa (wpS_bind (AG (B:=λ i=>decide (κ (b.getD (ib2+1+i) default)<κ xa)) (lkN.kd.trans hk) (Du L (hSa _ ma) (λ i hi=>inB _ (by lia))) (λ i j hij hj hB=>decide_eq_true (Int.lt_of_le_of_lt (Bj sb (by lia) (by lia)) (of_decide_eq_true hB))) (by lia) λ k1 hk1 g1 g2=>?_)));have t1:∀z∈(b.toList.drop (ib2+1)).take k1,∀w∈a.toList.drop (ia2),κ z<=κ w:=λ z hz w hw=>by
         obtain⟨j,j1,j2,rfl⟩:=AR hz;exact Int.le_trans (Int.le_of_lt (of_decide_eq_true (g1 j j1))) (B7 sa da w hw)
        have t2:∀w∈b.toList.drop (ib2+1+k1),κ xa<=κ w:=λ w hw=>by
         obtain⟨j,j1,rfl⟩:=Cd hw;have:=of_decide_eq_false (g2 (k1+j) (by lia) (by lia));rw[<-Nat.add_assoc]at this;lia
        dsimp only;by_cases p1:k1>0
        .rw[if_pos p1];have m4:=m3.extB sb (k:=k1) (by lia) t1;by_cases q4:ib2+1+k1=b.size
         .rw[if_pos (beq_iff_eq.mpr q4)];exact wpS_pure (And.intro lkN (.inl ⟨_,rfl,AL m4 sa sb (.inl q4)⟩))
         .rw[if_neg (λ z=>q4 (beq_iff_eq.mp z))];have kA:=t2;refine wpS_bind (Ai exa ?_);have m5:=m4.pushA sa (by lia) da kA;by_cases q5:ia2+1+1=a.size
          .rw[if_pos (beq_iff_eq.mpr q5)];exact wpS_pure (And.intro lkN (.inl ⟨_,rfl,AK m5 sa sb (by rw[show ia2+1=a.size-1 by lia];exact hl)⟩))
          .rw[if_neg (λ z=>q5 (beq_iff_eq.mp z))];have gn:GoL κ a b _ (ia2+1) (ib2+1+k1):=⟨m5,by lia,by lia⟩;split
           .exact wpS_pure (And.intro lkN (.inr ⟨rfl,gn,by show ia+ib+1<=ia2+1+(ib2+1+k1);lia⟩))
           .exact wpS_pure (And.intro rfl ⟨gn,by show ia+ib+1<=ia2+1+(ib2+1+k1);lia,lkN⟩)
        .rw[if_neg p1];have k10:k1=0:=by lia
         subst k10;have kA:∀w∈b.toList.drop (ib2+1),κ xa<=κ w:=t2;refine wpS_bind (Ai exa ?_);have m5:=m3.pushA sa (by lia) da kA;by_cases q5:ia2+1+1=a.size
         .rw[if_pos (beq_iff_eq.mpr q5)];exact wpS_pure (And.intro lkN (.inl ⟨_,rfl,AK m5 sa sb (by rw[show ia2+1=a.size-1 by lia];exact hl)⟩))
         .rw[if_neg (λ z=>q5 (beq_iff_eq.mp z))];have gn:GoL κ a b _ (ia2+1) (ib2+1):=⟨m5,by lia,by lia⟩;split
          .exact wpS_pure (And.intro lkN (.inr ⟨rfl,gn,by show ia+ib+1<=ia2+1+(ib2+1);lia⟩))
          .exact wpS_pure (And.intro rfl ⟨gn,by show ia+ib+1<=ia2+1+(ib2+1);lia,lkN⟩)
     .rw[if_neg hm];refine wpS_bind (wpS_modify ?_);have lkN:CL st (SortSt.mk' (kindOf st3) (arrOf st3) (pendingOf st3) mg2 (failedOf st3)):=⟨lk2.kd,lk2.ar,lk2.pe,lk2.fa⟩;obtain⟨xb,exb,mb,db⟩:=CJ l2;refine wpS_bind (Ai exb (wpS_bind (AG (B:=λ i=>!decide (κ xb<κ (a.getD (ia2+i) default))) (lkN.kd.trans hk) (HE L (hSb _ mb) (λ i hi=>inA _ (by lia))) (λ i j hij hj hB=>?_) (by lia) λ k hk' f1 f2=>?_)))
      .have h3:=Bj sa (i:=ia2+i) (j:=ia2+j) (by lia) (by lia);simp only[Bool.not_eq_true',decide_eq_false_iff_not]at hB |-;lia
      have u1:∀z∈(a.toList.drop ia2).take k,∀w∈b.toList.drop ib2,κ z<=κ w:=λ z hz w hw=>by
       obtain⟨j,j1,j2,rfl⟩:=AR hz;have h3:=f1 j j1;simp only[Bool.not_eq_true',decide_eq_false_iff_not]at h3;have h4:=B7 sb db w hw;lia
      have u2:∀w∈a.toList.drop (ia2+k),κ xb<=κ w:=λ w hw=>by
       obtain⟨j,j1,rfl⟩:=Cd hw;have h3:=f2 (k+j) (by lia) (by lia);simp only[Bool.not_eq_false',decide_eq_true_eq]at h3;rw[<-Nat.add_assoc]at h3;lia
      dsimp only;by_cases p0:k>0
      .rw[if_pos p0];have m2:=go2.mi.extA sa (k:=k) (by lia) u1;by_cases q1:ia2+k+1=a.size
       .rw[if_pos (beq_iff_eq.mpr q1)];exact wpS_pure (And.intro lkN (.inl ⟨_,rfl,AK m2 sa sb (by rw[show ia2+k=a.size-1 by lia];exact hl)⟩))
       .rw[if_neg (λ z=>q1 (beq_iff_eq.mp z))];by_cases q2:ia2+k=a.size
        .rw[if_pos (beq_iff_eq.mpr q2)];exact wpS_pure (And.intro lkN (.inl ⟨_,rfl,AL m2 sa sb (.inr q2)⟩))
        .rw[if_neg (λ z=>q2 (beq_iff_eq.mp z))];have kB:=u2;refine wpS_bind (Ai exb ?_);have m3:=m2.pushB sb l2 db kB;by_cases q3:ib2+1=b.size
         .rw[if_pos (beq_iff_eq.mpr q3)];exact wpS_pure (And.intro lkN (.inl ⟨_,rfl,AL m3 sa sb (.inl q3)⟩))
         .rw[if_neg (λ z=>q3 (beq_iff_eq.mp z))];obtain⟨xa,exa,ma,da⟩:=CJ (show ia2+k<a.size by lia);refine wpS_bind (Ai exa (wpS_bind (AG (B:=λ i=>decide (κ (b.getD (ib2+1+i) default)<κ xa)) (lkN.kd.trans hk) (Du L (hSa _ ma) (λ i hi=>inB _ (by lia))) (λ i j hij hj hB=>decide_eq_true (Int.lt_of_le_of_lt (Bj sb (by lia) (by lia)) (of_decide_eq_true hB))) (by lia) λ k1 hk1 g1 g2=>?_)));have t1:∀z∈(b.toList.drop (ib2+1)).take k1,∀w∈a.toList.drop (ia2+k),κ z<=κ w:=λ z hz w hw=>by
           obtain⟨j,j1,j2,rfl⟩:=AR hz;exact Int.le_trans (Int.le_of_lt (of_decide_eq_true (g1 j j1))) (B7 sa da w hw)
          have t2:∀w∈b.toList.drop (ib2+1+k1),κ xa<=κ w:=λ w hw=>by
           obtain⟨j,j1,rfl⟩:=Cd hw;have:=of_decide_eq_false (g2 (k1+j) (by lia) (by lia));rw[<-Nat.add_assoc]at this;lia
          dsimp only;by_cases p1:k1>0
          .rw[if_pos p1];have m4:=m3.extB sb (k:=k1) (by lia) t1;by_cases q4:ib2+1+k1=b.size
           .rw[if_pos (beq_iff_eq.mpr q4)];exact wpS_pure (And.intro lkN (.inl ⟨_,rfl,AL m4 sa sb (.inl q4)⟩))
           .rw[if_neg (λ z=>q4 (beq_iff_eq.mp z))];have kA:=t2;refine wpS_bind (Ai exa ?_);have m5:=m4.pushA sa (by lia) da kA;by_cases q5:ia2+k+1+1=a.size
            .rw[if_pos (beq_iff_eq.mpr q5)];exact wpS_pure (And.intro lkN (.inl ⟨_,rfl,AK m5 sa sb (by rw[show ia2+k+1=a.size-1 by lia];exact hl)⟩))
            .rw[if_neg (λ z=>q5 (beq_iff_eq.mp z))];have gn:GoL κ a b _ (ia2+k+1) (ib2+1+k1):=⟨m5,by lia,by lia⟩;split
             .exact wpS_pure (And.intro lkN (.inr ⟨rfl,gn,by show ia+ib+1<=ia2+k+1+(ib2+1+k1);lia⟩))
             .exact wpS_pure (And.intro rfl ⟨gn,by show ia+ib+1<=ia2+k+1+(ib2+1+k1);lia,lkN⟩)
          .rw[if_neg p1];have k10:k1=0:=by lia
           subst k10;have kA:∀w∈b.toList.drop (ib2+1),κ xa<=κ w:=t2;refine wpS_bind (Ai exa ?_);have m5:=m3.pushA sa (by lia) da kA;by_cases q5:ia2+k+1+1=a.size
           .rw[if_pos (beq_iff_eq.mpr q5)];exact wpS_pure (And.intro lkN (.inl ⟨_,rfl,AK m5 sa sb (by rw[show ia2+k+1=a.size-1 by lia];exact hl)⟩))
           .rw[if_neg (λ z=>q5 (beq_iff_eq.mp z))];have gn:GoL κ a b _ (ia2+k+1) (ib2+1):=⟨m5,by lia,by lia⟩;split
            .exact wpS_pure (And.intro lkN (.inr ⟨rfl,gn,by show ia+ib+1<=ia2+k+1+(ib2+1);lia⟩))
            .exact wpS_pure (And.intro rfl ⟨gn,by show ia+ib+1<=ia2+k+1+(ib2+1);lia,lkN⟩)
      .rw[if_neg p0];have k00:k=0:=by lia
       subst k00;have kB:∀w∈a.toList.drop ia2,κ xb<=κ w:=u2;have mi2:=go2.mi;refine wpS_bind (Ai exb ?_);have m3:=mi2.pushB sb l2 db kB;by_cases q3:ib2+1=b.size
       .rw[if_pos (beq_iff_eq.mpr q3)];exact wpS_pure (And.intro lkN (.inl ⟨_,rfl,AL m3 sa sb (.inl q3)⟩))
       .rw[if_neg (λ z=>q3 (beq_iff_eq.mp z))];obtain⟨xa,exa,ma,da⟩:=CJ (show ia2<a.size by lia);refine wpS_bind (Ai exa (wpS_bind (AG (B:=λ i=>decide (κ (b.getD (ib2+1+i) default)<κ xa)) (lkN.kd.trans hk) (Du L (hSa _ ma) (λ i hi=>inB _ (by lia))) (λ i j hij hj hB=>decide_eq_true (Int.lt_of_le_of_lt (Bj sb (by lia) (by lia)) (of_decide_eq_true hB))) (by lia) λ k1 hk1 g1 g2=>?_)));have t1:∀z∈(b.toList.drop (ib2+1)).take k1,∀w∈a.toList.drop (ia2),κ z<=κ w:=λ z hz w hw=>by
         obtain⟨j,j1,j2,rfl⟩:=AR hz;exact Int.le_trans (Int.le_of_lt (of_decide_eq_true (g1 j j1))) (B7 sa da w hw)
        have t2:∀w∈b.toList.drop (ib2+1+k1),κ xa<=κ w:=λ w hw=>by
         obtain⟨j,j1,rfl⟩:=Cd hw;have:=of_decide_eq_false (g2 (k1+j) (by lia) (by lia));rw[<-Nat.add_assoc]at this;lia
        dsimp only;by_cases p1:k1>0
        .rw[if_pos p1];have m4:=m3.extB sb (k:=k1) (by lia) t1;by_cases q4:ib2+1+k1=b.size
         .rw[if_pos (beq_iff_eq.mpr q4)];exact wpS_pure (And.intro lkN (.inl ⟨_,rfl,AL m4 sa sb (.inl q4)⟩))
         .rw[if_neg (λ z=>q4 (beq_iff_eq.mp z))];have kA:=t2;refine wpS_bind (Ai exa ?_);have m5:=m4.pushA sa (by lia) da kA;by_cases q5:ia2+1+1=a.size
          .rw[if_pos (beq_iff_eq.mpr q5)];exact wpS_pure (And.intro lkN (.inl ⟨_,rfl,AK m5 sa sb (by rw[show ia2+1=a.size-1 by lia];exact hl)⟩))
          .rw[if_neg (λ z=>q5 (beq_iff_eq.mp z))];have gn:GoL κ a b _ (ia2+1) (ib2+1+k1):=⟨m5,by lia,by lia⟩;split
           .exact wpS_pure (And.intro lkN (.inr ⟨rfl,gn,by show ia+ib+1<=ia2+1+(ib2+1+k1);lia⟩))
           .exact wpS_pure (And.intro rfl ⟨gn,by show ia+ib+1<=ia2+1+(ib2+1+k1);lia,lkN⟩)
        .rw[if_neg p1];have k10:k1=0:=by lia
         subst k10;have kA:∀w∈b.toList.drop (ib2+1),κ xa<=κ w:=t2;refine wpS_bind (Ai exa ?_);have m5:=m3.pushA sa (by lia) da kA;by_cases q5:ia2+1+1=a.size
         .rw[if_pos (beq_iff_eq.mpr q5)];exact wpS_pure (And.intro lkN (.inl ⟨_,rfl,AK m5 sa sb (by rw[show ia2+1=a.size-1 by lia];exact hl)⟩))
         .rw[if_neg (λ z=>q5 (beq_iff_eq.mp z))];have gn:GoL κ a b _ (ia2+1) (ib2+1):=⟨m5,by lia,by lia⟩;split
          .exact wpS_pure (And.intro lkN (.inr ⟨rfl,gn,by show ia+ib+1<=ia2+1+(ib2+1);lia⟩))
          .exact wpS_pure (And.intro rfl ⟨gn,by show ia+ib+1<=ia2+1+(ib2+1);lia,lkN⟩)
end
section
variable{α:Type}{κ:α->Int}
structure MH(κ:α->Int)(a b out:List α)(na nb:Nat):Prop where
 pm:(a.take na++b.take nb++out).Perm (a++b)
 so:Rise κ out
 le:∀x∈a.take na++b.take nb,∀y∈out,κ x<=κ y
 la:na<=a.length
 lb:nb<=b.length
theorem Rise.take{xs:List α}(h:Rise κ xs)(n:Nat):Rise κ (xs.take n):=List.Pairwise.sublist (List.take_sublist n xs) h
theorem Ej(xs:List α){m n:Nat}(h:m<=n):xs.take n=xs.take m++(xs.take n).drop m:=by
 have:=(List.take_append_drop m (xs.take n)).symm;rw[List.take_take,Nat.min_eq_left h]at this;exact this
theorem MH.start(a b:List α):MH κ a b [] a.length b.length:=⟨by simp,List.Pairwise.nil,λ x _ y h=>absurd h List.not_mem_nil,Nat.le_refl _,Nat.le_refl _⟩
theorem MH.takeA{a b out:List α}{na nb m:Nat}(q:MH κ a b out na nb)(sa:Rise κ a)(hm:m<=na)(h:∀x∈b.take nb,∀y∈(a.take na).drop m,κ x<=κ y):MH κ a b ((a.take na).drop m++out) m nb:=by
 have e:=Ej a hm;have sd:=sa.take na;rw[e]at sd;obtain⟨s1,s2,s3⟩:=List.pairwise_append.mp sd;have inn:∀y∈(a.take na).drop m,y∈a.take na:=λ y hy=>List.mem_of_mem_drop hy;have in1:∀y∈a.take m,y∈a.take na:=λ y hy=>by rw[e];exact List.mem_append_left _ hy
 refine⟨?_,Rise.app s2 q.so λ x hx y hy=>q.le x (List.mem_append_left _ (inn x hx)) y hy,λ x hx y hy=>?_,by have:=q.la;lia,q.lb⟩
 .refine List.Perm.trans ?_ q.pm;rw[<-List.append_assoc];refine List.Perm.append_right out ?_;have e2:a.take na++b.take nb=a.take m++(a.take na).drop m++b.take nb:=by rw[<-e]
  rw[e2,List.append_assoc,List.append_assoc];exact List.Perm.append_left _ List.perm_append_comm
 .rcases List.mem_append.mp hy with hy|hy
  .rcases List.mem_append.mp hx with hx|hx
   .exact s3 x hx y hy
   .exact h x hx y hy
  .rcases List.mem_append.mp hx with hx|hx
   .exact q.le x (List.mem_append_left _ (in1 x hx)) y hy
   .exact q.le x (List.mem_append_right _ hx) y hy
theorem MH.takeB{a b out:List α}{na nb m:Nat}(q:MH κ a b out na nb)(sb:Rise κ b)(hm:m<=nb)(h:∀x∈a.take na,∀y∈(b.take nb).drop m,κ x<=κ y):MH κ a b ((b.take nb).drop m++out) na m:=by
 have e:=Ej b hm;have sd:=sb.take nb;rw[e]at sd;obtain⟨s1,s2,s3⟩:=List.pairwise_append.mp sd;have inn:∀y∈(b.take nb).drop m,y∈b.take nb:=λ y hy=>List.mem_of_mem_drop hy;have in1:∀y∈b.take m,y∈b.take nb:=λ y hy=>by rw[e];exact List.mem_append_left _ hy
 refine⟨?_,Rise.app s2 q.so λ x hx y hy=>q.le x (List.mem_append_right _ (inn x hx)) y hy,λ x hx y hy=>?_,q.la,by have:=q.lb;lia⟩
 .refine List.Perm.trans ?_ q.pm;rw[<-List.append_assoc];refine List.Perm.append_right out ?_;rw[List.append_assoc,<-e]
 .rcases List.mem_append.mp hy with hy|hy
  .rcases List.mem_append.mp hx with hx|hx
   .exact h x hx y hy
   .exact s3 x hx y hy
  .rcases List.mem_append.mp hx with hx|hx
   .exact q.le x (List.mem_append_left _ hx) y hy
   .exact q.le x (List.mem_append_right _ (in1 x hx)) y hy
theorem MH.done{a b out:List α}{na nb:Nat}(q:MH κ a b out na nb)(sa:Rise κ a)(sb:Rise κ b)(h:na=0\/nb=0):Rise κ (a.take na++b.take nb++out)/\(a.take na++b.take nb++out).Perm (a++b):=by
 refine⟨?_,q.pm⟩;refine Rise.app ((sa.take na).app (sb.take nb) λ x hx y hy=>?_) q.so q.le;rcases h with h|h
 .rw[h,List.take_zero]at hx;exact absurd hx List.not_mem_nil
 .rw[h,List.take_zero]at hy;exact absurd hy List.not_mem_nil
theorem MH.firstB{a b out:List α}{na nb:Nat}(q:MH κ a b out na nb)(sa:Rise κ a)(sb:Rise κ b)(h:∀x∈b.take nb,∀y∈a,κ x<=κ y):Rise κ (b.take nb++a.take na++out)/\(b.take nb++a.take na++out).Perm (a++b):=by
 refine⟨?_,?_⟩
 .refine Rise.app ((sb.take nb).app (sa.take na) λ x hx y hy=>h x hx y (List.mem_of_mem_take hy)) q.so λ x hx y hy=>q.le x ?_ y hy;rcases List.mem_append.mp hx with hx|hx
  .exact List.mem_append_right _ hx
  .exact List.mem_append_left _ hx
 .exact(List.Perm.append_right out List.perm_append_comm).trans q.pm
end
section
variable{M:Model}{A:Around}{E:VPz}{s:Shared}
def P5:Array Keyed->Array Keyed->StateT SortSt Sem (Array Keyed):=sortPriv% PySem.Builtin.mergeHi
theorem E8{α:Type}(a:Array α)(m n:Nat):(a.extract m n).toList=(a.toList.take n).drop m:=by
 rw[Array.toList_extract,List.extract_eq_drop_take,List.drop_take]
theorem Kb{κ:Keyed->Int}{a:Array Keyed}(sa:Rise κ a.toList){n:Nat}(h0:0<n)(h:n<=a.size):∃x,a[n-1]?=some x/\x∈a.toList/\(a.toList.take n).drop (n-1)=[x]/\∀y∈a.toList.take n,κ y<=κ x:=by
 obtain⟨x,e,m,d⟩:=CJ (show n-1<a.size by lia);have e2:(a.toList.take n).drop (n-1)=[x]:=by
  rw[List.drop_take,d,show n-(n-1)=1 by lia];rfl
 refine⟨x,e,m,e2,λ y hy=>?_⟩;have e3:=Ej a.toList (show n-1<=n by lia);have sd:=sa.take n;rw[e3]at sd hy;rw[e2]at sd hy;rcases List.mem_append.mp hy with hy|hy
 .exact(List.pairwise_append.mp sd).2.2 y hy x (by simp)
 .rw[List.mem_singleton.mp hy];exact Int.le_refl _
theorem MH.pushA{κ:Keyed->Int}{a b out:Array Keyed}{na nb:Nat}{x:Keyed}(m:MH κ a.toList b.toList out.toList.reverse na nb)(sa:Rise κ a.toList)(da:(a.toList.take na).drop (na-1)=[x])(h:∀w∈b.toList.take nb,κ w<=κ x):MH κ a.toList b.toList (out.push x).toList.reverse (na-1) nb:=by
 have:=m.takeA sa (m:=na-1) (by lia) (λ z hz w hw=>?_)
 .rw[da]at this;rw[Array.toList_push,List.reverse_append];exact this
 .rw[da]at hw;rw[List.mem_singleton.mp hw];exact h z hz
theorem MH.pushB{κ:Keyed->Int}{a b out:Array Keyed}{na nb:Nat}{x:Keyed}(m:MH κ a.toList b.toList out.toList.reverse na nb)(sb:Rise κ b.toList)(db:(b.toList.take nb).drop (nb-1)=[x])(h:∀w∈a.toList.take na,κ w<=κ x):MH κ a.toList b.toList (out.push x).toList.reverse na (nb-1):=by
 have:=m.takeB sb (m:=nb-1) (by lia) (λ z hz w hw=>?_)
 .rw[db]at this;rw[Array.toList_push,List.reverse_append];exact this
 .rw[db]at hw;rw[List.mem_singleton.mp hw];exact h z hz
theorem MH.extA{κ:Keyed->Int}{a b out:Array Keyed}{na nb m:Nat}(q:MH κ a.toList b.toList out.toList.reverse na nb)(sa:Rise κ a.toList)(hm:m<=na)(h:∀x∈b.toList.take nb,∀y∈(a.toList.take na).drop m,κ x<=κ y):MH κ a.toList b.toList (out++(a.extract m na).reverse).toList.reverse m nb:=by
 have:=q.takeA sa hm h;rw[Array.toList_append,List.reverse_append,Array.toList_reverse,List.reverse_reverse,E8];exact this
theorem MH.extB{κ:Keyed->Int}{a b out:Array Keyed}{na nb m:Nat}(q:MH κ a.toList b.toList out.toList.reverse na nb)(sb:Rise κ b.toList)(hm:m<=nb)(h:∀x∈a.toList.take na,∀y∈(b.toList.take nb).drop m,κ x<=κ y):MH κ a.toList b.toList (out++(b.extract m nb).reverse).toList.reverse na m:=by
 have:=q.takeB sb hm h;rw[Array.toList_append,List.reverse_append,Array.toList_reverse,List.reverse_reverse,E8];exact this
theorem Cb{a:Array Keyed}{n:Nat}{x:Keyed}(h:x∈a.toList.take n):∃j,j<n/\j<a.size/\x=a.getD (0+j) default:=by
 have h':x∈(a.toList.drop 0).take n:=by simpa using h
 obtain⟨j,h1,h2,h3⟩:=AR h';exact⟨j,h1,by lia,h3⟩
theorem DZ{a:Array Keyed}{m n:Nat}{x:Keyed}(hmn:m<=n)(h:x∈(a.toList.take n).drop m):∃j,m<=j/\j<n/\j<a.size/\x=a.getD (0+j) default:=by
 rw[List.drop_take]at h;obtain⟨j,h1,h2,h3⟩:=AR h;exact⟨m+j,by lia,by lia,h2,by rw[Nat.zero_add];exact h3⟩
structure GoH(κ:Keyed->Int)(a b out:Array Keyed)(na nb:Nat):Prop where
 mi:MH κ a.toList b.toList out.toList.reverse na nb
 la:0<na
 lb:1<nb
theorem A5{κ:Keyed->Int}{a b out:Array Keyed}{na nb:Nat}(m:MH κ a.toList b.toList out.toList.reverse na nb)(sa:Rise κ a.toList)(sb:Rise κ b.toList)(h:na=0\/nb=0):Bb κ a b (a.extract 0 na++b.extract 0 nb++out.reverse):=by
 have:=m.done sa sb h;unfold Bb;rw[Array.toList_append,Array.toList_append,E8,E8,Array.toList_reverse,List.drop_zero,List.drop_zero];exact this
theorem AF{κ:Keyed->Int}{a b out:Array Keyed}{na nb:Nat}(m:MH κ a.toList b.toList out.toList.reverse na nb)(sa:Rise κ a.toList)(sb:Rise κ b.toList)(h1:nb=1)(h:∀x∈b.toList.take 1,∀y∈a.toList,κ x<=κ y):Bb κ a b (b.extract 0 nb++a.extract 0 na++out.reverse):=by
 have:=m.firstB sa sb (by rw[h1];exact h);unfold Bb;rw[Array.toList_append,Array.toList_append,E8,E8,Array.toList_reverse,List.drop_zero,List.drop_zero];exact this
theorem Ky{kd:SortKind}{κ:Keyed->Int}{S:Keyed->Prop}{a b:Array Keyed}{st:SortSt}{Q:Array Keyed->SortSt->Prop}(L:LtG M A E s kd κ S)(hk:kindOf st=kd)(ha:0<a.size)(hb:0<b.size)(hSa:∀x∈a.toList,S x)(hSb:∀x∈b.toList,S x)
  (sa:Rise κ a.toList) (sb:Rise κ b.toList) (hf:∀x∈b.toList.take 1,∀y∈a.toList,κ x<=κ y) (hl:∀x∈b.toList,∀y∈a.toList.drop (a.size-1),κ x<=κ y)
  (h:∀r st',Bb κ a b r->CL st st'->Q r st'):wpS M A E s (P5 a b) Q st:=by
 refine wpS_bind (wpS_lift (wpAny_rule ⟨rfl,?_⟩));obtain⟨a0,ea0,ma0,da0,ra0⟩:=Kb sa ha (Nat.le_refl _);have lk0:CL st st:=⟨rfl,rfl,rfl,rfl⟩;have m0:MH κ a.toList b.toList (#[a0]:Array Keyed).toList.reverse (a.size-1) b.size:=by
  have:=(MH.start (κ:=κ) a.toList b.toList).takeA sa (m:=a.size-1) (by rw[Array.length_toList];lia) (λ x hx y hy=>hl x (List.mem_of_mem_take hx) y (by rw[List.take_length]at hy;exact hy));rw[Array.length_toList,Array.length_toList,da0]at this;exact this
 refine wpS_bind (Ai ea0 ?_);dsimp only;by_cases h1:a.size-1=0
 .rw[if_pos (beq_iff_eq.mpr h1)];exact wpS_pure (h _ _ (A5 m0 sa sb (.inl h1)) lk0)
 rw[if_neg (λ z=>h1 (beq_iff_eq.mp z))];by_cases h2:b.size=1
 .rw[if_pos (beq_iff_eq.mpr h2)];exact wpS_pure (h _ _ (AF m0 sa sb h2 hf) lk0)
 rw[if_neg (λ z=>h2 (beq_iff_eq.mp z))];refine wpS_bind (wpS_get ?_);refine wpS_bind (wpS_mono (wpS_forRange (I:=λ x (c:Option (Array Keyed)×Nat×Nat×Array Keyed×Nat) st'=>c.1=none/\GoH κ a b c.2.2.2.1 c.2.1 c.2.2.1/\c.2.1+c.2.2.1+x+1<=a.size+b.size/\CL st st')
  (Q:=λ(c:Option (Array Keyed)×Nat×Nat×Array Keyed×Nat) st'=>CL st st'/\∃r,c.1=some r/\Bb κ a b r) ?ostep ?ofin (And.intro rfl ⟨⟨m0,by show 0<a.size-1;lia,by show 1<b.size;lia⟩,by show a.size-1+b.size+0+1<=a.size+b.size;lia,lk0⟩)) ?opost)
 case ofin =>
  rintro⟨r,na,nb,out,mg⟩ st1 ⟨e1,go,hge,lk⟩;have hge:na+nb+max 0 (a.size+b.size)+1<=a.size+b.size:=hge;lia
 case opost =>
  rintro⟨r,na,nb,out,mg⟩ st1 ⟨lk,r',e1,mr⟩;have e1:r=some r':=e1;subst e1;exact wpS_pure (h _ _ mr lk)
 case ostep =>
  rintro x ⟨r,na,nb,out,mg⟩ st1 _ hx ⟨e1,go,hge,lk⟩;have e1:r=none:=e1;subst e1;have hge:na+nb+x+1<=a.size+b.size:=hge;dsimp only;refine wpS_bind (wpS_mono (wpS_forRange (I:=λ y (c:Option (Array Keyed)×Nat×Nat×Array Keyed×Nat×Nat) st'=>c.1=none/\GoH κ a b c.2.2.2.1 c.2.1 c.2.2.1/\c.2.1+c.2.2.1+y=na+nb/\CL st st')
   (Q:=λ(c:Option (Array Keyed)×Nat×Nat×Array Keyed×Nat×Nat) st'=>CL st st'/\((∃r,c.1=some r/\Bb κ a b r)\/(c.1=none/\GoH κ a b c.2.2.2.1 c.2.1 c.2.2.1/\c.2.1+c.2.2.1+1<=na+nb))) ?istep ?ifin (And.intro rfl ⟨go,rfl,lk⟩)) ?ipost)
  case ifin =>
   rintro⟨r,na',nb',out,ac,bc⟩ st2 ⟨e1,go',hs,lk'⟩;have hs:na'+nb'+max 0 (a.size+b.size)=na+nb:=hs;exact And.intro lk' (.inr ⟨e1,go',by show na'+nb'+1<=na+nb;lia⟩)
  case istep =>
   rintro y ⟨r,na',nb',out',ac,bc⟩ st2 _ hy ⟨e1,go',hs,lk'⟩;have e1:r=none:=e1;subst e1;have go':GoH κ a b out' na' nb':=go';have hs:na'+nb'+y=na+nb:=hs;have l1:=go'.la;have l2:=go'.lb;have l3:na'<=a.size:=by have:=go'.mi.la;rwa [Array.length_toList]at this
   have l4:nb'<=b.size:=by have:=go'.mi.lb;rwa [Array.length_toList]at this
   dsimp only;obtain⟨xb,exb,mb,db,rb⟩:=Kb sb (show 0<nb' by lia) l4;obtain⟨xa,exa,ma,da,ra⟩:=Kb sa l1 l3;refine wpS_bind (Ai exb (wpS_bind (Ai exa (wpS_bind (L xb xa (hSb _ mb) (hSa _ ma) st2 _ (lk'.kd.trans hk) ?_)))));dsimp only;by_cases hlt:κ xb<κ xa
   .rw[decide_eq_true hlt,if_pos rfl];refine wpS_bind (Ai exa ?_);have mi':=go'.mi.pushA sa da (λ w hw=>by have:=rb w hw;lia);by_cases q1:na'-1=0
    .rw[if_pos (beq_iff_eq.mpr q1)];exact wpS_pure (And.intro lk' (.inl ⟨_,rfl,A5 mi' sa sb (.inl q1)⟩))
    .rw[if_neg (λ z=>q1 (beq_iff_eq.mp z))];have gn:GoH κ a b (out'.push xa) (na'-1) nb':=⟨mi',by lia,l2⟩;split
     .exact wpS_pure (And.intro lk' (.inr ⟨rfl,gn,by show na'-1+nb'+1<=na+nb;lia⟩))
     .exact wpS_pure (And.intro rfl ⟨gn,by show na'-1+nb'+(y+1)=na+nb;lia,lk'⟩)
   .rw[decide_eq_false hlt,if_neg Bool.false_ne_true];refine wpS_bind (Ai exb ?_);have mi':=go'.mi.pushB sb db (λ w hw=>by have:=ra w hw;lia);by_cases q1:nb'-1=1
    .rw[if_pos (beq_iff_eq.mpr q1)];exact wpS_pure (And.intro lk' (.inl ⟨_,rfl,AF mi' sa sb q1 hf⟩))
    .rw[if_neg (λ z=>q1 (beq_iff_eq.mp z))];have gn:GoH κ a b (out'.push xb) na' (nb'-1):=⟨mi',l1,by lia⟩;split
     .exact wpS_pure (And.intro lk' (.inr ⟨rfl,gn,by show na'+(nb'-1)+1<=na+nb;lia⟩))
     .exact wpS_pure (And.intro rfl ⟨gn,by show na'+(nb'-1)+(y+1)=na+nb;lia,lk'⟩)
  case ipost =>
   rintro⟨r,na',nb',out',ac,bc⟩ st2 ⟨lk',hh⟩;rcases hh with ⟨r',e1,mr⟩|⟨e1,go',hs⟩
   .have e1:r=some r':=e1;subst e1;exact wpS_pure (And.intro lk' ⟨_,rfl,mr⟩)
   .have e1:r=none:=e1;subst e1;have go':GoH κ a b out' na' nb':=go';have hs:na'+nb'+1<=na+nb:=hs;dsimp only;refine wpS_bind (wpS_lift (wpAny_rule ⟨rfl,?_⟩));refine wpS_bind (wpS_mono (wpS_forRange (I:=λ y (c:Option (Array Keyed)×Nat×Nat×Array Keyed×Nat×Nat×Nat) st'=>c.1=none/\GoH κ a b c.2.2.2.1 c.2.1 c.2.2.1/\c.2.1+c.2.2.1+1<=na+nb/\CL st st')
     (Q:=λ(c:Option (Array Keyed)×Nat×Nat×Array Keyed×Nat×Nat×Nat) st'=>CL st st'/\((∃r,c.1=some r/\Bb κ a b r)\/(c.1=none/\GoH κ a b c.2.2.2.1 c.2.1 c.2.2.1/\c.2.1+c.2.2.1+1<=na+nb))) ?gstep ?gfin (And.intro rfl ⟨go',hs,lk'⟩)) ?gpost)
    case gfin =>
     rintro⟨r,na2,nb2,out,mg2,ac,bc⟩ st3 ⟨e1,go2,hs2,lk2⟩;exact And.intro lk2 (.inr ⟨e1,go2,hs2⟩)
    case gpost =>
     rintro⟨r,na2,nb2,out,mg2,ac,bc⟩ st3 ⟨lk2,hh2⟩;rcases hh2 with ⟨r',e1,mr⟩|⟨e1,go2,hs2⟩
     .have e1:r=some r':=e1;subst e1;exact wpS_pure (And.intro lk2 ⟨_,rfl,mr⟩)
     .have e1:r=none:=e1;subst e1;have hs2:na2+nb2+1<=na+nb:=hs2;refine wpS_bind (wpS_modify ?_);exact wpS_pure (And.intro rfl ⟨go2,by show na2+nb2+(x+1)+1<=a.size+b.size;lia,⟨lk2.kd,lk2.ar,lk2.pe,lk2.fa⟩⟩)
    case gstep =>
     rintro y ⟨r,na2,nb2,out2,mg2,ac,bc⟩ st3 _ hy ⟨e1,go2,hs2,lk2⟩;have e1:r=none:=e1;subst e1;have go2:GoH κ a b out2 na2 nb2:=go2;have hs2:na2+nb2+1<=na+nb:=hs2;dsimp only;have l1:=go2.la;have l2:=go2.lb;have l3:na2<=a.size:=by have:=go2.mi.la;rwa [Array.length_toList]at this
     have l4:nb2<=b.size:=by have:=go2.mi.lb;rwa [Array.length_toList]at this
     have inA:∀i,i<a.size->∃x,a[i]?=some x/\S x:=λ i hi=>by
      obtain⟨x,e,m,_⟩:=CJ hi;exact⟨x,e,hSa x m⟩
     have inB:∀i,i<b.size->∃x,b[i]?=some x/\S x:=λ i hi=>by
      obtain⟨x,e,m,_⟩:=CJ hi;exact⟨x,e,hSb x m⟩
     by_cases hm:mg2>1
     .rw[if_pos hm];refine wpS_bind (wpS_modify ?_);have lkN:CL st (SortSt.mk' (kindOf st3) (arrOf st3) (pendingOf st3) (mg2-1) (failedOf st3)):=⟨lk2.kd,lk2.ar,lk2.pe,lk2.fa⟩;obtain⟨xb,exb,mb,db,rb⟩:=Kb sb (show 0<nb2 by lia) l4;refine wpS_bind (Ai exb (wpS_bind (AG (B:=λ i=>!decide (κ xb<κ (a.getD (0+i) default))) (lkN.kd.trans hk) (HE L (hSb _ mb) (λ i hi=>inA _ (by lia))) (λ i j hij hj hB=>?_) (by lia) λ k hk' f1 f2=>?_)))
      .have h3:=Bj sa (i:=0+i) (j:=0+j) (by lia) (by lia);simp only[Bool.not_eq_true',decide_eq_false_iff_not]at hB |-;lia
      have u1:∀z∈b.toList.take nb2,∀w∈(a.toList.take na2).drop k,κ z<=κ w:=λ z hz w hw=>by
       obtain⟨j,j1,j2,j3,rfl⟩:=DZ hk' hw;have h3:=f2 j j1 j2;simp only[Bool.not_eq_false',decide_eq_true_eq]at h3;have h4:=rb z hz;lia
      have u2:∀w∈a.toList.take k,κ w<=κ xb:=λ w hw=>by
       obtain⟨j,j1,j2,rfl⟩:=Cb hw;have h3:=f1 j j1;simp only[Bool.not_eq_true',decide_eq_false_iff_not]at h3;lia
      dsimp only;by_cases p0:na2-k>0
      .rw[if_pos p0];have m2:=go2.mi.extA sa (m:=k) hk' u1;by_cases q1:k=0
       .rw[if_pos (beq_iff_eq.mpr q1)];exact wpS_pure (And.intro lkN (.inl ⟨_,rfl,A5 m2 sa sb (.inl q1)⟩))
       .rw[if_neg (λ z=>q1 (beq_iff_eq.mp z))];have kB:=u2;refine wpS_bind (Ai exb ?_);have m3:=m2.pushB sb db kB;by_cases q3:nb2-1=1
        .rw[if_pos (beq_iff_eq.mpr q3)];exact wpS_pure (And.intro lkN (.inl ⟨_,rfl,AF m3 sa sb q3 hf⟩))
        .rw[if_neg (λ z=>q3 (beq_iff_eq.mp z))];obtain⟨xa,exa,ma,da,ra⟩:=Kb sa (show 0<k by lia) (by lia);refine wpS_bind (Ai exa (wpS_bind (AG (B:=λ i=>decide (κ (b.getD (0+i) default)<κ xa)) (lkN.kd.trans hk) (Du L (hSa _ ma) (λ i hi=>inB _ (by lia))) (λ i j hij hj hB=>decide_eq_true (Int.lt_of_le_of_lt (Bj sb (by lia) (by lia)) (of_decide_eq_true hB))) (by lia) λ k1 hk1 g1 g2=>?_)));have t1:∀z∈a.toList.take (k),∀w∈(b.toList.take (nb2-1)).drop k1,κ z<=κ w:=λ z hz w hw=>by
          obtain⟨j,j1,j2,j3,rfl⟩:=DZ hk1 hw;have h3:=of_decide_eq_false (g2 j j1 j2);have h4:=ra z hz;lia
         have t2:∀w∈b.toList.take k1,κ w<=κ xa:=λ w hw=>by
          obtain⟨j,j1,j2,rfl⟩:=Cb hw;exact Int.le_of_lt (of_decide_eq_true (g1 j j1))
         dsimp only;by_cases p1:nb2-1-k1>0
         .rw[if_pos p1];have m4:=m3.extB sb (m:=k1) hk1 t1;by_cases q4:k1=1
          .rw[if_pos (beq_iff_eq.mpr q4)];exact wpS_pure (And.intro lkN (.inl ⟨_,rfl,AF m4 sa sb q4 hf⟩))
          .rw[if_neg (λ z=>q4 (beq_iff_eq.mp z))];by_cases q6:k1=0
           .rw[if_pos (beq_iff_eq.mpr q6)];exact wpS_pure (And.intro lkN (.inl ⟨_,rfl,A5 m4 sa sb (.inr q6)⟩))
           .rw[if_neg (λ z=>q6 (beq_iff_eq.mp z))];have kA:=t2;refine wpS_bind (Ai exa ?_);have m5:=m4.pushA sa da kA;by_cases q5:k-1=0
            .rw[if_pos (beq_iff_eq.mpr q5)];exact wpS_pure (And.intro lkN (.inl ⟨_,rfl,A5 m5 sa sb (.inl q5)⟩))
            .rw[if_neg (λ z=>q5 (beq_iff_eq.mp z))];have gn:GoH κ a b _ (k-1) (k1):=⟨m5,by lia,by lia⟩;split
             .exact wpS_pure (And.intro lkN (.inr ⟨rfl,gn,by show k-1+(k1)+1<=na+nb;lia⟩))
             .exact wpS_pure (And.intro rfl ⟨gn,by show k-1+(k1)+1<=na+nb;lia,lkN⟩)
         .rw[if_neg p1];have k10:k1=nb2-1:=by lia
          subst k10;have kA:=t2;refine wpS_bind (Ai exa ?_);have m5:=m3.pushA sa da kA;by_cases q5:k-1=0
          .rw[if_pos (beq_iff_eq.mpr q5)];exact wpS_pure (And.intro lkN (.inl ⟨_,rfl,A5 m5 sa sb (.inl q5)⟩))
          .rw[if_neg (λ z=>q5 (beq_iff_eq.mp z))];have gn:GoH κ a b _ (k-1) (nb2-1):=⟨m5,by lia,by lia⟩;split
           .exact wpS_pure (And.intro lkN (.inr ⟨rfl,gn,by show k-1+(nb2-1)+1<=na+nb;lia⟩))
           .exact wpS_pure (And.intro rfl ⟨gn,by show k-1+(nb2-1)+1<=na+nb;lia,lkN⟩)
      .rw[if_neg p0];have k00:k=na2:=by lia
       subst k00;have kB:=u2;have mi2:=go2.mi;refine wpS_bind (Ai exb ?_);have m3:=mi2.pushB sb db kB;by_cases q3:nb2-1=1
       .rw[if_pos (beq_iff_eq.mpr q3)];exact wpS_pure (And.intro lkN (.inl ⟨_,rfl,AF m3 sa sb q3 hf⟩))
       .rw[if_neg (λ z=>q3 (beq_iff_eq.mp z))];obtain⟨xa,exa,ma,da,ra⟩:=Kb sa (show 0<k by lia) (by lia);refine wpS_bind (Ai exa (wpS_bind (AG (B:=λ i=>decide (κ (b.getD (0+i) default)<κ xa)) (lkN.kd.trans hk) (Du L (hSa _ ma) (λ i hi=>inB _ (by lia))) (λ i j hij hj hB=>decide_eq_true (Int.lt_of_le_of_lt (Bj sb (by lia) (by lia)) (of_decide_eq_true hB))) (by lia) λ k1 hk1 g1 g2=>?_)));have t1:∀z∈a.toList.take (k),∀w∈(b.toList.take (nb2-1)).drop k1,κ z<=κ w:=λ z hz w hw=>by
         obtain⟨j,j1,j2,j3,rfl⟩:=DZ hk1 hw;have h3:=of_decide_eq_false (g2 j j1 j2);have h4:=ra z hz;lia
        have t2:∀w∈b.toList.take k1,κ w<=κ xa:=λ w hw=>by
         obtain⟨j,j1,j2,rfl⟩:=Cb hw;exact Int.le_of_lt (of_decide_eq_true (g1 j j1))
        dsimp only;by_cases p1:nb2-1-k1>0
        .rw[if_pos p1];have m4:=m3.extB sb (m:=k1) hk1 t1;by_cases q4:k1=1
         .rw[if_pos (beq_iff_eq.mpr q4)];exact wpS_pure (And.intro lkN (.inl ⟨_,rfl,AF m4 sa sb q4 hf⟩))
         .rw[if_neg (λ z=>q4 (beq_iff_eq.mp z))];by_cases q6:k1=0
          .rw[if_pos (beq_iff_eq.mpr q6)];exact wpS_pure (And.intro lkN (.inl ⟨_,rfl,A5 m4 sa sb (.inr q6)⟩))
          .rw[if_neg (λ z=>q6 (beq_iff_eq.mp z))];have kA:=t2;refine wpS_bind (Ai exa ?_);have m5:=m4.pushA sa da kA;by_cases q5:k-1=0
           .rw[if_pos (beq_iff_eq.mpr q5)];exact wpS_pure (And.intro lkN (.inl ⟨_,rfl,A5 m5 sa sb (.inl q5)⟩))
           .rw[if_neg (λ z=>q5 (beq_iff_eq.mp z))];have gn:GoH κ a b _ (k-1) (k1):=⟨m5,by lia,by lia⟩;split
            .exact wpS_pure (And.intro lkN (.inr ⟨rfl,gn,by show k-1+(k1)+1<=na+nb;lia⟩))
            .exact wpS_pure (And.intro rfl ⟨gn,by show k-1+(k1)+1<=na+nb;lia,lkN⟩)
        .rw[if_neg p1];have k10:k1=nb2-1:=by lia
         subst k10;have kA:=t2;refine wpS_bind (Ai exa ?_);have m5:=m3.pushA sa da kA;by_cases q5:k-1=0
         .rw[if_pos (beq_iff_eq.mpr q5)];exact wpS_pure (And.intro lkN (.inl ⟨_,rfl,A5 m5 sa sb (.inl q5)⟩))
         .rw[if_neg (λ z=>q5 (beq_iff_eq.mp z))];have gn:GoH κ a b _ (k-1) (nb2-1):=⟨m5,by lia,by lia⟩;split
          .exact wpS_pure (And.intro lkN (.inr ⟨rfl,gn,by show k-1+(nb2-1)+1<=na+nb;lia⟩))
          .exact wpS_pure (And.intro rfl ⟨gn,by show k-1+(nb2-1)+1<=na+nb;lia,lkN⟩)
     .rw[if_neg hm];refine wpS_bind (wpS_modify ?_);have lkN:CL st (SortSt.mk' (kindOf st3) (arrOf st3) (pendingOf st3) mg2 (failedOf st3)):=⟨lk2.kd,lk2.ar,lk2.pe,lk2.fa⟩;obtain⟨xb,exb,mb,db,rb⟩:=Kb sb (show 0<nb2 by lia) l4;refine wpS_bind (Ai exb (wpS_bind (AG (B:=λ i=>!decide (κ xb<κ (a.getD (0+i) default))) (lkN.kd.trans hk) (HE L (hSb _ mb) (λ i hi=>inA _ (by lia))) (λ i j hij hj hB=>?_) (by lia) λ k hk' f1 f2=>?_)))
      .have h3:=Bj sa (i:=0+i) (j:=0+j) (by lia) (by lia);simp only[Bool.not_eq_true',decide_eq_false_iff_not]at hB |-;lia
      have u1:∀z∈b.toList.take nb2,∀w∈(a.toList.take na2).drop k,κ z<=κ w:=λ z hz w hw=>by
       obtain⟨j,j1,j2,j3,rfl⟩:=DZ hk' hw;have h3:=f2 j j1 j2;simp only[Bool.not_eq_false',decide_eq_true_eq]at h3;have h4:=rb z hz;lia
      have u2:∀w∈a.toList.take k,κ w<=κ xb:=λ w hw=>by
       obtain⟨j,j1,j2,rfl⟩:=Cb hw;have h3:=f1 j j1;simp only[Bool.not_eq_true',decide_eq_false_iff_not]at h3;lia
      dsimp only;by_cases p0:na2-k>0
      .rw[if_pos p0];have m2:=go2.mi.extA sa (m:=k) hk' u1;by_cases q1:k=0
       .rw[if_pos (beq_iff_eq.mpr q1)];exact wpS_pure (And.intro lkN (.inl ⟨_,rfl,A5 m2 sa sb (.inl q1)⟩))
       .rw[if_neg (λ z=>q1 (beq_iff_eq.mp z))];have kB:=u2;refine wpS_bind (Ai exb ?_);have m3:=m2.pushB sb db kB;by_cases q3:nb2-1=1
        .rw[if_pos (beq_iff_eq.mpr q3)];exact wpS_pure (And.intro lkN (.inl ⟨_,rfl,AF m3 sa sb q3 hf⟩))
        .rw[if_neg (λ z=>q3 (beq_iff_eq.mp z))];obtain⟨xa,exa,ma,da,ra⟩:=Kb sa (show 0<k by lia) (by lia);refine wpS_bind (Ai exa (wpS_bind (AG (B:=λ i=>decide (κ (b.getD (0+i) default)<κ xa)) (lkN.kd.trans hk) (Du L (hSa _ ma) (λ i hi=>inB _ (by lia))) (λ i j hij hj hB=>decide_eq_true (Int.lt_of_le_of_lt (Bj sb (by lia) (by lia)) (of_decide_eq_true hB))) (by lia) λ k1 hk1 g1 g2=>?_)));have t1:∀z∈a.toList.take (k),∀w∈(b.toList.take (nb2-1)).drop k1,κ z<=κ w:=λ z hz w hw=>by
          obtain⟨j,j1,j2,j3,rfl⟩:=DZ hk1 hw;have h3:=of_decide_eq_false (g2 j j1 j2);have h4:=ra z hz;lia
         have t2:∀w∈b.toList.take k1,κ w<=κ xa:=λ w hw=>by
          obtain⟨j,j1,j2,rfl⟩:=Cb hw;exact Int.le_of_lt (of_decide_eq_true (g1 j j1))
         dsimp only;by_cases p1:nb2-1-k1>0
         .rw[if_pos p1];have m4:=m3.extB sb (m:=k1) hk1 t1;by_cases q4:k1=1
          .rw[if_pos (beq_iff_eq.mpr q4)];exact wpS_pure (And.intro lkN (.inl ⟨_,rfl,AF m4 sa sb q4 hf⟩))
          .rw[if_neg (λ z=>q4 (beq_iff_eq.mp z))];by_cases q6:k1=0
           .rw[if_pos (beq_iff_eq.mpr q6)];exact wpS_pure (And.intro lkN (.inl ⟨_,rfl,A5 m4 sa sb (.inr q6)⟩))
           .rw[if_neg (λ z=>q6 (beq_iff_eq.mp z))];have kA:=t2;refine wpS_bind (Ai exa ?_);have m5:=m4.pushA sa da kA;by_cases q5:k-1=0
            .rw[if_pos (beq_iff_eq.mpr q5)];exact wpS_pure (And.intro lkN (.inl ⟨_,rfl,A5 m5 sa sb (.inl q5)⟩))
            .rw[if_neg (λ z=>q5 (beq_iff_eq.mp z))];have gn:GoH κ a b _ (k-1) (k1):=⟨m5,by lia,by lia⟩;split
             .exact wpS_pure (And.intro lkN (.inr ⟨rfl,gn,by show k-1+(k1)+1<=na+nb;lia⟩))
             .exact wpS_pure (And.intro rfl ⟨gn,by show k-1+(k1)+1<=na+nb;lia,lkN⟩)
         .rw[if_neg p1];have k10:k1=nb2-1:=by lia
          subst k10;have kA:=t2;refine wpS_bind (Ai exa ?_);have m5:=m3.pushA sa da kA;by_cases q5:k-1=0
          .rw[if_pos (beq_iff_eq.mpr q5)];exact wpS_pure (And.intro lkN (.inl ⟨_,rfl,A5 m5 sa sb (.inl q5)⟩))
          .rw[if_neg (λ z=>q5 (beq_iff_eq.mp z))];have gn:GoH κ a b _ (k-1) (nb2-1):=⟨m5,by lia,by lia⟩;split
           .exact wpS_pure (And.intro lkN (.inr ⟨rfl,gn,by show k-1+(nb2-1)+1<=na+nb;lia⟩))
           .exact wpS_pure (And.intro rfl ⟨gn,by show k-1+(nb2-1)+1<=na+nb;lia,lkN⟩)
      .rw[if_neg p0];have k00:k=na2:=by lia
       subst k00;have kB:=u2;have mi2:=go2.mi;refine wpS_bind (Ai exb ?_);have m3:=mi2.pushB sb db kB;by_cases q3:nb2-1=1
       .rw[if_pos (beq_iff_eq.mpr q3)];exact wpS_pure (And.intro lkN (.inl ⟨_,rfl,AF m3 sa sb q3 hf⟩))
       .rw[if_neg (λ z=>q3 (beq_iff_eq.mp z))];obtain⟨xa,exa,ma,da,ra⟩:=Kb sa (show 0<k by lia) (by lia);refine wpS_bind (Ai exa (wpS_bind (AG (B:=λ i=>decide (κ (b.getD (0+i) default)<κ xa)) (lkN.kd.trans hk) (Du L (hSa _ ma) (λ i hi=>inB _ (by lia))) (λ i j hij hj hB=>decide_eq_true (Int.lt_of_le_of_lt (Bj sb (by lia) (by lia)) (of_decide_eq_true hB))) (by lia) λ k1 hk1 g1 g2=>?_)));have t1:∀z∈a.toList.take (k),∀w∈(b.toList.take (nb2-1)).drop k1,κ z<=κ w:=λ z hz w hw=>by
         obtain⟨j,j1,j2,j3,rfl⟩:=DZ hk1 hw;have h3:=of_decide_eq_false (g2 j j1 j2);have h4:=ra z hz;lia
        have t2:∀w∈b.toList.take k1,κ w<=κ xa:=λ w hw=>by
         obtain⟨j,j1,j2,rfl⟩:=Cb hw;exact Int.le_of_lt (of_decide_eq_true (g1 j j1))
        dsimp only;by_cases p1:nb2-1-k1>0
        .rw[if_pos p1];have m4:=m3.extB sb (m:=k1) hk1 t1;by_cases q4:k1=1
         .rw[if_pos (beq_iff_eq.mpr q4)];exact wpS_pure (And.intro lkN (.inl ⟨_,rfl,AF m4 sa sb q4 hf⟩))
         .rw[if_neg (λ z=>q4 (beq_iff_eq.mp z))];by_cases q6:k1=0
          .rw[if_pos (beq_iff_eq.mpr q6)];exact wpS_pure (And.intro lkN (.inl ⟨_,rfl,A5 m4 sa sb (.inr q6)⟩))
          .rw[if_neg (λ z=>q6 (beq_iff_eq.mp z))];have kA:=t2;refine wpS_bind (Ai exa ?_);have m5:=m4.pushA sa da kA;by_cases q5:k-1=0
           .rw[if_pos (beq_iff_eq.mpr q5)];exact wpS_pure (And.intro lkN (.inl ⟨_,rfl,A5 m5 sa sb (.inl q5)⟩))
           .rw[if_neg (λ z=>q5 (beq_iff_eq.mp z))];have gn:GoH κ a b _ (k-1) (k1):=⟨m5,by lia,by lia⟩;split
            .exact wpS_pure (And.intro lkN (.inr ⟨rfl,gn,by show k-1+(k1)+1<=na+nb;lia⟩))
            .exact wpS_pure (And.intro rfl ⟨gn,by show k-1+(k1)+1<=na+nb;lia,lkN⟩)
        .rw[if_neg p1];have k10:k1=nb2-1:=by lia
         subst k10;have kA:=t2;refine wpS_bind (Ai exa ?_);have m5:=m3.pushA sa da kA;by_cases q5:k-1=0
         .rw[if_pos (beq_iff_eq.mpr q5)];exact wpS_pure (And.intro lkN (.inl ⟨_,rfl,A5 m5 sa sb (.inl q5)⟩))
         .rw[if_neg (λ z=>q5 (beq_iff_eq.mp z))];have gn:GoH κ a b _ (k-1) (nb2-1):=⟨m5,by lia,by lia⟩;split
          .exact wpS_pure (And.intro lkN (.inr ⟨rfl,gn,by show k-1+(nb2-1)+1<=na+nb;lia⟩))
          .exact wpS_pure (And.intro rfl ⟨gn,by show k-1+(nb2-1)+1<=na+nb;lia,lkN⟩)
def Lf:Nat->StateT SortSt Sem Bool:=sortPriv% PySem.Builtin.mergeAt
theorem MN{α:Type}:∀(ms:List α)(n base:Nat)(xs:Array α),base+n+ms.length<=xs.size ->
  ((ms.zipIdx n).foldl (λ a p=>a.setIfInBounds (base+p.2) p.1) xs).toList=xs.toList.take (base+n)++ms++xs.toList.drop (base+n+ms.length)
 |[],n,base,xs,h=>by simp
 |m::ms,n,base,xs,h=>by
  rw[List.zipIdx_cons,List.foldl_cons];have hl:base+n+(ms.length+1)<=xs.size:=h;rw[MN ms (n+1) base (xs.setIfInBounds (base+n) m) (by rw[Array.size_setIfInBounds];lia)];rw[Array.toList_setIfInBounds];have h1:base+n<xs.toList.length:=by rw[Array.length_toList];lia
  rw[show base+(n+1)=base+n+1 by lia];rw[List.take_set,List.drop_set,if_pos (by lia)];have e1:(xs.toList.take (base+n+1)).set (base+n) m=xs.toList.take (base+n)++[m]:=by
   rw[List.take_succ_eq_append_getElem h1,List.set_append_right _ _ (by rw[List.length_take];lia)];rw[List.length_take,Nat.min_eq_left (by lia),Nat.sub_self];rfl
  rw[e1,show base+n+1+ms.length=base+n+(m::ms).length by simp;lia];simp
theorem Q1{σ:Type}{st st':σ}{Q:PUnit->σ->Prop}(h:Q ⟨⟩ st'):wpS M A E s (set st':StateT σ Sem PUnit) Q st:=by
 unfold wpS;rw[StateT.run_set];exact wpAny_pure ⟨rfl,h⟩
theorem FY{κ:Keyed->Int}{a:Array Keyed}{lo n:Nat}(h:Rise κ ((a.toList.drop lo).take n))(hn:lo+n<=a.size){i j:Nat}(hij:i<=j)(hj:j<n):κ (a.getD (lo+i) default)<=κ (a.getD (lo+j) default):=by
 have ei:a.getD (lo+i) default=a.toList[lo+i]'(by simp;lia):=by
  have:lo+i<a.size:=by lia
  simp[Array.getD,this]
 have ej:a.getD (lo+j) default=a.toList[lo+j]'(by simp;lia):=by
  have:lo+j<a.size:=by lia
  simp[Array.getD,this]
 rw[ei,ej];rcases Nat.lt_or_ge i j with h'|h'
 .have:=List.pairwise_iff_getElem.mp h i j (by simp;lia) (by simp;lia) h';rwa [List.getElem_take,List.getElem_take,List.getElem_drop,List.getElem_drop]at this
 .have:i=j:=by lia
  subst this;exact Int.le_refl _
theorem SY{α:Type}{κ:α->Int}{A1 A2 B1 B2 ms:List α}(sA:Rise κ (A1++A2))(sB:Rise κ (B1++B2))(hm:Rise κ ms)(pm:ms.Perm (A2++B1))(h1:∀x∈A1,∀y∈B1++B2,κ x<=κ y)(h2:∀x∈A1++A2,∀y∈B2,κ x<=κ y):Rise κ (A1++ms++B2):=by
 obtain⟨a1,a2,a3⟩:=List.pairwise_append.mp sA;obtain⟨b1,b2,b3⟩:=List.pairwise_append.mp sB;refine Rise.app (Rise.app a1 hm λ x hx y hy=>?_) b2 λ x hx y hy=>?_
 .rcases List.mem_append.mp (pm.mem_iff.mp hy) with hy|hy
  .exact a3 x hx y hy
  .exact h1 x hx y (List.mem_append_left _ hy)
 .rcases List.mem_append.mp hx with hx|hx
  .exact h2 x (List.mem_append_left _ hx) y hy
  .rcases List.mem_append.mp (pm.mem_iff.mp hx) with hx|hx
   .exact h2 x (List.mem_append_right _ hx) y hy
   .exact b3 x hx y hy
theorem Kz{kd:SortKind}{κ:Keyed->Int}{S:Keyed->Prop}{st:SortSt}{i sa na pw nb pw':Nat}{Q:Bool->SortSt->Prop}(L:LtG M A E s kd κ S)(hk:kindOf st=kd)(hfa:failedOf st=none)(p1:(pendingOf st)[i]?=some (sa,na,pw))(p2:(pendingOf st)[i+1]?=some (sa+na,nb,pw'))
  (hS:∀x∈(arrOf st).toList,S x) (ha:0<na) (hb:0<nb) (hn:sa+na+nb<=(arrOf st).size) (r1:Rise κ (((arrOf st).toList.drop sa).take na)) (r2:Rise κ (((arrOf st).toList.drop (sa+na)).take nb))
  (h:∀(arr':Array Keyed)(g:Nat)(seg:List Keyed),arr'.toList=(arrOf st).toList.take sa++seg++(arrOf st).toList.drop (sa+na+nb)->Rise κ seg->seg.Perm (((arrOf st).toList.drop sa).take na++((arrOf st).toList.drop (sa+na)).take nb) ->
   Q true (SortSt.mk' kd arr' (((pendingOf st).setIfInBounds i (sa,na+nb,pw)).eraseIdxIfInBounds (i+1)) g none)):wpS M A E s (Lf i) Q st:=by
 refine wpS_bind (wpS_get ?_);have inn:∀i,i<(arrOf st).size->∃x,(arrOf st)[i]?=some x/\S x:=λ i hi=>by
  obtain⟨x,e,m,_⟩:=CJ hi;exact⟨x,e,hS x m⟩
 have split:(arrOf st).toList=(arrOf st).toList.take sa++(((arrOf st).toList.drop sa).take na++((arrOf st).toList.drop (sa+na)).take nb)++(arrOf st).toList.drop (sa+na+nb):=by
  rw[List.append_assoc,List.append_assoc,<-B5 _ (sa+na) nb,<-B5 _ sa na,List.take_append_drop]
 rw[p1,p2];dsimp only;refine wpS_bind (Q1 ?_);subst hk;obtain⟨x0,ex0,mx0,dx0⟩:=CJ (show sa+na<(arrOf st).size by lia);have x0B:∀y∈((arrOf st).toList.drop (sa+na)).take nb,κ x0<=κ y:=λ y hy=>by
  obtain⟨j,j1,j2,rfl⟩:=AR hy;have:=FY r2 hn (i:=0) (j:=j) (by lia) j1;rwa [Nat.add_zero,Gg ex0]at this
 have same:∀g:Nat,∀f:Option Value,f=none->∀(arr':Array Keyed)(seg:List Keyed),arr'.toList=(arrOf st).toList.take sa++seg++(arrOf st).toList.drop (sa+na+nb)->Rise κ seg->seg.Perm (((arrOf st).toList.drop sa).take na++((arrOf st).toList.drop (sa+na)).take nb)->Q true (SortSt.mk' (kindOf st) arr' (((pendingOf st).setIfInBounds i (sa,na+nb,pw)).eraseIdxIfInBounds (i+1)) g f):=λ g f hf arr' seg e1 e2 e3=>by
  rw[hf];exact h arr' g seg e1 e2 e3
 refine wpS_bind (Ai ex0 (wpS_bind (AG (B:=λ i=>!decide (κ x0<κ ((arrOf st).getD (sa+i) default))) rfl (HE L (hS _ mx0) (λ i hi=>inn _ (by lia))) (λ i j hij hj hB=>?_) (by lia) λ k hk' f1 f2=>?_)))
 .have h3:=FY r1 (by lia) hij hj;simp only[Bool.not_eq_true',decide_eq_false_iff_not]at hB |-;lia
 have u1:∀z∈((arrOf st).toList.drop sa).take k,κ z<=κ x0:=λ z hz=>by
  obtain⟨j,j1,j2,rfl⟩:=AR hz;have h3:=f1 j j1;simp only[Bool.not_eq_true',decide_eq_false_iff_not]at h3;lia
 dsimp only;by_cases q1:na-k=0
 .rw[if_pos (beq_iff_eq.mpr q1)];have:k=na:=by lia
  subst this;exact wpS_pure (same _ _ hfa _ _ split (Rise.app r1 r2 λ x hx y hy=>Int.le_trans (u1 x hx) (x0B y hy)) (List.Perm.refl _))
 rw[if_neg (λ z=>q1 (beq_iff_eq.mp z))];have eA:((arrOf st).toList.drop sa).take na=((arrOf st).toList.drop sa).take k++((arrOf st).toList.drop (sa+k)).take (na-k):=by
  conv=>lhs;rw[show na=k+(na-k) by lia]
  rw[List.take_add,List.drop_drop]
 obtain⟨x1,ex1,mx1,dx1⟩:=CJ (show sa+k+(na-k)-1<(arrOf st).size by lia);have x1A:∀y∈((arrOf st).toList.drop sa).take na,κ y<=κ x1:=λ y hy=>by
  obtain⟨j,j1,j2,rfl⟩:=AR hy;have:=FY r1 (by lia) (i:=j) (j:=na-1) (by lia) (by lia);rwa [show sa+(na-1)=sa+k+(na-k)-1 by lia,Gg ex1]at this
 refine wpS_bind (Ai ex1 (wpS_bind (AG (B:=λ i=>decide (κ ((arrOf st).getD (sa+na+i) default)<κ x1)) rfl (Du L (hS _ mx1) (λ i hi=>inn _ (by lia))) (λ i j hij hj hB=>decide_eq_true (Int.lt_of_le_of_lt (FY r2 hn hij hj) (of_decide_eq_true hB))) (by lia) λ k1 hk1 g1 g2=>?_)));have eB:((arrOf st).toList.drop (sa+na)).take nb=((arrOf st).toList.drop (sa+na)).take k1++((arrOf st).toList.drop (sa+na+k1)).take (nb-k1):=by
  conv=>lhs;rw[show nb=k1+(nb-k1) by lia]
  rw[List.take_add,List.drop_drop]
 have v1:∀z∈((arrOf st).toList.drop (sa+na)).take k1,κ z<=κ x1:=λ z hz=>by
  obtain⟨j,j1,j2,rfl⟩:=AR hz;exact Int.le_of_lt (of_decide_eq_true (g1 j j1))
 have v2:∀z∈((arrOf st).toList.drop (sa+na+k1)).take (nb-k1),κ x1<=κ z:=λ z hz=>by
  obtain⟨j,j1,j2,rfl⟩:=AR hz;have:=of_decide_eq_false (g2 (k1+j) (by lia) (by lia));rw[<-Nat.add_assoc]at this;lia
 dsimp only;by_cases q2:k1=0
 .rw[if_pos (beq_iff_eq.mpr q2)];subst q2;exact wpS_pure (same _ _ hfa _ _ split (Rise.app r1 r2 λ x hx y hy=>Int.le_trans (x1A x hx) (v2 y (by simpa using hy))) (List.Perm.refl _))
 rw[if_neg (λ z=>q2 (beq_iff_eq.mp z))];have ex:((arrOf st).extract (sa+k) (sa+na)).toList=((arrOf st).toList.drop (sa+k)).take (na-k):=by
  rw[E8,List.drop_take,show sa+na-(sa+k)=na-k by lia]
 have ey:((arrOf st).extract (sa+na) (sa+na+k1)).toList=((arrOf st).toList.drop (sa+na)).take k1:=PY _ _ _;have subx:∀x∈((arrOf st).extract (sa+k) (sa+na)).toList,x∈(arrOf st).toList:=λ x hx=>by rw[ex]at hx;exact List.mem_of_mem_drop (List.mem_of_mem_take hx)
 have suby:∀x∈((arrOf st).extract (sa+na) (sa+na+k1)).toList,x∈(arrOf st).toList:=λ x hx=>by rw[ey]at hx;exact List.mem_of_mem_drop (List.mem_of_mem_take hx)
 have rA:=r1;rw[eA]at rA;have rB:=r2;rw[eB]at rB;have rx:Rise κ ((arrOf st).extract (sa+k) (sa+na)).toList:=by rw[ex];exact(List.pairwise_append.mp rA).2.1
 have ry:Rise κ ((arrOf st).extract (sa+na) (sa+na+k1)).toList:=by rw[ey];exact(List.pairwise_append.mp rB).1
 have hfx:∀x∈((arrOf st).extract (sa+na) (sa+na+k1)).toList.take 1,∀y∈((arrOf st).extract (sa+k) (sa+na)).toList,κ x<=κ y:=λ x hx y hy=>by
  rw[ey,List.take_take,Nat.min_eq_left (by lia),dx0]at hx;have:x=x0:=by simpa using hx
  rw[this];rw[ex]at hy;obtain⟨j,j1,j2,rfl⟩:=AR hy;have h3:=f2 (k+j) (by lia) (by lia);simp only[Bool.not_eq_false',decide_eq_true_eq]at h3;rw[<-Nat.add_assoc]at h3;lia
 have hlx:∀x∈((arrOf st).extract (sa+na) (sa+na+k1)).toList,∀y∈((arrOf st).extract (sa+k) (sa+na)).toList.drop (((arrOf st).extract (sa+k) (sa+na)).size-1),κ x<=κ y:=λ x hx y hy=>by
  rw[ey]at hx;have sz:((arrOf st).extract (sa+k) (sa+na)).size=na-k:=by rw[Array.size_extract];lia
  rw[sz,ex,List.drop_take,List.drop_drop,show sa+k+(na-k-1)=sa+k+(na-k)-1 by lia,dx1,show na-k-(na-k-1)=1 by lia]at hy;have:y=x1:=by simpa using hy
  rw[this];exact v1 x hx
 have fin:∀(r:Array Keyed)(st2:SortSt),Bb κ ((arrOf st).extract (sa+k) (sa+na)) ((arrOf st).extract (sa+na) (sa+na+k1)) r->CL (SortSt.mk' (kindOf st) (arrOf st) (((pendingOf st).setIfInBounds i (sa,na+nb,pw)).eraseIdxIfInBounds (i+1)) (gallopOf st) (failedOf st)) st2 ->
   ∀arr':Array Keyed,arr'=(r.toList.zipIdx 0).foldl (λ a p=>a.setIfInBounds (sa+k+p.2) p.1) (arrOf st2)->Q true (SortSt.mk' (kindOf st2) arr' (pendingOf st2) (gallopOf st2) (failedOf st2)):=λ r st2 mr lk arr' earr=>by
  have rl:r.toList.length=na-k+k1:=by
   rw[mr.2.length_eq,List.length_append,ex,ey,List.length_take,List.length_take,List.length_drop,List.length_drop,Array.length_toList];lia
  rw[lk.kd,lk.pe];have la:arrOf st2=arrOf st:=lk.ar;have w:=MN r.toList 0 (sa+k) (arrOf st) (by lia);refine same _ _ (lk.fa.trans hfa) arr' (((arrOf st).toList.drop sa).take k++r.toList++((arrOf st).toList.drop (sa+na+k1)).take (nb-k1)) ?_ ?_ ?_
  .rw[earr,la,w,rl,Nat.add_zero,show sa+k+(na-k+k1)=sa+na+k1 by lia];have e1:(arrOf st).toList.take (sa+k)=(arrOf st).toList.take sa++((arrOf st).toList.drop sa).take k:=List.take_add;have e2:=B5 (arrOf st).toList (sa+na+k1) (nb-k1);rw[show sa+na+k1+(nb-k1)=sa+na+nb by lia]at e2;rw[e1]
   conv=>lhs;rw[e2]
   simp only[List.append_assoc]
  .refine SY rA rB mr.1 (by rw[<-ex,<-ey];exact mr.2) (λ x hx y hy=>Int.le_trans (u1 x hx) (x0B y (by rw[eB];exact hy))) λ x hx y hy=>Int.le_trans (x1A x (by rw[eA];exact hx)) (v2 y hy)
  .have pm:=mr.2;rw[ex,ey]at pm;rw[eA,eB];refine(List.Perm.append_right _ (List.Perm.append_left _ pm)).trans ?_;simp only[List.append_assoc];exact List.Perm.refl _
 have sx:0<((arrOf st).extract (sa+k) (sa+na)).size:=by rw[Array.size_extract];lia
 have sy:0<((arrOf st).extract (sa+na) (sa+na+k1)).size:=by rw[Array.size_extract];lia
 by_cases q3:na-k<=k1
 .rw[if_pos q3];refine wpS_bind (Kx L rfl sx sy (λ x hx=>hS x (subx x hx)) (λ x hx=>hS x (suby x hx)) rx ry hfx hlx λ r st2 mr lk=>?_);refine wpS_bind (wpS_modify (wpS_bind (wpS_get ?_)));have fl:failedOf st2=none:=lk.fa.trans hfa;have:=fin r st2 mr lk _ rfl;refine wpS_pure ?_;have e:(failedOf st2).isNone=true:=by rw[fl];rfl
  show Q (failedOf st2).isNone _;rw[e];exact this
 .rw[if_neg q3];refine wpS_bind (Ky L rfl sx sy (λ x hx=>hS x (subx x hx)) (λ x hx=>hS x (suby x hx)) rx ry hfx hlx λ r st2 mr lk=>?_);refine wpS_bind (wpS_modify (wpS_bind (wpS_get ?_)));have fl:failedOf st2=none:=lk.fa.trans hfa;have:=fin r st2 mr lk _ rfl;refine wpS_pure ?_;have e:(failedOf st2).isNone=true:=by rw[fl];rfl
  show Q (failedOf st2).isNone _;rw[e];exact this
def Lz:Nat->Nat->Nat->StateT SortSt Sem Bool:=sortPriv% PySem.Builtin.binarySort
theorem NU{kd:SortKind}{κ:Keyed->Int}{S:Keyed->Prop}(L:LtG M A E s kd κ S){st:SortSt}{i j:Nat}{x y:Keyed}{Q:Option Bool->SortSt->Prop}(hk:kindOf st=kd)(hx:(arrOf st)[i]?=some x)(hy:(arrOf st)[j]?=some y)(sx:S x)(sy:S y)(h:Q (some (decide (κ x<κ y))) st):wpS M A E s (ltAt' i j) Q st:=by
 rw[ltAt'_eq];refine wpS_bind (wpS_get ?_);exact wpS_bind (Ai hx (wpS_bind (Ai hy (L x y sx sy st Q hk h))))
end
section
variable{M:Model}{A:Around}{E:VPz}{s:Shared}{κ:Keyed->Int}{S:Keyed->Prop}{kd:SortKind}
def KG(κ:Keyed->Int)(xs:Array Keyed)(i:Nat):Int:=κ (xs.getD i default)
theorem Fg{xs ys:Array Keyed}{i j:Nat}(h:xs[i]?=ys[j]?):KG κ xs i=KG κ ys j:=by
 unfold KG;rw[Array.getD_eq_getD_getElem?,Array.getD_eq_getD_getElem?,h]
structure Amid(st0:SortSt)(lo n:Nat)(st:SortSt):Prop where
 kd:kindOf st=kindOf st0
 fa:failedOf st=failedOf st0
 pe:pendingOf st=pendingOf st0
 pm:(arrOf st).Perm (arrOf st0)
 out:∀i,i<lo\/lo+n<=i->(arrOf st)[i]?=(arrOf st0)[i]?
theorem Amid.refl(st:SortSt)(lo n:Nat):Amid st lo n st:=⟨rfl,rfl,rfl,Array.Perm.refl _,λ_ _=>rfl⟩
theorem Amid.sz{st0 st:SortSt}{lo n:Nat}(h:Amid st0 lo n st):(arrOf st).size=(arrOf st0).size:=h.pm.size_eq
theorem Amid.mem{st0 st:SortSt}{lo n:Nat}(h:Amid st0 lo n st){x:Keyed}(m:x∈(arrOf st).toList):x∈(arrOf st0).toList:=(Array.perm_iff_toList_perm.mp h.pm).mem_iff.mp m
theorem Amid.set{st0 st:SortSt}{lo n:Nat}(h:Amid st0 lo n st){xs:Array Keyed}(hp:xs.Perm (arrOf st))(ho:∀i,i<lo\/lo+n<=i->xs[i]?=(arrOf st)[i]?):Amid st0 lo n (setArr st xs) :=
 ⟨h.kd,h.fa,h.pe,hp.trans h.pm,λ i hi=>(ho i hi).trans (h.out i hi)⟩
def UpG(κ:Keyed->Int)(xs:Array Keyed)(lo k:Nat):Prop:=∀i j,i<=j->j<k->KG κ xs (lo+i)<=KG κ xs (lo+j)
def DownG(κ:Keyed->Int)(xs:Array Keyed)(lo k:Nat):Prop:=∀i j,i<=j->j<k->KG κ xs (lo+j)<=KG κ xs (lo+i)
theorem EH(L:LtG M A E s kd κ S){st0 st:SortSt}{lo n i j:Nat}{Q:Option Bool->SortSt->Prop}(hk:kindOf st0=kd)(hS:∀x∈(arrOf st0).toList,S x)(B:Amid st0 lo n st)(hi:i<(arrOf st0).size)(hj:j<(arrOf st0).size)
  (h:Q (some (decide (KG κ (arrOf st) i<KG κ (arrOf st) j))) st):wpS M A E s (ltAt' i j) Q st:=by
 obtain⟨x,ex,mx,_⟩:=CJ (show i<(arrOf st).size by rw[B.sz];exact hi);obtain⟨y,ey,my,_⟩:=CJ (show j<(arrOf st).size by rw[B.sz];exact hj);refine NU L (B.kd.trans hk) ex ey (hS x (B.mem mx)) (hS y (B.mem my)) ?_;unfold KG at h;rwa [Gg ex,Gg ey]at h
theorem Jp{xs:Array Keyed}{src d:Nat}(hs:src<xs.size)(hd:d<=src)(k:Nat) :
  KG κ (bubble xs src d) k=if k=src-d then KG κ xs src else if src-d<k/\k<=src then KG κ xs (k-1) else KG κ xs k:=by
 have e:=getElem?_bubble hs d hd k;split
 .next h1=>rw[if_pos h1]at e;exact Fg e
 .next h1 =>
  rw[if_neg h1]at e;split
  .next h2=>rw[if_pos h2]at e;exact Fg e
  .next h2=>rw[if_neg h2]at e;exact Fg e
theorem FA{xs:Array Keyed}{i j:Nat}(hj:j<=xs.size)(k:Nat):KG κ (mirror xs i j ((j-i) / 2)) k=if i<=k/\k<j then KG κ xs (i+j-1-k) else KG κ xs k:=by
 have e:=getElem?_mirror_all (i:=i) hj k;split
 .next h1=>rw[if_pos h1]at e;exact Fg e
 .next h1=>rw[if_neg h1]at e;exact Fg e
theorem Fh{xs:Array Keyed}{i j:Nat}(hj:j<=xs.size)(heq:∀k,i<=k->k<j->KG κ xs k=KG κ xs (j-1))(k:Nat):KG κ (mirror xs i j ((j-i) / 2)) k=KG κ xs k:=by
 rw[FA hj];split
 .rw[heq _ (by lia) (by lia),heq k (by lia) (by lia)]
 .rfl
theorem Amid.mir{st0 st:SortSt}{lo n:Nat}(h:Amid st0 lo n st){i j:Nat}(hi:lo<=i)(hj:j<=lo+n)(hn:lo+n<=(arrOf st0).size):Amid st0 lo n (setArr st (mirror (arrOf st) i j ((j-i) / 2))) :=
 h.set (mirror_perm _ _ _ _) λ k hk=>by rw[getElem?_mirror_all (by rw[h.sz];lia),if_neg (by lia)]
theorem Amid.bub{st0 st:SortSt}{lo n:Nat}(h:Amid st0 lo n st){k l:Nat}(hk:k<n)(hl:l<=k)(hn:lo+n<=(arrOf st0).size):Amid st0 lo n (setArr st (bubble (arrOf st) (lo+k) (k-l))) :=
 h.set (bubble_perm _ _ _) λ i hi=>by
  rw[getElem?_bubble (by rw[h.sz];lia) _ (by lia)];rw[if_neg (by lia),if_neg (by lia)]
theorem DR{st:SortSt}{i j:Nat}{Q:Unit->SortSt->Prop}(h:Q () (setArr st (mirror (arrOf st) i j ((j-i) / 2)))):wpS M A E s (reverseSlice' i j) Q st:=by
 rw[reverseSlice'_eq];exact wpS_modify h
theorem OO{st:SortSt}{i j:Nat}{Q:Unit->SortSt->Prop}(h:Q () (setArr st (bubble (arrOf st) i (i-j)))):wpS M A E s (moveDown' i j) Q st:=by
 rw[moveDown'_eq];exact wpS_modify h
theorem FQ(L:LtG M A E s kd κ S){st0 st:SortSt}{lo n ok:Nat}{Q:Bool->SortSt->Prop}(hk:kindOf st0=kd)(hS:∀x∈(arrOf st0).toList,S x)(hn:lo+n<=(arrOf st0).size)(hok:ok<=n)(B:Amid st0 lo n st)(up:UpG κ (arrOf st) lo ok)
  (h:∀u,Amid st0 lo n u->UpG κ (arrOf u) lo n->Q true u):wpS M A E s (Lz lo n ok) Q st:=by
 refine wpS_bind (wpS_mono (wpS_forRange (I:=λ k (c:Option Bool×Unit) u=>c=(none,())/\Amid st0 lo n u/\UpG κ (arrOf u) lo (min k n))
  (Q:=λ(c:Option Bool×Unit) u=>c=(none,())/\Amid st0 lo n u/\UpG κ (arrOf u) lo n) ?step ?fin ?init) ?post)
 case post =>
  rintro c u ⟨rfl,B1,up1⟩;exact wpS_pure (h u B1 up1)
 case init =>
  refine⟨rfl,B,λ i j hij hj=>?_⟩;rcases Nat.eq_zero_or_pos ok with h1|h1
  .have:i=j:=by lia
   subst this;exact Int.le_refl _
  .exact up i j hij (by lia)
 case fin =>
  rintro c u ⟨hc,B1,up1⟩;refine⟨hc,B1,?_⟩;rwa [show min (max (max ok 1) n) n=n by lia]at up1
 case step =>
  rintro k c u hak hkn ⟨rfl,B1,up1⟩;rw[show min k n=k by lia]at up1;refine wpS_bind (wpS_mono (wpS_forRange (I:=λ x (c:Option Bool×Nat×Nat) v=>v=u/\∃l r,c=(none,l,r)/\l<=r/\r<=k/\r-l<=k-x /\
    (∀i,i<l->KG κ (arrOf u) (lo+i)<=KG κ (arrOf u) (lo+k))/\(∀i,r<=i->i<k->KG κ (arrOf u) (lo+k)<KG κ (arrOf u) (lo+i)))
   (Q:=λ(c:Option Bool×Nat×Nat) v=>v=u/\∃l r,c=(none,l,r)/\l<=k /\
    (∀i,i<l->KG κ (arrOf u) (lo+i)<=KG κ (arrOf u) (lo+k))/\(∀i,l<=i->i<k->KG κ (arrOf u) (lo+k)<KG κ (arrOf u) (lo+i))) ?istep ?ifin ?iinit) ?ipost)
  case iinit=>exact⟨rfl,0,k,rfl,Nat.zero_le _,Nat.le_refl _,Nat.le_refl _,λ i hi=>absurd hi (Nat.not_lt_zero i),λ i g1 g2=>by lia⟩
  case ifin =>
   rintro c v ⟨rfl,l,r,rfl,hlr,hrk,hm,g1,g2⟩;have:l=r:=by lia
   subst this;exact⟨rfl,l,l,rfl,hrk,g1,g2⟩
  case istep =>
   rintro x c v _ hxk ⟨rfl,l,r,rfl,hlr,hrk,hm,g1,g2⟩;dsimp only;rcases Nat.lt_or_ge l r with hge|hge
   .rw[if_neg (by lia)];refine wpS_bind (EH L hk hS B1 (by lia) (by lia) ?_);by_cases hless:KG κ (arrOf v) (lo+k)<KG κ (arrOf v) (lo+(l+r) / 2)
    .simp only[hless,decide_true,if_true];refine wpS_pure ⟨rfl,l,(l+r) / 2,rfl,by lia,by lia,by lia,g1,λ i i1 i2=>?_⟩;exact Int.lt_of_lt_of_le hless (up1 _ _ i1 i2)
    .simp only[hless,decide_false,Bool.false_eq_true,if_false];refine wpS_pure ⟨rfl,(l+r) / 2+1,r,rfl,by lia,by lia,by lia,λ i i1=>?_,g2⟩;exact Int.le_trans (up1 i ((l+r) / 2) (by lia) (by lia)) (Int.not_lt.mp hless)
   .rw[if_pos hge];have:l=r:=by lia
    subst this;exact wpS_pure ⟨rfl,l,l,rfl,hrk,g1,g2⟩
  case ipost =>
   rintro c v ⟨rfl,l,r,rfl,hlk,g1,g2⟩;have hks:lo+k<(arrOf v).size:=by rw[B1.sz];lia
   refine wpS_bind (OO (wpS_pure ⟨rfl,?_,?_⟩))
   .rw[show lo+k-(lo+l)=k-l by lia];exact B1.bub hkn hlk hn
   rw[show min (k+1) n=k+1 by lia];intro i j hij hj;show KG κ (bubble (arrOf v) (lo+k) (lo+k-(lo+l))) (lo+i)<=KG κ (bubble (arrOf v) (lo+k) (lo+k-(lo+l))) (lo+j);rw[show lo+k-(lo+l)=k-l by lia];rw[Jp hks (by lia),Jp hks (by lia),show lo+k-(k-l)=lo+l by lia];have at1:∀i,i≠0->lo+i-1=lo+(i-1):=λ i hi=>by lia
   repeat' split
   all_goals first
    | (exfalso;lia)
    |exact Int.le_refl _
    | (rw[at1 _ (by lia)];exact Int.le_of_lt (g2 _ (by lia) (by lia)))
    | (rw[at1 i (by lia),at1 j (by lia)];exact up1 _ _ (by lia) (by lia))
    | (rw[at1 j (by lia)];exact up1 _ _ (by lia) (by lia))
    |exact g1 _ (by lia)
    |exact up1 _ _ (by lia) (by lia)
def OB:Nat->Nat->StateT SortSt Sem (Option Nat):=sortPriv% PySem.Builtin.countRun
def SU(M:Model)(A:Around)(E:VPz)(s:Shared)(lo:Nat)(f:Nat->Option (Option Nat)×Nat->StateT SortSt Sem (ForInStep (Option (Option Nat)×Nat))):Prop :=
 ∀x n u (R:ForInStep (Option (Option Nat)×Nat)->SortSt->Prop),wpS M A E s (ltAt' (lo+n) (lo+n-1)) (λ r v=>∃b,r=some b/\(b=true->R (.done (none,n)) v)/\(b=false->R (.yield (none,n+1)) v)) u->wpS M A E s (f x (none,n)) R u
theorem UpG.more{xs:Array Keyed}{lo x:Nat}(up:UpG κ xs lo x)(hx:1<=x)(g:¬KG κ xs (lo+x)<KG κ xs (lo+x-1)):UpG κ xs lo (x+1):=λ i j hij hj=>by
 rcases Nat.lt_or_ge j x with hjx|hjx
 .exact up i j hij hjx
 .have e:j=x:=by lia
  subst e;rcases Nat.lt_or_ge i j with hi|hi
  .have:=up i (j-1) (by lia) (by lia);rw[show lo+(j-1)=lo+j-1 by lia]at this;lia
  .rw[show i=j by lia];exact Int.le_refl _
theorem DownG.more{xs:Array Keyed}{lo x:Nat}(up:DownG κ xs lo x)(hx:1<=x)(g:KG κ xs (lo+x)<=KG κ xs (lo+x-1)):DownG κ xs lo (x+1):=λ i j hij hj=>by
 rcases Nat.lt_or_ge j x with hjx|hjx
 .exact up i j hij hjx
 .have e:j=x:=by lia
  subst e;rcases Nat.lt_or_ge i j with hi|hi
  .have:=up i (j-1) (by lia) (by lia);rw[show lo+(j-1)=lo+j-1 by lia]at this;lia
  .rw[show i=j by lia];exact Int.le_refl _
theorem TZ(L:LtG M A E s kd κ S){st0 st:SortSt}{lo a nrem:Nat}{f:Nat->Option (Option Nat)×Nat->StateT SortSt Sem (ForInStep (Option (Option Nat)×Nat))}{Q:Option (Option Nat)×Nat->SortSt->Prop}(hk:kindOf st0=kd)(hS:∀x∈(arrOf st0).toList,S x)(hn:lo+nrem<=(arrOf st0).size)(B:Amid st0 lo nrem st)
  (hf:SU M A E s lo f) (ha:1<=a) (han:a<=nrem) (up:UpG κ (arrOf st) lo a)
  (h:∀n,a<=n->n<=nrem->UpG κ (arrOf st) lo n->(n=nrem\/KG κ (arrOf st) (lo+n)<KG κ (arrOf st) (lo+n-1))->Q (none,n) st):wpS M A E s (forIn [a:nrem] (none,a) f) Q st:=by
 refine wpS_forRange (I:=λ x c u=>u=st/\c=(none,x)/\UpG κ (arrOf st) lo x) ?_ ?_ ⟨rfl,rfl,up⟩
 .rintro x c u hax hxn ⟨rfl,rfl,up1⟩;refine hf _ _ _ _ (EH L hk hS B (by lia) (by lia) ⟨_,rfl,λ e=>?_,λ e=>?_⟩)
  .exact h x hax (by lia) up1 (.inr (of_decide_eq_true e))
  .exact⟨rfl,rfl,up1.more (by lia) (of_decide_eq_false e)⟩
 .rintro c u ⟨rfl,rfl,up1⟩;rw[show max a nrem=nrem by lia]at up1 |-;exact h nrem han (Nat.le_refl _) up1 (.inl rfl)
theorem MQ(L:LtG M A E s kd κ S){st0 st:SortSt}{lo m nrem:Nat}{f:Nat->Option (Option Nat)×Nat->StateT SortSt Sem (ForInStep (Option (Option Nat)×Nat))}{g:Option (Option Nat)×Nat->StateT SortSt Sem (Option Nat)}{Q:Option Nat->SortSt->Prop}(hk:kindOf st0=kd)(hS:∀x∈(arrOf st0).toList,S x)(hn:lo+nrem<=(arrOf st0).size)(B:Amid st0 lo nrem st)
  (hf:SU M A E s lo f) (hg:∀n,g (none,n)=pure (some n)) (ha:1<=m) (han:m<=nrem) (dn:DownG κ (arrOf st) lo m)
  (h:∀n u,Amid st0 lo nrem u->1<=n->n<=nrem->UpG κ (arrOf u) lo n->Q (some n) u):wpS M A E s (reverseSlice' lo (lo+m) >>= λ_=>(forIn [m:nrem] (none,m) f >>= g)) Q st:=by
 refine wpS_bind (DR ?_);have B1:=B.mir (i:=lo) (j:=lo+m) (Nat.le_refl _) (by lia) hn;have sz:lo+m<=(arrOf st).size:=by rw[B.sz];lia
 refine wpS_bind (TZ L hk hS hn B1 hf ha han (λ i j hij hj=>?_) λ n h1 h2 h3 _=>?_)
 .show KG κ (mirror (arrOf st) lo (lo+m) _) (lo+i)<=KG κ (mirror (arrOf st) lo (lo+m) _) (lo+j);rw[FA sz,FA sz,if_pos (by lia),if_pos (by lia)];rw[show lo+(lo+m)-1-(lo+i)=lo+(m-1-i) by lia,show lo+(lo+m)-1-(lo+j)=lo+(m-1-j) by lia];exact dn _ _ (by lia) (by lia)
 .rw[hg];exact wpS_pure (h n _ B1 (by lia) h2 h3)
def UU(M:Model)(A:Around)(E:VPz)(s:Shared)(lo:Nat)(f:Nat->Option (Option Nat)×Nat×Nat->StateT SortSt Sem (ForInStep (Option (Option Nat)×Nat×Nat))):Prop :=
 ∀x n q u (R:ForInStep (Option (Option Nat)×Nat×Nat)->SortSt->Prop),wpS M A E s (ltAt' (lo+n) (lo+n-1)) (λ r v=>∃b,r=some b/\(b=true->q>0->R (.yield (none,n+1,0)) (setArr v (mirror (arrOf v) (lo+n-(q+1)) (lo+n) ((lo+n-(lo+n-(q+1))) / 2))))/\(b=true->q=0->R (.yield (none,n+1,0)) v) /\
  (b=false->wpS M A E s (ltAt' (lo+n-1) (lo+n)) (λ r w=>∃b,r=some b/\(b=true->R (.done (none,n,q)) w)/\(b=false->R (.yield (none,n+1,q+1)) w)) v)) u->wpS M A E s (f x (none,n,q)) R u
theorem RY(L:LtG M A E s kd κ S){st0 st:SortSt}{lo n nrem:Nat}{f:Nat->Option (Option Nat)×Nat×Nat->StateT SortSt Sem (ForInStep (Option (Option Nat)×Nat×Nat))}{Q:Option (Option Nat)×Nat×Nat->SortSt->Prop}(hk:kindOf st0=kd)(hS:∀x∈(arrOf st0).toList,S x)(hn:lo+nrem<=(arrOf st0).size)(B:Amid st0 lo nrem st)
  (hf:UU M A E s lo f) (ha:1<=n) (han:n<=nrem) (dn:DownG κ (arrOf st) lo n)
  (h:∀m q u,Amid st0 lo nrem u->n<=m->m<=nrem->DownG κ (arrOf u) lo m->q+1<=m->(∀i,lo+m-(q+1)<=i->i<lo+m->KG κ (arrOf u) i=KG κ (arrOf u) (lo+m-1))->Q (none,m,q) u):wpS M A E s (forIn [n:nrem] (none,n,0) f) Q st:=by
 refine wpS_forRange (I:=λ x c u=>∃q,c=(none,x,q)/\Amid st0 lo nrem u/\DownG κ (arrOf u) lo x/\q+1<=x/\(∀i,lo+x-(q+1)<=i->i<lo+x->KG κ (arrOf u) i=KG κ (arrOf u) (lo+x-1))) ?_ ?_ ⟨0,rfl,B,dn,ha,λ i h1 h2=>by rw[show i=lo+n-1 by lia]⟩
 .rintro x c u hax hxn ⟨q,rfl,B1,dn1,hq,he⟩;have sz:lo+x<=(arrOf u).size:=by rw[B1.sz];lia
  refine hf _ _ _ _ _ (EH L hk hS B1 (by lia) (by lia) ⟨_,rfl,λ e q0=>?_,λ e q0=>?_,λ e=>?_⟩)
  .have e:=of_decide_eq_true e;have lv:=Fh sz he;refine⟨0,rfl,B1.mir (by lia) (by lia) hn,?_,by lia,λ i h1 h2=>by rw[show i=lo+(x+1)-1 by lia]⟩;have d2:DownG κ (mirror (arrOf u) (lo+x-(q+1)) (lo+x) ((lo+x-(lo+x-(q+1))) / 2)) lo x:=λ i j hij hj=>by
    rw[lv,lv];exact dn1 i j hij hj
   exact d2.more (by lia) (by rw[lv,lv];exact Int.le_of_lt e)
  .have e:=of_decide_eq_true e;exact⟨0,rfl,B1,dn1.more (by lia) (Int.le_of_lt e),by lia,λ i h1 h2=>by rw[show i=lo+(x+1)-1 by lia]⟩
  .have e:=of_decide_eq_false e;refine EH L hk hS B1 (by lia) (by lia) ⟨_,rfl,λ e2=>?_,λ e2=>?_⟩
   .exact h x q u B1 hax (by lia) dn1 hq he
   .have e2:=of_decide_eq_false e2;refine⟨q+1,rfl,B1,dn1.more (by lia) (by lia),by lia,λ i h1 h2=>?_⟩;rcases Nat.lt_or_ge i (lo+x) with hi|hi
    .rw[he i (by lia) hi,show lo+(x+1)-1=lo+x by lia];lia
    .rw[show i=lo+(x+1)-1 by lia]
 .rintro c u ⟨q,rfl,B1,dn1,hq,he⟩;rw[show max n nrem=nrem by lia]at dn1 hq he |-;exact h nrem q u B1 han (Nat.le_refl _) dn1 hq he
theorem HV(L:LtG M A E s kd κ S){st:SortSt}{lo nrem:Nat}{Q:Option Nat->SortSt->Prop}(hk:kindOf st=kd)(hS:∀x∈(arrOf st).toList,S x)(hn:lo+nrem<=(arrOf st).size)(h1:1<=nrem)
  (h:∀m u,Amid st lo nrem u->1<=m->m<=nrem->UpG κ (arrOf u) lo m->Q (some m) u):wpS M A E s (OB lo nrem) Q st:=by
 have B:=Amid.refl st lo nrem;have sure:∀(f:Nat->Option (Option Nat)×Nat->StateT SortSt Sem (ForInStep (Option (Option Nat)×Nat))),(∀x n u (R:ForInStep (Option (Option Nat)×Nat)->SortSt->Prop),wpS M A E s (ltAt' (lo+n) (lo+n-1)) (λ r v=>∃b,r=some b/\(b=true->R (.done (none,n)) v)/\(b=false->R (.yield (none,n+1)) v)) u->wpS M A E s (f x (none,n)) R u)->SU M A E s lo f:=λ f h=>h;refine wpS_bind (TZ L hk hS hn B (λ x n u R g=>wpS_bind (wpS_mono g ?_)) (Nat.le_refl 1) h1 (λ i j hij hj=>by rw[show i=j by lia];exact Int.le_refl _) λ n hn1 hn2 up hor=>?_)
 .rintro r v ⟨b,rfl,g1,g2⟩;cases b with
  |true=>exact wpS_pure (g1 rfl)
  |false=>exact wpS_pure (g2 rfl)
 dsimp only;by_cases hnn:n=nrem
 .rw[if_pos (beq_iff_eq.mpr hnn)];exact wpS_pure (h n st B hn1 hn2 up)
 rw[if_neg (λ z=>hnn (beq_iff_eq.mp z))];have hlt:=hor.resolve_left hnn;have sz:lo+n<=(arrOf st).size:=by lia
 rcases Nat.lt_or_ge 1 n with hgt|hgt
 .rw[if_pos hgt];refine wpS_bind (EH L hk hS B (by lia) (by lia) ?_);by_cases rose:KG κ (arrOf st) lo<KG κ (arrOf st) (lo+n-1)
  .rw[decide_eq_true rose];exact wpS_pure (h n st B hn1 hn2 up)
  rw[decide_eq_false rose];have all:∀k,lo<=k->k<lo+n->KG κ (arrOf st) k=KG κ (arrOf st) (lo+n-1):=λ k k1 k2=>by
   have a1:=up 0 (k-lo) (by lia) (by lia);have a2:=up (k-lo) (n-1) (by lia) (by lia);rw[Nat.add_zero]at a1;rw[show lo+(k-lo)=k by lia]at a1 a2;rw[show lo+(n-1)=lo+n-1 by lia]at a2;lia
  refine wpS_bind (DR ?_);have lv:=Fh sz all;have B1:=B.mir (i:=lo) (j:=lo+n) (Nat.le_refl _) (by lia) hn;have dn:DownG κ (mirror (arrOf st) lo (lo+n) ((lo+n-lo) / 2)) lo (n+1):=by
   refine DownG.more (λ i j hij hj=>?_) hn1 (by rw[lv,lv];exact Int.le_of_lt hlt);rw[lv,lv,all _ (by lia) (by lia),all (lo+i) (by lia) (by lia)];exact Int.le_refl _
  replace dn:DownG κ (arrOf (setArr st (mirror (arrOf st) lo (lo+n) ((lo+n-lo) / 2)))) lo (n+1):=dn
  generalize setArr st (mirror (arrOf st) lo (lo+n) ((lo+n-lo) / 2))=w at B1 dn |-;clear rose all lv;refine wpS_bind (wpS_lift (wpAny_rule ⟨rfl,?_⟩));refine wpS_bind (RY L hk hS hn B1 (λ x n q u R g=>wpS_bind (wpS_mono g ?_)) (by lia) (by lia) dn λ m q u B2 m1 m2 dn2 q1 he=>?_)
  .rintro r v ⟨b,rfl,g1,g2,g3⟩;cases b with
   |true =>
    rcases Nat.eq_zero_or_pos q with q0|q0
    .subst q0;exact wpS_pure (g2 rfl rfl)
    .dsimp only;rw[if_pos rfl,if_pos q0];exact wpS_bind (DR (wpS_pure (g1 rfl q0)))
   |false =>
    refine wpS_bind (wpS_mono (g3 rfl) ?_);rintro r v ⟨b,rfl,g1,g2⟩;cases b with
    |true=>exact wpS_pure (g1 rfl)
    |false=>exact wpS_pure (g2 rfl)
  dsimp only;have sz2:lo+m<=(arrOf u).size:=by rw[B2.sz];lia
  rcases Nat.eq_zero_or_pos q with q0|q0
  .rw[if_neg (by lia)];refine MQ L hk hS hn B2 (λ x n u R g=>wpS_bind (wpS_mono g ?_)) (λ n=>rfl) (by lia) m2 dn2 h;rintro r v ⟨b,rfl,g1,g2⟩;cases b with
   |true=>exact wpS_pure (g1 rfl)
   |false=>exact wpS_pure (g2 rfl)
  .rw[if_pos q0];refine wpS_bind (DR ?_);have lv:=Fh sz2 he;refine MQ L hk hS hn (B2.mir (by lia) (by lia) hn) (λ x n u R g=>wpS_bind (wpS_mono g ?_)) (λ n=>rfl) (by lia) m2 (λ i j hij hj=>?_) h
   .rintro r v ⟨b,rfl,g1,g2⟩;cases b with
    |true=>exact wpS_pure (g1 rfl)
    |false=>exact wpS_pure (g2 rfl)
   .show KG κ (mirror _ _ _ _) _<=KG κ (mirror _ _ _ _) _;rw[lv,lv];exact dn2 i j hij hj
 .rw[if_neg (by lia)];have e1:n=1:=by lia
  have dn:DownG κ (arrOf st) lo (n+1):=DownG.more (λ i j hij hj=>by rw[show i=j by lia];exact Int.le_refl _) hn1 (Int.le_of_lt hlt);refine wpS_bind (wpS_lift (wpAny_rule ⟨rfl,?_⟩));refine wpS_bind (RY L hk hS hn B (λ x n q u R g=>wpS_bind (wpS_mono g ?_)) (by lia) (by lia) dn λ m q u B2 m1 m2 dn2 q1 he=>?_)
  .rintro r v ⟨b,rfl,g1,g2,g3⟩;cases b with
   |true =>
    rcases Nat.eq_zero_or_pos q with q0|q0
    .subst q0;exact wpS_pure (g2 rfl rfl)
    .dsimp only;rw[if_pos rfl,if_pos q0];exact wpS_bind (DR (wpS_pure (g1 rfl q0)))
   |false =>
    refine wpS_bind (wpS_mono (g3 rfl) ?_);rintro r v ⟨b,rfl,g1,g2⟩;cases b with
    |true=>exact wpS_pure (g1 rfl)
    |false=>exact wpS_pure (g2 rfl)
  dsimp only;have sz2:lo+m<=(arrOf u).size:=by rw[B2.sz];lia
  rcases Nat.eq_zero_or_pos q with q0|q0
  .rw[if_neg (by lia)];refine MQ L hk hS hn B2 (λ x n u R g=>wpS_bind (wpS_mono g ?_)) (λ n=>rfl) (by lia) m2 dn2 h;rintro r v ⟨b,rfl,g1,g2⟩;cases b with
   |true=>exact wpS_pure (g1 rfl)
   |false=>exact wpS_pure (g2 rfl)
  .rw[if_pos q0];refine wpS_bind (DR ?_);have lv:=Fh sz2 he;refine MQ L hk hS hn (B2.mir (by lia) (by lia) hn) (λ x n u R g=>wpS_bind (wpS_mono g ?_)) (λ n=>rfl) (by lia) m2 (λ i j hij hj=>?_) h
   .rintro r v ⟨b,rfl,g1,g2⟩;cases b with
    |true=>exact wpS_pure (g1 rfl)
    |false=>exact wpS_pure (g2 rfl)
   .show KG κ (mirror _ _ _ _) _<=KG κ (mirror _ _ _ _) _;rw[lv,lv];exact dn2 i j hij hj
def Tiles(κ:Keyed->Int)(xs:List Keyed):Nat->List (Nat×Nat×Nat)->Nat->Prop
 |a,[],b=>a=b
 |a,p::ps,b=>p.1=a/\0<p.2.1/\Rise κ ((xs.drop a).take p.2.1)/\Tiles κ xs (a+p.2.1) ps b
theorem Tiles.len{xs:List Keyed}:∀{ps:List (Nat×Nat×Nat)}{a b:Nat},Tiles κ xs a ps b->a+ps.length<=b
 |[],a,b,h=>Nat.le_of_eq h
 |p::ps,a,b,h=>by
  have:=Tiles.len h.2.2.2;have:=h.2.1;rw[List.length_cons];lia
theorem Tiles.app{xs:List Keyed}:∀{ps qs:List (Nat×Nat×Nat)}{a b:Nat},Tiles κ xs a (ps++qs) b↔∃c,Tiles κ xs a ps c/\Tiles κ xs c qs b
 |[],qs,a,b=>⟨λ h=>⟨a,rfl,h⟩,λ⟨c,h1,h2⟩=>by cases h1;exact h2⟩
 |p::ps,qs,a,b=>by
  constructor
  .rintro⟨h1,h2,h3,h4⟩;obtain⟨c,g1,g2⟩:=Tiles.app.mp h4;exact⟨c,⟨h1,h2,h3,g1⟩,g2⟩
  .rintro⟨c,⟨h1,h2,h3,g1⟩,g2⟩;exact⟨h1,h2,h3,Tiles.app.mpr ⟨c,g1,g2⟩⟩
theorem G5{α:Type}{xs ys:List α}{a n:Nat}(h:∀i,a<=i->i<a+n->ys[i]?=xs[i]?):(ys.drop a).take n=(xs.drop a).take n:=by
 apply List.ext_getElem?;intro i;rw[List.getElem?_take,List.getElem?_take];split
 .rw[List.getElem?_drop,List.getElem?_drop];exact h _ (by lia) (by lia)
 .rfl
theorem Tiles.same{xs ys:List Keyed}:∀{ps:List (Nat×Nat×Nat)}{a b:Nat},Tiles κ xs a ps b->(∀i,a<=i->i<b->ys[i]?=xs[i]?)->Tiles κ ys a ps b
 |[],a,b,h,_=>h
 |p::ps,a,b,h,g=>by
  have l:=Tiles.len h.2.2.2;refine⟨h.1,h.2.1,?_,Tiles.same h.2.2.2 λ i i1 i2=>g i (by lia) i2⟩;rw[G5 λ i i1 i2=>g i i1 (by lia)];exact h.2.2.1
theorem Tiles.words{xs:List Keyed}:∀{ps qs:List (Nat×Nat×Nat)}{a b:Nat},Tiles κ xs a ps b->qs.map (λ p=>(p.1,p.2.1))=ps.map (λ p=>(p.1,p.2.1))->Tiles κ xs a qs b
 |[],[],a,b,h,_=>h
 |[],_::_,a,b,h,e=>by simp at e
 |_::_,[],a,b,h,e=>by simp at e
 |p::ps,q::qs,a,b,h,e=>by
  obtain⟨e1,e2⟩:=List.cons.inj e;obtain⟨e3,e4⟩:=Prod.mk.inj e1;have t:=Tiles.words h.2.2.2 e2;rw[<-e4]at t;exact⟨e3.trans h.1,by rw[e4];exact h.2.1,by rw[e4];exact h.2.2.1,t⟩
theorem Sh{α:Type}{p:Array α}{i:Nat}(h:i+1<p.size):∃P a b R,p.toList=P++a::b::R/\P.length=i/\p[i]?=some a/\p[i+1]?=some b:=by
 obtain⟨a,e1,_,d1⟩:=CJ (show i<p.size by lia);obtain⟨b,e2,_,d2⟩:=CJ h;refine⟨p.toList.take i,a,b,p.toList.drop (i+1+1),?_,by rw[List.length_take,Array.length_toList];lia,e1,e2⟩;rw[<-d2,<-d1,List.take_append_drop]
theorem Q2{α:Type}{p:Array α}{P R:List α}{a b v:α}(h:p.toList=P++a::b::R):((p.setIfInBounds P.length v).eraseIdxIfInBounds (P.length+1)).toList=P++v::R:=by
 have hs:p.size=P.length+(R.length+2):=by rw[<-Array.length_toList,h];simp
 have h1:P.length+1<(p.setIfInBounds P.length v).size:=by rw[Array.size_setIfInBounds];lia
 rw[Array.eraseIdxIfInBounds,dif_pos h1,Array.toList_eraseIdx,Array.toList_setIfInBounds,h];rw[List.set_append_right _ _ (Nat.le_refl _),Nat.sub_self,List.set_cons_zero,List.eraseIdx_append_of_length_le (by lia),Nat.add_sub_cancel_left];rfl
structure RunI(κ:Keyed->Int)(kd:SortKind)(a0:Array Keyed)(b:Nat)(st:SortSt):Prop where
 kd:kindOf st=kd
 fa:failedOf st=none
 pm:(arrOf st).Perm a0
 tl:Tiles κ (arrOf st).toList 0 (pendingOf st).toList b
theorem Mm(L:LtG M A E s kd κ S){a0:Array Keyed}{b i:Nat}{st:SortSt}{Q:Bool->SortSt->Prop}(hS:∀x∈a0.toList,S x)(hb:b<=a0.size)(I:RunI κ kd a0 b st)(hi:i+1<(pendingOf st).size)
  (h:∀u,RunI κ kd a0 b u->(pendingOf u).size+1=(pendingOf st).size->(∀i,b<=i->(arrOf u).toList[i]?=(arrOf st).toList[i]?)->Q true u):wpS M A E s (Lf i) Q st:=by
 obtain⟨P,p,q,R,e,rfl,e1,e2⟩:=Sh hi;have tl:=I.tl;rw[e]at tl;obtain⟨c,t1,t2⟩:=Tiles.app.mp tl;obtain⟨sa,na,pw⟩:=p;obtain⟨sb,nb,pw'⟩:=q;obtain⟨x1,x2,x3,y1,y2,y3,t3⟩:=t2;simp only at x1 x2 x3 y1 y2 y3 t3;subst x1;subst y1;have l3:=Tiles.len t3;have szz:(arrOf st).size=a0.size:=I.pm.size_eq;refine Kz L I.kd I.fa e1 e2 (λ x hx=>hS x ((Array.perm_iff_toList_perm.mp I.pm).mem_iff.mp hx)) x2 y2 (by lia) x3 y3 λ arr' g seg ea r pm=>?_;have two:=Q2 (v:=(sa,na+nb,pw)) e;have sl:seg.length=na+nb:=by
  rw[pm.length_eq,List.length_append,List.length_take,List.length_take,List.length_drop,List.length_drop,Array.length_toList];lia
 have le:((arrOf st).toList.take sa).length=sa:=by rw[List.length_take,Array.length_toList];lia
 have all:(arrOf st).toList=(arrOf st).toList.take sa++(((arrOf st).toList.drop sa).take na++((arrOf st).toList.drop (sa+na)).take nb)++(arrOf st).toList.drop (sa+na+nb):=by
  rw[List.append_assoc,List.append_assoc,<-B5 _ (sa+na) nb,<-B5 _ sa na,List.take_append_drop]
 refine h _ ⟨rfl,rfl,?_,?_⟩ ?_ (λ i hi=>?_)
 .refine Array.Perm.trans ?_ I.pm;rw[Array.perm_iff_toList_perm];show arr'.toList.Perm _;rw[ea]
  conv=>rhs;rw[all]
  exact List.Perm.append_right _ (List.Perm.append_left _ pm)
 .show Tiles κ arr'.toList 0 (((pendingOf st).setIfInBounds P.length (sa,na+nb,pw)).eraseIdxIfInBounds (P.length+1)).toList b;rw[two];refine Tiles.app.mpr ⟨sa,t1.same λ i _ i2=>?_,rfl,by show 0<na+nb;lia,?_,?_⟩
  .rw[ea,List.append_assoc,List.getElem?_append_left (by lia),List.getElem?_take,if_pos i2]
  .show Rise κ ((arr'.toList.drop sa).take (na+nb));rw[ea,List.append_assoc,List.drop_append_of_le_length (by lia),List.drop_of_length_le (by lia),List.nil_append,List.take_append_of_le_length (by lia),List.take_of_length_le (by lia)];exact r
  .show Tiles κ arr'.toList (sa+(na+nb)) R b;rw[<-Nat.add_assoc];refine t3.same λ i i1 i2=>?_;rw[ea,List.getElem?_append_right (by rw[List.length_append];lia),List.getElem?_drop,List.length_append,le,sl];congr 1;lia
 .show(((pendingOf st).setIfInBounds P.length (sa,na+nb,pw)).eraseIdxIfInBounds (P.length+1)).size+1=(pendingOf st).size;rw[<-Array.length_toList,two,<-Array.length_toList,e];simp;lia
 .show arr'.toList[i]?=_;rw[ea,List.getElem?_append_right (by rw[List.length_append];lia),List.getElem?_drop,List.length_append,le,sl];congr 1;lia
theorem Ng{xs:Array Keyed}{lo n:Nat}(h:UpG κ xs lo n)(hn:lo+n<=xs.size):Rise κ ((xs.toList.drop lo).take n):=by
 refine List.pairwise_iff_getElem.mpr λ i j hi hj hij=>?_;rw[List.length_take,List.length_drop,Array.length_toList]at hi hj;rw[List.getElem_take,List.getElem_take,List.getElem_drop,List.getElem_drop];have:=h i j (by lia) (by lia);unfold KG at this;rw[Array.getD_eq_getD_getElem?,Array.getD_eq_getD_getElem?,getElem?_pos xs (lo+i) (by lia),getElem?_pos xs (lo+j) (by lia)]at this
 simpa using this
theorem RunI.amid{a0:Array Keyed}{lo n:Nat}{st u:SortSt}(I:RunI κ kd a0 lo st)(B:Amid st lo n u):RunI κ kd a0 lo u :=
 ⟨B.kd.trans I.kd,B.fa.trans I.fa,B.pm.trans I.pm,by
  rw[B.pe];exact I.tl.same λ i _ i2=>by rw[Array.getElem?_toList,Array.getElem?_toList];exact B.out i (.inl i2)⟩
def NX:StateT SortSt Sem Unit:=sortPriv% PySem.Builtin.sortRuns
def DY:Nat->Nat->Nat->Nat:=sortPriv% PySem.Builtin.minRun
theorem FH:∀f n r,1<=n->1<=DY f n r
 |0,n,r,h=>by show 1<=n+r;lia
 |f+1,n,r,h=>by
  show 1<=if n<64 then n+r else DY f (n / 2) (max r (n % 2));split
  .lia
  .exact FH f _ _ (by lia)
theorem RunI.add{a0:Array Keyed}{lo n pw:Nat}{st:SortSt}{p:Array (Nat×Nat×Nat)}{g:Nat}(I:RunI κ kd a0 lo st)(hp:p.toList.map (λ p=>(p.1,p.2.1))=(pendingOf st).toList.map (λ p=>(p.1,p.2.1)))(hn:0<n)(r:Rise κ (((arrOf st).toList.drop lo).take n)):RunI κ kd a0 (lo+n) (SortSt.mk' (kindOf st) (arrOf st) (p.push (lo,n,pw)) g (failedOf st)) :=
 ⟨I.kd,I.fa,I.pm,by
  show Tiles κ (arrOf st).toList 0 (p.push (lo,n,pw)).toList (lo+n);rw[Array.toList_push];exact Tiles.app.mpr ⟨lo,I.tl.words hp,rfl,hn,r,rfl⟩⟩
theorem I8{p:Array (Nat×Nat×Nat)}{i pw:Nat}:(p.modify i λ x=>(x.1,x.2.1,pw)).toList.map (λ p=>(p.1,p.2.1))=p.toList.map (λ p=>(p.1,p.2.1)):=by
 apply List.ext_getElem?;intro j;simp only[List.getElem?_map,Array.getElem?_toList,Array.getElem?_modify];split
 .next h=>subst h;cases p[i]?<;>rfl
 .rfl
theorem Eg(L:LtG M A E s kd κ S){st:SortSt}{Q:Unit->SortSt->Prop}(hk:kindOf st=kd)(hfa:failedOf st=none)(hpe:pendingOf st=#[])(hS:∀x∈(arrOf st).toList,S x)
  (h:∀u,(arrOf u).Perm (arrOf st)->failedOf u=none->Rise κ (arrOf u).toList->Q () u):wpS M A E s NX Q st:=by
 have I0:RunI κ kd (arrOf st) 0 st:=⟨hk,hfa,Array.Perm.refl _,by rw[hpe];rfl⟩;refine wpS_bind (wpS_get ?_);dsimp only;generalize hsz:(arrOf st).size=N;refine wpS_bind (wpS_mono (wpS_forRange
  (I:=λ x (c:Option Unit×Nat) u=>c.1=none/\x<=c.2/\c.2<=N/\RunI κ kd (arrOf st) c.2 u)
  (Q:=λ(c:Option Unit×Nat) u=>c=(none,N)/\RunI κ kd (arrOf st) N u) ?step ?fin ⟨rfl,Nat.le_refl _,Nat.zero_le _,I0⟩) ?post)
 case fin =>
  rintro⟨r,lo⟩ u ⟨e,h1,h2,I⟩;have h1:max 0 N<=lo:=h1;have h2:lo<=N:=h2;have:lo=N:=by lia
  subst this;have e:r=none:=e;subst e;exact⟨rfl,I⟩
 case step =>
  rintro x ⟨r,lo⟩ u _ hx ⟨e,h1,h2,I⟩;have h1:x<=lo:=h1;have h2:lo<=N:=h2;have e:r=none:=e;subst e;dsimp only at I |-;have us:(arrOf u).size=N:=I.pm.size_eq.trans hsz;have uS:∀x∈(arrOf u).toList,S x:=λ x hx=>hS x ((Array.perm_iff_toList_perm.mp I.pm).mem_iff.mp hx);rcases Nat.lt_or_ge lo N with hlo|hlo
  .rw[if_neg (by lia)];refine wpS_bind (HV L I.kd uS (by lia) (by lia) λ m u1 B1 m1 m2 up1=>?_);dsimp only;have mr:1<=DY N N 0:=FH _ _ _ (by lia);have back:∀(n:Nat)(v:SortSt),RunI κ kd (arrOf st) lo v->0<n->lo+n<=N->Rise κ (((arrOf v).toList.drop lo).take n) ->
     RunI κ kd (arrOf st) lo v/\0<n/\lo+n<=N/\Rise κ (((arrOf v).toList.drop lo).take n):=λ n v a b c d=>⟨a,b,c,d⟩
   have I1:=I.amid B1;rcases Nat.lt_or_ge m (DY N N 0) with hm|hm
   .rw[if_pos (show m<(sortPriv% PySem.Builtin.minRun) N N 0 from hm)];refine wpS_bind (wpS_lift (wpAny_rule ⟨rfl,?_⟩));have hf1:min (N-lo) (DY N N 0)<=N-lo:=Nat.min_le_left _ _;have hf2:m<=min (N-lo) (DY N N 0):=Nat.le_min.mpr ⟨m2,Nat.le_of_lt hm⟩
    replace hf1:min (N-lo) ((sortPriv% PySem.Builtin.minRun) N N 0)<=N-lo:=hf1
    replace hf2:m<=min (N-lo) ((sortPriv% PySem.Builtin.minRun) N N 0):=hf2
    generalize min (N-lo) ((sortPriv% PySem.Builtin.minRun) N N 0)=n at hf1 hf2 |-;have u1S:∀x∈(arrOf u1).toList,S x:=λ x hx=>uS x (B1.mem hx);refine wpS_bind (FQ L I1.kd u1S (by rw[B1.sz];lia) hf2 (Amid.refl u1 lo n) up1 λ v B2 up2=>?_);have ff:∀{α:Type}(a b:α),(if (!true)=true then a else b)=b:=λ a b=>rfl;rw[ff];have Iv:=I1.amid B2;have rv:=Ng up2 (by rw[B2.sz,B1.sz];lia);refine wpS_bind (wpS_get ?_);cases hb:(pendingOf v).back? with
    |none =>
     dsimp only;exact wpS_bind (wpS_modify (wpS_pure ⟨rfl,by show x+1<=lo+n;lia,by show lo+n<=N;lia,Iv.add rfl (by lia) rv⟩))
    |some p =>
     obtain⟨s1,n1,q⟩:=p;dsimp only;refine wpS_bind (wpS_mono (wpS_forRange (I:=λ_ (c:Option Unit×Unit) w=>c=(none,())/\RunI κ kd (arrOf st) lo w/\Rise κ (((arrOf w).toList.drop lo).take n)) (Q:=λ(c:Option Unit×Unit) w=>c=(none,())/\RunI κ kd (arrOf st) lo w/\Rise κ (((arrOf w).toList.drop lo).take n)) ?_ (λ_ _ z=>z) ⟨rfl,Iv,rv⟩) ?_)
     .rintro y c w _ _ ⟨rfl,Iw,rw'⟩;refine wpS_bind (wpS_get ?_);split
      .next fst fst1 older hq =>
       split
       .exact wpS_pure ⟨rfl,Iw,rw'⟩
       .refine wpS_bind (Mm L hS (by lia) Iw ?_ λ v2 I2 _ ou=>?_)
        .split at hq
         .next h2 =>
          have h2:1<(pendingOf w).size:=h2;show(pendingOf w).size-2+1<(pendingOf w).size;lia
         .nomatch hq
        .refine wpS_pure ⟨rfl,I2,?_⟩;rw[G5 λ i i1 _=>ou i i1];exact rw'
      .exact wpS_pure ⟨rfl,Iw,rw'⟩
     .rintro c w ⟨rfl,Iw,rw'⟩;dsimp only;exact wpS_bind (wpS_modify (wpS_bind (wpS_modify (wpS_pure ⟨rfl,by show x+1<=lo+n;lia,by show lo+n<=N;lia,Iw.add I8 (by lia) rw'⟩))))
   .rw[if_neg (show ¬m<(sortPriv% PySem.Builtin.minRun) N N 0 from Nat.not_lt.mpr hm)];have Iv:=I1;have rv:=Ng up1 (by rw[B1.sz];lia);refine wpS_bind (wpS_get ?_);cases hb:(pendingOf u1).back? with
    |none =>
     dsimp only;exact wpS_bind (wpS_modify (wpS_pure ⟨rfl,by show x+1<=lo+m;lia,by show lo+m<=N;lia,Iv.add rfl (by lia) rv⟩))
    |some p =>
     obtain⟨s1,n1,q⟩:=p;dsimp only;refine wpS_bind (wpS_mono (wpS_forRange (I:=λ_ (c:Option Unit×Unit) w=>c=(none,())/\RunI κ kd (arrOf st) lo w/\Rise κ (((arrOf w).toList.drop lo).take m)) (Q:=λ(c:Option Unit×Unit) w=>c=(none,())/\RunI κ kd (arrOf st) lo w/\Rise κ (((arrOf w).toList.drop lo).take m)) ?_ (λ_ _ z=>z) ⟨rfl,Iv,rv⟩) ?_)
     .rintro y c w _ _ ⟨rfl,Iw,rw'⟩;refine wpS_bind (wpS_get ?_);split
      .next fst fst1 older hq =>
       split
       .exact wpS_pure ⟨rfl,Iw,rw'⟩
       .refine wpS_bind (Mm L hS (by lia) Iw ?_ λ v2 I2 _ ou=>?_)
        .split at hq
         .next h2 =>
          have h2:1<(pendingOf w).size:=h2;show(pendingOf w).size-2+1<(pendingOf w).size;lia
         .nomatch hq
        .refine wpS_pure ⟨rfl,I2,?_⟩;rw[G5 λ i i1 _=>ou i i1];exact rw'
      .exact wpS_pure ⟨rfl,Iw,rw'⟩
     .rintro c w ⟨rfl,Iw,rw'⟩;dsimp only;exact wpS_bind (wpS_modify (wpS_bind (wpS_modify (wpS_pure ⟨rfl,by show x+1<=lo+m;lia,by show lo+m<=N;lia,Iw.add I8 (by lia) rw'⟩))))
  .rw[if_pos hlo];have:lo=N:=by lia
   subst this;exact wpS_pure ⟨rfl,I⟩
 case post =>
  rintro c u ⟨rfl,I⟩;dsimp only;refine wpS_bind (wpS_mono (wpS_forRange (I:=λ x (c:Option Unit×Unit) v=>c=(none,())/\RunI κ kd (arrOf st) N v/\((pendingOf v).size+x<=N\/(pendingOf v).size<=1)) (Q:=λ(c:Option Unit×Unit) v=>c=(none,())/\RunI κ kd (arrOf st) N v/\(pendingOf v).size<=1) ?_ ?_ ⟨rfl,I,?_⟩) ?_)
  .rintro x c v _ hx ⟨rfl,Iv,hv⟩;refine wpS_bind (wpS_get ?_);rcases Nat.lt_or_ge 1 (pendingOf v).size with h1|h1
   .rw[if_neg (show ¬(pendingOf v).size<=1 by lia)];have ix:∀(b:Prop)[Decidable b],(if b then (pendingOf v).size-2-1 else (pendingOf v).size-2)+1<(pendingOf v).size:=λ b _=>by
     split<;>lia
    refine wpS_bind (Mm L hS (by lia) Iv (ix _) λ v2 I2 s2 _=>?_);exact wpS_pure ⟨rfl,I2,by rcases hv with hv|hv<;>lia⟩
   .rw[if_pos h1];exact wpS_pure ⟨rfl,Iv,h1⟩
  .rintro c v ⟨rfl,Iv,hv⟩;exact⟨rfl,Iv,by rcases hv with hv|hv<;>lia⟩
  .have:=Tiles.len I.tl;rw[Array.length_toList]at this;exact .inl (by lia)
  .rintro c v ⟨rfl,Iv,hv⟩;dsimp only;refine wpS_pure (h v Iv.pm Iv.fa ?_);have tl:=Iv.tl;have le:(pendingOf v).toList.length<=1:=by rw[Array.length_toList];exact hv
   have vs:(arrOf v).toList.length=N:=by rw[Array.length_toList];exact Iv.pm.size_eq.trans hsz
   generalize (pendingOf v).toList=ps at tl le
   match ps,tl,le with
   |[],tl,_ =>
    have e:0=N:=tl;rw[List.length_eq_zero_iff.mp (vs.trans e.symm)];exact List.Pairwise.nil
   |[p],tl,_ =>
    obtain⟨_,_,r,e⟩:=tl;have e:0+p.2.1=N:=e;rwa [List.drop_zero,List.take_of_length_le (by lia)]at r
end
def PD:Option NameKind->Bool
 |some .cell=>true
 |some .free=>true
 |_=>false
theorem Nz{o:Option NameKind}(h:PD o=true):o=some .cell\/o=some .free:=by
 match o,h with
 |some .cell,_=>exact .inl rfl
 |some .free,_=>exact .inr rfl
theorem EC(env:Env):∀(l:List (Str×NameKind))(acc:List (Str×Addr)),(∀y∈l,y.2=.free->∃c,env.cells.lookup y.1=some c) ->
  (∀x c,acc.lookup x=some c->env.cells.lookup x=some c) ->
  ∃cl,(forIn l acc (λ(x:Str×NameKind)(r:List (Str×Addr))=>if (x.2==.free)=true then (cellOf env x.1 >>= λ c=>pure (ForInStep.yield ((x.1,c)::r))) else pure (ForInStep.yield r)):Sem (List (Str×Addr)))=pure cl /\
   (∀x c,cl.lookup x=some c->env.cells.lookup x=some c)/\(∀x,((∃c,acc.lookup x=some c)\/(x,NameKind.free)∈l)->∃c,cl.lookup x=some c)
 |[],acc,_,ha=>⟨acc,by rfl,ha,λ x h=>h.elim id λ z=>nomatch z⟩
 | (n,k)::l,acc,hl,ha=>by
  have hl':∀y∈l,y.2=.free->∃c,env.cells.lookup y.1=some c:=λ y hy=>hl y (List.mem_cons_of_mem _ hy);by_cases hk:k=.free
  .subst hk;obtain⟨c,hc⟩:=hl (n,.free) List.mem_cons_self rfl;have hc':env.cells.lookup n=some c:=hc;have look:∀x,((n,c)::acc).lookup x=if x=n then some c else acc.lookup x:=λ x=>by
    rw[List.lookup_cons];by_cases e:x=n
    .subst e;simp
    .rw[if_neg e,show(x==n)=false by simpa using e]
   have ha':∀x d,((n,c)::acc).lookup x=some d->env.cells.lookup x=some d:=λ x d e=>by
    rw[look]at e;split at e
    .rename_i q;subst q;rw[hc'];exact e
    .exact ha x d e
   obtain⟨cl,e,h1,h2⟩:=EC env l ((n,c)::acc) hl' ha';refine⟨cl,?_,h1,λ x h=>h2 x ?_⟩
   .rw[<-e,List.forIn_cons];have ec:cellOf env n=pure c:=by unfold cellOf;rw[hc']
    show((cellOf env n >>= λ c=>pure (ForInStep.yield ((n,c)::acc))) >>= _:Sem (List (Str×Addr)))=_;rw[ec];rfl
   .rcases h with ⟨d,q⟩|h
    .left
     rw[look];by_cases z:x=n
     .exact⟨c,by rw[if_pos z]⟩
     .exact⟨d,by rw[if_neg z];exact q⟩
    .rcases List.mem_cons.mp h with z|z
     .left
      rw[look];exact⟨c,by rw[if_pos (congrArg Prod.fst z)]⟩
     .exact .inr z
  .obtain⟨cl,e,h1,h2⟩:=EC env l acc hl' ha;refine⟨cl,?_,h1,λ x h=>h2 x ?_⟩
   .rw[<-e,List.forIn_cons];have hb:(k==NameKind.free)=false:=by simpa using hk
    show((if (k==NameKind.free)=true then _ else pure (ForInStep.yield acc)) >>= _:Sem (List (Str×Addr)))=_;rw[hb];rfl
   .rcases h with h|h
    .exact .inl h
    .rcases List.mem_cons.mp h with z|z
     .exact absurd (congrArg Prod.snd z).symm hk
     .exact .inr z
theorem M9{scope:Scope}{env:Env}(h:∀y∈scope.names,y.2=.free->∃c,env.cells.lookup y.1=some c) :
  ∃cl,closureFor scope env=pure cl/\(∀x c,cl.lookup x=some c->env.cells.lookup x=some c)/\(∀x,(x,NameKind.free)∈scope.names->∃c,cl.lookup x=some c):=by
 obtain⟨cl,e,h1,h2⟩:=EC env scope.names [] h (λ x c e=>by simp at e);refine⟨cl,?_,h1,λ x hx=>h2 x (.inr hx)⟩;have e2:closureFor scope env=(forIn scope.names [] (λ(x:Str×NameKind)(r:List (Str×Addr))=>if (x.2==.free)=true then (cellOf env x.1 >>= λ c=>pure (ForInStep.yield ((x.1,c)::r))) else pure (ForInStep.yield r)) >>= λ r=>pure r:Sem (List (Str×Addr))):=by
  rfl
 rw[e2,e];rfl
abbrev AM(X:Cx)(scope:Scope)(cl:List (Str×Addr))(N:LSz)(C:Addr)(s:Shared)(H:Hp)(ex:List Addr):Cx :=
 { X with N:=N,s₀:=s,H₀:=H,env:=compEnvC scope cl C X.env,outer:=X.stack,ex:=ex,fn:=λ_=>false,pn:=[],xe:=λ_ _=>False }
def Ee(osc:Scope)(oN:LSz)(sc:Scope)(N:LSz)(fr:List (Option Nat)):Bool :=
 decide (sc.kind=.function)&&sc.names.all (λ y=>decide (y.2≠.cell))&&sc.names.all (λ y=>decide (y.2≠.free)||PD (osc.names.lookup y.1)) &&
 sc.names.all (λ y=>decide (y.2≠.local)||decide (sc.names.lookup y.1=some .local)) &&
 (N.zip fr).all (λ y=>match y.2 with
  |none=>true
  |some i=>decide (oN[i]?=some y.1)&&PD (osc.names.lookup y.1)&&decide (sc.names.lookup y.1=some .free))&&decide (N.length=fr.length)
structure Fj(osc:Scope)(oN:LSz)(sc:Scope)(N:LSz)(fr:List (Option Nat)):Prop where
 kind:sc.kind=.function
 nocell:∀y∈sc.names,y.2≠.cell
 free:∀y∈sc.names,y.2=.free->PD (osc.names.lookup y.1)=true
 loc:∀y∈sc.names,y.2=.local->sc.names.lookup y.1=some .local
 slots:∀(j:Nat)(x:Str)(i:Nat),N[j]?=some x->fr[j]?=some (some i)->oN[i]?=some x/\PD (osc.names.lookup x)=true/\sc.names.lookup x=some .free
 len:N.length=fr.length
theorem Dt{osc:Scope}{oN:LSz}{sc:Scope}{N:LSz}{fr:List (Option Nat)}(h:Ee osc oN sc N fr=true):Fj osc oN sc N fr:=by
 unfold Ee at h;simp only[Bool.and_eq_true,List.all_eq_true,decide_eq_true_eq,Bool.or_eq_true]at h;obtain⟨⟨⟨⟨⟨h1,h2⟩,h3⟩,h4⟩,h5⟩,h6⟩:=h;refine⟨h1,h2,λ y hy e=>(h3 y hy).resolve_left λ z=>z e,λ y hy e=>(h4 y hy).resolve_left λ z=>z e,λ j x i e1 e2=>?_,h6⟩;have hm:(x,some i)∈N.zip fr:=by
  have:(N.zip fr)[j]?=some (x,some i):=by rw[List.getElem?_zip_eq_some];exact⟨e1,e2⟩
  exact List.mem_of_getElem? this
 have:=h5 _ hm;simp only[Bool.and_eq_true,decide_eq_true_eq]at this;exact⟨this.1.1,this.1.2,this.2⟩
def stC(fr:List (Option Nat))(σ:St):St:=fr.map λ o=>o.bind λ i=>(σ[i]?).join
def OU(wi:TI)(g:TG)(te:TE)(fr:List (Option Nat)):TE:=λ σ H Q=>wi σ H λ J H1=>∀acc,H1 acc=none->∃W:Nat->Nat->St->Hp->Prop,(∃m,W 0 m (stC fr σ) (upd H1 acc (.lst [])))/\∀i m σ1 H2,W i m σ1 H2 ->
 (J.stop i H2/\Q (.ref acc) H2)\/(J.go i H2/\∀x H3,J.yld i H2 x H3->g x σ1 H3 λ σ4 H4=>te σ4 H4 λ v H5=>∃xs,H5 acc=some (.lst xs)/\xs.length<sizeLine/\∃m',m'<m/\W (i+1) m' σ4 (upd H5 acc (.lst (xs++[v]))))
section
variable{prog:Program}{w:World}{A:Around}{R:Result->Shared->Prop}{s:Shared}
theorem Ki{elt target iter:Expr}{scope:Scope}{pos:Pos}{it acc:Value}{env:Env}(I:Nat->Shared->Prop)
    (turn:∀n s,I n s->wpAny (model prog w) A (pyNext it) (λ r s₁=>match r with
      |none=>R (.ok .next) s₁
      |some v=>wpAny (model prog w) A (letOwnedTupleGo target it v) (λ_ s₁=>wpAny (model prog w) A (assign target env v) (λ_ s₂=>wpAny (model prog w) A (eval elt env) (λ x s₃ =>
          wpAny (model prog w) A (call (.builtin "list.append") [acc,x]) (λ_ s₄=>∃m,m<n/\I m s₄) (notedBy (model prog w) A env λ e s'=>R (.error e) s') s₃)
          (notedBy (model prog w) A env λ e s'=>R (.error e) s') s₂) (notedBy (model prog w) A env λ e s'=>R (.error e) s') s₁) (notedBy (model prog w) A env λ e s'=>R (.error e) s') s₁) (notedBy (model prog w) A env λ e s'=>R (.error e) s') s)
    (n:Nat) (h:I n s) :
    codeAny (model prog w) A (.compLoop (.ListComp elt [⟨target,iter,[],0⟩] scope pos) 0 it acc env) R s:=by
  refine codeAny_loop rfl I (λ n s hI=>?_) n h;show wpAny _ _ ((compTurn (.ListComp elt [⟨target,iter,[],0⟩] scope pos) 0 it acc env).onRaise (λ x=>do noteFrame x env;theTreesLotGoes x)) _ _ s;refine wpAny_noted ?_;rw[compTurn_list1];refine wpAny_bind (wpAny_standAt (wpAny_bind (wpAny_mono (turn n s hI) (λ r s₁ h₁=>?_) λ_ _ h'=>h')));cases r with
  |none=>exact wpAny_pure h₁
  |some v =>
    refine wpAny_bind (wpAny_mono h₁ (λ_ s₁ h₁=>?_) λ_ _ h'=>h');exact wpAny_bind (wpAny_mono h₁ (λ_ s₂ h₂=>wpAny_bind (wpAny_bind (wpAny_mono h₂ (λ x s₃ h₃=>wpAny_bind (wpAny_mono h₃
      (λ_ s₄ h₄=>wpAny_pure (wpAny_pure ⟨rfl,h₄⟩)) λ_ _ h'=>h')) λ_ _ h'=>h'))) λ_ _ h'=>h')
end
theorem Br{α:Type}{M:Model}{A:Around}{t:Sem α}{Q:α->Shared->Prop}{E:VPz}{s:Shared}(h:wpAny M A t Q (λ_ _=>False) s):wpAny M A t Q E s :=
 wpAny_mono h (λ_ _ q=>q) λ_ _ z=>z.elim
theorem LZ{scope:Scope}{env:Env}(hc:∀y∈scope.names,y.2≠.cell){x:Str}(h:(relabel scope env).names.lookup x=some .cell\/(relabel scope env).names.lookup x=some .free):(x,NameKind.free)∈scope.names:=by
 have key:∀(l:List (Str×NameKind)),(∀y∈l,y.2≠.cell)->((l.map λ(n,k)=>if (k==NameKind.free&&env.scope.kind==.function&&env.kindOf n==some .cell) then (n,NameKind.cell) else (n,k)).lookup x=some .cell \/
   (l.map λ(n,k)=>if (k==NameKind.free&&env.scope.kind==.function&&env.kindOf n==some .cell) then (n,NameKind.cell) else (n,k)).lookup x=some .free)->(x,NameKind.free)∈l:=by
  intro l
  induction l with
  |nil=>intro _ h;simp at h
  |cons y r ih =>
   obtain⟨n,k⟩:=y;intro hc h;have hr:∀y∈r,y.2≠.cell:=λ y hy=>hc y (List.mem_cons_of_mem _ hy);have hk:k≠.cell:=hc (n,k) List.mem_cons_self;rw[List.map_cons]at h;by_cases hxn:x=n
   .subst hxn;have hkf:k=.free:=by
     by_cases hb:(k==NameKind.free&&env.scope.kind==.function&&env.kindOf x==some .cell)=true
     .simp only[Bool.and_eq_true,beq_iff_eq]at hb;exact hb.1.1
     .simp only[hb,if_neg,Bool.false_eq_true,if_false]at h;simp only[List.lookup_cons,beq_self_eq_true]at h;rcases h with h|h
      .exact absurd (Option.some.inj h) hk
      .exact Option.some.inj h
    rw[hkf];exact List.mem_cons_self
   .have hb:(x==n)=false:=by simpa using hxn
    refine List.mem_cons_of_mem _ (ih hr ?_);by_cases hq:(k==NameKind.free&&env.scope.kind==.function&&env.kindOf n==some .cell)=true
    .simp only[hq,if_true,List.lookup_cons,hb]at h;exact h
    .simp only[hq,Bool.false_eq_true,if_false,List.lookup_cons,hb]at h;exact h
 exact key scope.names hc h
theorem EU{env:Env}{x:Str}:∀{l:List (Str×NameKind)},l.lookup x=some .free ->
  ((l.map λ(n,k)=>if (k==NameKind.free&&env.scope.kind==.function&&env.kindOf n==some .cell) then (n,NameKind.cell) else (n,k)).lookup x=some .cell \/
   (l.map λ(n,k)=>if (k==NameKind.free&&env.scope.kind==.function&&env.kindOf n==some .cell) then (n,NameKind.cell) else (n,k)).lookup x=some .free)
 |[],h=>by simp at h
 | (n,k)::r,h=>by
  rw[List.map_cons];by_cases hxn:x=n
  .subst hxn;simp only[List.lookup_cons,beq_self_eq_true]at h;have hk:=Option.some.inj h;subst hk;by_cases hq:(NameKind.free==NameKind.free&&env.scope.kind==.function&&env.kindOf x==some .cell)=true
   .left
    show List.lookup x ((if (NameKind.free==NameKind.free&&env.scope.kind==.function&&env.kindOf x==some .cell)=true then (x,NameKind.cell) else (x,NameKind.free))::_)=_;rw[if_pos hq,List.lookup_cons,beq_self_eq_true]
   .right
    show List.lookup x ((if (NameKind.free==NameKind.free&&env.scope.kind==.function&&env.kindOf x==some .cell)=true then (x,NameKind.cell) else (x,NameKind.free))::_)=_;rw[if_neg hq,List.lookup_cons,beq_self_eq_true]
  .have hb:(x==n)=false:=by simpa using hxn
   simp only[List.lookup_cons,hb]at h;have ih:=EU (env:=env) h;by_cases hq:(k==NameKind.free&&env.scope.kind==.function&&env.kindOf n==some .cell)=true
   .simp only[hq,if_true,List.lookup_cons,hb];exact ih
   .simp only[hq,Bool.false_eq_true,if_false,List.lookup_cons,hb];exact ih
theorem Lg{x:Str}{k:NameKind}:∀{l:List (Str×NameKind)},l.lookup x=some k->(x,k)∈l
 |[],h=>by simp at h
 | (n,j)::r,h=>by
  by_cases e:x=n
  .subst e;simp only[List.lookup_cons,beq_self_eq_true]at h;rw[<-Option.some.inj h];exact List.mem_cons_self
  .have hb:(x==n)=false:=by simpa using e
   simp only[List.lookup_cons,hb]at h;exact List.mem_cons_of_mem _ (Lg h)
section
variable{X:Cx}{elt tg iter:Expr}{scope:Scope}{pos:Pos}{wi:TI}{g:TG}{te:TE}{N:LSz}{fr:List (Option Nat)}
theorem Hw{pins:PNz}{σ:St}{H:Hp}{s s1:Shared}{cl:List (Str×Addr)}{ex:List Addr}{C:Addr}{m:MGz}(I:Inv X pins σ H s)(ck:Fj X.env.scope X.N scope N fr)
    (c1:∀x c,cl.lookup x=some c->X.env.cells.lookup x=some c) (c2:∀x,(x,NameKind.free)∈scope.names->∃c,cl.lookup x=some c) (hex:∀b∈ex,FC X pins H b/\b<s.heap.objs.size) (hC:s.heap.objs.size<=C)
    (hn:s1.heap.Ns C m) (k:∀b o,s.heap.get? b=some o->s1.heap.get? b=some o) (ho:s1.os=s.os) (hg:s1.gens=s.gens) :
    Inv (AM X scope cl N C s H ex) [] (stC fr σ) H s1:=by
  have lt_ne:∀{b:Addr}{o:Obj},s.heap.get? b=some o->b≠C:=λ e=>Nat.ne_of_lt (Nat.lt_of_lt_of_le (Heap.lt_size e) hC);have ok:(AM X scope cl N C s H ex).Ok :=
    { mod:=I.ok.mod
      kind:=ck.kind
      glob:=I.ok.glob
      blt:=I.ok.blt
      above:=hC
      inj:=λ x y c e1 e2=>I.ok.inj x y c (c1 x c e1) (c1 y c e2)
      has:=λ x h=>c2 x (LZ ck.nocell h)
      cab:=λ x c z=>by cases z
      hd:=I.ok.hd
      frames:=I.ok.frames
      stk:=.inl rfl
      exf:=λ b hb=>⟨Nat.ne_of_lt (Nat.lt_of_lt_of_le (hex b hb).2 hC),λ x c e=>(hex b hb).1.2.2.2.2.1 x c (c1 x c e)⟩
      bs:=I.bs
      bsz:=Nat.le_trans I.ok.bsz I.sz
      noex:=λ b o e hb=>by
        rcases(hex b hb).1.2.2.2.1 with z|z
        · exact I.ok.noex b o e z
        · exact absurd (Nat.lt_of_lt_of_le (Heap.lt_size e) (Nat.le_trans I.ok.bsz z)) (Nat.lt_irrefl _)
      exfs:=λ b hb hz=>by
        rcases List.mem_cons.mp (I.stkSub b hz) with z|z
        · exact(hex b hb).1.2.1 z
        · exact(hex b hb).1.2.2.1 z
      funs:=I.stack
      frf:=I.stkFree }
  refine⟨ok,ho,by rw[hg];exact I.bare,Un.kept k,⟨m,hn,λ j x v e1 e2 e3=>?_⟩,λ x c e=>?_,I.hok.fresh hC,λ x c e=>I.freeC x c (c1 x c e),λ p hp=>by simp at hp,I.hok.kept k,?_⟩
  · have e1':N[j]?=some x:=e1
    unfold stC at e2;rw[List.getElem?_map]at e2;cases q:fr[j]? with
    |none=>rw[q]at e2;cases e2
    |some o =>
      rw[q]at e2;cases o with
      |none =>
        have:(none:Option V)=some v:=Option.some.inj e2;cases this
      |some i =>
        have e2':(σ[i]?).join=some v:=Option.some.inj e2;obtain⟨s1',s2',s3'⟩:=ck.slots j x i e1' q;have hσ:σ[i]?=some (some v):=by
          cases z:σ[i]? with
          |none=>rw[z]at e2';cases e2'
          |some y=>rw[z]at e2';exact congrArg some e2'
        have hcf:=Nz s2';obtain⟨m0,hn0,hl⟩:=I.loc;obtain⟨u,r,lk⟩:=hl i x v s1' hσ (Or.inr hcf);refine⟨u,r,Or.inr ⟨EU s3',?_⟩⟩;obtain⟨c,hc⟩:=c2 x (Lg s3');refine⟨c,hc,?_⟩;rcases lk with ⟨z,_⟩|⟨_,c',hc',hv⟩
        · rcases hcf with y|y
          · have z':X.env.scope.names.lookup x=some .local:=z
            rw[y]at z';cases z'
          · have z':X.env.scope.names.lookup x=some .local:=z
            rw[y]at z';cases z'
        · have:=c1 x c hc
          rw[hc']at this;cases this;exact hv.keeps k
  · obtain⟨v,z⟩:=I.cell x c (c1 x c e)
    exact⟨v,z.keeps k⟩
  · unfold stC
    rw[List.length_map];exact ck.len.symm
theorem Jf{pins:PNz}{σ:St}{H:Hp}{s:Shared}{Q:VK}{cl:List (Str×Addr)}{R:Value->Addr->Result->Shared->Prop}(hc:X.calm=true)(I:Inv X pins σ H s)(hi:PI X tg iter wi)
  (hg:∀cl C s H ex,PG (AM X scope cl N C s H ex) tg g) (he:∀cl C s H ex,PE (AM X scope cl N C s H ex) elt te) (ck:Fj X.env.scope X.N scope N fr)
  (c1:∀x c,cl.lookup x=some c->X.env.cells.lookup x=some c) (c2:∀x,(x,NameKind.free)∈scope.names->∃c,cl.lookup x=some c)
  (h:OU wi g te fr σ H Q)
  (hR:∀acc C s' H' m,s'.heap.Ns C m->FC X pins H' C->Inv X pins σ H' s'->Q (.ref acc) H'->R (.ref acc) C (.ok .next) s') :
  wpAny (model X.prog X.w) X.A (eval iter X.env) (λ x s₁=>wpAny (model X.prog X.w) X.A (pyIter x) (λ it s₂=>wpAny (model X.prog X.w) X.A (newList []) (λ acc s₃ =>
   wpAny (model X.prog X.w) X.A (newFunctionEnv scope X.env.globals cl [] X.env.qual none .none (some X.env)) (λ cenv s₄ =>
    codeAny (model X.prog X.w) X.A (.compStart (.ListComp elt [⟨tg,iter,[],0⟩] scope pos) 0 it acc { cenv with scope:=relabel scope X.env }) (R acc cenv.locals) s₄) X.xe s₃) X.xe s₂) X.xe s₁) X.xe s:=by
 refine thn (hi pins s σ H _ I h) λ v s1 h1=>thn h1 λ itv s2 h2=>?_;obtain⟨it,fp,tn,J,H2,e,I2,T,st2,f2,q2⟩:=h2;subst e;refine wpAny_newObj_type (wpAny_newFunctionEnv ck.nocell (by intro y hy;simp at hy) (λ h₁ hns₁ hsb₁=>?_) ck.kind);dsimp only at hns₁ hsb₁ |-;have I3:Inv X pins σ (upd H2 s2.heap.objs.size (.lst [])) { s2 with heap:=s2.heap.push { cls:=.type "list",dict:=none,data:=.seq ([]:LWz).toArray } }:=I2.lnew (t':=s2.toks) (its:=[]) .nil (Nat.zero_le _);have acc0:H2 s2.heap.objs.size=none:=I2.fresh;obtain⟨W,⟨m0,w0⟩,turn⟩:=q2 s2.heap.objs.size acc0;generalize hH3:s2.heap.push { cls:=.type "list",dict:=none,data:=.seq ([]:LWz).toArray }=h3 at hns₁ hsb₁ I3 |-;have hz3:h3.objs.size=s2.heap.objs.size+1:=by rw[<-hH3,Heap.size_push]
 have k23:∀b o,s2.heap.get? b=some o->h3.get? b=some o:=λ b o e=>by rw[<-hH3];exact Heap.get?_push_of_some _ e
 have k34:∀b o,h3.get? b=some o->h₁.get? b=some o:=λ b o e=>hsb₁.extBut b o (Nat.ne_of_lt (Heap.lt_size e)) (Heap.get?_push_of_some _ e);have fpo:∀b∈fp,∃o,s2.heap.get? b=some o/\∀v,o.data≠.cell v:=T.obj 0 _ st2;have hex:∀b∈fp,FC X pins (upd H2 s2.heap.objs.size (.lst [])) b/\b<h3.objs.size:=λ b hb=>by
  obtain⟨o,eo,_⟩:=fpo b hb;have lt:=Heap.lt_size eo;obtain⟨f0,fr'⟩:=f2 b hb;exact⟨⟨by rw[Ah (Nat.ne_of_lt lt)];exact f0,fr'⟩,by rw[hz3];exact Nat.lt_succ_of_lt lt⟩
 have I4:Inv (AM X scope cl N h3.objs.size { s2 with heap:=h3 } (upd H2 s2.heap.objs.size (.lst [])) fp) [] (stC fr σ) (upd H2 s2.heap.objs.size (.lst [])) { s2 with heap:=h₁,toks:=s2.toks+([]:List (Str×Value)).length } :=
  Hw I3 ck c1 c2 hex (Nat.le_refl _) hns₁ k34 rfl rfl
 have stat:∀{H':Hp},(∀b∈fp,H' b=none)->∀b∈fp,FC (AM X scope cl N h3.objs.size { s2 with heap:=h3 } (upd H2 s2.heap.objs.size (.lst [])) fp) [] H' b:=λ hn b hb =>
  ⟨hn b hb,(I4.ok.exf b hb).1,I4.ok.exfs b hb,.inl hb,(I4.ok.exf b hb).2,λ p hp=>by simp at hp⟩
 have stn:∀i h h',tn i h->(∀b o,h.get? b=some o->h'.get? b=some o)->tn i h':=λ i h h' st kk=>T.keep i h h' st λ b _ o e=>kk b o e;have loop:codeAny (model X.prog X.w) X.A (.compLoop (.ListComp elt [⟨tg,iter,[],0⟩] scope pos) 0 (.ref it) (.ref s2.heap.objs.size) (compEnvC scope cl h3.objs.size X.env)) (R (.ref s2.heap.objs.size) h3.objs.size)
   { s2 with heap:=h₁,toks:=s2.toks+([]:List (Str×Value)).length }:=by
  refine Ki (λ n s'=>∃i σ' H',Inv (AM X scope cl N h3.objs.size { s2 with heap:=h3 } (upd H2 s2.heap.objs.size (.lst [])) fp) [] σ' H' s'/\tn i s'.heap/\(∀b∈fp,H' b=none)/\W i n σ' H') ?_ m0
   ⟨0,_,_,I4,stn _ _ _ st2 λ b o e=>k34 b o (k23 b o e),λ b hb=>(hex b hb).1.1,w0⟩
  rintro n s3 ⟨i,σ3,H3,J3,st3,fr3,w3⟩;rcases turn i n σ3 H3 w3 with ⟨stop,qn⟩|⟨go,step⟩
  .refine Br (thn (T.done (AM X scope cl N h3.objs.size { s2 with heap:=h3 } (upd H2 s2.heap.objs.size (.lst [])) fp) rfl rfl rfl hc i [] s3 σ3 H3 (λ_ _=>False) J3 (stat fr3) st3 stop) λ r s4 hz_=>?_);obtain⟨hr,J4⟩:=hz_;subst hr;obtain⟨mc,hmc,_⟩:=J4.loc;have I5:Inv X pins σ H3 s4:=I3.call' (ch:=fp) J4.os J4.base J4.hok J4.bare λ b hb=>⟨(hex b hb).1.2.2.2.1,(hex b hb).1.2.1,(hex b hb).1.2.2.2.2.1,(hex b hb).1.2.2.2.2.2⟩;exact hR _ _ s4 H3 mc hmc (I3.fpOk (Nat.le_refl _) J4.free) I5 qn
  .refine Br (thn (T.item (AM X scope cl N h3.objs.size { s2 with heap:=h3 } (upd H2 s2.heap.objs.size (.lst [])) fp) rfl rfl rfl hc i [] s3 σ3 H3 (λ_ _=>False) J3 (stat fr3) st3 go) λ r s4 hz_=>?_);obtain⟨u,hr,h4⟩:=hz_;subst hr;refine Br (thn h4 λ_ s5 hz_=>?_);obtain⟨x,H5,J5,r5,y5,st5,fr5⟩:=hz_;have J5':=J5.pinned (stat fr5) (T.obj _ _ st5);refine Br (thn (hg _ _ _ _ _ _ s5 σ3 H5 x u _ J5' r5 (step x H5 y5)) λ_ s6 hz_=>?_);obtain⟨σ6,H6,J6,q6⟩:=hz_;refine Br (thn (he _ _ _ _ _ _ s6 σ6 H6 _ J6 q6) λ y s7 hz_=>?_);obtain⟨v7,H7,J7,r7,xs,hx,hz,m',hm',w7⟩:=hz_;refine Br (thn (AX _ s7 σ6 H7 (.ref s2.heap.objs.size) [v7] (.ref s2.heap.objs.size) [y] (λ v H8=>H8=upd H7 s2.heap.objs.size (.lst (xs++[v7]))) J7 rfl (.cons r7 .nil) ⟨_,xs,v7,rfl,rfl,hx,hz,rfl⟩) λ_ s8 hz_=>?_);obtain⟨_,H8,J8,_,e8⟩:=hz_;subst e8;refine⟨m',hm',i+1,σ6,_,J8.unpinned,T.keep _ _ _ st5 λ b hb o e=>(J8.pin (b,o) (List.mem_append_right _ (List.mem_append_right _ (Bc hb e)))).1,λ b hb=>?_,w7⟩;obtain⟨o,e,d⟩:=T.obj _ _ st5 b hb;exact(J8.pin (b,o) (List.mem_append_right _ (List.mem_append_right _ (Bc hb e)))).2.1
 exact codeAny_compStart_list loop (T.self _ 0 _ _ _ (stn _ _ _ st2 λ b o e=>k34 b o (k23 b o e)) loop)
theorem Gm(I:X.Ok)(ck:Fj X.env.scope X.N scope N fr):∃cl,closureFor scope X.env=pure cl/\(∀x c,cl.lookup x=some c->X.env.cells.lookup x=some c)/\(∀x,(x,NameKind.free)∈scope.names->∃c,cl.lookup x=some c) :=
 M9 λ y hy e=>I.has y.1 (Nz (ck.free y hy e))
theorem Nl(hc:X.calm=true)(hi:PI X tg iter wi)(hg:∀cl C s H ex,PG (AM X scope cl N C s H ex) tg g)(he:∀cl C s H ex,PE (AM X scope cl N C s H ex) elt te)
  (hk:Ee X.env.scope X.N scope N fr=true:=by rfl) (hs:∀x,foldedSetIterable iter X.env x=pure x:=by intro _;rfl):PE X (.ListComp elt [⟨tg,iter,[],0⟩] scope pos) (OU wi g te fr):=by
 intro pins s σ H Q I h;have ck:=Dt hk;obtain⟨cl,e1,c1,c2⟩:=Gm I.ok ck;rw[eval_ListComp];refine wpAny_comprehension_free (use:=none) (Q:=EP X pins σ Q) rfl hs e1 ck.kind ck.loc (Jf (R:=λ acc C=>compPost (model X.prog X.w) X.A X.xe none (EP X pins σ Q) acc C) hc I hi hg he ck c1 c2 h λ acc C s' H' m hn f I' q=>?_);obtain⟨f0,f1,f2,f3,f4,f5⟩:=f;exact⟨m,hn,λ h' hs'=>⟨.ref acc,H',I'.turned (t':=s'.toks) (λ b o hb e=>hs'.extBut b o hb e) f0 f1 f3 f4 f5,rfl,q⟩⟩
theorem GC{y:Str}{py spos:Pos}{gy:TG}(hc:X.calm=true)(hy:PG X (.Name y py) gy)(hi:PI X tg iter wi)(hg:∀cl C s H ex,PG (AM X scope cl N C s H ex) tg g)(he:∀cl C s H ex,PE (AM X scope cl N C s H ex) elt te)
    (hk:Ee X.env.scope X.N scope N fr=true:=by rfl) (hsw:swapsWith (.ListComp elt [⟨tg,iter,[],0⟩] scope pos) (some (.Name y py)) spos.line X.env=pure true:=by rfl) (hs:∀x,foldedSetIterable iter X.env x=pure x:=by intro _;rfl) :
    PS X (.Assign [.Name y py] (.ListComp elt [⟨tg,iter,[],0⟩] scope pos) spos) (Q6 (OU wi g te fr) gy):=by
  intro pins s σ H D I h;have ck:=Dt hk;obtain⟨cl,e1,c1,c2⟩:=Gm I.ok ck;rw[exec_Assign_Name_used _ _ _ _ hsw];refine wpAny_bind (wpAny_standAt (wpAny_bind ?_));show wpAny _ X.A (do let _ <-comprehension (.ListComp elt [⟨tg,iter,[],0⟩] scope pos) scope X.env _ (newList []) false (eval iter X.env) (some (assign (.Name y py) X.env))) _ _ s;refine wpAny_bind (wpAny_mono (wpAny_comprehension_free (use:=some (assign (.Name y py) X.env)) (Q:=λ_ s'=>SP X pins D .next s') rfl hs e1 ck.kind ck.loc
    (Jf (R:=λ acc C=>compPost (model X.prog X.w) X.A X.xe (some (assign (.Name y py) X.env)) (λ_ s'=>SP X pins D .next s') acc C) hc I hi hg he ck c1 c2 h λ acc C s' H' m hn f I' q=>?_)) (λ_ s' hq=>wpAny_pure (wpAny_pure hq)) λ_ _ e=>e)
  show wpAny _ X.A (assign (.Name y py) X.env (.ref acc)) _ _ _;obtain⟨oC,es,ep,hoC,hdC,hrC⟩:=id hn;have IP:=I'.pinned (fp:=[C]) (λ b hb=>by rw[List.mem_singleton.mp hb];exact f) (λ b hb=>by rw[List.mem_singleton.mp hb];exact⟨oC,hoC,λ v z=>by rw[hdC]at z;cases z⟩);refine thn (hy _ s' σ H' (.ref acc) (.ref acc) _ IP rfl q) λ_ s'' ⟨σ6,H6,I6,q6⟩=>?_;have pC:=I6.pin (C,oC) (List.mem_append_right _ (List.mem_append_right _ (Bc (List.mem_singleton.mpr rfl) hoC)));obtain⟨f0,f1,f2,f3,f4,f5⟩:=f;exact⟨m,⟨oC,es,ep,pC.1,hdC,hrC⟩,λ h' hs'=>⟨σ6,H6,I6.unpinned.turned (t':=s''.toks) (λ b o hb e=>hs'.extBut b o hb e) pC.2.1 f1 f3 f4 f5,q6⟩⟩
end
section
variable{X:Cx}
def Se(_ j:Int):Prop:=0<j/\j.natAbs.log2<9000
theorem CU:OpR X (binaryOp .FloorDiv) (rI Se λ i j=>.int (i / j)):=opI λ i j _ _ _ _ _ hc q=>by
 have h1:(0:Int)<j:=hc.1;exact floordiv_int (by lia) (by rw[Int.fdiv_eq_ediv_of_nonneg i (by lia)];exact q) (.inl (PyProof.noPylong_of_log2 hc.2))
theorem JJ:OpR X (binaryOp .Mult) (rI IntMulOk λ i j=>.int (i*j)):=opI λ_ _ _ _ _ _ _ hc q=>mul_int q hc
theorem GX{n k:Nat}(hk:0<k)(h:n<2^k):n.log2<k:=by
 rcases Nat.eq_zero_or_pos n with h0|hp
 .rw[h0];simpa using hk
 .exact(Nat.log2_lt (Nat.ne_of_gt hp)).mpr h
theorem Hj{z:Int}{k:Nat}(hk:0<k)(h:z.natAbs<2^k):Builtin.Int.intBits z<=k:=by
 unfold Builtin.Int.intBits;split
 .exact Nat.zero_le _
 .exact GX hk h
theorem P1{a b:Int}(h1:a.natAbs<2^128)(h2:b.natAbs<2^128):IntMulOk a b:=by
 have e1:=Hj (by decide) h1;have e2:=Hj (by decide) h2;unfold IntMulOk Builtin.Int.intTooBig;intro h;simp only[Bool.and_eq_true,decide_eq_true_eq]at h;have h3:=h.2;have hb:(256:Int)<=(bitsLine:Int):=by decide +kernel
 lia
def tyO:Option HO->Option String
 |some (.lst _)=>some "list"
 |some (.frz _ (.lst _))=>some "list"
 |some (.tup _)=>some "tuple"
 |some (.dK _)=>some "dict"
 |some (.dT _)=>some "dict"
 |_=>none
def tyS(H:Hp):V->Option String
 |.non=>some "NoneType"
 |.bl _=>some "bool"
 |.int _=>some "int"
 |.str _=>some "str"
 |.ref a=>tyO (H a)
 |_=>none
theorem Sg{K:Frag}{H:Hp}{x:V}{T:String}(h:tyS H x=some T):F9 K H x (.type T)/\(T="NoneType"\/T="bool"\/T="int"\/T="str"\/T="list"\/T="tuple"\/T="dict"):=by
 unfold tyS at h;split at h
 .cases h;exact⟨.non,by simp⟩
 .cases h;exact⟨.bl _,by simp⟩
 .cases h;exact⟨.int _,by simp⟩
 .cases h;exact⟨.str _,by simp⟩
 .unfold tyO at h;split at h
  .rename_i e;cases h;exact⟨.lst e,by simp⟩
  .rename_i e;cases h;exact⟨.frz e,by simp⟩
  .rename_i e;cases h;exact⟨.tup e,by simp⟩
  .rename_i e;cases h;exact⟨.dK e,by simp⟩
  .rename_i e;cases h;exact⟨.dT e,by simp⟩
  .cases h
 .cases h
def isB(T c:String):Bool:=decide (T=c)||(decide (T="bool")&&decide (c="int"))
theorem Ri{K:Frag}{T c:String}(h:T="NoneType"\/T="bool"\/T="int"\/T="str"\/T="list"\/T="tuple"\/T="dict")(hc:c="int"\/c="bool"\/c="tuple"\/c="list"\/c="str") :
  kitOne K (.type T) (.type c)=some (isB T c):=by
 rcases h with rfl|rfl|rfl|rfl|rfl|rfl|rfl<;>rcases hc with rfl|rfl|rfl|rfl|rfl<;>rfl
inductive Sc(xs:LUz)(H:Hp)(Q:VK):Prop
 |mk (x:V) (T c:String) (e:xs=[x,.ty c]) (t:tyS H x=some T) (h:c="int"\/c="bool"\/c="tuple"\/c="list"\/c="str") (q:Q (.bl (isB T c)) H):Sc xs H Q
theorem Cg:Da X (.builtin "isinstance") (λ xs H Q=>Sc xs H Q):=by
 intro pins s σ H xs us Q I r h;obtain⟨x,T,c,rfl,hT,hc,q⟩:=h;obtain⟨u,w',rfl,rx,ry⟩:=K0 r;cases(show w'=Value.type c from ry);obtain⟨ty,hl⟩:=Sg (K:=X.K) hT;exact IV I rx ty (Ri hl hc) λ tk=>⟨.bl (isB T c),H,I.tok tk,rfl,q⟩
theorem OF{bs:List Bool}{its:LWz}(r:Vals (bs.map V.bl) its){i:Nat}{v:Value}(h:its.toArray[i]?=some v):v=.bool (bs.getD i false):=by
 have hl:=r.length;have hi:i<its.length:=by
  have:=(Array.getElem?_eq_some_iff.mp h).1
  simpa using this
 have hb:bs[i]?=some (bs.getD i false):=by
  have:i<bs.length:=by rw[List.length_map]at hl;lia
  rw[List.getD_eq_getElem?_getD,List.getElem?_eq_getElem this];rfl
 obtain⟨u,hu,ru⟩:=r.get (i:=i) (x:=.bl (bs.getD i false)) (by rw[List.getElem?_map,hb];rfl);have h':its[i]?=some v:=by simpa using h
 rw[h']at hu;cases hu;exact ru
theorem Ob{α:Type}(bs:List Bool):(List.range bs.length).any (λ i=>bs.getD i false)=bs.any id:=by
 have e:(List.range bs.length).map (λ i=>bs.getD i false)=bs:=by
  apply List.ext_getElem?;intro i;rw[List.getElem?_map];by_cases h:i<bs.length
  .rw[List.getElem?_range h,List.getElem?_eq_getElem h,Option.map_some,List.getD_eq_getElem?_getD,List.getElem?_eq_getElem h];rfl
  .rw[List.getElem?_eq_none (by simpa using h),List.getElem?_eq_none (by lia)];rfl
 conv=>rhs;rw[<-e]
 rw[List.any_map];rfl
theorem K2{prog:Program}{w:World}{A:Around}{bs:List Bool}{its:LWz}(r:Vals (bs.map V.bl) its):TruthOf prog w A (λ i v=>its.toArray[i]?=some v) (λ i=>bs.getD i false):=by
 intro i v s Q E hv hq;have e:=OF r hv;subst e;exact wpAny_truthy_bool hq
theorem Ly:Da X (.builtin "any") (λ xs H Q=>∃(p:Addr)(bs:List Bool),xs=[.ref p]/\SqL X.K H p (bs.map V.bl)/\X.calm=true/\Q (.bl (bs.any id)) H):=by
 intro pins s σ H xs us Q I r h;obtain⟨p,bs,rfl,hp,hc,q⟩:=h;obtain⟨u,rfl,ru⟩:=FD r;cases ru;obtain⟨its,rv,pl,hz⟩:=I.list hp;have hl:=rv.length;rw[List.length_map]at hl;refine call_any_walk (wpAny_pyIter_list pl.isList ?_);have hlt:p<s.heap.objs.size:=by obtain⟨o,ho,_⟩:=pl.isList;exact Heap.lt_size ho
 refine⟨s.heap.objs.size,_,_,_,_,_,_,rfl,Walks.list (show X.A.in1.handled=none from I.ok.hd hc) s.heap.objs.size p (Nat.ne_of_lt hlt) its.toArray,⟨⟨_,Heap.get?_push_size _ rfl,rfl,rfl⟩,let ⟨o,ho,r⟩:=pl.isList;⟨o,Heap.get?_push_of_some _ ho,r⟩⟩,K2 rv,λ h' tk k=>?_⟩;refine⟨.bl (bs.any id),H,I.kept (t':=tk) λ b o e=>k b o (λ z=>?_) (Heap.get?_push_of_some _ e),?_,q⟩
 .have:b=s.heap.objs.size:=by simpa using z
  exact absurd (this ▸ Heap.lt_size e) (Nat.lt_irrefl _)
 .show Value.bool _=Value.bool _;rw[List.size_toArray,<-hl,Ob (α:=Nat)]
end
structure Av(P:Program)(w:World)(K:Frag)(mg:MGz)(base:Heap)(k:Nat)(x:Str)(ps:LSz)(sp:Sp):Prop where
 ex:∃(f:Addr)(fd:FuncData),A8 P w K mg base CX0 k f fd ps sp/\mg x=some (.ref f)/\keepIn K (.ref f)=true/\Binds K fd ps []
section
variable{X:Cx}{k j:Nat}{x:Str}{ps:LSz}{sp:Sp}{p pos:Pos}{e:Expr}{es:List Expr}{t:TA}
theorem Aj(D:Av X.prog X.w X.K X.mg X.base k x ps sp)(hr:Room j X.A)(ha:PA X (e::es) t)(hj:k<=j:=by decide)(hg:Gl X x:=by rfl)(hdb:(x==("__debug__":Str))=false:=by decide)
  (he:starEach (e::es) X.env=(false,eval e X.env)::starEach es X.env:=by rfl) (hpl:(backTo pos (starEach es X.env)).any (·.1)=false:=by rfl):PE X (.Call (.Name x p) (e::es) [] pos) (MR sp [] E0 t):=by
 obtain⟨f,fd,F,hm,hk,hb⟩:=D.ex;exact Nm F (hr.mono hj) hg hm hk hb .nil KI ha hdb he hpl
end
theorem Ap{xs:LUz}(n:Nat)(h:xs.length=n:=by rfl)(h2:n<=1000:=by decide):xs.length<=sizeLine:=by rw[h];exact Nat.le_of_lt (A0 h2)
theorem AO{c:Bool}{A B:Prop}(h:c=false)(b:B):if c=true then A else B:=by rw[if_neg (by rw[h];exact Bool.false_ne_true)];exact b
theorem Bg{c:Bool}{A B:Prop}(h1:c=true->A)(h2:c=false->B):if c=true then A else B:=by
 cases c with
 |true=>exact PC (h1 rfl)
 |false=>exact Ll (h2 rfl)
theorem decIf{i j:Int}:decide (V.int i=V.int j)=false↔i≠j:=by
 rw[decide_eq_false_iff_not];exact⟨λ h z=>h (by rw[z]),λ h z=>h (by injection z)⟩
def SameX(p:Addr)(H H':Hp):Prop:=∀b o,b≠p->H b=some o->H' b=some o
theorem SameX.trans{p:Addr}{H H1 H2:Hp}(a:SameX p H H1)(b:SameX p H1 H2):SameX p H H2:=λ c o n h=>b c o n (a c o n h)
theorem SameX.upd{p:Addr}{H:Hp}{o:HO}:SameX p H (upd H p o):=λ b u n h=>by rw[Ah n];exact h
theorem Same.new{l:Addr}{H:Hp}{o:HO}(h:H l=none):Same H (L2.upd H l o):=λ b u e=>by rw[Ah (Ae e h)];exact e
theorem SameX.same{p:Addr}{H H0 H':Hp}(a:SameX p H H')(s:Same H0 H)(h:H0 p=none):Same H0 H':=λ b o e=>a b o (Ae e h) (s b o e)
theorem Same.x{p:Addr}{H H':Hp}(a:Same H H'):SameX p H H':=λ b o _ e=>a b o e
def cW(acc:Addr)(n:Nat)(Pv:Nat->LUz->St->Hp->Prop)(i m:Nat)(σ:St)(H:Hp):Prop:=i<=n/\m=n-i/\∃xs,xs.length=i/\H acc=some (.lst xs)/\Pv i xs σ H
def cNx(acc:Addr)(n:Nat)(Pv:Nat->LUz->St->Hp->Prop)(i:Nat)(σ:St)(v:V)(H:Hp):Prop:=∃xs,H acc=some (.lst xs)/\xs.length<sizeLine/\∃m',m'<n-i/\cW acc n Pv (i+1) m' σ (upd H acc (.lst (xs++[v])))
theorem cNx.mk{acc:Addr}{n:Nat}{Pv:Nat->LUz->St->Hp->Prop}{i:Nat}{σ:St}{v:V}{H:Hp}{xs:LUz}(hn:n<=sizeLine)(hi:i<n)(hl:xs.length=i)(ha:H acc=some (.lst xs))(hp:Pv (i+1) (xs++[v]) σ (upd H acc (.lst (xs++[v])))) :
  cNx acc n Pv i σ v H:=⟨xs,ha,by lia,n-(i+1),by lia,hi,rfl,xs++[v],by rw[List.length_append,hl];rfl,upd_same,hp⟩
theorem M8{lo:Int}{n:Nat}{g:TG}{te:TE}{σ:St}{H1:Hp}{acc:Addr}{Qr:Hp->Prop}(Pv:Nat->LUz->St->Hp->Prop)(h0:Pv 0 [] σ (upd H1 acc (.lst [])))
  (hs:∀i xs σ H,i<n->xs.length=i->H acc=some (.lst xs)->Pv i xs σ H->g (.int (lo+i)) σ H λ σ2 H2=>te σ2 H2 λ v H3=>cNx acc n Pv i σ2 v H3)
  (hd:∀xs σ H,xs.length=n->H acc=some (.lst xs)->Pv n xs σ H->Qr H) :
  ∃W:Nat->Nat->St->Hp->Prop,(∃m,W 0 m σ (upd H1 acc (.lst [])))/\∀i m σ1 H2,W i m σ1 H2 ->
   ((Itr lo n).stop i H2/\Qr H2)\/((Itr lo n).go i H2/\∀x H3,(Itr lo n).yld i H2 x H3->g x σ1 H3 λ σ4 H4=>te σ4 H4 λ v H5=>∃xs,H5 acc=some (.lst xs)/\xs.length<sizeLine/\∃m',m'<m/\W (i+1) m' σ4 (upd H5 acc (.lst (xs++[v])))):=by
 refine⟨cW acc n Pv,⟨n,Nat.zero_le _,rfl,[],rfl,upd_same,h0⟩,?_⟩;rintro i m σ1 H2 ⟨hi,rfl,xs,hl,ha,hp⟩;rcases Nat.lt_or_ge i n with h|h
 .refine .inr ⟨h,?_⟩;rintro x H3 ⟨rfl,rfl⟩;exact hs i xs σ1 H3 h hl ha hp
 .have e:i=n:=Nat.le_antisymm hi h;subst e;exact .inl ⟨Nat.le_refl _,hd xs σ1 H2 hl ha hp⟩
theorem F6{K:Frag}{a:Addr}{ys:LUz}{g:TG}{te:TE}{σ:St}{H1:Hp}{acc:Addr}{Qr:Hp->Prop}(Pv:Nat->LUz->St->Hp->Prop)(h0:Pv 0 [] σ (upd H1 acc (.lst [])))
  (hq:∀i xs σ H,i<=ys.length->H acc=some (.lst xs)->Pv i xs σ H->SqL K H a ys)
  (hs:∀i x xs σ H,ys[i]?=some x->i<ys.length->xs.length=i->H acc=some (.lst xs)->Pv i xs σ H->g x σ H λ σ2 H2=>te σ2 H2 λ v H3=>cNx acc ys.length Pv i σ2 v H3)
  (hd:∀xs σ H,xs.length=ys.length->H acc=some (.lst xs)->Pv ys.length xs σ H->Qr H) :
  ∃W:Nat->Nat->St->Hp->Prop,(∃m,W 0 m σ (upd H1 acc (.lst [])))/\∀i m σ1 H2,W i m σ1 H2 ->
   ((Itl K a).stop i H2/\Qr H2)\/((Itl K a).go i H2/\∀x H3,(Itl K a).yld i H2 x H3->g x σ1 H3 λ σ4 H4=>te σ4 H4 λ v H5=>∃xs,H5 acc=some (.lst xs)/\xs.length<sizeLine/\∃m',m'<m/\W (i+1) m' σ4 (upd H5 acc (.lst (xs++[v])))):=by
 refine⟨cW acc ys.length Pv,⟨ys.length,Nat.zero_le _,rfl,[],rfl,upd_same,h0⟩,?_⟩;rintro i m σ1 H2 ⟨hi,rfl,xs,hl,ha,hp⟩;have hsq:=hq i xs σ1 H2 hi ha hp;rcases Nat.lt_or_ge i ys.length with h|h
 .refine .inr ⟨⟨ys,ys[i],hsq,List.getElem?_eq_getElem h⟩,?_⟩;rintro x H3 ⟨rfl,hx⟩;exact hs i x xs σ1 H3 (hx ys hsq) h hl ha hp
 .have e:i=ys.length:=Nat.le_antisymm hi h;subst e;exact .inl ⟨⟨ys,hsq,Nat.le_refl _⟩,hd xs σ1 H2 hl ha hp⟩
section
variable{cmp:Nat->Nat->(Bool->Shared->Prop)->Shared->Prop}{key:Nat->Int}{N:Nat}{s:Shared}
variable(hcmp:∀i j (C:Bool->Shared->Prop),i<N->j<N->C (decide (key i<key j)) s->cmp i j C s)
include hcmp
end
section
variable{prog:Program}{w:World}{A:Around}{E:VPz}{s:Shared}
def BC(h:Heap)(a:Addr)(vs:LWz):Heap:=((h.update a (Obj.mapSeq λ_=>#[])).push (seqObj "tuple" vs.toArray 0)).push (seqObj "list" #[] 0)
theorem JU{h:Heap}{a b:Addr}{vs:LWz}{o:Obj}(hb:b≠a)(e:h.get? b=some o):(BC h a vs).get? b=some o:=by
 unfold BC;exact Heap.get?_push_of_some _ (Heap.get?_push_of_some _ (by rw[Heap.get?_update_ne _ _ _ _ hb];exact e))
theorem FK{fin:Bool}{Q:Bool->Shared->Prop}(hf:fin=false):∀{vs ws:LWz}{ns ms:List Int}(i:Nat),IntsAre vs ns->IntsAre ws ms->ns.length=ms.length->Q (HT.lexLt ns ms) s->KatLex prog w A true fin Q (vs.zip ws) i s
 |_,_,_,_,i,.nil,.nil,_,hq=>by rw[HT.lexLt_nil_nil]at hq;rw[hf];exact hq
 |_,_,_,_,i,.cons n t hn,.cons m u hm,hl,hq=>by
  rw[List.zip_cons_cons];rw[HT.lexLt_cons]at hq;refine kat_cons (wpAny_eqBool_int (kat_go (λ e=>kat_yes ?_) λ e=>kat_no ?_))
  .have e':n=m:=by simpa using e
   rw[if_pos e']at hq;exact FK hf (i+1) hn hm (by simpa using hl) hq
  .have e':¬n=m:=by simpa using e
   rw[if_neg e']at hq;by_cases hi:i=0
   .subst hi;exact oneLt_int hq
   .have hb:(true&&i==0)=false:=by simp[hi]
    rw[hb];exact kat_one _ _ (lt_int hq)
end
section
variable{X:Cx}
theorem CQ:∀{ts:List Addr}{its:LWz},Vals (ts.map V.ref) its->its=ts.map Value.ref
 |[],_,.nil=>rfl
 |a::r,_,.cons h t=>by
  cases(show _=Value.ref a from h);rw[List.map_cons,CQ t]
theorem Eu:∀(ts:List Addr),Vals (ts.map V.ref) (ts.map Value.ref)
 |[]=>.nil
 |a::r=>.cons rfl (Eu r)
theorem Hd{h:Heap}{m:Nat}:∀{ts:List (Addr×List Int)},(∀t∈ts,t.2.length=m+1/\∃items,IsTup h t.1 items/\IntsAre items.toList t.2)->∃fs,KatTups h (ts.map λ t=>Value.ref t.1) fs/\fs.length=ts.length/\∀v∈fs,∃n tk,v=Value.int n tk
 |[],_=>⟨[],KatTups.nil,rfl,λ v hv=>nomatch hv⟩
 |t::r,hh=>by
  obtain⟨fs,h1,h2,h3⟩:=Hd (ts:=r) λ u hu=>hh u (List.mem_cons_of_mem _ hu);obtain⟨hl,items,⟨o,ho,hc,n,hd⟩,hi⟩:=hh t List.mem_cons_self;obtain⟨x,tk,z,e⟩:∃(n:Int)(tk:Tok)(zs:LWz),items.toList=Value.int n tk::zs:=by
   generalize items.toList=vs at hi;generalize t.2=ns at hi hl;cases hi with
   |nil=>simp at hl
   |cons n tk hz=>exact⟨n,tk,_,rfl⟩
  have hf:items[0]?=some (Value.int x tk):=by
   rw[<-Array.getElem?_toList,e];rfl
  exact⟨_,KatTups.cons ho hc hd hf h1,by simp[h2],λ v hv=>by
   rcases List.mem_cons.mp hv with rfl|hv
   .exact⟨x,tk,rfl⟩
   .exact h3 v hv⟩
end
section
variable{κ:Type}[DecidableEq κ]
def EJ(kvs:List (κ×V))(k:κ):Option V:=(kvs.find? λ kv=>decide (kv.1=k)).map (·.2)
def DB(kvs:List (κ×V))(k:κ)(v:V):List (κ×V) :=
 if (kvs.any λ kv=>decide (kv.1=k))=true then kvs.map (λ kv=>if kv.1=k then (kv.1,v) else kv) else kvs++[(k,v)]
theorem CO{p:κ×V}{r:List (κ×V)}{k:κ}(e:p.1=k):EJ (p::r) k=some p.2:=by simp[EJ,List.find?_cons,e]
theorem CP{p:κ×V}{r:List (κ×V)}{k:κ}(e:¬p.1=k):EJ (p::r) k=EJ r k:=by simp[EJ,List.find?_cons,e]
theorem K1(k:κ):∀kvs:List (κ×V),(kvs.any λ kv=>decide (kv.1=k))=(EJ kvs k).isSome
 |[]=>rfl
 |p::r=>by
  rw[List.any_cons];by_cases e:p.1=k
  .simp only[CO e,decide_eq_true e,Bool.true_or,Option.isSome_some]
  .rw[CP e,decide_eq_false e,Bool.false_or];exact K1 k r
theorem DJ(kvs:List (κ×V))(k:κ)(v:V):(DB kvs k v).length<=kvs.length+1:=by
 unfold DB;split
 .rw[List.length_map];lia
 .rw[List.length_append,List.length_cons,List.length_nil];lia
theorem RelO.isSome_eq{o:Option V}{u:Option Value}(r:RelO o u):o.isSome=u.isSome:=by
 cases o with
 |none=>cases u with
  |none=>rfl
  |some _=>exact(show False from r).elim
 |some _=>cases u with
  |none=>exact(show False from r).elim
  |some _=>rfl
theorem KV.val{kvs:List (κ×V)}{vs:List (κ×Value)}(r:KV kvs vs)(k:κ):RelO (EJ kvs k) (valueAt vs k):=by
 unfold KV at r
 induction r with
 |nil=>exact True.intro
 |@cons p q ps qs h t ih =>
  obtain⟨h1,h2⟩:=h;by_cases e:p.1=k
  .have e':q.1=k:=h1.symm.trans e;have b:valueAt (q::qs) k=some q.2:=by simp[valueAt,List.find?_cons,e']
   rw[CO e,b];exact h2
  .have e':¬q.1=k:=λ z=>e (h1.trans z);have b:valueAt (q::qs) k=valueAt qs k:=by simp[valueAt,List.find?_cons,e']
   rw[CP e,b];exact ih
theorem KV.any{kvs:List (κ×V)}{vs:List (κ×Value)}(r:KV kvs vs)(k:κ):(kvs.any λ kv=>decide (kv.1=k))=vs.any λ kv=>decide (kv.1=k):=by
 unfold KV at r
 induction r with
 |nil=>rfl
 |cons h t ih=>rw[List.any_cons,List.any_cons,ih,h.1]
theorem KV.repl{kvs:List (κ×V)}{vs:List (κ×Value)}(r:KV kvs vs)(k:κ){y:V}{u:Value}(ry:RelV y u) :
  KV (kvs.map λ kv=>if kv.1=k then (kv.1,y) else kv) (vs.map λ kv=>if kv.1=k then (kv.1,u) else kv):=by
 unfold KV at r |-
 induction r with
 |nil=>exact .nil
 |@cons p q ps qs h t ih =>
  rw[List.map_cons,List.map_cons];refine .cons ?_ ih;obtain⟨h1,h2⟩:=h;by_cases e:p.1=k
  .rw[if_pos e,if_pos (h1.symm.trans e)];exact⟨h1,ry⟩
  .rw[if_neg e,if_neg (λ z=>e (h1.trans z))];exact⟨h1,h2⟩
theorem KV.put{kvs:List (κ×V)}{vs:List (κ×Value)}(r:KV kvs vs)(k:κ){y:V}{u:Value}(ry:RelV y u):KV (DB kvs k y) (stored vs k u):=by
 unfold DB stored;rw[r.any k];by_cases e:(vs.any λ kv=>decide (kv.1=k))=true
 .rw[if_pos e,if_pos e];exact r.repl k ry
 .rw[if_neg e,if_neg e];exact Paired.snoc r ⟨rfl,ry⟩
theorem KV.length{kvs:List (κ×V)}{vs:List (κ×Value)}(r:KV kvs vs):kvs.length=vs.length:=Paired.length r
end
theorem Nx{P:Program}{w:World}{k:Key}{u:Value}(r:RelV (kV k) u):(Bd P w).is k u=true:=by
 cases k with
 |inl i=>obtain⟨t,e⟩:=(show ∃t,u=Value.int i t from r);subst e;exact Le P w i t
 |inr x=>obtain⟨t,e⟩:=(show ∃t,u=Value.str x t from r);subst e;exact Ld P w x t
theorem IT{P:Program}{w:World}:∀{ks:List Key}{us:LWz},Vals (ks.map kV) us->ItemsAre (Bd P w) ks us
 |[],_,r=>by rw[List.map_nil]at r;cases r;exact .nil
 |k::ks,_,r=>by
  rw[List.map_cons]at r;cases r with
  |cons h t=>exact .cons (Nx h) (IT t)
abbrev KT(H:Hp):LKz->List (List Key×Addr×Value)->Prop:=Paired λ p q=>p.1=q.1/\H q.2.1=some (.tup (p.1.map kV))/\RelV p.2 q.2.2
theorem KT.val{H:Hp}{kvs:LKz}{xs:List (List Key×Addr×Value)}(r:KT H kvs xs)(k:List Key):RelO (EJ kvs k) ((atKey xs k).map (·.2)):=by
 induction r with
 |nil=>exact True.intro
 |@cons p q ps qs h t ih =>
  obtain⟨h1,_,h2⟩:=h;by_cases e:p.1=k
  .have e':q.1=k:=h1.symm.trans e;have b:atKey (q::qs) k=some q.2:=by simp[atKey,List.find?_cons,e']
   rw[CO e,b];exact h2
  .have e':¬q.1=k:=λ z=>e (h1.trans z);have b:atKey (q::qs) k=atKey qs k:=by simp[atKey,List.find?_cons,e']
   rw[CP e,b];exact ih
theorem KT.repl{H:Hp}{kvs:LKz}{xs:List (List Key×Addr×Value)}(r:KT H kvs xs)(k:List Key){y:V}{u:Value}(ry:RelV y u) :
  KT H (kvs.map λ kv=>if kv.1=k then (kv.1,y) else kv) (xs.map (putAt k u)):=by
 induction r with
 |nil=>exact .nil
 |@cons p q ps qs h t ih =>
  rw[List.map_cons,List.map_cons];refine .cons ?_ ih;obtain⟨h1,h2,h3⟩:=h;unfold putAt;by_cases e:p.1=k
  .rw[if_pos e,if_pos (h1.symm.trans e)];exact⟨h1,h2,ry⟩
  .rw[if_neg e,if_neg (λ z=>e (h1.trans z))];exact⟨h1,h2,h3⟩
theorem KT.put{H:Hp}{kvs:LKz}{xs:List (List Key×Addr×Value)}(r:KT H kvs xs)(k:List Key){b:Addr}{y:V}{u:Value}(hb:H b=some (.tup (k.map kV)))(ry:RelV y u) :
  KT H (DB kvs k y) (storedH xs k b u):=by
 have e:(kvs.any λ kv=>decide (kv.1=k))=(atKey xs k).isSome:=by
  rw[K1,(r.val k).isSome_eq,Option.isSome_map]
 unfold DB storedH;rw[e];by_cases q:(atKey xs k).isSome=true
 .rw[if_pos q,if_pos q];exact r.repl k ry
 .rw[if_neg q,if_neg q];exact Paired.snoc r ⟨rfl,hb,ry⟩
theorem KT.keeps{H H':Hp}{kvs:LKz}{xs:List (List Key×Addr×Value)}(r:KT H kvs xs)(ht:∀b ys,H b=some (.tup ys)->H' b=some (.tup ys)):KT H' kvs xs :=
 Paired.mapP r λ_ _ z=>⟨z.1,ht _ _ z.2.1,z.2.2⟩
section
variable{P:Program}{w:World}{H:Hp}{h:Heap}{a:Addr}
theorem RK{u:HO}(ok:HOk P w H h)(e:Rd H a u):ObjOk P w H h a u:=e.ok ok
theorem Qf{kvs:List (Key×V)}(ok:HOk P w H h)(e:Rd H a (.dK kvs)):kvs.length<=sizeLine/\(a==sysModules)=false/\∃vs,KV kvs vs/\h.DictOf (Bd P w) a vs :=
 show ObjOk P w H h a (.dK kvs) from RK ok e
theorem RX{kvs:List (Key×V)}(ok:HOk P w H h)(e:H a=some (.dK kvs)):kvs.length<=sizeLine/\(a==sysModules)=false/\∃vs,KV kvs vs/\h.DictOf (Bd P w) a vs:=Qf ok (.inl e)
theorem Mw{ks:List Key}(ok:HOk P w H h)(e:H a=some (.tup (ks.map kV))):(tupleKind (Bd P w)).is h ks a:=by
 obtain⟨_,its,r,o,h1,h2,n,h3⟩:=(show ObjOk P w H h a (.tup (ks.map kV)) from ok a _ e);exact⟨o,its.toArray,n,h1,h2,h3,by simpa using IT r⟩
theorem Qe{kvs:LKz}(ok:HOk P w H h)(e:Rd H a (.dT kvs)):kvs.length<=sizeLine/\(a==sysModules)=false /\
  ∃xs,KT H kvs xs/\h.DictOfH (tupleKind (Bd P w)) a xs:=by
 obtain⟨z,y,xs,r,o,es,ep,h1,h2,h3,h4,h5⟩:=(show ObjOk P w H h a (.dT kvs) from RK ok e);refine⟨z,y,xs,r,o,es,ep,h1,h2,h3,h4,λ x hx=>?_,h5⟩;have all:∀{l:LKz}{m:List (List Key×Addr×Value)},KT H l m->∀x∈m,(tupleKind (Bd P w)).is h x.1 x.2.1:=by
  intro l m q
  induction q with
  |nil=>intro x hx;exact nomatch hx
  |@cons p q ps qs hq t ih =>
   intro x hx;rcases List.mem_cons.mp hx with e|hx
   .subst e;exact Mw ok (by rw[<-hq.1];exact hq.2.1)
   .exact ih x hx
 exact all r x hx
theorem TW{kvs:LKz}(ok:HOk P w H h)(e:H a=some (.dT kvs)):kvs.length<=sizeLine/\(a==sysModules)=false /\
  ∃xs,KT H kvs xs/\h.DictOfH (tupleKind (Bd P w)) a xs:=Qe ok (.inl e)
end
def DGet(H:Hp)(a:Addr)(y:V)(r:Option V):Prop :=
 (∃kvs k,Rd H a (.dK kvs)/\y=kV k/\r=EJ kvs k)\/∃kvs k b,Rd H a (.dT kvs)/\y=.ref b/\H b=some (.tup (k.map kV))/\r=EJ kvs k
def DPut(H:Hp)(a:Addr)(y v:V)(H':Hp):Prop :=
 (∃kvs k,H a=some (.dK kvs)/\y=kV k/\kvs.length<sizeLine/\H'=upd H a (.dK (DB kvs k v))) \/
 ∃kvs k b,H a=some (.dT kvs)/\y=.ref b/\H b=some (.tup (k.map kV))/\kvs.length<sizeLine/\H'=upd H a (.dT (DB kvs k v))
theorem DGet.k{H:Hp}{a:Addr}{kvs:List (Key×V)}{k:Key}(e:H a=some (.dK kvs)):DGet H a (kV k) (EJ kvs k):=.inl ⟨kvs,k,.inl e,rfl,rfl⟩
theorem DPut.k{H:Hp}{a:Addr}{kvs:List (Key×V)}{k:Key}{v:V}(e:H a=some (.dK kvs))(hl:kvs.length<sizeLine):DPut H a (kV k) v (upd H a (.dK (DB kvs k v))):=.inl ⟨kvs,k,e,rfl,hl,rfl⟩
section
variable{X:Cx}{pins:PNz}{σ:St}{H:Hp}{s:Shared}{a:Addr}{y v:V}{u r:Value}{o:Option V}{A:Around}{E:VPz}
theorem Inv.big(I:Inv X pins σ H s):sysModules<s.heap.objs.size:=by
 have h:mainGlobals<s.heap.objs.size:=(I.mod.glob.keeps I.bk).lt;exact Nat.lt_trans (by decide) h
theorem OA{Q:VPz}(hu:A.units+1<cLine)(I:Inv X pins σ H s)(g:DGet H a y (some v))(ry:RelV y u)(h:∀w' s',Inv X pins σ H s'->RelV v w'->Q w' s') :
  wpAny (model X.prog X.w) A (getItem (.ref a) u) Q E s:=by
 rcases g with ⟨kvs,k,e,ey,l⟩|⟨kvs,k,b,e,ey,eb,l⟩
 .subst ey;obtain⟨z,hd,vs,rel,dd⟩:=Qf I.hok e;obtain⟨w',hw,rw'⟩:=RelO.some_of (v:=v) (o:=valueAt vs k) (by rw[l];exact rel.val k);exact wpAny_getItem_of (Nx ry) dd.mapOf hw (h w' _ (I.tok _) rw')
 .subst ey;cases(show u=Value.ref b from ry);obtain⟨z,hd,xs,rel,dd⟩:=Qe I.hok e;obtain⟨w',hw,rw'⟩:=RelO.some_of (v:=v) (o:=(atKey xs k).map (·.2)) (by rw[l];exact rel.val k);obtain⟨p,hp,hp2⟩:=Option.map_eq_some_iff.mp hw;refine wpAny_getItem_heap (tupleKind_room_in1 hu) (Mw I.hok eb) dd hp ?_;rw[hp2];exact h w' _ (I.tok _) rw'
theorem Kh{h':Heap}{t':Nat}{ob:HO}(I:Inv X pins σ H s)(mu:Mut (H a))(hs:Heap.SameBut a s.heap h')(he:∃q,h'.get? a=some q)(new:ObjOk X.prog X.w (upd H a ob) h' a ob) :
  Inv X pins σ (upd H a ob) { s with heap:=h',toks:=t' } :=
 I.write (x:=a) (e:=a) mu (.inl rfl) (λ b q hb z=>(hs.2 b hb).trans z) he new
theorem Qg{P:Program}{w:World}{H':Hp}{h':Heap}{kvs:List (Key×V)}{vs:List (Key×Value)}(z:kvs.length<=sizeLine)(hd:(a==sysModules)=false)(rel:KV kvs vs)(dd:h'.DictOf (Bd P w) a vs) :
  ObjOk P w H' h' a (.dK kvs):=⟨z,hd,vs,rel,dd⟩
theorem O9{H':Hp}{Q:Unit->Shared->Prop}(hu:A.units+1<cLine)(I:Inv X pins σ H s)(g:DPut H a y v H')(ry:RelV y u)(rv:RelV v r)(h:∀s',Inv X pins σ H' s'->Q () s') :
  wpAny (model X.prog X.w) A (setItem (.ref a) u r) Q E s:=by
 rcases g with ⟨kvs,k,e,ey,l,eH⟩|⟨kvs,k,b,e,ey,eb,l,eH⟩
 .subst ey eH;obtain⟨z,hd,vs,rel,dd⟩:=RX I.hok e;have hz:vs.length<=sizeLine:=by rw[<-rel.length];exact z
  have hl:(DB kvs k v).length<=sizeLine:=by have:=DJ kvs k v;lia
  refine wpAny_setItem_pairs (hsz:=hz) (Nx ry) dd λ h' dd' hs=>h _ ?_;have he:∃q,h'.get? a=some q:=let ⟨q,_,_,hq,_⟩:=dd';⟨q,hq⟩;exact Kh I (by rw[e];exact True.intro) hs he (Qg hl hd (rel.put k rv) dd')
 .subst ey eH;cases(show u=Value.ref b from ry);obtain⟨z,hd,xs,rel,dd⟩:=TW I.hok e;have hz:xs.length<=sizeLine:=by rw[<-Paired.length rel];exact z
  have hl:(DB kvs k v).length<=sizeLine:=by have:=DJ kvs k v;lia
  refine wpAny_setItem_heap (hsz:=hz) (tupleKind_room_in1 hu) (Mw I.hok eb) dd λ h' dd' hs=>h _ ?_;obtain⟨q,es,ep,hq,h2,h3,h4,_,h5⟩:=dd';refine Kh I (by rw[e];exact True.intro) hs ⟨q,hq⟩ ⟨hl,hd,_,(rel.put k eb rv).keeps λ c ys ec=>?_,q,es,ep,hq,h2,h3,h4,h5⟩;rw[Ah (EX ec e (λ z=>nomatch z))];exact ec
end
def Ui(i:Expr):Prop:=∀ov iv,subscripted i false ov iv=operate [ov,iv] (getItem ov iv)
theorem Q7{prog:Program}{w:World}{A:Around}{E:VPz}{s:Shared}{env:Env}{value slice:Expr}{pos:Pos}{T id:String}{Q:VPz}
  (hl:typeLookup (.type T) "__getitem__"=pure (some (.builtin id))) (hs:Ui slice)
  (h:wpAny (model prog w) A (eval value env) (λ o s₁=>wpAny (model prog w) A (eval slice env) (λ i s₂=>s₂.TypeIs o T/\wpAny (model prog w) A (getItem o i) Q E s₂) E s₁) E s) :
  wpAny (model prog w) A (eval (.Subscript value slice pos) env) Q E s:=by
 refine Subscript_ (wpAny_mono h (λ o s₁ h₁=>wpAny_mono h₁ (λ i s₂ h₂=>?_) λ_ _ x=>x) λ_ _ x=>x);obtain⟨hT,h₂⟩:=h₂;unfold subscriptTail;refine wpAny_bind ?_;rw[getitemInPython_of_ne hT.not_modules];refine wpAny_bind (wpAny_specialOf hT hl ?_);have fin:wpAny (model prog w) A (subscripted slice false o i) (λ r s₃=>wpAny (model prog w) A (letTemporaryGo value o r >>= λ_=>pure r) Q E s₃) E s₂:=by
  rw[hs o i];exact wpAny_operating (wpAny_mono h₂ (λ r s₃ h₃=>wpAny_bind (wpAny_letTemporaryGo (wpAny_pure h₃))) λ_ _ x=>x)
 first
  |exact wpAny_pure (wpAny_bind fin)
  |exact wpAny_bind (wpAny_pure (wpAny_bind fin))
  |exact wpAny_bind fin
theorem Lr{X:Cx}{pins:PNz}{σ:St}{H:Hp}{s:Shared}{a:Addr}{y:V}{o:Option V}(I:Inv X pins σ H s)(g:DGet H a y o):s.TypeIs (.ref a) "dict":=by
 rcases g with ⟨kvs,k,e,_,_⟩|⟨kvs,k,b,e,_,_,_⟩
 .obtain⟨_,_,vs,_,dd⟩:=Qf I.hok e;exact dd.typeIs
 .obtain⟨_,_,xs,_,dd⟩:=Qe I.hok e;exact dd.typeIs
def Tk(td ty:TE):TE:=λ σ H Q=>td σ H λ x H1=>ty σ H1 λ y H2=>∃a v,x=.ref a/\DGet H2 a y (some v)/\Q v H2
def Tp(td ty tv:TE):TS:=λ D σ H=>tv σ H λ v H1=>td σ H1 λ x H2=>ty σ H2 λ y H3=>∃a H4,x=.ref a/\DPut H3 a y v H4/\D.nx σ H4
section
variable{X:Cx}{o i e value:Expr}{pos pos' tpos:Pos}{td ty tv:TE}
theorem Gc(hu:X.A.units+1<cLine)(ho:PE X o td)(hi:PE X i ty)(hs:Ui i):PE X (.Subscript o i pos) (Tk td ty):=by
 intro pins s σ H Q I h;refine Q7 PySem.F.slot_dict_getitem.lookup hs (thn (ho pins s σ H _ I h) λ u s1 hz_=>?_);obtain⟨x,H1,I1,rx,q1⟩:=hz_;refine thn (hi pins s1 σ H1 _ I1 q1) λ iv s2 hz_=>?_;obtain⟨y,H2,I2,ry,a,v,ex,g,q2⟩:=hz_;subst ex;obtain rfl:u=Value.ref a:=rx;exact⟨Lr I2 g,OA hu I2 g ry λ w' s3 I3 rw'=>⟨v,H2,I3,rw',q2⟩⟩
theorem Ni(hu:X.A.units+1<cLine)(ho:PE X o td)(hi:PE X i ty)(hv:PE X value tv)(hs:swapsWith value (some (.Subscript o i pos')) pos.line X.env=pure false) :
  PS X (.Assign [.Subscript o i pos'] value pos) (Tp td ty tv):=by
 intro pins s σ H D I h;refine wpAny_Assign_Subscript (thn (hv pins s σ H _ I h) λ r s1 hz_=>?_) hs;obtain⟨v,H1,I1,rv,q1⟩:=hz_;refine thn (ho pins s1 σ H1 _ I1 q1) λ u s2 hz_=>?_;obtain⟨x,H2,I2,rx,q2⟩:=hz_;refine thn (hi pins s2 σ H2 _ I2 q2) λ iv s3 hz_=>?_;obtain⟨y,H3,I3,ry,a,H4,ex,g,q3⟩:=hz_;subst ex;obtain rfl:u=Value.ref a:=rx;exact O9 hu I3 g ry rv λ s4 I4=>⟨σ,H4,I4,q3⟩
end
theorem Qh{P:Program}{w:World}{H:Hp}(h:Heap)(hb:sysModules<h.objs.size):ObjOk P w H (h.push { cls:=.type "dict",data:=.dict #[] }) h.objs.size (.dK []) :=
 ⟨Nat.zero_le _,beq_eq_false_iff_ne.mpr (Ne.symm (Nat.ne_of_lt hb)),[],.nil,Heap.DictOf.new h⟩
def LN:List (TE×TE)->St->Hp->(List (V×V)->Hp->Prop)->Prop
 |[],_,H,Q=>Q [] H
 | (tk,tv)::r,σ,H,Q=>tk σ H λ x H1=>tv σ H1 λ y H2=>LN r σ H2 λ ps H3=>Q ((x,y)::ps) H3
abbrev VV:List (V×V)->List (Value×Value)->Prop:=Paired λ p q=>RelV p.1 q.1/\RelV p.2 q.2
def PPs(X:Cx)(pos:Pos)(keys:List (Option Expr))(values:List Expr)(trs:List (TE×TE)):Prop :=
 ∀(pins:PNz)(s:Shared)(σ:St)(H:Hp)(Q:List (V×V)->Hp->Prop),Inv X pins σ H s->LN trs σ H Q ->
  wpAny (model X.prog X.w) X.A (evalPairs (pairTrees keys values X.env pos)) (λ vs s'=>∃ps H',Inv X pins σ H' s'/\VV ps vs/\Q ps H') X.xe s
theorem QO{X:Cx}{pos:Pos}:PPs X pos [] [] []:=λ pins s σ H Q I h=>pairTrees_nil_walk ⟨[],H,I,.nil,h⟩
theorem GD{X:Cx}{pos:Pos}{k v:Expr}{ks:List (Option Expr)}{vs:List Expr}{tk tv:TE}{trs:List (TE×TE)}(hk:PE X k tk)(hv:PE X v tv)(hr:PPs X pos ks vs trs) :
  PPs X pos (some k::ks) (v::vs) ((tk,tv)::trs):=λ pins s σ H Q I h =>
 pairTrees_cons_walk (thn (hk pins s σ H _ I h) λ u s1 ⟨x,H1,I1,rx,q1⟩=>thn (hv pins s1 σ H1 _ I1 q1) λ w2 s2 ⟨y,H2,I2,ry,q2⟩ =>
  thn (hr pins s2 σ H2 _ I2 q2) λ ws s3 ⟨ps,H3,I3,rel,q3⟩=>⟨(x,y)::ps,H3,I3,.cons ⟨rx,ry⟩ rel,q3⟩)
def GV(kvs more:List (Key×V)):List (Key×V):=more.foldl (λ acc kv=>DB acc kv.1 kv.2) kvs
theorem KV.merge:∀{more:List (Key×V)}{rs:List (Key×Value)}{kvs:List (Key×V)}{vs:List (Key×Value)},KV more rs->KV kvs vs->KV (GV kvs more) (merged vs rs):=by
 intro more rs kvs vs r;unfold KV at r
 induction r generalizing kvs vs with
 |nil=>intro q;exact q
 |@cons p q ps qs h t ih =>
  intro r0;have e:KV (DB kvs p.1 p.2) (stored vs q.1 q.2):=by
   have:=r0.put p.1 h.2;rw[<-h.1];exact this
  exact ih e
theorem Ei:∀(more kvs:List (Key×V)),(GV kvs more).length<=kvs.length+more.length
 |[],kvs=>by show kvs.length<=kvs.length+0;lia
 |p::r,kvs=>by
  have h1:=Ei r (DB kvs p.1 p.2);have h2:=DJ kvs p.1 p.2;show(GV (DB kvs p.1 p.2) r).length<=_;rw[List.length_cons];lia
theorem Hz{P:Program}{w:World}:∀{kvs:List (Key×V)}{ws:List (Value×Value)},VV (kvs.map λ kv=>(kV kv.1,kv.2)) ws->∃rs,Carries (Bd P w) ws rs/\KV kvs rs
 |[],_,r=>by rw[List.map_nil]at r;cases r;exact⟨[],True.intro,.nil⟩
 |p::kvs,_,r=>by
  rw[List.map_cons]at r;cases r with
  |@cons a b as bs h t =>
   obtain⟨rs,c,q⟩:=Hz (P:=P) (w:=w) t;obtain⟨b1,b2⟩:=b;exact⟨(p.1,b2)::rs,⟨Nx h.1,rfl,c⟩,.cons ⟨rfl,h.2⟩ q⟩
def Tj(trs:List (TE×TE)):TE:=λ σ H Q=>∀p,H p=none->LN trs σ (upd H p (.dK [])) λ ps H2=>H2 p=some (.dK [])/\∃kvs:List (Key×V),ps=kvs.map (λ kv=>(kV kv.1,kv.2))/\kvs.length<=15/\Q (.ref p) (upd H2 p (.dK (GV [] kvs)))
theorem QU{X:Cx}{pos:Pos}{keys:List (Option Expr)}{values:List Expr}{trs:List (TE×TE)}(h:PPs X pos keys values trs)(hall:keys.all (·.isSome)=true)(hl:keys.length=values.length)(h0:keys≠[])
  (h15:keys.length<=15):PE X (.Dict keys values pos) (Tj trs):=by
 intro pins s σ H Q I q;have hn:=I.hok.fresh (Nat.le_refl s.heap.objs.size);have I1:=I.laid (a:=s.heap.objs.size) (o:=.dK []) (h':=s.heap.push { cls:=.type "dict",data:=.dict #[] }) (t':=s.toks) (λ_ _ q=>Heap.get?_push_of_some _ q) (Nat.le_refl _) (Qh s.heap I.big);refine wpAny_Dict_walk (knd:=Bd X.prog X.w) hall hl h0 h15 (thn (h pins _ σ _ _ I1 (q _ hn)) λ ws s2 hz_=>?_);obtain⟨ps,H2,I2,rel,e,kvs,ep,lk,q2⟩:=hz_;subst ep;obtain⟨rs,c,rk⟩:=Hz (P:=X.prog) (w:=X.w) rel;obtain⟨z,hd,vs0,r0,dd⟩:=RX I2.hok e;cases r0;refine⟨rs,c,dd,λ h' dd' hs=>⟨.ref s.heap.objs.size,_,?_,rfl,q2⟩⟩;have hz:(GV [] kvs).length<=sizeLine:=by
  have h1:=Ei kvs [];rw[List.length_nil]at h1;rw[sizeLine_eq];lia
 have he:∃q,h'.get? s.heap.objs.size=some q:=let ⟨q,_,_,hq,_⟩:=dd';⟨q,hq⟩;exact Kh I2 (by rw[e];exact True.intro) hs he (Qg hz hd (rk.merge .nil) dd')
open PySem.SeqAt
mutual
inductive D where
 |at (v:V)
 |tup (xs:Ds)
 |lst (xs:Ds)
inductive Ds where
 |nil
 |cons (d:D) (r:Ds)
end
mutual
def DIs(K:Frag)(H:Hp):D->V->Prop
 |.at u,v=>v=u/\AA u=true
 |.tup ds,v=>∃a xs,v=.ref a/\SqT K H a xs/\DIss K H ds xs
 |.lst ds,v=>∃a xs,v=.ref a/\SqL K H a xs/\DIss K H ds xs
def DIss(K:Frag)(H:Hp):Ds->LUz->Prop
 |.nil,xs=>xs=[]
 |.cons d r,xs=>∃x ys,xs=x::ys/\DIs K H d x/\DIss K H r ys
end
mutual
def dep:D->Nat
 |.at _=>0
 |.tup ds=>BH ds+1
 |.lst ds=>BH ds+1
def BH:Ds->Nat
 |.nil=>0
 |.cons d r=>max (dep d) (BH r)
end
mutual
def deq:D->D->Bool
 |.at u,.at v=>eqV u v
 |.tup xs,.tup ys=>BZ xs ys
 |.lst xs,.lst ys=>BZ xs ys
 |_,_=>false
def BZ:Ds->Ds->Bool
 |.nil,.nil=>true
 |.cons d r,.cons e q=>deq d e&&BZ r q
 |_,_=>false
end
def Ds.len:Ds->Nat
 |.nil=>0
 |.cons _ r=>r.len+1
def Ds.get:Ds->Nat->D
 |.nil,_=>.at .non
 |.cons d _,0=>d
 |.cons _ r,i+1=>r.get i
theorem BD:∀(ds es:Ds),((List.range (min ds.len es.len)).all (λ j=>deq (ds.get j) (es.get j))&&ds.len==es.len)=BZ ds es
 |.nil,.nil=>rfl
 |.nil,.cons e q=>by simp[Ds.len,BZ]
 |.cons d r,.nil=>by simp[Ds.len,BZ]
 |.cons d r,.cons e q=>by
  have ih:=BD r q;rw[show BZ (.cons d r) (.cons e q)=(deq d e&&BZ r q) from by rw[BZ],<-ih];show((List.range (min (r.len+1) (q.len+1))).all _&&(r.len+1==q.len+1))=_;rw[show min (r.len+1) (q.len+1)=min r.len q.len+1 by lia,List.range_succ_eq_map,List.all_cons,List.all_map,Bool.and_assoc];congr 1;rw[show(r.len+1==q.len+1)=(r.len==q.len) by simp];rfl
mutual
theorem Cv:∀{K:Frag}{H:Hp}(d:D){v:V},DIs K H d v->deq d d=true
 |_,_,.at u,v,h=>by
  obtain⟨_,hf⟩:=(show v=u/\AA u=true by simpa [DIs] using h);rw[deq];cases u<;>simp_all [AA,eqV]
 |_,_,.tup ds,v,h=>by
  rw[DIs]at h;obtain⟨a,xs,_,_,q⟩:=h;rw[deq];exact F3 ds q
 |_,_,.lst ds,v,h=>by
  rw[DIs]at h;obtain⟨a,xs,_,_,q⟩:=h;rw[deq];exact F3 ds q
theorem F3:∀{K:Frag}{H:Hp}(ds:Ds){xs:LUz},DIss K H ds xs->BZ ds ds=true
 |_,_,.nil,_,_=>by rw[BZ]
 |_,_,.cons d r,xs,h=>by
  rw[DIss]at h;obtain⟨x,ys,_,h1,h2⟩:=h;rw[BZ,Cv d h1,F3 r h2];rfl
end
theorem DIss.len{K:Frag}{H:Hp}:∀{ds:Ds}{xs:LUz},DIss K H ds xs->ds.len=xs.length
 |.nil,xs,h=>by rw[DIss]at h;rw[h];rfl
 |.cons d r,xs,h=>by
  rw[DIss]at h;obtain⟨x,ys,rfl,_,h2⟩:=h;show r.len+1=ys.length+1;rw[DIss.len h2]
theorem DIss.get{K:Frag}{H:Hp}:∀{ds:Ds}{xs:LUz}{i:Nat}{x:V},DIss K H ds xs->xs[i]?=some x->DIs K H (ds.get i) x
 |.nil,xs,i,x,h,e=>by rw[DIss]at h;rw[h]at e;simp at e
 |.cons d r,xs,i,x,h,e=>by
  rw[DIss]at h;obtain⟨y,ys,rfl,h1,h2⟩:=h;cases i with
  |zero=>simp at e;subst e;exact h1
  |succ i =>
   show DIs K H (r.get i) x;exact DIss.get h2 (by simpa using e)
theorem Gk:∀(ds:Ds)(i:Nat),i<ds.len->dep (ds.get i)<=BH ds
 |.nil,i,h=>absurd h (by simp[Ds.len])
 |.cons d r,0,_=>by show dep d<=_;rw[BH];lia
 |.cons d r,i+1,h=>by
  have:=Gk r i (by simpa [Ds.len] using h);show dep (r.get i)<=_;rw[BH];lia
section
variable{X:Cx}{pins:PNz}{σ:St}{H:Hp}{s:Shared}
mutual
theorem DIs.inj(I:Inv X pins σ H s):∀{d e:D}{v:V},DIs X.K H d v->DIs X.K H e v->d=e
 |.at u,.at w',v,h,h'=>by
  rw[DIs]at h;rw[DIs]at h';rw[<-h.1,<-h'.1]
 |.at u,.tup ds,v,h,h'=>by
  rw[DIs]at h;rw[DIs]at h';obtain⟨a,xs,e,_⟩:=h';have:=h.2;rw[<-h.1,e]at this;cases this
 |.at u,.lst ds,v,h,h'=>by
  rw[DIs]at h;rw[DIs]at h';obtain⟨a,xs,e,_⟩:=h';have:=h.2;rw[<-h.1,e]at this;cases this
 |.tup ds,.at u,v,h',h=>by
  rw[DIs]at h;rw[DIs]at h';obtain⟨a,xs,e,_⟩:=h';have:=h.2;rw[<-h.1,e]at this;cases this
 |.lst ds,.at u,v,h',h=>by
  rw[DIs]at h;rw[DIs]at h';obtain⟨a,xs,e,_⟩:=h';have:=h.2;rw[<-h.1,e]at this;cases this
 |.tup ds,.tup es,v,h,h'=>by
  rw[DIs]at h;rw[DIs]at h';obtain⟨a,xs,rfl,h1,h2⟩:=h;obtain⟨b,ys,e,k1,k2⟩:=h';cases e;have e:=I.tuple_inj h1 k1;subst e;rw[DIss.inj I h2 k2]
 |.lst ds,.lst es,v,h,h'=>by
  rw[DIs]at h;rw[DIs]at h';obtain⟨a,xs,rfl,h1,h2⟩:=h;obtain⟨b,ys,e,k1,k2⟩:=h';cases e;have e:=I.list_inj h1 k1;subst e;rw[DIss.inj I h2 k2]
 |.tup ds,.lst es,v,h,h'=>by
  rw[DIs]at h;rw[DIs]at h';obtain⟨a,xs,rfl,h1,h2⟩:=h;obtain⟨b,ys,e,k1,k2⟩:=h';cases e;obtain⟨_,_,t1,_⟩:=I.tuple h1;obtain⟨_,_,t2,_⟩:=I.list k1;exact absurd rfl (ne_of_list_tuple t2.isList (show s.heap.IsTuple a _ from t1))
 |.lst ds,.tup es,v,h,h'=>by
  rw[DIs]at h;rw[DIs]at h';obtain⟨a,xs,rfl,h1,h2⟩:=h;obtain⟨b,ys,e,k1,k2⟩:=h';cases e;obtain⟨_,_,t1,_⟩:=I.tuple k1;obtain⟨_,_,t2,_⟩:=I.list h1;exact absurd rfl (ne_of_list_tuple t2.isList (show s.heap.IsTuple a _ from t1))
theorem DIss.inj(I:Inv X pins σ H s):∀{ds es:Ds}{xs:LUz},DIss X.K H ds xs->DIss X.K H es xs->ds=es
 |.nil,.nil,xs,h,h'=>rfl
 |.nil,.cons d r,xs,h,h'=>by
  rw[DIss]at h;rw[DIss]at h';obtain⟨x,ys,e,_⟩:=h';rw[h]at e;cases e
 |.cons d r,.nil,xs,h',h=>by
  rw[DIss]at h;rw[DIss]at h';obtain⟨x,ys,e,_⟩:=h';rw[h]at e;cases e
 |.cons d r,.cons e q,xs,h,h'=>by
  rw[DIss]at h;rw[DIss]at h';obtain⟨x,ys,rfl,h1,h2⟩:=h;obtain⟨y,zs,e',k1,k2⟩:=h';cases e';rw[DIs.inj I h1 k1,DIss.inj I h2 k2]
end
theorem Hm{A:Around}{u:V}{x:Value}{l:Addr}{items:Array Value}(r:RelV u x)(f:AA u=true)(hl:s.heap.IsTuple l items)(hu:A.units<cLine):EqAt A s x (.ref l) false/\EqAt A s (.ref l) x false:=by
 cases u with
 |non=>cases r;exact⟨.none_tuple hl hu,.tuple_none hl hu⟩
 |bl b=>cases r;exact⟨.bool_tuple b hl hu,.tuple_bool b hl hu⟩
 |int b=>obtain⟨t,rfl⟩:=r;exact⟨.int_tuple b t hl hu,.tuple_int b t hl hu⟩
 |str b=>obtain⟨t,rfl⟩:=r;exact⟨.str_tuple b t hl hu,.tuple_str b t hl hu⟩
 |_=>exact absurd (show false=true from f) Bool.false_ne_true
theorem Hn{A:Around}{u:V}{x:Value}{l:Addr}{items:Array Value}(r:RelV u x)(f:AA u=true)(hl:s.heap.IsList l items)(hu:A.units<cLine):EqAt A s x (.ref l) false/\EqAt A s (.ref l) x false:=by
 cases u with
 |non=>cases r;exact⟨.none_list hl hu,.list_none hl hu⟩
 |bl b=>cases r;exact⟨.bool_list b hl hu,.list_bool b hl hu⟩
 |int b=>obtain⟨t,rfl⟩:=r;exact⟨.int_list b t hl hu,.list_int b t hl hu⟩
 |str b=>obtain⟨t,rfl⟩:=r;exact⟨.str_list b t hl hu,.list_str b t hl hu⟩
 |_=>exact absurd (show false=true from f) Bool.false_ne_true
theorem M4(I:Inv X pins σ H s):∀(n:Nat)(A:Around)(d e:D)(x y:V)(u v:Value),dep d<=n->DIs X.K H d x->DIs X.K H e y->RelV x u->RelV y v->A.units+n<cLine->EqAt A s u v (deq d e):=by
 intro n
 induction n with
 |zero =>
  intro A d e x y u v hn hd he rx ry hu;cases d with
  |tup ds=>rw[dep]at hn;lia
  |lst ds=>rw[dep]at hn;lia
  | «at» p =>
   rw[DIs]at hd;obtain⟨rfl,hf⟩:=hd;cases e with
   | «at» q =>
    rw[DIs]at he;obtain⟨rfl,hg⟩:=he;rw[deq];exact M3 rx ry hf hg
   |tup es =>
    rw[DIs]at he;obtain⟨b,ys,rfl,h1,_⟩:=he;obtain⟨_,_,t,_⟩:=I.tuple h1;cases ry;rw[deq]
    .exact(Hm rx hf (show s.heap.IsTuple b _ from t) hu).1
    all_goals (intros;simp_all)
   |lst es =>
    rw[DIs]at he;obtain⟨b,ys,rfl,h1,_⟩:=he;obtain⟨_,_,t,_⟩:=I.list h1;cases ry;rw[deq]
    .exact(Hn rx hf t.isList hu).1
    all_goals (intros;simp_all)
 |succ n ih =>
  intro A d e x y u v hn hd he rx ry hu;have hu1:A.in1.units+n<cLine:=by show A.units+1+n<cLine;lia
  cases d with
  | «at» p =>
   rw[DIs]at hd;obtain⟨rfl,hf⟩:=hd;cases e with
   | «at» q =>
    rw[DIs]at he;obtain⟨rfl,hg⟩:=he;rw[deq];exact M3 rx ry hf hg
   |tup es =>
    rw[DIs]at he;obtain⟨b,ys,rfl,h1,_⟩:=he;obtain⟨_,_,t,_⟩:=I.tuple h1;cases ry;rw[deq]
    .exact(Hm rx hf (show s.heap.IsTuple b _ from t) (by lia)).1
    all_goals (intros;simp_all)
   |lst es =>
    rw[DIs]at he;obtain⟨b,ys,rfl,h1,_⟩:=he;obtain⟨_,_,t,_⟩:=I.list h1;cases ry;rw[deq]
    .exact(Hn rx hf t.isList (by lia)).1
    all_goals (intros;simp_all)
  |tup ds =>
   have hd0:=hd;rw[dep]at hn;rw[DIs]at hd;obtain⟨a,xs,rfl,h1,h2⟩:=hd;obtain⟨i1,r1,t1,_⟩:=I.tuple h1;cases rx;cases e with
   | «at» q =>
    rw[DIs]at he;obtain⟨rfl,hg⟩:=he;rw[deq]
    .exact(Hm ry hg (show s.heap.IsTuple a _ from t1) (by lia)).2
    all_goals (intros;simp_all)
   |lst es =>
    rw[DIs]at he;obtain⟨b,ys,rfl,k1,_⟩:=he;obtain⟨_,_,t2,_⟩:=I.list k1;cases ry;rw[deq]
    .exact EqAt.tuple_list (show s.heap.IsTuple a _ from t1) t2.isList (by lia)
    all_goals (intros;simp_all)
   |tup es =>
    have he0:=he;rw[DIs]at he;obtain⟨b,ys,rfl,k1,k2⟩:=he;obtain⟨i2,r2,t2,_⟩:=I.tuple k1;cases ry;by_cases hab:a=b
    .subst hab;rw[DIs.inj I he0 hd0,Cv _ hd0];exact EqAt.same _
    .refine EqAt.of_refs hab ?_;have:=RcAt.tuples (A:=A) (e:=λ j=>deq (ds.get j) (es.get j)) (show s.heap.IsTuple a i1.toArray from t1) (show s.heap.IsTuple b i2.toArray from t2) (by lia) λ j g1 g2=>?_
     .have l1:=r1.length;have l2:=r2.length;have m1:=h2.len;have m2:=k2.len;rw[List.size_toArray,List.size_toArray,<-l1,<-l2,<-m1,<-m2,BD]at this;rw[deq];exact this
     .have l1:=r1.length;have l2:=r2.length;have m1:=h2.len;have g1':j<xs.length:=by simp at g1;lia
      have g2':j<ys.length:=by simp at g2;lia
      obtain⟨u1,e1,q1⟩:=r1.get (List.getElem?_eq_getElem g1');obtain⟨u2,e2,q2⟩:=r2.get (List.getElem?_eq_getElem g2');have d1:i1.toArray[j]=u1:=by
       have:i1[j]?=some i1.toArray[j]:=by simp
       rw[e1]at this;exact(Option.some.inj this).symm
      have d2:i2.toArray[j]=u2:=by
       have:i2[j]?=some i2.toArray[j]:=by simp
       rw[e2]at this;exact(Option.some.inj this).symm
      rw[d1,d2];exact ih _ _ _ _ _ _ _ (Nat.le_trans (Gk ds j (by lia)) (by lia)) (h2.get (List.getElem?_eq_getElem g1')) (k2.get (List.getElem?_eq_getElem g2')) q1 q2 hu1
  |lst ds =>
   have hd0:=hd;rw[dep]at hn;rw[DIs]at hd;obtain⟨a,xs,rfl,h1,h2⟩:=hd;obtain⟨i1,r1,t1,_⟩:=I.list h1;cases rx;cases e with
   | «at» q =>
    rw[DIs]at he;obtain⟨rfl,hg⟩:=he;rw[deq]
    .exact(Hn ry hg t1.isList (by lia)).2
    all_goals (intros;simp_all)
   |tup es =>
    rw[DIs]at he;obtain⟨b,ys,rfl,k1,_⟩:=he;obtain⟨_,_,t2,_⟩:=I.tuple k1;cases ry;rw[deq]
    .exact EqAt.list_tuple t1.isList (show s.heap.IsTuple b _ from t2) (by lia)
    all_goals (intros;simp_all)
   |lst es =>
    have he0:=he;rw[DIs]at he;obtain⟨b,ys,rfl,k1,k2⟩:=he;obtain⟨i2,r2,t2,_⟩:=I.list k1;cases ry;by_cases hab:a=b
    .subst hab;rw[DIs.inj I he0 hd0,Cv _ hd0];exact EqAt.same _
    .refine EqAt.of_refs hab ?_;have l1:=r1.length;have l2:=r2.length;have m1:=h2.len;have m2:=k2.len;rw[deq];rw[<-BD];by_cases hz:ds.len=es.len
     .have:=RcAt.lists (A:=A) (e:=λ j=>deq (ds.get j) (es.get j)) t1.isList t2.isList (by simp;lia) (by lia) λ j g1 g2=>?_
      .rw[List.size_toArray,<-l1,<-m1]at this;rw[hz,Nat.min_self,beq_self_eq_true,Bool.and_true,<-hz];exact this
      .have g1':j<xs.length:=by simp at g1;lia
       have g2':j<ys.length:=by simp at g2;lia
       obtain⟨u1,e1,q1⟩:=r1.get (List.getElem?_eq_getElem g1');obtain⟨u2,e2,q2⟩:=r2.get (List.getElem?_eq_getElem g2');have d1:i1.toArray[j]=u1:=by
        have:i1[j]?=some i1.toArray[j]:=by simp
        rw[e1]at this;exact(Option.some.inj this).symm
       have d2:i2.toArray[j]=u2:=by
        have:i2[j]?=some i2.toArray[j]:=by simp
        rw[e2]at this;exact(Option.some.inj this).symm
       rw[d1,d2];exact ih _ _ _ _ _ _ _ (Nat.le_trans (Gk ds j (by lia)) (by lia)) (h2.get (List.getElem?_eq_getElem g1')) (k2.get (List.getElem?_eq_getElem g2')) q1 q2 hu1
     .have e0:(ds.len==es.len)=false:=by simpa using hz
      rw[e0,Bool.and_false];exact RcAt.lists_lengths t1.isList t2.isList (by simp;lia) (by lia)
end
section
variable{X:Cx}
theorem Gj{pins:PNz}{σ:St}{H:Hp}{s:Shared}(I:Inv X pins σ H s){A:Around}{ds es:Ds}{xs ys:LUz}{i1 i2:LWz}(h2:DIss X.K H ds xs)(k2:DIss X.K H es ys)(r1:Vals xs i1)(r2:Vals ys i2)
  (hu:A.units+60<cLine) (hd:BH ds<=50):∀j (g1:j<i1.toArray.size) (g2:j<i2.toArray.size),EqAt A.in1 s i1.toArray[j] i2.toArray[j] (deq (ds.get j) (es.get j)):=λ j g1 g2=>by
 have l1:=r1.length;have l2:=r2.length;have m1:=h2.len;have g1':j<xs.length:=by simp at g1;lia
 have g2':j<ys.length:=by simp at g2;lia
 obtain⟨u1,e1,q1⟩:=r1.get (List.getElem?_eq_getElem g1');obtain⟨u2,e2,q2⟩:=r2.get (List.getElem?_eq_getElem g2');have d1:i1.toArray[j]=u1:=by
  have:i1[j]?=some i1.toArray[j]:=by simp
  rw[e1]at this;exact(Option.some.inj this).symm
 have d2:i2.toArray[j]=u2:=by
  have:i2[j]?=some i2.toArray[j]:=by simp
  rw[e2]at this;exact(Option.some.inj this).symm
 rw[d1,d2];exact M4 I 50 _ _ _ _ _ _ _ (Nat.le_trans (Gk ds j (by lia)) hd) (h2.get (List.getElem?_eq_getElem g1')) (k2.get (List.getElem?_eq_getElem g2')) q1 q2 (by show A.units+1+50<cLine;lia)
def Sz(K:Frag)(neg:Bool):R2:=λ x y H Q=>∃d e,DIs K H d x/\DIs K H e y/\(∃a,x=.ref a)/\(∃b,y=.ref b)/\dep d<=50/\Q (.bl (if neg then !deq d e else deq d e)) H
theorem Md{k:Nat}(hr:Room k X.A):OpR X (compareOp .Eq) (Sz X.K false):=by
 intro pins s σ H x y v u Q I rx ry h;obtain⟨d,e,hd,he,⟨a,rfl⟩,⟨b,rfl⟩,hn,q⟩:=h;cases rx;cases ry;have hu:=hr.units;cases d with
 | «at» p=>rw[DIs]at hd;obtain⟨rfl,hf⟩:=hd;cases hf
 |tup ds =>
  rw[dep]at hn;rw[DIs]at hd;obtain⟨a',xs,e',h1,h2⟩:=hd;cases e';obtain⟨i1,r1,t1,_⟩:=I.tuple h1;cases e with
  | «at» p=>rw[DIs]at he;obtain⟨rfl,hf⟩:=he;cases hf
  |tup es =>
   rw[DIs]at he;obtain⟨b',ys,e',k1,k2⟩:=he;cases e';obtain⟨i2,r2,t2,_⟩:=I.tuple k1;refine RcAt.tuples (show s.heap.IsTuple a i1.toArray from t1) (show s.heap.IsTuple b i2.toArray from t2) (by lia) (Gj I h2 k2 r1 r2 (by lia) (by lia)) _ _ _ _ ⟨.bl _,H,I,?_,q⟩;show Value.bool _=Value.bool _;rw[List.size_toArray,List.size_toArray,<-r1.length,<-r2.length,<-h2.len,<-k2.len,BD];simp only[Bool.false_eq_true,if_false];rw[deq]
  |lst es =>
   rw[DIs]at he;obtain⟨b',ys,e',k1,k2⟩:=he;cases e';obtain⟨i2,r2,t2,_⟩:=I.list k1;refine RcAt.tuple_list (show s.heap.IsTuple a _ from t1) t2.isList (by lia) _ _ _ _ ⟨.bl _,H,I,?_,q⟩;show Value.bool _=Value.bool _;simp only[Bool.false_eq_true,if_false];rw[deq]<;>(intros;simp_all)
 |lst ds =>
  rw[dep]at hn;rw[DIs]at hd;obtain⟨a',xs,e',h1,h2⟩:=hd;cases e';obtain⟨i1,r1,t1,_⟩:=I.list h1;cases e with
  | «at» p=>rw[DIs]at he;obtain⟨rfl,hf⟩:=he;cases hf
  |tup es =>
   rw[DIs]at he;obtain⟨b',ys,e',k1,k2⟩:=he;cases e';obtain⟨i2,r2,t2,_⟩:=I.tuple k1;refine RcAt.list_tuple t1.isList (show s.heap.IsTuple b _ from t2) (by lia) _ _ _ _ ⟨.bl _,H,I,?_,q⟩;show Value.bool _=Value.bool _;simp only[Bool.false_eq_true,if_false];rw[deq]<;>(intros;simp_all)
  |lst es =>
   rw[DIs]at he;obtain⟨b',ys,e',k1,k2⟩:=he;cases e';obtain⟨i2,r2,t2,_⟩:=I.list k1;have l1:=r1.length;have l2:=r2.length;have m1:=h2.len;have m2:=k2.len;by_cases hz:ds.len=es.len
   .refine RcAt.lists t1.isList t2.isList (by simp;lia) (by lia) (Gj I h2 k2 r1 r2 (by lia) (by lia)) _ _ _ _ ⟨.bl _,H,I,?_,q⟩;show Value.bool _=Value.bool _;simp only[Bool.false_eq_true,if_false];rw[deq,<-BD,List.size_toArray,<-l1,<-m1,hz,Nat.min_self,beq_self_eq_true,Bool.and_true]
   .refine RcAt.lists_lengths t1.isList t2.isList (by simp;lia) (by lia) _ _ _ _ ⟨.bl _,H,I,?_,q⟩;show Value.bool _=Value.bool _;have e0:(ds.len==es.len)=false:=by simpa using hz
    simp only[Bool.false_eq_true,if_false];rw[deq,<-BD,e0,Bool.and_false]
theorem Py{k:Nat}(hr:Room k X.A):OpR X (compareOp .NotEq) (Sz X.K true):=by
 intro pins s σ H x y v u Q I rx ry h;obtain⟨d,e,hd,he,⟨a,rfl⟩,⟨b,rfl⟩,hn,q⟩:=h;cases rx;cases ry;have hu:=hr.units;cases d with
 | «at» p=>rw[DIs]at hd;obtain⟨rfl,hf⟩:=hd;cases hf
 |tup ds =>
  rw[dep]at hn;rw[DIs]at hd;obtain⟨a',xs,e',h1,h2⟩:=hd;cases e';obtain⟨i1,r1,t1,_⟩:=I.tuple h1;cases e with
  | «at» p=>rw[DIs]at he;obtain⟨rfl,hf⟩:=he;cases hf
  |tup es =>
   rw[DIs]at he;obtain⟨b',ys,e',k1,k2⟩:=he;cases e';obtain⟨i2,r2,t2,_⟩:=I.tuple k1;refine RcNeAt.tuples (show s.heap.IsTuple a i1.toArray from t1) (show s.heap.IsTuple b i2.toArray from t2) (by lia) (Gj I h2 k2 r1 r2 (by lia) (by lia)) _ _ _ _ ⟨.bl _,H,I,?_,q⟩;show Value.bool _=Value.bool _;rw[List.size_toArray,List.size_toArray,<-r1.length,<-r2.length,<-h2.len,<-k2.len,BD];simp only[if_true];rw[deq]
  |lst es =>
   rw[DIs]at he;obtain⟨b',ys,e',k1,k2⟩:=he;cases e';obtain⟨i2,r2,t2,_⟩:=I.list k1;refine RcNeAt.tuple_list (show s.heap.IsTuple a _ from t1) t2.isList (by lia) _ _ _ _ ⟨.bl _,H,I,?_,q⟩;show Value.bool _=Value.bool _;simp only[if_true];rw[deq]<;>first|rfl|(intros;simp_all)
 |lst ds =>
  rw[dep]at hn;rw[DIs]at hd;obtain⟨a',xs,e',h1,h2⟩:=hd;cases e';obtain⟨i1,r1,t1,_⟩:=I.list h1;cases e with
  | «at» p=>rw[DIs]at he;obtain⟨rfl,hf⟩:=he;cases hf
  |tup es =>
   rw[DIs]at he;obtain⟨b',ys,e',k1,k2⟩:=he;cases e';obtain⟨i2,r2,t2,_⟩:=I.tuple k1;refine RcNeAt.list_tuple t1.isList (show s.heap.IsTuple b _ from t2) (by lia) _ _ _ _ ⟨.bl _,H,I,?_,q⟩;show Value.bool _=Value.bool _;simp only[if_true];rw[deq]<;>first|rfl|(intros;simp_all)
  |lst es =>
   rw[DIs]at he;obtain⟨b',ys,e',k1,k2⟩:=he;cases e';obtain⟨i2,r2,t2,_⟩:=I.list k1;have l1:=r1.length;have l2:=r2.length;have m1:=h2.len;have m2:=k2.len;by_cases hz:ds.len=es.len
   .refine RcNeAt.lists t1.isList t2.isList (by simp;lia) (by lia) (Gj I h2 k2 r1 r2 (by lia) (by lia)) _ _ _ _ ⟨.bl _,H,I,?_,q⟩;show Value.bool _=Value.bool _;simp only[if_true];rw[deq,<-BD,List.size_toArray,<-l1,<-m1,hz,Nat.min_self,beq_self_eq_true,Bool.and_true]
   .refine RcNeAt.lists_lengths t1.isList t2.isList (by simp;lia) (by lia) _ _ _ _ ⟨.bl _,H,I,?_,q⟩;show Value.bool _=Value.bool _;have e0:(ds.len==es.len)=false:=by simpa using hz
    simp only[if_true];rw[deq,<-BD,e0,Bool.and_false];rfl
end
section
variable{X:Cx}{e st:Expr}{te ts:TE}{pos p2:Pos}
def Ut(K:Frag)(te ts:TE):TE:=λ σ H Q=>te σ H λ x H1=>ts σ H1 λ y H2=>∃a xs,x=.ref a/\y=.int (-1)/\SqL K H2 a xs/\∀p,H2 p=none->Q (.ref p) (upd H2 p (.lst xs.reverse))
theorem Pt(he:PE X e te)(hs:PE X st ts):PE X (.Subscript e (.Slice none none (some st) p2) pos) (Ut X.K te ts):=by
 intro pins s σ H Q I h;refine Subscript_ (thn (he pins s σ H _ I h) λ v s1 hz_=>?_);obtain⟨x,H1,I1,r1,q1⟩:=hz_;refine wpAny_Slice ?_;rw[evalPart_none];refine wpAny_pure ?_;refine wpAny_pure ?_;rw[evalPart_some];refine thn (hs pins s1 σ H1 _ I1 q1) λ u s2 hz_=>?_;obtain⟨y,H2,I2,r2,q2⟩:=hz_;obtain⟨a,xs,rfl,rfl,hx,q⟩:=q2;obtain⟨t,rfl⟩:=r2;cases r1;have I4:Inv X pins σ H2 { s2 with heap:=s2.heap.push { cls:=.type "slice",data:=.fields #[.none,.none,.int (-1) t] } }:=I2.kept (t':=s2.toks) λ b ob q=>Heap.get?_push_of_some _ q;obtain⟨its,r,ht,hz⟩:=I4.list hx;have hlen:=r.length;refine tail_any (ops:=[.ref a,.ref s2.heap.objs.size]) (id:="list.__getitem__") ht.isList.typeIs slot_list_getitem.lookup ?_ (by with_unfolding_all rfl);refine wpAny_getItem_list_slice ht.isList (Heap.IsSliceOf.new ..) .none .none (.int (-1) t) (by simp) ?_ (by rw[List.size_toArray]<;>lia);rw[krv_pick];show EP X pins σ Q (.ref _) _;refine⟨.ref _,_,I4.laid (t':=s2.toks) (o:=.lst xs.reverse) (λ b ob q=>Heap.get?_push_of_some _ q) (Nat.le_refl _) ?_,rfl,q _ (I4.hok.fresh (Nat.le_refl _))⟩;exact⟨by rw[List.length_reverse];exact hz,_,0,r.reverse,Heap.get?_push_size _ rfl⟩
end
structure Kv(P:Program)(w:World)(K:Frag)(mg:MGz)(base:Heap)(k:Nat)(x:Str)(C:Addr)(ps:LSz)(sp:Sp):Prop where
 ex:∃(f:Addr)(fd:FuncData),Mk K C f/\A8 P w K mg base CX0 k f fd ps sp/\mg x=some (.ref C)/\Binds K fd ps []
section
variable{X:Cx}{k j:Nat}{x m:Str}{C:Addr}{ps:LSz}{sp:Sp}{p pos apos:Pos}{e o:Expr}{es:List Expr}{t:TA}{ta:TE}
theorem IK(D:Kv X.prog X.w X.K X.mg X.base k x C ps sp)(hr:Room j X.A)(ha:PA X (e::es) t)(hj:k+1<=j:=by decide)(hg:Gl X x:=by rfl)(hdb:(x==("__debug__":Str))=false:=by decide)
  (he:starEach (e::es) X.env=(false,eval e X.env)::starEach es X.env:=by rfl) (hpl:(backTo pos (starEach es X.env)).any (·.1)=false:=by rfl):PE X (.Call (.Name x p) (e::es) [] pos) (RH C sp [] E0 t):=by
 obtain⟨f,fd,M,F,hm,hb⟩:=D.ex;exact QT M F (hr.mono hj) hg hm hb .nil KI ha hdb he hpl
end
section
variable{X:Cx}{K:Frag}{pos:Pos}
theorem Gb{es:List Expr}{k:Nat}{t:TGs}{n:Nat}(hc:X.calm=true)(h:PGs X es t)(hK:X.K=K:=by rfl)
  (hn:(assignEach es X.env).length=n:=by rfl) (hst:(assignEach es X.env).findIdx? (·.1)=none:=by rfl):PG X (.Tuple es k pos) (TR K n t):=by
 subst hK;exact DE hc h hn hst
end
end L2
namespace GB
open PySem.W
open PySem L2
structure Rc where
 t:Int
 l:Int
 b:Int
 r:Int
 deriving DecidableEq
def Rc.ls(p:Rc):List Int:=[p.t,p.l,p.b,p.r]
def Rc.has(p:Rc)(r c:Int):Prop:=p.t<=r/\r<p.b/\p.l<=c/\c<p.r
def Rc.In(w h:Int)(p:Rc):Prop:=0<=p.t/\p.t<p.b/\p.b<=h/\0<=p.l/\p.l<p.r/\p.r<=w
def Apart(p q:Rc):Prop:=∀r c,p.has r c->q.has r c->False
def key:List Int->Int
 |[a,b,c,d]=>((a*13+b)*13+c)*13+d
 |_=>0
theorem JX(p:Rc):key p.ls=((p.t*13+p.l)*13+p.b)*13+p.r:=rfl
theorem key_lt{p q:Rc}{w h w' h':Int}(hp:p.In w h)(hq:q.In w' h')(b1:w<=12)(b2:h<=12)(b3:w'<=12)(b4:h'<=12):HT.lexLt p.ls q.ls=decide (key p.ls<key q.ls):=by
 obtain⟨a1,a2,a3,a4,a5,a6⟩:=hp;obtain⟨c1,c2,c3,c4,c5,c6⟩:=hq;rw[JX,JX];show(if p.t=q.t then (if p.l=q.l then (if p.b=q.b then (if p.r=q.r then false else decide (p.r<q.r)) else decide (p.b<q.b)) else decide (p.l<q.l)) else decide (p.t<q.t))=_
 repeat' split
 all_goals (first|(apply Eq.symm;rw[decide_eq_false_iff_not];lia)|(rw[decide_eq_decide];lia))
theorem key_inj{p q:Rc}{w h w' h':Int}(hp:p.In w h)(hq:q.In w' h')(b1:w<=12)(b2:h<=12)(b3:w'<=12)(b4:h'<=12)(e:key p.ls=key q.ls):p=q:=by
 obtain⟨a1,a2,a3,a4,a5,a6⟩:=hp;obtain⟨c1,c2,c3,c4,c5,c6⟩:=hq;rw[JX,JX]at e;obtain⟨pt,pl,pb,pr⟩:=p;obtain⟨qt,ql,qb,qr⟩:=q;simp only at *;have e1:pt=qt:=by lia
 subst e1;have e2:pl=ql:=by lia
 subst e2;have e3:pb=qb:=by lia
 subst e3;have e4:pr=qr:=by lia
 subst e4;rfl
def Srt(ps:List Rc):Prop:=(ps.map λ p=>key p.ls).Pairwise (·<=·)
theorem sorted_same{ps qs:List Rc}{w h:Int}(hp:∀p∈ps,p.In w h)(b1:w<=12)(b2:h<=12)(e:ps.Perm qs)(s1:Srt ps)(s2:Srt qs):ps=qs:=by
 have hq:∀p∈qs,p.In w h:=λ p x=>hp p (e.mem_iff.mpr x);have hm:=ksm_same (List.Perm.map (λ p:Rc=>key p.ls) e) s1 s2;have len:=e.length_eq;apply List.ext_getElem len;intro i h1 h2;have:=congrArg (λ l=>l[i]?) hm;simp only[List.getElem?_map,List.getElem?_eq_getElem h1,List.getElem?_eq_getElem h2,Option.map_some,Option.some.injEq]at this;exact key_inj (hp _ (List.getElem_mem h1)) (hq _ (List.getElem_mem h2)) b1 b2 b1 b2 this
end GB
namespace L2
open PySem.W
open PySem PySem.Spec PyProof.Rows
section
variable{prog:Program}{w:World}{A:Around}{E:VPz}{h:Heap}{g:Array GenState}{d:Drawn}{t:Nat}{os:OsState}
 {nm qn:Str} {C N:Addr} {bs bm bmB:LWz} {hdct:Bool} {sn:LSz} {sub:LWz} {ab:Bool} {col:Option Bool} {dd:Option Addr} {k0 k1 k2 k3 k5:Option Value} {B newId initId:String}
def BW(h:Heap)(C:Addr)(rest:LWz):Heap:=(h.push { cls:=.type "tuple",data:=.seq rest.toArray }).push { cls:=.ref C,data:=.fields #[.ref h.objs.size,.none,.none,.none,.bool false,.none] }
theorem BR{C:Addr}{rest:LWz}{b:Addr}{o:Obj}(e:h.get? b=some o):(BW h C rest).get? b=some o:=Heap.get?_push_of_some _ (Heap.get?_push_of_some _ e)
theorem II(C:Addr)(rest:LWz):(BW h C rest).get? (h.objs.size+1)=some { cls:=.ref C,data:=.fields #[.ref h.objs.size,.none,.none,.none,.bool false,.none] }:=by
 unfold BW;heap_get
theorem Gq(F:ExcBaseFacts B newId initId bmB)(T:OwnTail h bmB bm){mN:MGz}{rest:LWz}{fI:Addr}{oI:Obj}{Q:Fin->Shared->Prop}
  (hC:h.get? C=some (excClassObj nm qn C N bs bm hdct sn sub ab col dd k0 k1 k2 k3 k5 newId)) (hn:h.Ns N mN) (hi:mN "__init__"=some (.ref fI)) (hfI:h.get? fI=some oI) (hfc:oI.cls=.type "function") (hrest:rest.length<=sizeLine)
  (hq:wpAny (model prog w) A (call (.ref fI) (.ref (h.objs.size+1)::rest)) (λ r s'=>r=.none/\Q (.done (.ret (.ref (h.objs.size+1)))) s') E ⟨BW h C rest,g,d,t,os⟩) :
  wpAny (model prog w) A (Builtin.«type.__call__» ⟨.ref C::rest,[]⟩) Q E ⟨h,g,d,t,os⟩:=by
 repeat (first|with_reducible refine wpAny_loadPart_at hC ?_|with_reducible refine wpAny_madeBy_exc hC ?_|wp_step)
 refine codeAny_call_builtin_code (Code.quiet_builtin _ F.quiet) (wpAny_check_new_subT F T hC (codeAny_exc_new_subT F T hC ?_ hrest));show wpAny _ _ _ _ _ ⟨BW h C rest,g,d,t,os⟩;have c1:(BW h C rest).get? C=_:=BR hC;have n1:(BW h C rest).Ns N mN:=let ⟨o,es,ep,e,r⟩:=hn;⟨o,es,ep,BR e,r⟩;have e1:=II (h:=h) C rest;have T1:OwnTail (BW h C rest) bmB bm:=T.keeps λ_ _ e=>BR e;have cc:(Value.ref C::bm).contains (.ref C)=true:=by simp
 unfold isInstance
 repeat (first|with_reducible refine wpAny_loadPart_at e1 ?_|(with_reducible refine wpAny_isSubtype_exc c1 ?_;rw[cc])|wp_step)
 show wpAny _ _ (typeLookup (.ref C) _) _ _ _;refine wpAny_typeLookup_tail c1 n1 T1 F.mroIs F.init.lookup ?_;rw[hi];refine wpAny_holding (wpAny_bind ?_);unfold bindSpecial;refine wpAny_bind (wpAny_typeOf (T:="function") ⟨_,BR hfI,hfc⟩ ?_);rw[if_pos (by decide)];refine wpAny_pure (wpAny_bind (wpAny_mono hq (λ r s' hr=>?_) λ_ _ x=>x));obtain⟨rfl,hQ⟩:=hr
 wp_walk
 exact hQ
theorem OE(F:ExcBaseFacts B newId initId bmB)(T:OwnTail h bmB bm){mN:MGz}{rest:LWz}{fI:Addr}{oI:Obj}{Q:VPz}
  (hC:h.get? C=some (excClassObj nm qn C N bs bm hdct sn sub ab col dd k0 k1 k2 k3 k5 newId)) (hn:h.Ns N mN) (hi:mN "__init__"=some (.ref fI)) (hfI:h.get? fI=some oI) (hfc:oI.cls=.type "function") (hrest:rest.length<=sizeLine)
  (hq:wpAny (model prog w) (A.under (.builtin "type.__call__" ⟨.ref C::rest,[]⟩)) (call (.ref fI) (.ref (h.objs.size+1)::rest)) (λ r s'=>r=.none/\Q (.ref (h.objs.size+1)) s') E ⟨BW h C rest,g,d,t,os⟩) :
  wpAny (model prog w) A (call (.ref C) rest) Q E ⟨h,g,d,t,os⟩:=by
 have l1:=tc_lookup;have l2:=tc_bind (.ref C);have ty:(⟨h,g,d,t,os⟩:Shared).TypeIs (.ref C) "type":=⟨_,hC,rfl⟩;refine wpAny_call (codeAny_of_tree ?_);show wpAny _ _ (callAny (.ref C) _) _ _ _
 repeat (any_goals (first|assumption|with_reducible refine wpAny_loadPart_at hC ?_|wp_step))
 exact⟨rfl,codeAny_call_builtin_at (Code.quiet_builtin _ (by decide +kernel)) entry_typeCall (wpAny_check_type_call_sub hC (Gq F T hC hn hi hfI hfc hrest hq))⟩
end
open PySem.Builtin PySem.Builtin.ObjectAttr
def vErr:LWz:=[.type "ValueError",.type "Exception",.type "BaseException",.type "object"]
def F1:LWz->Bool
 |[]=>false
 |x::r=>(match x with|.ref _=>F1 r|_=>false)||(x::r==vErr)
theorem G7(self:Value):∀{l:LWz},F1 l=true->refuseLoop self "__setattr__" l=pure ()
 |[],e=>by cases e
 |x::r,e=>by
  unfold F1 at e;rw[Bool.or_eq_true]at e;rcases e with e|e
  .cases x<;>first|(rw[refuseLoop_ref];exact G7 self e)|cases e
  .rw[show x::r=vErr from beq_iff_eq.mp e];exact PySem.F.store_ValueError.passes self
theorem Kc{T:String}(hT:vErr.contains (.type T)=true):∀{l:LWz},F1 l=true->l.contains (.type T)=true
 |[],e=>by cases e
 |x::r,e=>by
  unfold F1 at e;rw[Bool.or_eq_true]at e;rcases e with e|e
  .cases x<;>first|(rw[List.contains_cons,Kc hT e,Bool.or_true])|cases e
  .rw[show x::r=vErr from beq_iff_eq.mp e];exact hT
def excIn(K:Frag)(C:Addr):Bool:=(clsIn K C).any λ cd=>F1 cd.mro
section
variable{prog:Program}{w:World}{A:Around}{E:VPz}{R:Result->Shared->Prop}{s:Shared}{K:Frag}{x C:Addr}{ox:Obj}{od:Option Obj}{name:Str}{tk:Tok}{v:Value}
theorem No(X:K.In s.heap)(I:InstAt s.heap x ox C od)(hp:excIn K C=true)(ht:findIn K (.ref C) name=some none)
  (h:wpAny (model prog w) A.in1 (storeInOwnDict (.ref x) (.ref C) (.str name tk) name v false)
   (λ fin s'=>match fin with|.done f=>R (.ok f) s'|.again c'=>c'.quiet=true/\codeAny (model prog w) A c' R s') (λ e s'=>R (.error e) s') s) :
  codeAny (model prog w) A (.call (.builtin "object.__setattr__") ⟨[.ref x,.str name tk,v],[]⟩) R s:=by
 have SF:=PySem.F.store_object;obtain⟨cd,hc,ho⟩:=any_some hp;have ne:cd.mro.isEmpty=false:=by cases q:cd.mro with|nil=>rw[q]at ho;cases ho|cons _ _=>rfl
 have tO:Looks (model prog w) s.heap (isInstance (.ref x) (.type "object")) true:=I.type.andThen (looks_mroIn X (by
  unfold mroIn;rw[hc,Option.bind_some,ne];show some (cd.mro.contains (.type "object"))=some true;rw[Kc (by decide +kernel) ho]))
 have tM:Looks (model prog w) s.heap (mroOf (.ref C)) cd.mro:=(looks_clsIn X hc).andThen .now;refine codeAny_call_builtin SF.slot.plain SF.entry (@check_slot (model prog w) _ _ s "object.__setattr__" "object" "__setattr__" (.ref x) [.str name tk,v] [] _ SF.kind SF.split tO (SF.args (.ref x) (.str name tk) v) ?_);rw[osa_eq,refuse_eq];refine wpAny_bind (wpAny_bind (I.type.here (wpAny_bind (tM.here ?_))));rw[G7 _ ho];exact wpAny_pure (wpAny_bind (I.type.here (wpAny_bind ((looks_findIn X ht).here (wpAny_bind (wpAny_pure h))))))
theorem Pe{vs:Array Value}{sl:AOz}{Q:Unit->Shared->Prop}(X:K.In s.heap)(hx:s.heap.get? x=some ⟨.ref C,none,.fields vs,sl⟩)(hs:findIn K (.ref C) "__setattr__"=some (some (.builtin "object.__setattr__")))
  (hp:excIn K C=true) (hh:hasDictIn K C=true) (ht:findIn K (.ref C) name=some none)
  (h:∀h',h'.get? x=some ⟨.ref C,some s.heap.objs.size,.fields vs,sl⟩->h'.Ns1 s.heap.objs.size (λ y=>if y=name then some v else none)->(∀b o,b≠x->s.heap.get? b=some o->h'.get? b=some o)->Q () { s with heap:=h',toks:=s.toks+2 }) :
  wpAny (model prog w) A (setAttr (.ref x) name v) Q E s:=by
 have I:InstAt s.heap x ⟨.ref C,none,.fields vs,sl⟩ C none:=⟨hx,rfl,rfl,trivial⟩;obtain⟨cd,hc,hd'⟩:=any_some hh;have nx:x≠s.heap.objs.size:=Nat.ne_of_lt (Heap.lt_size hx);refine set_plain X I hs (No (s:={ s with toks:=s.toks+1 }) X I hp ht ?_);refine wpAny_bind (wpAny_pure (wpAny_bind (wpAny_bind (wpAny_loadPart hx (wpAny_bind (Looks.here (s:={ s with toks:=s.toks+1 }) (looks_clsIn X hc) ?_))))));rw[hd'];refine wpAny_bind (wpAny_alloc (wpAny_bind (wpAny_update (Heap.get?_push_of_some _ hx) (wpAny_pure ?_))));generalize hH:(s.heap.push { cls:=.type "dict",data:=.dict #[] }).update x (λ o=>{ o with dict:=some s.heap.objs.size })=H1;have hx1:H1.get? x=some ⟨.ref C,some s.heap.objs.size,.fields vs,sl⟩:=by
  rw[<-hH];exact Heap.get?_update_self _ (Heap.get?_push_of_some _ hx) rfl
 have hd1:H1.get? s.heap.objs.size=some { cls:=.type "dict",data:=.dict #[] }:=by
  rw[<-hH,Heap.get?_update_ne _ _ _ _ (Ne.symm nx)];exact Heap.get?_push_size _ rfl
 have hk1:∀b o,b≠x->s.heap.get? b=some o->H1.get? b=some o:=λ b o hb e=>by
  rw[<-hH,Heap.get?_update_ne _ _ _ _ hb];exact Heap.get?_push_of_some _ e
 have hn1:H1.Ns1 s.heap.objs.size (λ_=>none):=Heap.Ns1.of_empty ⟨_,#[],_,hd1,rfl,λ e he=>absurd he (by simp),λ_=>rfl⟩;refine wpAny_bind (wpAny_pure (wpAny_bind (wpAny_nsSet1 (s:={ s with heap:=H1,toks:=s.toks+1 }) hn1 λ h' hn2 hs2=>?_)));obtain⟨oD,esD,epD,hoD,hdD,hcD⟩:=hn2.count (Within.cons name v Within.nil);refine wpAny_bind (wpAny_lookBehind hoD (by rw[hdD];exact pastItsLine_dict (Nat.le_trans hcD (by rw[List.length_cons,List.length_nil,sizeLine_eq];lia))) ?_);exact wpAny_pure (h _ ((hs2.2 _ nx).trans hx1) hn2 λ b o hb e=>(hs2.2 _ (Nat.ne_of_lt (Heap.lt_size e))).trans (hk1 b o hb e))
theorem QD{vs:Array Value}{sl:AOz}{dx:Addr}{mA:MGz}{ns:LSz}{Q:Unit->Shared->Prop}(X:K.In s.heap)(hx:s.heap.get? x=some ⟨.ref C,some dx,.fields vs,sl⟩)(hn:s.heap.Ns1 dx mA)(hne:dx≠x)
  (hs:findIn K (.ref C) "__setattr__"=some (some (.builtin "object.__setattr__"))) (hp:excIn K C=true) (hh:hasDictIn K C=true) (ht:findIn K (.ref C) name=some none) (hw:PySem.Within mA ns) (hsz:ns.length<=sizeLine)
  (h:∀h',h'.get? x=some ⟨.ref C,some dx,.fields vs,sl⟩->h'.Ns1 dx (λ y=>if y=name then some v else mA y)->Heap.SameBut dx s.heap h'->Q () { s with heap:=h',toks:=s.toks+2 }) :
  wpAny (model prog w) A (setAttr (.ref x) name v) Q E s:=by
 obtain⟨od,ho⟩:∃o,s.heap.get? dx=some o:=let ⟨o,_,_,e,_⟩:=hn;⟨o,e⟩;have I:InstAt s.heap x ⟨.ref C,some dx,.fields vs,sl⟩ C (some od):=⟨hx,rfl,rfl,ho⟩;obtain⟨cd,hc,hd'⟩:=any_some hh;refine set_plain X I hs (No (s:={ s with toks:=s.toks+1 }) X I hp ht ?_);refine wpAny_bind (wpAny_pure (wpAny_bind (wpAny_bind (wpAny_loadPart hx (wpAny_bind (Looks.here (s:={ s with toks:=s.toks+1 }) (looks_clsIn X hc) ?_))))));rw[hd'];refine wpAny_pure (a:=some dx) (wpAny_bind (wpAny_pure (wpAny_bind (wpAny_nsSet1 (s:={ s with toks:=s.toks+1 }) hn λ h' hn2 hs2=>?_))));obtain⟨oD,esD,epD,hoD,hdD,hcD⟩:=hn2.count (Within.cons name v hw);refine wpAny_bind (wpAny_lookBehind hoD (by rw[hdD];exact pastItsLine_dict (Nat.le_trans hcD (by rw[List.length_cons];lia))) ?_);exact wpAny_pure (h _ ((hs2.2 _ (Ne.symm hne)).trans hx) hn2 hs2)
end
section
variable{prog:Program}{w:World}{A:Around}{E:VPz}{R:Result->Shared->Prop}{s:Shared}{K:Frag}{x C:Addr}{ox:Obj}{od:Option Obj}{name:Str}{tk:Tok}{v:Value}{expr:Bool}
theorem Rs(X:K.In s.heap)(I:InstAt s.heap x ox C od)(hp:L2.excIn K C=true)
  (h:wpAny (model prog w) A.in1 (Builtin.«object.__getattribute__» ⟨[.ref x,.str name tk],[]⟩)
   (λ fin s'=>match fin with|.done f=>R (.ok f) s'|.again c'=>c'.quiet=true/\codeAny (model prog w) A c' R s') (λ e s'=>R (.error e) s') s) :
  codeAny (model prog w) A (.call (.builtin "BaseException.__getattribute__") ⟨[.ref x,.str name tk],[]⟩) R s:=by
 obtain⟨cd,hc,ho⟩:=any_some hp;have ne:cd.mro.isEmpty=false:=by cases q:cd.mro with|nil=>rw[q]at ho;cases ho|cons _ _=>rfl
 have tB:Looks (model prog w) s.heap (isInstance (.ref x) (.type "BaseException")) true:=I.type.andThen (looks_mroIn X (by
  unfold mroIn;rw[hc,Option.bind_some,ne];show some (cd.mro.contains (.type "BaseException"))=some true;rw[Kc (by decide +kernel) ho]))
 exact codeAny_call_builtin PySem.F.attrBase_ValueError.ga.plain PySem.F.entry_bexc_ga (@check_slot (model prog w) _ _ s "BaseException.__getattribute__" "BaseException" "__getattribute__" (.ref x) [.str name tk] [] _ (by decide +kernel) (by decide +kernel) tB (PySem.F.args_bexc_ga (.ref x) (.str name tk)) h)
theorem RV(X:K.In s.heap)(I:InstAt s.heap x ox C od)(hp:L2.excIn K C=true)(hga:findIn K (.ref C) "__getattribute__"=some (some (.builtin "BaseException.__getattribute__")))(hk:findIn K (.ref C) "__getattr__"=some none){fill:Bool}{Q:VPz}
  (h:wpAny (model prog w) A.in1 (Builtin.«object.__getattribute__» ⟨[.ref x,.str name tk],[]⟩)
   (λ fin s'=>match fin with|.done (.ret v)=>wpAny (model prog w) A (handedOut v) Q E s'|_=>False) (λ_ _=>False) s) :
  wpAny (model prog w) A (getAttrBy (.ref x) (.str name tk) fill expr) Q E s:=by
 have L0:=I.type (M:=model prog w);have L1:=looks_findIn (M:=model prog w) X hga;have L2:=looks_findIn (M:=model prog w) X hk;unfold getAttrBy;refine wpAny_holding (wpAny_bind (L0.here (wpAny_bind (L1.here ?_))));show wpAny _ _ (getAttrByItsOwn (.ref x) (.str name tk) (.ref C) (.builtin "BaseException.__getattribute__") fill expr) _ _ _;unfold getAttrByItsOwn hookBefore callGetattribute boundAndCalled;refine wpAny_bind (L2.here ?_);refine wpAny_bind (wpAny_attempt (wpAny_holding ?_));rw[show(expr&&onTheHeap (Value.builtin "BaseException.__getattribute__"))=false from by cases expr<;>rfl,if_neg Bool.false_ne_true];refine wpAny_bind (wpAny_of_eq (PySem.F.attrBase_ValueError.ga.bind _) ?_);refine wpAny_call (Rs X I hp (wpAny_mono h (λ fin s' z=>?_) λ_ _ z=>z.elim));rcases fin with (_|_|_|_)|_<;>first|exact z.elim|exact z
theorem Rp{Q:VPz}(X:K.In s.heap)(I:InstAt s.heap x ox C od)(hp:L2.excIn K C=true)(hga:findIn K (.ref C) "__getattribute__"=some (some (.builtin "BaseException.__getattribute__")))(hk:findIn K (.ref C) "__getattr__"=some none)
  (hf:findObj K C od name=some (.value v)) (hh:handedIn v=true) (h:Q v { s with toks:=s.toks+1 }):wpAny (model prog w) A (getAttr (.ref x) name expr) Q E s:=by
 unfold getAttr;refine wpAny_bind (wpAny_mkText (RV (s:={ s with toks:=s.toks+1 }) X I hp hga hk ?_));have L0:=I.type (M:=model prog w);have L1:=looks_find (M:=model prog w) X I hf;refine wpAny_bind (wpAny_of_eq (show slotArgs "__getattribute__" 1 ⟨[.ref x,.str name s.toks],[]⟩=pure (.ref x,[.str name s.toks]) from rfl) ?_);refine wpAny_bind (wpAny_pure (wpAny_bind (Looks.here (s:={ s with toks:=s.toks+1 }) L0 (wpAny_bind (Looks.here (s:={ s with toks:=s.toks+1 }) L1 ?_)))));refine wpAny_pure ?_;show wpAny _ _ (handedOut v) _ _ _;rw[handedOut_of hh];exact wpAny_pure h
theorem OC{Q:Option Value->Shared->Prop}(X:K.In s.heap)(I:InstAt s.heap x ox C od)(hp:L2.excIn K C=true)(hga:findIn K (.ref C) "__getattribute__"=some (some (.builtin "BaseException.__getattribute__")))(hk:findIn K (.ref C) "__getattr__"=some none)
  (hf:findObj K C od "__class__"=some (.bind (.builtin "getset_descriptor.__get__") (.builtin "object.__class__"))) (hm:mroIn K C (.type "object")=some true) (h:Q (some (.ref C)) { s with toks:=s.toks+1 }):wpAny (model prog w) A (getAttr? (.ref x) "__class__") Q E s:=by
 unfold getAttr? getAttrBy?;refine wpAny_bind (wpAny_mkText (wpAny_bind (wpAny_attempt (RV (s:={ s with toks:=s.toks+1 }) X I hp hga hk ?_))));have L0:=I.type (M:=model prog w);have L1:=looks_find (M:=model prog w) X I hf;refine wpAny_bind (wpAny_of_eq (show slotArgs "__getattribute__" 1 ⟨[.ref x,.str "__class__" s.toks],[]⟩=pure (.ref x,[.str "__class__" s.toks]) from rfl) ?_);refine wpAny_bind (wpAny_pure (wpAny_bind (Looks.here (s:={ s with toks:=s.toks+1 }) L0 (wpAny_bind (Looks.here (s:={ s with toks:=s.toks+1 }) L1 ?_)))));show wpAny _ _ (holding [.builtin "object.__class__"] (call (.builtin "getset_descriptor.__get__") [.builtin "object.__class__",.ref x,.ref C]) >>= ret) _ _ _;refine wpAny_bind (wpAny_holding (wpAny_call (class_get (s:={ s with toks:=s.toks+1 }) (ox:=ox) (od:=od) X I hm ?_)));exact wpAny_pure (handed_on rfl (wpAny_pure h))
end
def Dv(C x:Addr):HO:=.ext λ h=>∃vs sl,h.get? x=some ⟨.ref C,none,.fields vs,sl⟩/\vs[1]?=some Value.none
def DQ(C dx x:Addr):HO:=.ext λ h=>∃vs sl,h.get? x=some ⟨.ref C,some dx,.fields vs,sl⟩/\vs[1]?=some Value.none
def EF(C:Addr)(d:Option Addr)(x T:Addr):HO:=.ext λ h=>∃vs sl,h.get? x=some ⟨.ref C,d,.fields vs,sl⟩/\vs[1]?=some (.ref T)
def CM(dx:Addr)(fs:LFz):HO:=.ext λ h=>∃mA,h.Ns1 dx mA/\(∀f,RelO (fs.lookup f) (mA f))/\PySem.Within mA (fs.map (·.1))
section
variable{P:Program}{w:World}{H:Hp}{h:Heap}{x C dx:Addr}{fs:LFz}
theorem N4{vs:Array Value}{sl:AOz}(e:h.get? x=some ⟨.ref C,none,.fields vs,sl⟩)(f:vs[1]?=some Value.none):ObjOk P w H h x (Dv C x) :=
 ⟨⟨vs,sl,e,f⟩,⟨_,e⟩,λ_ _ ⟨vs,sl,e,f⟩ k=>⟨vs,sl,k _ e,f⟩⟩
theorem Rx{vs:Array Value}{sl:AOz}(e:h.get? x=some ⟨.ref C,some dx,.fields vs,sl⟩)(f:vs[1]?=some Value.none):ObjOk P w H h x (DQ C dx x) :=
 ⟨⟨vs,sl,e,f⟩,⟨_,e⟩,λ_ _ ⟨vs,sl,e,f⟩ k=>⟨vs,sl,k _ e,f⟩⟩
theorem Rw{d:Option Addr}{T:Addr}{vs:Array Value}{sl:AOz}(e:h.get? x=some ⟨.ref C,d,.fields vs,sl⟩)(f:vs[1]?=some (.ref T)):ObjOk P w H h x (EF C d x T) :=
 ⟨⟨vs,sl,e,f⟩,⟨_,e⟩,λ_ _ ⟨vs,sl,e,f⟩ k=>⟨vs,sl,k _ e,f⟩⟩
theorem N5{mA:MGz}(n:h.Ns1 dx mA)(r:∀f,RelO (fs.lookup f) (mA f))(wi:PySem.Within mA (fs.map (·.1))):ObjOk P w H h dx (CM dx fs) :=
 ⟨⟨mA,n,r,wi⟩,let ⟨o,_,_,e,_⟩:=n;⟨o,e⟩,λ_ _ ⟨mA,n,r,wi⟩ k=>⟨mA,n.at k,r,wi⟩⟩
end
structure XCls(K:Frag)(C:Addr):Prop where
 ga:findIn K (.ref C) "__getattribute__"=some (some (.builtin "BaseException.__getattribute__"))
 gh:findIn K (.ref C) "__getattr__"=some none
 hd:hasDictIn K C=true
 sa:findIn K (.ref C) "__setattr__"=some (some (.builtin "object.__setattr__"))
 ex:L2.excIn K C=true
 ca:findIn K (.ref C) "__class__"=some (some (.builtin "object.__class__"))
 gn:specialIn K (.builtin "object.__class__") "__get__"=some (some (.builtin "getset_descriptor.__get__"))
 tk:takesIn K (.builtin "object.__class__")=some true
 mo:mroIn K C (.type "object")=some true
def Iz(K:Frag)(C:Addr):Bool:=(findIn K (.ref C) "__getattribute__"==some (some (.builtin "BaseException.__getattribute__")))&&(findIn K (.ref C) "__getattr__"==some none)&&hasDictIn K C&&(findIn K (.ref C) "__setattr__"==some (some (.builtin "object.__setattr__")))&&L2.excIn K C &&
 (findIn K (.ref C) "__class__"==some (some (.builtin "object.__class__")))&&(specialIn K (.builtin "object.__class__") "__get__"==some (some (.builtin "getset_descriptor.__get__"))) &&
 (takesIn K (.builtin "object.__class__")==some true)&&(mroIn K C (.type "object")==some true)
theorem XCls.of{K:Frag}{C:Addr}(h:Iz K C=true):XCls K C:=by
 unfold Iz at h;simp only[Bool.and_eq_true,beq_iff_eq]at h;obtain⟨⟨⟨⟨⟨⟨⟨⟨a,a'⟩,b⟩,c⟩,d⟩,e⟩,f⟩,g⟩,i⟩:=h;exact⟨a,a',b,c,d,e,f,g,i⟩
section
variable{X:Cx}{pins:PNz}{σ:St}{H:Hp}{s:Shared}{a C dx:Addr}{fs:LFz}{f:Str}{v:V}{A:Around}{E:VPz}
theorem Ho{φ:Heap->Prop}{b c:Addr}(h:H b=some (.ext φ)):H b≠some (.own c):=λ e=>by rw[h]at e;cases e
theorem LW{y:V}{u:Value}{Q:Unit->Shared->Prop}(I:Inv X pins σ H s)(e:H a=some (Dv C a))(c:XCls X.K C)(n:NoAttr X.K C f)(ry:RelV y u)
  (h:∀s' d,H d=none->Inv X pins σ (upd (upd H d (CM d [(f,y)])) a (DQ C d a)) s'->Q () s'):wpAny (model X.prog X.w) A (setAttr (.ref a) f u) Q E s:=by
 obtain⟨⟨vs,sl,hx,hv1⟩,_⟩:=(show ObjOk X.prog X.w H s.heap a (Dv C a) from I.hok a _ e);refine Pe I.kIn hx c.sa c.ex c.hd n λ h' h1 h2 k=>?_;have hn:H s.heap.objs.size=none:=I.hok.fresh (Nat.le_refl _);have nea:s.heap.objs.size≠a:=Ne.symm (Ae e hn);refine h _ s.heap.objs.size hn ?_;have e':∀b o,H b=some o->b≠s.heap.objs.size:=λ b o q=>Ae q hn;have lt:∀b o,s.heap.get? b=some o->b≠s.heap.objs.size:=λ b o q=>Nat.ne_of_lt (Heap.lt_size q);have na:∀b o,H b=some o->(∀φ,o≠.ext φ)->b≠a:=λ b o q z t=>by subst t;rw[e]at q;cases q;exact z _ rfl
 refine I.un (h':=h') (t':=s.toks+2) ⟨λ b o q m _ _=>k b o (λ z=>by rw[z,e]at m;cases m) q,λ b o q m _ _=>⟨o.slots,k b o (λ z=>by rw[z,e]at m;cases m) q⟩,
  λ b o q m _=>by rw[Ah (λ z=>by rw[z,e]at m;cases m),Ah (lt b o q)];exact m,λ b o q _=>?_,λ b xs q=>by rw[Ah (na b _ q (λ φ z=>by cases z)),Ah (e' b _ q)];exact q,
  λ b o u q=>by rw[Ah (na b _ q (λ φ z=>by cases z)),Ah (e' b _ q)];exact q,λ b ps q=>⟨#[],by rw[Ah (na b _ q (λ φ z=>by cases z)),Ah (e' b _ q),q];simp⟩⟩ λ b o q=>?_
 .by_cases hb:b=a
  .subst hb;exact⟨_,h1⟩
  .exact⟨o,k b o hb q⟩
 .by_cases hb:b=a
  .subst hb;rw[upd_same]at q;cases q;exact Rx h1 hv1
  .rw[Ah hb]at q;by_cases hd:b=s.heap.objs.size
   .subst hd;rw[upd_same]at q;cases q;refine N5 h2 (λ g=>?_) λ g hg=>?_
    .show RelO (List.lookup g [(f,y)]) (if g=f then some u else none);by_cases q:g=f
     .have hb:(g==f)=true:=beq_iff_eq.mpr q;rw[if_pos q];simp only[List.lookup,hb];exact ry
     .have hb:(g==f)=false:=beq_eq_false_iff_ne.mpr q;rw[if_neg q];simp only[List.lookup,hb];exact True.intro
    .by_cases q:g=f
     .rw[q];simp
     .exact absurd (if_neg q) hg
   .rw[Ah hd]at q;refine(I.hok b o q).stay (λ cc w' hc z=>k cc w' ?_ z) (λ cc z=>?_) λ cc xs z=>?_
    .rcases hc with rfl|hc
     .exact hb
     .exact λ t=>Ho e (t ▸ hc)
    .rw[Ah (λ t=>Ho e (t ▸ z)),Ah (e' cc _ z)];exact z
    .rw[Ah (na cc _ z (λ φ t=>by cases t)),Ah (e' cc _ z)];exact z
theorem NY{y:V}{u:Value}{Q:Unit->Shared->Prop}(I:Inv X pins σ H s)(e:H a=some (DQ C dx a))(ed:H dx=some (CM dx fs))(c:XCls X.K C)(n:NoAttr X.K C f)(hl:fs.length<1000)(ry:RelV y u)
  (h:∀s',Inv X pins σ (upd H dx (CM dx (Cr f y fs))) s'->Q () s'):wpAny (model X.prog X.w) A (setAttr (.ref a) f u) Q E s:=by
 obtain⟨⟨vs,sl,hx,_⟩,_⟩:=(show ObjOk X.prog X.w H s.heap a (DQ C dx a) from I.hok a _ e);obtain⟨⟨mA,hn,r,wi⟩,_⟩:=(show ObjOk X.prog X.w H s.heap dx (CM dx fs) from I.hok dx _ ed);have hne:dx≠a:=λ z=>by
  subst z;obtain⟨o,es,ep,ho,hd,_⟩:=hn;rw[hx]at ho;cases ho;cases hd
 have hz:(fs.map (·.1)).length<=sizeLine:=by rw[List.length_map,sizeLine_eq];lia
 refine QD I.kIn hx hn hne c.sa c.ex c.hd n wi hz λ h' h1 h2 sb=>h _ ?_;have hd:∃o,h'.get? dx=some o:=let ⟨o,_,_,e',_⟩:=h2;⟨o,e'⟩;refine I.write (x:=dx) (e:=dx) (t':=s.toks+2) (by rw[ed];exact True.intro) (.inl rfl) (λ b q hb z=>(sb.2 b hb).trans z) hd (N5 h2 (λ g=>?_) λ g hg=>?_)
 .show RelO ((Cr f y fs).lookup g) (if g=f then some u else mA g);rw[AT];by_cases q:g=f
  .rw[if_pos q,if_pos q];exact ry
  .rw[if_neg q,if_neg q];exact r g
 .by_cases q:g=f
  .rw[q];exact(CW f y fs).1
  .refine(CW f y fs).2 g (wi g λ z=>hg ?_);show(if g=f then some u else mA g)=none;rw[if_neg q];exact z
def XAt(H:Hp)(C dx a:Addr):Prop:=H a=some (DQ C dx a)\/∃T,H a=some (EF C (some dx) a T)
theorem XAt.same{H':Hp}(h:XAt H C dx a)(s:Same H H'):XAt H' C dx a:=h.imp (λ z=>s _ _ z) λ⟨T,z⟩=>⟨T,s _ _ z⟩
theorem XAt.obj(I:Inv X pins σ H s)(h:XAt H C dx a):∃vs sl,s.heap.get? a=some ⟨.ref C,some dx,.fields vs,sl⟩:=by
 rcases h with h|⟨T,h⟩
 .obtain⟨⟨vs,sl,hx,_⟩,_⟩:=(show ObjOk X.prog X.w H s.heap a (DQ C dx a) from I.hok a _ h);exact⟨vs,sl,hx⟩
 .obtain⟨⟨vs,sl,hx,_⟩,_⟩:=(show ObjOk X.prog X.w H s.heap a (EF C (some dx) a T) from I.hok a _ h);exact⟨vs,sl,hx⟩
theorem O3{b:Bool}{Q:VPz}(I:Inv X pins σ H s)(e:XAt H C dx a)(ed:H dx=some (CM dx fs))(c:XCls X.K C)(n:NoAttr X.K C f)(l:fs.lookup f=some v)
  (h:∀u s',Inv X pins σ H s'->RelV v u->Q u s'):wpAny (model X.prog X.w) A (getAttr (.ref a) f b) Q E s:=by
 obtain⟨vs,sl,hx⟩:=e.obj I;obtain⟨⟨mA,hn,r,wi⟩,_⟩:=(show ObjOk X.prog X.w H s.heap dx (CM dx fs) from I.hok dx _ ed);obtain⟨u,hu,ru⟩:=RelO.some_of (v:=v) (o:=mA f) (by rw[<-l];exact r f);obtain⟨od,ho,hl⟩:=IR hn;have J:InstAt s.heap a ⟨.ref C,some dx,.fields vs,sl⟩ C (some od):=⟨hx,rfl,rfl,ho⟩;exact Rp I.kIn J c.ex c.ga c.gh (findObj_own c.hd n rfl (by rw[hl,hu])) (IZ ru) (h u _ (I.tok _) ru)
end
theorem Lj{K:Frag}{x D:Addr}(c:XCls K D):KitX K (.ref x) (.ref D) (λ h=>∃(ox:Obj)(od:Option Obj),InstAt h x ox D od) where
 ty:=λ_ _ _ ⟨_,_,I⟩=>I.type
 it:=λ_ _ X _=>by
  obtain⟨cdD,hcD,_⟩:=any_some c.hd;unfold clsIn at hcD;split at hcD
  .rename_i c' d' cd' sl' ho;intro A' Q' E' s' k q;unfold isType loadHead;exact wpAny_bind (wpAny_loadPart (k _ _ (X _ _ ho)) (wpAny_pure q))
  .cases hcD
 ne:=λ h tp dd its n sl X htp=>by
  obtain⟨cdD,hcD,_⟩:=any_some c.hd;refine Bool.eq_false_iff.mpr λ q=>?_;have e:D=tp:=Value.ref.inj (beq_iff_eq.mp q);subst e;unfold clsIn at hcD;split at hcD
  .rename_i c' d' cd' sl' ho;have z:=(X _ _ ho).symm.trans htp;cases z
  .cases hcD
 ca:=λ{prog w A E Q s} X ⟨ox,od,I⟩ h=>by
  have hf:findObj K D od "__class__"=some (.bind (.builtin "getset_descriptor.__get__") (.builtin "object.__class__")):=by
   obtain⟨cd,hc,_⟩:=any_some c.hd;unfold findObj;rw[hc,Option.bind_some,c.ca,Option.bind_some];simp[c.gn,c.tk]
  exact OC X I c.ex c.ga c.gh hf c.mo h
def IsExc(H:Hp)(a C:Addr):Prop:=(∃dx fs,XAt H C dx a/\H dx=some (CM dx fs))\/H a=some (Dv C a)\/∃T,H a=some (EF C none a T)
theorem IsExc.same{H H':Hp}{a C:Addr}(h:IsExc H a C)(s:Same H H'):IsExc H' a C:=by
 rcases h with ⟨dx,fs,h1,h2⟩|h|⟨T,h⟩
 .exact .inl ⟨dx,fs,h1.same s,s _ _ h2⟩
 .exact .inr (.inl (s _ _ h))
 .exact .inr (.inr ⟨T,s _ _ h⟩)
section
variable{X:Cx}
theorem He{pins:PNz}{σ:St}{H:Hp}{s:Shared}{a C:Addr}(I:Inv X pins σ H s)(h:IsExc H a C):∃(ox:Obj)(od:Option Obj),InstAt s.heap a ox C od:=by
 rcases h with ⟨dx,fs,h1,h2⟩|h|⟨T,h⟩
 .obtain⟨vs,sl,hx⟩:=h1.obj I;obtain⟨⟨mA,hn,_⟩,_⟩:=(show ObjOk X.prog X.w H s.heap dx (CM dx fs) from I.hok dx _ h2);obtain⟨o,_,_,ho,_⟩:=hn;exact⟨_,some o,⟨hx,rfl,rfl,ho⟩⟩
 .obtain⟨⟨vs,sl,hx,_⟩,_⟩:=(show ObjOk X.prog X.w H s.heap a (Dv C a) from I.hok a _ h);exact⟨_,none,⟨hx,rfl,rfl,trivial⟩⟩
 .obtain⟨⟨vs,sl,hx,_⟩,_⟩:=(show ObjOk X.prog X.w H s.heap a (EF C none a T) from I.hok a _ h);exact⟨_,none,⟨hx,rfl,rfl,trivial⟩⟩
theorem MA:Da X (.builtin "isinstance") (λ xs H Q=>∃a C c u b,xs=[.ref a,c]/\IsExc H a C/\XCls X.K C/\RelV c u/\(∀u',RelV c u'->u'=u)/\kitOne X.K (.ref C) u=some b/\Q (.bl b) H):=by
 intro pins s σ H xs us Q I r h;obtain⟨a,C,c,u,b,rfl,he,hc,ru,uq,hk,q⟩:=h;obtain⟨v1,v2,rfl,r1,r2⟩:=K0 r;cases r1;have:=uq v2 r2;subst this;exact kia_one (Lj hc) I.kIn (He I he) hk (λ z=>nomatch z) λ tk=>⟨.bl b,H,I.tok tk,rfl,q⟩
end
def RE(K:Frag)(ta:TE)(f:Str):TE:=λ σ H Q=>ta σ H λ x H1=>∃a C dx fs v,x=.ref a/\XAt H1 C dx a/\H1 dx=some (CM dx fs)/\XCls K C/\NoAttr K C f/\fs.lookup f=some v/\Q v H1
def Tn(K:Frag)(ta tv:TE)(f:Str):TS:=λ D σ H=>tv σ H λ y H1=>ta σ H1 λ x H2=>∃a C,x=.ref a/\XCls K C/\NoAttr K C f /\
 ((H2 a=some (Dv C a)/\∀d,H2 d=none->D.nx σ (upd (upd H2 d (CM d [(f,y)])) a (DQ C d a)))\/∃dx fs,H2 a=some (DQ C dx a)/\H2 dx=some (CM dx fs)/\fs.length<1000/\D.nx σ (upd H2 dx (CM dx (Cr f y fs))))
section
variable{X:Cx}{o e value:Expr}{f:Str}{pos pos':Pos}{ta tv:TE}
theorem QS(he:PE X e ta)(hb:attributeBase e f X.env (eval e X.env)=eval e X.env):PE X (.Attribute e f pos) (RE X.K ta f):=by
 intro pins s σ H Q I h;refine NB hb (thn (he pins s σ H _ I h) λ u s1 hz_=>?_);obtain⟨x,H1,I1,rx,a,C,dx,fs,v,ex,ea,ed,c,n,l,q⟩:=hz_;subst ex;obtain rfl:u=Value.ref a:=rx;exact O3 I1 ea ed c n l λ u' s2 I2 ru=>⟨v,H1,I2,ru,q⟩
theorem Nh(ha:PE X o ta)(hv:PE X value tv)(hs:swapsWith value (some (.Attribute o f pos')) pos.line X.env=pure false):PS X (.Assign [.Attribute o f pos'] value pos) (Tn X.K ta tv f):=by
 intro pins s σ H D I h;refine plainObj_wpAny_Assign_Attribute (thn (hv pins s σ H _ I h) λ u s1 hz_=>?_) hs;obtain⟨y,H1,I1,ry,q⟩:=hz_;refine thn (ha pins s1 σ H1 _ I1 q) λ ov s2 hz_=>?_;obtain⟨x,H2,I2,rx,a,C,ex,c,n,q2⟩:=hz_;subst ex;obtain rfl:ov=Value.ref a:=rx;rcases q2 with ⟨e0,q2⟩|⟨dx,fs,e1,e2,l,q2⟩
 .exact LW I2 e0 c n ry λ s3 d hd I3=>⟨σ,_,I3,q2 d hd⟩
 .exact NY I2 e1 e2 c n l ry λ s3 I3=>⟨σ,_,I3,q2⟩
end
def Dp(K:Frag)(C:Addr)(fI:Addr):Bool:=match K.lookup C with
 |some ⟨.type "type",_,.cls cd,sl⟩=>(match cd.mro,sl.toList with
  |.ref C'::bm,[_,_,_,_,some (.builtin n),_]=>C'==C&&n=="ValueError.__new__"&&!cd.hasDel&&tailIn K vErr bm&&nsOkIn K cd.ns&&nsIn K cd.ns "__init__"==some (some (.ref fI))
  |_,_=>false)
 |_=>false
theorem Mj{K:Frag}{h:Heap}{N:Addr}{mg:MGz}{n:Str}{v:Value}(X:K.In h)(G:h.Ns N mg)(e:nsIn K N n=some (some v)):mg n=some v:=by
 obtain⟨o,es,ep,ho,hd,_,hf⟩:=G;unfold nsIn at e;split at e
 .rename_i c d es' n' sl q;have:=X _ _ q;rw[ho]at this;cases this;cases hd;split at e
  .rename_i e' he;cases e;rw[<-hf];unfold nsFind findBy;rw[<-Array.find?_toList,he];rfl
  .split at e<;>cases e
 .cases e
structure XMk(K:Frag)(C fI:Addr):Prop where
 cl:XCls K C
 ei:Dp K C fI=true
 kp:keepIn K (.ref C)=true
 fn:isFn K (.ref fI)=true
theorem XMk.call{K:Frag}{C fI:Addr}(M:XMk K C fI){prog:Program}{w:World}{A:Around}{E:VPz}{s:Shared}{rest:LWz}{Q:VPz}(X:K.In s.heap)(hrest:rest.length<=sizeLine)
  (hq:wpAny (model prog w) (A.under (.builtin "type.__call__" ⟨.ref C::rest,[]⟩)) (call (.ref fI) (.ref (s.heap.objs.size+1)::rest)) (λ r s'=>r=.none/\Q (.ref (s.heap.objs.size+1)) s') E { s with heap:=BW s.heap C rest }) :
  wpAny (model prog w) A (call (.ref C) rest) Q E s:=by
 obtain⟨hh,g,d,t,os⟩:=s;have q:=M.ei;have fnt:typeIn K (.ref fI)=some (.type "function"):=beq_iff_eq.mp M.fn;have hfI:∃oI:Obj,hh.get? fI=some oI/\oI.cls=.type "function":=by
  cases z:K.lookup fI with
  |none=>simp[typeIn,z]at fnt
  |some o=>exact⟨o,X _ _ z,by simpa [typeIn,z] using fnt⟩
 obtain⟨oI,hoI,hcI⟩:=hfI;unfold Dp at q;split at q
 .rename_i dd cd sl ho;split at q
  .rename_i C' bm k0 k1 k2 k3 n k5 hm hs;simp only[Bool.and_eq_true,beq_iff_eq,Bool.not_eq_true']at q;obtain⟨⟨⟨⟨⟨rfl,rfl⟩,hdel⟩,ht⟩,hok⟩,hni⟩:=q;obtain⟨nm,bs,mro,ns,qn,hd,sn,sub,ab,col,del⟩:=cd;dsimp only at hm hdel hok hni;subst hm hdel;have hsl:sl=#[k0,k1,k2,k3,some (.builtin "ValueError.__new__"),k5]:=by
    obtain⟨l⟩:=sl;simp only at hs;rw[hs]
   subst hsl;have G:hh.Ns ns (hh.nsMap ns):=.of_isNs (isNs_of_in X hok);exact OE PySem.F.excBase_ValueError (tail_of_in X ht) (X _ _ ho) G (Mj X G hni) hoI hcI hrest hq
  .cases q
 .cases q
theorem ObjOk.there{P:Program}{w:World}{H:Hp}{h:Heap}{a:Addr}{o:HO}(x:ObjOk P w H h a o):∃u,h.get? a=some u:=by
 cases o with
 |lst xs=>obtain⟨_,_,_,_,e⟩:=x;exact⟨_,e⟩
 |tup xs=>obtain⟨_,_,_,p⟩:=x;obtain⟨_,e,_⟩:=p;exact⟨_,e⟩
 |dK kvs=>obtain⟨_,_,_,_,o,_,_,e,_⟩:=x;exact⟨_,e⟩
 |dT kvs=>obtain⟨_,_,_,_,o,_,_,e,_⟩:=x;exact⟨_,e⟩
 |set S n=>obtain⟨o,_,_,_,e,_⟩:=x;exact⟨_,e⟩
 |ins C dx fs=>obtain⟨_,_,_,e,_⟩:=x;exact⟨_,e⟩
 |own y=>obtain⟨_,e⟩:=x;exact⟨_,e⟩
 |xd fs=>obtain⟨_,⟨_,_,_,e,_⟩,_⟩:=x;exact⟨_,e⟩
 |rng lo hi=>obtain⟨_,_,_,e⟩:=x;exact⟨_,e⟩
 |frz ob u=>obtain⟨e,_⟩:=x;exact⟨_,e⟩
 |tbl ps=>exact⟨_,(show h.get? a=some _ from x)⟩
 |met f y=>exact⟨_,(show h.get? a=some _ from x)⟩
 |ext φ=>obtain⟨_,⟨_,e⟩,_⟩:=x;exact⟨_,e⟩
def QA(C:Addr)(names:LSz):Sp:=λ vs H Q _=>∃x ws,vs=.ref x::ws/\ws.length=names.length/\H x=some (Dv C x) /\
 ∀d H',H d=none->H' x=some (DQ C d x)->H' d=some (CM d (names.zip ws))->(∀a o,a≠x->H a=some o->H' a=some o)->Q .non H'
structure Jl(P:Program)(w:World)(K:Frag)(mg:MGz)(base:Heap)(k:Nat)(x:Str)(C:Addr)(ps names:LSz):Prop where
 few:names.length<=1000
 ex:∃(f:Addr)(fd:FuncData),XMk K C f/\A8 P w K mg base CX0 k f fd ps (QA C names)/\mg x=some (.ref C)/\Binds K fd ps []
section
variable{X:Cx}{CX:CXT}{k j:Nat}{f C:Addr}{fd:FuncData}{ps names:LSz}{sp:Sp}{E:XK}{x m:Str}{p pos apos:Pos}{e o:Expr}{es:List Expr}{ta:TE}{t:TA}
theorem QF{pins:PNz}{σ:St}{H:Hp}{s:Shared}{Q:VK}{us:LWz}{vs:LUz}(M:XMk X.K C f)(F:A8 X.prog X.w X.K X.mg X.base CX k f fd ps sp)(hr:Room (k+1) X.A)(hb:Binds X.K fd ps [])
  (hx:DP CX X E) (I:Inv X pins σ H s) (r:Vals vs us) (hz:vs.length<=1000)
  (h:∀x,H x=none->sp (.ref x::vs) (upd H x (Dv C x)) (λ v H2=>v=.non/\Q (.ref x) H2) E) :
  wpAny (model X.prog X.w) X.A (call (.ref C) us) (EP X pins σ Q) X.xe s:=by
 have hq:=h (s.heap.objs.size+1) (I.hok.fresh (Nat.le_succ _));have hus:us.length<=sizeLine:=by rw[<-r.length,sizeLine_eq];lia
 have I2:Inv X pins σ (upd H (s.heap.objs.size+1) (Dv C (s.heap.objs.size+1))) { s with heap:=BW s.heap C us } :=
  I.laid (t':=s.toks) (λ b u z=>BR z) (Nat.le_succ _) (N4 (II C us) rfl)
 have r2:Vals (V.ref (s.heap.objs.size+1)::vs) (Value.ref (s.heap.objs.size+1)::us):=.cons rfl r;have hl:(Value.ref (s.heap.objs.size+1)::us++[]).length=ps.length:=by
  have e:=r2.length;rw[F.len _ _ _ _ hq]at e;rw[List.append_nil];exact e.symm
 have hb2:=hb { s with heap:=BW s.heap C us } (Value.ref (s.heap.objs.size+1)::us) I2.kIn hl;rw[List.append_nil]at hb2;refine M.call I.kIn hus (wpAny_call (codeAny_mono (F.run _ X.stack _ _ ⟨Value.ref (s.heap.objs.size+1)::us,[]⟩ (Value.ref (s.heap.objs.size+1)::us) _ _ E (hr.make C us [])
  (I2.env0.make C us []) hb2 r2 hq) λ r s' hq'=>?_))
 cases r with
 |error e=>exact hx pins σ _ _ e s' I2 hq'
 |ok fl =>
  cases fl with
  |ret u =>
   obtain⟨v,H',I3,rv,ev,q3⟩:=I2.after hq';subst ev;exact⟨rv,⟨V.ref (s.heap.objs.size+1),H',I3,rfl,q3⟩⟩
  |next=>exact False.elim hq'
  |brk=>exact False.elim hq'
  |cont=>exact False.elim hq'
structure XMk0(K:Frag)(mg:MGz)(x:Str)(C:Addr):Prop where
 ei:PySem.W.excIn K C vErr "ValueError.__new__"=true
 kp:keepIn K (.ref C)=true
 mm:mg x=some (.ref C)
theorem XMk0.call{K:Frag}{mg:MGz}{x:Str}{C:Addr}(M:XMk0 K mg x C){prog:Program}{w:World}{A:Around}{E:VPz}{s:Shared}{Q:VPz}(X:K.In s.heap)
  (hq:∀h' e,Heap.MadeExcOf s.heap h' e (.ref C) []->Q (.ref e) { s with heap:=h' }):wpAny (model prog w) A (PySem.call (.ref C) []) Q E s:=by
 obtain⟨hh,g,d,t,os⟩:=s;have q:=M.ei;unfold PySem.W.excIn at q;split at q
 .rename_i dd cd sl ho;split at q
  .rename_i C' bm k0 k1 k2 k3 n k5 hm hs;simp only[Bool.and_eq_true,beq_iff_eq,Bool.not_eq_true']at q;obtain⟨⟨⟨⟨⟨rfl,rfl⟩,hdel⟩,ht⟩,hok⟩,hni⟩:=q;obtain⟨nm,bs,mro,ns,qn,hd,sn,sub,ab,col,del⟩:=cd;dsimp only at hm hdel hok hni;subst hm hdel;have hsl:sl=#[k0,k1,k2,k3,some (.builtin "ValueError.__new__"),k5]:=by
    obtain⟨l⟩:=sl;simp only at hs;rw[hs]
   subst hsl;have G:hh.Ns ns (hh.nsMap ns):=.of_isNs (isNs_of_in X hok);exact wpAny_call_exc_subT PySem.F.excBase_ValueError (tail_of_in X ht) (X _ _ ho) G (nsMap_none_of_in X hok hni) hq
  .cases q
 .cases q
end
structure HM(fr tt:List Addr)(e T:Addr)(fl cls:Value)(d:Option Addr)(h h':Heap):Prop where
 nT:h.get? T=none
 keep:∀b o,b≠e->b∉fr->b∉tt->h.get? b=some o->h'.get? b=some o
 slot:∀b o,b∈fr->h.get? b=some o->∃sl,h'.get? b=some { o with slots:=sl }
 exc:∃vs sl,h'.get? e=some ⟨cls,d,.fields vs,sl⟩/\vs[1]?=some (.ref T)
 tb:∃o ts,h'.get? T=some o/\o.data=.fields ts/\ts[3]?=some fl
 old:∀t o ts,t∈tt->t≠e->h.get? t=some o->o.data=.fields ts->3<ts.size->∃o' ts',h'.get? t=some o'/\o'.data=.fields ts'/\ts'[3]?=some Value.none
section
variable{M:Model}{A:Around}{E:VPz}{s:Shared}{base:Heap}{env:Env}{outer:List Env}{L e:Addr}{cls:Value}{d:Option Addr}{vs:Array Value}{sl:AOz}{Q:Unit->Shared->Prop}
theorem GS{head:Value}{hadNext:Bool}(hfr:A.frames=some (env::outer))(hl:s.heap.FunFrames base (env::outer))(hf:env.frame=some L)(he:s.heap.get? e=some ⟨cls,d,.fields vs,sl⟩)(hsz:1<vs.size)
    (h:∀h' T,HM (frs (env::outer)) [] e T (rawInt L) cls d s.heap h'->Q () { s with heap:=h' }) :
    wpAny M A (do
      let a <-frameOf env
      let pl <-entryPlaceOf L hadNext
      let b <-EntryCells.newEntry head a .none (rawInt L) .none pl
      setField (.ref e) 1 b) Q E s:=by
  have hne:e∉frs (env::outer):=λ hm=>by
    obtain⟨_,o,ho,hnf⟩:=hl.mem hm;rw[he]at ho;cases ho;exact hnf vs rfl
  refine wpAny_bind (wpAny_frameOf_fun hfr hl hf λ h₁ hs=>wpAny_bind (wpAny_entryPlaceOf λ pl hpl=>?_));unfold EntryCells.newEntry newFields;refine wpAny_bind (wpAny_newObj_type ?_ (hpl.sizeOk5 _ _ _ _ _));have e1:h₁.get? e=some ⟨cls,d,.fields vs,sl⟩:=(hs.2.1 e hne).trans he;generalize hob:({ cls:=.type "traceback",dict:=none,data:=.fields ([head,.ref L,.none,rawInt L,.none]++(if pl.isEmpty then List.replicate 6 Value.none else pl)).toArray }:Obj)=ob;have hfb:ob.isFreed=false:=by rw[<-hob];rfl
  have e2:=Heap.get?_push_of_some (h:=h₁) ob e1;refine wpAny_setField e2 rfl hsz (h _ h₁.objs.size ?_);have nTe:h₁.objs.size≠e:=Nat.ne_of_gt (Heap.lt_size e1);have kp:∀b o,b≠e->h₁.get? b=some o->((h₁.push ob).update e (Obj.mapFields (·.setIfInBounds 1 (Value.ref h₁.objs.size)))).get? b=some o:=λ b o nb hb=>by
    rw[Heap.get?_update_other _ _ (Ne.symm nb)];exact Heap.get?_push_of_some _ hb
  refine⟨Heap.get?_none_of_le (Nat.le_of_eq hs.1.symm),λ b o nb nf _ hb=>kp b o nb ((hs.2.1 b nf).trans hb),λ b o bf hb=>?_,⟨vs.setIfInBounds 1 (.ref h₁.objs.size),sl,?_,by simp[hsz]⟩,⟨ob,([head,.ref L,.none,rawInt L,.none]++(if pl.isEmpty then List.replicate 6 Value.none else pl)).toArray,?_,by rw[<-hob],?_⟩,λ_ _ _ z=>nomatch z⟩
  · obtain⟨sl',z⟩:=hs.2.2 b o hb
    exact⟨sl',kp b _ (λ q=>hne (q ▸ bf)) z⟩
  · exact Heap.get?_update_self _ e2 rfl
  · rw[Heap.get?_update_other _ _ (Ne.symm nTe)];exact Heap.get?_push_size _ hfb
  · simp
theorem La(hfr:A.frames=some (env::outer))(hl:s.heap.FunFrames base (env::outer))(hf:env.frame=some L)(he:s.heap.get? e=some ⟨cls,d,.fields vs,sl⟩)(h1:vs[1]?=some Value.none)
  (h:∀h' T,HM (frs (env::outer)) [] e T (rawInt L) cls d s.heap h'->Q () { s with heap:=h' }):wpAny M A (noteFrame (.ref e) env) Q E s:=by
 unfold noteFrame;simp only[hf];refine wpAny_bind (wpAny_field he rfl h1 ?_);rw[if_neg (by decide)];exact GS hfr hl hf he (Array.getElem?_eq_some_iff.mp h1).1 h
theorem Oo{T1:Addr}{oT:Obj}{ts:Array Value}(hfr:A.frames=some (env::outer))(hl:s.heap.FunFrames base (env::outer))(hf:env.frame=some L)(he:s.heap.get? e=some ⟨cls,d,.fields vs,sl⟩)(h1:vs[1]?=some (.ref T1))
  (hT:s.heap.get? T1=some oT) (hd:oT.data=.fields ts) (h3:ts[3]?=some Value.none) (ne:T1≠e)
  (h:∀h' T,HM (frs (env::outer)) [T1] e T (rawInt L) cls d s.heap h'->Q () { s with heap:=h' }):wpAny M A (noteFrame (.ref e) env) Q E s:=by
 unfold noteFrame;simp only[hf];refine wpAny_bind (wpAny_field he rfl h1 ?_);rw[if_pos (show(Value.ref T1 != Value.none)=true from by simp)];refine wpAny_bind (wpAny_field hT hd h3 ?_);rw[if_neg (show ¬((Value.none==rawInt L)=true) from by simp[rawInt])];have hs3:3<ts.size:=(Array.getElem?_eq_some_iff.mp h3).1;refine wpAny_bind (wpAny_setField hT hd hs3 ?_);have oth:∀b,b≠T1->(s.heap.update T1 (Obj.mapFields (·.setIfInBounds 3 Value.none))).get? b=s.heap.get? b:=λ b hb=>Heap.get?_update_other _ _ (Ne.symm hb);have nT1:T1∉frs (env::outer):=λ hm=>by
  obtain⟨_,o,ho,hnf⟩:=hl.mem hm;rw[hT]at ho;cases ho;exact hnf ts hd
 have self:(s.heap.update T1 (Obj.mapFields (·.setIfInBounds 3 Value.none))).get? T1=some (Obj.mapFields (·.setIfInBounds 3 Value.none) oT):=Heap.get?_update_self _ hT (Obj.isFreed_of_fields (Obj.data_mapFields hd _));refine GS (s:={ s with heap:=s.heap.update T1 (Obj.mapFields (·.setIfInBounds 3 Value.none)) }) hfr (hl.of_keeps λ b o hb hnf=>⟨o,(oth b λ q=>?_).trans hb,rfl⟩) hf ((oth e (Ne.symm ne)).trans he) (Array.getElem?_eq_some_iff.mp h1).1 λ h' T n=>h h' T ?_
 .rw[q,hT]at hb;cases hb;exact hnf ts hd
 .have nT':s.heap.get? T=none:=by
   by_cases q:T=T1
   .have:=n.nT;rw[q]at this;rw[self]at this;cases this
   .rw[<-oth T q];exact n.nT
  refine⟨nT',λ b o nb nf nt hb=>n.keep b o nb nf (by simp) ((oth b (by simpa using nt)).trans hb),λ b o bf hb=>n.slot b o bf ((oth b λ q=>nT1 (q ▸ bf)).trans hb),n.exc,n.tb,λ t o us ht hte hb hdo hsz=>?_⟩;obtain rfl:t=T1:=by simpa using ht
  rw[hT]at hb;cases hb;rw[hd]at hdo;cases hdo;exact⟨_,_,n.keep t _ hte nT1 (by simp) self,Obj.data_mapFields hd _,by simp[hs3]⟩
theorem Hl{T:Addr}{oT:Obj}{ts:Array Value}(he:s.heap.get? e=some ⟨cls,d,.fields vs,sl⟩)(h1:vs[1]?=some (.ref T))(hT:s.heap.get? T=some oT)(hd:oT.data=.fields ts)(hs3:3<ts.size)
  (h:∀h',(∀b,b≠T->h'.get? b=s.heap.get? b)->(∃o' ts',h'.get? T=some o'/\o'.data=.fields ts'/\ts'[3]?=some Value.none)->Q () { s with heap:=h' }):wpAny M A (setFlight (.ref e) none) Q E s:=by
 unfold setFlight;refine wpAny_bind (wpAny_field he rfl h1 ?_);rw[if_pos (show(Value.ref T != Value.none)=true from by simp)];refine wpAny_setField hT hd hs3 (h _ (λ b hb=>Heap.get?_update_other _ _ (Ne.symm hb)) ⟨_,_,Heap.get?_update_self _ hT (Obj.isFreed_of_fields (Obj.data_mapFields hd _)),Obj.data_mapFields hd _,by simp[hs3]⟩)
end
section
variable{prog:Program}{w:World}{A:Around}{E:VPz}{s:Shared}{K:Frag}{C fI e:Addr}{d:Option Addr}{env:Env}
theorem Ma{x:Sem Value}{Q:Flow->Shared->Prop}(M:XMk K C fI)(hh:A.handled=none)
  (h:wpAny (model prog w) A x (λ v s₁=>∃e d vs sl,v=.ref e/\K.In s₁.heap/\s₁.heap.get? e=some ⟨.ref C,d,.fields vs,sl⟩/\vs[1]?=some Value.none/\E (.ref e) s₁) E s) :
  wpAny (model prog w) A (raiseStmt env (some x) none) Q E s:=by
 unfold raiseStmt;refine wpAny_bind (wpAny_mono h (λ v s₁ h₁=>?_) λ_ _ x=>x);obtain⟨e,d,vs,sl',rfl,X,he,h1,hE⟩:=h₁;obtain⟨hp,g,dr,tk,os⟩:=s₁;have q:=M.ei;unfold Dp at q;split at q
 .rename_i dd cd sl ho;split at q
  .rename_i C' bm k0 k1 k2 k3 n k5 hm hs;simp only[Bool.and_eq_true,beq_iff_eq,Bool.not_eq_true']at q;obtain⟨⟨⟨⟨⟨rfl,rfl⟩,hdel⟩,ht⟩,hok⟩,hni⟩:=q;obtain⟨nm,bs,mro,ns,qn,hd,sn,sub,ab,col,del⟩:=cd;dsimp only at hm hdel hok hni;subst hm hdel;have hsl:sl=#[k0,k1,k2,k3,some (.builtin "ValueError.__new__"),k5]:=by
    obtain⟨l⟩:=sl;simp only at hs;rw[hs]
   subst hsl;have hC:hp.get? C'=some (excClassObj nm qn C' ns bs bm hd sn sub ab col dd k0 k1 k2 k3 k5 "ValueError.__new__"):=X _ _ ho;have hcB:(Value.ref C'::bm).contains (.type "BaseException")=true:=by
    rw[List.contains_cons,(tail_of_in X ht).hasType (show vErr.contains (.type "BaseException")=true by decide +kernel)];exact Bool.or_true _
   repeat (first|with_reducible refine wpAny_field he rfl h1 ?_|with_reducible refine wpAny_loadPart_at he ?_|with_reducible refine wpAny_loadPart_at hC ?_|(with_reducible refine wpAny_isSubtype_exc hC ?_;rw[hcB])|wp_step)
   exact wpAny_raiseNew_none hh hE
  .cases q
 .cases q
end
def TbO(T:Addr):HO:=.ext λ h=>∃o ts,h.get? T=some o/\o.data=.fields ts/\ts[3]?=some Value.none
theorem LM{P:Program}{w:World}{H:Hp}{h:Heap}{T:Addr}(t:∃o ts,h.get? T=some o/\o.data=.fields ts/\ts[3]?=some Value.none):ObjOk P w H h T (TbO T) :=
 ⟨t,let ⟨o,_,e,_⟩:=t;⟨o,e⟩,λ_ _ ⟨o,ts,e,r⟩ k=>⟨o,ts,k _ e,r⟩⟩
def NR(H:Hp)(x C:Addr)(d:Option Addr):Prop:=(d=none/\H x=some (Dv C x))\/∃dx,d=some dx/\H x=some (DQ C dx x)
def C6(H:Hp)(x C:Addr)(d:Option Addr)(T:Addr):Prop:=H x=some (EF C d x T)/\H T=some (TbO T)/\T≠x
def thrown(H:Hp)(x C:Addr)(d:Option Addr)(T:Addr):Hp:=upd (upd H T (TbO T)) x (EF C d x T)
theorem Ci{H:Hp}{x C T:Addr}{d:Option Addr}:thrown H x C d T x=some (EF C d x T):=upd_same
theorem EN{H:Hp}{x C T:Addr}{d:Option Addr}(n:T≠x):thrown H x C d T T=some (TbO T):=by unfold thrown;rw[Ah n,upd_same]
theorem AI{H:Hp}{x C T b:Addr}{d:Option Addr}(n:b≠x)(m:b≠T):thrown H x C d T b=H b:=by unfold thrown;rw[Ah n,Ah m]
section
variable{X:Cx}{pins:PNz}{σ:St}{H:Hp}{s:Shared}{x C T:Addr}{d:Option Addr}{h1 h2:Heap}{fl:Value}{tt:List Addr}
theorem QZ(I:Inv X pins σ H s){φ:Heap->Prop}(hx:H x=some (.ext φ))(htt:∀t∈tt,H t=some (TbO t)/\t≠x)(n:HM (frs X.stack) tt x T fl (.ref C) d s.heap h1)(k2:∀b,b≠T->h2.get? b=h1.get? b)
  (t2:∃o ts,h2.get? T=some o/\o.data=.fields ts/\ts[3]?=some Value.none):H T=none/\T≠x/\Un (frs X.stack) [] H (thrown H x C d T) s.heap h2/\HOk X.prog X.w (thrown H x C d T) h2:=by
 have hT:H T=none:=by
  cases q:H T with
  |none=>rfl
  |some u =>
   obtain⟨o,ho⟩:=(I.hok T u q).there;rw[n.nT]at ho;cases ho
 have nTx:T≠x:=λ z=>by rw[z,hx]at hT;cases hT
 have tn:∀b o,s.heap.get? b=some o->b≠T:=λ b o e z=>by rw[z,n.nT]at e;cases e
 have un:∀b,H b=none->b≠x:=λ b e z=>by rw[z,hx]at e;cases e
 have ut:∀b,H b=none->b∉tt:=λ b e z=>by rw[(htt b z).1]at e;cases e
 have hb:∀b u,H b=some u->b≠T:=λ b u e z=>by rw[z,hT]at e;cases e
 have old:∀t∈tt,∃o' ts',h2.get? t=some o'/\o'.data=.fields ts'/\ts'[3]?=some Value.none:=λ t ht=>by
  obtain⟨e,ne⟩:=htt t ht;obtain⟨⟨o,ts,e1,e2,e3⟩,_⟩:=(show ObjOk X.prog X.w H s.heap t (TbO t) from I.hok t _ e);obtain⟨o',ts',f1,f2,f3⟩:=n.old t o ts ht ne e1 e2 (Array.getElem?_eq_some_iff.mp e3).1;exact⟨o',ts',(k2 t (hb t _ e)).trans f1,f2,f3⟩
 have exc:∃vs sl,h2.get? x=some ⟨.ref C,d,.fields vs,sl⟩/\vs[1]?=some (.ref T):=by
  obtain⟨vs,sl,e1,e2⟩:=n.exc;exact⟨vs,sl,(k2 x (Ne.symm nTx)).trans e1,e2⟩
 have ne_ext:∀b u,H b=some u->(∀ψ,u≠.ext ψ)->b≠x:=λ b u e z q=>by rw[q,hx]at e;cases e;exact z _ rfl
 refine⟨hT,nTx,⟨λ b o q e nf _=>?_,λ b o q e bf _=>?_,λ b o q e _=>?_,λ b o q _=>?_,λ b xs e=>?_,λ b o u e=>?_,λ b ps e=>⟨#[],?_⟩⟩,λ b u e=>?_⟩
 .exact(k2 b (tn b o q)).trans (n.keep b o (un b e) nf (ut b e) q)
 .obtain⟨sl,z⟩:=n.slot b o bf q;exact⟨sl,(k2 b (tn b o q)).trans z⟩
 .rw[AI (un b e) (tn b o q)];exact e
 .by_cases z:b=x
  .obtain⟨vs,sl,e1,_⟩:=exc;exact⟨_,z ▸ e1⟩
  .by_cases zf:b∈frs X.stack
   .obtain⟨sl,z⟩:=n.slot b o zf q;exact⟨_,(k2 b (tn b o q)).trans z⟩
   .by_cases zt:b∈tt
    .obtain⟨o',_,e1,_⟩:=old b zt;exact⟨o',e1⟩
    .exact⟨o,(k2 b (tn b o q)).trans (n.keep b o z zf zt q)⟩
 .rw[AI (ne_ext b _ e λ ψ z=>by cases z) (hb b _ e)];exact e
 .rw[AI (ne_ext b _ e λ ψ z=>by cases z) (hb b _ e)];exact e
 .rw[AI (ne_ext b _ e λ ψ z=>by cases z) (hb b _ e),e];simp
 .by_cases z:b=x
  .subst z;rw[Ci]at e;cases e;obtain⟨vs,sl,e1,e2⟩:=exc;exact Rw e1 e2
  .by_cases zT:b=T
   .subst zT;rw[EN nTx]at e;cases e;exact LM t2
   .rw[AI z zT]at e;by_cases zt:b∈tt
    .rw[(htt b zt).1]at e;cases e;exact LM (old b zt)
    .have own_ne:∀c,H c=some (.own b)->c≠x/\c≠T:=λ c hc=>⟨ne_ext c _ hc (λ ψ z=>by cases z),hb c _ hc⟩;refine(I.hok b u e).stay (λ c v hc q=>?_) (λ c q=>?_) λ c xs q=>?_
     .have hcH:∃y,H c=some y:=by
       rcases hc with rfl|hc
       .exact⟨u,e⟩
       .exact⟨_,hc⟩
      obtain⟨y,hy⟩:=hcH;refine(k2 c (hb c y hy)).trans (n.keep c v ?_ (λ zf=>by rw[I.stkFree c zf]at hy;cases hy) (λ zt'=>?_) q)
      .rcases hc with rfl|hc
       .exact z
       .exact(own_ne c hc).1
      .rcases hc with rfl|hc
       .exact zt zt'
       .rw[(htt c zt').1]at hc;cases hc
     .rw[AI (own_ne c q).1 (own_ne c q).2];exact q
     .rw[AI (ne_ext c _ q λ ψ z=>by cases z) (hb c _ q)];exact q
theorem FG{E:VPz}{Q:Unit->Shared->Prop}(I:Inv X pins σ H s)(hst:X.stack=X.env::X.outer)(hfr:X.env.frame=some X.env.locals)(hf:NR H x C d\/∃T,C6 H x C d T)
  (h:∀h' T,H T=none->T≠x->Inv X pins σ (thrown H x C d T) { s with heap:=h' }->Q () { s with heap:=h' }) :
  wpAny (model X.prog X.w) X.A (noteFrame (.ref x) X.env) (λ_ s₂=>wpAny (model X.prog X.w) X.A (setFlight (.ref x) none) Q E s₂) E s:=by
 have fr:X.A.frames=some (X.env::X.outer):=hst ▸ I.ok.frames;have ff:s.heap.FunFrames X.base (X.env::X.outer):=hst ▸ I.stack;have rest:∀{φ:Heap->Prop}{tt:List Addr}(hx:H x=some (.ext φ))(htt:∀t∈tt,H t=some (TbO t)/\t≠x)(h1:Heap)(T:Addr),HM (frs (X.env::X.outer)) tt x T (rawInt X.env.locals) (.ref C) d s.heap h1 ->
   wpAny (model X.prog X.w) X.A (setFlight (.ref x) none) Q E { s with heap:=h1 }:=λ{φ tt} hx htt h1 T n=>by
  obtain⟨vs,sl,e1,e2⟩:=n.exc;obtain⟨o,ts,f1,f2,f3⟩:=n.tb;refine Hl (s:={ s with heap:=h1 }) e1 e2 f1 f2 (Array.getElem?_eq_some_iff.mp f3).1 λ h2 k2 t2=>?_;obtain⟨hT,nT,un,ok⟩:=QZ I hx htt (hst ▸ n) k2 t2;exact h h2 T hT nT (I.call (g':=s.gens) (d':=s.drawn) (t':=s.toks) (ch:=[]) un ok I.bare (λ b z=>absurd z (by simp)))
 rcases hf with (⟨rfl,hx⟩|⟨dx,rfl,hx⟩)|⟨T,hx,hT,ne⟩
 .obtain⟨⟨vs,sl,e1,e2⟩,_⟩:=(show ObjOk X.prog X.w H s.heap x (Dv C x) from I.hok x _ hx);exact La fr ff hfr e1 e2 λ h1 T n=>rest (tt:=[]) hx (λ t z=>absurd z (by simp)) h1 T n
 .obtain⟨⟨vs,sl,e1,e2⟩,_⟩:=(show ObjOk X.prog X.w H s.heap x (DQ C dx x) from I.hok x _ hx);exact La fr ff hfr e1 e2 λ h1 T n=>rest (tt:=[]) hx (λ t z=>absurd z (by simp)) h1 T n
 .obtain⟨⟨vs,sl,e1,e2⟩,_⟩:=(show ObjOk X.prog X.w H s.heap x (EF C d x T) from I.hok x _ hx);obtain⟨⟨o,ts,f1,f2,f3⟩,_⟩:=(show ObjOk X.prog X.w H s.heap T (TbO T) from I.hok T _ hT);exact Oo fr ff hfr e1 e2 f1 f2 f3 ne λ h1 T' n=>rest (tt:=[T]) hx (λ t z=>by rw[List.mem_singleton.mp z];exact⟨hT,ne⟩) h1 T' n
theorem Ou{E:VPz}{Q:Unit->Shared->Prop}(I:Inv X pins σ H s)(hst:X.stack=X.env::X.outer)(hfr:X.env.frame=some X.env.locals)(hf:NR H x C d\/∃T,C6 H x C d T)
  (h:∀h' T,H T=none->T≠x->Inv X pins σ (thrown H x C d T) { s with heap:=h' }->Q () { s with heap:=h' }):wpAny (model X.prog X.w) X.A (leaving X.env (.ref x)) Q E s:=by
 unfold leaving;exact wpAny_bind (FG I hst hfr hf h)
end
def CX1(P:Program)(w:World):CXT:=λ outer H s E e s'=>∃x T C d H',e=Value.ref x/\s'.os=s.os/\AllBare s'.gens/\Un (frs outer) [] H H' s.heap s'.heap/\HOk P w H' s'.heap/\C6 H' x C d T/\E (.ref x) d H'
def R6(X:Cx)(E:XK):Prop:=∀(pins:PNz)(σ:St)(H:Hp)(s:Shared)(x C:Addr)(d:Option Addr),Inv X pins σ H s->(NR H x C d\/∃T,C6 H x C d T) ->
 (∀T,H T=none->T≠x->E (.ref x) d (thrown H x C d T))->X.xe (.ref x) s
section
variable{P:Program}{w:World}{K:Frag}{mg:MGz}{base:Heap}{N:LSz}{qual:Str}{scope:Scope}{f:Addr}{cd:Value}{A:Around}{outer:List Env}{s:Shared}{H:Hp}{E E₁:XK}
theorem BJ:R6 (Bm (CX1 P w) P w K mg base N qual scope f cd A outer s H E) E:=by
 intro pins σ H1 s1 x C d I hf hE;exact Ou I rfl rfl hf λ h' T hT nT I'=>⟨x,T,C,d,_,rfl,I'.os,I'.bare,I'.base,I'.hok,⟨Ci,EN nT,nT⟩,hE T hT nT⟩
theorem Px:PassesOwn (model (Bm (CX1 P w) P w K mg base N qual scope f cd A outer s H E).prog (Bm (CX1 P w) P w K mg base N qual scope f cd A outer s H E).w) (Bm (CX1 P w) P w K mg base N qual scope f cd A outer s H E).A (Bm (CX1 P w) P w K mg base N qual scope f cd A outer s H E).env (Bm (CX1 P w) P w K mg base N qual scope f cd A outer s H E).xe:=PassesOwn.leaving
end
section
variable{X:Cx}{E E₁:XK}
theorem E2(hX:R6 X E)(h:∀x C d T T2 H',E₁ (.ref x) d H'->C6 H' x C d T->H' T2=none->T2≠x->E (.ref x) d (thrown H' x C d T2)):DP (CX1 X.prog X.w) X E₁:=by
 rintro pins σ H s e s' I ⟨x,T,C,d,H',rfl,os,bare,un,hok,fl,q⟩;obtain⟨hh,g,dr,t,os'⟩:=s';obtain rfl:os'=s.os:=os;exact hX pins σ H' _ x C d (I.call (h':=hh) (g':=g) (d':=dr) (t':=t) (ch:=[]) un hok bare (λ b z=>absurd z (by simp))) (.inr ⟨T,fl⟩) λ T2 h2 n2=>h x C d T T2 H' q fl h2 n2
end
theorem Fun.okx{P:Program}{w:World}{K:Frag}{mg:MGz}{base:Heap}{x qual:Str}{st:Stmt}{f:Addr}{fd:FuncData}{N ps:LSz}{k:Nat}{sp:Sp}(F:Fun K x qual st f fd)(S:An N ps (Ag st))(len:∀vs H Q E,sp vs H Q E->vs.length=ps.length)
  (hbody:∀(cdv:Value)(A:Around)(outer:List Env)(s:Shared)(H:Hp)(vs:LUz)(Q:VK)(E:XK),Room k (A.deeper (envOfC qual (Ag st) s.heap.objs.size f cdv))->sp vs H Q E ->
   ∃t,PSs (Bm (CX1 P w) P w K mg base N qual (Ag st) f cdv A outer s H E) (A7 st) t/\t { nx:=λ_ H'=>Q .non H',rt:=Q } (start N vs) H):A8 P w K mg base (CX1 P w) (k+1) f fd ps sp:=by
 obtain⟨oc,od,kV,doc,pm,an,cdv,ct,osl,rfl,lk,hcd⟩:=F.ex;exact Lp lk hcd S len λ A outer s H vs Q E hr hsp=>hbody cdv A outer s H vs Q E hr hsp
structure BI(P:Program)(w:World)(K:Frag)(mg:MGz)(base:Heap)(k:Nat)(x:Str)(ps:LSz)(sp:Sp):Prop where
 ex:∃(f:Addr)(fd:FuncData),A8 P w K mg base (CX1 P w) k f fd ps sp/\mg x=some (.ref f)/\keepIn K (.ref f)=true/\Binds K fd ps []
def Ss(C:Addr)(names:LSz)(E:XK)(t:TA):TS:=λ_ σ H=>t σ H λ vs H1=>vs.length=names.length /\
 ∀y dx T H2,H1 y=none->Same H1 H2->H2 y=some (DQ C dx y)->H2 dx=some (CM dx (names.zip vs))->dx≠y->H2 T=none->T≠y->E (.ref y) (some dx) (thrown H2 y C (some dx) T)
section
variable{X:Cx}{k j:Nat}{x:Str}{C:Addr}{ps names:LSz}{sp:Sp}{p pos cpos:Pos}{e:Expr}{es:List Expr}{t:TA}{E E₁:XK}
theorem Ey(D:BI X.prog X.w X.K X.mg X.base k x ps sp)(hr:Room j X.A)(hx:DP (CX1 X.prog X.w) X E₁)(ha:PA X (e::es) t)(hj:k<=j:=by decide)(hg:Gl X x:=by rfl)(hdb:(x==("__debug__":Str))=false:=by decide)
  (he:starEach (e::es) X.env=(false,eval e X.env)::starEach es X.env:=by rfl) (hpl:(backTo pos (starEach es X.env)).any (·.1)=false:=by rfl):PE X (.Call (.Name x p) (e::es) [] pos) (MR sp [] E₁ t):=by
 obtain⟨f,fd,F,hm,hk,hb⟩:=D.ex;exact Nm F (hr.mono hj) hg hm hk hb .nil hx ha hdb he hpl
theorem KA(hX:R6 X E)(D:Jl X.prog X.w X.K X.mg X.base k x C ps names)(hr:Room j X.A)(ha:PA X (e::es) t)(hc:X.calm=true:=by rfl)(hj:k+1<=j:=by decide)(hg:Gl X x:=by rfl)(hdb:(x==("__debug__":Str))=false:=by decide)
  (he:starEach (e::es) X.env=(false,eval e X.env)::starEach es X.env:=by rfl) (hpl:(backTo cpos (starEach es X.env)).any (·.1)=false:=by rfl):PS X (.Raise (some (.Call (.Name x p) (e::es) [] cpos)) none pos) (Ss C names E t):=by
 intro pins s σ H Dd I h;obtain⟨f,fd,M,F,hm,hb⟩:=D.ex;have pe:wpAny (model X.prog X.w) X.A (eval (.Call (.Name x p) (e::es) [] cpos) X.env) (EP X pins σ λ v H2=>∃y d,v=V.ref y/\NR H2 y C d/\∀T,H2 T=none->T≠y->E (.ref y) d (thrown H2 y C d T)) X.xe s:=by
  refine wpAny_Call_Name_kw (C3 I hg hm ?_ hdb);refine callWith_K (h₀:=X.base) I.ok.mod.kin M.kp (thn (ha cpos pins s σ H _ I h) λ us s1 ⟨vs,H1,I1,r,hl,q⟩=>⟨I1.kIn,?_⟩) he hpl;refine QF M F (hr.mono hj) hb KI I1 r (hl ▸ D.few) λ y hy=>⟨y,vs,rfl,hl,upd_same,λ d H' hd h1 h2 hs=>⟨rfl,y,some d,rfl,.inr ⟨d,rfl,h1⟩,λ T hT nT=>?_⟩⟩;refine q y d T H' hy (λ a o ho=>hs a o (Ae ho hy) ?_) h1 h2 (λ z=>by rw[z,upd_same]at hd;cases hd) hT nT;rw[Ah (Ae ho hy)];exact ho
 rw[arm_exec_Raise];simp only[evalOpt,Option.map];refine wpAny_bind (wpAny_standAt (Ma M (I.ok.hd hc) ?_));refine wpAny_bind (thn pe λ v s1 ⟨u,H2,I2,r,y,d,ey,fr,hE⟩=>wpAny_bind (wpAny_standAt (wpAny_pure ?_)));subst ey;obtain rfl:v=Value.ref y:=r;have ob:∃vs sl,s1.heap.get? y=some ⟨.ref C,d,.fields vs,sl⟩/\vs[1]?=some Value.none:=by
  rcases fr with ⟨rfl,hx⟩|⟨dx,rfl,hx⟩
  .exact(show ObjOk X.prog X.w H2 s1.heap y (Dv C y) from I2.hok y _ hx).1
  .exact(show ObjOk X.prog X.w H2 s1.heap y (DQ C dx y) from I2.hok y _ hx).1
 obtain⟨vs,sl,e1,e2⟩:=ob;exact⟨y,d,vs,sl,rfl,I2.kIn,e1,e2,hX pins σ H2 s1 y C d I2 (.inl fr) hE⟩
end
def Dr:Nat->Heap
 |0=>{}
 |n+1=>(Dr n).push { cls:=.type "dict",data:=.dict #[] }
theorem Dq:∀n,(Dr n).objs.size=n
 |0=>rfl
 |n+1=>by rw[Dr,Heap.size_push,Dq n]
theorem Lq{C C' x T T':Addr}{d d':Option Addr}(h:EF C d x T=EF C' d' x T'):C=C'/\d=d'/\T=T':=by
 have h:(HO.ext λ h=>∃vs sl,h.get? x=some ⟨.ref C,d,.fields vs,sl⟩/\vs[1]?=some (.ref T))=HO.ext λ h=>∃vs sl,h.get? x=some ⟨.ref C',d',.fields vs,sl⟩/\vs[1]?=some (.ref T'):=h;injection h with h;have e:=congrFun h ((Dr x).push ⟨.ref C,d,.fields #[.none,.ref T],#[]⟩);have g:((Dr x).push ⟨.ref C,d,.fields #[.none,.ref T],#[]⟩).get? x=some ⟨.ref C,d,.fields #[.none,.ref T],#[]⟩:=Heap.get?_push_at (Dq x).symm rfl;have q:=e.mp ⟨_,_,g,rfl⟩;obtain⟨vs,sl,e1,e2⟩:=q;rw[g]at e1;cases e1;cases e2;exact⟨rfl,rfl,rfl⟩
def XR(H:Hp)(x C:Addr)(d:Option Addr)(fs:LFz):Prop:=(∃dx,d=some dx/\dx≠x/\H dx=some (CM dx fs))/\∃T,H x=some (EF C d x T)
theorem Sf{H1 H2:Hp}{y C dx T:Addr}{fs:LFz}(hy:H1 y=none)(s:Same H1 H2)(e:H2 y=some (DQ C dx y))(ed:H2 dx=some (CM dx fs))(hT:H2 T=none)(nd:dx≠y) :
  XR (thrown H2 y C (some dx) T) y C (some dx) fs/\Same H1 (thrown H2 y C (some dx) T) :=
 ⟨⟨⟨dx,rfl,nd,by rw[AI nd (Ae ed hT)];exact ed⟩,T,Ci⟩,λ a o ho=>by rw[AI (Ae ho hy) (Ae (s a o ho) hT)];exact s a o ho⟩
theorem SV{H H1:Hp}{x C C':Addr}{d:Option Addr}{T T2:Addr}{fs:LFz}(hx:H1 x=none)(s:Same H1 H)(r:XR H x C d fs)(fl:C6 H x C' d T)(hT:H T2=none) :
  C=C'/\XR (thrown H x C' d T2) x C d fs/\Same H1 (thrown H x C' d T2):=by
 obtain⟨⟨dx,rfl,nd,ed⟩,T',e⟩:=r;have q:C=C':=by
  have:=fl.1;rw[e]at this;exact(Lq (Option.some.inj this)).1
 subst q;exact⟨rfl,⟨⟨dx,rfl,nd,by rw[AI nd (Ae ed hT)];exact ed⟩,T2,Ci⟩,λ a o ho=>by rw[AI (Ae ho hx) (Ae (s a o ho) hT)];exact s a o ho⟩
def Rf(H:Hp)(E:XK)(C:Addr)(P:LFz->Hp->Prop):Prop:=∀x d fs H',H x=none->Same H H'->XR H' x C (some d) fs->P fs H'->E (.ref x) (some d) H'
theorem Rf.raise{H H1 H2:Hp}{E:XK}{C y dx T:Addr}{P:LFz->Hp->Prop}{fs:LFz}(r:Rf H E C P)(s1:Same H H1)(hy:H1 y=none)(s:Same H1 H2)(e:H2 y=some (DQ C dx y))(ed:H2 dx=some (CM dx fs))(nd:dx≠y)
  (hT:H2 T=none) (p:P fs (thrown H2 y C (some dx) T)):E (.ref y) (some dx) (thrown H2 y C (some dx) T):=by
 obtain⟨a,b⟩:=Sf hy s e ed hT nd;have hy0:H y=none:=by
  cases q:H y with
  |none=>rfl
  |some o=>rw[s1 y o q]at hy;cases hy
 exact r y dx fs _ hy0 (s1.trans b) a p
def XE(H:Hp)(R:Addr->LFz->Hp->Prop):XK:=λ v d H'=>∃x C dx fs,v=.ref x/\d=some dx/\H x=none/\Same H H'/\XR H' x C (some dx) fs/\R C fs H'
theorem XE.on{H H0:Hp}{R:Addr->LFz->Hp->Prop}{E:XK}(s0:Same H0 H)(st:∀C fs H' x C' d T2,R C fs H'->(∃φ,H' x=some (.ext φ))->H' T2=none->R C fs (thrown H' x C' d T2))(hE:∀C,Rf H0 E C (R C)) :
  ∀x C d T T2 H',XE H R (.ref x) d H'->C6 H' x C d T->H' T2=none->T2≠x->E (.ref x) d (thrown H' x C d T2):=by
 rintro x C d T T2 H' ⟨x',C',dx,fs,ev,rfl,hx,s,r,p⟩ fl hT2 nT2;obtain rfl:x=x':=Value.ref.inj ev;have hx0:H0 x=none:=by
  cases q:H0 x with
  |none=>rfl
  |some o=>rw[s0 x o q]at hx;cases hx
 obtain⟨rfl,r2,s2⟩:=SV hx s r fl hT2;exact hE C' x dx fs _ hx0 (s0.trans s2) r2 (st C' fs H' x C' (some dx) T2 p ⟨_,fl.1⟩ hT2)
def Stb(P:LFz->Hp->Prop):Prop:=∀fs H' x C' d T2,P fs H'->(∃φ,H' x=some (.ext φ))->H' T2=none->P fs (thrown H' x C' d T2)
theorem JA{l:LFz}:Stb λ fs _=>fs=l:=λ_ _ _ _ _ _ p _ _=>p
def RU(H:Hp)(E:XK):Addr->LFz->Hp->Prop:=λ C fs H'=>∃P,Rf H E C P/\P fs H'/\Stb P
theorem Mb{H:Hp}{E:XK}:∀x C d T T2 H',XE H (RU H E) (.ref x) d H'->C6 H' x C d T->H' T2=none->T2≠x->E (.ref x) d (thrown H' x C d T2) :=
 XE.on (Same.refl H) (λ C fs H' x C' d T2 ⟨P,r,p,st⟩ hx hT=>⟨P,r,st fs H' x C' d T2 p hx hT,st⟩) λ C x d fs H' hx s r ⟨P,rf,p,_⟩=>rf x d fs H' hx s r p
theorem QH{H H2:Hp}{E:XK}{C:Addr}{P:LFz->Hp->Prop}(s:Same H H2)(r:Rf H E C P)(st:Stb P):Rf H2 (XE H (RU H E)) C P:=λ x d fs H' hx s2 xr p=>by
 have hx0:H x=none:=by
  cases q:H x with
  |none=>rfl
  |some o=>rw[s x o q]at hx;cases hx
 exact⟨x,C,d,fs,rfl,rfl,hx0,s.trans s2,xr,P,r,p,st⟩
section
variable{X:Cx}{pins:PNz}{σ:St}{H:Hp}{s:Shared}
theorem Gf{M:Model}{A:Around}{E:VPz}{i:Nat}{n:Str}{pos:Pos}{Q:Unit->Shared->Prop}(I:Inv X pins σ H s)(hN:X.N.Nodup)(hi:X.N[i]?=some n)(hk:X.env.scope.names.lookup n=some .local)
    (h:∀s',Inv X pins (σ.set i none) H s'->Q () s'):wpAny M A (do bindName X.env n .none;unbindBehindTheSuite X.env n pos) Q E s:=by
  obtain⟨m,hn,hl⟩:=id I.loc;have hcls:(X.env.scope.kind==.class||(X.env.scope.kind==.module&&X.env.locals != X.env.globals))=false:=by rw[I.ok.kind];rfl
  have hiσ:i<σ.length:=by rw[I.len];exact(List.getElem?_eq_some_iff.mp hi).1
  refine wpAny_nameGoes_keeps hk hn hcls λ h' v hn' hs=>h _ ?_;have nl:∀b o,X.s₀.heap.get? b=some o->b≠X.env.locals:=λ b o e=>Nat.ne_of_lt (Nat.lt_of_lt_of_le (Heap.lt_size e) I.ok.above);refine⟨I.ok,I.os,I.bare,⟨λ b o e z hb hx=>(hs.2 b (nl b o e)).trans (I.base.keep b o e z hb hx),λ b o e z hb hx=>?_,I.base.free,λ b o e hx=>?_,I.base.tups,I.base.frzs,I.base.tbls⟩,⟨_,hn',λ j y v' e1 e2 e3=>?_⟩,λ y c e=>?_,I.free,I.freeC,λ p hp=>?_,λ b ob e=>?_,by simpa using I.len⟩
  · obtain⟨sl,e1⟩:=I.base.slot b o e z hb hx
    exact⟨sl,(hs.2 b (nl b o e)).trans e1⟩
  · obtain⟨o',e1⟩:=I.base.there b o e hx
    exact⟨o',(hs.2 b (nl b o e)).trans e1⟩
  · by_cases hj:j=i
    · subst hj
      rw[List.getElem?_set_self hiσ]at e2;cases e2
    · rw[List.getElem?_set_ne (Ne.symm hj)]at e2
      obtain⟨u',r',q⟩:=hl j y v' e1 e2 e3;refine⟨u',r',?_⟩;rcases q with ⟨k,e⟩|⟨k,c,e,z⟩
      · have ny:y≠n:=λ e=>hj (GU hN e1 (e ▸ hi))
        exact .inl ⟨k,by simp[ny,e]⟩
      · exact .inr ⟨k,c,e,z.sameBut hs (I.cne y c e)⟩
  · obtain⟨w',z⟩:=I.cell y c e
    exact⟨w',z.sameBut hs (I.cne y c e)⟩
  · obtain⟨e,z,ne,nf,d⟩:=I.pin p hp
    exact⟨(hs.2 p.1 ne).trans e,z,ne,nf,d⟩
  · refine(I.hok b ob e).stay (λ c w' hc q=>(hs.2 c ?_).trans q) (λ_ q=>q) λ_ _ q=>q
    rintro rfl;rcases hc with hc|hc
    · rw[<-hc,I.free]at e;cases e
    · rw[I.free]at hc;cases hc
abbrev Cx.suite(X:Cx)(x:Addr):Cx:={ X with A:=X.A.mark (some (.ref x)),calm:=false,xe:=λ_ _=>False }
theorem Inv.suite(I:Inv X pins σ H s)(x:Addr):Inv (X.suite x) pins σ H s :=
 ⟨⟨I.ok.mod,I.ok.kind,I.ok.glob,I.ok.blt,I.ok.above,I.ok.inj,I.ok.has,I.ok.cab,(λ z=>nomatch z),I.ok.frames,I.ok.stk,I.ok.exf,I.ok.bs,I.ok.bsz,I.ok.noex,I.ok.exfs,I.ok.funs,I.ok.frf⟩,I.os,I.bare,I.base,I.loc,I.cell,I.free,I.freeC,I.pin,I.hok,I.len⟩
theorem Inv.unsuite{ok:X.Ok}{x:Addr}(I:Inv (X.suite x) pins σ H s):Inv X pins σ H s :=
 ⟨ok,I.os,I.bare,I.base,I.loc,I.cell,I.free,I.freeC,I.pin,I.hok,I.len⟩
end
def PX(X:Cx)(e:Expr)(t:TE)(E:XK):Prop:=∀(pins:PNz)(s:Shared)(σ:St)(H:Hp)(Q:VK)(Ex:VPz),Inv X pins σ H s->t σ H Q ->
 (∀x T C d H' s',Inv X pins σ H' s'->C6 H' x C d T->E (.ref x) d H'->Ex (.ref x) s')->wpAny (model X.prog X.w) X.A (eval e X.env) (EP X pins σ Q) Ex s
section
variable{X:Cx}{k j:Nat}{x:Str}{C:Addr}{ps:LSz}{sp:Sp}{p pos:Pos}{e:Expr}{es:List Expr}{t:TA}{E:XK}
theorem Pq(D:BI X.prog X.w X.K X.mg X.base k x ps sp)(hr:Room j X.A)(ha:PA X.nox (e::es) t)(hj:k<=j:=by decide)(hg:Gl X x:=by rfl)(hdb:(x==("__debug__":Str))=false:=by decide)
  (he:starEach (e::es) X.env=(false,eval e X.env)::starEach es X.env:=by rfl) (hpl:(backTo pos (starEach es X.env)).any (·.1)=false:=by rfl):PX X (.Call (.Name x p) (e::es) [] pos) (MR sp [] E t) E:=by
 obtain⟨f,fd,F,hm,hk,hb⟩:=D.ex;intro pins s σ H Q Ex I h hx;refine wpAny_Call_Name_kw (C3 I hg hm ?_ hdb);refine callWith_K (h₀:=X.base) I.ok.mod.kin hk (wpAny_mono (ha pos pins s σ H _ (I.wish _) h) (λ us s1 ⟨vs,H1,I1',r,q⟩=>⟨I1'.unwish.kIn,?_⟩) λ_ _ z=>False.elim z) he hpl;have I1:Inv X pins σ H1 s1:=I1'.unwish;have q:sp (vs++[]) H1 Q E:=q;rw[List.append_nil]at q;have hl:us.length=ps.length:=by rw[<-r.length];exact F.len _ _ _ _ q
 have hb2:=hb s1 us I1.kIn (by rw[List.append_nil];exact hl);rw[List.append_nil]at hb2;refine wpAny_call (codeAny_mono (F.run X.A X.stack s1 H1 ⟨us,[]⟩ us vs Q E (hr.mono hj) I1.env0 hb2 r q) λ r s' hq=>?_);cases r with
 |error e =>
  obtain⟨x,T,C,d,H',rfl,os,bare,un,hok,fl,q'⟩:=hq;exact hx x T C d H' s' (I1.call' (ch:=[]) os un hok bare (λ b z=>absurd z (by simp))) fl q'
 |ok fl =>
  cases fl with
  |ret u=>exact I1.after hq
  |next=>exact False.elim hq
  |brk=>exact False.elim hq
  |cont=>exact False.elim hq
end
def RS(im:Nat)(D:EG):EG:={ nx:=λ σ H=>D.nx (σ.set im none) H,rt:=D.rt,bk:=λ σ H=>D.bk (σ.set im none) H,ct:=λ σ H=>D.ct (σ.set im none) H }
def LO(wi:TI)(g:TG)(tc:TT)(te:TE)(fr:List (Option Nat)):TE:=λ σ H Q=>wi σ H λ J H1=>∀acc,H1 acc=none->∃W:Nat->Nat->St->Hp->Prop,(∃m,W 0 m (stC fr σ) (upd H1 acc (.lst [])))/\∀i m σ1 H2,W i m σ1 H2 ->
 (J.stop i H2/\Q (.ref acc) H2)\/(J.go i H2/\∀x H3,J.yld i H2 x H3->g x σ1 H3 λ σ4 H4=>tc σ4 H4 λ b Hb=>match b with
  |true=>te σ4 Hb λ v H5=>∃xs,H5 acc=some (.lst xs)/\xs.length<sizeLine/\∃m',m'<m/\W (i+1) m' σ4 (upd H5 acc (.lst (xs++[v])))
  |false=>∃m',m'<m/\W (i+1) m' σ4 Hb)
section
variable{prog:Program}{w:World}{A:Around}{R:Result->Shared->Prop}{s:Shared}
theorem Ik{elt target iter cnd:Expr}{scope:Scope}{pos:Pos}{it acc:Value}{env:Env}(I:Nat->Shared->Prop)
    (turn:∀n s,I n s->wpAny (model prog w) A (pyNext it) (λ r s₁=>match r with
      |none=>R (.ok .next) s₁
      |some v=>wpAny (model prog w) A (letOwnedTupleGo target it v) (λ_ s₁=>wpAny (model prog w) A (assign target env v) (λ_ s₂ =>
          wpAny (model prog w) A (forIn [cnd] true λ c r=>if r=true then do let ok <-isTrue c env (eval c env);pure (ForInStep.yield ok) else pure (ForInStep.yield r)) (λ ok s₃ =>
            if ok=true then wpAny (model prog w) A (eval elt env) (λ x s₄=>wpAny (model prog w) A (call (.builtin "list.append") [acc,x]) (λ_ s₅=>∃m,m<n/\I m s₅) (notedBy (model prog w) A env λ e s'=>R (.error e) s') s₄)
              (notedBy (model prog w) A env λ e s'=>R (.error e) s') s₃
            else ∃m,m<n/\I m s₃) (notedBy (model prog w) A env λ e s'=>R (.error e) s') s₂)
          (notedBy (model prog w) A env λ e s'=>R (.error e) s') s₁) (notedBy (model prog w) A env λ e s'=>R (.error e) s') s₁) (notedBy (model prog w) A env λ e s'=>R (.error e) s') s)
    (n:Nat) (h:I n s) :
    codeAny (model prog w) A (.compLoop (.ListComp elt [⟨target,iter,[cnd],0⟩] scope pos) 0 it acc env) R s:=by
  refine codeAny_loop rfl I (λ n s hI=>?_) n h;show wpAny _ _ ((compTurn (.ListComp elt [⟨target,iter,[cnd],0⟩] scope pos) 0 it acc env).onRaise (λ x=>do noteFrame x env;theTreesLotGoes x)) _ _ s;refine wpAny_noted ?_;rw[compTurn_list];refine wpAny_bind (wpAny_standAt (wpAny_bind (wpAny_mono (turn n s hI) (λ r s₁ h₁=>?_) λ_ _ h'=>h')));cases r with
  |none=>exact wpAny_pure h₁
  |some v =>
    refine wpAny_bind (wpAny_mono h₁ (λ_ s₁ h₁=>?_) λ_ _ h'=>h');refine wpAny_bind (wpAny_mono h₁ (λ_ s₂ h₂=>wpAny_bind (wpAny_mono h₂ (λ ok s₃ h₃=>?_) λ_ _ h'=>h')) λ_ _ h'=>h');cases ok with
    |false=>exact wpAny_pure ⟨rfl,h₃⟩
    |true=>exact wpAny_bind (wpAny_bind (wpAny_mono h₃ (λ x s₄ h₄=>wpAny_bind (wpAny_mono h₄ (λ_ s₅ h₅=>wpAny_pure (wpAny_pure ⟨rfl,h₅⟩)) λ_ _ h'=>h')) λ_ _ h'=>h'))
end
section
variable{X:Cx}{elt tg iter:Expr}{scope:Scope}{pos:Pos}{wi:TI}{g:TG}{te:TE}{N:LSz}{fr:List (Option Nat)}
variable{cnd:Expr}{tc:TT}
theorem Hy{pins:PNz}{σ:St}{H:Hp}{s:Shared}{Q:VK}{cl:List (Str×Addr)}{R:Value->Addr->Result->Shared->Prop}(hc:X.calm=true)(I:Inv X pins σ H s)(hi:PI X tg iter wi)
  (hg:∀cl C s H ex,PG (AM X scope cl N C s H ex) tg g) (hcn:∀cl C s H ex,PT (AM X scope cl N C s H ex) cnd tc) (he:∀cl C s H ex,PE (AM X scope cl N C s H ex) elt te) (ck:Fj X.env.scope X.N scope N fr)
  (c1:∀x c,cl.lookup x=some c->X.env.cells.lookup x=some c) (c2:∀x,(x,NameKind.free)∈scope.names->∃c,cl.lookup x=some c)
  (h:LO wi g tc te fr σ H Q)
  (hR:∀acc C s' H' m,s'.heap.Ns C m->FC X pins H' C->Inv X pins σ H' s'->Q (.ref acc) H'->R (.ref acc) C (.ok .next) s') :
  wpAny (model X.prog X.w) X.A (eval iter X.env) (λ x s₁=>wpAny (model X.prog X.w) X.A (pyIter x) (λ it s₂=>wpAny (model X.prog X.w) X.A (newList []) (λ acc s₃ =>
   wpAny (model X.prog X.w) X.A (newFunctionEnv scope X.env.globals cl [] X.env.qual none .none (some X.env)) (λ cenv s₄ =>
    codeAny (model X.prog X.w) X.A (.compStart (.ListComp elt [⟨tg,iter,[cnd],0⟩] scope pos) 0 it acc { cenv with scope:=relabel scope X.env }) (R acc cenv.locals) s₄) X.xe s₃) X.xe s₂) X.xe s₁) X.xe s:=by
 refine thn (hi pins s σ H _ I h) λ v s1 h1=>thn h1 λ itv s2 h2=>?_;obtain⟨it,fp,tn,J,H2,e,I2,T,st2,f2,q2⟩:=h2;subst e;refine wpAny_newObj_type (wpAny_newFunctionEnv ck.nocell (by intro y hy;simp at hy) (λ h₁ hns₁ hsb₁=>?_) ck.kind);dsimp only at hns₁ hsb₁ |-;have I3:Inv X pins σ (upd H2 s2.heap.objs.size (.lst [])) { s2 with heap:=s2.heap.push { cls:=.type "list",dict:=none,data:=.seq ([]:LWz).toArray } }:=I2.lnew (t':=s2.toks) (its:=[]) .nil (Nat.zero_le _);have acc0:H2 s2.heap.objs.size=none:=I2.fresh;obtain⟨W,⟨m0,w0⟩,turn⟩:=q2 s2.heap.objs.size acc0;generalize hH3:s2.heap.push { cls:=.type "list",dict:=none,data:=.seq ([]:LWz).toArray }=h3 at hns₁ hsb₁ I3 |-;have hz3:h3.objs.size=s2.heap.objs.size+1:=by rw[<-hH3,Heap.size_push]
 have k23:∀b o,s2.heap.get? b=some o->h3.get? b=some o:=λ b o e=>by rw[<-hH3];exact Heap.get?_push_of_some _ e
 have k34:∀b o,h3.get? b=some o->h₁.get? b=some o:=λ b o e=>hsb₁.extBut b o (Nat.ne_of_lt (Heap.lt_size e)) (Heap.get?_push_of_some _ e);have fpo:∀b∈fp,∃o,s2.heap.get? b=some o/\∀v,o.data≠.cell v:=T.obj 0 _ st2;have hex:∀b∈fp,FC X pins (upd H2 s2.heap.objs.size (.lst [])) b/\b<h3.objs.size:=λ b hb=>by
  obtain⟨o,eo,_⟩:=fpo b hb;have lt:=Heap.lt_size eo;obtain⟨f0,fr'⟩:=f2 b hb;exact⟨⟨by rw[Ah (Nat.ne_of_lt lt)];exact f0,fr'⟩,by rw[hz3];exact Nat.lt_succ_of_lt lt⟩
 have I4:Inv (AM X scope cl N h3.objs.size { s2 with heap:=h3 } (upd H2 s2.heap.objs.size (.lst [])) fp) [] (stC fr σ) (upd H2 s2.heap.objs.size (.lst [])) { s2 with heap:=h₁,toks:=s2.toks+([]:List (Str×Value)).length } :=
  Hw I3 ck c1 c2 hex (Nat.le_refl _) hns₁ k34 rfl rfl
 have stat:∀{H':Hp},(∀b∈fp,H' b=none)->∀b∈fp,FC (AM X scope cl N h3.objs.size { s2 with heap:=h3 } (upd H2 s2.heap.objs.size (.lst [])) fp) [] H' b:=λ hn b hb =>
  ⟨hn b hb,(I4.ok.exf b hb).1,I4.ok.exfs b hb,.inl hb,(I4.ok.exf b hb).2,λ p hp=>by simp at hp⟩
 have stn:∀i h h',tn i h->(∀b o,h.get? b=some o->h'.get? b=some o)->tn i h':=λ i h h' st kk=>T.keep i h h' st λ b _ o e=>kk b o e;have loop:codeAny (model X.prog X.w) X.A (.compLoop (.ListComp elt [⟨tg,iter,[cnd],0⟩] scope pos) 0 (.ref it) (.ref s2.heap.objs.size) (compEnvC scope cl h3.objs.size X.env)) (R (.ref s2.heap.objs.size) h3.objs.size)
   { s2 with heap:=h₁,toks:=s2.toks+([]:List (Str×Value)).length }:=by
  refine Ik (λ n s'=>∃i σ' H',Inv (AM X scope cl N h3.objs.size { s2 with heap:=h3 } (upd H2 s2.heap.objs.size (.lst [])) fp) [] σ' H' s'/\tn i s'.heap/\(∀b∈fp,H' b=none)/\W i n σ' H') ?_ m0
   ⟨0,_,_,I4,stn _ _ _ st2 λ b o e=>k34 b o (k23 b o e),λ b hb=>(hex b hb).1.1,w0⟩
  rintro n s3 ⟨i,σ3,H3,J3,st3,fr3,w3⟩;rcases turn i n σ3 H3 w3 with ⟨stop,qn⟩|⟨go,step⟩
  .refine Br (thn (T.done (AM X scope cl N h3.objs.size { s2 with heap:=h3 } (upd H2 s2.heap.objs.size (.lst [])) fp) rfl rfl rfl hc i [] s3 σ3 H3 (λ_ _=>False) J3 (stat fr3) st3 stop) λ r s4 hz_=>?_);obtain⟨hr,J4⟩:=hz_;subst hr;obtain⟨mc,hmc,_⟩:=J4.loc;have I5:Inv X pins σ H3 s4:=I3.call' (ch:=fp) J4.os J4.base J4.hok J4.bare λ b hb=>⟨(hex b hb).1.2.2.2.1,(hex b hb).1.2.1,(hex b hb).1.2.2.2.2.1,(hex b hb).1.2.2.2.2.2⟩;exact hR _ _ s4 H3 mc hmc (I3.fpOk (Nat.le_refl _) J4.free) I5 qn
  .refine Br (thn (T.item (AM X scope cl N h3.objs.size { s2 with heap:=h3 } (upd H2 s2.heap.objs.size (.lst [])) fp) rfl rfl rfl hc i [] s3 σ3 H3 (λ_ _=>False) J3 (stat fr3) st3 go) λ r s4 hz_=>?_);obtain⟨u,hr,h4⟩:=hz_;subst hr;refine Br (thn h4 λ_ s5 hz_=>?_);obtain⟨x,H5,J5,r5,y5,st5,fr5⟩:=hz_;have J5':=J5.pinned (stat fr5) (T.obj _ _ st5);refine Br (thn (hg _ _ _ _ _ _ s5 σ3 H5 x u _ J5' r5 (step x H5 y5)) λ_ s6 hz_=>?_);obtain⟨σ6,H6,J6,q6⟩:=hz_;refine wpAny_tests_one (Br (thn (hcn _ _ _ _ _ _ s6 σ6 H6 _ J6 q6) λ b sb hz_=>?_));obtain⟨Hb,Jb,qb⟩:=hz_;cases b with
   |false =>
    obtain⟨m',hm',w7⟩:=qb;refine ite_ff ⟨m',hm',i+1,σ6,_,Jb.unpinned,T.keep _ _ _ st5 λ b hb o e=>(Jb.pin (b,o) (List.mem_append_right _ (List.mem_append_right _ (Bc hb e)))).1,λ b hb=>?_,w7⟩;obtain⟨o,e,d⟩:=T.obj _ _ st5 b hb;exact(Jb.pin (b,o) (List.mem_append_right _ (List.mem_append_right _ (Bc hb e)))).2.1
   |true =>
    refine ite_tt ?_;refine Br (thn (he _ _ _ _ _ _ sb σ6 Hb _ Jb qb) λ y s7 hz_=>?_);obtain⟨v7,H7,J7,r7,xs,hx,hz,m',hm',w7⟩:=hz_;refine Br (thn (AX _ s7 σ6 H7 (.ref s2.heap.objs.size) [v7] (.ref s2.heap.objs.size) [y] (λ v H8=>H8=upd H7 s2.heap.objs.size (.lst (xs++[v7]))) J7 rfl (.cons r7 .nil) ⟨_,xs,v7,rfl,rfl,hx,hz,rfl⟩) λ_ s8 hz_=>?_);obtain⟨_,H8,J8,_,e8⟩:=hz_;subst e8;refine⟨m',hm',i+1,σ6,_,J8.unpinned,T.keep _ _ _ st5 λ b hb o e=>(J8.pin (b,o) (List.mem_append_right _ (List.mem_append_right _ (Bc hb e)))).1,λ b hb=>?_,w7⟩;obtain⟨o,e,d⟩:=T.obj _ _ st5 b hb;exact(J8.pin (b,o) (List.mem_append_right _ (List.mem_append_right _ (Bc hb e)))).2.1
 exact codeAny_compStart_list loop (T.self _ 0 _ _ _ (stn _ _ _ st2 λ b o e=>k34 b o (k23 b o e)) loop)
theorem KD(hc:X.calm=true)(hi:PI X tg iter wi)(hg:∀cl C s H ex,PG (AM X scope cl N C s H ex) tg g)(hcn:∀cl C s H ex,PT (AM X scope cl N C s H ex) cnd tc)(he:∀cl C s H ex,PE (AM X scope cl N C s H ex) elt te)
  (hk:Ee X.env.scope X.N scope N fr=true:=by rfl) (hs:∀x,foldedSetIterable iter X.env x=pure x:=by intro _;rfl):PE X (.ListComp elt [⟨tg,iter,[cnd],0⟩] scope pos) (LO wi g tc te fr):=by
 intro pins s σ H Q I h;have ck:=Dt hk;obtain⟨cl,e1,c1,c2⟩:=Gm I.ok ck;rw[eval_ListComp];refine wpAny_comprehension_free (use:=none) (Q:=EP X pins σ Q) rfl hs e1 ck.kind ck.loc (Hy (R:=λ acc C=>compPost (model X.prog X.w) X.A X.xe none (EP X pins σ Q) acc C) hc I hi hg hcn he ck c1 c2 h λ acc C s' H' m hn f I' q=>?_);obtain⟨f0,f1,f2,f3,f4,f5⟩:=f;exact⟨m,hn,λ h' hs'=>⟨.ref acc,H',I'.turned (t':=s'.toks) (λ b o hb e=>hs'.extBut b o hb e) f0 f1 f3 f4 f5,rfl,q⟩⟩
theorem FF{y:Str}{py spos:Pos}{gy:TG}(hc:X.calm=true)(hy:PG X (.Name y py) gy)(hi:PI X tg iter wi)(hg:∀cl C s H ex,PG (AM X scope cl N C s H ex) tg g)(hcn:∀cl C s H ex,PT (AM X scope cl N C s H ex) cnd tc)(he:∀cl C s H ex,PE (AM X scope cl N C s H ex) elt te)
    (hk:Ee X.env.scope X.N scope N fr=true:=by rfl) (hsw:swapsWith (.ListComp elt [⟨tg,iter,[cnd],0⟩] scope pos) (some (.Name y py)) spos.line X.env=pure true:=by rfl) (hs:∀x,foldedSetIterable iter X.env x=pure x:=by intro _;rfl) :
    PS X (.Assign [.Name y py] (.ListComp elt [⟨tg,iter,[cnd],0⟩] scope pos) spos) (Q6 (LO wi g tc te fr) gy):=by
  intro pins s σ H D I h;have ck:=Dt hk;obtain⟨cl,e1,c1,c2⟩:=Gm I.ok ck;rw[exec_Assign_Name_used _ _ _ _ hsw];refine wpAny_bind (wpAny_standAt (wpAny_bind ?_));show wpAny _ X.A (do let _ <-comprehension (.ListComp elt [⟨tg,iter,[cnd],0⟩] scope pos) scope X.env _ (newList []) false (eval iter X.env) (some (assign (.Name y py) X.env))) _ _ s;refine wpAny_bind (wpAny_mono (wpAny_comprehension_free (use:=some (assign (.Name y py) X.env)) (Q:=λ_ s'=>SP X pins D .next s') rfl hs e1 ck.kind ck.loc
    (Hy (R:=λ acc C=>compPost (model X.prog X.w) X.A X.xe (some (assign (.Name y py) X.env)) (λ_ s'=>SP X pins D .next s') acc C) hc I hi hg hcn he ck c1 c2 h λ acc C s' H' m hn f I' q=>?_)) (λ_ s' hq=>wpAny_pure (wpAny_pure hq)) λ_ _ e=>e)
  show wpAny _ X.A (assign (.Name y py) X.env (.ref acc)) _ _ _;obtain⟨oC,es,ep,hoC,hdC,hrC⟩:=id hn;have IP:=I'.pinned (fp:=[C]) (λ b hb=>by rw[List.mem_singleton.mp hb];exact f) (λ b hb=>by rw[List.mem_singleton.mp hb];exact⟨oC,hoC,λ v z=>by rw[hdC]at z;cases z⟩);refine thn (hy _ s' σ H' (.ref acc) (.ref acc) _ IP rfl q) λ_ s'' ⟨σ6,H6,I6,q6⟩=>?_;have pC:=I6.pin (C,oC) (List.mem_append_right _ (List.mem_append_right _ (Bc (List.mem_singleton.mpr rfl) hoC)));obtain⟨f0,f1,f2,f3,f4,f5⟩:=f;exact⟨m,⟨oC,es,ep,pC.1,hdC,hrC⟩,λ h' hs'=>⟨σ6,H6,I6.unpinned.turned (t':=s''.toks) (λ b o hb e=>hs'.extBut b o hb e) pC.2.1 f1 f3 f4 f5,q6⟩⟩
end
section
variable{X:Cx}{a b c d:Expr}{ta tb tc td:TE}{pos:Pos}
theorem Fa{K:Frag}(hK:X.K=K:=by rfl):IxR X (Sy K):=by subst hK;exact Am
end
def fW(acc:Addr)(n:Nat)(Pv:Nat->LUz->St->Hp->Prop)(i m:Nat)(σ:St)(H:Hp):Prop:=i<=n/\m=n-i/\∃xs,xs.length<=i/\H acc=some (.lst xs)/\Pv i xs σ H
def fNx(acc:Addr)(n:Nat)(Pv:Nat->LUz->St->Hp->Prop)(i:Nat)(σ:St)(v:V)(H:Hp):Prop:=∃xs,H acc=some (.lst xs)/\xs.length<sizeLine/\∃m',m'<n-i/\fW acc n Pv (i+1) m' σ (upd H acc (.lst (xs++[v])))
def fSk(acc:Addr)(n:Nat)(Pv:Nat->LUz->St->Hp->Prop)(i:Nat)(σ:St)(H:Hp):Prop:=∃m',m'<n-i/\fW acc n Pv (i+1) m' σ H
theorem fNx.mk{acc:Addr}{n:Nat}{Pv:Nat->LUz->St->Hp->Prop}{i:Nat}{σ:St}{v:V}{H:Hp}{xs:LUz}(hn:n<=sizeLine)(hi:i<n)(hl:xs.length<=i)(ha:H acc=some (.lst xs))(hp:Pv (i+1) (xs++[v]) σ (upd H acc (.lst (xs++[v])))) :
  fNx acc n Pv i σ v H:=⟨xs,ha,by lia,n-(i+1),by lia,hi,rfl,xs++[v],by rw[List.length_append,List.length_singleton];lia,upd_same,hp⟩
theorem fSk.mk{acc:Addr}{n:Nat}{Pv:Nat->LUz->St->Hp->Prop}{i:Nat}{σ:St}{H:Hp}{xs:LUz}(hi:i<n)(hl:xs.length<=i)(ha:H acc=some (.lst xs))(hp:Pv (i+1) xs σ H):fSk acc n Pv i σ H:=⟨n-(i+1),by lia,hi,rfl,xs,by lia,ha,hp⟩
theorem EB{K:Frag}{a:Addr}{ys:LUz}{g:TG}{tc:TT}{te:TE}{σ:St}{H1:Hp}{acc:Addr}{Qr:Hp->Prop}(Pv:Nat->LUz->St->Hp->Prop)(h0:Pv 0 [] σ (upd H1 acc (.lst [])))
  (hq:∀i xs σ H,i<=ys.length->H acc=some (.lst xs)->Pv i xs σ H->SqL K H a ys)
  (hs:∀i x xs σ H,ys[i]?=some x->i<ys.length->xs.length<=i->H acc=some (.lst xs)->Pv i xs σ H->g x σ H λ σ2 H2=>tc σ2 H2 λ b Hb=>match b with
   |true=>te σ2 Hb λ v H3=>fNx acc ys.length Pv i σ2 v H3
   |false=>fSk acc ys.length Pv i σ2 Hb)
  (hd:∀xs σ H,xs.length<=ys.length->H acc=some (.lst xs)->Pv ys.length xs σ H->Qr H) :
  ∃W:Nat->Nat->St->Hp->Prop,(∃m,W 0 m σ (upd H1 acc (.lst [])))/\∀i m σ1 H2,W i m σ1 H2 ->
   ((Itl K a).stop i H2/\Qr H2)\/((Itl K a).go i H2/\∀x H3,(Itl K a).yld i H2 x H3->g x σ1 H3 λ σ4 H4=>tc σ4 H4 λ b Hb=>match b with
    |true=>te σ4 Hb λ v H5=>∃xs,H5 acc=some (.lst xs)/\xs.length<sizeLine/\∃m',m'<m/\W (i+1) m' σ4 (upd H5 acc (.lst (xs++[v])))
    |false=>∃m',m'<m/\W (i+1) m' σ4 Hb):=by
 refine⟨fW acc ys.length Pv,⟨ys.length,Nat.zero_le _,rfl,[],Nat.le_refl _,upd_same,h0⟩,?_⟩;rintro i m σ1 H2 ⟨hi,rfl,xs,hl,ha,hp⟩;have hsq:=hq i xs σ1 H2 hi ha hp;rcases Nat.lt_or_ge i ys.length with h|h
 .refine .inr ⟨⟨ys,ys[i],hsq,List.getElem?_eq_getElem h⟩,?_⟩;rintro x H3 ⟨rfl,hx⟩;exact hs i x xs σ1 H3 (hx ys hsq) h hl ha hp
 .have e:i=ys.length:=Nat.le_antisymm hi h;subst e;exact .inl ⟨⟨ys,hsq,Nat.le_refl _⟩,hd xs σ1 H2 hl ha hp⟩
theorem Lw{lo:Int}{n:Nat}{g:TG}{tc:TT}{te:TE}{σ:St}{H1:Hp}{acc:Addr}{Qr:Hp->Prop}(Pv:Nat->LUz->St->Hp->Prop)(h0:Pv 0 [] σ (upd H1 acc (.lst [])))
  (hs:∀i xs σ H,i<n->xs.length<=i->H acc=some (.lst xs)->Pv i xs σ H->g (.int (lo+i)) σ H λ σ2 H2=>tc σ2 H2 λ b Hb=>match b with
   |true=>te σ2 Hb λ v H3=>fNx acc n Pv i σ2 v H3
   |false=>fSk acc n Pv i σ2 Hb)
  (hd:∀xs σ H,xs.length<=n->H acc=some (.lst xs)->Pv n xs σ H->Qr H) :
  ∃W:Nat->Nat->St->Hp->Prop,(∃m,W 0 m σ (upd H1 acc (.lst [])))/\∀i m σ1 H2,W i m σ1 H2 ->
   ((Itr lo n).stop i H2/\Qr H2)\/((Itr lo n).go i H2/\∀x H3,(Itr lo n).yld i H2 x H3->g x σ1 H3 λ σ4 H4=>tc σ4 H4 λ b Hb=>match b with
    |true=>te σ4 Hb λ v H5=>∃xs,H5 acc=some (.lst xs)/\xs.length<sizeLine/\∃m',m'<m/\W (i+1) m' σ4 (upd H5 acc (.lst (xs++[v])))
    |false=>∃m',m'<m/\W (i+1) m' σ4 Hb):=by
 refine⟨fW acc n Pv,⟨n,Nat.zero_le _,rfl,[],Nat.le_refl _,upd_same,h0⟩,?_⟩;rintro i m σ1 H2 ⟨hi,rfl,xs,hl,ha,hp⟩;rcases Nat.lt_or_ge i n with h|h
 .refine .inr ⟨h,?_⟩;rintro x H3 ⟨rfl,rfl⟩;exact hs i xs σ1 H3 h hl ha hp
 .have e:i=n:=Nat.le_antisymm hi h;subst e;exact .inl ⟨Nat.le_refl _,hd xs σ1 H2 hl ha hp⟩
structure MM(K:Frag)(C:Addr):Prop where
 cl:Cls K C
 ha:findIn K (.ref C) "__class__"=some (some (.builtin "object.__class__"))
 hn:specialIn K (.builtin "object.__class__") "__get__"=some (some (.builtin "getset_descriptor.__get__"))
 htk:takesIn K (.builtin "object.__class__")=some true
 hm:mroIn K C (.type "object")=some true
section
variable{X:Cx}
theorem ED:Da X (.builtin "isinstance") (λ xs H Q=>∃a C dx fs c u b,xs=[.ref a,c]/\H a=some (.ins C dx fs)/\MM X.K C/\RelV c u/\(∀u',RelV c u'->u'=u)/\kitOne X.K (.ref C) u=some b/\Q (.bl b) H):=by
 intro pins s σ H xs us Q I r h;obtain⟨a,C,dx,fs,c,u,b,rfl,he,hc,ru,uq,hk,q⟩:=h;obtain⟨v1,v2,rfl,r1,r2⟩:=K0 r;have:=uq v2 r2;subst this;exact IV I r1 (.ins he hc.cl hc.ha hc.hn hc.htk hc.hm) hk λ tk=>⟨.bl b,H,I.tok tk,rfl,q⟩
end
def Itv(K:Frag)(a:Addr)(n:Nat):It :=
 ⟨λ i H=>∃xs,SqL K H a xs/\xs.length=n/\i<n,λ i H x H'=>H'=H/\∀xs,SqL K H a xs->xs[n-1-i]?=some x,λ i H=>n<=i⟩
theorem OS{P:Program}{w:World}{K:Frag}{tg:Expr}(a it:Addr)(n:Nat):Qq P w K tg (Itv K a n) [it] it (λ i h=>i<=n/\h.IsRevIter it a ((n:Int)-1-i)) where
 mem:=by simp
 obj:=λ i h st b hb=>by
  have e:b=it:=by simpa using hb
  subst e;obtain⟨_,o,e,c,d⟩:=st;exact⟨o,e,λ v z=>by rw[d]at z;cases z⟩
 keep:=λ i h h' st k=>⟨st.1,st.2.at λ o e=>k it (by simp) o e⟩
 item:=by
  intro X hP hw hK hc i pins s σ H E I hf st hg;subst hP hw hK;obtain⟨xs,hq,hn,hi⟩:=hg;obtain⟨hin,st⟩:=st;obtain⟨its,rv,p,hz⟩:=I.list hq;have hx:xs[n-1-i]?=some (xs[n-1-i]'(by lia)):=List.getElem?_eq_getElem (by lia);obtain⟨u,hu,ru⟩:=rv.get hx;obtain⟨f0,f1,f2,f3,f4,f5⟩:=hf it (by simp);have st':s.heap.IsRevIter it a (((n-1-i:Nat):Int)):=by
   rw[show(((n-1-i:Nat):Int))=(n:Int)-1-i by lia];exact st
  refine wpAny_pyNext_rev_item st' p.isList (x:=u) (by simpa using hu) λ h' st' sb=>?_;have I1:Inv X pins σ H { s with heap:=h' }:=I.turned (t':=s.toks) (λ b o hb e=>(sb.2 b hb).trans e) f0 f1 f3 f4 f5;obtain⟨o,e,c,d⟩:=id st';refine⟨u,rfl,N0 (s:={ s with heap:=h' }) e c d (by decide) ⟨_,H,I1,ru,⟨rfl,λ ys hy=>by rw[I.list_inj hy hq];exact hx⟩,⟨by lia,?_⟩,λ b hb=>(hf b hb).1⟩⟩;rw[show(n:Int)-1-((i+1:Nat):Int)=((n-1-i:Nat):Int)-1 by lia];exact st'
 done:=by
  intro X hP hw hK hc i pins s σ H E I hf st hg;subst hP hw hK;obtain⟨hin,st⟩:=st;obtain⟨f0,f1,f2,f3,f4,f5⟩:=hf it (by simp);have e:i=n:=Nat.le_antisymm hin hg;subst e;rw[show(i:Int)-1-(i:Int)=-1 by lia]at st;exact wpAny_pyNext_rev_end (I.ok.hd hc) st λ h' eb=>⟨rfl,I.turned (t':=s.toks) (λ b o hb e=>eb b o hb e) f0 f1 f3 f4 f5⟩
 self:=λ_ _ _ _ _ st h=>wpAny_pyIter_revIter st.2 h
def UJ(K:Frag)(ta:TA):TI:=λ σ H R=>ta σ H λ vs H1=>∃a xs,vs=[.ref a]/\SqL K H1 a xs/\R (Itv K a xs.length) H1
theorem Il:bootBuiltins "reversed"=some (.type "reversed"):=rfl
section
variable{X:Cx}{tg:Expr}
theorem QP{a:Expr}{ta:TA}{p pos:Pos}(hg:Gl X "reversed")(hm:X.mg "reversed"=none)(ha:PA X [a] ta)(hs:starEach [a] X.env=[(false,eval a X.env)]:=by rfl) :
  PI X tg (.Call (.Name "reversed" p) [a] [] pos) (UJ X.K ta):=by
 intro pins s σ H R I h;refine Call_ (E5 I hg hm Il (PyProof.Rows.callWith_type1 (thn (ha pos pins s σ H _ I h) λ us s1 hz_=>?_) hs rfl));obtain⟨vs,H1,I1,r1,q1⟩:=hz_;obtain⟨b,xs,e,hq,q⟩:=q1;subst e;cases r1 with
 |cons r rr =>
  cases rr;cases r;obtain⟨its,rv,pl,hz⟩:=I1.list hq;have hl:=rv.length;refine call_reversed_list pl.isList ?_;have I2:Inv X pins σ H1 { s1 with heap:=s1.heap.push (revObj b ((its.toArray.size:Int)-1)) }:=I1.kept (t':=s1.toks) λ c o e=>Heap.get?_push_of_some _ e;refine wpAny_pyIter_revIter (s:={ s1 with heap:=s1.heap.push (revObj b ((its.toArray.size:Int)-1)) }) ⟨_,Heap.get?_push_size _ rfl,rfl,rfl⟩ ?_;refine⟨s1.heap.objs.size,[s1.heap.objs.size],_,_,H1,rfl,I2,OS b _ xs.length,⟨Nat.zero_le _,⟨_,Heap.get?_push_size _ rfl,rfl,?_⟩⟩,λ c hc=>?_,q⟩
  .show Data.fields _=Data.fields _;rw[show((its.toArray.size:Int)-1)=(xs.length:Int)-1-((0:Nat):Int) by rw[List.size_toArray,<-hl];lia]
  .have e:c=s1.heap.objs.size:=by simpa using hc
   subst e;exact I1.fpOk (Nat.le_refl _) (I1.hok.fresh (Nat.le_refl _))
end
theorem Ru{K:Frag}{a:Addr}{xs:LUz}{g:TG}{tb:TS}{D:EG}{σ:St}{H:Hp}(Pv:Nat->St->Hp->Prop)(h0:Pv 0 σ H)(hl:∀i σ H,i<=xs.length->Pv i σ H->SqL K H a xs)
  (hs:∀i x σ H,xs[xs.length-1-i]?=some x->i<xs.length->Pv i σ H->g x σ H λ σ2 H2=>tb { D with nx:=Pv (i+1),ct:=Pv (i+1),bk:=D.nx } σ2 H2) (hd:∀σ H,Pv xs.length σ H->D.nx σ H) :
  ∃W:Nat->Nat->St->Hp->Prop,(∃m,W 0 m σ H)/\∀i m σ H,W i m σ H ->
   ((Itv K a xs.length).stop i H/\D.nx σ H)\/((Itv K a xs.length).go i H/\∃N:St->Hp->Prop,(∀σ' H',N σ' H'->∃m',m'<m/\W (i+1) m' σ' H')/\∀x H',(Itv K a xs.length).yld i H x H'->g x σ H' λ σ2 H2=>tb { D with nx:=N,ct:=N,bk:=D.nx } σ2 H2):=by
 refine⟨λ i m σ H=>m=xs.length-i/\i<=xs.length/\Pv i σ H,⟨xs.length,by simp,Nat.zero_le _,h0⟩,?_⟩;rintro i m σ H ⟨rfl,hi,p⟩;have q:=hl i σ H hi p;by_cases hlt:i<xs.length
 .refine .inr ⟨⟨xs,q,rfl,hlt⟩,Pv (i+1),λ σ' H' p'=>⟨xs.length-(i+1),by lia,rfl,hlt,p'⟩,λ x H' y=>?_⟩;obtain⟨e,y⟩:=y;subst e;exact hs i x σ _ (y xs q) hlt p
 .have e:i=xs.length:=by lia
  subst e;exact .inl ⟨Nat.le_refl _,hd σ H p⟩
structure FunD(K:Frag)(x qual:Str)(st:Stmt)(f:Addr)(fd:FuncData):Prop where
 ex:∃(oc:Value)(od:Option Addr)(T:Addr)(kV doc pm:Value)(an:Option Addr)(cdv ct:Value)(osl:AOz)(o:Obj)(n:Nat),
  fd=fnOf x qual (Bh st) (A7 st) (Ag st) (.ref T) kV doc pm an cdv ct/\K.lookup f=some ⟨oc,od,.func fd,osl⟩/\codeIn K cdv qual=true/\K.lookup T=some o/\o.data=.seq #[.none] n
 kp:keepIn K (.ref f)=true
section
variable{P:Program}{w:World}{K:Frag}{mg:MGz}{base:Heap}
theorem FunD.ok{x qual:Str}{st:Stmt}{f:Addr}{fd:FuncData}{N ps:LSz}{k:Nat}{sp:Sp}(F:FunD K x qual st f fd)(S:An N ps (Ag st))(len:∀vs H Q E,sp vs H Q E->vs.length=ps.length)
  (hbody:∀(cdv:Value)(A:Around)(outer:List Env)(s:Shared)(H:Hp)(vs:LUz)(Q:VK)(E:XK),Room k (A.deeper (envOfC qual (Ag st) s.heap.objs.size f cdv))->sp vs H Q E ->
   ∃t,PSs (Bm CX0 P w K mg base N qual (Ag st) f cdv A outer s H E).nox (A7 st) t/\t { nx:=λ_ H'=>Q .non H',rt:=Q } (start N vs) H):A8 P w K mg base CX0 (k+1) f fd ps sp:=by
 obtain⟨oc,od,T,kV,doc,pm,an,cdv,ct,osl,o,n,rfl,lk,hcd,lT,dT⟩:=F.ex;refine Lp lk hcd S len λ A outer s H vs Q E hr hsp=>?_;obtain⟨t,h,q⟩:=hbody cdv A outer s H vs Q E hr hsp;exact⟨t,h.nox,q⟩
theorem FunD.binds{x qual:Str}{st:Stmt}{f:Addr}{fd:FuncData}{ps:LSz}{ds:LWz}(F:FunD K x qual st f fd)
  (h:∀(T:Addr)(kV doc pm:Value)(an:Option Addr)(cdv ct:Value)(us:LWz),(us++ds).length=ps.length->∃k:Option (Array Value)->Sem (List (Str×Value)),
   bindArgs (fnOf x qual (Bh st) (A7 st) (Ag st) (.ref T) kV doc pm an cdv ct) ⟨us,[]⟩=seqItems? (.ref T) >>= k/\k (some #[.none])=pure (ps.zip (us++ds))):Binds K fd ps ds:=by
 obtain⟨oc,od,T,kV,doc,pm,an,cdv,ct,osl,o,n,rfl,lk,hcd,lT,dT⟩:=F.ex;intro s us X hl;obtain⟨k,h1,h2⟩:=h T kV doc pm an cdv ct us hl;exact .of_defaults rfl (X _ _ lT) dT h1 h2
end
def PXS(X:Cx)(st:Stmt)(t:XK->TS):Prop:=∀(E:XK)(pins:PNz)(s:Shared)(σ:St)(H:Hp)(D:EG)(Ex:VPz),Inv X pins σ H s->t E D σ H ->
 (∀x T C d H' s',Inv X pins σ H' s'->C6 H' x C d T->E (.ref x) d H'->Ex (.ref x) s')->wpAny (model X.prog X.w) X.A (exec st X.env) (SP X pins D) Ex s
def U1(te:XK->TE):XK->TS:=λ E D σ H=>te E σ H (λ_ H1=>D.nx σ H1)
def Uy(tc:TT)(t u:XK->TS):XK->TS:=λ E=>Th tc (t E) (u E)
section
variable{X:Cx}{i im:Nat}{n m g:Str}{G:Addr}{value c:Expr}{b₀ st su:Stmt}{suite:List Stmt}{np apos gp hpos pos:Pos}{te:XK->TE}{ts:TS}{t u:XK->TS}{tc:TT}
theorem K8(he:∀E,PX X value (te E) E)(hsw:swapsWith value none apos.line X.env=pure false:=by rfl):PXS X (.Expr value apos) (U1 te):=by
 intro E pins s σ H D Ex I h hx;exact wpAny_Expr_any (thn (he E pins s σ H _ _ I h hx) λ v s1 ⟨y,H1,I1,r1,q1⟩=>⟨σ,H1,I1,q1⟩) I.quiet hsw
theorem Pp(hc:PT X.nox c tc)(ha:PXS X st t)(hb:PXS X su u):PXS X (.If c [st] [su] pos) (Uy tc t u):=by
 intro E pins s σ H D Ex I h hx;refine wpAny_If (wpAny_mono (hc pins s σ H _ (I.wish _) h) (λ d s1 ⟨H1,I1,q1⟩=>?_) λ_ _ z=>False.elim z);have I1':Inv X pins σ H1 s1:=I1.unwish;cases d with
 |true =>
  refine wpAny_execs_cons (thn (ha E pins s1 σ H1 D Ex I1' q1 hx) λ f s2 q=>?_);cases f with
  |next=>exact wpAny_execs_nil q
  |ret v=>exact q
  |brk=>exact q
  |cont=>exact q
 |false =>
  refine wpAny_execs_cons (thn (hb E pins s1 σ H1 D Ex I1' q1 hx) λ f s2 q=>?_);cases f with
  |next=>exact wpAny_execs_nil q
  |ret v=>exact q
  |brk=>exact q
  |cont=>exact q
end
mutual
def DAt(H:Hp):D->V->Prop
 |.at u,v=>v=u/\AA u=true
 |.tup ds,v=>∃a xs,v=.ref a/\H a=some (.tup xs)/\Iy H ds xs
 |.lst ds,v=>∃a xs,v=.ref a/\H a=some (.lst xs)/\Iy H ds xs
def Iy(H:Hp):Ds->LUz->Prop
 |.nil,xs=>xs=[]
 |.cons d r,xs=>∃x ys,xs=x::ys/\DAt H d x/\Iy H r ys
end
mutual
theorem Qj{H H':Hp}(s:Same H H'):∀(d:D){v:V},DAt H d v->DAt H' d v
 |.at u,v,h=>by rw[DAt]at h |-;exact h
 |.tup ds,v,h=>by
  rw[DAt]at h |-;obtain⟨a,xs,e,q,r⟩:=h;exact⟨a,xs,e,s _ _ q,F4 s ds r⟩
 |.lst ds,v,h=>by
  rw[DAt]at h |-;obtain⟨a,xs,e,q,r⟩:=h;exact⟨a,xs,e,s _ _ q,F4 s ds r⟩
theorem F4{H H':Hp}(s:Same H H'):∀(ds:Ds){xs:LUz},Iy H ds xs->Iy H' ds xs
 |.nil,xs,h=>by rw[Iy]at h |-;exact h
 |.cons d r,xs,h=>by
  rw[Iy]at h |-;obtain⟨x,ys,e,p,q⟩:=h;exact⟨x,ys,e,Qj s d p,F4 s r q⟩
end
mutual
theorem SK{K:Frag}{H:Hp}:∀(d:D){v:V},DAt H d v->DIs K H d v
 |.at u,v,h=>by rw[DAt]at h;rw[DIs];exact h
 |.tup ds,v,h=>by
  rw[DAt]at h;rw[DIs];obtain⟨a,xs,e,q,r⟩:=h;exact⟨a,xs,e,SqT.of q,Kg ds r⟩
 |.lst ds,v,h=>by
  rw[DAt]at h;rw[DIs];obtain⟨a,xs,e,q,r⟩:=h;exact⟨a,xs,e,SqL.of q,Kg ds r⟩
theorem Kg{K:Frag}{H:Hp}:∀(ds:Ds){xs:LUz},Iy H ds xs->DIss K H ds xs
 |.nil,xs,h=>by rw[Iy]at h;rw[DIss];exact h
 |.cons d r,xs,h=>by
  rw[Iy]at h;rw[DIss];obtain⟨x,ys,e,p,q⟩:=h;exact⟨x,ys,e,SK d p,Kg r q⟩
end
def Cy(c:Addr)(q:Str):HO:=.ext λ h=>∃o vs t,h.get? c=some o/\o.data=.fields vs/\vs[1]?=some (.str q t)
def Bx(f:Addr)(o:Obj):HO:=.ext λ h=>h.get? f=some o
theorem Jg{P:Program}{w:World}{H:Hp}{h:Heap}{c:Addr}{q:Str}(x:ObjOk P w H h c (Cy c q)):h.CodeRec (.ref c) q:=by
 obtain⟨⟨o,vs,t,e,d,v⟩,_⟩:=x;exact⟨c,o,vs,t,rfl,e,d,v⟩
theorem Qk{P:Program}{w:World}{H:Hp}{h:Heap}{c:Addr}{q:Str}(x:h.CodeRec (.ref c) q):ObjOk P w H h c (Cy c q):=by
 obtain⟨c',o,vs,t,e,g,d,v⟩:=x;cases e;exact⟨⟨o,vs,t,g,d,v⟩,⟨o,g⟩,λ h1 h2 ⟨o,vs,t,e,d,v⟩ k=>⟨o,vs,t,k o e,d,v⟩⟩
theorem JS{P:Program}{w:World}{H:Hp}{h:Heap}{f:Addr}{o:Obj}(x:h.get? f=some o):ObjOk P w H h f (Bx f o):=⟨x,⟨o,x⟩,λ h1 h2 e k=>k o e⟩
section
variable{X:Cx}{pins:PNz}{σ:St}{H:Hp}{s:Shared}{h1:Heap}
theorem Inv.grow{T c':Addr}{ps more:Array Value}{o:HO}{t':Nat}(I:Inv X pins σ H s)(hT:H T=some (.tbl ps))(k:∀b u,b≠T->s.heap.get? b=some u->h1.get? b=some u)(eT:h1.get? T=some (tabObj (ps++more)))
  (hc:s.heap.objs.size<=c') (new:ObjOk X.prog X.w (upd (upd H T (.tbl (ps++more))) c' o) h1 c' o):Inv X pins σ (upd (upd H T (.tbl (ps++more))) c' o) { s with heap:=h1,toks:=t' }:=by
 have hn:H c'=none:=I.hok.fresh hc;have nT:T≠c':=Ae hT hn;have ne:∀{b:Addr}{u:HO},H b=some u->(∀ps,u≠.tbl ps)->b≠T:=λ{b u} e nu z=>by rw[z,hT]at e;cases e;exact nu _ rfl
 have to:∀{b:Addr}{u:HO},H b=some u->(∀ps,u≠.tbl ps)->(upd (upd H T (.tbl (ps++more))) c' o) b=some u:=λ{b u} e nu=>by rw[Ah (Ae e hn),Ah (ne e nu)];exact e
 refine I.un ⟨λ b u q n _ _=>k b u (λ z=>by rw[z,hT]at n;cases n) q,λ b u q n _ _=>⟨u.slots,k b u (λ z=>by rw[z,hT]at n;cases n) q⟩,λ b u q n _=>?_,λ b u q _=>?_,
  λ b xs q=>to q (λ_ z=>nomatch z),λ b u xs q=>to q (λ_ z=>nomatch z),λ b ps' q=>?_⟩ λ b u e=>?_
 .rw[Ah (Nat.ne_of_lt (Nat.lt_of_lt_of_le (Heap.lt_size q) hc)),Ah (λ z=>by rw[z,hT]at n;cases n)];exact n
 .by_cases z:b=T
  .exact⟨_,by rw[z];exact eT⟩
  .exact⟨u,k b u z q⟩
 .by_cases z:b=T
  .subst z;rw[hT]at q;cases q;exact⟨more,by rw[Ah nT,upd_same]⟩
  .exact⟨#[],by rw[Ah (Ae q hn),Ah z,q];simp⟩
 .by_cases z:b=c'
  .subst z;rw[upd_same]at e;cases e;exact new
  .rw[Ah z]at e;by_cases zT:b=T
   .subst zT;rw[upd_same]at e;cases e;exact eT
   .rw[Ah zT]at e;refine(I.hok b u e).stay (λ c v hcb r=>k c v ?_ r) (λ c r=>to r (λ_ z=>nomatch z)) λ c xs r=>to r (λ_ z=>nomatch z);rcases hcb with rfl|hcb
    .exact zT
    .exact ne hcb (λ_ z=>nomatch z)
end
structure RD(K:Frag)(mg:MGz):Prop where
 ex:∃bm sl,mg "__builtins__"=some (.ref bm)/\bm≠builtinsNs/\bm≠mainGlobals/\K.lookup bm=some ⟨.type "module",some builtinsNs,.plain,sl⟩
abbrev Bv(mg:MGz)(qual:Str)(params:Arguments)(body:Expr)(scope:Scope)(clos:List (Str×Addr))(c':Addr)(ctv:Value):Obj:=kla_obj "<lambda>" qual params body scope clos ((mg "__name__").getD .none) c' ctv
def Tg(mg:MGz)(T:Addr)(pos:Pos)(params:Arguments)(body:Expr)(scope:Scope)(clos:List (Str×Addr))(qual:Str):TE:=λ σ H Q=>∃ps,H T=some (.tbl ps)/\TriplesOk ps.toList /\
 ((codeAmong pos ps.toList=none/\∀c' f ctv,H c'=none->H f=none->c'≠f->c'≠T->f≠T->Q (.ref f) (upd (upd (upd H T (.tbl (ps++#[rawInt pos.line,rawInt pos.col,.ref c']))) c' (Cy c' qual)) f (Bx f (Bv mg qual params body scope clos c' ctv)))) \/
  ∃c',codeAmong pos ps.toList=some (.ref c')/\H c'=some (Cy c' qual)/\∀f ctv,H f=none->Q (.ref f) (upd H f (Bx f (Bv mg qual params body scope clos c' ctv))))
section
variable{X:Cx}
theorem Pu{params:Arguments}{body:Expr}{scope:Scope}{pos:Pos}{c T:Addr}{clos:List (Str×Addr)}{qual:Str}(hcode:X.env.code=.ref c)(hC:∀h,X.K.In h->CodeHd h c T)(hB:RD X.K X.mg)(hdef:defaultsOf params X.env=([],[]))
  (hcl:closureFor scope X.env=pure clos) (hq:X.env.qual++"<lambda>"=qual):PE X (.Lambda params body scope pos) (Tg X.mg T pos params body scope clos qual):=by
 intro pins s σ H Q I h;obtain⟨ps,hT,ht,alt⟩:=h;have hP:s.heap.get? T=some (tabObj ps):=I.hok T _ hT;have hg:s.heap.Ns mainGlobals X.mg:=I.mod.glob.keeps I.bk;obtain⟨bm,sl,b1,b2,b3,b4⟩:=hB.ex;have hbm:X.base.get? bm=some ⟨.type "module",some builtinsNs,.plain,sl⟩:=I.mod.kin bm _ b4;have hbT:bm≠T:=λ z=>by
  have:=(I.bs bm _ hbm).2;rw[z,hT]at this;cases this
 have hgT:mainGlobals≠T:=λ z=>by
  obtain⟨o,es,ep,e,_⟩:=I.mod.glob;have:=(I.bs _ _ e).2;rw[z,hT]at this;cases this
 have hb:s.heap.BuiltinsAt X.mg T:=⟨bm,_,b1,b2,b3,hbT,I.bk bm _ hbm,rfl,rfl,rfl⟩;refine kla_eval hdef ?_;rw[hq];rcases alt with ⟨hnf,q⟩|⟨c',hf,hc',q⟩
 .refine kla_makeFunction hcl I.ok.glob hg hcode (hC _ I.kIn) hP ht hnf hgT hb λ c' ctv h' tk hx hge hlt hrec htb=>?_;have I1:=I.grow (t':=tk) (h1:=h') (c':=c') (o:=Cy c' qual) (more:=#[rawInt pos.line,rawInt pos.col,.ref c']) hT (λ b u nb e=>hx b u nb e) htb hge (Qk hrec);have hn:H c'=none:=I.hok.fresh hge;have hnf':H h'.objs.size=none:=I.hok.fresh (Nat.le_trans hge (Nat.le_of_lt hlt));have I2:=I1.laid (a:=h'.objs.size) (o:=Bx h'.objs.size (Bv X.mg qual params body scope clos c' ctv)) (t':=tk) (h':=h'.push (Bv X.mg qual params body scope clos c' ctv)) (λ b u e=>Heap.get?_push_of_some _ e) (Nat.le_refl _) (JS (Heap.get?_push_size _ rfl));exact⟨.ref h'.objs.size,_,I2,rfl,q c' h'.objs.size ctv hn hnf' (Nat.ne_of_lt hlt) (Ne.symm (Ae hT hn)) (Ne.symm (Ae hT hnf'))⟩
 .refine kla_makeFunctionHit hcl I.ok.glob hg hcode (hC _ I.kIn) hP ht hf hb λ ctv h' tk hk hsz=>?_;have hnf':H h'.objs.size=none:=I.hok.fresh hsz;have I1:=I.kept (t':=tk) hk;have I2:=I1.laid (a:=h'.objs.size) (o:=Bx h'.objs.size (Bv X.mg qual params body scope clos c' ctv)) (t':=tk) (h':=h'.push (Bv X.mg qual params body scope clos c' ctv)) (λ b u e=>Heap.get?_push_of_some _ e) (Nat.le_refl _) (JS (Heap.get?_push_size _ rfl));exact⟨.ref h'.objs.size,_,I2,rfl,q h'.objs.size ctv hnf'⟩
end
theorem P9{P:Program}{w:World}{K:Frag}{mg:MGz}{base:Heap}{A:Around}{outer:List Env}{s:Shared}{H:Hp}{f c':Addr}{params:Arguments}{body:Expr}{scope:Scope}{qual:Str}{ctv:Value}{N ps:LSz}{vs:LUz}{us:LWz}{Q:VK}{E:XK}{k:Nat}{te:TE}{CX:CXT}
  (hf:H f=some (Bx f (Bv mg qual params body scope [] c' ctv))) (hc:H c'=some (Cy c' qual)) (S:An N ps scope) (hr:Room (k+1) A) (e0:Env0 P w K mg base A outer s H) (hl:vs.length=ps.length) (r:Vals vs us)
  (hb:BindsTo s (kla_fn "<lambda>" qual params body scope [] ((mg "__name__").getD .none) (.ref c') ctv) ⟨us,[]⟩ (ps.zip us)) (hbody:PE (Bm CX P w K mg base N qual scope f (.ref c') A outer s H E) body te) (hq:te (start N vs) H Q) :
  codeAny (model P w) A (.call (.ref f) ⟨us,[]⟩) (CR CX outer P w H s Q E) s:=by
 have lim:s.heap.NoLimit:=e0.mod.nolimit.keeps λ b o e=>(e0.bs b o e).1;have hkind:∀y∈ps.zip us,scope.names.lookup y.1=some .local\/(scope.names.lookup y.1=some .cell/\((cellsFrom (s.heap.objs.size+1) scope.names []).lookup y.1).isSome=true):=λ⟨n,v⟩ hy=>by
  rcases S.par n (List.of_mem_zip hy).1 with q|q
  .exact .inl q
  .exact .inr ⟨q,cellsFrom_some _ _ _ (.inl q)⟩
 have ho:s.heap.get? f=some (Bv mg qual params body scope [] c' ctv):=(show ObjOk P w H s.heap f (Bx f _) from e0.hok f _ hf).1;refine kla_callFunE hr.depth ho rfl S.co S.gen rfl (Jg (e0.hok c' _ hc)) (hb _ _ _ _ ?_);refine wpAny_newFunctionEnv_cells S.kind hkind λ env he s1 x=>?_;subst he;refine⟨lim.keeps x.toInCall.keep,kla_codeExpr ?_⟩;have I:Inv (Bm CX P w K mg base N qual scope f (.ref c') A outer s H E) [] (start N vs) H s1:=IW S hr.hd e0 hl r x;exact wpAny_mono (hbody [] s1 (start N vs) H Q I hq) (λ u s' ⟨v,H',J,rv,q⟩=>⟨v,H',J.os,J.bare,J.base,J.hok,rv,q⟩) λ e s' h=>h
section
variable{X:Cx}{pins:PNz}{σ:St}{H:Hp}{s:Shared}
theorem Inv.track{D:Addr}{o:HO}(I:Inv X pins σ H s)(hn:H D=none)(h1:X.s₀.heap.objs.size<=D)(hL:D≠X.env.locals)(h2:∀x c,X.env.cells.lookup x=some c->c≠D)(h3:∀p∈X.pn++pins,p.1≠D)
  (new:ObjOk X.prog X.w (upd H D o) s.heap D o):Inv X pins σ (upd H D o) s:=by
 have to:∀{b:Addr}{u:HO},H b=some u->(upd H D o) b=some u:=λ{b u} e=>by rw[Ah (Ae e hn)];exact e
 have J:=I.step (h':=s.heap) (H':=upd H D o) (g':=s.gens) (d':=s.drawn) (t':=s.toks) (ch:=[D]) (λ b hb=>?_) (λ b u _ _ _ e _=>e) (λ b u _ _ _ e _=>⟨u.slots,e⟩) (λ b u hc e n=>?_) (λ b u _ e=>⟨u,e⟩)
  (λ b xs e=>to e) (λ b u xs e=>to e) (λ b ps e=>⟨#[],by rw[to e];simp⟩) (λ m hm=>hm) (λ b u e=>?_) I.bare
 .exact J
 .have e:b=D:=by simpa using hb
  subst e;exact⟨.inr h1,hL,h2,h3⟩
 .rw[Ah (λ z=>hc (by simp[z]))];exact n
 .by_cases hb:b=D
  .subst hb;rw[upd_same]at e;cases e;exact new
  .rw[Ah hb]at e;exact(I.hok b u e).stay (λ c v _ r=>r) (λ c r=>to r) λ c xs r=>to r
theorem Inv.apart(I:Inv X pins σ H s){D:Addr}(h:s.heap.objs.size<=D):H D=none/\X.s₀.heap.objs.size<=D/\D≠X.env.locals/\D∉X.fs/\(∀x c,X.env.cells.lookup x=some c->c≠D)/\∀p∈X.pn++pins,p.1≠D:=by
 have no:¬D<s.heap.objs.size:=Nat.not_lt.mpr h;refine⟨I.hok.fresh h,Nat.le_trans I.sz h,λ z=>no (by rw[z];exact I.lt),λ hb=>?_,λ x c e z=>?_,λ p hp z=>?_⟩
 .obtain⟨_,o,ho,_⟩:=I.ok.funs.mem hb;exact no (Nat.lt_of_lt_of_le (Heap.lt_size ho) I.sz)
 .obtain⟨v,o,ho,_⟩:=I.cell x c e;exact no (by rw[<-z];exact Heap.lt_size ho)
 .exact no (by rw[<-z];exact Heap.lt_size (I.pin p hp).1)
theorem Inv.unpin{p:Addr×Obj}(I:Inv X (p::pins) σ H s):Inv X pins σ H s:=I.pins_of λ q hq=>I.pin q (List.mem_append_right _ (List.mem_cons_of_mem _ hq))
end
section
variable{X:Cx}{pins:PNz}{σ:St}{H:Hp}{s:Shared}{A:Around}{D kS:Addr}{vs ks:LWz}{e e1:Nat}
theorem EV{p:Addr×Obj}(I:Inv X pins σ H s)(hp:p∈pins):s.heap.get? p.1=some p.2:=(I.pin p (List.mem_append_right _ hp)).1
theorem Inv.repin{D:Addr}{n:Nat}{items:Array Value}{g:Array Value->Array Value}{pins:PNz}(I:Inv X ((D,seqObj "list" items n)::pins) σ H s)(h1:X.s₀.heap.objs.size<=D)(h2:∀x c,X.env.cells.lookup x=some c->c≠D)(h3:∀p∈X.pn++pins,p.1≠D) :
  ∃c,Inv X ((D,seqObj "list" (g items) c)::pins) σ H { s with heap:=s.heap.update D (Obj.mapSeq g) }:=by
 obtain⟨e,hn,hL,hf,_⟩:=I.pin (D,seqObj "list" items n) (List.mem_append_right _ List.mem_cons_self);obtain⟨c,hc⟩:∃c,(s.heap.update D (Obj.mapSeq g)).get? D=some (seqObj "list" (g items) c):=⟨_,get?_update_seq e g⟩;have J:Inv X pins σ H { s with heap:=s.heap.update D (Obj.mapSeq g),toks:=s.toks }:=I.unpin.turned (it:=D) (t':=s.toks) (λ b o nb q=>by rw[Heap.get?_update_ne _ _ _ _ nb];exact q) hn hL (.inr h1) h2 h3;refine⟨c,J.pins_of λ p hp=>?_⟩;rcases List.mem_cons.mp hp with rfl|hp
 .exact⟨hc,hn,hL,hf,λ v z=>nomatch z⟩
 .exact J.pin p (List.mem_append_right _ hp)
end
theorem JW{X:Cx}{pins:PNz}{σ:St}{H:Hp}{s:Shared}{A:Around}{kts:List (Addr×List Int)}{m:Nat}(I:Inv X pins σ H s)(ht:∀t∈kts,t.2.length=m+1/\H t.1=some (.tup (t.2.map V.int))) :
  ∀t∈kts,t.2.length=m+1/\∃items,IsTup s.heap t.1 items/\IntsAre items.toList t.2:=λ t htm=>by
 obtain⟨h1,h2⟩:=ht t htm;obtain⟨_,zs,rz,tz⟩:=(show ObjOk X.prog X.w H s.heap t.1 (.tup (t.2.map V.int)) from I.hok _ _ h2);exact⟨h1,_,tz,by simpa using Hi rz⟩
theorem SA{X:Cx}{pins:PNz}{σ:St}{H:Hp}{s:Shared}{A:Around}{f c' a:Addr}{params:Arguments}{body:Expr}{scope:Scope}{qual:Str}{ctv u:Value}{v:V}{N ps:LSz}{k:Nat}{te:TE}(I:Inv X pins σ H s)(e0:Env0 X.prog X.w X.K X.mg X.base A X.stack s H)
  (hf:H f=some (Bx f (Bv X.mg qual params body scope [] c' ctv))) (hc:H c'=some (Cy c' qual)) (S:An N ps scope) (hr:Room (k+1) A) (hl:ps.length=1) (r:RelV v u)
  (hb:BindsTo s (kla_fn "<lambda>" qual params body scope [] ((X.mg "__name__").getD .none) (.ref c') ctv) ⟨[u],[]⟩ (ps.zip [u]))
  (hbody:PE (Bm CX0 X.prog X.w X.K X.mg X.base N qual scope f (.ref c') A X.stack s H E0) body te) (hq:te (start N [v]) H λ y H'=>y=.ref a/\H'=H) :
  wpAny (model X.prog X.w) A (call (.ref f) [u]) (λ y s'=>y=.ref a/\Inv X pins σ H s') (λ_ _=>False) s:=by
 refine wpAny_call (codeAny_mono (P9 (Q:=λ y H'=>y=.ref a/\H'=H) hf hc S hr e0 (by rw[hl];rfl) (.cons r .nil) hb hbody hq) λ r s' hq'=>?_);cases r with
 |error e=>exact False.elim hq'
 |ok fl =>
  cases fl with
  |ret y =>
   obtain⟨z,H',J,rz,ez,eH⟩:=I.after hq';subst ez eH;cases rz;exact⟨rfl,J⟩
  |next=>exact False.elim hq'
  |brk=>exact False.elim hq'
  |cont=>exact False.elim hq'
theorem P7{M:Model}{A:Around}{E:VPz}{s:Shared}{kd:SortKind}{κ:Value->Int}{S:Keyed->Prop}(h:∀x y,S x->S y->∀C:Bool->Shared->Prop,C (decide (κ x.1<κ y.1)) s->wpAny M A (keyLt' kd x.1 y.1) C (λ_ _=>False) s):LtG M A E s kd (λ p=>κ p.1) S:=λ x y hx hy st Q hk hq=>by
 rw[lt'_eq];refine wpS_bind (wpS_get ?_);rw[hk];refine wpS_bind (wpS_lift (wpAny_attempt (wpAny_mono (h x y hx hy (λ b s'=>b=decide (κ x.1<κ y.1)/\s'=s) ⟨rfl,rfl⟩) (λ b s' hb=>?_) λ_ _ z=>z.elim)));obtain⟨rfl,rfl⟩:=hb;exact⟨rfl,wpS_pure hq⟩
theorem GF{α β:Type}{f:α->β}{l m:List β}(h:l.Perm m):∀ts:List α,m=ts.map f->∃ts':List α,ts'.Perm ts/\l=ts'.map f:=by
 induction h with
 |nil =>
  intro ts e;rw[List.map_eq_nil_iff.mp e.symm];exact⟨[],.nil,rfl⟩
 |cons x p ih =>
  intro ts e;obtain⟨t,r,rfl,e1,e2⟩:=List.map_eq_cons_iff.mp e.symm;obtain⟨r',p',e'⟩:=ih r e2.symm;exact⟨t::r',p'.cons t,by rw[e',List.map_cons,e1]⟩
 |swap x y l =>
  intro ts e;obtain⟨t,r,rfl,e1,e2⟩:=List.map_eq_cons_iff.mp e.symm;obtain⟨u,q,rfl,e3,e4⟩:=List.map_eq_cons_iff.mp e2;exact⟨u::t::q,List.Perm.swap _ _ _,by rw[List.map_cons,List.map_cons,e1,e3,e4]⟩
 |trans p q ih1 ih2 =>
  intro ts e;obtain⟨t2,p2,e2⟩:=ih2 ts e;obtain⟨t1,p1,e1⟩:=ih1 t2 e2;exact⟨t1,p1.trans p2,e1⟩
def L9(X:Cx)(σ:St)(H:Hp)(kvs:LUz)(kd:SortKind)(κ:Value->Int):Prop:=∀(A:Around)(ks:LWz)(pins:PNz)(s:Shared),Vals kvs ks->Inv X pins σ H s ->
 (∀(C:SortKind->Shared->Prop)(E:VPz),2<=ks.length->C kd s->wpAny (model X.prog X.w) A (keyKind' ks.toArray) C E s) /\
 ∀x∈ks,∀y∈ks,∀C:Bool->Shared->Prop,C (decide (κ x<κ y)) s->wpAny (model X.prog X.w) A (keyLt' kd x y) C (λ_ _=>False) s
section
variable{X:Cx}{pins:PNz}{σ:St}{H:Hp}{s:Shared}{A:Around}{D kS f:Addr}{vs:LWz}{e1:Nat}{kvs:LUz}{kd:SortKind}{κ:Value->Int}{P:PySem.Fin->Shared->Prop}{E:VPz}
theorem Lo{e:Nat}{st:SortSt}{ks out:LWz}(I:Inv X ((kS,seqObj "list" ks.toArray e)::(D,seqObj "list" #[] e1)::pins) σ H s)(hk1:X.s₀.heap.objs.size<=kS)(hkc:∀x c,X.env.cells.lookup x=some c->c≠kS)(hkp:∀p∈X.pn++((D,seqObj "list" #[] e1)::pins),p.1≠kS)
  (hD1:X.s₀.heap.objs.size<=D) (hDc:∀x c,X.env.cells.lookup x=some c->c≠D) (hDp:∀p∈X.pn++pins,p.1≠D) (hout:(arrOf st).map (·.2)=List.toArray out) (hz:out.length<=sizeLine) (hkz:ks.length<=sizeLine) (hf:failedOf st=none)
  (h:∀(c:Nat)(s':Shared),Inv X pins σ H s'->s'.heap.get? D=some (seqObj "list" (List.toArray out) c)->P (.done (.ret .none)) s'):wpAny (model X.prog X.w) A (ksk_tail D false e1 (.ref kS) st) P E s:=by
 have ek:=EV I List.mem_cons_self;obtain⟨ck,I1⟩:=I.repin (g:=λ_=>(#[]:Array Value)) hk1 hkc hkp;have eD:=EV I1 (List.mem_cons_of_mem _ List.mem_cons_self);obtain⟨cD,I2⟩:=(I1.unpin).repin (g:=λ_=>List.toArray out) hD1 hDc hDp;unfold ksk_tail
 try dsimp only
 rw[hout];refine wpAny_bind (listUpdate_at ek rfl ?_ (by rw[List.size_toArray];exact hkz) (Nat.zero_le _));refine wpAny_bind (wpAny_letGo ?_);refine wpAny_bind (seqEpoch_at eD rfl ?_);refine wpAny_bind (listUpdate_at eD rfl ?_ (Nat.zero_le _) (by show out.toArray.size<=_;rw[List.size_toArray];lia));rw[hf];simp only[bne_self_eq_false,Bool.false_eq_true,if_false];exact wpAny_pure (h cD _ I2.unpin (EV I2 List.mem_cons_self))
theorem Rn{e:Nat}{ks:LWz}(G:L9 X σ H kvs kd κ)(hks:Vals kvs ks)(I:Inv X ((kS,seqObj "list" ks.toArray e)::(D,seqObj "list" #[] e1)::pins) σ H s)(hk1:X.s₀.heap.objs.size<=kS)(hkc:∀x c,X.env.cells.lookup x=some c->c≠kS)(hkp:∀p∈X.pn++((D,seqObj "list" #[] e1)::pins),p.1≠kS)
  (hD1:X.s₀.heap.objs.size<=D) (hDc:∀x c,X.env.cells.lookup x=some c->c≠D) (hDp:∀p∈X.pn++pins,p.1≠D) (hl:ks.length=vs.length) (hz:vs.length<=sizeLine)
  (h:∀(zs:List Keyed)(c:Nat)(s':Shared),zs.Perm (ks.zip vs)->(zs.map λ p=>κ p.1).Pairwise (·<=·)->Inv X pins σ H s'->s'.heap.get? D=some (seqObj "list" (List.toArray (zs.map (·.2))) c)->P (.done (.ret .none)) s') :
  wpAny (model X.prog X.w) A (ksk_end D false vs.toArray e1 (.ref kS) ks.toArray) P E s:=by
 obtain⟨g1,g2⟩:=G A ks _ s hks I;unfold ksk_end
 try dsimp only
 simp only[Bool.false_eq_true,if_false];have hsz:vs.toArray.size=vs.length:=by simp
 have zl:((ks.toArray.zip vs.toArray).toList:List Keyed)=ks.zip vs:=by simp
 by_cases h2:vs.toArray.size<2
 .rw[if_pos h2,if_pos h2];refine wpAny_bind (wpAny_pure ?_);rw[StateT.run_pure];refine wpAny_bind (wpAny_pure ?_);dsimp only;have e2:(arrOf (SortSt.mk' general' (ks.toArray.zip vs.toArray) #[] 7 none)).map (·.2)=List.toArray ((ks.zip vs).map (·.2)):=by
   show(ks.toArray.zip vs.toArray).map (·.2)=_;apply Array.ext';rw[Array.toList_map,zl]
  refine Lo I hk1 hkc hkp hD1 hDc hDp e2 (by rw[List.length_map,List.length_zip,hl,Nat.min_self];exact hz) (by lia) rfl λ c s' I' e'=>h _ c s' (List.Perm.refl _) ?_ I' e';rw[hsz]at h2;have l1:((ks.zip vs).map λ p=>κ p.1).length<=1:=by rw[List.length_map,List.length_zip];lia
  generalize (ks.zip vs).map (λ p=>κ p.1)=l at l1
  match l,l1 with
  |[],_=>exact List.Pairwise.nil
  |[x],_=>exact List.pairwise_singleton _ _
 .rw[if_neg h2,if_neg h2];refine wpAny_bind (g1 _ _ (by lia) ?_);refine wpAny_bind (wpAny_mono (Eg (A:=A) (E:=E) (s:=s) (M:=model X.prog X.w) (kd:=kd) (κ:=λ p=>κ p.1) (S:=λ p=>p∈ks.zip vs) (st:=SortSt.mk' kd (ks.toArray.zip vs.toArray) #[] 7 none)
   (Q:=λ_ st'=>(arrOf st').toList.Perm (ks.zip vs)/\failedOf st'=none/\Rise (λ p:Keyed=>κ p.1) (arrOf st').toList) (P7 λ x y hx hy C hc=>g2 _ (List.of_mem_zip hx).1 _ (List.of_mem_zip hy).1 C hc) rfl rfl rfl
   (λ x hx=>by rw[<-zl];exact hx) λ u p f r=>⟨by rw[<-zl];exact Array.perm_iff_toList_perm.mp p,f,r⟩) ?_ λ_ _ e=>e)
  rintro⟨⟨⟩,st'⟩ s' ⟨rfl,hp,hf,hr⟩;dsimp only;have e2:(arrOf st').map (·.2)=List.toArray ((arrOf st').toList.map (·.2)):=by
   apply Array.ext';rw[Array.toList_map]
  refine Lo I hk1 hkc hkp hD1 hDc hDp e2 (by rw[List.length_map,hp.length_eq,List.length_zip,hl,Nat.min_self];exact hz) (by lia) hf λ c s' I' e'=>h _ c s' hp ?_ I' e';exact List.pairwise_map.mpr hr
theorem PL(G:L9 X σ H kvs kd κ)(I:Inv X ((kS,seqObj "list" #[] 0)::(D,seqObj "list" #[] e1)::pins) σ H s)(hk1:X.s₀.heap.objs.size<=kS)(hkc:∀x c,X.env.cells.lookup x=some c->c≠kS)(hkp:∀p∈X.pn++((D,seqObj "list" #[] e1)::pins),p.1≠kS)
  (hD1:X.s₀.heap.objs.size<=D) (hDc:∀x c,X.env.cells.lookup x=some c->c≠D) (hDp:∀p∈X.pn++pins,p.1≠D) (hl:kvs.length=vs.length) (hz:vs.length<=sizeLine)
  (hcall:∀(i:Nat)(v:Value)(k:V)(pins':PNz)(s':Shared),vs[i]?=some v->kvs[i]?=some k->Inv X pins' σ H s'->wpAny (model X.prog X.w) A (call (.ref f) [v]) (λ u s''=>RelV k u/\Inv X pins' σ H s'') (λ_ _=>False) s')
  (h:∀(ks:LWz)(zs:List Keyed)(c:Nat)(s':Shared),Vals kvs ks->zs.Perm (ks.zip vs)->(zs.map λ p=>κ p.1).Pairwise (·<=·)->Inv X pins σ H s'->s'.heap.get? D=some (seqObj "list" (List.toArray (zs.map (·.2))) c)->P (.done (.ret .none)) s') :
  wpAny (model X.prog X.w) A (ksk_rest D (.ref f) false vs.toArray e1 (.ref kS)) P E s:=by
 unfold ksk_rest;refine wpAny_bind (wpAny_rule ?_)
 first
  |rw[List.forIn_toArray]
  | (rw[<-Array.forIn_toList];simp only[List.toList_toArray])
  |rw[<-Array.forIn_toList]
 refine wpAny_bind (ksk_fold (λ i s'=>∃(ks:LWz)(e:Nat),Vals (kvs.take i) ks/\Inv X ((kS,seqObj "list" ks.toArray e)::(D,seqObj "list" #[] e1)::pins) σ H s') vs 0 s ⟨[],0,by rw[List.take_zero];exact .nil,I⟩ (λ j x s' hx hJ=>?_) λ s' hJ=>?_)
 .obtain⟨ks,e,hv,J⟩:=hJ;rw[Nat.zero_add]at hv |-;have hj:j<kvs.length:=by rw[hl];exact(List.getElem?_eq_some_iff.mp hx).1
  have htj:kvs[j]?=some kvs[j]:=List.getElem?_eq_getElem hj;refine wpAny_bind (wpAny_attempt (wpAny_mono (hcall j x kvs[j] _ s' hx htj J) (λ u s'' hu=>?_) λ_ _ hF=>hF.elim));obtain⟨ru,J'⟩:=hu;have ek:=EV J' List.mem_cons_self;obtain⟨c,J2⟩:=J'.repin (g:=(·.push u)) hk1 hkc hkp;have ea:(ks.toArray).push u=(ks++[u]).toArray:=by simp
  rw[ea]at J2;have lk:ks.length=j:=by rw[<-hv.length,List.length_take];lia
  try dsimp only
  refine wpAny_bind (listUpdate_at ek rfl ?_ (by rw[List.size_toArray];lia) (Nat.le_trans (Nat.le_of_eq (Array.size_push ..)) (by rw[List.size_toArray];lia)));exact wpAny_pure ⟨rfl,ks++[u],c,by rw[List.take_succ,htj];exact hv.append (.cons ru .nil),J2⟩
 .obtain⟨ks,e,hv,J⟩:=hJ;rw[Nat.zero_add,<-hl,List.take_length]at hv
  try dsimp only
  refine wpAny_bind (listItems_at (EV J List.mem_cons_self) rfl ?_);exact Rn G hv J hk1 hkc hkp hD1 hDc hDp (by rw[<-hv.length];exact hl) hz λ zs c s'=>h ks zs c s' hv
end
theorem Ms{X:Cx}{pins:PNz}{σ:St}{H:Hp}{s:Shared}{A:Around}{D f:Addr}{vs:LWz}{n:Nat}{kvs:LUz}{kd:SortKind}{κ:Value->Int}{P:PySem.Fin->Shared->Prop}{E:VPz}(G:L9 X σ H kvs kd κ)
  (I:Inv X pins σ H s) (ho:s.heap.get? D=some (seqObj "list" vs.toArray n)) (hD:H D=none) (hD1:X.s₀.heap.objs.size<=D) (hDL:D≠X.env.locals) (hDf:D∉X.fs) (hDc:∀x c,X.env.cells.lookup x=some c->c≠D) (hDp:∀p∈X.pn++pins,p.1≠D)
  (hl:kvs.length=vs.length) (hz:vs.length<=sizeLine)
  (hcall:∀(i:Nat)(v:Value)(k:V)(pins':PNz)(s':Shared),vs[i]?=some v->kvs[i]?=some k->Inv X pins' σ H s'->wpAny (model X.prog X.w) A (call (.ref f) [v]) (λ u s''=>RelV k u/\Inv X pins' σ H s'') (λ_ _=>False) s')
  (h:∀(ks:LWz)(zs:List Keyed)(c:Nat)(s':Shared),Vals kvs ks->zs.Perm (ks.zip vs)->(zs.map λ p=>κ p.1).Pairwise (·<=·)->Inv X pins σ H s'->s'.heap.get? D=some (seqObj "list" (List.toArray (zs.map (·.2))) c)->P (.done (.ret .none)) s') :
  wpAny (model X.prog X.w) A (Builtin.«list.sort» ⟨[.ref D],[(Str.ofString "key",.ref f)]⟩) P E s:=by
 rw[ksk_t1];unfold ksk_tree;refine wpAny_bind (listItems_at ho rfl ?_);refine wpAny_bind (listUpdate_at ho rfl ?_ (by rw[List.size_toArray];exact hz) (Nat.zero_le _));obtain⟨e1,ho1⟩:∃e1,(s.heap.update D (Obj.mapSeq λ_=>(#[]:Array Value))).get? D=some (seqObj "list" #[] e1):=⟨_,get?_update_seq ho λ_=>#[]⟩;have I1:Inv X pins σ H { s with heap:=s.heap.update D (Obj.mapSeq λ_=>(#[]:Array Value)),toks:=s.toks }:=I.turned (it:=D) (λ b o nb q=>by rw[Heap.get?_update_ne _ _ _ _ nb];exact q) hD hDL (.inr hD1) hDc hDp;have I1:Inv X ((D,seqObj "list" #[] e1)::pins) σ H { s with heap:=s.heap.update D (Obj.mapSeq λ_=>(#[]:Array Value)) }:=I1.pins_of λ p hp=>by
  rcases List.mem_cons.mp hp with rfl|hp
  .exact⟨ho1,hD,hDL,hDf,λ v z=>nomatch z⟩
  .exact I1.pin p (List.mem_append_right _ hp)
 refine wpAny_bind (seqEpoch_at ho1 rfl ?_);refine wpAny_bind (wpAny_newTuple ?_ hz);refine wpAny_bind (wpAny_newList ?_ (Nat.zero_le _));refine wpAny_holding ?_;have I2:=(I1.kept (t':=s.toks) (h':=(s.heap.update D (Obj.mapSeq λ_=>(#[]:Array Value))).push (seqObj "tuple" vs.toArray 0)) λ b u q=>Heap.get?_push_of_some _ q);have ap:=I2.apart (D:=((s.heap.update D (Obj.mapSeq λ_=>(#[]:Array Value))).push (seqObj "tuple" vs.toArray 0)).objs.size) (Nat.le_refl _);have I3:=I2.kept (t':=s.toks) (h':=((s.heap.update D (Obj.mapSeq λ_=>(#[]:Array Value))).push (seqObj "tuple" vs.toArray 0)).push (seqObj "list" #[] 0)) λ b u q=>Heap.get?_push_of_some _ q;have hk0:(((s.heap.update D (Obj.mapSeq λ_=>(#[]:Array Value))).push (seqObj "tuple" vs.toArray 0)).push (seqObj "list" #[] 0)).get? ((s.heap.update D (Obj.mapSeq λ_=>(#[]:Array Value))).push (seqObj "tuple" vs.toArray 0)).objs.size=some (seqObj "list" #[] 0):=Heap.get?_push_size _ rfl;show wpAny (model X.prog X.w) A (ksk_rest D (.ref f) false vs.toArray e1 (.ref ((s.heap.update D (Obj.mapSeq λ_=>(#[]:Array Value))).push (seqObj "tuple" vs.toArray 0)).objs.size)) P E { s with heap:=((s.heap.update D (Obj.mapSeq λ_=>(#[]:Array Value))).push (seqObj "tuple" vs.toArray 0)).push (seqObj "list" #[] 0) };obtain⟨a1,a2,a3,a4,a5,a6⟩:=ap;refine PL G (I3.pins_of λ p hp=>?_) a2 a5 a6 hD1 hDc hDp hl hz hcall h;rcases List.mem_cons.mp hp with rfl|hp
 .exact⟨hk0,a1,a3,a4,λ v z=>nomatch z⟩
 .exact I3.pin p (List.mem_append_right _ hp)
theorem K5{X:Cx}{pins:PNz}{σ:St}{H:Hp}{s:Shared}{f p:Addr}{β:Type}{ts:List (Addr×β)}{kv:Addr×β->V}{K:Addr×β->Int}{kd:SortKind}{κ:Value->Int}{Q:VK}(I:Inv X pins σ H s)(hp:SqL X.K H p (ts.map λ t=>V.ref t.1))(G:L9 X σ H (ts.map kv) kd κ)
  (hκ:∀t∈ts,∀u,RelV (kv t) u->κ u=K t)
  (hcall:∀t∈ts,∀(pins':PNz)(s':Shared),Inv X pins' σ H s'->wpAny (model X.prog X.w) X.A.in1.in1 (call (.ref f) [.ref t.1]) (λ u s''=>RelV (kv t) u/\Inv X pins' σ H s'') (λ_ _=>False) s')
  (h:∀l (ts':List (Addr×β)),H l=none->ts'.Perm ts->(ts'.map K).Pairwise (·<=·)->Q (.ref l) (upd H l (.lst (ts'.map λ t=>V.ref t.1)))) :
  wpAny (model X.prog X.w) X.A (call (.builtin "sorted") [.ref p] [(Str.ofString "key",.ref f)]) (EP X pins σ Q) X.xe s:=by
 obtain⟨its,rv,pl,hz⟩:=I.list hp;have hits:its=ts.map λ t=>Value.ref t.1:=by
  have:=CQ (ts:=ts.map (·.1)) (its:=its) (by rw[List.map_map];exact rv);rw[this,List.map_map];rfl
 have hlen:its.length=ts.length:=by rw[hits,List.length_map]
 rw[List.length_map]at hz;refine call_function_entry_kw kind_sorted plain_sorted entry_sorted (ksk_s1 _ _) ?_;unfold Builtin.«sorted»;refine wpAny_bind (m:=checkCount "sorted" 1 1 _) (wpAny_pure ?_);refine wpAny_bind (collect_list pl.isList ?_ (by rw[hlen];exact hz));refine wpAny_bind (wpAny_newList ?_ (by rw[hlen];exact hz));have hsz:((s.heap.push (seqObj "list" #[] 0)).update s.heap.objs.size (Obj.mapSeq (·++its.toArray))).objs.size=s.heap.objs.size+1:=by
  rw[Heap.size_update,size_push']
 have hoL:(((s.heap.push (seqObj "list" #[] 0)).update s.heap.objs.size (Obj.mapSeq (·++its.toArray))).push (seqObj "list" its.toArray 0)).get? (s.heap.objs.size+1)=some (seqObj "list" its.toArray 0):=by
  rw[<-hsz];exact Heap.get?_push_size _ rfl
 have keep:∀b o,s.heap.get? b=some o->(((s.heap.push (seqObj "list" #[] 0)).update s.heap.objs.size (Obj.mapSeq (·++its.toArray))).push (seqObj "list" its.toArray 0)).get? b=some o:=λ b o q=>by
  have hlt:b<s.heap.objs.size:=Heap.lt_size q;rw[Heap.get?_push_ne _ _ _ (by rw[hsz];exact Nat.ne_of_lt (Nat.lt_succ_of_lt hlt)),Heap.get?_update_ne _ _ _ _ (Nat.ne_of_lt hlt),Heap.get?_push_ne _ _ _ (Nat.ne_of_lt hlt)];exact q
 obtain⟨a1,a2,a3,a4,a5,a6⟩:=I.apart (D:=s.heap.objs.size+1) (Nat.le_succ _);have I3:Inv X pins σ H { s with heap:=((s.heap.push (seqObj "list" #[] 0)).update s.heap.objs.size (Obj.mapSeq (·++its.toArray))).push (seqObj "list" its.toArray 0) }:=I.kept (t':=s.toks) keep;show wpAny _ _ _ _ _ { s with heap:=((s.heap.push (seqObj "list" #[] 0)).update s.heap.objs.size (Obj.mapSeq (·++its.toArray))).push (seqObj "list" its.toArray 0) };rw[hsz];refine wpAny_bind (wpAny_holding (wpAny_call_entry_kw slot_list_sort ⟨_,hoL,rfl⟩ entry_list_sort ?body (ksk_l1 _ _)))
 case body =>
  refine Ms G I3 hoL a1 a2 a3 a4 a5 a6 (by rw[List.length_map,hlen]) (by rw[hlen];exact hz) (λ i v k pins' s' hv hk J=>?_) λ ks zs c s' rk pz sz J eD=>?_
  .rw[List.getElem?_map]at hk;obtain⟨t0,ht0,rfl⟩:=Option.map_eq_some_iff.mp hk;rw[hits,List.getElem?_map,ht0]at hv;cases hv;exact hcall t0 (List.mem_of_getElem? ht0) pins' s' J
  .refine⟨_,rfl,wpAny_pure ⟨_,rfl,?_⟩⟩;have lk:ks.length=ts.length:=by rw[<-rk.length,List.length_map]
   have ez:ks.zip its=(ts.zip ks).map λ p=>(p.2,Value.ref p.1.1):=by
    rw[hits];clear rk sz pz hp G hκ hcall h hits rv pl hlen hz I3 hoL keep hsz J
    induction ts generalizing ks with
    |nil=>simp
    |cons t r ih =>
     match ks,lk with
     |k::ks,lk =>
      have:=ih ks (by simpa using lk)
      simpa using this
   obtain⟨ys,py,ey⟩:=GF pz (ts.zip ks) ez;have memK:∀y∈ts.zip ks,κ y.2=K y.1:=λ y hy=>by
    refine hκ y.1 (List.of_mem_zip hy).1 y.2 ?_;clear ez py ey pz sz hits rv pl hlen hz I3 hoL keep hsz J hp G hκ hcall h
    induction ts generalizing ks with
    |nil=>simp at hy
    |cons t r ih =>
     match ks,rk,lk with
     |k::ks,.cons r1 r2,lk =>
      rw[List.zip_cons_cons]at hy;rcases List.mem_cons.mp hy with rfl|hy
      .exact r1
      .exact ih ks r2 (by simpa using lk) hy
   have eO:zs.map (·.2)=(ys.map (·.1)).map λ t=>Value.ref t.1:=by
    rw[ey,List.map_map,List.map_map];rfl
   have pT:(ys.map (·.1)).Perm ts:=by
    have:=py.map (·.1);rwa [List.map_fst_zip (by lia)]at this
   rw[eO]at eD;refine⟨.ref (s.heap.objs.size+1),_,J.track (o:=.lst ((ys.map (·.1)).map λ t=>V.ref t.1)) a1 a2 a3 a5 a6 ⟨?_,_,c,?_,eD⟩,rfl,h _ _ a1 pT ?_⟩
   .rw[List.length_map,pT.length_eq];exact hz
   .have:=Eu ((ys.map (·.1)).map (·.1));rw[List.map_map,List.map_map (l:=ys.map (·.1))]at this;exact this
   .rw[ey,List.map_map]at sz;rw[List.map_map];have:ys.map (K∘λ y=>y.1)=ys.map ((λ p:Keyed=>κ p.1)∘λ p=>(p.2,Value.ref p.1.1)):=List.map_congr_left λ y hy=>(memK y (py.mem_iff.mp hy)).symm;rw[this];exact sz
def Nw(H:Hp)(key:List Int->Int):Value->Int
 |.ref a=>match H a with
  |some (.tup l)=>key (l.map λ v=>match v with|.int i=>i|_=>0)
  |_=>0
 |_=>0
theorem Ea{H:Hp}{key:List Int->Int}{a:Addr}{ns:List Int}(h:H a=some (.tup (ns.map V.int))):Nw H key (.ref a)=key ns:=by
 show(match H a with|some (.tup l)=>key (l.map λ v=>match v with|.int i=>i|_=>0)|_=>0)=key ns;rw[h];show key ((ns.map V.int).map _)=key ns;rw[List.map_map];congr 1;exact List.map_id _
theorem Ow{X:Cx}{σ:St}{H:Hp}{kts:List (Addr×List Int)}{m:Nat}{key:List Int->Int}(ht:∀t∈kts,t.2.length=m+1/\H t.1=some (.tup (t.2.map V.int)))(hkey:∀t∈kts,∀u∈kts,HT.lexLt t.2 u.2=decide (key t.2<key u.2)) :
  L9 X σ H (kts.map λ t=>V.ref t.1) (tuples' true) (Nw H key):=λ A ks pins s rk I=>by
 have hks:ks=kts.map λ t=>Value.ref t.1:=by
  have:=CQ (ts:=kts.map (·.1)) (its:=ks) (by rw[List.map_map];exact rk);rw[this,List.map_map];rfl
 subst hks;have tup:=JW (A:=A) I ht;refine⟨λ C E h2 hc=>?_,λ x hx y hy C hc=>?_⟩
 .obtain⟨fs,f1,f2,f3⟩:=Hd tup;rw[List.length_map]at h2;exact kat_kind (T:=Value.type "int") f1 (by lia) (λ v hv=>by obtain⟨n,tk,rfl⟩:=f3 v hv;exact .now) (by decide) hc
 .obtain⟨t,mt,rfl⟩:=List.mem_map.mp hx;obtain⟨u,mu,rfl⟩:=List.mem_map.mp hy;obtain⟨l1,x1,⟨o1,g1,c1,n1,d1⟩,z1⟩:=tup t mt;obtain⟨l2,x2,⟨o2,g2,c2,n2,d2⟩,z2⟩:=tup u mu;rw[Ea (ht t mt).2,Ea (ht u mu).2,<-hkey t mt u mu]at hc;have s1:=z1.length;have s2:=z2.length;exact kat_lt g1 d1 g2 d2 (FK (by rw[decide_eq_false];simp at s1 s2;lia) 0 z1 z2 (by lia) hc)
def Q5(K:Frag)(mg:MGz)(N:LSz)(qual:Str)(params:Arguments)(body:Expr)(scope:Scope)(te:TE)(ta:TA)(tl:TE):TE:=λ σ H Q=>ta σ H λ xs H1=>tl σ H1 λ fv H2=>∃(f c' p:Addr)(ctv:Value)(β:Type)(ts:List (Addr×β))(kt:Addr×β->Addr×List Int)(m:Nat)(key:List Int->Int),
 fv=.ref f/\H2 f=some (Bx f (Bv mg qual params body scope [] c' ctv))/\H2 c'=some (Cy c' qual)/\xs=[.ref p]/\SqL K H2 p (ts.map λ t=>V.ref t.1)/\(∀t∈ts,(kt t).2.length=m+1/\H2 (kt t).1=some (.tup ((kt t).2.map V.int))) /\
 (∀t∈ts,te (start N [.ref t.1]) H2 λ y H'=>y=.ref (kt t).1/\H'=H2)/\(∀t∈ts,∀u∈ts,HT.lexLt (kt t).2 (kt u).2=decide (key (kt t).2<key (kt u).2)) /\
 ∀l (ts':List (Addr×β)),H2 l=none->ts'.Perm ts->(ts'.map λ t=>key (kt t).2).Pairwise (·<=·)->Q (.ref l) (upd H2 l (.lst (ts'.map λ t=>V.ref t.1)))
section
variable{X:Cx}{k j:Nat}{y:Str}{ps:LSz}{sp:Sp}{e:Expr}{p q kp pos:Pos}{ta:TA}
theorem Og{params:Arguments}{body:Expr}{scope:Scope}{qual:Str}{lp:Pos}{N ps:LSz}{te tl:TE}(hg:Gl X "sorted")(hm:X.mg "sorted"=none)(ha:PA X [e] ta)(hl:PE X (.Lambda params body scope lp) tl)(S:An N ps scope)(hps:ps.length=1)(hr:Room (k+3) X.A)
  (hb:∀(s:Shared)(pm ctv u:Value)(c':Addr),BindsTo s (kla_fn "<lambda>" qual params body scope [] pm (.ref c') ctv) ⟨[u],[]⟩ (ps.zip [u]))
  (hbody:∀(A:Around)(outer:List Env)(s:Shared)(H:Hp)(f c':Addr),PE (Bm CX0 X.prog X.w X.K X.mg X.base N qual scope f (.ref c') A outer s H E0) body te)
  (he:backTo pos (starEach [e] X.env)=(false,eval e X.env)::backTo pos (starEach [] X.env):=by rfl) (hn:(backTo pos (starEach [e] X.env)).any (·.1)=false:=by rfl) :
  PE X (.Call (.Name "sorted" p) [e] [⟨some "key",.Lambda params body scope lp,kp⟩] pos) (Q5 X.K X.mg N qual params body scope te ta tl):=by
 intro pins s σ H Q I h;refine wpAny_Call_Name_kw (E5 I hg hm (by rfl) ?_);refine PyProof.Rows.callWith_kw (thn (ha pos pins s σ H _ I h) λ us s1 ⟨vs,H1,I1,r1,q1⟩=>?_) he hn;refine PyProof.Rows.kws_cons (thn (hl pins s1 σ H1 _ I1 q1) λ fv s2 ⟨y,H2,I2,ry,q2⟩=>PyProof.Rows.kws_nil ?_);obtain⟨f,c',l,ctv,β,ts,kt,m,key,rfl,hf,hc,rfl,hp,hk,hte,hkey,q⟩:=q2;obtain⟨u,rfl,ru⟩:=FD r1;cases ru;cases ry;have G:=Ow (X:=X) (σ:=σ) (H:=H2) (kts:=ts.map kt) (m:=m) (key:=key) (λ t ht=>by obtain⟨t0,m0,rfl⟩:=List.mem_map.mp ht;exact hk t0 m0) λ t ht u hu=>by
  obtain⟨t0,m0,rfl⟩:=List.mem_map.mp ht;obtain⟨u0,m1,rfl⟩:=List.mem_map.mp hu;exact hkey t0 m0 u0 m1
 rw[List.map_map]at G;refine K5 (K:=λ t=>key (kt t).2) (kv:=λ t=>V.ref (kt t).1) I2 hp G (λ t ht u hu=>by cases hu;exact Ea (hk t ht).2) (λ t ht pins' s' J=>?_) q;exact wpAny_mono (SA (te:=te) (v:=.ref t.1) (u:=.ref t.1) J (J.env0.in1.in1) hf hc S ((hr.in1).in1) hps rfl (hb _ _ _ _ _) (hbody _ _ _ _ _ _) (hte t ht)) (λ u s'' ⟨e,J'⟩=>⟨by rw[e];rfl,J'⟩) λ_ _ z=>z
end
def Qv(Ts:List Addr)(H:Hp):Prop:=(∀b,H b=none\/(∃o xs,H b=some (.frz o (.lst xs)))\/(b∈Ts/\H b=some (.tbl #[])))/\∀T∈Ts,H T=some (.tbl #[])
theorem Kj{h:Heap}{c T:Addr}(x:CodeHd h c T):isCodeTable h T:=by
 obtain⟨o,vs,file,tf,flags,tg,inF,text,tt,e1,e2,e3,e4,_⟩:=x;exact⟨c,o,vs,e1,e2,e3,e4⟩
theorem law_callT{P:Program}{w:World}{K:Frag}{mg mb:MGz}{CX:CXT}{k:Nat}{fa a:Addr}{fd:FuncData}{x:Str}{sp:Sp}{s₁:Shared}{vs:LWz}{ns:List Int}{Ts:List Addr}
  (KX:K.In s₁.heap) (hns:s₁.heap.Ns mainGlobals mg) (hb:s₁.heap.Ns builtinsNs mb) (hbb:∀x:Str,x≠"__name__"->mb x=bootBuiltins x) (hlim:s₁.heap.NoLimit) (hg:s₁.gens=#[])
  (ha:s₁.heap.get? a=some { cls:=.type "list",data:=.seq vs.toArray }) (hi:IntsAre vs ns) (hl:ns.length<=sizeLine) (hr:Room k callerA)
  (hT:∀T∈Ts,s₁.heap.get? T=some (tabObj #[])/\K.lookup T=none/\∃c,CodeHd s₁.heap c T)
  (F:∀base:Heap,K.In base->base.Ns mainGlobals mg->A8 P w K mg base CX k fa fd [x] sp) (hbind:∀(s:Shared)(u:Value),BindsTo s fd ⟨[u],[]⟩ [(x,u)])
  (hsp:∀H:Hp,Qv Ts H->SqL K H a (ns.map V.int)->sp [.ref a] H (λ v _=>v=.bl true) λ_ _ _=>False)
  (hCX:∀H e s',CX [] H s₁ (λ_ _ _=>False) e s'->False) :
  codeAny (model P w) callerA (.call (.ref fa) ⟨[.ref a],[]⟩) (λ r s'=>r=.ok (.ret (.bool true))/\OldK s₁.heap s'.heap/\s'.os=s₁.os/\AllBare s'.gens) s₁:=by
 have rv:=I9 hi;have lenV:=hi.length;have core:∀H:Hp,Qv Ts H->SqL K H a (ns.map V.int)->HOk P w H s₁.heap->(∀b,H b≠none->b=a\/b∈Ts)->(H a≠none->K.lookup a=none) ->
   codeAny (model P w) callerA (.call (.ref fa) ⟨[.ref a],[]⟩) (λ r s'=>r=.ok (.ret (.bool true))/\OldK s₁.heap s'.heap/\s'.os=s₁.os/\AllBare s'.gens) s₁:=by
  intro H hO hS hok hA hK;have base_of:∀{b:Addr}{o:Obj},s₁.heap.get? b=some o->H b=none->(JZ s₁.heap H).get? b=some o:=λ e n=>PK e n;have noA:∀{b:Addr}{o:Obj}{es:Array DictEntry}{ep:Nat},s₁.heap.get? b=some o->o.data=.dict es ep->H b=none:=λ{b o es ep} e d=>by
   cases q:H b with
   |none=>rfl
   |some u =>
    rcases hA b (by rw[q];simp) with e'|e'
    .subst e';rw[ha]at e;cases e;have d':Data.seq vs.toArray _=Data.dict es ep:=d;cases d'
    .rw[(hT b e').1]at e;cases e;cases d
  have nsK:∀{b:Addr}{m:MGz},s₁.heap.Ns b m->(JZ s₁.heap H).Ns b m:=λ{b m} ⟨o,es,ep,e,d,r⟩=>⟨o,es,ep,base_of e (noA e d),d,r⟩;have hKb:K.In (JZ s₁.heap H):=λ b o e=>base_of (KX b o e) (by
   cases q:H b with
   |none=>rfl
   |some u =>
    rcases hA b (by rw[q];simp) with e'|e'
    .subst e';rw[hK (by rw[q];simp)]at e;cases e
    .rw[(hT b e').2.1]at e;cases e)
  have hM:Mod K mg (JZ s₁.heap H):=⟨hKb,nsK hns,⟨mb,nsK hb,hbb⟩,let ⟨mc,h1,h2⟩:=hlim;⟨mc,nsK h1,h2⟩⟩;have e0:Env0 P w K mg (JZ s₁.heap H) callerA [] s₁ H:=⟨rfl,hM,λ b o e=>QY e,Nat.le_of_eq (O1 _ _),trivial,λ b hb=>absurd (show b∈([]:List Addr) from hb) (by simp),hok,.of_eq hg⟩;refine codeAny_mono ((F _ hKb (nsK hns)).run callerA [] s₁ H ⟨[.ref a],[]⟩ [.ref a] [.ref a] _ _ hr e0 (hbind s₁ (.ref a)) (.cons rfl .nil) (hsp H hO hS)) λ r s' h=>?_;cases r with
  |error e=>exact(hCX H e s' h).elim
  |ok fl =>
   cases fl with
   |next=>exact False.elim h
   |brk=>exact False.elim h
   |cont=>exact False.elim h
   |ret u =>
    obtain⟨v,H',os,bare,un,hok',r',q⟩:=h;have q':v=.bl true:=q;subst q';obtain rfl:u=Value.bool true:=r';have old:∀b o,s₁.heap.get? b=some o->asItWas s₁.heap s'.heap b o/\∃o',s'.heap.get? b=some o':=λ b o e=>by
     cases q:H b with
     |none =>
      have:=un.keep b o e q (by intro z;exact absurd (show b∈([]:List Addr) from z) (by simp)) (by simp);exact⟨.inl this,_,this⟩
     |some u =>
      rcases hO.1 b with z|⟨ob,xs,z⟩|⟨hb',z⟩
      .rw[q]at z;cases z
      .have z2:=un.frzs b ob _ z;obtain⟨e1,_⟩:=hok b _ z;obtain⟨e2,_⟩:=hok' b _ z2;rw[e]at e1;cases e1;exact⟨.inl e2,_,e2⟩
      .obtain⟨more,z2⟩:=un.tbls b #[] z;have e2:s'.heap.get? b=some (tabObj (#[]++more)):=hok' b _ z2;obtain⟨e1,_,c,hc⟩:=hT b hb';rw[e]at e1;cases e1;exact⟨.inr (.inl ⟨Kj hc,rfl,#[],more,rfl,e2⟩),_,e2⟩
    exact⟨rfl,⟨λ b o e=>(old b o e).1,λ b o e=>(old b o e).2⟩,os,bare⟩
 have aT:a∉Ts:=λ z=>by
  have e:=(hT a z).1;rw[ha]at e;cases e
 have tblT:∀T∈Ts,∀H:Hp,ObjOk P w H s₁.heap T (.tbl #[]):=λ T z H=>(hT T z).1;cases hk:K.lookup a with
 |some o =>
  have e:=KX a o hk;rw[ha]at e;cases e;refine core (λ b=>if b∈Ts then some (.tbl #[]) else none) ⟨λ b=>?_,λ T z=>if_pos z⟩ (.inr ⟨_,vs.toArray,_,hk,rfl,rfl,rfl,by rw[List.size_toArray,lenV];exact hl,by simpa using rv⟩) (λ b u z=>?_) (λ b z=>?_) λ z=>absurd (if_neg aT) z
  .by_cases hb:b∈Ts
   .exact .inr (.inr ⟨hb,if_pos hb⟩)
   .exact .inl (if_neg hb)
  .by_cases hb:b∈Ts
   .have z':=(if_pos hb).symm.trans z;cases z';exact tblT b hb _
   .have z':=(if_neg hb).symm.trans z;cases z'
  .by_cases hb:b∈Ts
   .exact .inr hb
   .exact absurd (if_neg hb) z
 |none =>
  refine core (λ b=>if b=a then some (.frz { cls:=.type "list",data:=.seq vs.toArray } (.lst (ns.map V.int))) else if b∈Ts then some (.tbl #[]) else none) ⟨λ b=>?_,λ T z=>?_⟩ (.inl (.inr ⟨{ cls:=.type "list",data:=.seq vs.toArray },if_pos rfl⟩)) (λ b u z=>?_) (λ b z=>?_) λ_=>hk
  .by_cases hb:b=a
   .exact .inr (.inl ⟨_,_,if_pos hb⟩)
   .by_cases hb2:b∈Ts
    .exact .inr (.inr ⟨hb2,(if_neg hb).trans (if_pos hb2)⟩)
    .exact .inl ((if_neg hb).trans (if_neg hb2))
  .have ne:¬T=a:=λ e=>aT (by rw[<-e];exact z);exact(if_neg ne).trans (if_pos z)
  .by_cases hb:b=a
   .have z':=(if_pos hb).symm.trans z;cases z';subst hb;exact⟨ha,by rw[List.length_map];exact hl,vs,_,rv,ha⟩
   .by_cases hb2:b∈Ts
    .have z':=((if_neg hb).trans (if_pos hb2)).symm.trans z;cases z';exact tblT b hb2 _
    .have z':=((if_neg hb).trans (if_neg hb2)).symm.trans z;cases z'
  .by_cases hb:b=a
   .exact .inl hb
   .by_cases hb2:b∈Ts
    .exact .inr hb2
    .exact absurd ((if_neg hb).trans (if_neg hb2)) z
theorem walk_ofT{l:OpenLaw}{n k:Nat}{q:Program}{loose:LSz}{XP:(MGz)->Heap->Prop}{YP:World->Heap->Prop}{d:DefRec}{K:Params->Frag}{CX:World->CXT}{sp:World->Sp}{x:Str}{Ts:List Addr}
  (hn:l.most=some n) (hn2:n<=sizeLine) (hdf:d.params.defaults=[]) (hr:Room k callerA)
  (hY:∀(w:World)(h:Heap),YP w h->(K w.params).In h) (hT:∀(w:World)(h:Heap),YP w h->∀T∈Ts,h.get? T=some (tabObj #[])/\(K w.params).lookup T=none/\∃c,CodeHd h c T)
  (F:∀(w:World)(mg:MGz)(fa:Addr)(h:Heap),(K w.params).In h->h.Ns mainGlobals mg->mg d.name=some (.ref fa) ->
   ∃fd:FuncData,(∀(s:Shared)(u:Value),BindsTo s fd ⟨[u],[]⟩ [(x,u)]) /\
    ∀base:Heap,(K w.params).In base->base.Ns mainGlobals mg->A8 l.prog w (K w.params) mg base (CX w) k fa fd [x] (sp w))
  (hsp:∀(w:World)(H:Hp)(a:Addr)(ns:List Int),ns.length<=n->Qv Ts H->SqL (K w.params) H a (ns.map V.int)->sp w [.ref a] H (λ v _=>v=.bl true) λ_ _ _=>False)
  (hCX:∀(w:World)(H:Hp)(s:Shared)(e:Value)(s':Shared),CX w [] H s (λ_ _ _=>False) e s'->False) :
  WalkO q loose XP YP l.row.toRowW d [] (λ f vs=>PySem.call f vs):=by
 refine Att.attach_call hn hdf λ w s₀ s₁ mg mb fa o pm cd doc a vs ns G Y ho hd hcd hmg hobj hints hlen hg=>?_;have KX:=hY w _ Y;obtain⟨fd,hb,hF⟩:=F w mg fa _ KX G.T.g hmg;exact law_callT KX G.T.g G.T.b G.T.builtins G.T.nolimit hg hobj hints (Nat.le_trans hlen hn2) hr (hT w _ Y) hF hb (λ H hO hS=>hsp w H a ns hlen hO hS) λ H e s'=>hCX w H s₁ e s'
structure FunC(K:Frag)(x qual:Str)(st:Stmt)(f:Addr)(fd:FuncData)(c:Addr):Prop where
 ex:∃(oc:Value)(od:Option Addr)(kV doc pm:Value)(an:Option Addr)(ct:Value)(osl:AOz),
  fd=fnOf x qual (Bh st) (A7 st) (Ag st) .none kV doc pm an (.ref c) ct/\K.lookup f=some ⟨oc,od,.func fd,osl⟩/\codeIn K (.ref c) qual=true
 kp:keepIn K (.ref f)=true
section
variable{P:Program}{w:World}{K:Frag}{mg:MGz}{base:Heap}{x qual:Str}{st:Stmt}{f c:Addr}{fd:FuncData}{N ps:LSz}{k:Nat}{sp:Sp}
theorem FunC.fn(F:FunC K x qual st f fd c):Fun K x qual st f fd:=by
 obtain⟨oc,od,kV,doc,pm,an,ct,osl,e,lk,hcd⟩:=F.ex;exact⟨⟨oc,od,kV,doc,pm,an,.ref c,ct,osl,e,lk,hcd⟩,F.kp⟩
theorem FunC.okx(F:FunC K x qual st f fd c)(S:An N ps (Ag st))(len:∀vs H Q E,sp vs H Q E->vs.length=ps.length)
  (hbody:∀(A:Around)(outer:List Env)(s:Shared)(H:Hp)(vs:LUz)(Q:VK)(E:XK),Room k (A.deeper (envOfC qual (Ag st) s.heap.objs.size f (.ref c)))->sp vs H Q E ->
   ∃t,PSs (Bm (CX1 P w) P w K mg base N qual (Ag st) f (.ref c) A outer s H E) (A7 st) t/\t { nx:=λ_ H'=>Q .non H',rt:=Q } (start N vs) H):A8 P w K mg base (CX1 P w) (k+1) f fd ps sp:=by
 obtain⟨oc,od,kV,doc,pm,an,ct,osl,rfl,lk,hcd⟩:=F.ex;exact Lp lk hcd S len λ A outer s H vs Q E hr hsp=>hbody A outer s H vs Q E hr hsp
theorem N1{oc:Value}{od an:Option Addr}{osl:AOz}{kV doc pm cdv ct:Value}(l:K.lookup f=some ⟨oc,od,.func (fnOf x qual (Bh st) (A7 st) (Ag st) .none kV doc pm an cdv ct),osl⟩)
  (cc:codeIn K cdv qual=true) (kp:keepIn K (.ref f)=true) (e:cdv=.ref c):FunC K x qual st f (fnOf x qual (Bh st) (A7 st) (Ag st) .none kV doc pm an cdv ct) c:=by
 subst e;exact⟨⟨oc,od,kV,doc,pm,an,ct,osl,rfl,l,cc⟩,kp⟩
end
def F7(K:Frag)(c T:Addr):Bool:=match K.lookup c with
 |some o=>match o.data with
  |.fields vs=>(o.cls==.type "code")&&(vs[11]?==some (.ref T))&&(match vs.getD 18 .none with|.str _ _=>true|_=>false)&&(match vs.getD 7 .none with|.int _ _=>true|_=>false)&&(match vs.getD 9 .none with|.bool _=>true|_=>false)&&(match vs.getD 10 .none with|.int _ _=>true|_=>false)&&(c != T)
  |_=>false
 |none=>false
theorem codeTB_of{K:Frag}{c T:Addr}(h:F7 K c T=true):∀hp:Heap,K.In hp->CodeHd hp c T:=λ hp KX=>by
 unfold F7 at h;cases e:K.lookup c with
 |none=>rw[e]at h;cases h
 |some o =>
  rw[e]at h;cases d:o.data with
  |fields vs =>
   simp only[d,Bool.and_eq_true]at h;obtain⟨⟨⟨⟨⟨⟨h1,h2⟩,h3⟩,h4⟩,h5⟩,h6⟩,h7⟩:=h;have h2:vs[11]?=some (.ref T):=eq_of_beq h2;have e18:∃a b,vs.getD 18 .none=.str a b:=by
    generalize vs.getD 18 .none=v at h3;cases v with
    |str a b=>exact⟨a,b,rfl⟩
    |_=>cases h3
   have e7:∃a b,vs.getD 7 .none=.int a b:=by
    generalize vs.getD 7 .none=v at h4;cases v with
    |int a b=>exact⟨a,b,rfl⟩
    |_=>cases h4
   have e9:∃a,vs.getD 9 .none=.bool a:=by
    generalize vs.getD 9 .none=v at h5;cases v with
    |bool a=>exact⟨a,rfl⟩
    |_=>cases h5
   have e10:∃a b,vs.getD 10 .none=.int a b:=by
    generalize vs.getD 10 .none=v at h6;cases v with
    |int a b=>exact⟨a,b,rfl⟩
    |_=>cases h6
   obtain⟨f1,f2,e18⟩:=e18;obtain⟨g1,g2,e7⟩:=e7;obtain⟨i1,e9⟩:=e9;obtain⟨t1,t2,e10⟩:=e10;refine⟨o,vs,f1,f2,g1,g2,i1,t1,t2,KX c o e,eq_of_beq h1,d,h2,?_,e18,e7,e9,e10,?_⟩
   .rw[Array.getD_eq_getD_getElem?,h2];rfl
   .intro z;rw[z]at h7;simp at h7
  |_=>simp only[d]at h;cases h
def SameN(H H':Hp):Prop:=∀a o,H a=some o->(∀ps,o≠.tbl ps)->H' a=some o
theorem SameN.refl(H:Hp):SameN H H:=λ_ _ e _=>e
theorem SameN.trans{H H1 H2:Hp}(a:SameN H H1)(b:SameN H1 H2):SameN H H2:=λ x o e n=>b x o (a x o e n) n
theorem Same.n{H H':Hp}(s:Same H H'):SameN H H':=λ a o e _=>s a o e
theorem SameN.tup{H H':Hp}(s:SameN H H'){a:Addr}{xs:LUz}(e:H a=some (.tup xs)):H' a=some (.tup xs):=s a _ e λ_ z=>nomatch z
theorem SameN.lst{H H':Hp}(s:SameN H H'){a:Addr}{xs:LUz}(e:H a=some (.lst xs)):H' a=some (.lst xs):=s a _ e λ_ z=>nomatch z
def TabOk(pos:Pos)(qual:Str)(T:Addr)(H:Hp):Prop:=∃ps,H T=some (.tbl ps)/\TriplesOk ps.toList/\(codeAmong pos ps.toList=none\/∃c',codeAmong pos ps.toList=some (.ref c')/\H c'=some (Cy c' qual))
theorem TabOk.same{pos:Pos}{qual:Str}{T:Addr}{H H':Hp}(h:TabOk pos qual T H)(s:Same H H'):TabOk pos qual T H':=by
 obtain⟨ps,e,t,c⟩:=h;refine⟨ps,s _ _ e,t,?_⟩;rcases c with c|⟨c',c1,c2⟩
 .exact .inl c
 .exact .inr ⟨c',c1,s _ _ c2⟩
theorem TabOk.new{pos:Pos}{qual:Str}{T:Addr}{H:Hp}(h:H T=some (.tbl #[])):TabOk pos qual T H:=⟨#[],h,trivial,.inl rfl⟩
theorem EL{a b c:Int}{t u:Tok}{v:Value}:∀(l:LWz),TriplesOk l->TriplesOk (l++[.int a t,.int b u,v])
 |[],_=>trivial
 |.int _ _::.int _ _::_::rest,h=>EL (c:=c) rest h
section
variable{prog:Program}{w:World}{A:Around}{E:VPz}{s:Shared}
theorem OM{vs:LWz}{p:Keyed}(h:p∈vs.zip vs):p.1=p.2/\p.2∈vs:=by
 induction vs with
 |nil=>simp at h
 |cons v r ih =>
  rw[List.zip_cons_cons]at h;rcases List.mem_cons.mp h with rfl|h
  .exact⟨rfl,List.mem_cons_self⟩
  .exact⟨(ih h).1,List.mem_cons_of_mem _ (ih h).2⟩
theorem FU{a:Addr}{vs:LWz}{n:Nat}{P:PySem.Fin->Shared->Prop}{kd:SortKind}{κ:Value->Int}(ho:s.heap.get? a=some (seqObj "list" vs.toArray n))(hz:vs.length<=sizeLine)
  (hK:∀(Q:SortKind->Shared->Prop)(E:VPz),2<=vs.length->Q kd { s with heap:=BC s.heap a vs }->wpAny (model prog w) A (keyKind' vs.toArray) Q E { s with heap:=BC s.heap a vs })
  (hL:∀x∈vs,∀y∈vs,∀(C:Bool->Shared->Prop),C (decide (κ x<κ y)) { s with heap:=BC s.heap a vs }->wpAny (model prog w) A (keyLt' kd x y) C (λ_ _=>False) { s with heap:=BC s.heap a vs })
  (h:∀zs:LWz,zs.Perm vs->(zs.map κ).Pairwise (·<=·)->P (.done (.ret .none)) { s with heap:=sortedHeap s.heap a vs zs.toArray }) :
  wpAny (model prog w) A (Builtin.«list.sort» ⟨[.ref a],[]⟩) P E s:=by
 rw[list_sort_plain];have ha:a<s.heap.objs.size:=Heap.lt_size ho;refine wpAny_bind (listItems_at ho rfl ?_);refine wpAny_bind (listUpdate_at ho rfl ?_ (by rw[List.size_toArray];exact hz) (Nat.zero_le _));obtain⟨e1,ho1⟩:∃e1,(s.heap.update a (Obj.mapSeq λ_=>#[])).get? a=some (seqObj "list" #[] e1):=⟨_,get?_update_seq ho (λ_=>#[])⟩;refine wpAny_bind (seqEpoch_at ho1 rfl ?_);refine wpAny_bind (wpAny_newTuple ?_ hz);refine wpAny_bind (wpAny_newList ?_ (Nat.zero_le _));refine wpAny_holding ?_;have ho6:(BC s.heap a vs).get? a=some (seqObj "list" #[] e1):=by
  unfold BC;rw[Heap.get?_push_ne _ _ _ (by rw[size_push',Heap.size_update];exact Nat.ne_of_lt (Nat.lt_succ_of_lt ha)),Heap.get?_push_ne _ _ _ (by rw[Heap.size_update];exact Nat.ne_of_lt ha)];exact ho1
 show wpAny (model prog w) A _ P E { s with heap:=BC s.heap a vs };dsimp only;have hsz:vs.toArray.size=vs.length:=by simp
 have zl:((vs.toArray.zip vs.toArray).toList:List Keyed)=vs.zip vs:=by simp
 by_cases h2:vs.toArray.size<2
 .rw[if_pos h2,if_pos h2];refine wpAny_bind (wpAny_pure ?_);rw[StateT.run_pure];refine wpAny_bind (wpAny_pure ?_);dsimp only;refine wpAny_bind (seqEpoch_at ho6 rfl ?_);refine wpAny_bind (listUpdate_at ho6 rfl ?_ (Nat.zero_le _) (by rw[Array.size_map];show(pairsOf vs).size<=_;rw[pairsOf_size];lia));simp only[bne_self_eq_false,Bool.false_eq_true,if_false];have hh:=h vs (List.Perm.refl _) (by
   rw[hsz]at h2;clear hL hK h ho ho1 ho6 hz zl hsz
   match vs,h2 with
   |[],_=>exact List.Pairwise.nil
   |[x],_=>exact List.pairwise_singleton _ _)
  have e2:(arrOf (SortSt.mk' general' (vs.toArray.zip vs.toArray) #[] 7 none)).map (·.2)=vs.toArray:=by
   show(vs.toArray.zip vs.toArray).map (·.2)=vs.toArray;apply Array.ext';simp[List.map_snd_zip]
  refine wpAny_pure ?_;rw[e2];exact hh
 .rw[if_neg h2,if_neg h2];have h2':2<=vs.length:=by lia
  refine wpAny_bind (hK _ _ h2' ?_);refine wpAny_bind (wpAny_mono (Eg (A:=A) (E:=E) (s:={ s with heap:=BC s.heap a vs }) (M:=model prog w) (kd:=kd) (κ:=λ p=>κ p.1) (S:=λ p=>p∈vs.zip vs) (st:=SortSt.mk' kd (vs.toArray.zip vs.toArray) #[] 7 none)
   (Q:=λ_ st'=>(arrOf st').toList.Perm (vs.zip vs)/\failedOf st'=none/\Rise (λ p:Keyed=>κ p.1) (arrOf st').toList) (P7 λ x y hx hy C hc=>hL _ (List.of_mem_zip hx).1 _ (List.of_mem_zip hy).1 C hc) rfl rfl rfl
   (λ x hx=>by rw[<-zl];exact hx) λ u p f r=>⟨by rw[<-zl];exact Array.perm_iff_toList_perm.mp p,f,r⟩) ?_ λ_ _ e=>e)
  rintro⟨⟨⟩,st'⟩ s' ⟨rfl,hp,hf,hr⟩;dsimp only;have hout:(arrOf st').map (·.2)=List.toArray ((arrOf st').toList.map (·.2)):=by
   apply Array.ext';rw[Array.toList_map]
  have pz:((arrOf st').toList.map (·.2)).Perm vs:=by
   have:=hp.map (·.2);rwa [show(vs.zip vs).map (·.2)=vs from by simp[List.map_snd_zip]]at this
  have sz:(((arrOf st').toList.map (·.2)).map κ).Pairwise (·<=·):=by
   rw[List.map_map];have e:(arrOf st').toList.map (κ∘λ x=>x.2)=(arrOf st').toList.map λ p=>κ p.1:=List.map_congr_left λ p hp'=>by
    show κ p.2=κ p.1;rw[(OM (hp.mem_iff.mp hp')).1]
   rw[e];exact List.pairwise_map.mpr hr
  rw[hout];refine wpAny_bind (seqEpoch_at ho6 rfl ?_);refine wpAny_bind (listUpdate_at ho6 rfl ?_ (Nat.zero_le _) (by show(List.toArray _).size<=_;rw[List.size_toArray,pz.length_eq];lia));rw[hf];simp only[bne_self_eq_false,Bool.false_eq_true,if_false];exact wpAny_pure (h _ pz sz)
theorem QB{l:Addr}{vs:LWz}{kd:SortKind}{κ:Value->Int}{Q:VPz}(hl:s.heap.IsList l vs.toArray)(hz:vs.length<=sizeLine)
  (hK:∀(h':Heap),(∀b o,s.heap.get? b=some o->h'.get? b=some o)->∀(Q:SortKind->Shared->Prop)(E:VPz),2<=vs.length->Q kd { s with heap:=h' }->wpAny (model prog w) A.in1.in1 (keyKind' vs.toArray) Q E { s with heap:=h' })
  (hL:∀(h':Heap),(∀b o,s.heap.get? b=some o->h'.get? b=some o)->∀x∈vs,∀y∈vs,∀(C:Bool->Shared->Prop),C (decide (κ x<κ y)) { s with heap:=h' }->wpAny (model prog w) A.in1.in1 (keyLt' kd x y) C (λ_ _=>False) { s with heap:=h' })
  (h:∀zs:LWz,zs.Perm vs->(zs.map κ).Pairwise (·<=·)->Q (.ref (s.heap.objs.size+1)) { s with heap:=sortedAll s.heap vs zs.toArray }) :
  wpAny (model prog w) A (call (.builtin "sorted") [.ref l]) Q E s:=by
 refine Calls.call_function_entry kind_sorted plain_sorted entry_sorted (args_sorted1 _) ?_;unfold Builtin.«sorted»;refine wpAny_bind (m:=checkCount "sorted" 1 1 _) (wpAny_pure ?_);refine wpAny_bind (collect_list hl ?_ hz);refine wpAny_bind (wpAny_newList ?_ hz);have hsz:((s.heap.push (seqObj "list" #[] 0)).update s.heap.objs.size (Obj.mapSeq (·++vs.toArray))).objs.size=s.heap.objs.size+1:=by
  rw[Heap.size_update,size_push']
 have hoL:(((s.heap.push (seqObj "list" #[] 0)).update s.heap.objs.size (Obj.mapSeq (·++vs.toArray))).push (seqObj "list" vs.toArray 0)).get? (s.heap.objs.size+1)=some (seqObj "list" vs.toArray 0):=by
  rw[<-hsz];exact Heap.get?_push_size _ rfl
 have keep:∀b o,s.heap.get? b=some o->(((s.heap.push (seqObj "list" #[] 0)).update s.heap.objs.size (Obj.mapSeq (·++vs.toArray))).push (seqObj "list" vs.toArray 0)).get? b=some o:=λ b o q=>by
  have hlt:b<s.heap.objs.size:=Heap.lt_size q;rw[Heap.get?_push_ne _ _ _ (by rw[hsz];exact Nat.ne_of_lt (Nat.lt_succ_of_lt hlt)),Heap.get?_update_ne _ _ _ _ (Nat.ne_of_lt hlt),Heap.get?_push_ne _ _ _ (Nat.ne_of_lt hlt)];exact q
 show wpAny _ _ _ _ _ { s with heap:=((s.heap.push (seqObj "list" #[] 0)).update s.heap.objs.size (Obj.mapSeq (·++vs.toArray))).push (seqObj "list" vs.toArray 0) };rw[hsz];have mid:∀b o,s.heap.get? b=some o->(BC (((s.heap.push (seqObj "list" #[] 0)).update s.heap.objs.size (Obj.mapSeq (·++vs.toArray))).push (seqObj "list" vs.toArray 0)) (s.heap.objs.size+1) vs).get? b=some o:=λ b o q =>
  JU (Nat.ne_of_lt (Nat.lt_succ_of_lt (Heap.lt_size q))) (keep b o q)
 refine wpAny_bind (wpAny_holding (wpAny_call_entry slot_list_sort ⟨_,hoL,rfl⟩ entry_list_sort (FU (kd:=kd) (κ:=κ) (s:={ s with heap:=((s.heap.push (seqObj "list" #[] 0)).update s.heap.objs.size (Obj.mapSeq (·++vs.toArray))).push (seqObj "list" vs.toArray 0) }) hoL hz (λ Q E h2 hq=>hK _ mid Q E h2 hq) (λ x hx y hy C hc=>hL _ mid x hx y hy C hc) λ zs a1 a2=>⟨_,rfl,?_⟩) (args_list_sort _)));exact wpAny_pure ⟨_,rfl,h zs a1 a2⟩
end
section
variable{X:Cx}
def Qx(X:Cx)(A:Around)(σ:St)(H:Hp)(kvs:LUz)(kd:SortKind)(κ:Value->Int):Prop:=∀(ks:LWz)(pins:PNz)(s:Shared),Vals kvs ks->Inv X pins σ H s ->
 (∀(C:SortKind->Shared->Prop)(E:VPz),2<=ks.length->C kd s->wpAny (model X.prog X.w) A (keyKind' ks.toArray) C E s) /\
 ∀x∈ks,∀y∈ks,∀C:Bool->Shared->Prop,C (decide (κ x<κ y)) s->wpAny (model X.prog X.w) A (keyLt' kd x y) C (λ_ _=>False) s
theorem LV{pins:PNz}{σ:St}{H:Hp}{s:Shared}{p:Addr}{β:Type}{ts:List (Addr×β)}{K:Addr×β->Int}{kd:SortKind}{κ:Value->Int}{Q:VK}(I:Inv X pins σ H s)(hp:SqL X.K H p (ts.map λ t=>V.ref t.1))(G:Qx X X.A.in1.in1 σ H (ts.map λ t=>V.ref t.1) kd κ)(hκ:∀t∈ts,κ (.ref t.1)=K t)
  (q:∀l (ts':List (Addr×β)),H l=none->ts'.Perm ts->(ts'.map K).Pairwise (·<=·)->Q (.ref l) (upd H l (.lst (ts'.map λ t=>V.ref t.1)))):wpAny (model X.prog X.w) X.A (call (.builtin "sorted") [.ref p]) (EP X pins σ Q) X.xe s:=by
 obtain⟨its,rv,pl,hz⟩:=I.list hp;have hits:its=ts.map λ t=>Value.ref t.1:=by
  have:=CQ (ts:=ts.map (·.1)) (its:=its) (by rw[List.map_map];exact rv);rw[this,List.map_map];rfl
 rw[List.length_map]at hz;have hlen:its.length=ts.length:=by rw[hits,List.length_map]
 refine QB (kd:=kd) (κ:=κ) pl.isList (by rw[hlen];exact hz) (λ h' k Q' E' h2 hq=>?_) (λ h' k x hx y hy C hc=>?_) λ zs pz sz=>?_
 .exact(G its pins { s with heap:=h' } rv (I.kept (t':=s.toks) k)).1 Q' E' h2 hq
 .exact(G its pins { s with heap:=h' } rv (I.kept (t':=s.toks) k)).2 x hx y hy C hc
 .obtain⟨ts',pt,ez⟩:=GF (f:=λ t:Addr×β=>Value.ref t.1) (l:=zs) (m:=its) pz ts hits;subst ez;obtain⟨e,he⟩:=sortedAll_at s.heap its (List.toArray (ts'.map λ t=>Value.ref t.1));have hn:H (s.heap.objs.size+1)=none:=I.hok.fresh (Nat.le_succ _);refine⟨.ref (s.heap.objs.size+1),_,I.laid (o:=.lst (ts'.map λ t=>V.ref t.1)) (t':=s.toks) (λ b o z=>sortedAll_old z) (Nat.le_succ _) ⟨?_,_,e,?_,he⟩,rfl,q _ _ hn pt ?_⟩
  .rw[List.length_map,pt.length_eq];exact hz
  .have:=Eu (ts'.map (·.1));rw[List.map_map,List.map_map]at this;exact this
  .rw[List.map_map]at sz;rw[show ts'.map K=ts'.map (κ∘λ t=>Value.ref t.1) from List.map_congr_left λ t ht=>(hκ t (pt.mem_iff.mp ht)).symm];exact sz
end
abbrev PR:=Addr×Addr×List Int×V
def PB(H:Hp)(key:List Int->Int):Value->Int
 |.ref a=>match H a with
  |some (.tup (.ref p::_))=>Nw H key (.ref p)
  |_=>0
 |_=>0
theorem Fw{H:Hp}{key:List Int->Int}{a p:Addr}{ns:List Int}{v:V}(h:H a=some (.tup [.ref p,v]))(h2:H p=some (.tup (ns.map V.int))):PB H key (.ref a)=key ns:=by
 show(match H a with|some (.tup (.ref p::_))=>Nw H key (.ref p)|_=>0)=key ns;rw[h];exact Ea h2
def Bf:List Int->Ds
 |[]=>.nil
 |i::r=>.cons (.at (.int i)) (Bf r)
theorem Fx{K:Frag}{H:Hp}:∀(ns:List Int),DIss K H (Bf ns) (ns.map V.int)
 |[]=>by
  show DIss K H .nil [];rw[DIss]
 |i::r=>by
  show DIss K H (.cons (.at (.int i)) (Bf r)) (.int i::r.map V.int);rw[DIss];exact⟨_,_,rfl,by rw[DIs];exact⟨rfl,rfl⟩,Fx r⟩
theorem Hh:∀(ns:List Int),BH (Bf ns)=0
 |[]=>by rw[Bf,BH]
 |i::r=>by rw[Bf,BH,dep,Hh r];rfl
theorem IY:∀(ns ms:List Int),BZ (Bf ns) (Bf ms)=decide (ns=ms)
 |[],[]=>by rw[Bf,BZ,decide_eq_true rfl]
 |[],j::q=>by rw[Bf,Bf,BZ,decide_eq_false (by intro z;cases z)]<;>(intros;contradiction)
 |i::r,[]=>by rw[Bf,Bf,BZ,decide_eq_false (by intro z;cases z)]<;>(intros;contradiction)
 |i::r,j::q=>by
  rw[Bf,Bf,BZ,IY r q,deq];by_cases h:i=j
  .subst h;by_cases h2:r=q
   .subst h2;simp[eqV]
   .rw[decide_eq_false h2,decide_eq_false (λ z=>h2 (List.cons.inj z).2),Bool.and_false]
  .rw[decide_eq_false (λ z=>h (List.cons.inj z).1)];have:eqV (.int i) (.int j)=false:=by simp[eqV,h]
   rw[this];rfl
theorem EZ{h:Heap}:∀{ts:List PR},(∀t∈ts,∃m,IsTup h t.1 #[.ref t.2.1,m])->KatTups h (ts.map λ t=>Value.ref t.1) (ts.map λ t=>Value.ref t.2.1)
 |[],_=>KatTups.nil
 |t::r,hh=>by
  obtain⟨m,o,ho,hc,n,hd⟩:=hh t List.mem_cons_self;exact KatTups.cons ho hc hd rfl (EZ λ u hu=>hh u (List.mem_cons_of_mem _ hu))
theorem Lk{X:Cx}{A:Around}{σ:St}{H:Hp}{ts:List PR}{m:Nat}{key:List Int->Int}(hu:A.units+8<cLine)(ht:∀t∈ts,H t.1=some (.tup [.ref t.2.1,t.2.2.2])/\H t.2.1=some (.tup (t.2.2.1.map V.int))/\t.2.2.1.length=m+1/\AA t.2.2.2=true)
  (hkey:∀t∈ts,∀u∈ts,HT.lexLt t.2.2.1 u.2.2.1=decide (key t.2.2.1<key u.2.2.1)) (huq:∀t∈ts,∀u∈ts,t.2.2.1=u.2.2.1->t=u):Qx X A σ H (ts.map λ t=>V.ref t.1) (tuples' false) (PB H key):=λ ks pins s rk I=>by
 have hks:ks=ts.map λ t=>Value.ref t.1:=by
  have:=CQ (ts:=ts.map (·.1)) (its:=ks) (by rw[List.map_map];exact rk);rw[this,List.map_map];rfl
 subst hks;have tup:∀t∈ts,(∃mv,RelV t.2.2.2 mv/\IsTup s.heap t.1 #[.ref t.2.1,mv])/\∃items,IsTup s.heap t.2.1 items/\IntsAre items.toList t.2.2.1:=λ t htm=>by
  obtain⟨h1,h2,_,_⟩:=ht t htm;obtain⟨_,zs,rz,tz⟩:=(show ObjOk X.prog X.w H s.heap t.1 (.tup [.ref t.2.1,t.2.2.2]) from I.hok _ _ h1);obtain⟨_,zs2,rz2,tz2⟩:=(show ObjOk X.prog X.w H s.heap t.2.1 (.tup (t.2.2.1.map V.int)) from I.hok _ _ h2);obtain⟨u1,u2,rfl,r1,r2⟩:=K0 rz;cases r1;exact⟨⟨u2,r2,tz⟩,_,tz2,by simpa using Hi rz2⟩
 refine⟨λ C E h2 hc=>?_,λ x hx y hy C hc=>?_⟩
 .rw[List.length_map]at h2;refine kat_kind (T:=Value.type "tuple") (EZ λ t htm=>let ⟨⟨mv,_,z⟩,_⟩:=tup t htm;⟨mv,z⟩) (by rw[List.length_map];lia) (λ v hv=>?_) (by decide) hc;obtain⟨t,htm,rfl⟩:=List.mem_map.mp hv;obtain⟨_,items,⟨o,ho,hcl,_⟩,_⟩:=tup t htm;rw[<-hcl];exact(Looks.ld ho).andThen .now
 .obtain⟨t,mt,rfl⟩:=List.mem_map.mp hx;obtain⟨u,mu,rfl⟩:=List.mem_map.mp hy;obtain⟨⟨m1,q1,o1,g1,c1,n1,d1⟩,i1,tp1,z1⟩:=tup t mt;obtain⟨⟨m2,q2,o2,g2,c2,n2,d2⟩,i2,tp2,z2⟩:=tup u mu;obtain⟨a1,a2,a3,a4⟩:=ht t mt;obtain⟨b1,b2,b3,b4⟩:=ht u mu;rw[Fw a1 a2,Fw b1 b2,<-hkey t mt u mu]at hc;refine kat_lt g1 d1 g2 d2 ?_;have D1:∀ns,H t.2.1=some (.tup (ns.map V.int))->DIs X.K H (.tup (Bf ns)) (.ref t.2.1):=λ ns h=>by
   rw[DIs];exact⟨_,_,rfl,SqT.of h,Fx ns⟩
  have D2:DIs X.K H (.tup (Bf u.2.2.1)) (.ref u.2.1):=by
   rw[DIs];exact⟨_,_,rfl,SqT.of b2,Fx _⟩
  have dp:dep (.tup (Bf t.2.2.1))<=1:=by rw[dep,Hh];lia
  have eqp:SeqAt.EqAt A s (.ref t.2.1) (.ref u.2.1) (decide (t.2.2.1=u.2.2.1)):=by
   have:=M4 I 1 A (.tup (Bf t.2.2.1)) (.tup (Bf u.2.2.1)) (.ref t.2.1) (.ref u.2.1) (.ref t.2.1) (.ref u.2.1) dp (D1 _ a2) D2 rfl rfl (by lia);rwa [deq,IY]at this
  show KatLex X.prog X.w A false (decide ((#[Value.ref t.2.1,m1]:Array Value).size<(#[Value.ref u.2.1,m2]:Array Value).size)) C [(Value.ref t.2.1,Value.ref u.2.1),(m1,m2)] 0 s;refine kat_cons (eqp _ _ _ _ (kat_go (λ e=>kat_yes ?_) λ e=>kat_no ?_))
  .obtain rfl:=huq t mt u mu (of_decide_eq_true e);have eqm:SeqAt.EqAt A s m1 m2 true:=by
    have dm:DIs X.K H (.at t.2.2.2) t.2.2.2:=by rw[DIs];exact⟨rfl,a4⟩
    have:=M4 I 0 A (.at t.2.2.2) (.at t.2.2.2) t.2.2.2 t.2.2.2 m1 m2 (by rw[dep];lia) dm dm q1 q2 (by lia);rwa [Cv _ dm]at this
   refine kat_cons (eqm _ _ _ _ (kat_yes (kat_nil ?_)));have:HT.lexLt t.2.2.1 t.2.2.1=false:=by rw[hkey t mt t mt];exact decide_eq_false (by lia)
   rw[this]at hc;exact hc
  .rw[show(false&&(0==0))=false from rfl];exact kat_one _ _ (HT.lt_tupInts tp1 tp2 z1 z2 (by lia) hc)
section
variable{X:Cx}
theorem BE{k:Nat}(hr:Room k X.A):Da X (.builtin "sorted") (λ xs H Q=>∃(p:Addr)(ts:List PR)(m:Nat)(key:List Int->Int),xs=[.ref p]/\SqL X.K H p (ts.map λ t=>V.ref t.1) /\
  (∀t∈ts,H t.1=some (.tup [.ref t.2.1,t.2.2.2])/\H t.2.1=some (.tup (t.2.2.1.map V.int))/\t.2.2.1.length=m+1/\AA t.2.2.2=true)/\(∀t∈ts,∀u∈ts,HT.lexLt t.2.2.1 u.2.2.1=decide (key t.2.2.1<key u.2.2.1))/\(∀t∈ts,∀u∈ts,t.2.2.1=u.2.2.1->t=u) /\
  ∀l (ts':List PR),H l=none->ts'.Perm ts->(ts'.map λ t=>key t.2.2.1).Pairwise (·<=·)->Q (.ref l) (upd H l (.lst (ts'.map λ t=>V.ref t.1)))):=by
 intro pins s σ H xs us Q I r h;obtain⟨p,ts,m,key,rfl,hp,ht,hkey,huq,q⟩:=h;obtain⟨u,rfl,ru⟩:=FD r;cases ru;exact LV I hp (Lk (by have:=hr.units;show X.A.units+1+1+8<_;lia) ht hkey huq) (λ t hm=>Fw (ht t hm).1 (ht t hm).2.1) q
end
end L2
namespace HT
open PySem.W
open PySem PySem.Spec PyProof.Rows
section
variable{prog:Program}{w:World}{A:Around}{s:Shared}{E:VPz}
theorem cat_tup0{t b:Addr}{vs ws:LWz}{Q:VPz}(ht:IsTup s.heap t vs.toArray)(hb:IsTup s.heap b ws.toArray)(hv:vs=[])
  (h:Q (.ref b) s):wpAny (model prog w) A (binaryOp .Add (.ref t) (.ref b)) Q E s:=by
 obtain⟨⟨cls,dd,data,sl⟩,ho,hc,n,hd⟩:=id ht;obtain⟨⟨cls2,dd2,data2,sl2⟩,ho2,hc2,n2,hd2⟩:=id hb;simp only at hc hd hc2 hd2;subst hc hd hc2 hd2;exact concat_meets ⟨_,ho,rfl⟩ ⟨_,ho2,rfl⟩ noFill_tuple_add seq_tuple_add PySem.F.slot_tuple_add PySem.F.entry_tuple_add (PySem.F.args_tuple_add_2 _ _)
   (tuple_addW0 t b vs.toArray ws.toArray n n2 dd dd2 sl sl2 (by simp[hv])) ⟨ho,ho2,h⟩
end
end HT
namespace L2
open PySem.W
open PySem PySem.Spec PyProof.Rows
section
variable{X:Cx}
def RL(K:Frag):R2:=λ x y H Q=>∃a b xs ys,x=.ref a/\y=.ref b/\SqT K H a xs/\H b=some (.tup ys)/\ys≠[]/\xs.length+ys.length<=sizeLine /\
 ∀p H',Same H H'->H' p=some (.tup (xs++ys))->Q (.ref p) H'
theorem DX:OpR X (binaryOp .Add) (RL X.K):=by
 intro pins s σ H x y v u Q I rx ry h;obtain⟨a,b,xs,ys,rfl,rfl,ha,hb,hy,hz,q⟩:=h;by_cases hx:xs=[]
 .cases rx;cases ry;obtain⟨its,r1,p1,_⟩:=I.tuple ha;obtain⟨its2,r2,p2,_⟩:=I.tuple (SqT.of hb);exact HT.cat_tup0 p1 p2 (r1.nil_iff.mpr hx) ⟨.ref b,H,I,rfl,q b H (Same.refl H) (by rw[hx];exact hb)⟩
 .exact QV pins s σ H (.ref a) (.ref b) v u Q I rx ry ⟨a,b,xs,ys,rfl,rfl,ha,SqT.of hb,hx,hz,λ z=>absurd z hy,λ_ p hp=>q p _ (Same.new hp) upd_same⟩
end
theorem So{n:Nat}(h:n<=30000):n<sizeLine:=Nat.lt_of_le_of_lt h (by decide)
section
variable{P:Program}{w:World}{K:Frag}{mg:MGz}{base:Heap}{x qual:Str}{st:Stmt}{f c:Addr}{fd:FuncData}{N ps:LSz}{k:Nat}{sp:Sp}
theorem FunC.ok(F:FunC K x qual st f fd c)(S:An N ps (Ag st))(len:∀vs H Q E,sp vs H Q E->vs.length=ps.length)
  (hbody:∀(A:Around)(outer:List Env)(s:Shared)(H:Hp)(vs:LUz)(Q:VK)(E:XK),Room k (A.deeper (envOfC qual (Ag st) s.heap.objs.size f (.ref c)))->sp vs H Q E ->
   ∃t,PSs (Bm CX0 P w K mg base N qual (Ag st) f (.ref c) A outer s H E).nox (A7 st) t/\t { nx:=λ_ H'=>Q .non H',rt:=Q } (start N vs) H):A8 P w K mg base CX0 (k+1) f fd ps sp:=by
 obtain⟨oc,od,kV,doc,pm,an,ct,osl,rfl,lk,hcd⟩:=F.ex;refine Lp lk hcd S len λ A outer s H vs Q E hr hsp=>?_;obtain⟨t,h,q⟩:=hbody A outer s H vs Q E hr hsp;exact⟨t,h.nox,q⟩
end
def tkd(H:Hp)(L:PNz):Hp:=λ a=>match L.lookup a with|some o=>some (Bx a o)|none=>H a
def utk(H:Hp)(L:PNz):Hp:=λ a=>match L.lookup a with|some _=>none|none=>H a
section
variable{P:Program}{w:World}{H H':Hp}{h h':Heap}{a:Addr}{o:Obj}{L:PNz}{fs:List Addr}
theorem Gs(e:L.lookup a=some o):tkd H L a=some (Bx a o):=by unfold tkd;rw[e]
theorem AS(e:L.lookup a=none):tkd H L a=H a:=by unfold tkd;rw[e]
theorem Fk(e:L.lookup a=some o):utk H L a=none:=by unfold utk;rw[e]
theorem Bl(e:L.lookup a=none):utk H L a=H a:=by unfold utk;rw[e]
theorem Ch(e:H a=none):utk H L a=none:=by
 cases q:L.lookup a with
 |none=>rw[Bl q];exact e
 |some o=>exact Fk q
theorem E3{u:HO}(hL:∀a o,L.lookup a=some o->H a=none)(e:H a=some u):L.lookup a=none:=by
 cases q:L.lookup a with
 |none=>rfl
 |some o=>rw[hL a o q]at e;cases e
theorem DW{u:HO}(hL:∀a o,L.lookup a=some o->H a=some (Bx a o))(e:H a=some u)(n:∀o,u≠Bx a o):L.lookup a=none:=by
 cases q:L.lookup a with
 |none=>rfl
 |some o=>rw[hL a o q]at e;cases e;exact absurd rfl (n o)
theorem HOk.tkd(hok:HOk P w H h)(hL:∀a o,L.lookup a=some o->H a=none)(hc:∀a o,L.lookup a=some o->h.get? a=some o):HOk P w (tkd H L) h:=λ a u e=>by
 cases q:L.lookup a with
 |some o =>
  rw[Gs q]at e;cases e;exact JS (hc a o q)
 |none =>
  rw[AS q]at e;exact(hok a u e).stay (λ_ _ _ z=>z) (λ b z=>by rw[AS (E3 hL z)];exact z) (λ b xs z=>by rw[AS (E3 hL z)];exact z)
theorem HOk.utk(hok:HOk P w H h)(hL:∀a o,L.lookup a=some o->H a=some (Bx a o)):HOk P w (utk H L) h:=λ a u e=>by
 cases q:L.lookup a with
 |some o=>rw[Fk q]at e;cases e
 |none =>
  rw[Bl q]at e;exact(hok a u e).stay (λ_ _ _ z=>z) (λ b z=>by rw[Bl (DW hL z (λ_ z=>nomatch z))];exact z) (λ b xs z=>by rw[Bl (DW hL z (λ_ z=>nomatch z))];exact z)
theorem Un.utk(u:Un fs [] (L2.tkd H L) H' h h')(hok:HOk P w H' h')(hL:∀a o,L.lookup a=some o->H a=none)(hc:∀a o,L.lookup a=some o->h.get? a=some o)(hf:∀a o,L.lookup a=some o->a∉fs)(hk:∀a o,L.lookup a=some o->H' a=some (Bx a o)):Un fs [] H (L2.utk H' L) h h' where
 keep b o q n nf nx:=by
  cases e:L.lookup b with
  |some o' =>
   rw[hc b o' e]at q;cases q;exact(hok b _ (hk b o e)).1
  |none=>exact u.keep b o q (by rw[AS e];exact n) nf nx
 slot b o q n hb nx:=by
  cases e:L.lookup b with
  |some o'=>exact absurd hb (hf b o' e)
  |none=>exact u.slot b o q (by rw[AS e];exact n) hb nx
 free b o q n nx:=by
  cases e:L.lookup b with
  |some o'=>exact Fk e
  |none=>rw[Bl e];exact u.free b o q (by rw[AS e];exact n) nx
 there b o q nx:=u.there b o q nx
 tups b xs e:=by
  have n:=E3 hL e;rw[Bl n];exact u.tups b xs (by rw[AS n];exact e)
 frzs b o v e:=by
  have n:=E3 hL e;rw[Bl n];exact u.frzs b o v (by rw[AS n];exact e)
 tbls b ps e:=by
  have n:=E3 hL e;rw[Bl n];exact u.tbls b ps (by rw[AS n];exact e)
theorem Un.tkd(u:Un fs [] (L2.utk H L) H' h h')(hL:∀a o,L.lookup a=some o->H a=some (Bx a o)):Un fs [] H (L2.tkd H' L) h h':=by
 have out:∀{b},H b=none->L.lookup b=none:=λ{b} n=>by
  cases e:L.lookup b with
  |none=>rfl
  |some o=>rw[hL b o e]at n;cases n
 exact {
  keep:=λ b o q n nf nx=>u.keep b o q (Ch n) nf nx
  slot:=λ b o q n hb nx=>u.slot b o q (Ch n) hb nx
  free:=λ b o q n nx=>by rw[AS (out n)];exact u.free b o q (Ch n) nx
  there:=λ b o q nx=>u.there b o q nx
  tups:=λ b xs e=>by
   have n:=DW hL e (λ_ z=>nomatch z);rw[AS n];exact u.tups b xs (by rw[Bl n];exact e)
  frzs:=λ b o v e=>by
   have n:=DW hL e (λ_ z=>nomatch z);rw[AS n];exact u.frzs b o v (by rw[Bl n];exact e)
  tbls:=λ b ps e=>by
   have n:=DW hL e (λ_ z=>nomatch z);rw[AS n];exact u.tbls b ps (by rw[Bl n];exact e) }
end
def FvOk(P:Program)(w:World)(K:Frag)(mg:MGz)(base:Heap)(k:Nat)(H:Hp)(f:Addr)(sp:Sp):Prop :=
 (∃o fd,H f=some (Bx f o)/\o.data=.func fd)/\∀(A:Around)(outer:List Env)(s:Shared)(H':Hp)(us:LWz)(vs:LUz)(Q:VK)(E:XK),Same H H'->Room k A->Env0 P w K mg base A outer s H'->Vals vs us->sp vs H' Q E ->
  codeAny (model P w) A (.call (.ref f) ⟨us,[]⟩) (CR CX0 outer P w H' s Q E) s
theorem FvOk.same{P:Program}{w:World}{K:Frag}{mg:MGz}{base:Heap}{k:Nat}{H H':Hp}{f:Addr}{sp:Sp}(h:FvOk P w K mg base k H f sp)(s:Same H H'):FvOk P w K mg base k H' f sp :=
 ⟨let ⟨o,fd,e,d⟩:=h.1;⟨o,fd,s _ _ e,d⟩,λ A outer sh H2 us vs Q E s2=>h.2 A outer sh H2 us vs Q E (s.trans s2)⟩
def tFv(P:Program)(w:World)(K:Frag)(mg:MGz)(base:Heap)(k:Nat)(tv:TE)(t:TA):TE:=λ σ H Q=>tv σ H λ v H1=>∃f sp,v=.ref f/\FvOk P w K mg base k H1 f sp/\t σ H1 λ vs H2=>Same H1 H2/\sp vs H2 Q E0
section
variable{X:Cx}{k j:Nat}{y:Str}{p pos:Pos}{e:Expr}{es:List Expr}{tv:TE}{t:TA}
theorem Tz(hr:Room j X.A)(hv:PE X (.Name y p) tv)(ha:PA X (e::es) t)(hj:k<=j:=by decide)
  (he:starEach (e::es) X.env=(false,eval e X.env)::starEach es X.env:=by rfl) (hpl:(backTo pos (starEach es X.env)).any (·.1)=false:=by rfl):PE X (.Call (.Name y p) (e::es) [] pos) (tFv X.prog X.w X.K X.mg X.base k tv t):=by
 intro pins s σ H Q I h;refine wpAny_Call_Name_kw (thn (hv pins s σ H _ I h) λ u s1 hz_=>?_);obtain⟨v,H1,I1,r1,f,sp,e1,F,q1⟩:=hz_;subst e1;cases r1;have fnat:∀{H2:Hp}{s2:Shared},Same H1 H2->Inv X pins σ H2 s2->FnAt f s2.heap:=λ{H2 s2} sm I2=>by
  obtain⟨o,fd,e,d⟩:=F.1;have:=(show ObjOk X.prog X.w H2 s2.heap f (Bx f o) from I2.hok f _ (sm _ _ e)).1;obtain⟨oc,od,dt,sl⟩:=o;cases d;exact⟨_,_,_,_,this⟩
 refine callWith_F (fnat (Same.refl _) I1) (thn (ha pos pins s1 σ H1 _ I1 q1) λ us s2 ⟨vs,H2,I2,r,sm,q⟩=>⟨fnat sm I2,?_⟩) he hpl;refine wpAny_call (codeAny_mono (F.2 X.A X.stack s2 H2 us vs Q E0 sm (hr.mono hj) I2.env0 r q) λ r s' hq=>?_);cases r with
 |error e=>exact KI pins σ H2 s2 e s' I2 hq
 |ok fl =>
  cases fl with
  |ret u=>exact I2.after hq
  |next=>exact False.elim hq
  |brk=>exact False.elim hq
  |cont=>exact False.elim hq
end
theorem IN{g:Addr->Obj}:∀{l:List Addr}{a:Addr},(l.map λ c=>(c,g c)).lookup a=if a∈l then some (g a) else none
 |[],a=>by simp
 |c::r,a=>by
  rw[List.map_cons,List.lookup_cons];by_cases e:a=c
  .subst e;simp
  .have:(a==c)=false:=by simpa using e
   rw[this];show List.lookup a (r.map λ c=>(c,g c))=_;rw[IN];simp[e]
structure NS(N:LSz)(clos:List (Str×Addr))(σ:St)(H:Hp)(L:PNz):Prop where
 new:∀a o,L.lookup a=some o->H a=none
 has:∀p∈clos,∃o v,L.lookup p.2=some o/\o.data=.cell v
 val:∀p∈clos,∀(i:Nat)(v:V),N[i]?=some p.1->σ[i]?=some (some v)->∃o u,L.lookup p.2=some o/\o.data=.cell (some u)/\RelV v u
def Sn(N:LSz)(clos:List (Str×Addr))(sp:Sp)(t:TA):TE:=λ σ H Q=>t σ H λ vs H1=>∀L,NS N clos σ H1 L->sp vs (tkd H1 L) (λ v H2=>(∀a o,L.lookup a=some o->H2 a=some (Bx a o))/\Q v (utk H2 L)) E0
section
variable{X:Cx}{k j:Nat}{x:Str}{ps:LSz}{sp:Sp}{p pos:Pos}{e:Expr}{es:List Expr}{t:TA}{clos:List (Str×Addr)}
theorem S4(D:Av X.prog X.w X.K X.mg X.base k x ps sp)(hr:Room j X.A)(ha:PA X (e::es) t)(hcl:∀p∈clos,X.env.cells.lookup p.1=some p.2/\X.env.kindOf p.1=some .cell)(hfn:∀y,X.fn y=true)(hex:X.ex=[])(hj:k<=j:=by decide)(hg:Gl X x:=by rfl)(hdb:(x==("__debug__":Str))=false:=by decide)
  (he:starEach (e::es) X.env=(false,eval e X.env)::starEach es X.env:=by rfl) (hpl:(backTo pos (starEach es X.env)).any (·.1)=false:=by rfl):PE X (.Call (.Name x p) (e::es) [] pos) (Sn X.N clos sp t):=by
 obtain⟨f,fd,F,hm,hk,hb⟩:=D.ex;intro pins s σ H Q I h;refine wpAny_Call_Name_kw (C3 I hg hm ?_ hdb);refine callWith_K (h₀:=X.base) I.ok.mod.kin hk (thn (ha pos pins s σ H _ I h) λ us s1 ⟨vs,H1,I1,r,q⟩=>⟨I1.kIn,?_⟩) he hpl
 let g:Addr->Obj:=λ c=>(s1.heap.get? c).getD ⟨.none,none,.plain,#[]⟩
 let L:PNz:=(clos.map (·.2)).map λ c=>(c,g c)
 have hLk:∀a,L.lookup a=if a∈clos.map (·.2) then some (g a) else none:=λ a=>IN;have hcell:∀p∈clos,∃v,s1.heap.IsCell p.2 v:=λ p hp=>I1.cell p.1 p.2 (hcl p hp).1;have hin:∀a o,L.lookup a=some o->∃p∈clos,p.2=a/\s1.heap.get? a=some o:=λ a o e=>by
  rw[hLk]at e;split at e
  .rename_i hm;obtain⟨p,hp,rfl⟩:=List.mem_map.mp hm;refine⟨p,hp,rfl,?_⟩;obtain⟨v,o',ho',_⟩:=hcell p hp;cases e;show _=some ((s1.heap.get? p.2).getD _);rw[ho'];rfl
  .cases e
 have hof:∀p∈clos,∀o,s1.heap.get? p.2=some o->L.lookup p.2=some o:=λ p hp o e=>by
  rw[hLk,if_pos (List.mem_map.mpr ⟨p,hp,rfl⟩)];show some ((s1.heap.get? p.2).getD _)=_;rw[e];rfl
 have hnew:∀a o,L.lookup a=some o->H1 a=none:=λ a o e=>by
  obtain⟨p,hp,rfl,_⟩:=hin a o e;exact I1.freeC p.1 p.2 (hcl p hp).1
 have hget:∀a o,L.lookup a=some o->s1.heap.get? a=some o:=λ a o e=>let ⟨_,_,_,z⟩:=hin a o e;z;have habove:∀a o,L.lookup a=some o->X.s₀.heap.objs.size<=a:=λ a o e=>by
  obtain⟨p,hp,rfl,_⟩:=hin a o e;exact I1.ok.cab p.1 p.2 (hfn _) (hcl p hp).1
 have hnf:∀a o,L.lookup a=some o->a∉frs X.stack:=λ a o e hb=>by
  have ab:=habove a o e;obtain⟨p,hp,rfl,_⟩:=hin a o e;rcases List.mem_cons.mp (I1.stkSub _ hb) with z|z
  .exact I1.cne p.1 p.2 (hcl p hp).1 z
  .obtain⟨_,o',ho',_⟩:=I1.ok.funs.mem z;exact absurd (Nat.lt_of_lt_of_le (Heap.lt_size ho') ab) (Nat.lt_irrefl _)
 have CA:NS X.N clos σ H1 L:=by
  refine⟨hnew,λ p hp=>?_,λ p hp i v hi hv=>?_⟩
  .obtain⟨v,o,ho,hd⟩:=hcell p hp;exact⟨o,v,hof p hp o ho,hd⟩
  .obtain⟨m,hns,hloc⟩:=I1.loc;obtain⟨u,ru,hlook⟩:=hloc i p.1 v hi hv (.inr (.inl (hcl p hp).2));rcases hlook with ⟨k1,_⟩|⟨_,c,hc,o,ho,hd⟩
   .rw[(hcl p hp).2]at k1;cases k1
   .rw[(hcl p hp).1]at hc;cases hc;exact⟨o,u,hof p hp o ho,hd,ru⟩
 have hsp:=q L CA;have e0:Env0 X.prog X.w X.K X.mg X.base X.A X.stack s1 (tkd H1 L):=by
  have z:=I1.env0;refine⟨z.frames,z.mod,λ b o e=>?_,z.bsz,z.funs,λ b hb=>?_,z.hok.tkd hnew hget,z.bare⟩
  .refine⟨(z.bs b o e).1,?_⟩;cases q:L.lookup b with
   |none=>rw[AS q];exact(z.bs b o e).2
   |some o'=>exact absurd (Nat.lt_of_lt_of_le (Heap.lt_size e) (Nat.le_trans I1.ok.bsz (habove b o' q))) (Nat.lt_irrefl _)
  .cases q:L.lookup b with
   |none=>rw[AS q];exact z.frf b hb
   |some o'=>exact absurd hb (hnf b o' q)
 have hl:us.length=ps.length:=by rw[<-r.length];exact F.len _ _ _ _ hsp
 have hbd:=hb s1 us I1.kIn (by rw[List.append_nil];exact hl);rw[List.append_nil]at hbd;refine wpAny_call (codeAny_mono (F.run X.A X.stack s1 (tkd H1 L) ⟨us,[]⟩ us vs _ E0 (hr.mono hj) e0 hbd r hsp) λ rs s' hq=>?_);cases rs with
 |error e=>exact KI pins σ H1 s1 e s' I1 (by exact hq)
 |ok fl =>
  cases fl with
  |ret u =>
   obtain⟨v,H2,os,bare,un,hok,rv,hkp,q2⟩:=hq;exact I1.after ⟨v,utk H2 L,os,bare,un.utk hok hnew hget hnf hkp,hok.utk hkp,rv,q2⟩
  |next=>exact False.elim hq
  |brk=>exact False.elim hq
  |cont=>exact False.elim hq
end
def Rz(P:Program)(w:World)(K:Frag)(mg:MGz)(base:Heap)(N:LSz)(qual:Str)(scope:Scope)(f:Addr)(cd:Value)(clos:List (Str×Addr))(A:Around)(outer:List Env)(s:Shared)(H Hx:Hp)(E:XK):Cx where
 prog:=P
 w:=w
 K:=K
 mg:=mg
 base:=base
 A:=A.deeper (envX qual scope s.heap.objs.size f cd clos)
 N:=N
 s₀:=s
 H₀:=H
 env:=envX qual scope s.heap.objs.size f cd clos
 outer:=outer
 stack:=envX qual scope s.heap.objs.size f cd clos::outer
 ex:=[]
 calm:=true
 fn:=λ_=>false
 pn:=[]
 xe:=λ e s'=>wpAny (model P w) (A.deeper (envX qual scope s.heap.objs.size f cd clos)) (leaving (envX qual scope s.heap.objs.size f cd clos) e) (λ_ s''=>CX0 outer Hx s E e s'') (λ e' s''=>CX0 outer Hx s E e' s'') s'
theorem TabOk.lamC{clos:List (Str×Addr)}{mg:MGz}{pos:Pos}{qual:Str}{T:Addr}{params:Arguments}{body:Expr}{scope:Scope}{σ:St}{H:Hp}{Q:VK}(h:TabOk pos qual T H)
  (q:∀c' f ctv H',SameX T H H'->TabOk pos qual T H'->H' f=some (Bx f (Bv mg qual params body scope clos c' ctv))->H' c'=some (Cy c' qual)->(∀b,H b=none->H' b=none\/b=c'\/b=f)->Q (.ref f) H'):Tg mg T pos params body scope clos qual σ H Q:=by
 obtain⟨ps,e,t,c⟩:=h;refine⟨ps,e,t,?_⟩;rcases c with c|⟨c',c1,c2⟩
 .refine .inl ⟨c,λ c' f ctv hc hf n1 n2 n3=>?_⟩;have eT:(upd (upd (upd H T (.tbl (ps++#[rawInt pos.line,rawInt pos.col,.ref c']))) c' (Cy c' qual)) f (Bx f (Bv mg qual params body scope clos c' ctv))) T=some (.tbl (ps++#[rawInt pos.line,rawInt pos.col,.ref c'])):=by
   rw[Ah (Ne.symm n3),Ah (Ne.symm n2),upd_same]
  have eC:(upd (upd (upd H T (.tbl (ps++#[rawInt pos.line,rawInt pos.col,.ref c']))) c' (Cy c' qual)) f (Bx f (Bv mg qual params body scope clos c' ctv))) c'=some (Cy c' qual):=by
   rw[Ah n1,upd_same]
  refine q c' f ctv _ (λ a o ea no=>?_) ⟨_,eT,?_,.inr ⟨c',?_,eC⟩⟩ upd_same eC λ b hb=>?_
  .rw[Ah (Ae no hf),Ah (Ae no hc),Ah ea];exact no
  .rw[Array.toList_append];exact EL (c:=0) _ t
  .rw[Array.toList_append];exact codeAmong_snoc _ t c
  .by_cases h1:b=f
   .exact .inr (.inr h1)
   .by_cases h2:b=c'
    .exact .inr (.inl h2)
    .refine .inl ?_;rw[Ah h1,Ah h2,Ah (λ z=>by rw[z,e]at hb;cases hb)];exact hb
 .refine .inr ⟨c',c1,c2,λ f ctv hf=>?_⟩;have s:Same H (upd H f (Bx f (Bv mg qual params body scope clos c' ctv))):=Same.new hf;refine q c' f ctv _ s.x (TabOk.same ⟨ps,e,t,.inr ⟨c',c1,c2⟩⟩ s) upd_same (s _ _ c2) λ b hb=>?_;by_cases h1:b=f
  .exact .inr (.inr h1)
  .exact .inl (by rw[Ah h1];exact hb)
theorem TabOk.tb{pos:Pos}{qual:Str}{T T':Addr}{H H':Hp}(h:TabOk pos qual T H)(s:SameX T' H H')(n:T≠T')(hT:∃ps,H T'=some (.tbl ps)):TabOk pos qual T H':=by
 obtain⟨ps,e,t,c⟩:=h;refine⟨ps,s _ _ n e,t,?_⟩;rcases c with c|⟨c',c1,c2⟩
 .exact .inl c
 .refine .inr ⟨c',c1,s _ _ (λ z=>?_) c2⟩;obtain⟨ps',e'⟩:=hT;rw[z,e']at c2;cases c2
theorem TabOk.tbl{pos:Pos}{qual:Str}{T:Addr}{H:Hp}(h:TabOk pos qual T H):∃ps,H T=some (.tbl ps):=let ⟨ps,e,_⟩:=h;⟨ps,e⟩
theorem SameX.toN{T:Addr}{H H':Hp}(s:SameX T H H')(hT:∃ps,H T=some (.tbl ps)):SameN H H':=λ a o e n=>s a o (λ z=>by obtain⟨ps,e'⟩:=hT;rw[z,e']at e;cases e;exact n _ rfl) e
theorem Pf{H H':Hp}{L:PNz}(hL:∀a o,L.lookup a=some o->H a=none)(s:Same (tkd H L) H'):Same H (utk H' L)/\∀a o,L.lookup a=some o->H' a=some (Bx a o) :=
 ⟨λ a o e=>by
  have n:=E3 hL e;rw[Bl n];exact s _ _ (by rw[AS n];exact e),λ a o e=>s _ _ (Gs e)⟩
theorem J1{H:Hp}{L:PNz}{a:Addr}{u:HO}(hL:∀a o,L.lookup a=some o->H a=some (Bx a o))(e:H a=some u)(n:∀o,u≠Bx a o):utk H L a=some u:=by rw[Bl (DW hL e n)];exact e
theorem Lb{M:Model}{A:Around}{E:VPz}{s:Shared}{scope:Scope}{globals:Addr}{clos:List (Str×Addr)}{pn:Str}{u:Value}{qual:Str}{func:Option Addr}{code:Value}{builtins:Addr}{Q:Env->Shared->Prop}
  (hk:scope.kind=.function) (hp:scope.names.lookup pn=some .cell) (hc:∀n acc,cellsFrom n scope.names acc=(pn,n)::acc) (hpu:∀h,pushCells h scope.names=h.push { cls:=.type "cell",data:=.cell none })
  (hQ:∀h' tk,h'.Ns s.heap.objs.size (λ_=>none)->h'.IsCell (s.heap.objs.size+1) (some u)->(∀b o,s.heap.get? b=some o->h'.get? b=some o)->Q (newEnv scope s.heap.objs.size globals ((pn,s.heap.objs.size+1)::clos) qual func code none builtins) { s with heap:=h',toks:=tk }) :
  wpAny M A (newFunctionEnv scope globals clos [(pn,u)] qual func code none builtins) Q E s:=by
 simp only[newFunctionEnv,Option.isSome_none,Bool.false_eq_true,if_false];refine wpAny_bind (wpAny_alloc ?_);refine wpAny_bind (wpAny_layCells _ (λ name kind cells=>by cases hkc:kind==NameKind.cell<;>simp[hkc]) _ _ _ _ ?_);rw[hc,hpu,show({ s with heap:=s.heap.push { cls:=.type "frame",data:=.dict #[] } }:Shared).heap.objs.size=s.heap.objs.size+1 from Heap.size_push ..];have hcell:((s.heap.push { cls:=.type "frame",data:=.dict #[] }).push { cls:=.type "cell",data:=.cell none }).IsCell (s.heap.objs.size+1) none:=⟨{ cls:=.type "cell",data:=.cell none },Heap.get?_push_at (Heap.size_push ..).symm rfl,rfl⟩;have hns:=(Heap.Ns.new s.heap (.type "frame")).keeps (h':=(s.heap.push { cls:=.type "frame",data:=.dict #[] }).push { cls:=.type "cell",data:=.cell none }) λ b o e=>Heap.get?_push_of_some _ e;refine wpAny_bind ?_;rw[List.forIn_cons];refine wpAny_bind (wpAny_bind (wpAny_storeName_cell (env:=newEnv scope s.heap.objs.size globals ((pn,s.heap.objs.size+1)::clos) qual func code none builtins) hk hp (by simp[newEnv]) hcell λ h' hc' hs'=>?_));refine wpAny_pure ?_;show wpAny M A (forIn ([]:List (Str×Value)) PUnit.unit _) _ _ _;rw[List.forIn_nil];refine wpAny_pure (wpAny_pure (hQ h' _ (hns.sameBut hs' (Nat.ne_of_lt (Nat.lt_succ_self _))) hc' λ b o e=>hs'.extBut b o (Nat.ne_of_lt (Nat.lt_succ_of_lt (Heap.lt_size e))) (Heap.get?_push_of_some _ (Heap.get?_push_of_some _ e))))
structure Jo(pn:Str)(fs:LSz)(sc:Scope):Prop where
 kind:sc.kind=.function
 co:sc.isCoroutine=false
 gen:sc.isGenerator=false
 par:sc.names.lookup pn=some .cell
 cells:∀n acc,cellsFrom n sc.names acc=(pn,n)::acc
 push:∀h,pushCells h sc.names=h.push { cls:=.type "cell",data:=.cell none }
 own:∀y,sc.names.lookup y=some .cell->y=pn
 free:∀y,sc.names.lookup y=some .free->y∈fs
 isfree:∀y∈fs,sc.names.lookup y=some .free
theorem Rt{P:Program}{w:World}{K:Frag}{mg:MGz}{base:Heap}{k:Nat}{H:Hp}{f c':Addr}{params:Arguments}{body:Expr}{scope:Scope}{qual pn:Str}{ctv:Value}{fs:LSz}{clos:List (Str×Addr)}{cv:LUz}{L:PNz}{sp:Sp}
  (hf:H f=some (Bx f (Bv mg qual params body scope clos c' ctv))) (hc:H c'=some (Cy c' qual)) (S:Jo pn fs scope) (hlen:cv.length=fs.length) (hkeys:∀y,(∃c,clos.lookup y=some c)↔y∈fs) (hinj:∀x y c,clos.lookup x=some c->clos.lookup y=some c->x=y)
  (hL:∀a o,L.lookup a=some o->H a=some (Bx a o)) (hcell:∀p∈clos,∃o v,L.lookup p.2=some o/\o.data=.cell v) (hval:∀p∈clos,∀(i:Nat)(v:V),fs[i]?=some p.1->cv[i]?=some v->∃o u,L.lookup p.2=some o/\o.data=.cell (some u)/\RelV v u)
  (hb:∀(s:Shared)(u:Value),BindsTo s (kla_fn "<lambda>" qual params body scope clos ((mg "__name__").getD .none) (.ref c') ctv) ⟨[u],[]⟩ [(pn,u)])
  (hone:∀vs H' Q E,sp vs H' Q E->∃v,vs=[v])
  (hbody:∀(A:Around)(outer:List Env)(s:Shared)(H':Hp)(E:XK)(v:V)(Q:VK),Same H H'->Room k (A.deeper (envX qual scope s.heap.objs.size f (.ref c') ((pn,s.heap.objs.size+1)::clos)))->sp [v] H' Q E ->
   ∃te,PE (Rz P w K mg base (pn::fs) qual scope f (.ref c') ((pn,s.heap.objs.size+1)::clos) A outer s (utk H' L) H' E) body te/\te (some v::cv.map some) (utk H' L) (λ v' H2=>(∀a o,L.lookup a=some o->H2 a=none)->Q v' (tkd H2 L))) :
  FvOk P w K mg base (k+1) H f sp:=by
 refine⟨⟨_,_,hf,rfl⟩,λ A outer s H' us vs Q E sm hr e0 r h=>?_⟩;obtain⟨v,rfl⟩:=hone _ _ _ _ h;obtain⟨u,rfl,ru⟩:=FD r;obtain⟨te,hpe,h⟩:=hbody A outer s H' E v Q sm (hr.deeper _) h;have hL':∀a o,L.lookup a=some o->H' a=some (Bx a o):=λ a o e=>sm _ _ (hL a o e);have hget:∀a o,L.lookup a=some o->s.heap.get? a=some o:=λ a o e=>(show ObjOk P w H' s.heap a (Bx a o) from e0.hok a _ (hL' a o e)).1;have lim:s.heap.NoLimit:=e0.mod.nolimit.keeps λ b o e=>(e0.bs b o e).1;have ho:s.heap.get? f=some (Bv mg qual params body scope clos c' ctv):=(show ObjOk P w H' s.heap f (Bx f _) from e0.hok f _ (sm _ _ hf)).1;refine kla_callFunE hr.depth ho rfl S.co S.gen rfl (Jg (e0.hok c' _ (sm _ _ hc))) (hb s u _ _ _ _ ?_);refine Lb S.kind S.par S.cells S.push λ h1 tk hns hcl hk=>?_;refine⟨lim.keeps hk,?_⟩;show codeAny _ _ (.expr body (envX qual scope s.heap.objs.size f (.ref c') ((pn,s.heap.objs.size+1)::clos))) _ _;refine kla_codeExpr ?_;have noA:∀b:Addr,b∉(Rz P w K mg base (pn::fs) qual scope f (.ref c') ((pn,s.heap.objs.size+1)::clos) A outer s (utk H' L) H' E).ex:=λ b z=>absurd (show b∈([]:List Addr) from z) (by simp);have mem:∀y c,clos.lookup y=some c->(y,c)∈clos:=λ y c e=>PySem.mem_of_lookup e;have npf:pn∉fs:=λ z=>by have:=S.isfree pn z;rw[S.par]at this;cases this
 have look:∀y c,((pn,s.heap.objs.size+1)::clos).lookup y=some c->(y=pn/\c=s.heap.objs.size+1)\/(y≠pn/\clos.lookup y=some c):=λ y c e=>by
  rw[List.lookup_cons]at e;by_cases q:y=pn
  .subst q;rw[beq_self_eq_true]at e;exact .inl ⟨rfl,(Option.some.inj e).symm⟩
  .rw[show(y==pn)=false from beq_false_of_ne q]at e;exact .inr ⟨q,e⟩
 have lookF:∀y c,y≠pn->clos.lookup y=some c->((pn,s.heap.objs.size+1)::clos).lookup y=some c:=λ y c n e=>by rw[List.lookup_cons,show(y==pn)=false from beq_false_of_ne n];exact e
 have lookP:((pn,s.heap.objs.size+1)::clos).lookup pn=some (s.heap.objs.size+1):=by rw[List.lookup_cons,beq_self_eq_true]
 have lt:∀y c,clos.lookup y=some c->c<s.heap.objs.size:=λ y c e=>by
  obtain⟨o,vv,ho',_⟩:=hcell (y,c) (mem y c e);exact Heap.lt_size (hget _ _ ho')
 have I:Inv (Rz P w K mg base (pn::fs) qual scope f (.ref c') ((pn,s.heap.objs.size+1)::clos) A outer s (utk H' L) H' E) [] (some v::cv.map some) (utk H' L) { s with heap:=h1,toks:=tk }:=by
  refine⟨⟨e0.mod,S.kind,rfl,rfl,Nat.le_refl _,λ x y c h1' h2'=>?_,λ y hy=>?_,λ y c z=>absurd z (by simp[Rz]),λ_=>hr.hd,Around.frames_deeper e0.frames,.inr ⟨rfl,rfl⟩,λ b z=>absurd z (noA b),λ b o e=>⟨(e0.bs b o e).1,Ch (e0.bs b o e).2⟩,e0.bsz,λ b _ _=>noA b,λ b z=>absurd z (noA b),e0.funs,λ b hb=>Ch (e0.frf b hb)⟩,
   rfl,e0.bare,Un.kept hk,⟨_,hns,λ i y vv h1' h2 h3=>?_⟩,λ y c e=>?_,Ch (e0.hok.fresh (Nat.le_refl _)),λ y c e=>?_,λ p hp=>absurd (show p∈([]:PNz) from hp) (by simp),(e0.hok.utk hL').kept hk,?_⟩
  .rcases look x c h1' with ⟨rfl,rfl⟩|⟨_,q1⟩
   .rcases look y _ h2' with ⟨rfl,_⟩|⟨_,q2⟩
    .rfl
    .exact absurd (lt y _ q2) (Nat.not_lt.mpr (Nat.le_succ _))
   .rcases look y _ h2' with ⟨rfl,rfl⟩|⟨_,q2⟩
    .exact absurd (lt x _ q1) (Nat.not_lt.mpr (Nat.le_succ _))
    .exact hinj x y c q1 q2
  .have hy:scope.names.lookup y=some .cell\/scope.names.lookup y=some .free:=hy;rcases hy with hy|hy
   .rw[S.own y hy];exact⟨_,lookP⟩
   .have m:=S.free y hy;obtain⟨c,e⟩:=(hkeys y).mpr m;exact⟨c,lookF y c (λ z=>npf (z ▸ m)) e⟩
  .have h1':(pn::fs)[i]?=some y:=h1';cases i with
   |zero =>
    cases h1';cases h2;exact⟨u,ru,.inr ⟨.inl S.par,_,lookP,hcl⟩⟩
   |succ i =>
    have h1':fs[i]?=some y:=h1';have h2:(cv.map some)[i]?=some (some vv):=h2;rw[List.getElem?_map]at h2;obtain⟨z,hz,e⟩:=Option.map_eq_some_iff.mp h2;cases e;have m:=List.mem_of_getElem? h1';obtain⟨c,hc'⟩:=(hkeys y).mpr m;obtain⟨o,u',ho',hd,rv⟩:=hval (y,c) (mem y c hc') i vv h1' hz;exact⟨u',rv,.inr ⟨.inr (S.isfree y m),c,lookF y c (λ z=>npf (z ▸ m)) hc',o,hk _ _ (hget _ _ ho'),hd⟩⟩
  .rcases look y c e with ⟨rfl,rfl⟩|⟨_,e⟩
   .exact⟨_,hcl⟩
   .obtain⟨o,vv,ho',hd⟩:=hcell (y,c) (mem y c e);exact⟨vv,o,hk _ _ (hget _ _ ho'),hd⟩
  .rcases look y c e with ⟨rfl,rfl⟩|⟨_,e⟩
   .exact Ch (e0.hok.fresh (Nat.le_succ _))
   .obtain⟨o,vv,ho',hd⟩:=hcell (y,c) (mem y c e);exact Fk ho'
  .show(some v::cv.map some).length=(pn::fs).length;rw[List.length_cons,List.length_cons,List.length_map,hlen]
 refine wpAny_mono (hpe [] _ _ _ _ I h) (λ u2 s' ⟨v2,H2,J,rv,q⟩=>?_) λ e s' z=>z;have un:Un (frs outer) [] (utk H' L) H2 s.heap s'.heap:=J.base;have hnf:∀a o,L.lookup a=some o->a∉frs outer:=λ a o e hb=>by
  have:=e0.frf a hb;rw[hL' a o e]at this;cases this
 have hno:∀a o,L.lookup a=some o->H2 a=none:=λ a o e=>un.free a o (hget a o e) (Fk e) (by simp);exact⟨v2,tkd H2 L,J.os,J.bare,un.tkd hL',J.hok.tkd hno (λ a o e=>un.keep a o (hget a o e) (Fk e) (hnf a o e) (by simp)),rv,q hno⟩
theorem Mn{M:Model}{A:Around}{E:VPz}{s:Shared}{K:Frag}{G C e:Addr}{d:Option Addr}{dt:Data}{sl':AOz}{Q:Bool->Shared->Prop}{b:Bool}(X:K.In s.heap){fI:Addr}(hG:Dp K G fI=true)
  (he:s.heap.get? e=some ⟨.ref C,d,dt,sl'⟩) (hs:mroIn K C (.ref G)=some b) (h:Q b s):wpAny M A (excMatches (.ref e) (.ref G)) Q E s:=by
 have LS:=looks_mroIn (M:=M) X hs;obtain⟨hp,g,dr,tk,os⟩:=s;have q:=hG;unfold Dp at q;split at q
 .rename_i dd cd sl ho;split at q
  .rename_i C' bm k0 k1 k2 k3 n k5 hm hs;simp only[Bool.and_eq_true,beq_iff_eq,Bool.not_eq_true']at q;obtain⟨⟨⟨⟨⟨rfl,rfl⟩,hdel⟩,ht⟩,hok⟩,hni⟩:=q;obtain⟨nm,bs,mro,ns,qn,hd,sn,sub,ab,col,del⟩:=cd;dsimp only at hm hdel hok hni;subst hm hdel;have hsl:sl=#[k0,k1,k2,k3,some (.builtin "ValueError.__new__"),k5]:=by
    obtain⟨l⟩:=sl;simp only at hs;rw[hs]
   subst hsl;have hC:hp.get? C'=some (excClassObj nm qn C' ns bs bm hd sn sub ab col dd k0 k1 k2 k3 k5 "ValueError.__new__"):=X _ _ ho;have hcB:(Value.ref C'::bm).contains (.type "BaseException")=true:=by
    rw[List.contains_cons,(tail_of_in X ht).hasType (show vErr.contains (.type "BaseException")=true by decide +kernel)];exact Bool.or_true _
   have f:=tc_notTuple;unfold excMatches;cases b<;>(repeat (first|with_reducible refine wpAny_loadPart_at he ?_|with_reducible refine wpAny_loadPart_at hC ?_|(with_reducible refine wpAny_isSubtype_exc hC ?_;rw[hcB])|(with_reducible refine LS.at ?_)|wp_step))<;>exact h
  .cases q
 .cases q
abbrev TH:=EG->St->Hp->Addr->Addr->Option Addr->Addr->Prop
def PHs(X:Cx)(hs:List ExceptHandler)(t:TH):Prop:=∀(pins:PNz)(s:Shared)(σ:St)(H':Hp)(D:EG)(x C:Addr)(d:Option Addr)(T2:Addr),T2≠x->Inv X pins σ (thrown H' x C d T2) s->t D σ H' x C d T2 ->
 wpAny (model X.prog X.w) X.A (handleBy (.ref x) X.env hs) (SP X pins D) X.xe s
inductive Sd(K:Frag)(im:Nat)(G:Addr)(ts:TS)(tr:TH)(D:EG)(σ:St)(H':Hp)(x C:Addr)(d:Option Addr)(T2:Addr):Prop
 |mk (b:Bool) (m:mroIn K C (.ref G)=some b) (y:b=true->ts (RS im D) (σ.set im (some (.ref x))) (thrown H' x C d T2)) (n:b=false->tr D σ H' x C d T2):Sd K im G ts tr D σ H' x C d T2
def UK:TH:=λ_ _ _ _ _ _ _=>False
def To(t:XK->TS)(th:TH):TS:=λ D σ H=>∃E₁:XK,t E₁ { nx:=D.nx,rt:=λ_ _=>False } σ H /\
 ∀x C d T T2 H',E₁ (.ref x) d H'->C6 H' x C d T->H' T2=none->T2≠x->th D σ H' x C d T2
section
variable{X:Cx}{im:Nat}{m g:Str}{G:Addr}{b₀ st:Stmt}{suite:List Stmt}{gp hpos pos:Pos}{ts:TS}{t:XK->TS}{hs:List ExceptHandler}{th:TH}
theorem QQ:PHs X [] UK:=λ_ _ _ _ _ _ _ _ _ _ _ z=>z.elim
theorem QN(he:PXS X st t)(hh:PHs X hs th)(hst:X.stack=X.env::X.outer)(hfr:X.env.frame=some X.env.locals)(hne:hs≠[]):PS X (.Try [st] hs [] [] pos) (To t th):=by
 intro pins s σ H D I ⟨E₁,h,hk⟩;rw[arm_exec_Try];cases hs with
 |nil=>exact absurd rfl hne
 |cons h0 hs =>
 refine wpAny_bind (wpAny_standAt (wpAny_tryStmt_except ?_));refine wpAny_execs_cons (thn (he E₁ pins s σ H _ _ I h λ x T C d H' s' I' fl q=>?_) λ f s1 q=>?_)
 .refine FG I' hst hfr (.inr ⟨T,fl⟩) λ h' T2 hT2 nT2 I2=>?_;exact hh pins _ σ H' D x C d T2 nT2 I2 (hk x C d T T2 H' q fl hT2 nT2)
 .cases f with
  |next=>obtain⟨σ',H',I',q⟩:=q;exact wpAny_execs_nil (wpAny_execs_nil ⟨σ',H',I',q⟩)
  |ret v=>obtain⟨_,_,_,_,_,q⟩:=q;exact q.elim
  |brk=>obtain⟨_,_,_,q⟩:=q;exact q.elim
  |cont=>obtain⟨_,_,_,q⟩:=q;exact q.elim
end
section
variable{X:Cx}{k j i:Nat}{x m n:Str}{C:Addr}{ps ks:LSz}{sp:Sp}{p pos apos np:Pos}{e o value:Expr}{es:List Expr}{kws:List Keyword}{t tk:TA}{ta:TE}{te:XK->TE}{E:XK}{g:LWz->LWz->LWz}{gV:LUz->LUz->LUz}
def Ta(i:Nat)(te:XK->TE):XK->TS:=λ E D σ H=>te E σ H (λ v H1=>D.nx (σ.set i (some v)) H1)
theorem QL(hN:X.N.Nodup)(hi:X.N[i]?=some n)(hx:Loc X.env.scope n)(he:∀E,PX X value (te E) E)(hsw:swapsWith value (some (.Name n np)) apos.line X.env=pure false:=by rfl)(hf:X.fn n=true\/X.env.scope.names.lookup n=some .local:=by first|exact .inl rfl|exact .inr rfl|assumption) :
  PXS X (.Assign [.Name n np] value apos) (Ta i te):=by
 intro E pins s σ H D Ex I h hx';refine wpAny_Assign_Name (thn (he E pins s σ H _ _ I h hx') λ v s1 ⟨y,H1,I1,r1,q1⟩=>?_) hsw;exact EO I1 hN hi hx r1 (λ s2 I2=>⟨_,H1,I2,q1⟩) hf
end
theorem N3{K:Frag}{hp:Heap}{G:Addr}(X:K.In hp)(hG:PySem.W.excIn K G vErr "ValueError.__new__"=true):∃nm qn ns bs bm hd sn sub ab col dd k0 k1 k2 k3 k5,hp.get? G=some (excClassObj nm qn G ns bs bm hd sn sub ab col dd k0 k1 k2 k3 k5 "ValueError.__new__")/\(Value.ref G::bm).contains (.type "BaseException")=true:=by
 have q:=hG;unfold PySem.W.excIn at q;split at q
 .rename_i dd cd sl ho;split at q
  .rename_i C' bm k0 k1 k2 k3 n k5 hm hs;simp only[Bool.and_eq_true,beq_iff_eq,Bool.not_eq_true']at q;obtain⟨⟨⟨⟨⟨rfl,rfl⟩,hdel⟩,ht⟩,hok⟩,hni⟩:=q;obtain⟨nm,bs,mro,ns,qn,hd,sn,sub,ab,col,del⟩:=cd;dsimp only at hm hdel hok hni;subst hm hdel;have hsl:sl=#[k0,k1,k2,k3,some (.builtin "ValueError.__new__"),k5]:=by
    obtain⟨l⟩:=sl;simp only at hs;rw[hs]
   subst hsl;have hcB:(Value.ref C'::bm).contains (.type "BaseException")=true:=by
    rw[List.contains_cons,(tail_of_in X ht).hasType (show vErr.contains (.type "BaseException")=true by decide +kernel)];exact Bool.or_true _
   exact⟨_,_,_,_,_,_,_,_,_,_,_,_,_,_,_,_,X _ _ ho,hcB⟩
  .cases q
 .cases q
theorem K7{prog:Program}{w:World}{A:Around}{E:VPz}{s:Shared}{K:Frag}{C:Addr}{env:Env}{x:Sem Value}{Q:Flow->Shared->Prop}(hG:PySem.W.excIn K C vErr "ValueError.__new__"=true)(hh:A.handled=none)
  (h:wpAny (model prog w) A x (λ v s₁=>∃e d vs sl,v=.ref e/\K.In s₁.heap/\s₁.heap.get? e=some ⟨.ref C,d,.fields vs,sl⟩/\vs[1]?=some Value.none/\E (.ref e) s₁) E s) :
  wpAny (model prog w) A (raiseStmt env (some x) none) Q E s:=by
 unfold raiseStmt;refine wpAny_bind (wpAny_mono h (λ v s₁ h₁=>?_) λ_ _ x=>x);obtain⟨e,d,vs,sl',rfl,X,he,h1,hE⟩:=h₁;obtain⟨hp,g,dr,tk,os⟩:=s₁;obtain⟨nm,qn,ns,bs,bm,hd,sn,sub,ab,col,dd,k0,k1,k2,k3,k5,hC,hcB⟩:=N3 X hG
 repeat (first|with_reducible refine wpAny_field he rfl h1 ?_|with_reducible refine wpAny_loadPart_at he ?_|with_reducible refine wpAny_loadPart_at hC ?_|(with_reducible refine wpAny_isSubtype_exc hC ?_;rw[hcB])|wp_step)
 exact wpAny_raiseNew_none hh hE
theorem Mo{M:Model}{A:Around}{E:VPz}{s:Shared}{K:Frag}{G C e:Addr}{d:Option Addr}{dt:Data}{sl':AOz}{Q:Bool->Shared->Prop}{b:Bool}(X:K.In s.heap)(hG:PySem.W.excIn K G vErr "ValueError.__new__"=true)
  (he:s.heap.get? e=some ⟨.ref C,d,dt,sl'⟩) (hs:mroIn K C (.ref G)=some b) (h:Q b s):wpAny M A (excMatches (.ref e) (.ref G)) Q E s:=by
 have LS:=looks_mroIn (M:=M) X hs;obtain⟨hp,g,dr,tk,os⟩:=s;obtain⟨nm,qn,ns,bs,bm,hd,sn,sub,ab,col,dd,k0,k1,k2,k3,k5,hC,hcB⟩:=N3 X hG;have f:=tc_notTuple;unfold excMatches;cases b<;>(repeat (first|with_reducible refine wpAny_loadPart_at he ?_|with_reducible refine wpAny_loadPart_at hC ?_|(with_reducible refine wpAny_isSubtype_exc hC ?_;rw[hcB])|(with_reducible refine LS.at ?_)|wp_step))<;>exact h
def NT(K:Frag)(G:Addr):Prop:=(∃fI,Dp K G fI=true)\/PySem.W.excIn K G vErr "ValueError.__new__"=true
section
variable{X:Cx}{k j im:Nat}{x m g:Str}{C G:Addr}{p pos cpos:Pos}{e:Expr}{E:XK}{te:TE}{b₀:Stmt}{suite:List Stmt}{gp hpos:Pos}{ts:TS}{hs:List ExceptHandler}{th:TH}
def SZ(C:Addr):TE:=λ_ H Q=>∀x,H x=none->Q (.ref x) (upd H x (Dv C x))
theorem QR(M:XMk0 X.K X.mg x C)(hg:Gl X x:=by rfl)(hdb:(x==("__debug__":Str))=false:=by decide):PE X (.Call (.Name x p) [] [] pos) (SZ C):=by
 intro pins s σ H Q I h;refine wpAny_Call_Name_kw (C3 I hg M.mm ?_ hdb);refine callWith_K0 I.kIn M.kp (M.call I.kIn λ h' e hm=>?_);obtain⟨hk,hfr,t,he,_,_⟩:=hm;have hn:H e=none:=by
  cases q:H e with
  |none=>rfl
  |some u =>
   obtain⟨o,ho⟩:=(I.hok e u q).there;rw[ho]at hfr;cases hfr
 refine⟨V.ref e,upd H e (Dv C e),I.un (t':=s.toks) ⟨λ b u q _ _ _=>hk b u q,λ b u q _ _ _=>⟨u.slots,hk b u q⟩,λ b u q n _=>?_,λ b u q _=>⟨u,hk b u q⟩,λ b xs q=>by rw[Ah (Ae q hn)];exact q,
  λ b u xs q=>by rw[Ah (Ae q hn)];exact q,λ b ps q=>⟨#[],by rw[Ah (Ae q hn),q];simp⟩⟩ (λ b u q=>?_),rfl,h e hn⟩
 .rw[Ah (λ z=>by subst z;rw[q]at hfr;cases hfr)];exact n
 .by_cases hb:b=e
  .subst hb;rw[upd_same]at q;cases q;exact N4 he rfl
  .rw[Ah hb]at q;exact(I.hok b u q).stay (λ c v _ q=>hk c v q) (λ c q=>by rw[Ah (Ae q hn)];exact q) λ c xs q=>by rw[Ah (Ae q hn)];exact q
def QE(C:Addr)(E:XK):TS:=λ_ _ H=>∀y T,H y=none->(upd H y (Dv C y)) T=none->T≠y->E (.ref y) none (thrown (upd H y (Dv C y)) y C none T)
theorem Od(hX:R6 X E)(M:XMk0 X.K X.mg x C)(hc:X.calm=true:=by rfl)(hg:Gl X x:=by rfl)(hdb:(x==("__debug__":Str))=false:=by decide):PS X (.Raise (some (.Call (.Name x p) [] [] cpos)) none pos) (QE C E):=by
 intro pins s σ H Dd I h;have pe:=QR (p:=p) (pos:=cpos) M hg hdb pins s σ H (λ v H2=>∃y,v=V.ref y/\H2 y=some (Dv C y)/\∀T,H2 T=none->T≠y->E (.ref y) none (thrown H2 y C none T)) I λ y hy=>⟨y,rfl,upd_same,λ T hT nT=>h y T hy hT nT⟩
 .rw[arm_exec_Raise];simp only[evalOpt,Option.map];refine wpAny_bind (wpAny_standAt (K7 M.ei (I.ok.hd hc) ?_));refine wpAny_bind (thn pe λ v s1 ⟨u,H2,I2,r,y,ey,fr,hE⟩=>wpAny_bind (wpAny_standAt (wpAny_pure ?_)));subst ey;obtain rfl:v=Value.ref y:=r;obtain⟨⟨vs,sl,e1,e2⟩,_⟩:=(show ObjOk X.prog X.w H2 s1.heap y (Dv C y) from I2.hok y _ fr);exact⟨y,none,vs,sl,rfl,I2.kIn,e1,e2,hX pins σ H2 s1 y C none I2 (.inl (.inl ⟨rfl,fr⟩)) hE⟩
theorem Fp(hN:X.N.Nodup)(him:X.N[im]?=some m)(hm:X.env.scope.names.lookup m=some .local)(hgl:Gl X g)(hg:X.mg g=some (.ref G))(hG:NT X.K G)(hsu:∀x,PSs (X.suite x) (b₀::suite) ts)(hr:PHs X hs th)
    (hdb:(g==("__debug__":Str))=false:=by decide):PHs X (.ExceptHandler (some (.Name g gp)) (some m) (b₀::suite) hpos::hs) (Sd X.K im G ts th):=by
  intro pins s' σ H' D x C d T2 nT2 I2 hh;obtain⟨b,hsub,hy,hn⟩:=hh;have fl2:C6 (thrown H' x C d T2) x C d T2:=⟨Ci,EN nT2,nT2⟩;obtain⟨⟨vs,sl,e1,e2⟩,_⟩:=(show ObjOk X.prog X.w (thrown H' x C d T2) s'.heap x (EF C d x T2) from I2.hok x _ fl2.1);obtain⟨⟨o,tv,f1,f2,f3⟩,_⟩:=(show ObjOk X.prog X.w (thrown H' x C d T2) s'.heap T2 (TbO T2) from I2.hok T2 _ fl2.2.1);have mt:∀{A:Around}{Ex:VPz}{Q:Bool->Shared->Prop},Q b s'->wpAny (model X.prog X.w) A (excMatches (.ref x) (.ref G)) Q Ex s':=λ q=>hG.elim (λ⟨fI,z⟩=>Mn I2.kIn z e1 hsub q) λ z=>Mo I2.kIn z e1 hsub q;refine wpAny_handleBy_cons (codeAny_handlers_test (C3 (X:=X.suite x) (I2.suite x) hgl hg (mt ?_) hdb)) (by intro z;cases z);cases b with
  |false=>exact hr pins s' σ H' D x C d T2 nT2 I2 (hn rfl)
  |true =>
    have hts:=hy rfl;show codeAny _ _ _ _ _;refine codeAny_handlers_suite_as (Hl e1 e2 f1 f2 (Array.getElem?_eq_some_iff.mp f3).1 λ h3 k3 t3=>?_);have same:upd (thrown H' x C d T2) T2 (TbO T2)=thrown H' x C d T2:=funext λ b=>by
      by_cases z:b=T2
      · rw[z,upd_same,EN nT2]
      · rw[Ah z]
    have I3:Inv X pins σ (thrown H' x C d T2) { s' with heap:=h3 }:=by
      have:=I2.write (x:=T2) (e:=T2) (h':=h3) (o:=TbO T2) (t':=s'.toks) (by rw[fl2.2.1];exact True.intro) (.inl rfl) (λ b u nb z=>(k3 b nb).trans z) (let ⟨o,_,e,_⟩:=t3;⟨o,e⟩) (LM t3);rw[same]at this;exact this
    refine EO (X:=X.suite x) (I3.suite x) hN him (.inl hm) (v:=.ref x) rfl (λ s4 I4=>?_) (.inr hm);refine wpAny_mono (hsu x pins s4 _ _ (RS im D) I4 hts) (λ fl s5 q5=>?_) λ_ _ z=>False.elim z;show wpAny (model X.prog X.w) X.A (do bindName X.env m .none;unbindBehindTheSuite X.env m hpos) (λ_ s₃=>SP X pins D fl s₃) X.xe s5;cases fl with
    |next=>obtain⟨σ',H5,I5,q⟩:=q5;exact Gf (I5.unsuite (ok:=I2.ok)) hN him hm λ s6 I6=>⟨_,H5,I6,q⟩
    |brk=>obtain⟨σ',H5,I5,q⟩:=q5;exact Gf (I5.unsuite (ok:=I2.ok)) hN him hm λ s6 I6=>⟨_,H5,I6,q⟩
    |cont=>obtain⟨σ',H5,I5,q⟩:=q5;exact Gf (I5.unsuite (ok:=I2.ok)) hN him hm λ s6 I6=>⟨_,H5,I6,q⟩
    |ret u=>obtain⟨v,σ',H5,I5,r,q⟩:=q5;exact Gf (I5.unsuite (ok:=I2.ok)) hN him hm λ s6 I6=>⟨v,_,H5,I6,r,q⟩
def Sm(w:Str)(te:XK->TE):XK->TE:=λ E σ H Q=>te E σ H λ v H1=>∀p,H1 p=none->Q (.ref p) (upd H1 p (.tup [.str w,v]))
theorem QM{w:Str}{j}{p1:Pos}{x1}{te:XK->TE}(he:∀E,PX X e (te E) E)(hs:starEach [.Constant (.str w) j p1,e] X.env=[(false,eval (.Constant (.str w) j p1) X.env),(false,eval e X.env)]:=by rfl):∀E,PX X (.Tuple [.Constant (.str w) j p1,e] x1 pos) (Sm w te E) E:=by
 intro E pins s σ H Q Ex I h hx;refine wpAny_Tuple_spliced ?_;rw[hs];show wpAny _ _ (spliced [(false,eval (.Constant (.str w) j p1) X.env),(false,eval e X.env)]) _ _ s;refine Calls.spliced_cons (Calls.Constant_str (k:=j) (pos:=p1) ?_);refine Calls.spliced_cons (thn (he E pins _ σ H _ _ (I.tok _) h hx) λ u s1 hz=>?_);obtain⟨v,H1,I1,r,q⟩:=hz;refine Calls.spliced_nil ⟨?_,?_⟩
 .show 2<=sizeLine;exact Ap (xs:=[V.non,V.non]) 2
 .have hf:H1 s1.heap.objs.size=none:=I1.hok.fresh (Nat.le_refl _);refine⟨.ref s1.heap.objs.size,upd H1 s1.heap.objs.size (.tup [.str w,v]),I1.laid (t':=s1.toks) (λ b u e=>Heap.get?_push_of_some _ e) (Nat.le_refl _) ?_,rfl,q _ hf⟩;exact⟨Ap (xs:=[V.str w,v]) 2,_,.cons ⟨_,rfl⟩ (.cons r .nil),⟨_,Heap.get?_push_size _ rfl,rfl,_,rfl⟩⟩
end
section
variable{prog:Program}{w:World}{A:Around}{Ex:VPz}
theorem O6{l it:Addr}{its:Array Value}(ne:l≠it):∀(m j:Nat)(s:Shared)(Q:LWz->Shared->Prop),s.heap.IsListIter it l j->s.heap.IsList l its->j+m<=its.size ->
  (∀h',h'.IsListIter it l (j+m)->Heap.SameBut it s.heap h'->Q ((its.toList.drop j).take m) { s with heap:=h' })->wpAny (model prog w) A (draw (.ref it) m) Q Ex s:=by
 intro m
 induction m with
 |zero =>
  intro j s Q st _ _ k;exact wpAny_pure (by simpa using k s.heap st (Heap.SameBut.refl ..))
 |succ m ih =>
  intro j s Q st hl le k;have lt:j<its.size:=by lia
  refine wpAny_bind (wpAny_pyNext_list_item st hl (x:=its[j]) (by simp[lt]) λ h1 st1 b1=>?_);refine wpAny_bind (wpAny_holding (ih (j+1) _ _ st1 (hl.extBut b1.extBut ne) (by lia) λ h2 st2 b2=>wpAny_pure ?_));have e:its.toList.drop j=its[j]::its.toList.drop (j+1):=by simp[List.drop_eq_getElem_cons,lt]
  have r:=k h2 (by rw[show j+(m+1)=j+1+m by lia];exact st2) (b1.trans b2);rw[e,List.take_succ_cons]at r;exact r
theorem Oh{s:Shared}{l:Addr}{its:Array Value}{Q:LWz->Shared->Prop}(hh:A.handled=none)(hl:s.heap.IsList l its)(k:∀h',Heap.ExtBut s.heap.objs.size s.heap h'->Q its.toList { s with heap:=h' }) :
  wpAny (model prog w) A (unpackItems (.ref l) its.size none) Q Ex s:=by
 have ne:l≠s.heap.objs.size:=by
  obtain⟨o,e,_⟩:=hl;exact Nat.ne_of_lt (Heap.lt_size e)
 unfold unpackItems notIterableAtAll;refine wpAny_bind (wpAny_bind (wpAny_specialOf hl.typeIs slot_list_iter.lookup (wpAny_pure ?_)));simp only[Bool.false_eq_true,if_false];refine wpAny_bind (wpAny_holding (wpAny_pyIter_list hl ?_));refine wpAny_bind (wpAny_holding (O6 ne its.size 0 _ _ ⟨_,Heap.get?_push_size _ rfl,rfl,rfl⟩ (hl.push _) (by lia) λ h1 st1 b1=>?_));have e:List.take its.size (List.drop 0 its.toList)=its.toList:=by rw[List.drop_zero];exact List.take_of_length_le (by simp)
 rw[e,if_neg (by simp)];refine wpAny_bind (wpAny_holding (wpAny_pyNext_list_end hh st1 ((hl.push _).extBut b1.extBut ne) (by simp) λ h2 b2=>?_));simp only[Option.isSome_none,Bool.false_eq_true,if_false];exact wpAny_pure (k h2 λ b o hb e=>b2 b o hb (b1.extBut b o hb (Heap.get?_push_of_some _ e)))
end
def UN(K:Frag)(n:Nat)(t:TGs):TG:=λ v σ H Q=>∃a xs,v=.ref a/\SqL K H a xs/\xs.length=n/\t xs σ H Q
theorem S2{X:Cx}{pos:Pos}{es:List Expr}{k:Nat}{t:TGs}{n:Nat}(hc:X.calm=true)(h:PGs X es t)
  (hn:(assignEach es X.env).length=n:=by rfl) (hst:(assignEach es X.env).findIdx? (·.1)=none:=by rfl):PG X (.Tuple es k pos) (UN X.K n t):=by
 intro pins s σ H v u Q I r hw;obtain⟨a,xs,rfl,hq,hl,hw⟩:=hw;cases r;obtain⟨its,rv,p,_⟩:=I.list hq;have el:(assignEach es X.env).length=its.toArray.size:=by rw[hn,<-hl,rv.length,List.size_toArray]
 rw[assign_Tuple];refine wpAny_bind (wpAny_standAt ?_);unfold unpack;rw[el,hst];refine wpAny_bind (wpAny_holding (Oh (I.ok.hd hc) p.isList λ h' hx=>?_));have I1:Inv X pins σ H { s with heap:=h' }:=I.kept (t':=s.toks) λ b o e=>hx b o (Nat.ne_of_lt (Heap.lt_size e)) e;exact h pins _ σ H xs _ Q I1 rv hw
end L2
namespace K34
open PySem.W
open PySem L2
def top(i:Nat):Stmt:=PySem.Challenge.pw_glazebench_k34_forms_refused.main.body.getD i (.Pass ⟨0,0,0,0⟩)
abbrev CH:Stmt:=Be (top 3) 0
abbrev Dj:Stmt:=Be (top 4) 0
abbrev Eo:Stmt:=top 9
abbrev Fm:Stmt:=top 10
abbrev G6:Stmt:=top 11
abbrev CC:Stmt:=top 12
abbrev Bs:Stmt:=Be (top 18) 0
abbrev Cq:Stmt:=Be (top 19) 0
abbrev Dk:Stmt:=Be (top 20) 0
abbrev Fl:Stmt:=top 21
abbrev Ep:Stmt:=top 22
abbrev De:Stmt:=top 23
abbrev Er:Stmt:=top 24
abbrev Dz:Stmt:=top 25
abbrev Df:Stmt:=top 26
abbrev BQ:Stmt:=top 27
abbrev CB:Stmt:=top 28
abbrev C8:Stmt:=top 29
abbrev Fn:Stmt:=top 30
abbrev Bp:Stmt:=top 31
abbrev C9:Stmt:=top 35
abbrev Cm:Stmt:=top 36
abbrev BV:Stmt:=top 37
abbrev D0:Stmt:=top 40
abbrev Bi:Stmt:=top 41
abbrev LY:Stmt:=top 43
abbrev JE:Stmt:=top 44
abbrev El:Stmt:=top 49
abbrev Es:Stmt:=top 50
abbrev D3:Stmt:=top 51
abbrev Em:Stmt:=top 52
abbrev Ph:Stmt:=top 53
abbrev D9:Stmt:=top 55
abbrev D8:Stmt:=top 56
abbrev B8:Stmt:=top 57
abbrev D5:Stmt:=top 58
abbrev AY:Stmt:=top 59
abbrev D6:Stmt:=top 60
abbrev Dg:Stmt:=top 61
abbrev CD:Stmt:=top 63
abbrev Cn:Stmt:=top 64
abbrev CF:Stmt:=top 65
abbrev Dh:Stmt:=top 66
abbrev Et:Stmt:=top 67
abbrev D4:Stmt:=top 68
abbrev Co:Stmt:=top 69
abbrev CG:Stmt:=top 70
abbrev Cp:Stmt:=top 71
abbrev D7:Stmt:=top 72
abbrev Di:Stmt:=top 73
abbrev BY:Stmt:=top 74
theorem nw{H:Hp}{c:Addr}(o:HO)(n:H c=none):∃G,upd H c o=G/\Same H G/\G c=some o:=⟨_,rfl,Same.new n,upd_same⟩
def Ev{α:Type}(ts:List (Addr×α)):LUz:=ts.map λ t=>V.ref t.1
theorem Pm{α:Type}{ts:List (Addr×α)}{i:Nat}{x:V}(h:(Ev ts)[i]?=some x):∃u,ts[i]?=some u/\x=.ref u.1:=by
 rw[Ev,List.getElem?_map]at h;cases e:ts[i]? with
 |none=>rw[e]at h;cases h
 |some u=>rw[e]at h;exact⟨u,rfl,(Option.some.inj h).symm⟩
theorem CS{α:Type}(ts:List (Addr×α)):(Ev ts).length=ts.length:=List.length_map ..
theorem MO{H H':Hp}(s:Same H H'){a:Addr}(h:H' a=none):H a=none:=by
 cases q:H a with
 |none=>rfl
 |some o=>rw[s a o q]at h;cases h
def wd(u:Bool):Str:=if u=true then "upright" else "level"
theorem OP(u:Bool):decide (V.str (wd u)=V.str "upright")=u:=by cases u<;>decide
theorem Bn(u v:Bool):decide (V.str (wd u)=V.str (wd v))=(u==v):=by cases u<;>cases v<;>decide +kernel
theorem BP(u:Bool):decide (V.str (wd u)=V.str "whole")=false:=by cases u<;>decide +kernel
inductive Tr where
 |whole (m:Option Int)
 |cut (u:Bool) (k:Int) (x y:Tr)
def Tr.dp:Tr->Nat
 |.whole _=>0
 |.cut _ _ x y=>max x.dp y.dp+1
def Tr.sz:Tr->Nat
 |.whole _=>1
 |.cut _ _ x y=>x.sz+y.sz
def AN:Option Int->V
 |none=>.non
 |some i=>.int i
def Told(H:Hp):Tr->V->Prop
 |.whole m,v=>∃a,v=.ref a/\H a=some (.tup [.str "whole",AN m])
 |.cut u k x y,v=>∃a vx vy,v=.ref a/\H a=some (.tup [.str (wd u),.int k,vx,vy])/\Told H x vx/\Told H y vy
theorem Told.same{H H':Hp}(s:Same H H'):∀{t:Tr}{v:V},Told H t v->Told H' t v
 |.whole m,v,h=>by
  rw[Told]at h |-;obtain⟨a,e,h⟩:=h;exact⟨a,e,s _ _ h⟩
 |.cut u k x y,v,h=>by
  rw[Told]at h |-;obtain⟨a,vx,vy,e,h,h1,h2⟩:=h;exact⟨a,vx,vy,e,s _ _ h,Told.same s h1,Told.same s h2⟩
theorem Told.samex{l:Addr}{xs:LUz}{H H':Hp}(s:SameX l H H')(hl:H l=some (.lst xs)):∀{t:Tr}{v:V},Told H t v->Told H' t v
 |.whole m,v,h=>by
  rw[Told]at h |-;obtain⟨a,e,h⟩:=h;exact⟨a,e,s _ _ (EX h hl (by intro z;cases z)) h⟩
 |.cut u k x y,v,h=>by
  rw[Told]at h |-;obtain⟨a,vx,vy,e,h,h1,h2⟩:=h;exact⟨a,vx,vy,e,s _ _ (EX h hl (by intro z;cases z)) h,Told.samex s hl h1,Told.samex s hl h2⟩
def Fit:Tr->Int->Int->Prop
 |.whole _,_,_=>True
 |.cut u k x y,w,h=>if u=true then (1<=k/\k<w/\Fit x k h/\Fit y (w-k) h) else (1<=k/\k<h/\Fit x w k/\Fit y w (h-k))
theorem E7:∀{t:Tr}{w h:Int},1<=w->1<=h->Fit t w h->(t.dp:Int)+2<=w+h
 |.whole _,w,h,hw,hh,_=>by show((0:Nat):Int)+2<=_;lia
 |.cut u k x y,w,h,hw,hh,f=>by
  rw[Fit]at f;show((max x.dp y.dp+1:Nat):Int)+2<=_;cases u with
  |true =>
   obtain⟨a,b,c,d⟩:=f;have:=E7 a hh c;have:=E7 (by lia) hh d;lia
  |false =>
   obtain⟨a,b,c,d⟩:=f;have:=E7 hw a c;have:=E7 hw (by lia) d;lia
theorem E6:∀{t:Tr}{w h:Int},1<=w->1<=h->Fit t w h->(t.sz:Int)<=w*h
 |.whole _,w,h,hw,hh,_=>by
  show((1:Nat):Int)<=_;have:=Int.mul_le_mul hw hh (by lia) (by lia);lia
 |.cut u k x y,w,h,hw,hh,f=>by
  rw[Fit]at f;show((x.sz+y.sz:Nat):Int)<=_;cases u with
  |true =>
   obtain⟨a,b,c,d⟩:=f;have h1:=E6 a hh c;have h2:=E6 (by lia) hh d;rw[Int.sub_mul]at h2;lia
  |false =>
   obtain⟨a,b,c,d⟩:=f;have h1:=E6 hw a c;have h2:=E6 hw (by lia) d;rw[Int.mul_sub]at h2;lia
def DK:List Int->Ds
 |[]=>.nil
 |i::r=>.cons (.at (.int i)) (DK r)
theorem Lm{K:Frag}{H:Hp}:∀(ns:List Int),DIss K H (DK ns) (ns.map V.int)
 |[]=>by
  show DIss K H .nil [];rw[DIss]
 |i::r=>by
  show DIss K H (.cons (.at (.int i)) (DK r)) (.int i::r.map V.int);rw[DIss];exact⟨_,_,rfl,by rw[DIs];exact⟨rfl,rfl⟩,Lm r⟩
theorem IX:∀(ns:List Int),BH (DK ns)=0
 |[]=>by rw[DK,BH]
 |i::r=>by rw[DK,BH,dep,IX r];rfl
theorem O0:∀(ns:List Int),BZ (DK ns) .nil=decide (ns=[])
 |[]=>by rw[DK,BZ];rfl
 |i::r=>by rw[DK,BZ]<;>simp
theorem TK{K:Frag}{H:Hp}{a:Addr}{ns:List Int}(h:SqL K H a (ns.map V.int)):DIs K H (.lst (DK ns)) (.ref a):=by
 rw[DIs];exact⟨a,_,rfl,h,Lm _⟩
theorem UD{K:Frag}{H:Hp}{a:Addr}(h:H a=some (.lst [])):DIs K H (.lst .nil) (.ref a):=by
 rw[DIs];exact⟨a,[],rfl,SqL.of h,by rw[DIss]⟩
theorem Oz(ns:List Int):dep (.lst (DK ns))<=50:=by rw[dep,IX];lia
theorem BF{x0 x1:V}:atI [x0,x1] 0=some x0:=rfl
theorem Cw{x0 x1:V}:atI [x0,x1] 1=some x1:=rfl
theorem O8{j:Int}(z:Int)(h:0<j)(h2:j<18446744073709551616):Se z j:=⟨h,Nat.lt_trans (GX (k:=64) (by decide) (by lia)) (by decide)⟩
theorem P2{a b:Int}(h1:-18446744073709551616<a)(h2:a<18446744073709551616)(h3:-18446744073709551616<b)(h4:b<18446744073709551616):IntMulOk a b:=by
 have c:(2:Nat)^128=340282366920938463463374607431768211456:=by decide +kernel
 refine P1 ?_ ?_<;>rw[c]<;>lia
theorem SM{L:LUz}{i:Int}(h0:0<=i)(h1:i<L.length):∃v,atI L i=some v/\v∈L:=by
 have h:i.toNat<L.length:=by lia
 have e:=Gn (List.getElem?_eq_getElem h);rw[Int.toNat_of_nonneg h0]at e;exact⟨_,e,List.getElem_mem h⟩
theorem R4{ns:List Int}{k:Int}(h0:0<=k)(h1:k<(ns.length:Int)):∃z,atI (ns.map V.int) k=some (.int z):=by
 have hk:k.toNat<ns.length:=by lia
 have hz:(ns.map V.int)[k.toNat]?=some (.int ns[k.toNat]):=by rw[List.getElem?_map,List.getElem?_eq_getElem hk];rfl
 have e:=Gn hz;rw[Int.toNat_of_nonneg h0]at e;exact⟨_,e⟩
theorem at0{x0 x1 x2 x3:V}:atI [x0,x1,x2,x3] 0=some x0:=rfl
theorem at1{x0 x1 x2 x3:V}:atI [x0,x1,x2,x3] 1=some x1:=rfl
theorem at2{x0 x1 x2 x3:V}:atI [x0,x1,x2,x3] 2=some x2:=rfl
theorem at3{x0 x1 x2 x3:V}:atI [x0,x1,x2,x3] 3=some x3:=rfl
def Gp:V->Bool
 |.int _=>true
 |_=>false
def AV:V->Bool
 |.int i=>decide (1<=i)&&decide (i<=12)
 |_=>false
def Ty(H:Hp)(v:V):Prop:=∃T,tyS H v=some T
theorem OR{H H':Hp}(s:Same H H'){v:V}{T:String}(h:tyS H v=some T):tyS H' v=some T:=by
 cases v with
 |ref a =>
  have h:tyO (H a)=some T:=h;show tyO (H' a)=some T;cases e:H a with
  |none=>rw[e]at h;cases h
  |some o=>rw[e]at h;rw[s a o e];exact h
 |_=>exact h
theorem Ty.same{H H':Hp}(s:Same H H'){v:V}(h:Ty H v):Ty H' v:=let ⟨T,e⟩:=h;⟨T,OR s e⟩
theorem EI{H:Hp}{v:V}{T:String}(h:tyS H v=some T):(isB T "int"=true->(!isB T "bool")=Gp v)/\(isB T "int"=false->false=Gp v):=by
 cases v with
 |non=>cases h;exact⟨λ z=>absurd z (by decide),λ_=>rfl⟩
 |bl b=>cases h;exact⟨λ_=>by show(!isB "bool" "bool")=false;decide,λ z=>absurd z (by decide)⟩
 |int i=>cases h;exact⟨λ_=>by show(!isB "int" "bool")=true;decide,λ z=>absurd z (by decide)⟩
 |str x=>cases h;exact⟨λ z=>absurd z (by decide),λ_=>rfl⟩
 |byt b=>cases h
 |flt b=>cases h
 |ty n=>cases h
 |ref a =>
  have key:T="list"\/T="tuple"\/T="dict":=by
   have h:tyO (H a)=some T:=h;unfold tyO at h;split at h<;>first|(cases h;simp)|cases h
  rcases key with rfl|rfl|rfl<;>exact⟨λ z=>absurd z (by decide),λ_=>rfl⟩
def Dw:Sp:=λ vs H Q _=>∃v,vs=[v]/\Ty H v/\Q (.bl (Gp v)) H
def MU:Sp:=λ vs H Q _=>∃v,vs=[v]/\Ty H v/\Q (.bl (AV v)) H
inductive HN(cS:Addr)(vs:LUz)(H:Hp)(Q:VK)(E:XK):Prop
 |mk (a b:V) (h0:vs=[a,b]) (h1:Ty H a) (h2:Ty H b) (h3:(AV a=true->AV b=true->∀H',Same H H'->Q .non H')) (h4:(AV a=false->Rf H E cS λ fs _=>fs=[(("side":Str),a)])) (h5:(AV a=true->AV b=false->Rf H E cS λ fs _=>fs=[(("side":Str),b)])):HN cS vs H Q E
def IA(cS:Addr) :Sp:=λ vs H Q E=>HN cS vs H Q E
inductive Cl
 |S
 |C
 |U
 deriving DecidableEq
abbrev Cc:=Cl->Addr
def fsC:Cl×V->LFz
 | (.S,v)=>[("side",v)]
 | (.C,v)=>[("at",v)]
 | (.U,_)=>[]
def woC:Cl->Str
 |.S=>"side"
 |.C=>"cut"
 |.U=>"unlike"
def iv:V->Int
 |.int i=>i
 |_=>0
def Ry(x y:V):Option (Cl×V):=if AV x=true then (if AV y=true then none else some (.S,y)) else some (.S,x)
theorem EK{H:Hp}{v:V}(h:AA v=true):Ty H v:=by cases v<;>first|exact⟨_,rfl⟩|cases h
theorem Oa{v:V}(h:AA v=true):Sr v v=true:=by cases v<;>first|rfl|cases h
inductive LJ(K:Frag)(vs:LUz)(H:Hp)(Q:VK)(E:XK):Prop
 |mk (a:Addr) (ns:List Int) (k:Int) (h0:vs=[.ref a,.int k]) (h1:SqL K H a (ns.map V.int)) (h2:0<=k) (h3:∀z,Q (.int z) H):LJ K vs H Q E
def MZ(K:Frag) :Sp:=λ vs H Q E=>LJ K vs H Q E
inductive LI(vs:LUz)(H:Hp)(Q:VK)(E:XK):Prop
 |mk (c n m:Int) (h0:vs=[.int c,.int n,.int m]) (h1:0<=n) (h2:n<=1000) (h3:0<m) (h4:∀r,0<=r->r<m->Q (.int r) H):LI vs H Q E
def MY:Sp:=λ vs H Q E=>LI vs H Q E
def St8(H:Hp)(a:Addr)(t:Int):Prop:=∃c r:Int,0<=r/\H a=some (.dK [(Sum.inr "cell",.int c),(Sum.inr "rest",.int r),(Sum.inr "times",.int t)])
theorem St8.same{H H':Hp}{a:Addr}{t:Int}(h:St8 H a t)(s:Same H H'):St8 H' a t:=let ⟨c,r,r0,e⟩:=h;⟨c,r,r0,s _ _ e⟩
theorem Told.samed{l:Addr}{tm:Int}{H H':Hp}(s:SameX l H H')(hl:St8 H l tm):∀{t:Tr}{v:V},Told H t v->Told H' t v
 |.whole m,v,h=>by
  rw[Told]at h |-;obtain⟨a,e,h⟩:=h;obtain⟨_,_,_,q⟩:=hl;exact⟨a,e,s _ _ (EX h q (by intro z;cases z)) h⟩
 |.cut u k x y,v,h=>by
  rw[Told]at h |-;obtain⟨a,vx,vy,e,h,h1,h2⟩:=h;obtain⟨_,_,_,q⟩:=id hl;exact⟨a,vx,vy,e,s _ _ (EX h q (by intro z;cases z)) h,Told.samed s hl h1,Told.samed s hl h2⟩
inductive Jq(vs:LUz)(H:Hp)(Q:VK)(E:XK):Prop
 |mk (c:Int) (h0:vs=[.int c]) (h1:∀a H',Same H H'->H a=none->St8 H' a 0->Q (.ref a) H'):Jq vs H Q E
def Gw:Sp:=λ vs H Q E=>Jq vs H Q E
inductive LB(vs:LUz)(H:Hp)(Q:VK)(E:XK):Prop
 |mk (a:Addr) (t m:Int) (h0:vs=[.ref a,.int m]) (h1:St8 H a t) (h2:0<=t) (h3:t<1000) (h4:0<m) (h5:m<=1000000) (h6:∀z H',0<=z->z<m->SameX a H H'->St8 H' a (t+1)->Q (.int z) H'):LB vs H Q E
def FX:Sp:=λ vs H Q E=>LB vs H Q E
inductive LA(n:Nat)(vs:LUz)(H:Hp)(Q:VK)(E:XK):Prop
 |mk (l:Addr) (ms:List Int) (w h:Int) (h0:vs=[.ref l,.int w,.int h]) (h1:H l=some (.lst (ms.map V.int))) (h2:1<=w) (h3:1<=h) (h4:w+h<n) (h5:w<=12) (h6:h<=12) (h7:∀v t H' ms',SameX l H H'->H' l=some (.lst ((ms':List Int).map V.int))->Told H' t v->Fit t w h->Q v H'):LA n vs H Q E
def ER(n:Nat) :Sp:=λ vs H Q E=>LA n vs H Q E
structure Txt(mg:MGz)(tk:Tok×Tok×Tok×Tok×Tok×Tok×Tok×Tok×Tok×Tok):Prop where
 z_isinstance:mg "isinstance"=none
 z_int:mg "int"=none
 z_bool:mg "bool"=none
 z_tuple:mg "tuple"=none
 z_list:mg "list"=none
 z_len:mg "len"=none
 z_range:mg "range"=none
 z_abs:mg "abs"=none
 z_all:mg "all"=none
 z_any:mg "any"=none
 z_sorted:mg "sorted"=none
 z_str:mg "str"=none
 z_reversed:mg "reversed"=none
 z_ValueError:mg "ValueError"=none
 g_LONGEST_SIDE:mg "LONGEST_SIDE"=some (.int 12 tk.1)
 g_WHOLE:mg "WHOLE"=some (.str "whole" tk.2.1)
 g_UPRIGHT:mg "UPRIGHT"=some (.str "upright" tk.2.2.1)
 g_LEVEL:mg "LEVEL"=some (.str "level" tk.2.2.2.1)
 g_TOP:mg "TOP"=some (.int 0 tk.2.2.2.2.1)
 g_LEFT:mg "LEFT"=some (.int 1 tk.2.2.2.2.2.1)
 g_ROOM:mg "ROOM"=some (.str "room" tk.2.2.2.2.2.2.1)
 g_LEAN:mg "LEAN"=some (.str "lean" tk.2.2.2.2.2.2.2.1)
 g_BACK:mg "BACK"=some (.str "back" tk.2.2.2.2.2.2.2.2.1)
 g_CROSS:mg "CROSS"=some (.str "cross" tk.2.2.2.2.2.2.2.2.2)
section
variable{P:Program}{w:World}{K:Frag}{mg:MGz}{base:Heap}{tk:Tok×Tok×Tok×Tok×Tok×Tok×Tok×Tok×Tok×Tok}{cT cW cU cL:Addr}{cc:Cc}
theorem MJ:An ["thing"] ["thing"] (Ag Eo):=fsc
theorem KU{f:Addr}{fd:FuncData}(F:Fun K "is_whole" "is_whole" Eo f fd)(T:Txt mg tk):A8 P w K mg base CX0 1 f fd ["thing"] Dw:=by
 have S:=MJ;refine F.ok S (λ vs H Q E h=>?_) (λ cdv A outer s H vs Q E hr h=>?_)
 .obtain⟨v,rfl,_⟩:=h;rfl
 .obtain⟨v,rfl,⟨T',hT⟩,q⟩:=h;refine⟨_,(Af (Ak (Fs (A6 Cg rfl T.z_isinstance rfl (Aa (pv 0) (Aa (Dm (v:=.ty "int") rfl T.z_int rfl rfl) Ab))) (Fq (JI (A6 Cg rfl T.z_isinstance rfl (Aa (pv 0) (Aa (Dm (v:=.ty "bool") rfl T.z_bool rfl rfl) Ab)))))))),?_⟩;refine⟨v,rfl,v,T',"int",rfl,hT,.inl rfl,_,rfl,Bg (λ h=>?_) (λ h=>?_)⟩
  .refine⟨v,rfl,v,T',"bool",rfl,hT,.inr (.inl rfl),_,rfl,?_⟩;rw[(EI hT).1 h];exact q
  .show Q (.bl false) H;rw[(EI hT).2 h];exact q
theorem OJ:An ["thing"] ["thing"] (Ag Fm):=fsc
theorem Mh{f:Addr}{fd:FuncData}(F:Fun K "is_side" "is_side" Fm f fd)(T:Txt mg tk)(D_is_whole:Av P w K mg base 1 "is_whole" ["thing"] Dw):A8 P w K mg base CX0 2 f fd ["thing"] MU:=by
 have S:=OJ;refine F.ok S (λ vs H Q E h=>?_) (λ cdv A outer s H vs Q E hr h=>?_)
 .obtain⟨v,rfl,_⟩:=h;rfl
 .obtain⟨v,rfl,hv,q⟩:=h;refine⟨_,(Af (Ak (Fs (Aj D_is_whole hr (Aa (pv 0) Ab)) (Fq (GH GJ GJ Ad (pv 0) (Ax (v:=.int 12) rfl T.g_LONGEST_SIDE ⟨_,rfl⟩)))))),?_⟩;refine⟨v,rfl,v,rfl,hv,_,rfl,Bg (λ h=>?_) (λ h=>?_)⟩
  .obtain⟨i,rfl⟩:∃i,v=.int i:=by cases v<;>first|exact⟨_,rfl⟩|cases h
   refine⟨_,rfl,_,_,rfl,rfl,_,rfl,Bg (λ h1=>?_) (λ h1=>?_)⟩
   .refine⟨_,_,rfl,rfl,?_⟩;have e:AV (.int i)=decide (i<=12):=by
     show(decide (1<=i)&&decide (i<=12))=_;rw[h1];rfl
    show Q (.bl (decide (i<=12))) H;rw[<-e];exact q
   .have e:AV (.int i)=false:=by
     show(decide (1<=i)&&decide (i<=12))=_;rw[h1];rfl
    show Q (.bl false) H;rw[<-e];exact q
  .have e:AV v=false:=by cases v<;>first|rfl|cases h
   show Q (.bl false) H;rw[<-e];exact q
theorem Iu:An ["width","height","side"] ["width","height"] (Ag CC):=fsc
theorem GQ{f:Addr}{fd:FuncData}(F:Fun K "check_sides" "check_sides" CC f fd){cS:Addr}(X_NoSide:Jl P w K mg base 1 "NoSide" cS ["self","side"] ["side"])(D_is_side:Av P w K mg base 2 "is_side" ["thing"] MU) :
  A8 P w K mg base (CX1 P w) 3 f fd ["width","height"] (IA cS):=by
 have S:=Iu;refine F.okx S (λ vs H Q E h=>?_) (λ cdv A outer s H vs Q E hr h=>?_)
 .obtain⟨a,p,rfl,_⟩:=h;rfl
 .obtain⟨a,b,rfl,ta,tb,q,r1,r2⟩:=h;refine⟨_,(Af (DD Px rfl (Ps (At (Aa (pv 0) (Aa (pv 1) Ab)))) (Aw (i:=2) S.nd rfl (Or.inl rfl)) (Af (A3 (DC (CI (Aj D_is_side hr (Aa (pv 2) Ab)))) (Af (KA BJ X_NoSide hr (Aa (pv 2) Ab))) Ar)))),?_⟩;refine⟨_,rfl,_,rfl,Ap 2,λ t ht=>⟨t,rfl,⟨_,SqT.of upd_same⟩,N2 (K:=K) (a:=t) (xs:=[a,b]) (λ i σ H'=>(∃y,σ=[some a,some b,y])/\H'=upd H t (.tup [a,b])/\(0<i->AV a=true)/\(1<i->AV b=true)) ⟨⟨none,rfl⟩,rfl,(λ z=>absurd z (by decide)),λ z=>absurd z (by decide)⟩ (λ i σ H' _ hp=>by rw[hp.2.1];exact SqT.of upd_same) ?_ ?_⟩⟩
  .rintro i x σ H' hx ⟨⟨y,rfl⟩,rfl,h0,h1⟩;have s1:Same H (upd H t (.tup [a,b])):=Same.new ht
   match i,hx with
   |0,hx =>
    cases hx;refine⟨_,rfl,a,rfl,ta.same s1,_,rfl,Bg (λ hb=>?_) λ hb=>?_⟩
    .have hb:AV a=false:=by simpa using hb
     exact⟨_,rfl,rfl,λ y dx T H2 hy s2 e ed nd hT nT=>(r1 hb).raise s1 hy s2 e ed nd hT rfl⟩
    .exact⟨⟨_,rfl⟩,rfl,λ_=>by simpa using hb,λ z=>absurd z (by lia)⟩
   |1,hx =>
    cases hx;refine⟨_,rfl,b,rfl,tb.same s1,_,rfl,Bg (λ hb=>?_) λ hb=>?_⟩
    .have hb:AV b=false:=by simpa using hb
     exact⟨_,rfl,rfl,λ y dx T H2 hy s2 e ed nd hT nT=>(r2 (h0 (by lia)) hb).raise s1 hy s2 e ed nd hT rfl⟩
    .exact⟨⟨_,rfl⟩,rfl,λ_=>h0 (by lia),λ_=>by simpa using hb⟩
   |i+2,hx=>cases hx
  .rintro σ H' ⟨⟨y,rfl⟩,rfl,h0,h1⟩;exact q (h0 (by show 0<2;decide)) (h1 (by show 1<2;decide)) _ (Same.new ht)
theorem MG:An ["_law_script","_law_k"] ["_law_script","_law_k"] (Ag D9):=fsc
theorem KS{f:Addr}{fd:FuncData}(F:Fun K "_law_cell" "_law_cell" D9 f fd)(T:Txt mg tk):A8 P w K mg base CX0 1 f fd ["_law_script","_law_k"] (MZ K):=by
 have S:=MG;refine F.ok S (λ vs H Q E h=>?_) (λ cdv A outer s H vs Q E hr h=>?_)
 .obtain⟨a,ns,k,rfl,_⟩:=h;rfl
 .obtain⟨a,ns,k,rfl,hS,k0,q⟩:=h;refine⟨_,(Ac (A3 (Ao BS (pv 1) (A6 Ca rfl T.z_len rfl (Aa (pv 0) Ab)) (Aq _)) (Af (Ak (Al AD (pv 0) (pv 1) (λ_ _=>rfl)))) Ar)
   (Af (Ak Ad))),?_⟩
  refine⟨_,rfl,_,rfl,a,_,rfl,.inl hS,_,_,rfl,rfl,_,rfl,Bg (λ c=>?_) (λ c=>q 0)⟩;have c:=of_decide_eq_true c;rw[List.length_map]at c;obtain⟨z,hz⟩:=R4 k0 c;exact⟨_,rfl,_,rfl,a,_,_,_,rfl,rfl,hS,hz,q _⟩
theorem MF:An ["_law_cell_here","_law_nth","_law_many","_law_number"] ["_law_cell_here","_law_nth","_law_many"] (Ag D8):=fsc
theorem KR{f:Addr}{fd:FuncData}(F:Fun K "_law_draw" "_law_draw" D8 f fd):A8 P w K mg base CX0 1 f fd ["_law_cell_here","_law_nth","_law_many"] MY:=by
 have S:=MF;refine F.ok S (λ vs H Q E h=>?_) (λ cdv A outer s H vs Q E hr h=>?_)
 .obtain⟨c,n,m,rfl,_⟩:=h;rfl
 .obtain⟨c,n,m,rfl,n0,n1,m0,q⟩:=h;refine⟨_,(Ac (As (i:=3) S.nd rfl (Or.inl rfl) (Au BX (Au JJ (Au AW (Au AW (Au BX (pv 0) Ad) Ad) (Au JJ (pv 1) (pv 1))) Ad) Ad))
   (Af (Ak (Au BX (Au AW (Au CU (pv 3) Ad) (Au JJ (Au BX (pv 3) Ad) (pv 1))) (pv 2))))),?_⟩
  have a:=Int.emod_nonneg c (b:=899809363) (by decide);have b:=Int.emod_lt_of_pos c (b:=899809363) (by decide);have nn:0<=n*n/\n*n<=1000000:=⟨Int.mul_nonneg n0 n0,Int.le_trans (Int.mul_le_mul n1 n1 n0 (by decide)) (by decide)⟩;refine⟨_,rfl,_,_,rfl,rfl,(show(0:Int)<899809363 from by decide),_,_,rfl,rfl,_,rfl,_,rfl,_,_,rfl,rfl,P2 (by lia) (by lia) (by lia) (by lia),_,_,rfl,rfl,_,_,rfl,rfl,P2 (by lia) (by lia) (by decide) (by decide),_,_,rfl,rfl,(show(0:Int)<899809363 from by decide),?_⟩;have g0:=Int.emod_nonneg ((c % 899809363+3+n*n)*60919 % 899809363) (b:=1013) (by decide);have g1:=Int.emod_lt_of_pos ((c % 899809363+3+n*n)*60919 % 899809363) (b:=1013) (by decide);exact⟨_,rfl,_,_,rfl,rfl,O8 _ (by decide) (by decide),_,rfl,_,_,rfl,rfl,(show(0:Int)<1013 from by decide),_,rfl,_,_,rfl,rfl,P2 (by lia) (by lia) (by lia) (by lia),_,_,rfl,rfl,_,rfl,_,_,rfl,rfl,m0,q _ (Int.emod_nonneg _ (by lia)) (Int.emod_lt_of_pos _ m0)⟩
abbrev stK(c r t:Int):List (Key×V):=[(Sum.inr "cell",.int c),(Sum.inr "rest",.int r),(Sum.inr "times",.int t)]
theorem Q9{c r t:Int}:EJ (stK c r t) (Sum.inr "cell")=some (.int c):=by rw[CO rfl]
theorem T9:¬(Sum.inr (Str.ofString "cell"):Key)=Sum.inr (Str.ofString "rest"):=by decide
theorem T8:¬(Sum.inr (Str.ofString "cell"):Key)=Sum.inr (Str.ofString "times"):=by decide
theorem T7:¬(Sum.inr (Str.ofString "rest"):Key)=Sum.inr (Str.ofString "times"):=by decide
theorem Q8{c r t:Int}:EJ (stK c r t) (Sum.inr "rest")=some (.int r):=by rw[CP T9,CO rfl]
theorem OY{c r t:Int}:EJ (stK c r t) (Sum.inr "times")=some (.int t):=by rw[CP T8,CP T7,CO rfl]
theorem Oc{c r t z:Int}:DB (stK c r t) (Sum.inr "times") (.int z)=stK c r z:=rfl
theorem Pr{c r t z:Int}:DB (stK c r t) (Sum.inr "rest") (.int z)=stK c z t:=rfl
theorem PQ{H:Hp}{a:Addr}{c r t:Int}(e:H a=some (.dK (stK c r t))):DGet H a (.str "cell") (some (.int c)):=by have:=DGet.k (k:=Sum.inr "cell") e;rw[Q9]at this;exact this
theorem PP{H:Hp}{a:Addr}{c r t:Int}(e:H a=some (.dK (stK c r t))):DGet H a (.str "rest") (some (.int r)):=by have:=DGet.k (k:=Sum.inr "rest") e;rw[Q8]at this;exact this
theorem Ja{H:Hp}{a:Addr}{c r t:Int}(e:H a=some (.dK (stK c r t))):DGet H a (.str "times") (some (.int t)):=by have:=DGet.k (k:=Sum.inr "times") e;rw[OY]at this;exact this
theorem M7{H:Hp}{a:Addr}{c r t z:Int}(e:H a=some (.dK (stK c r t))):DPut H a (.str "times") (.int z) (upd H a (.dK (stK c r z))):=by have:=DPut.k (k:=Sum.inr "times") (v:=.int z) e (A0 (by show 3<=1000;decide));rw[Oc]at this;exact this
theorem O7{H:Hp}{a:Addr}{c r t z:Int}(e:H a=some (.dK (stK c r t))):DPut H a (.str "rest") (.int z) (upd H a (.dK (stK c z t))):=by have:=DPut.k (k:=Sum.inr "rest") (v:=.int z) e (A0 (by show 3<=1000;decide));rw[Pr]at this;exact this
theorem L5:An ["_law_cell_here","_law_rest"] ["_law_cell_here"] (Ag B8):=fsc
theorem JM{f:Addr}{fd:FuncData}(F:Fun K "_law_state" "_law_state" B8 f fd)(T:Txt mg tk):A8 P w K mg base CX0 1 f fd ["_law_cell_here"] Gw:=by
 have S:=L5;refine F.ok S (λ vs H Q E h=>?_) (λ cdv A outer s H vs Q E hr h=>?_)
 .obtain⟨c,rfl,_⟩:=h;rfl
 .obtain⟨c,rfl,q⟩:=h;obtain⟨tt,htt,fin⟩:∃rd,PSs (Bm CX0 P w K mg base ["_law_cell_here","_law_rest"] "_law_state" (Ag B8) f cdv A outer s H E).nox ((A7 B8).drop 2) rd /\
    ∀(r:Int),0<=r->rd { nx:=λ_ H'=>Q .non H',rt:=Q } [some (.int c),some (.int r)] H:=by
   refine⟨_,(Af (Ak (QU (GD A4 (pv 0) (GD A4 (pv 1) (GD A4 Ad QO))) rfl rfl (by decide) (by decide)))),?_⟩;intro r r0;refine λ p np=>⟨_,rfl,_,rfl,⟨upd_same,stK c r 0,rfl,by show 3<=15;decide,q p _ ?_ np ⟨c,r,r0,upd_same⟩⟩⟩;intro x o e;rw[Ah (Ae e np),Ah (Ae e np)];exact e
  refine⟨_,(Ac (As (i:=1) S.nd rfl (Or.inl rfl) Ad)
   (Ac (A3 (PW.pt (G9 (Ao BS (pv 0) Ad (Aq _)) (G8 (Ao RN (pv 0) (Au Mc Ad Ad) (Aq _))))) (Af (As (i:=1) S.nd rfl (Or.inl rfl) (A6 Ql rfl T.z_abs rfl (Aa (pv 0) Ab)))) Ar)
   htt)),?_⟩
  refine⟨_,rfl,_,_,rfl,rfl,_,rfl,Bg (λ h=>?_) (λ h=>?_)⟩
  .refine PC ⟨_,rfl,_,rfl,?_⟩;exact fin _ (by split<;>lia)
  .refine⟨_,rfl,_,_,rfl,rfl,⟨by decide,by decide,by decide⟩,_,_,rfl,rfl,_,rfl,Bg (λ h2=>?_) (λ h2=>fin 0 (Int.le_refl _))⟩;refine⟨_,rfl,_,rfl,?_⟩;exact fin _ (by split<;>lia)
theorem MD:An ["_law_state_here","_law_many","_law_rest"] ["_law_state_here","_law_many"] (Ag D5):=fsc
theorem KO{f:Addr}{fd:FuncData}(F:Fun K "_law_pick" "_law_pick" D5 f fd)(D__law_draw:Av P w K mg base 1 "_law_draw" ["_law_cell_here","_law_nth","_law_many"] MY):A8 P w K mg base CX0 2 f fd ["_law_state_here","_law_many"] FX:=by
 have S:=MD;refine F.ok S (λ vs H Q E h=>?_) (λ cdv A outer s H vs Q E hr h=>?_)
 .obtain⟨a,t,m,rfl,_⟩:=h;rfl
 .obtain⟨a,t,m,rfl,⟨c,r,r0,e⟩,t0,t1,m0,m1,q⟩:=h;have hu:=TQ hr;refine⟨_,(Ac (As (i:=2) S.nd rfl (Or.inl rfl) (Gc hu (pv 0) A4 (λ_ _=>rfl)))
   (Ac (Ni hu (pv 0) A4 (Au AW (Gc hu (pv 0) A4 (λ_ _=>rfl)) Ad) rfl)
   (Ac (A3 (Ao AZ (pv 2) Ad (Aq _)) (Af (Ak (Aj D__law_draw hr (Aa (Gc hu (pv 0) A4 (λ_ _=>rfl)) (Aa (Gc hu (pv 0) A4 (λ_ _=>rfl)) (Aa (pv 1) Ab)))))) Ar)
   (Ac (Ni hu (pv 0) A4 (Au CU (pv 2) (pv 1)) rfl)
   (Af (Ak (Au BX (pv 2) (pv 1)))))))),?_⟩
  refine⟨_,rfl,a,_,rfl,PP e,?_⟩;refine⟨_,rfl,a,_,rfl,Ja e,_,_,rfl,rfl,_,rfl,a,_,rfl,M7 e,?_⟩;have e1:(upd H a (.dK (stK c r (t+1)))) a=some (.dK (stK c r (t+1))):=upd_same;have s1:SameX a H (upd H a (.dK (stK c r (t+1)))):=SameX.upd;generalize upd H a (.dK (stK c r (t+1)))=H1 at e1 s1 |-;refine⟨_,rfl,rfl,_,rfl,Bg (λ z=>?_) (λ z=>?_)⟩
  .exact⟨_,rfl,a,_,rfl,PQ e1,_,rfl,a,_,rfl,Ja e1,_,rfl,c,t+1,m,rfl,by lia,by lia,m0,λ z z0 z1=>q z _ z0 z1 s1 ⟨c,r,r0,e1⟩⟩
  .exact⟨_,rfl,_,rfl,_,_,rfl,rfl,O8 _ m0 (by lia),_,rfl,a,_,rfl,O7 e1,_,rfl,_,rfl,_,_,rfl,rfl,m0,q _ _ (Int.emod_nonneg _ (by lia)) (Int.emod_lt_of_pos _ m0) (s1.trans SameX.upd) ⟨c,r / m,Int.ediv_nonneg r0 (by lia),upd_same⟩⟩
theorem BO{f:Addr}{fd:FuncData}{x qual:Str}{st:Stmt}{N ps:LSz}{k:Nat}{sp:Sp}(F:Fun K x qual st f fd)(S:An N ps (Ag st))(h:∀vs H Q E,¬sp vs H Q E):A8 P w K mg base CX0 (k+1) f fd ps sp :=
 F.ok S (λ vs H Q E z=>absurd z (h vs H Q E)) (λ cdv A outer s H vs Q E hr z=>absurd z (h vs H Q E))
theorem AQ{c:Bool}{A B:Prop}(h:c=true)(a:A):if c=true then A else B:=by rw[if_pos h];exact a
abbrev Ku:LSz:=["_law_cells","_law_width","_law_height","_law_state_here","_law_way","_law_at","_law_first"]
theorem HH:An Ku ["_law_cells","_law_width","_law_height"] (Ag AY):=fsc
theorem SX{vs:LUz}{H:Hp}{Q:VK}{E:XK}:¬ER 0 vs H Q E:=by
 rintro⟨l,ms,w,h,_,_,h1,h2,h3,_⟩;lia
theorem Ra{v:V}{a b:Int}(h:v∈([.non,.int a,.int b]:LUz)):∃m,v=AN m:=by
 simp only[List.mem_cons,List.not_mem_nil,or_false]at h;rcases h with rfl|rfl|rfl
 .exact⟨none,rfl⟩
 .exact⟨some a,rfl⟩
 .exact⟨some b,rfl⟩
theorem KM{f:Addr}{fd:FuncData}{n:Nat}(F:Fun K "_law_tree" "_law_tree" AY f fd)(D__law_state:Av P w K mg base 1 "_law_state" ["_law_cell_here"] Gw)(D__law_pick:Av P w K mg base 2 "_law_pick" ["_law_state_here","_law_many"] FX)
  (D__law_tree:Av P w K mg base (n+3) "_law_tree" ["_law_cells","_law_width","_law_height"] (ER n)):A8 P w K mg base CX0 (n+4) f fd ["_law_cells","_law_width","_law_height"] (ER (n+1)):=by
 have S:=HH;refine F.ok S (λ vs H Q E h=>?_) (λ cdv A outer s H vs Q E hr h=>?_)
 .obtain⟨l,ms,ww,hh,rfl,_⟩:=h;rfl
 .obtain⟨l,ms,ww,hh,rfl,hl,w1,h1,wh,w12,h12,q⟩:=h;obtain⟨t5,h5,k5⟩:∃rd,PSs (Bm CX0 P w K mg base Ku "_law_tree" (Ag AY) f cdv A outer s H E).nox ((A7 AY).drop 5) rd/\∀(st:Addr)(x4 x5 x6:Option V)(ms2:List Int)(H4:Hp),St8 H4 st 1->SameX l H H4->H4 l=some (.lst (ms2.map V.int))->H st=none->rd { nx:=λ_ H'=>Q .non H',rt:=Q } [some (.ref l),some (.int ww),some (.int hh),some (.ref st),x4,x5,x6] H4:=by
   refine⟨_,(Af (Ak (At (Aa A4 (Aa (Al AD (AE (Aa Bu (Aa (Aj D__law_pick hr (Aa (pv 3) (Aa Ad Ab)) (by lia)) (Aa (Aj D__law_pick hr (Aa (pv 3) (Aa Ad Ab)) (by lia)) Ab)))) (Aj D__law_pick hr (Aa (pv 3) (Aa Ad Ab)) (by lia)) (λ_ _=>rfl)) Ab))))),?_⟩;intro st x4 x5 x6 ms2 H4 s4 T4 C4 ns;have sl:st≠l:=λ z=>by rw[z,hl]at ns;cases ns
   refine⟨_,rfl,st,1,1000,rfl,s4,by decide,by decide,by decide,by decide,λ z1 H5 _ _ y5 s5=>?_⟩;refine⟨_,rfl,st,1+1,3,rfl,s5,by decide,by decide,by decide,by decide,λ z2 H6 _ _ y6 s6=>?_⟩;refine⟨Ap 3,λ L nL=>?_⟩;obtain⟨H7,g,y7,eL⟩:=nw (.lst [.non,.int z1,.int z2]) nL;rw[g];refine⟨_,rfl,st,1+1+1,3,rfl,s6.same y7,by decide,by decide,by decide,by decide,λ z3 H8 b0 b1 y8 s8=>?_⟩;have Lst:L≠st:=λ z=>by obtain⟨_,_,_,e⟩:=s6;rw[z,e]at nL;cases nL
   obtain⟨v,hv,hm⟩:=SM (L:=[.non,.int z1,.int z2]) (i:=z3) b0 b1;refine⟨L,_,_,v,rfl,rfl,SqL.of (y8 _ _ Lst eL),hv,?_⟩;obtain⟨m,rfl⟩:=Ra hm;have y48:SameX st H4 H8:=(y5.trans y6).trans (y7.x.trans y8);refine⟨Ap 2,λ t ht=>q (.ref t) (.whole m) _ ms2 (λ x o nx ex=>?_) ?_ (by rw[Told];exact⟨t,rfl,upd_same⟩) (by rw[Fit];trivial)⟩
   .exact(Same.new ht) _ _ (y48 x o (Ae ex ns) (T4 x o nx ex))
   .exact(Same.new ht) _ _ (y48 _ _ (Ne.symm sl) C4)
  obtain⟨t4,h4,k4⟩:∃rd,PSs (Bm CX0 P w K mg base Ku "_law_tree" (Ag AY) f cdv A outer s H E).nox ((A7 AY).drop 4) rd/\∀(st:Addr)(way:Int)(x5 x6:Option V)(ms2:List Int)(H4:Hp),St8 H4 st 1->SameX l H H4->H4 l=some (.lst (ms2.map V.int))->H st=none->rd { nx:=λ_ H'=>Q .non H',rt:=Q } [some (.ref l),some (.int ww),some (.int hh),some (.ref st),some (.int way),x5,x6] H4:=by
   refine⟨_,(Ac (A3 (PW.pt (JF (GA BS BS Ad (pv 4) Ad) (FZ (Ao IL (pv 2) Ad (Aq _))))) (Ac (As (i:=5) S.nd rfl (Or.inl rfl) (Au AW Ad (Aj D__law_pick hr (Aa (pv 3) (Aa (Au Bq (pv 2) Ad) Ab)) (by lia))))
   (Ac (As (i:=6) S.nd rfl (Or.inl rfl) (Aj D__law_tree hr (Aa (pv 0) (Aa (pv 1) (Aa (pv 5) Ab))) (by lia)))
   (Af (Ak (At (Aa A4 (Aa (pv 5) (Aa (pv 6) (Aa (Aj D__law_tree hr (Aa (pv 0) (Aa (pv 1) (Aa (Au Bq (pv 2) (pv 5)) Ab))) (by lia)) Ab))))))))) Ar)
   h5),?_⟩
   intro st way x5 x6 ms2 H4 s4 T4 C4 ns;have sl:st≠l:=λ z=>by rw[z,hl]at ns;cases ns
   have back:=k5 st (some (.int way)) x5 x6 ms2 H4 s4 T4 C4 ns;refine⟨_,rfl,_,_,rfl,rfl,_,rfl,Bg (λ c0=>⟨_,_,rfl,rfl,_,rfl,Bg (λ c1=>⟨_,rfl,_,_,rfl,rfl,_,rfl,Bg (λ c2=>?_) (λ c2=>back)⟩) (λ c1=>Ll back)⟩) (λ c0=>⟨_,rfl,Ll back⟩)⟩;have c2:=of_decide_eq_true c2;refine⟨_,rfl,_,rfl,_,_,rfl,rfl,st,1,hh-1,rfl,s4,by decide,by decide,by lia,by lia,λ x H5 a0 a1 y5 s5=>⟨_,_,rfl,rfl,?_⟩⟩;have C5:=y5 _ _ (Ne.symm sl) C4;refine⟨_,rfl,_,rfl,_,rfl,l,ms2,ww,1+x,rfl,C5,by lia,by lia,by lia,by lia,by lia,λ v1 y1 H6 ms3 s6 e6 told1 fit1=>?_⟩;refine⟨_,rfl,_,rfl,_,rfl,_,rfl,_,rfl,_,rfl,_,_,rfl,rfl,l,ms3,ww,hh-(1+x),rfl,e6,by lia,by lia,by lia,by lia,by lia,λ v2 y2 H7 ms4 s7 e7 told2 fit2=>⟨Ap 4,λ t' ht'=>?_⟩⟩;have s8:Same H7 (upd H7 t' (.tup [.str (wd false),.int (1+x),v1,v2])):=Same.new ht';refine q (.ref t') (.cut false (1+x) y1 y2) _ ms4 (λ c o nx ex=>?_) (s8 _ _ e7) ?_ ?_
   .exact s8 _ _ (s7 _ _ nx (s6 _ _ nx (y5 _ _ (Ae ex ns) (T4 c o nx ex))))
   .rw[Told];exact⟨t',v1,v2,rfl,upd_same,(told1.samex s7 e6).same s8,told2.same s8⟩
   .rw[Fit];exact⟨by lia,by lia,fit1,fit2⟩
  obtain⟨t3,h3,k3⟩:∃rd,PSs (Bm CX0 P w K mg base Ku "_law_tree" (Ag AY) f cdv A outer s H E).nox ((A7 AY).drop 3) rd/\∀(st:Addr)(way:Int)(x5 x6:Option V)(ms2:List Int)(H4:Hp),St8 H4 st 1->SameX l H H4->H4 l=some (.lst (ms2.map V.int))->H st=none->rd { nx:=λ_ H'=>Q .non H',rt:=Q } [some (.ref l),some (.int ww),some (.int hh),some (.ref st),some (.int way),x5,x6] H4:=by
   refine⟨_,(Ac (A3 (PW.pt (JF (Ao BS (pv 4) Ad (Aq _)) (FZ (Ao IL (pv 1) Ad (Aq _))))) (Ac (As (i:=5) S.nd rfl (Or.inl rfl) (Au AW Ad (Aj D__law_pick hr (Aa (pv 3) (Aa (Au Bq (pv 1) Ad) Ab)) (by lia))))
   (Ac (As (i:=6) S.nd rfl (Or.inl rfl) (Aj D__law_tree hr (Aa (pv 0) (Aa (pv 5) (Aa (pv 2) Ab))) (by lia)))
   (Af (Ak (At (Aa A4 (Aa (pv 5) (Aa (pv 6) (Aa (Aj D__law_tree hr (Aa (pv 0) (Aa (Au Bq (pv 1) (pv 5)) (Aa (pv 2) Ab))) (by lia)) Ab))))))))) Ar)
   h4),?_⟩
   intro st way x5 x6 ms2 H4 s4 T4 C4 ns;have sl:st≠l:=λ z=>by rw[z,hl]at ns;cases ns
   have back:=k4 st way x5 x6 ms2 H4 s4 T4 C4 ns;refine⟨_,rfl,_,_,rfl,rfl,_,rfl,Bg (λ c1=>?_) (λ c1=>Ll back)⟩;refine⟨_,rfl,_,_,rfl,rfl,_,rfl,Bg (λ c2=>?_) (λ c2=>back)⟩;have c2:=of_decide_eq_true c2;refine⟨_,rfl,_,rfl,_,_,rfl,rfl,st,1,ww-1,rfl,s4,by decide,by decide,by lia,by lia,λ x H5 a0 a1 y5 s5=>⟨_,_,rfl,rfl,?_⟩⟩;have C5:=y5 _ _ (Ne.symm sl) C4;refine⟨_,rfl,_,rfl,_,rfl,l,ms2,1+x,hh,rfl,C5,by lia,by lia,by lia,by lia,by lia,λ v1 y1 H6 ms3 s6 e6 told1 fit1=>?_⟩;refine⟨_,rfl,_,rfl,_,rfl,_,rfl,_,rfl,_,_,rfl,rfl,_,rfl,l,ms3,ww-(1+x),hh,rfl,e6,by lia,by lia,by lia,by lia,by lia,λ v2 y2 H7 ms4 s7 e7 told2 fit2=>⟨Ap 4,λ t' ht'=>?_⟩⟩;have s8:Same H7 (upd H7 t' (.tup [.str (wd true),.int (1+x),v1,v2])):=Same.new ht';refine q (.ref t') (.cut true (1+x) y1 y2) _ ms4 (λ c o nx ex=>?_) (s8 _ _ e7) ?_ ?_
   .exact s8 _ _ (s7 _ _ nx (s6 _ _ nx (y5 _ _ (Ae ex ns) (T4 c o nx ex))))
   .rw[Told];exact⟨t',v1,v2,rfl,upd_same,(told1.samex s7 e6).same s8,told2.same s8⟩
   .rw[Fit];exact⟨by lia,by lia,fit1,fit2⟩
  refine⟨_,(Ac (A3 (Ao (Md hr) (pv 0) (AE Ab) (Aq _)) (Af (Ak (At (Aa A4 (Aa Bu Ab))))) Ar)
   (Ac (As (i:=3) S.nd rfl (Or.inl rfl) (Aj D__law_state hr (Aa (Ez PySem.F.plainAttrs_list PySem.F.slot_list_pop PySem.F.type_list_pop E4 (pv 0)) Ab) (by lia)))
   (Ac (As (i:=4) S.nd rfl (Or.inl rfl) (Aj D__law_pick hr (Aa (pv 3) (Aa Ad Ab)) (by lia)))
   h3))),?_⟩
  refine⟨_,rfl,Ap 0,λ e2 he2=>?_⟩;have s2:Same H (upd H e2 (.lst [])):=Same.new he2;refine⟨_,_,TK (SqL.of (s2 _ _ hl)),UD upd_same,⟨_,rfl⟩,⟨_,rfl⟩,Oz _,_,rfl,Bg (λ c=>?_) (λ c=>?_)⟩
  .exact⟨Ap 2,λ t ht=>q (.ref t) (.whole none) _ ms (s2.trans (Same.new ht)).x ((s2.trans (Same.new ht)) _ _ hl) (by rw[Told];exact⟨t,rfl,upd_same⟩) (by rw[Fit];trivial)⟩
  have hne:ms≠[]:=λ z=>by rw[if_neg Bool.false_ne_true,deq,O0,decide_eq_true z]at c;cases c
  obtain⟨ms2,z,rfl⟩:∃ms2 z,ms=ms2++[z]:=⟨ms.dropLast,ms.getLast hne,(List.dropLast_concat_getLast hne).symm⟩;have hlast:((ms2++[z]).map V.int)[((ms2++[z]).map V.int).length-1]?=some (.int z):=by
   rw[List.length_map,List.length_append,List.length_singleton,Nat.add_sub_cancel,List.getElem?_map,List.getElem?_append_right (Nat.le_refl _),Nat.sub_self];rfl
  have hdl:((ms2++[z]).map V.int).dropLast=ms2.map V.int:=by rw[List.map_append,List.map_singleton,List.dropLast_concat]
  have hl1:=s2 _ _ hl;have S1:SameX l H (upd H e2 (.lst [])):=s2.x;generalize upd H e2 (.lst [])=H1 at hl1 S1 |-;refine⟨_,rfl,.inl ⟨rfl,_,SqL.of hl1⟩,l,_,_,rfl,rfl,hl1,hlast,z,rfl,λ st H3 s3 n3 st3=>?_⟩;rw[hdl]at s3 n3;have nl:st≠l:=λ y=>by rw[y,upd_same]at n3;cases n3
  have n1:H1 st=none:=by rw[Ah nl]at n3;exact n3
  have n0:H st=none:=by
   cases qq:H st with
   |none=>rfl
   |some o=>rw[S1 st o nl qq]at n1;cases n1
  refine⟨_,rfl,st,0,7,rfl,st3,by decide,by decide,by decide,by decide,λ way H4 _ _ y4 s4=>?_⟩;refine k3 st way none none ms2 H4 s4 (λ x o nx ex=>?_) ?_ n0
  .exact y4 _ _ (Ae ex n0) (s3 _ _ (by rw[Ah nx];exact S1 x o nx ex))
  .exact y4 _ _ (Ne.symm nl) (s3 _ _ upd_same)
def Ij(cU cL:Addr)(u:Bool):Addr:=if u then cU else cL
abbrev wF(m:V):LFz:=Cr "mark" m []
abbrev cF(k:Int)(vx vy:V):LFz:=Cr "other" vy (Cr "first" vx (Cr "at" (.int k) []))
def Obj(cW cU cL:Addr)(H:Hp):Tr->V->Prop
 |.whole m,v=>∃a dx,v=.ref a/\H a=some (.ins cW dx (wF (AN m)))
 |.cut u k x y,v=>∃a dx vx vy,v=.ref a/\H a=some (.ins (Ij cU cL u) dx (cF k vx vy))/\Obj cW cU cL H x vx/\Obj cW cU cL H y vy
theorem Obj.same{H H':Hp}(s:Same H H'):∀{t:Tr}{v:V},Obj cW cU cL H t v->Obj cW cU cL H' t v
 |.whole m,v,h=>by
  rw[Obj]at h |-;obtain⟨a,dx,e,h⟩:=h;exact⟨a,dx,e,s _ _ h⟩
 |.cut u k x y,v,h=>by
  rw[Obj]at h |-;obtain⟨a,dx,vx,vy,e,h,h1,h2⟩:=h;exact⟨a,dx,vx,vy,e,s _ _ h,Obj.same s h1,Obj.same s h2⟩
structure RT(mg:MGz)(K:Frag)(cT cW cU cL:Addr):Prop where
 g_Tree:mg "Tree"=some (.ref cT)
 g_Whole:mg "Whole"=some (.ref cW)
 g_Upright:mg "Upright"=some (.ref cU)
 g_Level:mg "Level"=some (.ref cL)
 iW:MM K cW
 iC:∀u,MM K (Ij cU cL u)
 n_mark:NoAttr K cW "mark"
 n_at:∀u,NoAttr K (Ij cU cL u) "at"
 n_first:∀u,NoAttr K (Ij cU cL u) "first"
 n_other:∀u,NoAttr K (Ij cU cL u) "other"
 kWW:kitOne K (.ref cW) (.ref cW)=some true
 kWC:∀u,kitOne K (.ref cW) (.ref (Ij cU cL u))=some false
 kCW:∀u,kitOne K (.ref (Ij cU cL u)) (.ref cW)=some false
 kCC:∀u v,kitOne K (.ref (Ij cU cL u)) (.ref (Ij cU cL v))=some (u==v)
 kWT:kitOne K (.ref cW) (.ref cT)=some true
 kCT:∀u,kitOne K (.ref (Ij cU cL u)) (.ref cT)=some true
inductive Qy(C:Addr)(vs:LUz)(H:Hp)(Q:VK)(E:XK):Prop
 |mk (a dx:Addr) (m:V) (h0:vs=[.ref a,m]) (h1:H a=some (.ins C dx [])) (h2:Q .non (upd H a (.ins C dx (wF m)))):Qy C vs H Q E
def MV(C:Addr) :Sp:=λ vs H Q E=>Qy C vs H Q E
inductive Qz(C:Addr)(vs:LUz)(H:Hp)(Q:VK)(E:XK):Prop
 |mk (a dx:Addr) (k:Int) (vx vy:V) (h0:vs=[.ref a,.int k,vx,vy]) (h1:H a=some (.ins C dx [])) (h2:∀H',SameX a H H'->H' a=some (.ins C dx (cF k vx vy))->Q .non H'):Qz C vs H Q E
def IE(C:Addr) :Sp:=λ vs H Q E=>Qz C vs H Q E
theorem Kr:An ["self","mark"] ["self","mark"] (Ag Bs):=fsc
theorem Ie{f:Addr}{fd:FuncData}(F:FunD K "__init__" "Whole.__init__" Bs f fd)(R:RT mg K cT cW cU cL):A8 P w K mg base CX0 1 f fd ["self","mark"] (MV cW):=by
 have S:=Kr;refine F.ok S (λ vs H Q E h=>?_) (λ cdv A outer s H vs Q E hr h=>?_)
 .obtain⟨a,dx,m,rfl,_⟩:=h;rfl
 .obtain⟨a,dx,m,rfl,ha,q⟩:=h;refine⟨_,(Af (Ew (pv 0) (pv 1) rfl)),?_⟩;exact⟨_,rfl,_,rfl,a,cW,dx,_,rfl,ha,R.iW.cl,R.n_mark,(by show 0<1000;decide),q⟩
theorem HL:An ["self","at","first","other"] ["self","at","first","other"] (Ag Cq):=fsc
theorem FT{f:Addr}{fd:FuncData}(F:Fun K "__init__" "Upright.__init__" Cq f fd)(R:RT mg K cT cW cU cL):A8 P w K mg base CX0 1 f fd ["self","at","first","other"] (IE cU):=by
 have S:=HL;refine F.ok S (λ vs H Q E h=>?_) (λ cdv A outer s H vs Q E hr h=>?_)
 .obtain⟨a,dx,k,vx,vy,rfl,_⟩:=h;rfl
 .obtain⟨a,dx,k,vx,vy,rfl,ha,q⟩:=h;refine⟨_,(Ac (Ew (pv 0) (pv 1) rfl)
   (Ac (Ew (pv 0) (pv 2) rfl)
   (Af (Ew (pv 0) (pv 3) rfl)))),?_⟩
  refine⟨_,rfl,_,rfl,a,cU,dx,_,rfl,ha,(R.iC true).cl,R.n_at true,(by show 0<1000;decide),?_⟩;refine⟨_,rfl,_,rfl,a,cU,dx,_,rfl,upd_same,(R.iC true).cl,R.n_first true,(by show 1<1000;decide),?_⟩;refine⟨_,rfl,_,rfl,a,cU,dx,_,rfl,upd_same,(R.iC true).cl,R.n_other true,(by show 2<1000;decide),?_⟩;exact q _ ((SameX.upd.trans SameX.upd).trans SameX.upd) upd_same
theorem Kt:An ["self","at","first","other"] ["self","at","first","other"] (Ag Dk):=fsc
theorem Ih{f:Addr}{fd:FuncData}(F:Fun K "__init__" "Level.__init__" Dk f fd)(R:RT mg K cT cW cU cL):A8 P w K mg base CX0 1 f fd ["self","at","first","other"] (IE cL):=by
 have S:=Kt;refine F.ok S (λ vs H Q E h=>?_) (λ cdv A outer s H vs Q E hr h=>?_)
 .obtain⟨a,dx,k,vx,vy,rfl,_⟩:=h;rfl
 .obtain⟨a,dx,k,vx,vy,rfl,ha,q⟩:=h;refine⟨_,(Ac (Ew (pv 0) (pv 1) rfl)
   (Ac (Ew (pv 0) (pv 2) rfl)
   (Af (Ew (pv 0) (pv 3) rfl)))),?_⟩
  refine⟨_,rfl,_,rfl,a,cL,dx,_,rfl,ha,(R.iC false).cl,R.n_at false,(by show 0<1000;decide),?_⟩;refine⟨_,rfl,_,rfl,a,cL,dx,_,rfl,upd_same,(R.iC false).cl,R.n_first false,(by show 1<1000;decide),?_⟩;refine⟨_,rfl,_,rfl,a,cL,dx,_,rfl,upd_same,(R.iC false).cl,R.n_other false,(by show 2<1000;decide),?_⟩;exact q _ ((SameX.upd.trans SameX.upd).trans SameX.upd) upd_same
theorem Ce{H:Hp}{x dx:Addr}{o1 o2:HO}(hx:H x=none)(hd:H dx=none):Same H (upd (upd H dx o1) x o2):=λ b o e=>by
 rw[Ah (Ae e hx),Ah (Ae e hd)];exact e
inductive LC(cW cU cL:Addr)(n:Nat)(vs:LUz)(H:Hp)(Q:VK)(E:XK):Prop
 |mk (v:V) (t:Tr) (h0:vs=[v]) (h1:Told H t v) (h2:t.dp<n) (h3:∀v' H',Same H H'->Obj cW cU cL H' t v'->Q v' H'):LC cW cU cL n vs H Q E
def ES(cW cU cL:Addr)(n:Nat) :Sp:=λ vs H Q E=>LC cW cU cL n vs H Q E
theorem TB{vs:LUz}{H:Hp}{Q:VK}{E:XK}:¬ES cW cU cL 0 vs H Q E:=by
 rintro⟨v,t,_,_,h,_⟩;lia
theorem HI:An ["_law_told_here"] ["_law_told_here"] (Ag D6):=fsc
theorem KP{f:Addr}{fd:FuncData}{n:Nat}(F:Fun K "_law_made" "_law_made" D6 f fd)(K_Whole:Kv P w K mg base 1 "Whole" cW ["self","mark"] (MV cW))(K_Upright:Kv P w K mg base 1 "Upright" cU ["self","at","first","other"] (IE cU))
  (K_Level:Kv P w K mg base 1 "Level" cL ["self","at","first","other"] (IE cL)) (D__law_made:Av P w K mg base (n+3) "_law_made" ["_law_told_here"] (ES cW cU cL n)):A8 P w K mg base CX0 (n+4) f fd ["_law_told_here"] (ES cW cU cL (n+1)):=by
 have S:=HI;refine F.ok S (λ vs H Q E h=>?_) (λ cdv A outer s H vs Q E hr h=>?_)
 .obtain⟨v,t,rfl,_⟩:=h;rfl
 .obtain⟨v,t,rfl,ht,hd,q⟩:=h;refine⟨_,(Ac (A3 (Ao AZ (Al Am (pv 0) Ad (λ_ _=>rfl)) A4 (Aq _)) (Af (Ak (IK K_Whole hr (Aa (Al Am (pv 0) Ad (λ_ _=>rfl)) Ab) (by lia)))) Ar)
   (Ac (A3 (Ao AZ (Al Am (pv 0) Ad (λ_ _=>rfl)) A4 (Aq _)) (Af (Ak (IK K_Upright hr (Aa (Al Am (pv 0) Ad (λ_ _=>rfl)) (Aa (Aj D__law_made hr (Aa (Al Am (pv 0) Ad (λ_ _=>rfl)) Ab) (by lia)) (Aa (Aj D__law_made hr (Aa (Al Am (pv 0) Ad (λ_ _=>rfl)) Ab) (by lia)) Ab))) (by lia)))) Ar)
   (Af (Ak (IK K_Level hr (Aa (Al Am (pv 0) Ad (λ_ _=>rfl)) (Aa (Aj D__law_made hr (Aa (Al Am (pv 0) Ad (λ_ _=>rfl)) Ab) (by lia)) (Aa (Aj D__law_made hr (Aa (Al Am (pv 0) Ad (λ_ _=>rfl)) Ab) (by lia)) Ab))) (by lia)))))),?_⟩
  cases t with
  |whole m =>
   rw[Told]at ht;obtain⟨a,rfl,ha⟩:=ht;refine⟨_,rfl,a,_,_,_,rfl,rfl,SqT.of ha,BF,rfl,_,rfl,AQ (decide_eq_true rfl) ?_⟩;refine⟨_,rfl,a,_,_,_,rfl,rfl,SqT.of ha,Cw,λ x dx nx ndx nex=>⟨x,dx,_,rfl,upd_same,rfl,?_⟩⟩;refine q _ _ (λ b o e=>?_) (by rw[Obj];exact⟨x,dx,rfl,upd_same⟩);rw[Ah (Ae e nx)];exact Ce nx ndx b o e
  |cut u k y1 y2 =>
   rw[Told]at ht;obtain⟨a,v1,v2,rfl,ha,t1,t2⟩:=ht;have hd:max y1.dp y2.dp+1<n+1:=hd;refine⟨_,rfl,a,_,_,_,rfl,rfl,SqT.of ha,at0,rfl,_,rfl,AO (BP u) ?_⟩;cases u with
   |true =>
    refine⟨_,rfl,a,_,_,_,rfl,rfl,SqT.of ha,at0,rfl,_,rfl,AQ (Bn true true) ?_⟩;refine⟨_,rfl,a,_,_,_,rfl,rfl,SqT.of ha,at1,_,rfl,a,_,_,_,rfl,rfl,SqT.of ha,at2,v1,y1,rfl,t1,by lia,λ w1 H1 s1 o1=>?_⟩;refine⟨_,rfl,a,_,_,_,rfl,rfl,SqT.of (s1 _ _ ha),at3,v2,y2,rfl,t2.same s1,by lia,λ w2 H2 s2 o2=>?_⟩;refine λ x dx nx ndx nex=>⟨x,dx,k,w1,w2,rfl,upd_same,λ H3 s3 e3=>⟨rfl,?_⟩⟩;have s4:Same H2 H3:=λ b o e=>s3 b o (Ae e nx) (Ce nx ndx b o e);exact q _ _ ((s1.trans s2).trans s4) (by rw[Obj];exact⟨x,dx,w1,w2,rfl,e3,(o1.same s2).same s4,o2.same s4⟩)
   |false =>
    refine⟨_,rfl,a,_,_,_,rfl,rfl,SqT.of ha,at0,rfl,_,rfl,AO (Bn false true) ?_⟩;refine⟨_,rfl,a,_,_,_,rfl,rfl,SqT.of ha,at1,_,rfl,a,_,_,_,rfl,rfl,SqT.of ha,at2,v1,y1,rfl,t1,by lia,λ w1 H1 s1 o1=>?_⟩;refine⟨_,rfl,a,_,_,_,rfl,rfl,SqT.of (s1 _ _ ha),at3,v2,y2,rfl,t2.same s1,by lia,λ w2 H2 s2 o2=>?_⟩;refine λ x dx nx ndx nex=>⟨x,dx,k,w1,w2,rfl,upd_same,λ H3 s3 e3=>⟨rfl,?_⟩⟩;have s4:Same H2 H3:=λ b o e=>s3 b o (Ae e nx) (Ce nx ndx b o e);exact q _ _ ((s1.trans s2).trans s4) (by rw[Obj];exact⟨x,dx,w1,w2,rfl,e3,(o1.same s2).same s4,o2.same s4⟩)
theorem fW(m:V):(wF m).lookup ("mark":Str)=some m:=by rw[AT,if_pos rfl]
theorem Ct(k:Int)(vx vy:V):(cF k vx vy).lookup ("at":Str)=some (.int k):=by rw[AT,if_neg (by decide +kernel),AT,if_neg (by decide +kernel),AT,if_pos rfl]
theorem Bz(k:Int)(vx vy:V):(cF k vx vy).lookup ("first":Str)=some vx:=by rw[AT,if_neg (by decide +kernel),AT,if_pos rfl]
theorem By(k:Int)(vx vy:V):(cF k vx vy).lookup ("other":Str)=some vy:=by rw[AT,if_pos rfl]
theorem Pn{C:Addr}:∀u',RelV (.ref C) u'->u'=.ref C:=λ_ z=>z
inductive En where
 |w (m:Option Int)
 |c (u:Bool) (k:Int)
def AH:Tr->List En
 |.whole m=>[.w m]
 |.cut u k x y=>.c u k::(AH x++AH y)
def Tr.nd:Tr->Nat
 |.whole _=>1
 |.cut _ _ x y=>x.nd+y.nd+1
theorem Cu:∀t:Tr,(AH t).length=t.nd
 |.whole _=>rfl
 |.cut _ _ x y=>by rw[AH,List.length_cons,List.length_append,Cu x,Cu y];rfl
theorem Ml:∀t:Tr,0<t.nd
 |.whole _=>Nat.one_pos
 |.cut _ _ x y=>Nat.succ_pos _
def enV:En->LUz
 |.w m=>[.str "whole",AN m]
 |.c u k=>[.str (wd u),.int k]
def hdE:Tr->En
 |.whole m=>.w m
 |.cut u k _ _=>.c u k
def Kp(H H':Hp):Prop:=∀b o,H b=some o->(∀xs,o≠.lst xs)->H' b=some o
theorem CV{H H':Hp}(s:Same H H'):Kp H H':=λ b o e _=>s b o e
theorem Kp.trans{H H1 H2:Hp}(a:Kp H H1)(b:Kp H1 H2):Kp H H2:=λ c o e n=>b c o (a c o e n) n
theorem Kp.put{H:Hp}{l:Addr}{xs ys:LUz}(h:H l=some (.lst xs)):Kp H (upd H l (.lst ys)):=λ b o e n=>by
 rw[Ah (EX e h (n xs))];exact e
theorem Obj.kp{H H':Hp}(s:Kp H H'):∀{t:Tr}{v:V},Obj cW cU cL H t v->Obj cW cU cL H' t v
 |.whole m,v,h=>by
  rw[Obj]at h |-;obtain⟨a,dx,e,h⟩:=h;exact⟨a,dx,e,s _ _ h (by intro xs z;cases z)⟩
 |.cut u k x y,v,h=>by
  rw[Obj]at h |-;obtain⟨a,dx,vx,vy,e,h,h1,h2⟩:=h;exact⟨a,dx,vx,vy,e,s _ _ h (by intro xs z;cases z),Obj.kp s h1,Obj.kp s h2⟩
def EnsAt(H:Hp):LUz->List En->Prop
 |[],[]=>True
 |v::r,e::q=>(∃a,v=.ref a/\H a=some (.tup (enV e)))/\EnsAt H r q
 |_,_=>False
theorem EnsAt.kp{H H':Hp}(s:Kp H H'):∀{vs:LUz}{es:List En},EnsAt H vs es->EnsAt H' vs es
 |[],[],_=>trivial
 |v::r,e::q,h=>⟨let ⟨a,b,c⟩:=h.1;⟨a,b,s _ _ c (by intro xs z;cases z)⟩,EnsAt.kp s h.2⟩
 |[],_::_,h=>h
 |_::_,[],h=>h
theorem EnsAt.snoc{H:Hp}{a:Addr}{e:En}(ha:H a=some (.tup (enV e))):∀{vs:LUz}{es:List En},EnsAt H vs es->EnsAt H (vs++[.ref a]) (es++[e])
 |[],[],_=>⟨⟨a,rfl,ha⟩,trivial⟩
 |v::r,e'::q,h=>⟨h.1,EnsAt.snoc ha h.2⟩
 |[],_::_,h=>h.elim
 |_::_,[],h=>h.elim
theorem EnsAt.len{H:Hp}:∀{vs:LUz}{es:List En},EnsAt H vs es->vs.length=es.length
 |[],[],_=>rfl
 |v::r,e'::q,h=>by rw[List.length_cons,List.length_cons,EnsAt.len h.2]
 |[],_::_,h=>h.elim
 |_::_,[],h=>h.elim
theorem EnsAt.get{H:Hp}:∀{vs:LUz}{es:List En}{i:Nat}{v:V},EnsAt H vs es->vs[i]?=some v->∃e a,es[i]?=some e/\v=.ref a/\H a=some (.tup (enV e))
 |v::r,e::q,0,_,h,hv=>by
  cases hv;obtain⟨a,b,c⟩:=h.1;exact⟨e,a,rfl,b,c⟩
 |v::r,e::q,i+1,_,h,hv=>EnsAt.get (i:=i) h.2 hv
 |[],[],_,_,_,hv=>by cases hv
 |[],_::_,_,_,h,_=>h.elim
 |_::_,[],_,_,h,_=>h.elim
inductive Ju(cW cU cL:Addr)(vs:LUz)(H:Hp)(Q:VK)(E:XK):Prop
 |mk (v:V) (t:Tr) (h0:vs=[v]) (h1:Obj cW cU cL H t v) (h2:∀a,H a=none->Q (.ref a) (upd H a (.tup (enV (hdE t))))):Ju cW cU cL vs H Q E
def G0(cW cU cL:Addr) :Sp:=λ vs H Q E=>Ju cW cU cL vs H Q E
inductive HR(cW cU cL:Addr)(vs:LUz)(H:Hp)(Q:VK)(E:XK):Prop
 |mk (v:V) (t:Tr) (h0:vs=[v]) (h1:Obj cW cU cL H t v) (h2:Q ((enV (hdE t)).headD .non) H):HR cW cU cL vs H Q E
def BG(cW cU cL:Addr) :Sp:=λ vs H Q E=>HR cW cU cL vs H Q E
theorem OI:An ["tree"] ["tree"] (Ag Fl):=fsc
theorem Mg{f:Addr}{fd:FuncData}(F:Fun K "kind_of" "kind_of" Fl f fd)(T:Txt mg tk)(R:RT mg K cT cW cU cL):A8 P w K mg base CX0 1 f fd ["tree"] (BG cW cU cL):=by
 have S:=OI;refine F.ok S (λ vs H Q E h=>?_) (λ cdv A outer s H vs Q E hr h=>?_)
 .obtain⟨v,t,rfl,_⟩:=h;rfl
 .obtain⟨v,t,rfl,ho,q⟩:=h;refine⟨_,(Ac (A3 (CI (A6 ED rfl T.z_isinstance rfl (Aa (pv 0) (Aa (Ax (v:=.ref (cW)) rfl R.g_Whole rfl) Ab)))) (Af (Ak (Ax (v:=.str "whole") rfl T.g_WHOLE ⟨_,rfl⟩))) Ar)
   (Af (Ak (GG (CI (A6 ED rfl T.z_isinstance rfl (Aa (pv 0) (Aa (Ax (v:=.ref (cU)) rfl R.g_Upright rfl) Ab)))) (Ax (v:=.str "upright") rfl T.g_UPRIGHT ⟨_,rfl⟩) (Ax (v:=.str "level") rfl T.g_LEVEL ⟨_,rfl⟩))))),?_⟩
  cases t with
  |whole m =>
   rw[Obj]at ho;obtain⟨x,dx,rfl,hx⟩:=ho;exact⟨_,rfl,x,cW,dx,_,_,.ref cW,true,rfl,hx,R.iW,rfl,Pn,R.kWW,_,rfl,AQ rfl q⟩
  |cut u k y1 y2 =>
   rw[Obj]at ho;obtain⟨x,dx,w1,w2,rfl,hx,o1,o2⟩:=ho;refine⟨_,rfl,x,_,dx,_,_,.ref cW,false,rfl,hx,R.iC u,rfl,Pn,R.kCW u,_,rfl,AO rfl ?_⟩;refine⟨_,rfl,x,_,dx,_,_,.ref cU,_,rfl,hx,R.iC u,rfl,Pn,R.kCC u true,_,rfl,?_⟩;cases u with
   |true=>exact AQ rfl q
   |false=>exact AO rfl q
theorem MK:An ["tree","kind"] ["tree"] (Ag Ep):=fsc
theorem KW{f:Addr}{fd:FuncData}(F:Fun K "entry_of" "entry_of" Ep f fd)(T:Txt mg tk)(R:RT mg K cT cW cU cL)(D_kind_of:Av P w K mg base 1 "kind_of" ["tree"] (BG cW cU cL)):A8 P w K mg base CX0 2 f fd ["tree"] (G0 cW cU cL):=by
 have S:=MK;refine F.ok S (λ vs H Q E h=>?_) (λ cdv A outer s H vs Q E hr h=>?_)
 .obtain⟨v,t,rfl,_⟩:=h;rfl
 .obtain⟨v,t,rfl,ho,q⟩:=h;refine⟨_,(Ac (As (i:=1) S.nd rfl (Or.inl rfl) (Aj D_kind_of hr (Aa (pv 0) Ab)))
   (Af (Ak (At (Aa (pv 1) (Aa (GG (Ao AZ (pv 1) (Ax (v:=.str "whole") rfl T.g_WHOLE ⟨_,rfl⟩) (Aq _)) (A9 (pv 0) rfl) (A9 (pv 0) rfl)) Ab)))))),?_⟩
  refine⟨_,rfl,_,t,rfl,ho,?_⟩;cases t with
  |whole m =>
   rw[Obj]at ho;obtain⟨x,dx,rfl,hx⟩:=ho;exact⟨_,rfl,_,rfl,rfl,_,rfl,AQ (decide_eq_true rfl) ⟨_,rfl,x,cW,dx,_,_,rfl,hx,R.iW.cl,R.n_mark,fW _,Ap 2,λ a ha=>q a ha⟩⟩
  |cut u k y1 y2 =>
   rw[Obj]at ho;obtain⟨x,dx,w1,w2,rfl,hx,o1,o2⟩:=ho;exact⟨_,rfl,_,rfl,rfl,_,rfl,AO (BP u) ⟨_,rfl,x,_,dx,_,_,rfl,hx,(R.iC u).cl,R.n_at u,Ct _ _ _,Ap 2,λ a ha=>q a ha⟩⟩
def Cz(ws:List (V×Tr)):List En:=ws.reverse.flatMap λ p=>AH p.2
theorem AU(ws:List (V×Tr))(p:V×Tr):Cz (ws++[p])=AH p.2++Cz ws:=by
 unfold Cz;rw[List.reverse_append,List.reverse_singleton,List.singleton_append,List.flatMap_cons]
def cnt(ws:List (V×Tr)):Nat:=(ws.map λ p=>p.2.nd).sum
theorem B0(ws:List (V×Tr))(p:V×Tr):cnt (ws++[p])=cnt ws+p.2.nd:=by
 unfold cnt;rw[List.map_append,List.sum_append,List.map_singleton,List.sum_singleton]
theorem Ef:∀ws:List (V×Tr),ws.length<=cnt ws
 |[]=>Nat.le_refl 0
 |p::r=>by
  have:=Ef r;have:=Ml p.2;show r.length+1<=p.2.nd+cnt r;lia
theorem Ec(p:V×Tr)(r:List (V×Tr)):Cz (p::r)=Cz r++AH p.2:=by
 unfold Cz;rw[List.reverse_cons,List.flatMap_append,List.flatMap_cons,List.flatMap_nil,List.append_nil]
theorem CY:∀ws:List (V×Tr),(Cz ws).length=cnt ws
 |[]=>rfl
 |p::r=>by
  rw[Ec,List.length_append,Cu,CY r];show _=p.2.nd+cnt r;lia
theorem Ck{α:Type}(ws:List α):ws=[]\/∃ws0 p,ws=ws0++[p]:=by
 by_cases h:ws=[]
 .exact .inl h
 .exact .inr ⟨ws.dropLast,ws.getLast h,(List.dropLast_concat_getLast h).symm⟩
theorem Hc{ws0:List (V×Tr)}{p:V×Tr}:((ws0++[p]).map (·.1))[((ws0++[p]).map (·.1)).length-1]?=some p.1:=by
 rw[List.length_map,List.length_append,List.length_singleton,Nat.add_sub_cancel,List.getElem?_map,List.getElem?_append_right (Nat.le_refl _),Nat.sub_self];rfl
theorem Hv{ws0:List (V×Tr)}{p:V×Tr}:((ws0++[p]).map (·.1)).dropLast=ws0.map (·.1):=by rw[List.map_append,List.map_singleton,List.dropLast_concat]
inductive FO(cW cU cL:Addr)(vs:LUz)(H:Hp)(Q:VK)(E:XK):Prop
 |mk (v:V) (t:Tr) (h0:vs=[v]) (h1:Obj cW cU cL H t v) (h2:t.nd<=400) (h3:∀l xs H',Same H H'->H l=none->H' l=some (.lst xs)->EnsAt H' xs (AH t)->Q (.ref l) H'):FO cW cU cL vs H Q E
def Ek(cW cU cL:Addr) :Sp:=λ vs H Q E=>FO cW cU cL vs H Q E
abbrev Up(cW cU cL:Addr)(H:Hp)(v:V)(t:Tr)(le lw:Addr)(m:Nat)(σ:St)(H':Hp):Prop:=∃(xs:LUz)(es:List En)(ws:List (V×Tr))(x3:Option V),σ=[some v,some (.ref le),some (.ref lw),x3]/\Same H H'/\H' le=some (.lst xs)/\EnsAt H' xs es/\H' lw=some (.lst (ws.map (·.1)))/\(∀p∈ws,Obj cW cU cL H' p.2 p.1)/\es++Cz ws=AH t/\m=cnt ws
theorem Ko:An ["tree","entries","waiting","part"] ["tree"] (Ag De):=fsc
theorem Ib{f:Addr}{fd:FuncData}(F:Fun K "entries_of" "entries_of" De f fd)(T:Txt mg tk)(R:RT mg K cT cW cU cL)(D_entry_of:Av P w K mg base 2 "entry_of" ["tree"] (G0 cW cU cL)):A8 P w K mg base CX0 3 f fd ["tree"] (Ek cW cU cL):=by
 have S:=Ko;refine F.ok S (λ vs H Q E h=>?_) (λ cdv A outer s H vs Q E hr h=>?_)
 .obtain⟨v,t,rfl,_⟩:=h;rfl
 .obtain⟨v,t,rfl,ho,hn,q⟩:=h;refine⟨_,(Ac (As (i:=1) S.nd rfl (Or.inl rfl) (AE Ab))
   (Ac (As (i:=2) S.nd rfl (Or.inl rfl) (AE (Aa (pv 0) Ab)))
   (Ac (K9 PassesOwn.never (CT (pv 2) (λ_=>rfl)) (Ac (As (i:=3) S.nd rfl (Or.inl rfl) (Ez PySem.F.plainAttrs_list PySem.F.slot_list_pop PySem.F.type_list_pop E4 (pv 2)))
   (Ac (Bt (DG PySem.F.plainAttrs_list PySem.F.slot_list_append PySem.F.type_list_append AX (pv 1) (Aa (Aj D_entry_of hr (Aa (pv 3) Ab)) Ab)))
   (Af (A3 (DC (CI (A6 ED rfl T.z_isinstance rfl (Aa (pv 3) (Aa (Ax (v:=.ref (cW)) rfl R.g_Whole rfl) Ab))))) (Af (Bt (DG PySem.F.plainAttrs_list PySem.F.slot_list_extend PySem.F.type_list_extend Op (pv 2) (Aa (AE (Aa (A9 (pv 3) rfl) (Aa (A9 (pv 3) rfl) Ab))) Ab)))) Ar)))))
   (Af (Ak (pv 1)))))),?_⟩
  refine⟨Ap 0,λ le hle=>⟨_,rfl,Ap 1,λ lw hlw=>?_⟩⟩;have nel:le≠lw:=Ae upd_same hlw;have s0:Same H (upd (upd H le (.lst [])) lw (.lst [v])):=(Same.new hle).trans (Same.new hlw);have hlw0:H lw=none:=by
   cases e:H lw with
   |none=>rfl
   |some o=>rw[Same.new hle _ _ e]at hlw;cases hlw
  refine⟨Up cW cU cL H v t le lw,
   ⟨_,[],[],[(v,t)],none,rfl,s0,by rw[Ah nel];exact upd_same,trivial,upd_same,λ p hp=>?_,?_,rfl⟩,?_⟩
  .rw[List.mem_singleton.mp hp];exact ho.same s0
  .show AH t++[]=AH t;exact List.append_nil _
  rintro m σ H' ⟨xs,es,ws,x3,rfl,s1,hl,hen,hw,hob,heq,rfl⟩;have tot:es.length+cnt ws=t.nd:=by rw[<-Cu,<-heq,List.length_append,CY]
  rcases Ck ws with rfl|⟨ws0,p,rfl⟩
  .refine⟨_,rfl,_,.inl ⟨_,SqL.of hw,rfl⟩,AO rfl ⟨_,rfl,q le xs H' s1 hle hl ?_⟩⟩;rw[<-heq];show EnsAt H' xs (es++[]);rw[List.append_nil];exact hen
  .refine⟨_,rfl,_,.inl ⟨_,SqL.of hw,rfl⟩,AQ (by simp) ⟨λ σ' H''=>∃m',m'<cnt (ws0++[p])/\Up cW cU cL H v t le lw m' σ' H'',λ σ' H'' z=>z,?_⟩⟩;refine⟨_,rfl,.inl ⟨rfl,_,SqL.of hw⟩,lw,_,p.1,rfl,rfl,hw,Hc,?_⟩;rw[Hv];have k2:Kp H' (upd H' lw (.lst (ws0.map (·.1)))):=Kp.put hw;have s2:Same H (upd H' lw (.lst (ws0.map (·.1)))):=λ b o e=>by rw[Ah (Ae e hlw0)];exact s1 b o e
   have l2:(upd H' lw (.lst (ws0.map (·.1)))) le=some (.lst xs):=by rw[Ah nel];exact hl
   have w2:(upd H' lw (.lst (ws0.map (·.1)))) lw=some (.lst (ws0.map (·.1))):=upd_same;generalize upd H' lw (.lst (ws0.map (·.1)))=H2 at k2 s2 l2 w2 |-;have op:=(hob p (by simp)).kp k2;have ob0:∀r∈ws0,Obj cW cU cL H2 r.2 r.1:=λ r hr=>(hob r (List.mem_append_left _ hr)).kp k2;have hen2:=hen.kp k2;rw[AU]at heq;rw[B0]at tot;have hxl:=hen.len;have np:=Ml p.2;refine⟨_,rfl,.inl ⟨rfl,_,SqL.of l2⟩,_,rfl,p.1,p.2,rfl,op,λ a ha=>?_⟩;obtain⟨H3,g,s3,a3⟩:=nw (.tup (enV (hdE p.2))) ha;rw[g];have l3:=s3 _ _ l2;refine⟨le,xs,.ref a,rfl,rfl,l3,A0 (by lia),?_⟩;have k4:Kp H3 (upd H3 le (.lst (xs++[.ref a]))):=Kp.put l3;have s4:Same H (upd H3 le (.lst (xs++[.ref a]))):=λ b o e=>by rw[Ah (Ae e hle)];exact s3 b o (s2 b o e)
   have l4:(upd H3 le (.lst (xs++[.ref a]))) le=some (.lst (xs++[.ref a])):=upd_same;have w4:(upd H3 le (.lst (xs++[.ref a]))) lw=some (.lst (ws0.map (·.1))):=by rw[Ah (Ne.symm nel)];exact s3 _ _ w2
   have en4:EnsAt (upd H3 le (.lst (xs++[.ref a]))) (xs++[.ref a]) (es++[hdE p.2]):=((hen2.kp (CV s3)).kp k4).snoc (k4 _ _ a3 (by intro xs z;cases z));have kk:=(CV s3).trans k4;generalize upd H3 le (.lst (xs++[.ref a]))=H4 at k4 s4 l4 w4 en4 kk |-;have op4:=op.kp kk;have ob4:∀r∈ws0,Obj cW cU cL H4 r.2 r.1:=λ r hr=>(ob0 r hr).kp kk;obtain⟨pv,pt⟩:=p;cases pt with
   |whole m =>
    rw[Obj]at op4;obtain⟨x,dx,rfl,hx⟩:=op4;refine⟨_,rfl,x,cW,dx,_,_,.ref cW,true,rfl,hx,R.iW,rfl,Pn,R.kWW,_,rfl,AO rfl ?_⟩;refine⟨cnt ws0,by rw[B0];exact Nat.lt_succ_self _,_,_,ws0,_,rfl,s4,l4,en4,w4,ob4,?_,rfl⟩;rw[<-heq,List.append_assoc];rfl
   |cut u k y1 y2 =>
    rw[Obj]at op4;obtain⟨x,dx,v1,v2,rfl,hx,o1,o2⟩:=op4;refine⟨_,rfl,x,_,dx,_,_,.ref cW,false,rfl,hx,R.iC u,rfl,Pn,R.kCW u,_,rfl,AQ rfl ?_⟩;refine⟨_,rfl,.inl ⟨rfl,_,SqL.of w4⟩,_,rfl,x,_,dx,_,_,rfl,hx,(R.iC u).cl,R.n_other u,By _ _ _,_,rfl,x,_,dx,_,_,rfl,hx,(R.iC u).cl,R.n_first u,Bz _ _ _,Ap 2,λ l5 hl5=>?_⟩;obtain⟨H5,g,s5,e5⟩:=nw (.lst [v2,v1]) hl5;rw[g];have cl:=Ef ws0;have ndp:(Tr.cut u k y1 y2).nd=y1.nd+y2.nd+1:=rfl;refine⟨lw,l5,_,_,rfl,rfl,s5 _ _ w4,e5,Nat.le_of_lt (A0 (by show(ws0.map (·.1)).length+2<=1000;rw[List.length_map];lia)),?_⟩;have k6:Kp H5 (upd H5 lw (.lst (ws0.map (·.1)++[v2,v1]))):=Kp.put (s5 _ _ w4);have kk6:=(CV s5).trans k6;refine⟨cnt (ws0++[(v2,y2)]++[(v1,y1)]),?_,xs++[.ref a],es++[.c u k],ws0++[(v2,y2)]++[(v1,y1)],_,rfl,λ b o e=>?_,?_,en4.kp kk6,?_,λ r hr=>?_,?_,rfl⟩
    .rw[B0,B0,B0];show cnt ws0+y2.nd+y1.nd<cnt ws0+(y1.nd+y2.nd+1);lia
    .rw[Ah (Ae e hlw0)];exact s5 b o (s4 b o e)
    .rw[Ah nel];exact s5 _ _ l4
    .rw[upd_same,List.map_append,List.map_append,List.append_assoc];rfl
    .rcases List.mem_append.mp hr with hr|hr
     .rcases List.mem_append.mp hr with hr|hr
      .exact(ob4 r hr).kp kk6
      .rw[List.mem_singleton.mp hr];exact o2.kp kk6
     .rw[List.mem_singleton.mp hr];exact o1.kp kk6
    .rw[AU,AU,<-heq];show es++[.c u k]++(AH y1++(AH y2++Cz ws0))=es++(.c u k::(AH y1++AH y2)++Cz ws0);simp[List.append_assoc]
def wt:En->Int
 |.w _=>1
 |.c _ _=>-1
def wts(es:List En):Int:=(es.map wt).sum
theorem J0(a b:List En):wts (a++b)=wts a+wts b:=by
 unfold wts;rw[List.map_append,List.sum_append]
theorem Kw(e:En)(b:List En):wts (e::b)=wt e+wts b:=by
 unfold wts;rw[List.map_cons,List.sum_cons]
theorem CN:∀t:Tr,wts (AH t)=1
 |.whole _=>rfl
 |.cut u k x y=>by
  rw[AH,Kw,J0,CN x,CN y];rfl
theorem Go:∀ws:List (V×Tr),wts (Cz ws)=ws.length
 |[]=>rfl
 |p::r=>by rw[Ec,J0,CN,Go r,List.length_cons];lia
theorem Jz:∀(t:Tr)(a b:List En),AH t=a++b->b≠[]->1<=wts b
 |.whole m,a,b,h,hb=>by
  have h:[En.w m]=a++b:=h;cases a with
  |nil=>rw[List.nil_append]at h;rw[<-h];exact Int.le_refl 1
  |cons e r =>
   have:=congrArg List.length h;simp only[List.length_append,List.length_cons,List.length_nil]at this;exact absurd (List.length_eq_zero_iff.mp (by lia)) hb
 |.cut u k x y,a,b,h,hb=>by
  cases a with
  |nil =>
   rw[List.nil_append]at h;rw[<-h,CN];decide
  |cons e r =>
   rw[AH,List.cons_append]at h;have h2:=List.cons.inj h |>.2;rcases List.append_eq_append_iff.mp h2 with ⟨c,hc,hd⟩|⟨c,hc,hd⟩
   .exact Jz y c b hd hb
   .rw[hd,J0,CN];by_cases e:c=[]
    .rw[e];decide
    .have:=Jz x r c hc e;lia
theorem Hq:∀(t t':Tr)(r r':List En),AH t++r=AH t'++r'->t=t'/\r=r'
 |.whole m,.whole m',r,r',h=>by
  have h:En.w m::r=En.w m'::r':=h;injection h with h1 h2;injection h1 with h1;exact⟨by rw[h1],h2⟩
 |.whole m,.cut u k x y,r,r',h=>by
  have h:En.w m::r=En.c u k::(AH x++AH y++r'):=h;injection h with h1 _;cases h1
 |.cut u k x y,.whole m,r,r',h=>by
  have h:En.c u k::(AH x++AH y++r)=En.w m::r':=h;injection h with h1 _;cases h1
 |.cut u k x y,.cut u' k' x' y',r,r',h=>by
  have h:En.c u k::(AH x++AH y++r)=En.c u' k'::(AH x'++AH y'++r'):=h;injection h with h1 h2;injection h1 with h3 h4;rw[List.append_assoc,List.append_assoc]at h2;obtain⟨e1,h5⟩:=Hq x x' _ _ h2;obtain⟨e2,h6⟩:=Hq y y' _ _ h5;exact⟨by rw[h3,h4,e1,e2],h6⟩
inductive FP(cW cU cL:Addr)(vs:LUz)(H:Hp)(Q:VK)(E:XK):Prop
 |mk (u:Bool) (k:Int) (v1 v2:V) (y1 y2:Tr) (h0:vs=[.str (wd u),.int k,v1,v2]) (h1:Obj cW cU cL H y1 v1) (h2:Obj cW cU cL H y2 v2) (h3:∀v' H',Same H H'->Obj cW cU cL H' (.cut u k y1 y2) v'->Q v' H'):FP cW cU cL vs H Q E
def Cj(cW cU cL:Addr) :Sp:=λ vs H Q E=>FP cW cU cL vs H Q E
theorem ML:An ["word","at","first","other"] ["word","at","first","other"] (Ag Er):=fsc
theorem KY{f:Addr}{fd:FuncData}(F:Fun K "cut_from" "cut_from" Er f fd)(T:Txt mg tk)(K_Upright:Kv P w K mg base 1 "Upright" cU ["self","at","first","other"] (IE cU))(K_Level:Kv P w K mg base 1 "Level" cL ["self","at","first","other"] (IE cL)) :
  A8 P w K mg base CX0 3 f fd ["word","at","first","other"] (Cj cW cU cL):=by
 have S:=ML;refine F.ok S (λ vs H Q E h=>?_) (λ cdv A outer s H vs Q E hr h=>?_)
 .obtain⟨u,k,v1,v2,y1,y2,rfl,_⟩:=h;rfl
 .obtain⟨u,k,v1,v2,y1,y2,rfl,o1,o2,q⟩:=h;refine⟨_,(Ac (A3 (Ao AZ (pv 0) (Ax (v:=.str "upright") rfl T.g_UPRIGHT ⟨_,rfl⟩) (Aq _)) (Af (Ak (IK K_Upright hr (Aa (pv 1) (Aa (pv 2) (Aa (pv 3) Ab)))))) Ar)
   (Af (Ak (IK K_Level hr (Aa (pv 1) (Aa (pv 2) (Aa (pv 3) Ab))))))),?_⟩
  cases u with
  |true =>
   refine⟨_,rfl,rfl,_,rfl,AQ (Bn true true) ⟨_,rfl,_,rfl,_,rfl,λ x dx nx ndx nex=>⟨x,dx,k,v1,v2,rfl,upd_same,λ H3 s3 e3=>⟨rfl,?_⟩⟩⟩⟩;have s4:Same H H3:=λ b o e=>s3 b o (Ae e nx) (Ce nx ndx b o e);exact q _ _ s4 (by rw[Obj];exact⟨x,dx,v1,v2,rfl,e3,o1.same s4,o2.same s4⟩)
  |false =>
   refine⟨_,rfl,rfl,_,rfl,AO (Bn false true) ⟨_,rfl,_,rfl,_,rfl,λ x dx nx ndx nex=>⟨x,dx,k,v1,v2,rfl,upd_same,λ H3 s3 e3=>⟨rfl,?_⟩⟩⟩⟩;have s4:Same H H3:=λ b o e=>s3 b o (Ae e nx) (Ce nx ndx b o e);exact q _ _ s4 (by rw[Obj];exact⟨x,dx,v1,v2,rfl,e3,o1.same s4,o2.same s4⟩)
inductive LF(K:Frag)(cW cU cL:Addr)(vs:LUz)(H:Hp)(Q:VK)(E:XK):Prop
 |mk (l:Addr) (xs:LUz) (t:Tr) (h0:vs=[.ref l]) (h1:SqL K H l xs) (h2:EnsAt H xs (AH t)) (h3:t.nd<=400) (h4:∀v' H',Same H H'->Obj cW cU cL H' t v'->Q v' H'):LF K cW cU cL vs H Q E
def JB(K:Frag)(cW cU cL:Addr) :Sp:=λ vs H Q E=>LF K cW cU cL vs H Q E
theorem L3:An ["entries","done","word","number","first","other"] ["entries"] (Ag Dz):=fsc
theorem O5{es:List En}{i:Nat}{e:En}(hi:i<es.length)(h:es[es.length-1-i]?=some e):es.drop (es.length-(i+1))=e::es.drop (es.length-i):=by
 have hk:es.length-1-i<es.length:=by lia
 rw[show es.length-(i+1)=es.length-1-i by lia,List.drop_eq_getElem_cons hk];rw[List.getElem?_eq_getElem hk]at h;rw[Option.some.inj h,show es.length-1-i+1=es.length-i by lia]
theorem JK{f:Addr}{fd:FuncData}(F:Fun K "tree_from" "tree_from" Dz f fd)(T:Txt mg tk)(R:RT mg K cT cW cU cL)(K_Whole:Kv P w K mg base 1 "Whole" cW ["self","mark"] (MV cW))(D_cut_from:Av P w K mg base 3 "cut_from" ["word","at","first","other"] (Cj cW cU cL)) :
  A8 P w K mg base CX0 4 f fd ["entries"] (JB K cW cU cL):=by
 have S:=L3;refine F.ok S (λ vs H Q E h=>?_) (λ cdv A outer s H vs Q E hr h=>?_)
 .obtain⟨l,xs,t,rfl,_⟩:=h;rfl
 .obtain⟨l,xs,t,rfl,hl,hen,hn,q⟩:=h;refine⟨_,(Ac (As (i:=1) S.nd rfl (Or.inl rfl) (AE Ab))
   (Ac (DD PassesOwn.never rfl (QP rfl T.z_reversed (Aa (pv 0) Ab)) (DE rfl (Ay (Aw (i:=2) S.nd rfl (Or.inl rfl)) (Ay (Aw (i:=3) S.nd rfl (Or.inl rfl)) B3))) (Af (A3 (Ao AZ (pv 2) (Ax (v:=.str "whole") rfl T.g_WHOLE ⟨_,rfl⟩) (Aq _)) (Af (Bt (DG PySem.F.plainAttrs_list PySem.F.slot_list_append PySem.F.type_list_append AX (pv 1) (Aa (IK K_Whole hr (Aa (pv 3) Ab)) Ab)))) (Ac (As (i:=4) S.nd rfl (Or.inl rfl) (Ez PySem.F.plainAttrs_list PySem.F.slot_list_pop PySem.F.type_list_pop E4 (pv 1)))
   (Ac (As (i:=5) S.nd rfl (Or.inl rfl) (Ez PySem.F.plainAttrs_list PySem.F.slot_list_pop PySem.F.type_list_pop E4 (pv 1)))
   (Af (Bt (DG PySem.F.plainAttrs_list PySem.F.slot_list_append PySem.F.type_list_append AX (pv 1) (Aa (Aj D_cut_from hr (Aa (pv 2) (Aa (pv 3) (Aa (pv 4) (Aa (pv 5) Ab))))) Ab)))))))))
   (Af (Ak (Ez PySem.F.plainAttrs_list PySem.F.slot_list_pop PySem.F.type_list_pop E4 (pv 1)))))),?_⟩
  refine⟨Ap 0,λ ld hld=>⟨_,rfl,l,xs,rfl,(Same.new hld).seq hl,?_⟩⟩;have hxl:=hen.len;have hel:=Cu t;refine Ru (K:=K) (a:=l) (xs:=xs) (λ i σ H'=>∃(ws:List (V×Tr))(x2 x3 x4 x5:Option V),σ=[some (.ref l),some (.ref ld),x2,x3,x4,x5]/\Same H H'/\H' ld=some (.lst (ws.map (·.1)))/\(∀p∈ws,Obj cW cU cL H' p.2 p.1)/\(AH t).drop ((AH t).length-i)=Cz ws)
   ⟨[],_,_,_,_,rfl,Same.new hld,upd_same,(λ p hp=>(nomatch hp)),by rw[Nat.sub_zero,List.drop_length];rfl⟩ (λ i σ H' _ hp=>let ⟨_,_,_,_,_,_,s,_⟩:=hp;s.seq hl) ?_ ?_
  .rintro i v σ H' hv hi ⟨ws,x2,x3,x4,x5,rfl,s1,hd,hob,heq⟩;obtain⟨e,a,he,rfl,ha⟩:=hen.get hv;have ha':=s1 _ _ ha;rw[hxl]at he hi;have hdr:=O5 hi he;have wl:ws.length<=400:=by
    have h1:=Ef ws;have h2:=CY ws;rw[<-heq,List.length_drop]at h2;lia
   cases e with
   |w m =>
    refine⟨a,_,rfl,SqT.of ha',rfl,_,_,rfl,_,_,rfl,rfl,?_⟩;refine⟨_,rfl,rfl,_,rfl,AQ (decide_eq_true rfl) ?_⟩;refine⟨_,rfl,.inl ⟨rfl,_,SqL.of hd⟩,_,rfl,λ x dx nx ndx nex=>⟨x,dx,_,rfl,upd_same,rfl,?_⟩⟩;have s2:Same H' (upd (upd (upd H' dx (.own x)) x (.ins cW dx [])) x (.ins cW dx (wF (AN m)))):=λ b o e=>by
     rw[Ah (Ae e nx)];exact Ce nx ndx b o e
    have e2:(upd (upd (upd H' dx (.own x)) x (.ins cW dx [])) x (.ins cW dx (wF (AN m)))) x=some (.ins cW dx (wF (AN m))):=upd_same;generalize upd (upd (upd H' dx (.own x)) x (.ins cW dx [])) x (.ins cW dx (wF (AN m)))=H2 at s2 e2 |-;have d2:=s2 _ _ hd;refine⟨ld,_,.ref x,rfl,rfl,d2,A0 (by rw[List.length_map];lia),?_⟩;have k3:Kp H2 (upd H2 ld (.lst (ws.map (·.1)++[.ref x]))):=Kp.put d2;refine⟨ws++[(.ref x,.whole m)],_,_,_,_,rfl,λ b o e=>?_,?_,λ p hp=>?_,?_⟩
    .rw[Ah (Ae e hld)];exact s2 b o (s1 b o e)
    .rw[upd_same,List.map_append];rfl
    .rcases List.mem_append.mp hp with hp|hp
     .exact((hob p hp).same s2).kp k3
     .rw[List.mem_singleton.mp hp,Obj];exact⟨x,dx,rfl,k3 _ _ e2 (by intro xs z;cases z)⟩
    .rw[hdr,heq,AU];rfl
   |c u k =>
    have big:2<=ws.length:=by
     have h1:=Jz t ((AH t).take ((AH t).length-(i+1))) ((AH t).drop ((AH t).length-(i+1))) (List.take_append_drop _ _).symm (by rw[hdr];intro z;cases z);rw[hdr,heq,Kw,Go]at h1;have:wt (.c u k)=-1:=rfl;lia
    obtain rfl|⟨ws1,p1,rfl⟩:=Ck ws
    .exact absurd big (by decide)
    obtain rfl|⟨ws2,p2,rfl⟩:=Ck ws1
    .exact absurd big (by simp)
    refine⟨a,_,rfl,SqT.of ha',rfl,_,_,rfl,_,_,rfl,rfl,?_⟩;refine⟨_,rfl,rfl,_,rfl,AO (BP u) ?_⟩;refine⟨_,rfl,.inl ⟨rfl,_,SqL.of hd⟩,ld,_,p1.1,rfl,rfl,hd,Hc,?_⟩;rw[Hv];have k2:Kp H' (upd H' ld (.lst ((ws2++[p2]).map (·.1)))):=Kp.put hd;have s2:Same H (upd H' ld (.lst ((ws2++[p2]).map (·.1)))):=λ b o e=>by rw[Ah (Ae e hld)];exact s1 b o e
    have d2:(upd H' ld (.lst ((ws2++[p2]).map (·.1)))) ld=some (.lst ((ws2++[p2]).map (·.1))):=upd_same;generalize upd H' ld (.lst ((ws2++[p2]).map (·.1)))=H2 at k2 s2 d2 |-;refine⟨_,rfl,.inl ⟨rfl,_,SqL.of d2⟩,ld,_,p2.1,rfl,rfl,d2,Hc,?_⟩;rw[Hv];have k3:Kp H2 (upd H2 ld (.lst (ws2.map (·.1)))):=Kp.put d2;have s3:Same H (upd H2 ld (.lst (ws2.map (·.1)))):=λ b o e=>by rw[Ah (Ae e hld)];exact s2 b o e
    have d3:(upd H2 ld (.lst (ws2.map (·.1)))) ld=some (.lst (ws2.map (·.1))):=upd_same;generalize upd H2 ld (.lst (ws2.map (·.1)))=H3 at k3 s3 d3 |-;have kk:=k2.trans k3;refine⟨_,rfl,.inl ⟨rfl,_,SqL.of d3⟩,_,rfl,_,rfl,_,rfl,_,rfl,u,k,p1.1,p2.1,p1.2,p2.2,rfl,(hob p1 (by simp)).kp kk,(hob p2 (by simp)).kp kk,λ v' H4 s4 o4=>?_⟩;have d4:=s4 _ _ d3;rw[List.length_append,List.length_append]at wl;refine⟨ld,_,v',rfl,rfl,d4,A0 (by rw[List.length_map];lia),?_⟩;have k5:Kp H4 (upd H4 ld (.lst (ws2.map (·.1)++[v']))):=Kp.put d4;refine⟨ws2++[(v',.cut u k p1.2 p2.2)],_,_,_,_,rfl,λ b o e=>?_,?_,λ p hp=>?_,?_⟩
    .rw[Ah (Ae e hld)];exact s4 b o (s3 b o e)
    .rw[upd_same,List.map_append];rfl
    .rcases List.mem_append.mp hp with hp|hp
     .exact((((hob p (by simp[hp])).kp kk).same s4)).kp k5
     .rw[List.mem_singleton.mp hp];exact o4.kp k5
    .rw[hdr,heq,AU,AU,AU];show .c u k::(AH p1.2++(AH p2.2++Cz ws2))=.c u k::(AH p1.2++AH p2.2)++Cz ws2;rw[List.cons_append,List.append_assoc]
  .rintro σ H' ⟨ws,x2,x3,x4,x5,rfl,s1,hd,hob,heq⟩;rw[hxl,Nat.sub_self,List.drop_zero]at heq;have one:ws.length=1:=by
    have h1:=CN t;rw[heq,Go]at h1;lia
   obtain⟨p,rfl⟩:∃p,ws=[p]:=by
    match ws,one with
    |[p],_=>exact⟨p,rfl⟩
   have hp:=hob p (by simp);have et:p.2=t:=by
    have h1:AH t++[]=AH p.2++[]:=by
     rw[List.append_nil,heq];rfl
    exact(Hq _ _ _ _ h1).1.symm
   refine⟨_,rfl,.inl ⟨rfl,_,SqL.of hd⟩,ld,_,p.1,rfl,rfl,hd,rfl,?_⟩;rw[et]at hp;exact q _ _ (λ b o e=>by rw[Ah (Ae e hld)];exact s1 b o e) (hp.kp (Kp.put hd))
abbrev Rk:=GB.Rc
abbrev Rk.vs(p:Rk):LUz:=[.int p.t,.int p.l,.int p.b,.int p.r]
def Rk.len(p:Rk)(u:Bool):Int:=if u then p.r-p.l else p.b-p.t
def Rk.fst(p:Rk)(u:Bool)(k:Int):Rk:=if u then ⟨p.t,p.l,p.b,p.l+k⟩ else ⟨p.t,p.l,p.t+k,p.r⟩
def Rk.oth(p:Rk)(u:Bool)(k:Int):Rk:=if u then ⟨p.t,p.l+k,p.b,p.r⟩ else ⟨p.t+k,p.l,p.b,p.r⟩
def Bk(p:Rk)(t:Tr):Prop:=Fit t (p.r-p.l) (p.b-p.t)
theorem fitR_cut{p:Rk}{u:Bool}{k:Int}{x y:Tr}:Bk p (.cut u k x y)↔(1<=k/\k<p.len u)/\Bk (p.fst u k) x/\Bk (p.oth u k) y:=by
 unfold Bk Rk.len Rk.fst Rk.oth;rw[Fit];cases u with
 |true =>
  show(1<=k/\k<p.r-p.l/\Fit x k (p.b-p.t)/\Fit y (p.r-p.l-k) (p.b-p.t))↔((1<=k/\k<p.r-p.l)/\Fit x (p.l+k-p.l) (p.b-p.t)/\Fit y (p.r-(p.l+k)) (p.b-p.t));rw[show p.l+k-p.l=k by lia,show p.r-(p.l+k)=p.r-p.l-k by lia];exact⟨λ⟨a,b,c,d⟩=>⟨⟨a,b⟩,c,d⟩,λ⟨⟨a,b⟩,c,d⟩=>⟨a,b,c,d⟩⟩
 |false =>
  show(1<=k/\k<p.b-p.t/\Fit x (p.r-p.l) k/\Fit y (p.r-p.l) (p.b-p.t-k))↔((1<=k/\k<p.b-p.t)/\Fit x (p.r-p.l) (p.t+k-p.t)/\Fit y (p.r-p.l) (p.b-(p.t+k)));rw[show p.t+k-p.t=k by lia,show p.b-(p.t+k)=p.b-p.t-k by lia];exact⟨λ⟨a,b,c,d⟩=>⟨⟨a,b⟩,c,d⟩,λ⟨⟨a,b⟩,c,d⟩=>⟨a,b,c,d⟩⟩
def B6:Tr->Int->Int->Option Int
 |.whole _,_,_=>none
 |.cut u k x y,w,h=>if u then (if 1<=k/\k<w then (B6 x k h).or (B6 y (w-k) h) else some k) else (if 1<=k/\k<h then (B6 x w k).or (B6 y w (h-k)) else some k)
theorem bad_none:∀{t:Tr}{w h:Int},B6 t w h=none↔Fit t w h
 |.whole _,w,h=>by rw[B6,Fit];exact⟨λ_=>trivial,λ_=>rfl⟩
 |.cut u k x y,w,h=>by
  rw[B6,Fit];cases u with
  |true =>
   simp only[if_true];by_cases c:1<=k/\k<w
   .rw[if_pos c,Option.or_eq_none_iff,bad_none,bad_none];exact⟨λ⟨a,b⟩=>⟨c.1,c.2,a,b⟩,λ⟨_,_,a,b⟩=>⟨a,b⟩⟩
   .rw[if_neg c];exact⟨λ z=>(nomatch z),λ⟨a,b,_⟩=>absurd ⟨a,b⟩ c⟩
  |false =>
   simp only[Bool.false_eq_true,if_false];by_cases c:1<=k/\k<h
   .rw[if_pos c,Option.or_eq_none_iff,bad_none,bad_none];exact⟨λ⟨a,b⟩=>⟨c.1,c.2,a,b⟩,λ⟨_,_,a,b⟩=>⟨a,b⟩⟩
   .rw[if_neg c];exact⟨λ z=>(nomatch z),λ⟨a,b,_⟩=>absurd ⟨a,b⟩ c⟩
def OG(p:Rk)(t:Tr):Option Int:=B6 t (p.r-p.l) (p.b-p.t)
theorem Qo{p:Rk}{u:Bool}{k:Int}{x y:Tr}:OG p (.cut u k x y)=if 1<=k/\k<p.len u then (OG (p.fst u k) x).or (OG (p.oth u k) y) else some k:=by
 unfold OG Rk.len Rk.fst Rk.oth;rw[B6];cases u with
 |true =>
  show(if 1<=k/\k<p.r-p.l then (B6 x k (p.b-p.t)).or (B6 y (p.r-p.l-k) (p.b-p.t)) else some k)=(if 1<=k/\k<p.r-p.l then (B6 x (p.l+k-p.l) (p.b-p.t)).or (B6 y (p.r-(p.l+k)) (p.b-p.t)) else some k);rw[show p.l+k-p.l=k by lia,show p.r-(p.l+k)=p.r-p.l-k by lia]
 |false =>
  show(if 1<=k/\k<p.b-p.t then (B6 x (p.r-p.l) k).or (B6 y (p.r-p.l) (p.b-p.t-k)) else some k)=(if 1<=k/\k<p.b-p.t then (B6 x (p.r-p.l) (p.t+k-p.t)).or (B6 y (p.r-p.l) (p.b-(p.t+k))) else some k);rw[show p.t+k-p.t=k by lia,show p.b-(p.t+k)=p.b-p.t-k by lia]
def Az:Tr->Rk->List (Rk×Option Int)
 |.whole m,p=>[(p,m)]
 |.cut u k x y,p=>Az x (p.fst u k)++Az y (p.oth u k)
theorem AC:∀(t:Tr)(p:Rk),(Az t p).length=t.sz
 |.whole _,_=>rfl
 |.cut u k x y,p=>by rw[Az,List.length_append,AC x,AC y];rfl
theorem MS:∀t:Tr,t.sz<=t.nd
 |.whole _=>Nat.le_refl _
 |.cut _ _ x y=>by
  have:=MS x;have:=MS y;rw[Tr.sz,Tr.nd];lia
theorem BN:∀{t:Tr}{p:Rk},p.t<p.b->p.l<p.r->Bk p t->∀g∈Az t p,p.t<=g.1.t/\g.1.t<g.1.b/\g.1.b<=p.b/\p.l<=g.1.l/\g.1.l<g.1.r/\g.1.r<=p.r
 |.whole m,p,h1,h2,_,g,hg=>by
  rw[Az]at hg;rw[List.mem_singleton.mp hg];exact⟨Int.le_refl _,h1,Int.le_refl _,Int.le_refl _,h2,Int.le_refl _⟩
 |.cut u k x y,p,h1,h2,f,g,hg=>by
  rw[fitR_cut]at f;obtain⟨⟨a,b⟩,fx,fy⟩:=f;rw[Az,List.mem_append]at hg;cases u with
  |true =>
   have b:k<p.r-p.l:=b;rcases hg with hg|hg
   .have:=BN (p:=p.fst true k) h1 (show p.l<p.l+k by lia) fx g hg;have:p.t<=g.1.t/\g.1.t<g.1.b/\g.1.b<=p.b/\p.l<=g.1.l/\g.1.l<g.1.r/\g.1.r<=p.l+k:=this;lia
   .have:=BN (p:=p.oth true k) h1 (show p.l+k<p.r by lia) fy g hg;have:p.t<=g.1.t/\g.1.t<g.1.b/\g.1.b<=p.b/\p.l+k<=g.1.l/\g.1.l<g.1.r/\g.1.r<=p.r:=this;lia
  |false =>
   have b:k<p.b-p.t:=b;rcases hg with hg|hg
   .have:=BN (p:=p.fst false k) (show p.t<p.t+k by lia) h2 fx g hg;have:p.t<=g.1.t/\g.1.t<g.1.b/\g.1.b<=p.t+k/\p.l<=g.1.l/\g.1.l<g.1.r/\g.1.r<=p.r:=this;lia
   .have:=BN (p:=p.oth false k) (show p.t+k<p.b by lia) h2 fy g hg;have:p.t+k<=g.1.t/\g.1.t<g.1.b/\g.1.b<=p.b/\p.l<=g.1.l/\g.1.l<g.1.r/\g.1.r<=p.r:=this;lia
theorem Fy:∀{t:Tr}{p:Rk},p.t<p.b->p.l<p.r->Bk p t->∀g∈Az t p,∀h∈Az t p,g.1=h.1->g=h
 |.whole m,p,_,_,_,g,hg,h,hh,_=>by
  rw[Az]at hg hh;rw[List.mem_singleton.mp hg,List.mem_singleton.mp hh]
 |.cut u k x y,p,h1,h2,f,g,hg,h,hh,e=>by
  rw[fitR_cut]at f;obtain⟨⟨a,b⟩,fx,fy⟩:=f;rw[Az,List.mem_append]at hg hh;obtain⟨⟨a1,a2⟩,b1,b2⟩:((p.fst u k).t<(p.fst u k).b/\(p.fst u k).l<(p.fst u k).r)/\(p.oth u k).t<(p.oth u k).b/\(p.oth u k).l<(p.oth u k).r:=by
   cases u with
   |true =>
    have b:k<p.r-p.l:=b;exact⟨⟨h1,show p.l<p.l+k by lia⟩,h1,show p.l+k<p.r by lia⟩
   |false =>
    have b:k<p.b-p.t:=b;exact⟨⟨show p.t<p.t+k by lia,h2⟩,show p.t+k<p.b by lia,h2⟩
  have mix:∀g∈Az x (p.fst u k),∀h∈Az y (p.oth u k),g.1=h.1->False:=λ g hg h hh e=>by
   have i1:=BN a1 a2 fx g hg;have i2:=BN b1 b2 fy h hh;rw[<-e]at i2;cases u with
   |true =>
    have i1:p.t<=g.1.t/\g.1.t<g.1.b/\g.1.b<=p.b/\p.l<=g.1.l/\g.1.l<g.1.r/\g.1.r<=p.l+k:=i1;have i2:p.t<=g.1.t/\g.1.t<g.1.b/\g.1.b<=p.b/\p.l+k<=g.1.l/\g.1.l<g.1.r/\g.1.r<=p.r:=i2;lia
   |false =>
    have i1:p.t<=g.1.t/\g.1.t<g.1.b/\g.1.b<=p.t+k/\p.l<=g.1.l/\g.1.l<g.1.r/\g.1.r<=p.r:=i1;have i2:p.t+k<=g.1.t/\g.1.t<g.1.b/\g.1.b<=p.b/\p.l<=g.1.l/\g.1.l<g.1.r/\g.1.r<=p.r:=i2;lia
  rcases hg with hg|hg
  .rcases hh with hh|hh
   .exact Fy a1 a2 fx g hg h hh e
   .exact(mix g hg h hh e).elim
  .rcases hh with hh|hh
   .exact(mix h hh g hg e.symm).elim
   .exact Fy b1 b2 fy g hg h hh e
def Due(t:Tr)(ww hh:Int)(L:List (Rk×Option Int)):Prop:=L.Perm (Az t ⟨0,0,hh,ww⟩)/\(L.map λ g=>GB.key g.1.ls).Pairwise (·<=·)
theorem M1{t:Tr}{ww hh:Int}(f:Fit t ww hh):Bk ⟨0,0,hh,ww⟩ t:=by
 show Fit t (ww-0) (hh-0);rw[Int.sub_zero,Int.sub_zero];exact f
theorem Gh{t:Tr}{ww hh:Int}(w1:1<=ww)(h1:1<=hh)(f:Fit t ww hh):∀g∈Az t ⟨0,0,hh,ww⟩,GB.Rc.In ww hh g.1:=λ g hg=>by
 have:0<=g.1.t/\g.1.t<g.1.b/\g.1.b<=hh/\0<=g.1.l/\g.1.l<g.1.r/\g.1.r<=ww:=BN (p:=⟨0,0,hh,ww⟩) (show(0:Int)<hh by lia) (show(0:Int)<ww by lia) (M1 f) g hg;exact⟨this.1,this.2.1,this.2.2.1,this.2.2.2.1,this.2.2.2.2.1,this.2.2.2.2.2⟩
theorem Qc{t:Tr}{ww hh:Int}(w1:1<=ww)(w2:ww<=12)(h1:1<=hh)(h2:hh<=12)(f:Fit t ww hh){L M:List (Rk×Option Int)}(a:Due t ww hh L)(b:Due t ww hh M):L=M:=by
 have inn:=Gh w1 h1 f;have e:L.Perm M:=a.1.trans b.1.symm;have hm:=GB.sorted_same (ps:=L.map (·.1)) (qs:=M.map (·.1)) (w:=ww) (h:=hh) (λ p hp=>by obtain⟨g,hg,rfl⟩:=List.mem_map.mp hp;exact inn g (a.1.mem_iff.mp hg)) w2 h2 (e.map _) (by unfold GB.Srt;rw[List.map_map];exact a.2) (by unfold GB.Srt;rw[List.map_map];exact b.2);apply List.ext_getElem e.length_eq;intro i h1' h2';have:=congrArg (λ l=>l[i]?) hm;simp only[List.getElem?_map,List.getElem?_eq_getElem h1',List.getElem?_eq_getElem h2',Option.map_some,Option.some.injEq]at this;exact Fy (p:=⟨0,0,hh,ww⟩) (show(0:Int)<hh by lia) (show(0:Int)<ww by lia) (M1 f) _ (a.1.mem_iff.mp (List.getElem_mem h1')) _ (b.1.mem_iff.mp (List.getElem_mem h2')) this
theorem Due.len{t:Tr}{ww hh:Int}{L:List (Rk×Option Int)}(h:Due t ww hh L):L.length=t.sz:=by rw[h.1.length_eq,AC]
abbrev PT:=Addr×Addr×Rk×Option Int
abbrev pcs(ts:List PT):LUz:=ts.map λ t=>V.ref t.1
abbrev cons(ts:List PT):List (Rk×Option Int):=ts.map λ t=>t.2.2
def PcO(H:Hp)(ts:List PT):Prop:=∀t∈ts,H t.1=some (.tup [.ref t.2.1,AN t.2.2.2])/\H t.2.1=some (.tup t.2.2.1.vs)
theorem PcO.same{H H':Hp}{ts:List PT}(s:Same H H')(h:PcO H ts):PcO H' ts:=λ t ht=>⟨s _ _ (h t ht).1,s _ _ (h t ht).2⟩
theorem PcO.n{H H':Hp}{ts:List PT}(s:SameN H H')(h:PcO H ts):PcO H' ts:=λ t ht=>⟨s.tup (h t ht).1,s.tup (h t ht).2⟩
theorem PcO.perm{H:Hp}{ts us:List PT}(h:PcO H ts)(e:us.Perm ts):PcO H us:=λ t ht=>h t (e.mem_iff.mp ht)
theorem Mu{α:Type}{us:List α}(h:us.length=1):∃a,us=[a]:=List.length_eq_one_iff.mp h
theorem Mt{α:Type}{us:List α}(h:us.length=2):∃a b,us=[a,b]:=by
 cases us with
 |nil=>cases h
 |cons a r=>obtain⟨b,rfl⟩:=Mu (Nat.succ.inj h);exact⟨a,b,rfl⟩
inductive NM(vs:LUz)(H:Hp)(Q:VK)(E:XK):Prop
 |mk (a:Addr) (p:Rk) (u:Bool) (k:Int) (h0:vs=[.ref a,.str (wd u),.int k]) (h1:H a=some (.tup p.vs)) (h2:∀x,H x=none->Q (.ref x) (upd H x (.tup (p.fst u k).vs))):NM vs H Q E
def LU:Sp:=λ vs H Q E=>NM vs H Q E
inductive NF(vs:LUz)(H:Hp)(Q:VK)(E:XK):Prop
 |mk (a:Addr) (p:Rk) (u:Bool) (k:Int) (h0:vs=[.ref a,.str (wd u),.int k]) (h1:H a=some (.tup p.vs)) (h2:∀x,H x=none->Q (.ref x) (upd H x (.tup (p.oth u k).vs))):NF vs H Q E
def LQ:Sp:=λ vs H Q E=>NF vs H Q E
theorem Ir:An ["piece","word","at"] ["piece","word","at"] (Ag CB):=fsc
theorem GP{f:Addr}{fd:FuncData}(F:Fun K "first_piece" "first_piece" CB f fd)(T:Txt mg tk):A8 P w K mg base CX0 1 f fd ["piece","word","at"] LU:=by
 have S:=Ir;refine F.ok S (λ vs H Q E h=>?_) (λ cdv A outer s H vs Q E hr h=>?_)
 .obtain⟨a,p,u,k,rfl,_⟩:=h;rfl
 .obtain⟨a,p,u,k,rfl,ha,q⟩:=h;refine⟨_,(Ac (A3 (Ao AZ (pv 1) (Ax (v:=.str "upright") rfl T.g_UPRIGHT ⟨_,rfl⟩) (Aq _)) (Af (Ak (At (Aa (Al Am (pv 0) Ad (λ_ _=>rfl)) (Aa (Al Am (pv 0) Ad (λ_ _=>rfl)) (Aa (Al Am (pv 0) Ad (λ_ _=>rfl)) (Aa (Au AW (Al Am (pv 0) Ad (λ_ _=>rfl)) (pv 2)) Ab))))))) Ar)
   (Af (Ak (At (Aa (Al Am (pv 0) Ad (λ_ _=>rfl)) (Aa (Al Am (pv 0) Ad (λ_ _=>rfl)) (Aa (Au AW (Al Am (pv 0) Ad (λ_ _=>rfl)) (pv 2)) (Aa (Al Am (pv 0) Ad (λ_ _=>rfl)) Ab)))))))),?_⟩
  cases u with
  |true=>exact⟨_,rfl,rfl,_,rfl,AQ (Bn true true) ⟨_,rfl,a,_,_,_,rfl,rfl,SqT.of ha,at0,_,rfl,a,_,_,_,rfl,rfl,SqT.of ha,at1,_,rfl,a,_,_,_,rfl,rfl,SqT.of ha,at2,_,rfl,a,_,_,_,rfl,rfl,SqT.of ha,at1,_,rfl,_,_,rfl,rfl,Ap 4,q⟩⟩
  |false=>exact⟨_,rfl,rfl,_,rfl,AO (Bn false true) ⟨_,rfl,a,_,_,_,rfl,rfl,SqT.of ha,at0,_,rfl,a,_,_,_,rfl,rfl,SqT.of ha,at1,_,rfl,a,_,_,_,rfl,rfl,SqT.of ha,at0,_,rfl,_,_,rfl,rfl,_,rfl,a,_,_,_,rfl,rfl,SqT.of ha,at3,Ap 4,q⟩⟩
theorem Im:An ["piece","word","at"] ["piece","word","at"] (Ag C8):=fsc
theorem GL{f:Addr}{fd:FuncData}(F:Fun K "other_piece" "other_piece" C8 f fd)(T:Txt mg tk):A8 P w K mg base CX0 1 f fd ["piece","word","at"] LQ:=by
 have S:=Im;refine F.ok S (λ vs H Q E h=>?_) (λ cdv A outer s H vs Q E hr h=>?_)
 .obtain⟨a,p,u,k,rfl,_⟩:=h;rfl
 .obtain⟨a,p,u,k,rfl,ha,q⟩:=h;refine⟨_,(Ac (A3 (Ao AZ (pv 1) (Ax (v:=.str "upright") rfl T.g_UPRIGHT ⟨_,rfl⟩) (Aq _)) (Af (Ak (At (Aa (Al Am (pv 0) Ad (λ_ _=>rfl)) (Aa (Au AW (Al Am (pv 0) Ad (λ_ _=>rfl)) (pv 2)) (Aa (Al Am (pv 0) Ad (λ_ _=>rfl)) (Aa (Al Am (pv 0) Ad (λ_ _=>rfl)) Ab))))))) Ar)
   (Af (Ak (At (Aa (Au AW (Al Am (pv 0) Ad (λ_ _=>rfl)) (pv 2)) (Aa (Al Am (pv 0) Ad (λ_ _=>rfl)) (Aa (Al Am (pv 0) Ad (λ_ _=>rfl)) (Aa (Al Am (pv 0) Ad (λ_ _=>rfl)) Ab)))))))),?_⟩
  cases u with
  |true=>exact⟨_,rfl,rfl,_,rfl,AQ (Bn true true) ⟨_,rfl,a,_,_,_,rfl,rfl,SqT.of ha,at0,_,rfl,a,_,_,_,rfl,rfl,SqT.of ha,at1,_,rfl,_,_,rfl,rfl,_,rfl,a,_,_,_,rfl,rfl,SqT.of ha,at2,_,rfl,a,_,_,_,rfl,rfl,SqT.of ha,at3,Ap 4,q⟩⟩
  |false=>exact⟨_,rfl,rfl,_,rfl,AO (Bn false true) ⟨_,rfl,a,_,_,_,rfl,rfl,SqT.of ha,at0,_,rfl,_,_,rfl,rfl,_,rfl,a,_,_,_,rfl,rfl,SqT.of ha,at1,_,rfl,a,_,_,_,rfl,rfl,SqT.of ha,at2,_,rfl,a,_,_,_,rfl,rfl,SqT.of ha,at3,Ap 4,q⟩⟩
def PsAt(H:Hp)(ws:List (Addr×Rk×Tr)):Prop:=∀p∈ws,H p.1=some (.tup p.2.1.vs)
abbrev trs(ws:List (Addr×Rk×Tr)):List (V×Tr):=ws.map λ p=>(V.ref p.1,p.2.2)
abbrev AJ(ws:List (Addr×Rk×Tr)):LUz:=ws.map λ p=>V.ref p.1
theorem PsAt.kp{H H':Hp}{ws:List (Addr×Rk×Tr)}(h:PsAt H ws)(k:Kp H H'):PsAt H' ws:=λ p hp=>k _ _ (h p hp) (by intro xs z;cases z)
theorem Fv{ws0:List (Addr×Rk×Tr)}{p:Addr×Rk×Tr}:(AJ (ws0++[p]))[(AJ (ws0++[p])).length-1]?=some (.ref p.1):=by
 rw[List.length_map,List.length_append,List.length_singleton,Nat.add_sub_cancel,List.getElem?_map,List.getElem?_append_right (Nat.le_refl _),Nat.sub_self];rfl
theorem F2{ws0:List (Addr×Rk×Tr)}{p:Addr×Rk×Tr}:(AJ (ws0++[p])).dropLast=AJ ws0:=by
 show(List.map (λ p=>V.ref p.1) (ws0++[p])).dropLast=_;rw[List.map_append,List.map_singleton,List.dropLast_concat]
theorem Bo(ws:List (Addr×Rk×Tr))(p:Addr×Rk×Tr):trs (ws++[p])=trs ws++[(V.ref p.1,p.2.2)]:=by
 show List.map (λ p=>(V.ref p.1,p.2.2)) (ws++[p])=_;rw[List.map_append];rfl
theorem DT(ws:List (Addr×Rk×Tr))(p:Addr×Rk×Tr):AJ (ws++[p])=AJ ws++[V.ref p.1]:=by
 show List.map (λ p=>V.ref p.1) (ws++[p])=_;rw[List.map_append];rfl
theorem PcO.kp{H H':Hp}{ts:List PT}(h:PcO H ts)(k:Kp H H'):PcO H' ts:=λ t ht=>⟨k _ _ (h t ht).1 (by intro xs z;cases z),k _ _ (h t ht).2 (by intro xs z;cases z)⟩
theorem GI(ts:List PT)(t:PT):pcs (ts++[t])=pcs ts++[V.ref t.1]:=by
 show List.map (λ p=>V.ref p.1) (ts++[t])=_;rw[List.map_append];rfl
theorem F5(ts:List PT)(t:PT):cons (ts++[t])=cons ts++[t.2.2]:=by
 show List.map (λ p=>p.2.2) (ts++[t])=_;rw[List.map_append];rfl
def PU(ws:List (Addr×Rk×Tr)):List (Rk×Option Int):=ws.reverse.flatMap λ p=>Az p.2.2 p.2.1
theorem Eb(ws:List (Addr×Rk×Tr))(p:Addr×Rk×Tr):PU (ws++[p])=Az p.2.2 p.2.1++PU ws:=by
 unfold PU;rw[List.reverse_append,List.reverse_singleton,List.singleton_append,List.flatMap_cons]
def Rh:Expr:=match (A7 Bp).getD 1 (.Pass ⟨0,0,0,0⟩) with
 |.Return (some (.Call _ _ [k] _)) _=>k.value
 |_=>.Constant .none 0 ⟨0,0,0,0⟩
def TF:Arguments:=match Rh with|.Lambda p _ _ _=>p|_=>Bh Bp
def SB:Expr:=match Rh with|.Lambda _ b _ _=>b|e=>e
def Re:Scope:=match Rh with|.Lambda _ _ s _=>s|_=>Ag Bp
def Rg:Pos:=match Rh with|.Lambda _ _ _ q=>q|_=>⟨0,0,0,0⟩
def Ov:Str:="pieces.<locals>.<lambda>"
theorem Ud:An ["piece"] ["piece"] Re:=fsc
def Qw(H:Hp)(l:Addr):Prop:=∀o,H l=some o->∃ps,o=.tbl ps
theorem S9{H H':Hp}{l:Addr}(s:SameN H H')(h:H' l=none):Qw H l:=λ o e=>Classical.byContradiction λ z=>by
 have:=s l o e (λ ps e'=>z ⟨ps,e'⟩);rw[h]at this;cases this
theorem Told.n{H H':Hp}(s:SameN H H'):∀{t:Tr}{v:V},Told H t v->Told H' t v
 |.whole m,v,h=>by
  rw[Told]at h |-;obtain⟨a,e,h⟩:=h;exact⟨a,e,s.tup h⟩
 |.cut u k x y,v,h=>by
  rw[Told]at h |-;obtain⟨a,vx,vy,e,h,h1,h2⟩:=h;exact⟨a,vx,vy,e,s.tup h,Told.n s h1,Told.n s h2⟩
theorem Obj.n{H H':Hp}(s:SameN H H'):∀{t:Tr}{v:V},Obj cW cU cL H t v->Obj cW cU cL H' t v
 |.whole m,v,h=>by
  rw[Obj]at h |-;obtain⟨a,dx,e,h⟩:=h;exact⟨a,dx,e,s _ _ h λ_ z=>nomatch z⟩
 |.cut u k x y,v,h=>by
  rw[Obj]at h |-;obtain⟨a,dx,vx,vy,e,h,h1,h2⟩:=h;exact⟨a,dx,vx,vy,e,s _ _ h (λ_ z=>nomatch z),Obj.n s h1,Obj.n s h2⟩
def Rk.lo(p:Rk)(u:Bool):Int:=if u then p.l else p.t
def Rk.hi(p:Rk)(u:Bool):Int:=if u then p.r else p.b
theorem B9{p:Rk}{u:Bool}:p.len u=p.hi u-p.lo u:=by cases u<;>rfl
theorem Nf{p:Rk}{u:Bool}{k a:Int}:(p.fst u k).fst u a=p.fst u a:=by cases u<;>rfl
theorem Nd{p:Rk}{u:Bool}{k a:Int}:(p.fst u k).oth u a=(p.oth u a).fst u (k-a):=by
 cases u
 .show(⟨p.t+a,p.l,p.t+k,p.r⟩:Rk)=⟨p.t+a,p.l,p.t+a+(k-a),p.r⟩;rw[show p.t+a+(k-a)=p.t+k by lia]
 .show(⟨p.t,p.l+a,p.b,p.l+k⟩:Rk)=⟨p.t,p.l+a,p.b,p.l+a+(k-a)⟩;rw[show p.l+a+(k-a)=p.l+k by lia]
theorem Nc{p:Rk}{u:Bool}{k a:Int}:(p.oth u a).oth u (k-a)=p.oth u k:=by
 cases u
 .show(⟨p.t+a+(k-a),p.l,p.b,p.r⟩:Rk)=⟨p.t+k,p.l,p.b,p.r⟩;rw[show p.t+a+(k-a)=p.t+k by lia]
 .show(⟨p.t,p.l+a+(k-a),p.b,p.r⟩:Rk)=⟨p.t,p.l+k,p.b,p.r⟩;rw[show p.l+a+(k-a)=p.l+k by lia]
theorem Sv{p:Rk}{u v:Bool}{k a:Int}(h:¬v=u):(p.fst v k).fst u a=(p.fst u a).fst v k/\(p.fst v k).oth u a=(p.oth u a).fst v k/\(p.oth v k).fst u a=(p.fst u a).oth v k/\(p.oth v k).oth u a=(p.oth u a).oth v k/\(p.fst v k).len u=p.len u/\(p.oth v k).len u=p.len u/\(p.fst v k).lo u=p.lo u/\(p.oth v k).lo u=p.lo u/\(p.fst u a).len v=p.len v/\(p.oth u a).len v=p.len v:=by
 cases u<;>cases v<;>first|exact absurd rfl h|exact⟨rfl,rfl,rfl,rfl,rfl,rfl,rfl,rfl,rfl,rfl⟩
theorem Pk{p:Rk}{u:Bool}{k:Int}:(p.fst u k).len u=k/\(p.oth u k).len u=p.len u-k/\(p.fst u k).lo u=p.lo u/\(p.oth u k).lo u=p.lo u+k/\(p.fst u k).hi u=p.lo u+k:=by
 cases u
 .exact⟨show p.t+k-p.t=k by lia,show p.b-(p.t+k)=p.b-p.t-k by lia,rfl,rfl,rfl⟩
 .exact⟨show p.l+k-p.l=k by lia,show p.r-(p.l+k)=p.r-p.l-k by lia,rfl,rfl,rfl⟩
abbrev Rk.ok(p:Rk):Prop:=p.t<p.b/\p.l<p.r
theorem DA{p:Rk}{u:Bool}{k:Int}(h:p.ok)(a:1<=k)(b:k<p.len u):(p.fst u k).ok/\(p.oth u k).ok:=by
 cases u with
 |true =>
  have b:k<p.r-p.l:=b;exact⟨⟨h.1,show p.l<p.l+k by lia⟩,h.1,show p.l+k<p.r by lia⟩
 |false =>
  have b:k<p.b-p.t:=b;exact⟨⟨show p.t<p.t+k by lia,h.2⟩,show p.t+k<p.b by lia,h.2⟩
def Thr:Tr->Bool->Int->Prop
 |.whole _,_,_=>False
 |.cut v k x y,u,a=>if v=u then (if a<k then Thr x u a else if k<a then Thr y u (a-k) else True) else Thr x u a/\Thr y u a
def ahd:Tr->Bool->Int->Tr
 |.whole m,_,_=>.whole m
 |.cut v k x y,u,a=>if v=u then (if a<k then ahd x u a else if k<a then .cut v k x (ahd y u (a-k)) else x) else .cut v k (ahd x u a) (ahd y u a)
def bhd:Tr->Bool->Int->Tr
 |.whole m,_,_=>.whole m
 |.cut v k x y,u,a=>if v=u then (if a<k then .cut v (k-a) (bhd x u a) y else if k<a then bhd y u (a-k) else y) else .cut v k (bhd x u a) (bhd y u a)
theorem C7:∀t:Tr,1<=t.sz
 |.whole _=>Nat.le_refl _
 |.cut _ _ x y=>by
  have:=C7 x;rw[Tr.sz];lia
theorem CZ:∀{t:Tr}{p:Rk}{u:Bool}{a:Int},Bk p t->Thr t u a->(1<=a/\a<p.len u)->Bk (p.fst u a) (ahd t u a)/\Bk (p.oth u a) (bhd t u a)
 |.whole _,p,u,a,_,h,_=>h.elim
 |.cut v k x y,p,u,a,f,h,⟨a1,a2⟩=>by
  rw[fitR_cut]at f;obtain⟨⟨k1,k2⟩,fx,fy⟩:=f;rw[Thr]at h;rw[ahd,bhd];by_cases e:v=u
  .subst e;rw[if_pos rfl]at h;rw[if_pos rfl,if_pos rfl];obtain⟨s1,s2,_,_,_⟩:=Pk (p:=p) (u:=v) (k:=k);by_cases c:a<k
   .rw[if_pos c]at h;rw[if_pos c,if_pos c,fitR_cut];obtain⟨i1,i2⟩:=CZ fx h ⟨a1,by rw[s1];exact c⟩;rw[Nf]at i1;rw[Nd]at i2;refine⟨i1,⟨by lia,?_⟩,i2,by rw[Nc];exact fy⟩;have:=(Pk (p:=p) (u:=v) (k:=a)).2.1;lia
   .rw[if_neg c]at h;rw[if_neg c,if_neg c];by_cases c2:k<a
    .rw[if_pos c2]at h;rw[if_pos c2,if_pos c2,fitR_cut];obtain⟨i1,i2⟩:=CZ fy h ⟨by lia,by rw[s2];lia⟩;rw[<-Nd]at i1;rw[Nc]at i2;refine⟨⟨⟨k1,?_⟩,by rw[Nf];exact fx,i1⟩,i2⟩;have:=(Pk (p:=p) (u:=v) (k:=a)).1;lia
    .rw[if_neg c2,if_neg c2];have:a=k:=by lia
     rw[this];exact⟨fx,fy⟩
  .rw[if_neg e]at h;rw[if_neg e,if_neg e,fitR_cut,fitR_cut];obtain⟨e1,e2,e3,e4,e5,e6,_,_,e9,e10⟩:=Sv (p:=p) (u:=u) (v:=v) (k:=k) (a:=a) e;obtain⟨i1,i2⟩:=CZ fx h.1 ⟨a1,by rw[e5];exact a2⟩;obtain⟨j1,j2⟩:=CZ fy h.2 ⟨a1,by rw[e6];exact a2⟩;rw[e1]at i1;rw[e2]at i2;rw[e3]at j1;rw[e4]at j2;exact⟨⟨⟨k1,by rw[e9];exact k2⟩,i1,j1⟩,⟨k1,by rw[e10];exact k2⟩,i2,j2⟩
theorem Tx{α:Type}{A B C D:List α}:((A++B)++(C++D)).Perm ((A++C)++(B++D)):=by
 rw[List.append_assoc,List.append_assoc];refine List.Perm.append_left A ?_;rw[<-List.append_assoc,<-List.append_assoc];exact List.Perm.append_right D List.perm_append_comm
theorem BU:∀{t:Tr}{p:Rk}{u:Bool}{a:Int},Thr t u a->(Az t p).Perm (Az (ahd t u a) (p.fst u a)++Az (bhd t u a) (p.oth u a))
 |.whole _,p,u,a,h=>h.elim
 |.cut v k x y,p,u,a,h=>by
  rw[Thr]at h;rw[ahd,bhd];by_cases e:v=u
  .subst e;rw[if_pos rfl]at h;rw[if_pos rfl,if_pos rfl];by_cases c:a<k
   .rw[if_pos c]at h;rw[if_pos c,if_pos c,Az,Az,Nc,<-Nd,<-List.append_assoc];have:=BU (p:=p.fst v k) h;rw[Nf]at this;exact this.append_right _
   .rw[if_neg c]at h;rw[if_neg c,if_neg c];by_cases c2:k<a
    .rw[if_pos c2]at h;rw[if_pos c2,if_pos c2,Az,Az,Nf,Nd,List.append_assoc];have:=BU (p:=p.oth v k) h;rw[Nc]at this;exact this.append_left _
    .rw[if_neg c2,if_neg c2];have:a=k:=by lia
     rw[this,Az]
  .rw[if_neg e]at h;rw[if_neg e,if_neg e,Az,Az,Az];obtain⟨e1,e2,e3,e4,_⟩:=Sv (p:=p) (u:=u) (v:=v) (k:=k) (a:=a) e;have i:=BU (p:=p.fst v k) h.1;have j:=BU (p:=p.oth v k) h.2;rw[e1,e2]at i;rw[e3,e4]at j;exact(i.append j).trans Tx
def brk(u:Bool)(line:Int)(g:Rk×Option Int):Prop:=g.1.lo u<line/\line<g.1.hi u
theorem Gu:∀{t:Tr}{p:Rk}{u:Bool}{a:Int},Bk p t->1<=a->a<p.len u->(∀g∈Az t p,¬brk u (p.lo u+a) g)->Thr t u a
 |.whole m,p,u,a,_,h1,h2,h=>by
  rw[Az]at h;rw[B9]at h2;exact absurd (show p.lo u<p.lo u+a/\p.lo u+a<p.hi u by lia) (h (p,m) (List.mem_singleton.mpr rfl))
 |.cut v k x y,p,u,a,f,h1,h2,h=>by
  rw[fitR_cut]at f;obtain⟨⟨k1,k2⟩,fx,fy⟩:=f;rw[Az]at h;rw[Thr];by_cases e:v=u
  .subst e;rw[if_pos rfl];obtain⟨s1,s2,s3,s4,_⟩:=Pk (p:=p) (u:=v) (k:=k);by_cases c:a<k
   .rw[if_pos c];exact Gu fx h1 (by rw[s1];exact c) λ g hg=>by rw[s3];exact h g (List.mem_append.mpr (.inl hg))
   .rw[if_neg c];by_cases c2:k<a
    .rw[if_pos c2];exact Gu fy (by lia) (by rw[s2];lia) λ g hg=>by rw[s4,show p.lo v+k+(a-k)=p.lo v+a by lia];exact h g (List.mem_append.mpr (.inr hg))
    .rw[if_neg c2];trivial
  .rw[if_neg e];obtain⟨_,_,_,_,e5,e6,e7,e8,_⟩:=Sv (p:=p) (u:=u) (v:=v) (k:=k) (a:=a) e;exact⟨Gu fx h1 (by rw[e5];exact h2) λ g hg=>by rw[e7];exact h g (List.mem_append.mpr (.inl hg)),Gu fy h1 (by rw[e6];exact h2) λ g hg=>by rw[e8];exact h g (List.mem_append.mpr (.inr hg))⟩
theorem Fz{t:Tr}{p:Rk}(h:p.ok)(f:Bk p t){g:Rk×Option Int}(hg:g∈Az t p)(u:Bool):p.lo u<=g.1.lo u/\g.1.lo u<g.1.hi u/\g.1.hi u<=p.hi u:=by
 have:=BN h.1 h.2 f g hg;cases u
 .exact⟨this.1,this.2.1,this.2.2.1⟩
 .exact⟨this.2.2.2.1,this.2.2.2.2.1,this.2.2.2.2.2⟩
theorem Cs{x y:Tr}{p:Rk}{u:Bool}{k:Int}(h:p.ok)(k1:1<=k)(k2:k<p.len u)(fx:Bk (p.fst u k) x)(fy:Bk (p.oth u k) y) :
  ((Az x (p.fst u k)++Az y (p.oth u k)).filter λ g=>decide (g.1.lo u<p.lo u+k))=Az x (p.fst u k)/\((Az x (p.fst u k)++Az y (p.oth u k)).filter λ g=>decide (p.lo u+k<=g.1.lo u))=Az y (p.oth u k)/\∀g∈Az x (p.fst u k)++Az y (p.oth u k),¬brk u (p.lo u+k) g:=by
 obtain⟨o1,o2⟩:=DA h k1 k2;obtain⟨_,_,s3,s4,s5⟩:=Pk (p:=p) (u:=u) (k:=k);have i1:∀g∈Az x (p.fst u k),g.1.lo u<p.lo u+k/\g.1.hi u<=p.lo u+k:=λ g hg=>by
  have:=Fz o1 fx hg u;rw[s5]at this;lia
 have i2:∀g∈Az y (p.oth u k),p.lo u+k<=g.1.lo u:=λ g hg=>by
  have:=Fz o2 fy hg u;rw[s4]at this;lia
 refine⟨?_,?_,λ g hg z=>?_⟩
 .rw[List.filter_append,List.filter_eq_self.mpr (λ g hg=>decide_eq_true (i1 g hg).1),List.filter_eq_nil_iff.mpr (λ g hg z=>by have:=of_decide_eq_true z;have:=i2 g hg;lia),List.append_nil]
 .rw[List.filter_append,List.filter_eq_self.mpr (λ g hg=>decide_eq_true (i2 g hg)),List.filter_eq_nil_iff.mpr (λ g hg z=>by have:=of_decide_eq_true z;have:=i1 g hg;lia),List.nil_append]
 .obtain⟨z1,z2⟩:=z;rcases List.mem_append.mp hg with hg|hg
  .have:=i1 g hg;lia
  .have:=i2 g hg;lia
theorem Ft{t:Tr}{p:Rk}{u:Bool}{a:Int}{L:List (Rk×Option Int)}(h:p.ok)(f:Bk p t)(e:L.Perm (Az t p))(a1:1<=a)(a2:a<p.len u)(hb:∀g∈L,¬brk u (p.lo u+a) g) :
  Thr t u a/\Bk (p.fst u a) (ahd t u a)/\Bk (p.oth u a) (bhd t u a)/\(L.filter λ g=>decide (g.1.lo u<p.lo u+a)).Perm (Az (ahd t u a) (p.fst u a))/\(L.filter λ g=>decide (p.lo u+a<=g.1.lo u)).Perm (Az (bhd t u a) (p.oth u a)):=by
 have th:=Gu f a1 a2 λ g hg=>hb g (e.mem_iff.mpr hg);obtain⟨f1,f2⟩:=CZ f th ⟨a1,a2⟩;obtain⟨q1,q2,_⟩:=Cs h a1 a2 f1 f2;have:=e.trans (BU (p:=p) th);refine⟨th,f1,f2,?_,?_⟩
 .have:=this.filter (λ g=>decide (g.1.lo u<p.lo u+a));rw[q1]at this;exact this
 .have:=this.filter (λ g=>decide (p.lo u+a<=g.1.lo u));rw[q2]at this;exact this
theorem OW:∀{t:Tr},t.sz=1->∃m,t=.whole m
 |.whole m,_=>⟨m,rfl⟩
 |.cut _ _ x y,h=>by
  have:=C7 x;have:=C7 y;rw[Tr.sz]at h;lia
abbrev Mv:=List Int×Str
def pre(i:Int)(L:List Mv):List Mv:=L.map λ m=>(i::m.1,m.2)
def mup:Tr->Bool->Int->List Mv
 |.whole _,_,_=>[]
 |.cut v k x y,u,a=>if v=u then (if a<k then pre 0 (mup x u a)++[(([],"lean"):Mv)] else if k<a then pre 1 (mup y u (a-k))++[(([],"back"):Mv)] else []) else pre 0 (mup x u a)++pre 1 (mup y u a)++[(([],"cross"):Mv)]
theorem BA{i:Int}{L:List Mv}:(pre i L).length=L.length:=List.length_map ..
theorem Do:∀(t:Tr)(u:Bool)(a:Int),(mup t u a).length+1<=t.sz
 |.whole _,u,a=>Nat.le_refl _
 |.cut v k x y,u,a=>by
  have h1:=Do x u a;have h2:=Do y u a;have h3:=Do y u (a-k);have:=C7 x;have:=C7 y;rw[mup,Tr.sz];split
  .split
   .rw[List.length_append,BA,List.length_singleton];lia
   .split
    .rw[List.length_append,BA,List.length_singleton];lia
    .rw[List.length_nil];lia
  .rw[List.length_append,List.length_append,BA,BA,List.length_singleton];lia
theorem Kf:∀(t:Tr)(u:Bool)(a:Int),(ahd t u a).dp<=t.dp/\(bhd t u a).dp<=t.dp
 |.whole _,u,a=>⟨Nat.le_refl _,Nat.le_refl _⟩
 |.cut v k x y,u,a=>by
  have h1:=Kf x u a;have h2:=Kf y u a;have h3:=Kf y u (a-k);rw[ahd,bhd];have e:(Tr.cut v k x y).dp=max x.dp y.dp+1:=rfl;rw[e];split
  .split
   .refine⟨by lia,?_⟩;show max _ _+1<=_;lia
   .split
    .refine⟨?_,by lia⟩;show max _ _+1<=_;lia
    .lia
  .constructor
   .show max _ _+1<=_;lia
   .show max _ _+1<=_;lia
def mto:Tr->Tr->List Mv
 |_,.whole _=>[]
 |t,.cut u k x y=>mup t u k++pre 0 (mto (ahd t u k) x)++pre 1 (mto (bhd t u k) y)
theorem Nr{t x y:Tr}{p:Rk}{u:Bool}{k:Int}(h:p.ok)(f:Bk p t)(g:Bk p (.cut u k x y))(e:(Az t p).Perm (Az (.cut u k x y) p)) :
  Thr t u k/\(p.fst u k).ok/\(p.oth u k).ok/\Bk (p.fst u k) (ahd t u k)/\Bk (p.oth u k) (bhd t u k)/\Bk (p.fst u k) x/\Bk (p.oth u k) y/\(Az (ahd t u k) (p.fst u k)).Perm (Az x (p.fst u k))/\(Az (bhd t u k) (p.oth u k)).Perm (Az y (p.oth u k)):=by
 rw[fitR_cut]at g;obtain⟨⟨k1,k2⟩,gx,gy⟩:=g;obtain⟨q1,q2,q3⟩:=Cs h k1 k2 gx gy;rw[Az]at e;obtain⟨th,f1,f2,p1,p2⟩:=Ft h f e.symm k1 k2 q3;rw[q1]at p1;rw[q2]at p2;exact⟨th,(DA h k1 k2).1,(DA h k1 k2).2,f1,f2,gx,gy,p1.symm,p2.symm⟩
theorem JT:∀{s t:Tr}{p:Rk},p.ok->Bk p t->Bk p s->(Az t p).Perm (Az s p)->(mto t s).length<=s.sz*(s.sz-1)
 |.whole m,t,p,h,f,g,e=>Nat.zero_le _
 |.cut u k x y,t,p,h,f,g,e=>by
  obtain⟨th,o1,o2,f1,f2,gx,gy,p1,p2⟩:=Nr h f g e;have l1:=JT o1 f1 gx p1;have l2:=JT o2 f2 gy p2;have l:=e.length_eq;rw[AC,AC]at l;have m0:=Do t u k;rw[mto,List.length_append,List.length_append,BA,BA];rw[l]at m0;rw[Tr.sz]at m0 |-;have s1:=C7 x;have s2:=C7 y;generalize x.sz=n1 at *;generalize y.sz=n2 at *;obtain⟨c,rfl⟩:∃c,n1=c+1:=⟨n1-1,by lia⟩;obtain⟨d,rfl⟩:∃d,n2=d+1:=⟨n2-1,by lia⟩;have e1:(c+1+(d+1))*(c+1+(d+1)-1)=(c+1)*c+(d+1)*d+(2*(c*d)+2*c+2*d+2):=by
   rw[show c+1+(d+1)-1=c+d+1 by lia];simp only[Nat.mul_add,Nat.add_mul,Nat.mul_one,Nat.one_mul];have:=Nat.mul_comm c d;lia
  rw[show c+1-1=c by lia]at l1;rw[show d+1-1=d by lia]at l2;lia
theorem IM(m:Option Int):AA (AN m)=true:=by cases m<;>rfl
theorem RO:∀m m':Option Int,eqV (AN m) (AN m')=true↔m=m'
 |none,none=>by simp[AN,eqV]
 |none,some i=>by simp[AN,eqV]
 |some i,none=>by simp[AN,eqV]
 |some i,some j=>by simp[AN,eqV]
theorem Rj(i j:Int)(h:eqV (.int i) (.int j)=true):i=j:=by
 have:=(RO (some i) (some j)).mp h;cases this;rfl
def gD(g:Rk×Option Int):D:=.tup (.cons (.tup (.cons (.at (.int g.1.t)) (.cons (.at (.int g.1.l)) (.cons (.at (.int g.1.b)) (.cons (.at (.int g.1.r)) .nil))))) (.cons (.at (AN g.2)) .nil))
def gsD:List (Rk×Option Int)->Ds
 |[]=>.nil
 |g::r=>.cons (gD g) (gsD r)
theorem Ka:∀gs,BH (gsD gs)<=2
 |[]=>by rw[gsD,BH];lia
 |g::r=>by
  have:=Ka r;rw[gsD,BH,gD,dep,BH,dep,BH,BH,BH,BH,BH,BH,BH,dep,dep,dep,dep,dep];lia
theorem PN{K:Frag}{H:Hp}:∀{ts:List PT},PcO H ts->DIss K H (gsD (cons ts)) (pcs ts)
 |[],_=>by show DIss K H .nil [];rw[DIss]
 |t::r,h=>by
  show DIss K H (.cons (gD t.2.2) (gsD (cons r))) (.ref t.1::pcs r);rw[DIss];refine⟨_,_,rfl,?_,PN λ u hu=>h u (List.mem_cons_of_mem _ hu)⟩;obtain⟨h1,h2⟩:=h t List.mem_cons_self;rw[gD,DIs];refine⟨_,_,rfl,SqT.of h1,?_⟩;rw[DIss];refine⟨_,_,rfl,?_,?_⟩
  .rw[DIs];refine⟨_,_,rfl,SqT.of h2,?_⟩;rw[DIss];refine⟨_,_,rfl,by rw[DIs];exact⟨rfl,rfl⟩,?_⟩;rw[DIss];refine⟨_,_,rfl,by rw[DIs];exact⟨rfl,rfl⟩,?_⟩;rw[DIss];refine⟨_,_,rfl,by rw[DIs];exact⟨rfl,rfl⟩,?_⟩;rw[DIss];exact⟨_,_,rfl,by rw[DIs];exact⟨rfl,rfl⟩,by rw[DIss]⟩
  .rw[DIss];exact⟨_,_,rfl,by rw[DIs];exact⟨rfl,IM _⟩,by rw[DIss]⟩
theorem gsL{K:Frag}{H:Hp}{a:Addr}{ts:List PT}(h:H a=some (.lst (pcs ts)))(p:PcO H ts):DIs K H (.lst (gsD (cons ts))) (.ref a):=by
 rw[DIs];exact⟨a,_,rfl,SqL.of h,PN p⟩
theorem Hk:∀{t:Tr}{p:Rk},p.t<p.b->p.l<p.r->Bk p t->((Az t p).map (·.1)).Pairwise GB.Apart
 |.whole m,p,_,_,_=>by rw[Az];exact List.pairwise_singleton _ _
 |.cut u k x y,p,h1,h2,f=>by
  rw[fitR_cut]at f;obtain⟨⟨a,b⟩,fx,fy⟩:=f;obtain⟨⟨a1,a2⟩,b1,b2⟩:((p.fst u k).t<(p.fst u k).b/\(p.fst u k).l<(p.fst u k).r)/\(p.oth u k).t<(p.oth u k).b/\(p.oth u k).l<(p.oth u k).r:=by
   cases u with
   |true =>
    have b:k<p.r-p.l:=b;exact⟨⟨h1,show p.l<p.l+k by lia⟩,h1,show p.l+k<p.r by lia⟩
   |false =>
    have b:k<p.b-p.t:=b;exact⟨⟨show p.t<p.t+k by lia,h2⟩,show p.t+k<p.b by lia,h2⟩
  rw[Az,List.map_append,List.pairwise_append];refine⟨Hk a1 a2 fx,Hk b1 b2 fy,λ q hq q' hq' r c z z'=>?_⟩;obtain⟨g,hg,rfl⟩:=List.mem_map.mp hq;obtain⟨g',hg',rfl⟩:=List.mem_map.mp hq';have i1:=BN a1 a2 fx g hg;have i2:=BN b1 b2 fy g' hg';obtain⟨z1,z2,z3,z4⟩:=z;obtain⟨z5,z6,z7,z8⟩:=z';cases u with
  |true =>
   have i1:p.t<=g.1.t/\g.1.t<g.1.b/\g.1.b<=p.b/\p.l<=g.1.l/\g.1.l<g.1.r/\g.1.r<=p.l+k:=i1;have i2:p.t<=g'.1.t/\g'.1.t<g'.1.b/\g'.1.b<=p.b/\p.l+k<=g'.1.l/\g'.1.l<g'.1.r/\g'.1.r<=p.r:=i2;lia
  |false =>
   have i1:p.t<=g.1.t/\g.1.t<g.1.b/\g.1.b<=p.t+k/\p.l<=g.1.l/\g.1.l<g.1.r/\g.1.r<=p.r:=i1;have i2:p.t+k<=g'.1.t/\g'.1.t<g'.1.b/\g'.1.b<=p.b/\p.l<=g'.1.l/\g'.1.l<g'.1.r/\g'.1.r<=p.r:=i2;lia
theorem PF{α β:Type}{g:α->β}:∀{l:List α},(l.map g).Nodup->∀{p q:α},p∈l->q∈l->g p=g q->p=q
 |[],_,_,_,h,_,_=>nomatch h
 |x::l,n,p,q,hp,hq,e=>by
  rw[List.map_cons,List.nodup_cons]at n;rcases List.mem_cons.mp hp with a|a<;>rcases List.mem_cons.mp hq with b|b
  .rw[a,b]
  .exact absurd (List.mem_map.mpr ⟨q,b,by rw[<-a];exact e.symm⟩) n.1
  .exact absurd (List.mem_map.mpr ⟨p,a,by rw[<-b];exact e⟩) n.1
  .exact PF n.2 a b e
theorem Nq:∀t:Tr,t.nd+1=2*t.sz
 |.whole _=>by rw[Tr.nd,Tr.sz]
 |.cut _ _ x y=>by have:=Nq x;have:=Nq y;rw[Tr.nd,Tr.sz];lia
theorem Rq{t:Tr}{ww hh:Int}(w1:1<=ww)(h1:1<=hh)(f:Fit t ww hh):((Az t ⟨0,0,hh,ww⟩).map (·.1)).Nodup:=by
 refine List.Pairwise.imp_of_mem (λ{p q} hp _ ap e=>?_) (Hk (p:=⟨0,0,hh,ww⟩) (show(0:Int)<hh by lia) (show(0:Int)<ww by lia) (M1 f));obtain⟨g,hg,rfl⟩:=List.mem_map.mp hp;obtain⟨_,i2,_,_,i5,_⟩:=Gh w1 h1 f g hg;subst e;have hh':GB.Rc.has g.1 g.1.t g.1.l:=⟨Int.le_refl _,i2,Int.le_refl _,i5⟩;exact ap _ _ hh' hh'
abbrev EM(t:PT):PR:=(t.1,t.2.1,t.2.2.1.ls,AN t.2.2.2)
theorem BK(ts:List PT):(ts.map EM).map (λ t=>V.ref t.1)=pcs ts:=by rw[List.map_map];rfl
theorem EQ{H:Hp}{ts:List PT}{t:Tr}{ww hh:Int}(w1:1<=ww)(w2:ww<=12)(h1:1<=hh)(h2:hh<=12)(f:Fit t ww hh)(pc:PcO H ts)(ec:cons ts=Az t ⟨0,0,hh,ww⟩) :
  (∀u∈ts.map EM,H u.1=some (.tup [.ref u.2.1,u.2.2.2])/\H u.2.1=some (.tup (u.2.2.1.map V.int))/\u.2.2.1.length=3+1/\AA u.2.2.2=true)/\(∀u∈ts.map EM,∀z∈ts.map EM,HT.lexLt u.2.2.1 z.2.2.1=decide (GB.key u.2.2.1<GB.key z.2.2.1))/\(∀u∈ts.map EM,∀z∈ts.map EM,u.2.2.1=z.2.2.1->u=z) /\
  ∀us:List PR,us.Perm (ts.map EM)->(us.map λ u=>GB.key u.2.2.1).Pairwise (·<=·)->∃zs:List PT,us=zs.map EM/\zs.Perm ts/\Due t ww hh (cons zs):=by
 have inn:∀u∈ts,GB.Rc.In ww hh u.2.2.1:=λ u hu=>Gh w1 h1 f u.2.2 (ec ▸ List.mem_map.mpr ⟨u,hu,rfl⟩);have nd:(ts.map λ u=>u.2.2.1).Nodup:=by
  have:=Rq w1 h1 f;rw[<-ec,List.map_map]at this;exact this
 refine⟨λ u hu=>?_,λ u hu z hz=>?_,λ u hu z hz e=>?_,λ us pm sr=>?_⟩
 .obtain⟨x,hx,rfl⟩:=List.mem_map.mp hu;exact⟨(pc x hx).1,(pc x hx).2,rfl,IM _⟩
 .obtain⟨x,hx,rfl⟩:=List.mem_map.mp hu;obtain⟨y,hy,rfl⟩:=List.mem_map.mp hz;exact GB.key_lt (inn x hx) (inn y hy) w2 h2 w2 h2
 .obtain⟨x,hx,rfl⟩:=List.mem_map.mp hu;obtain⟨y,hy,rfl⟩:=List.mem_map.mp hz;have e:x.2.2.1.ls=y.2.2.1.ls:=e;have e':x.2.2.1=y.2.2.1:=GB.key_inj (inn x hx) (inn y hy) w2 h2 w2 h2 (by rw[e]);rw[PF nd hx hy e']
 .obtain⟨zs,p1,rfl⟩:=GF (f:=EM) pm ts rfl;refine⟨zs,rfl,p1,?_,?_⟩
  .rw[<-ec];exact p1.map _
  .rw[List.map_map]at sr |-;exact sr
inductive Jw(cN:Addr)(vs:LUz)(H:Hp)(Q:VK)(E:XK):Prop
 |mk (a:Addr) (p:Rk) (u:Bool) (k:Int) (h0:vs=[.ref a,.str (wd u),.int k]) (h1:H a=some (.tup p.vs)) (h2:((1<=k/\k<p.len u)->Q .non H)) (h3:(¬(1<=k/\k<p.len u)->Rf H E cN λ fs _=>fs=[(("at":Str),.int k)])):Jw cN vs H Q E
def K4(cN:Addr) :Sp:=λ vs H Q E=>Jw cN vs H Q E
theorem L8:An ["piece","word","at","length"] ["piece","word","at"] (Ag BQ):=fsc
theorem JQ{f:Addr}{fd:FuncData}{cN:Addr}(F:Fun K "check_cut" "check_cut" BQ f fd)(T:Txt mg tk)(X_NoCut:Jl P w K mg base 1 "NoCut" cN ["self","at"] ["at"])(D_is_whole:Av P w K mg base 1 "is_whole" ["thing"] Dw):A8 P w K mg base (CX1 P w) 3 f fd ["piece","word","at"] (K4 cN):=by
 have S:=L8;refine F.okx S (λ vs H Q E h=>?_) (λ cdv A outer s H vs Q E hr h=>?_)
 .obtain⟨a,p,u,k,rfl,_⟩:=h;rfl
 .obtain⟨a,p,u,k,rfl,ha,q,r⟩:=h;obtain⟨tt,htt,fin⟩:∃rd,PSs (Bm (CX1 P w) P w K mg base ["piece","word","at","length"] "check_cut" (Ag BQ) f cdv A outer s H E) ((A7 BQ).drop 1) rd /\
    rd { nx:=λ_ H'=>Q .non H',rt:=Q } [some (.ref a),some (.str (wd u)),some (.int k),some (.int (p.len u))] H:=by
   refine⟨_,(Af (A3 (PW.pt (G9 (DC (CI (Aj D_is_whole hr (Aa (pv 2) Ab)))) (G8 (DC (GA GJ BS Ad (pv 2) (pv 3)))))) (Af (KA BJ X_NoCut hr (Aa (pv 2) Ab))) Ar)),?_⟩;refine⟨_,rfl,.int k,rfl,⟨"int",rfl⟩,_,rfl,AO rfl ?_⟩;refine⟨_,rfl,_,_,rfl,rfl,_,rfl,Bg (λ h1=>?_) (λ h1=>?_)⟩
   .refine⟨_,rfl,_,_,rfl,rfl,_,rfl,?_⟩;have h1':=of_decide_eq_true h1;by_cases h2:k<p.len u
    .exact AO (by rw[decide_eq_true h2];rfl) (q ⟨h1',h2⟩)
    .exact AQ (by rw[decide_eq_false h2];rfl) ⟨_,rfl,rfl,λ y dx T H2 hy s2 e ed nd hT nT=>(r λ z=>h2 z.2).raise (Same.refl H) hy s2 e ed nd hT rfl⟩
   .have h1':=of_decide_eq_false h1;exact⟨_,rfl,AQ rfl ⟨_,rfl,rfl,λ y dx T H2 hy s2 e ed nd hT nT=>(r λ z=>h1' z.1).raise (Same.refl H) hy s2 e ed nd hT rfl⟩⟩
  refine⟨_,(Ac (As (i:=3) S.nd rfl (Or.inl rfl) (GG (Ao AZ (pv 1) (Ax (v:=.str "upright") rfl T.g_UPRIGHT ⟨_,rfl⟩) (Aq _)) (Au Bq (Al Am (pv 0) Ad (λ_ _=>rfl)) (Al Am (pv 0) Ad (λ_ _=>rfl))) (Au Bq (Al Am (pv 0) Ad (λ_ _=>rfl)) (Al Am (pv 0) Ad (λ_ _=>rfl)))))
   htt),?_⟩
  cases u with
  |true=>exact⟨_,rfl,rfl,_,rfl,AQ (Bn true true) ⟨_,rfl,a,_,_,_,rfl,rfl,SqT.of ha,at3,_,rfl,a,_,_,_,rfl,rfl,SqT.of ha,at1,_,_,rfl,rfl,fin⟩⟩
  |false=>exact⟨_,rfl,rfl,_,rfl,AO (Bn false true) ⟨_,rfl,a,_,_,_,rfl,rfl,SqT.of ha,at2,_,rfl,a,_,_,_,rfl,rfl,SqT.of ha,at0,_,_,rfl,rfl,fin⟩⟩
def Rv(ws:List (Addr×Rk×Tr)):Option Int:=ws.foldl (λ b p=>(OG p.2.1 p.2.2).or b) none
theorem F0(ws:List (Addr×Rk×Tr))(p:Addr×Rk×Tr):Rv (ws++[p])=(OG p.2.1 p.2.2).or (Rv ws):=by
 unfold Rv;rw[List.foldl_append];rfl
inductive NE(cW cU cL cN:Addr)(vs:LUz)(H:Hp)(Q:VK)(E:XK):Prop
 |mk (v:V) (t:Tr) (ww hh:Int) (h0:vs=[v,.int ww,.int hh]) (h1:Obj cW cU cL H t v) (h2:t.nd<=400) (h3:(B6 t ww hh=none->∀l ts H',Same H H'->H l=none->H' l=some (.lst (pcs ts))->PcO H' ts->cons ts=Az t ⟨0,0,hh,ww⟩->Q (.ref l) H')) (h4:(∀k,B6 t ww hh=some k->Rf H E cN λ fs _=>fs=[(("at":Str),.int k)])):NE cW cU cL cN vs H Q E
def LP(cW cU cL cN:Addr) :Sp:=λ vs H Q E=>NE cW cU cL cN vs H Q E
theorem OK:An ["tree","width","height","found","waiting","word","number","piece"] ["tree","width","height"] (Ag Fn):=fsc
theorem Mi{f:Addr}{fd:FuncData}{cN:Addr}(F:Fun K "cut_out" "cut_out" Fn f fd)(T:Txt mg tk)(D_entries_of:Av P w K mg base 3 "entries_of" ["tree"] (Ek cW cU cL))(D_check_cut:BI P w K mg base 3 "check_cut" ["piece","word","at"] (K4 cN))
  (D_first_piece:Av P w K mg base 1 "first_piece" ["piece","word","at"] LU) (D_other_piece:Av P w K mg base 1 "other_piece" ["piece","word","at"] LQ):A8 P w K mg base (CX1 P w) 4 f fd ["tree","width","height"] (LP cW cU cL cN):=by
 have S:=OK;refine F.okx S (λ vs H Q E h=>?_) (λ cdv A outer s H vs Q E hr h=>?_)
 .obtain⟨v,t,ww,hh,rfl,_⟩:=h;rfl
 .obtain⟨v,t,ww,hh,rfl,ho,hn,q,r⟩:=h;refine⟨_,(Ac (As (i:=3) S.nd rfl (Or.inl rfl) (AE Ab))
   (Ac (As (i:=4) S.nd rfl (Or.inl rfl) (AE (Aa (At (Aa Ad (Aa Ad (Aa (pv 2) (Aa (pv 1) Ab))))) Ab)))
   (Ac (DD Px rfl (BL (Aj D_entries_of hr (Aa (pv 0) Ab))) (DE rfl (Ay (Aw (i:=5) S.nd rfl (Or.inl rfl)) (Ay (Aw (i:=6) S.nd rfl (Or.inl rfl)) B3))) (Ac (As (i:=7) S.nd rfl (Or.inl rfl) (Ez PySem.F.plainAttrs_list PySem.F.slot_list_pop PySem.F.type_list_pop E4 (pv 4)))
   (Af (A3 (Ao AZ (pv 5) (Ax (v:=.str "whole") rfl T.g_WHOLE ⟨_,rfl⟩) (Aq _)) (Af (Bt (DG PySem.F.plainAttrs_list PySem.F.slot_list_append PySem.F.type_list_append AX (pv 3) (Aa (At (Aa (pv 7) (Aa (pv 6) Ab))) Ab)))) (Ac (Bt (Ey D_check_cut hr (E2 BJ (Mb (H:=H) (E:=E))) (Aa (pv 7) (Aa (pv 5) (Aa (pv 6) Ab)))))
   (Ac (Bt (DG PySem.F.plainAttrs_list PySem.F.slot_list_append PySem.F.type_list_append AX (pv 4) (Aa (Aj D_other_piece hr (Aa (pv 7) (Aa (pv 5) (Aa (pv 6) Ab)))) Ab)))
   (Af (Bt (DG PySem.F.plainAttrs_list PySem.F.slot_list_append PySem.F.type_list_append AX (pv 4) (Aa (Aj D_first_piece hr (Aa (pv 7) (Aa (pv 5) (Aa (pv 6) Ab)))) Ab))))))))))
   (Af (Ak (pv 3)))))),?_⟩
  refine⟨Ap 0,λ lf hlf=>⟨_,rfl,_,rfl,Ap 4,λ t0 ht0=>⟨Ap 1,λ lw hlw=>?_⟩⟩⟩;obtain⟨HA,g,sA,eA⟩:=nw (.lst []) hlf;rw[g] at ht0 hlw |-;obtain⟨HB,g,sB,eB⟩:=nw (.tup [.int 0,.int 0,.int hh,.int ww]) ht0;rw[g] at hlw |-;have sC:Same HB (upd HB lw (.lst [.ref t0])):=Same.new hlw;have eC:(upd HB lw (.lst [.ref t0])) lw=some (.lst [.ref t0]):=upd_same;have nfw:lf≠lw:=Ae (sB _ _ eA) hlw;have hlw0:H lw=none:=by
   cases e:H lw with
   |none=>rfl
   |some o=>rw[sB _ _ (sA _ _ e)]at hlw;cases hlw
  generalize upd HB lw (.lst [.ref t0])=HC at sC eC |-;have SC:=(sA.trans sB).trans sC;refine⟨_,rfl,v,t,rfl,ho.same SC,hn,λ le xs HD sD nle hle hen=>?_⟩;have hxl:=hen.len;have hel:=Cu t;have nlf:le≠lf:=Ne.symm (Ae ((sB.trans sC) _ _ eA) nle);have nlw:le≠lw:=Ne.symm (Ae eC nle);refine⟨le,rfl,⟨_,SqL.of hle⟩,Fb (K:=K) (a:=le) (xs:=xs) (λ i σ H'=>∃(ts:List PT)(ws:List (Addr×Rk×Tr))(x5 x6 x7:Option V),σ=[some v,some (.int ww),some (.int hh),some (.ref lf),some (.ref lw),x5,x6,x7]/\Same H H'/\H' le=some (.lst xs)/\EnsAt H' xs (AH t) /\
    H' lf=some (.lst (pcs ts))/\PcO H' ts/\ts.length<=i/\H' lw=some (.lst (AJ ws))/\PsAt H' ws/\(AH t).drop i=Cz (trs ws)/\B6 t ww hh=Rv ws/\Az t ⟨0,0,hh,ww⟩=cons ts++PU ws)
   ⟨[],[(t0,⟨0,0,hh,ww⟩,t)],_,_,_,rfl,SC.trans sD,hle,hen,(sD _ _ ((sB.trans sC) _ _ eA)),(λ t ht=>(nomatch ht)),Nat.le_refl _,sD _ _ eC,(λ p hp=>by rw[List.mem_singleton.mp hp];exact sD _ _ (sC _ _ eB)),?_,?_,?_⟩ (λ i σ H' _ hp=>by obtain⟨_,_,_,_,_,_,_,h,_⟩:=hp;exact SqL.of h) ?_ ?_⟩
  .show AH t=Cz [(V.ref t0,t)];rw[Ec];rfl
  .show B6 t ww hh=(B6 t (ww-0) (hh-0)).or none;rw[Option.or_none,Int.sub_zero,Int.sub_zero]
  .have:=Eb [] (t0,(⟨0,0,hh,ww⟩:Rk),t);show Az t ⟨0,0,hh,ww⟩=PU ([]++[(t0,(⟨0,0,hh,ww⟩:Rk),t)]);rw[this];exact(List.append_nil _).symm
  .rintro i x σ H' hx ⟨ts,ws,x5,x6,x7,rfl,s1,l1,en1,f1,pc,fl1,w1,p1,heq,hbad,hg⟩;obtain⟨e,a,he,rfl,ha⟩:=en1.get hx;obtain⟨hi,hei⟩:=List.getElem?_eq_some_iff.mp he;have hdr:(AH t).drop i=e::(AH t).drop (i+1):=by rw[List.drop_eq_getElem_cons hi,hei]
   rw[hdr]at heq;have wl:ws.length<=400:=by
    have h1:=Ef (trs ws);have h2:=CY (trs ws);rw[<-heq,<-hdr,List.length_drop]at h2;rw[List.length_map]at h1;lia
   obtain rfl|⟨ws0,p,rfl⟩:=Ck ws
   .cases heq
   have hp0:=p1 p (by simp);rw[Bo,AU]at heq;rw[F0]at hbad;rw[Eb]at hg;obtain⟨pa,pk,pt⟩:=p;have body:∀w0:V,(enV e)=[w0,(enV e).getD 1 .non]->True:=λ_ _=>trivial;have k2:Kp H' (upd H' lw (.lst (AJ ws0))):=Kp.put w1;have s2:Same H (upd H' lw (.lst (AJ ws0))):=λ b o e=>by rw[Ah (Ae e hlw0)];exact s1 b o e
   have l2:(upd H' lw (.lst (AJ ws0))) le=some (.lst xs):=by rw[Ah nlw];exact l1
   have f2:(upd H' lw (.lst (AJ ws0))) lf=some (.lst (pcs ts)):=by rw[Ah nfw];exact f1
   have w2:(upd H' lw (.lst (AJ ws0))) lw=some (.lst (AJ ws0)):=upd_same;have ps0:PsAt H' ws0:=λ r hr=>p1 r (List.mem_append_left _ hr);cases pt with
   |whole m =>
    have heq:e::(AH t).drop (i+1)=.w m::Cz (trs ws0):=heq;injection heq with he1 he2;subst he1;refine⟨a,_,rfl,SqT.of ha,rfl,_,_,rfl,_,_,rfl,rfl,?_⟩;refine⟨_,rfl,.inl ⟨rfl,_,SqL.of w1⟩,lw,_,_,rfl,rfl,w1,Fv,?_⟩;rw[F2];generalize upd H' lw (.lst (AJ ws0))=H2 at k2 s2 l2 f2 w2 |-;refine⟨_,rfl,rfl,_,rfl,AQ (decide_eq_true rfl) ?_⟩;refine⟨_,rfl,.inl ⟨rfl,_,SqL.of f2⟩,_,rfl,_,rfl,Ap 2,λ t3 ht3=>?_⟩;obtain⟨H3,g,s3,e3⟩:=nw (.tup [.ref pa,AN m]) ht3;rw[g];have f3:=s3 _ _ f2;refine⟨lf,pcs ts,_,rfl,rfl,f3,A0 (by rw[List.length_map];lia),?_⟩;have k4:Kp H3 (upd H3 lf (.lst (pcs ts++[.ref t3]))):=Kp.put f3;have kk:=(k2.trans (CV s3)).trans k4;have hpa:=kk _ _ hp0 (by intro xs z;cases z);refine⟨ts++[(t3,pa,pk,m)],ws0,_,_,_,rfl,λ b o e=>?_,?_,en1.kp kk,by rw[upd_same,GI],?_,by rw[List.length_append,List.length_singleton];lia,?_,ps0.kp kk,he2,?_,?_⟩
    .rw[Ah (Ae e hlf)];exact s3 b o (s2 b o e)
    .rw[Ah nlf];exact s3 _ _ l2
    .intro t ht;rcases List.mem_append.mp ht with ht|ht
     .exact pc.kp kk t ht
     .rw[List.mem_singleton.mp ht];exact⟨k4 _ _ e3 (by intro xs z;cases z),hpa⟩
    .rw[Ah (Ne.symm nfw)];exact s3 _ _ w2
    .exact hbad
    .rw[hg,F5,List.append_assoc];rfl
   |cut u k y1 y2 =>
    have heq:e::(AH t).drop (i+1)=.c u k::(AH y1++AH y2)++Cz (trs ws0):=heq;rw[List.cons_append]at heq;injection heq with he1 he2;subst he1;refine⟨a,_,rfl,SqT.of ha,rfl,_,_,rfl,_,_,rfl,rfl,?_⟩;refine⟨_,rfl,.inl ⟨rfl,_,SqL.of w1⟩,lw,_,_,rfl,rfl,w1,Fv,?_⟩;rw[F2];have hp2:=k2 _ _ hp0 (by intro xs z;cases z);generalize upd H' lw (.lst (AJ ws0))=H2 at k2 s2 l2 f2 w2 hp2 |-;refine⟨_,rfl,rfl,_,rfl,AO (BP u) ?_⟩;have fc:=Qo (p:=pk) (u:=u) (k:=k) (x:=y1) (y:=y2);rw[fc]at hbad;refine⟨_,rfl,_,rfl,_,rfl,pa,pk,u,k,rfl,hp2,λ ok=>?_,λ bad=>QH s2 (r k (by rw[hbad,if_neg bad];rfl)) JA⟩;rw[if_pos ok,Option.or_assoc]at hbad;refine⟨_,rfl,.inl ⟨rfl,_,SqL.of w2⟩,_,rfl,_,rfl,_,rfl,pa,pk,u,k,rfl,hp2,λ t3 ht3=>?_⟩;obtain⟨H3,g,s3,e3⟩:=nw (.tup (pk.oth u k).vs) ht3;rw[g];have w3:=s3 _ _ w2;rw[List.length_append,List.length_singleton]at wl;refine⟨lw,_,_,rfl,rfl,w3,A0 (by rw[List.length_map];lia),?_⟩;have k4:Kp H3 (upd H3 lw (.lst (AJ ws0++[.ref t3]))):=Kp.put w3;have s4:Same H (upd H3 lw (.lst (AJ ws0++[.ref t3]))):=λ b o e=>by rw[Ah (Ae e hlw0)];exact s3 b o (s2 b o e)
    have l4:(upd H3 lw (.lst (AJ ws0++[.ref t3]))) le=some (.lst xs):=by rw[Ah nlw];exact s3 _ _ l2
    have f4:(upd H3 lw (.lst (AJ ws0++[.ref t3]))) lf=some (.lst (pcs ts)):=by rw[Ah nfw];exact s3 _ _ f2
    have w4:(upd H3 lw (.lst (AJ ws0++[.ref t3]))) lw=some (.lst (AJ ws0++[.ref t3])):=upd_same;have kk4:=(CV s3).trans k4;generalize upd H3 lw (.lst (AJ ws0++[.ref t3]))=H4 at k4 s4 l4 f4 w4 kk4 |-;have hp4:=kk4 _ _ hp2 (by intro xs z;cases z);have e4:=k4 _ _ e3 (by intro xs z;cases z);refine⟨_,rfl,.inl ⟨rfl,_,SqL.of w4⟩,_,rfl,_,rfl,_,rfl,pa,pk,u,k,rfl,hp4,λ t5 ht5=>?_⟩;obtain⟨H5,g,s5,e5⟩:=nw (.tup (pk.fst u k).vs) ht5;rw[g];have w5:=s5 _ _ w4;refine⟨lw,_,_,rfl,rfl,w5,A0 (by rw[List.length_append,List.length_map,List.length_singleton];lia),?_⟩;have k6:Kp H5 (upd H5 lw (.lst (AJ ws0++[.ref t3]++[.ref t5]))):=Kp.put w5;have kk6:=(CV s5).trans k6;have kall:=(k2.trans kk4).trans kk6;refine⟨ts,ws0++[(t3,pk.oth u k,y2)]++[(t5,pk.fst u k,y1)],_,_,_,rfl,λ b o e=>?_,?_,en1.kp kall,?_,pc.kp kall,by lia,?_,λ r hr=>?_,?_,?_,?_⟩
    .rw[Ah (Ae e hlw0)];exact s5 b o (s4 b o e)
    .rw[Ah nlw];exact s5 _ _ l4
    .rw[Ah nfw];exact s5 _ _ f4
    .rw[upd_same,DT,DT]
    .rcases List.mem_append.mp hr with hr|hr
     .rcases List.mem_append.mp hr with hr|hr
      .exact kall _ _ (ps0 r hr) (by intro xs z;cases z)
      .rw[List.mem_singleton.mp hr];exact kk6 _ _ e4 (by intro xs z;cases z)
     .rw[List.mem_singleton.mp hr];exact k6 _ _ e5 (by intro xs z;cases z)
    .rw[he2,Bo,Bo,AU,AU,List.append_assoc]
    .rw[hbad,F0,F0]
    .rw[hg,Az,Eb,Eb,List.append_assoc]
  .rintro σ H' ⟨ts,ws,x5,x6,x7,rfl,s1,l1,en1,f1,pc,fl1,w1,p1,heq,hbad,hg⟩;rw[hxl,List.drop_length]at heq;have wn:ws=[]:=by
    have h1:=Ef (trs ws);have h2:=CY (trs ws);rw[<-heq]at h2;rw[List.length_map]at h1;exact List.length_eq_zero_iff.mp (by simp at h2;lia)
   subst wn;exact⟨_,rfl,q hbad lf ts H' s1 hlf f1 pc (by rw[hg];exact(List.append_nil _).symm)⟩
def Bw(t:Tr)(x y:V):Option (Cl×V):=(Ry x y).or ((B6 t (iv x) (iv y)).map λ k=>(.C,.int k))
theorem Ke{t:Tr}{x y:V}(h:AV x=false):Bw t x y=some (.S,x):=by unfold Bw Ry;rw[h];rfl
theorem Kd{t:Tr}{x y:V}(g:AV x=true)(h:AV y=false):Bw t x y=some (.S,y):=by unfold Bw Ry;rw[g,h];rfl
theorem IG{i:Int}(a:1<=i)(b:i<=12):AV (.int i)=true:=by show(decide (1<=i)&&decide (i<=12))=true;rw[decide_eq_true a,decide_eq_true b];rfl
theorem Hu{t:Tr}{ww hh:Int}(w1:1<=ww)(w2:ww<=12)(h1:1<=hh)(h2:hh<=12):Bw t (.int ww) (.int hh)=(B6 t ww hh).map λ k=>(.C,.int k):=by unfold Bw Ry;rw[IG w1 w2,IG h1 h2];rfl
theorem C0{x:V}(h:AV x=true):∃i:Int,x=.int i/\1<=i/\i<=12:=by
 cases x with
 |int i =>
  have h:(decide (1<=i)&&decide (i<=12))=true:=h;rw[Bool.and_eq_true]at h;exact⟨i,rfl,of_decide_eq_true h.1,of_decide_eq_true h.2⟩
 |_=>cases h
theorem Cf{t:Tr}{x y:V}(h:Bw t x y=none):∃ww hh:Int,x=.int ww/\y=.int hh/\1<=ww/\ww<=12/\1<=hh/\hh<=12/\Fit t ww hh:=by
 cases hx:AV x with
 |false=>rw[Ke hx]at h;cases h
 |true =>
  cases hy:AV y with
  |false=>rw[Kd hx hy]at h;cases h
  |true =>
   obtain⟨ww,rfl,w1,w2⟩:=C0 hx;obtain⟨hh,rfl,h1,h2⟩:=C0 hy;rw[Hu w1 w2 h1 h2]at h;exact⟨ww,hh,rfl,rfl,w1,w2,h1,h2,bad_none.mp (Option.map_eq_none_iff.mp h)⟩
inductive HP(tb cW cU cL:Addr)(cc:Cc)(vs:LUz)(H:Hp)(Q:VK)(E:XK):Prop
 |mk (v:V) (t:Tr) (x y:V) (h0:vs=[v,x,y]) (h1:AA x=true) (h2:AA y=true) (h3:Obj cW cU cL H t v) (h4:t.nd<=400) (h5:TabOk Rg Ov tb H) (h6:(∀r,Bw t x y=some r->Rf H E (cc r.1) λ fs _=>fs=fsC r)) (h7:(Bw t x y=none->∀l ts H',SameX tb H H'->TabOk Rg Ov tb H'->Qw H l->H' l=some (.lst (pcs ts))->PcO H' ts->Due t (iv x) (iv y) (cons ts)->Q (.ref l) H')):HP tb cW cU cL cc vs H Q E
def DS(tb cW cU cL:Addr)(cc:Cc) :Sp:=λ vs H Q E=>HP tb cW cU cL cc vs H Q E
theorem Qs:An ["tree","width","height"] ["tree","width","height"] (Ag Bp):=fsc
theorem Oj{f:Addr}{fd:FuncData}{c tb:Addr}(F:FunC K "pieces" "pieces" Bp f fd c)(T:Txt mg tk)(hC:F7 K c tb=true)(hB:RD K mg)(D_check_sides:BI P w K mg base 3 "check_sides" ["width","height"] (IA (cc .S)))(D_cut_out:BI P w K mg base 4 "cut_out" ["tree","width","height"] (LP cW cU cL (cc .C))) :
  A8 P w K mg base (CX1 P w) 5 f fd ["tree","width","height"] (DS tb cW cU cL cc):=by
 have S:=Qs;refine F.okx S (λ vs H Q E h=>?_) (λ A outer s H vs Q E hr h=>?_)
 .obtain⟨v,t,x,y,rfl,_⟩:=h;rfl
 .obtain⟨v,t,x,y,rfl,fx,fy,ho,hn,tab,r,q⟩:=h;have hlam:=Pu (X:=Bm (CX1 P w) P w K mg base ["tree","width","height"] "pieces" (Ag Bp) f (.ref c) A outer s H E) (params:=TF) (body:=SB) (scope:=Re) (pos:=Rg) (qual:=Ov) (clos:=[]) rfl (codeTB_of hC) hB rfl rfl rfl;have hbind:∀(s:Shared)(pm ctv u:Value)(c':Addr),BindsTo s (kla_fn "<lambda>" Ov TF SB Re [] pm (.ref c') ctv) ⟨[u],[]⟩ ((["piece"]:LSz).zip [u]):=λ_ _ _ _ _=>.of_eq rfl;have hbody:∀(A:Around)(outer:List Env)(s:Shared)(H:Hp)(f c':Addr),PE (Bm CX0 P w K mg base ["piece"] Ov Re f (.ref c') A outer s H E0) SB (tOp (Sy K) (Sl 0) (tC (.int 0))):=λ_ _ _ _ _ _=>Al Am (pv 0) Ad (λ_ _=>rfl);have hrl:Room (1+3) (A.deeper (PyProof.Rows.envOfC "pieces" (Ag Bp) s.heap.objs.size f (.ref c))):=hr;refine⟨_,(Ac (Bt (Ey D_check_sides hr (E2 BJ (Mb (H:=H) (E:=E))) (Aa (pv 1) (Aa (pv 2) Ab))))
   (Af (Ak (Og rfl T.z_sorted (Aa (Ey D_cut_out hr (E2 BJ (Mb (H:=H) (E:=E))) (Aa (pv 0) (Aa (pv 1) (Aa (pv 2) Ab)))) Ab) hlam Ud rfl hrl hbind hbody)))),?_⟩
  refine⟨_,rfl,_,rfl,x,y,rfl,EK fx,EK fy,λ hx hy H1 s1=>?_,λ z=>QH (Same.refl H) (r _ (Ke z)) JA,λ z1 z2=>QH (Same.refl H) (r _ (Kd z1 z2)) JA⟩;obtain⟨ww,rfl,w1,w2⟩:=C0 hx;obtain⟨hh,rfl,h1,h2⟩:=C0 hy;have eD:=Hu (t:=t) w1 w2 h1 h2;refine⟨_,rfl,_,rfl,_,rfl,v,t,ww,hh,rfl,ho.same s1,hn,λ hb l ts H2 s2 nl hl pc ec=>?_,λ k hk=>QH s1 (r (.C,.int k) (by rw[eD,hk];rfl)) JA⟩;have fit:=bad_none.mp hb;have inn:∀t'∈ts,GB.Rc.In ww hh t'.2.2.1:=λ t' ht'=>Gh w1 h1 fit t'.2.2 (ec ▸ List.mem_map.mpr ⟨t',ht',rfl⟩);unfold Te;simp only[];have t2:=tab.same (s1.trans s2);refine TabOk.lamC t2 λ c' fl ctv H3 sx tab3 hf hc hnew=>?_;have s3:=sx.toN t2.tbl;refine⟨fl,c',l,ctv,Addr×Rk×Option Int,ts,λ t'=>(t'.2.1,t'.2.2.1.ls),3,GB.key,rfl,hf,hc,rfl,SqL.of (s3.lst hl),λ t' ht'=>⟨rfl,((pc.n s3) t' ht').2⟩,λ t' ht'=>⟨_,rfl,t'.1,_,_,_,rfl,rfl,SqT.of ((pc.n s3) t' ht').1,BF,rfl,rfl⟩,λ t' ht' u' hu'=>GB.key_lt (inn t' ht') (inn u' hu') w2 h2 w2 h2,λ l' ts' nl' pm srt=>?_⟩;have s4:Same H3 (upd H3 l' (.lst (pcs ts'))):=Same.new nl';have sN:SameN H H3:=((s1.trans s2).n).trans s3;exact q (by rw[eD,hb];rfl) l' ts' _ ((s1.trans s2).x.trans (sx.trans s4.x)) (tab3.same s4) (S9 sN nl') upd_same (((pc.n s3).perm pm).same s4) ⟨ec ▸ pm.map _,by rw[List.map_map];exact srt⟩
theorem L4:An ["_law_found"] ["_law_found"] (Ag Dg):=fsc
theorem JL{f:Addr}{fd:FuncData}(F:Fun K "_law_whole" "_law_whole" Dg f fd)(T:Txt mg tk):A8 P w K mg base CX0 1 f fd ["_law_found"] Dw:=by
 have S:=L4;refine F.ok S (λ vs H Q E h=>?_) (λ cdv A outer s H vs Q E hr h=>?_)
 .obtain⟨v,rfl,_⟩:=h;rfl
 .obtain⟨v,rfl,⟨T',hT⟩,q⟩:=h;refine⟨_,(Af (Ak (Fs (A6 Cg rfl T.z_isinstance rfl (Aa (pv 0) (Aa (Dm (v:=.ty "int") rfl T.z_int rfl rfl) Ab))) (Fq (JI (A6 Cg rfl T.z_isinstance rfl (Aa (pv 0) (Aa (Dm (v:=.ty "bool") rfl T.z_bool rfl rfl) Ab)))))))),?_⟩;refine⟨v,rfl,v,T',"int",rfl,hT,.inl rfl,_,rfl,Bg (λ h=>?_) (λ h=>?_)⟩
  .refine⟨v,rfl,v,T',"bool",rfl,hT,.inr (.inl rfl),_,rfl,?_⟩;rw[(EI hT).1 h];exact q
  .show Q (.bl false) H;rw[(EI hT).2 h];exact q
def IC:Sp:=λ vs H Q _=>∃v,vs=[v]/\Ty H v/\Q (.bl (!AV v)) H
theorem Iq:An ["_law_thing"] ["_law_thing"] (Ag Co):=fsc
theorem GO{f:Addr}{fd:FuncData}(F:Fun K "_law_no_side" "_law_no_side" Co f fd)(D__law_whole:Av P w K mg base 1 "_law_whole" ["_law_found"] Dw):A8 P w K mg base CX0 2 f fd ["_law_thing"] IC:=by
 have S:=Iq;refine F.ok S (λ vs H Q E h=>?_) (λ cdv A outer s H vs Q E hr h=>?_)
 .obtain⟨v,rfl,_⟩:=h;rfl
 .obtain⟨v,rfl,tv,q⟩:=h;refine⟨_,(Af (Ak (RM (JI (Aj D__law_whole hr (Aa (pv 0) Ab))) (RM (BB BS (pv 0) Ad (Aq _)) (Fq (BB IL (pv 0) Ad (Aq _))))))),?_⟩;refine⟨_,rfl,v,rfl,tv,_,rfl,_,rfl,Bg (λ h=>?_) (λ h=>?_)⟩
  .have e:AV v=false:=by cases v<;>first|rfl|(simp[Gp]at h)
   rw[e]at q;exact q
  .obtain⟨i,rfl⟩:∃i,v=.int i:=by cases v<;>first|exact⟨_,rfl⟩|(simp[Gp]at h)
   have e:AV (.int i)=(decide (1<=i)&&decide (i<=12)):=rfl;rw[e]at q;refine⟨_,rfl,_,_,rfl,rfl,_,rfl,Bg (λ h1=>?_) (λ h1=>?_)⟩
   .have h1:=of_decide_eq_true h1;rw[decide_eq_false (by lia)]at q;exact q
   .have h1:=of_decide_eq_false h1;rw[decide_eq_true (by lia),Bool.true_and]at q;refine⟨_,rfl,_,_,rfl,rfl,?_⟩;have e2:decide (i>12)=!decide (i<=12):=by
     by_cases z:i<=12
     .rw[decide_eq_true z,decide_eq_false (by lia)];rfl
     .rw[decide_eq_false z,decide_eq_true (by lia)];rfl
    rw[<-e2]at q;exact q
inductive FN(n:Nat)(vs:LUz)(H:Hp)(Q:VK)(E:XK):Prop
 |mk (v:V) (t:Tr) (a:Addr) (p:Rk) (h0:vs=[v,.ref a]) (h1:Told H t v) (h2:H a=some (.tup p.vs)) (h3:t.dp<n) (h4:t.nd<=400) (h5:∀l ts H',Same H H'->H l=none->H' l=some (.lst (pcs ts))->PcO H' ts->cons ts=Az t p->Q (.ref l) H'):FN n vs H Q E
def B4(n:Nat) :Sp:=λ vs H Q E=>FN n vs H Q E
theorem P8{vs:LUz}{H:Hp}{Q:VK}{E:XK}:¬B4 0 vs H Q E:=by
 rintro⟨v,t,a,p,_,_,_,h,_⟩;lia
theorem Lv(ts us:List PT):cons (ts++us)=cons ts++cons us:=List.map_append
theorem Nn(ts us:List PT):pcs (ts++us)=pcs ts++pcs us:=List.map_append
theorem PcO.app{H:Hp}{ts us:List PT}(a:PcO H ts)(b:PcO H us):PcO H (ts++us):=λ t ht=>(List.mem_append.mp ht).elim (a t) (b t)
theorem C1{H H':Hp}{l:Addr}(s:Same H H')(h:H' l=none):H l=none:=by
 cases e:H l with
 |none=>rfl
 |some o=>rw[s _ _ e]at h;cases h
theorem Fe:An ["_law_told_here","_law_block","_law_top","_law_left","_law_bottom","_law_right","_law_line","_law_first"] ["_law_told_here","_law_block"] (Ag CD):=fsc
theorem HY{f:Addr}{fd:FuncData}{n:Nat}(F:Fun K "_law_pieces" "_law_pieces" CD f fd)(D__law_pieces:Av P w K mg base (n+3) "_law_pieces" ["_law_told_here","_law_block"] (B4 n)):A8 P w K mg base CX0 (n+4) f fd ["_law_told_here","_law_block"] (B4 (n+1)):=by
 have S:=Fe;refine F.ok S (λ vs H Q E h=>?_) (λ cdv A outer s H vs Q E hr h=>?_)
 .obtain⟨v,t,a,p,rfl,_⟩:=h;rfl
 .obtain⟨v,t,b,p,rfl,ht,hb,hd,hn,q⟩:=h;refine⟨_,(Ac (Fo (pv 1) (DE rfl (Ay (Aw (i:=2) S.nd rfl (Or.inl rfl)) (Ay (Aw (i:=3) S.nd rfl (Or.inl rfl)) (Ay (Aw (i:=4) S.nd rfl (Or.inl rfl)) (Ay (Aw (i:=5) S.nd rfl (Or.inl rfl)) B3))))))
   (Ac (A3 (Ao AZ (Al Am (pv 0) Ad (λ_ _=>rfl)) A4 (Aq _)) (Af (Ak (AE (Aa (At (Aa (pv 1) (Aa (Al Am (pv 0) Ad (λ_ _=>rfl)) Ab))) Ab)))) Ar)
   (Ac (A3 (Ao AZ (Al Am (pv 0) Ad (λ_ _=>rfl)) A4 (Aq _)) (Ac (As (i:=6) S.nd rfl (Or.inl rfl) (Au AW (pv 3) (Al Am (pv 0) Ad (λ_ _=>rfl))))
   (Ac (As (i:=7) S.nd rfl (Or.inl rfl) (Aj D__law_pieces hr (Aa (Al Am (pv 0) Ad (λ_ _=>rfl)) (Aa (At (Aa (pv 2) (Aa (pv 3) (Aa (pv 4) (Aa (pv 6) Ab))))) Ab)) (by lia)))
   (Af (Ak (Au Dn (pv 7) (Aj D__law_pieces hr (Aa (Al Am (pv 0) Ad (λ_ _=>rfl)) (Aa (At (Aa (pv 2) (Aa (pv 6) (Aa (pv 4) (Aa (pv 5) Ab))))) Ab)) (by lia))))))) Ar)
   (Ac (As (i:=6) S.nd rfl (Or.inl rfl) (Au AW (pv 2) (Al Am (pv 0) Ad (λ_ _=>rfl))))
   (Af (Ak (Au Dn (Aj D__law_pieces hr (Aa (Al Am (pv 0) Ad (λ_ _=>rfl)) (Aa (At (Aa (pv 2) (Aa (pv 3) (Aa (pv 6) (Aa (pv 5) Ab))))) Ab)) (by lia)) (Aj D__law_pieces hr (Aa (Al Am (pv 0) Ad (λ_ _=>rfl)) (Aa (At (Aa (pv 6) (Aa (pv 3) (Aa (pv 4) (Aa (pv 5) Ab))))) Ab)) (by lia))))))))),?_⟩
  refine⟨_,rfl,b,_,rfl,SqT.of hb,rfl,_,_,rfl,_,_,rfl,_,_,rfl,_,_,rfl,rfl,?_⟩;cases t with
  |whole m =>
   rw[Told]at ht;obtain⟨a,rfl,ha⟩:=ht;refine⟨_,rfl,a,_,_,_,rfl,rfl,SqT.of ha,BF,rfl,_,rfl,AQ (decide_eq_true rfl) ?_⟩;refine⟨_,rfl,_,rfl,a,_,_,_,rfl,rfl,SqT.of ha,Cw,Ap 2,λ ta hta=>⟨Ap 1,λ l hl=>?_⟩⟩;obtain⟨H2,g,s2,e2⟩:=nw (.tup [.ref b,AN m]) hta;rw[g] at hl |-;have s3:Same H2 (upd H2 l (.lst [.ref ta])):=Same.new hl;refine q l [(ta,b,p,m)] _ (s2.trans s3) (C1 s2 hl) upd_same (λ t ht=>?_) (by rw[Az];rfl);rw[List.mem_singleton.mp ht];exact⟨s3 _ _ e2,s3 _ _ (s2 _ _ hb)⟩
  |cut u k y1 y2 =>
   rw[Told]at ht;obtain⟨a,v1,v2,rfl,ha,t1,t2⟩:=ht;have hd:max y1.dp y2.dp+1<n+1:=hd;have hn:y1.nd+y2.nd+1<=400:=hn;have z1:=MS y1;have z2:=MS y2;refine⟨_,rfl,a,_,_,_,rfl,rfl,SqT.of ha,at0,rfl,_,rfl,AO (BP u) ?_⟩;cases u with
   |true =>
    refine⟨_,rfl,a,_,_,_,rfl,rfl,SqT.of ha,at0,rfl,_,rfl,AQ (Bn true true) ?_⟩;refine⟨_,rfl,_,rfl,a,_,_,_,rfl,rfl,SqT.of ha,at1,_,_,rfl,rfl,?_⟩;refine⟨_,rfl,a,_,_,_,rfl,rfl,SqT.of ha,at2,_,rfl,_,rfl,_,rfl,_,rfl,Ap 4,λ b1 hb1=>?_⟩;obtain⟨H0,g,s0,e0⟩:=nw (.tup [.int p.t,.int p.l,.int p.b,.int (p.l+k)]) hb1;rw[g];have e0:H0 b1=some (.tup (p.fst true k).vs):=e0;refine⟨v1,y1,b1,p.fst true k,rfl,t1.same s0,e0,by lia,by lia,λ l1 ts1 H1 s1 n1 g1 c1 e1=>?_⟩;have s01:=s0.trans s1;refine⟨_,rfl,_,rfl,a,_,_,_,rfl,rfl,SqT.of (s01 _ _ ha),at3,_,rfl,_,rfl,_,rfl,_,rfl,Ap 4,λ b2 hb2=>?_⟩;obtain⟨H2,g,s2,e2'⟩:=nw (.tup [.int p.t,.int (p.l+k),.int p.b,.int p.r]) hb2;rw[g];have e2':H2 b2=some (.tup (p.oth true k).vs):=e2';refine⟨v2,y2,b2,p.oth true k,rfl,(t2.same s01).same s2,e2',by lia,by lia,λ l2 ts2 H3 s3 n2 g2 c2 e2=>?_⟩;have s23:=s2.trans s3;have Mu:=congrArg List.length e1;have Mt:=congrArg List.length e2;rw[AC,List.length_map]at Mu Mt;refine⟨l1,l2,_,_,rfl,rfl,s23 _ _ g1,g2,Nat.le_of_lt (A0 (by rw[List.length_map,List.length_map];lia)),λ l hl=>?_⟩;have s4:Same H3 (upd H3 l (.lst (pcs ts1++pcs ts2))):=Same.new hl;exact q l (ts1++ts2) _ ((s01.trans s23).trans s4) (C1 (s01.trans s23) hl) (by rw[upd_same,Nn]) (((c1.same s23).app c2).same s4) (by rw[Lv,e1,e2,Az])
   |false =>
    refine⟨_,rfl,a,_,_,_,rfl,rfl,SqT.of ha,at0,rfl,_,rfl,AO (Bn false true) ?_⟩;refine⟨_,rfl,_,rfl,a,_,_,_,rfl,rfl,SqT.of ha,at1,_,_,rfl,rfl,?_⟩;refine⟨_,rfl,a,_,_,_,rfl,rfl,SqT.of ha,at2,_,rfl,_,rfl,_,rfl,_,rfl,Ap 4,λ b1 hb1=>?_⟩;obtain⟨H0,g,s0,e0⟩:=nw (.tup [.int p.t,.int p.l,.int (p.t+k),.int p.r]) hb1;rw[g];have e0:H0 b1=some (.tup (p.fst false k).vs):=e0;refine⟨v1,y1,b1,p.fst false k,rfl,t1.same s0,e0,by lia,by lia,λ l1 ts1 H1 s1 n1 g1 c1 e1=>?_⟩;have s01:=s0.trans s1;refine⟨_,rfl,a,_,_,_,rfl,rfl,SqT.of (s01 _ _ ha),at3,_,rfl,_,rfl,_,rfl,_,rfl,Ap 4,λ b2 hb2=>?_⟩;obtain⟨H2,g,s2,e2'⟩:=nw (.tup [.int (p.t+k),.int p.l,.int p.b,.int p.r]) hb2;rw[g];have e2':H2 b2=some (.tup (p.oth false k).vs):=e2';refine⟨v2,y2,b2,p.oth false k,rfl,(t2.same s01).same s2,e2',by lia,by lia,λ l2 ts2 H3 s3 n2 g2 c2 e2=>?_⟩;have s23:=s2.trans s3;have Mu:=congrArg List.length e1;have Mt:=congrArg List.length e2;rw[AC,List.length_map]at Mu Mt;refine⟨l1,l2,_,_,rfl,rfl,s23 _ _ g1,g2,Nat.le_of_lt (A0 (by rw[List.length_map,List.length_map];lia)),λ l hl=>?_⟩;have s4:Same H3 (upd H3 l (.lst (pcs ts1++pcs ts2))):=Same.new hl;exact q l (ts1++ts2) _ ((s01.trans s23).trans s4) (C1 (s01.trans s23) hl) (by rw[upd_same,Nn]) (((c1.same s23).app c2).same s4) (by rw[Lv,e1,e2,Az])
def sd(u:Bool):Int:=if u then 1 else 0
theorem Fc{p:Rk}{u:Bool}:atI p.vs (sd u)=some (.int (p.lo u)):=by cases u<;>rfl
theorem NC{p:Rk}{u:Bool}:atI p.vs (sd u+2)=some (.int (p.hi u)):=by cases u<;>rfl
theorem TY{u:Bool}:atI [V.str "level",V.str "upright"] (sd u)=some (.str (wd u)):=by cases u<;>rfl
theorem Dl{p:Rk}(h:p.ok)(u:Bool):p.lo u<p.hi u:=by
 cases u
 .exact h.1
 .exact h.2
def MB(u:Bool)(a:Int)(g:Rk×Option Int):Bool:=decide (g.1.lo u<a)&&decide (a<g.1.hi u)
theorem EW{ts:List PT}{i:Nat}{x:V}(h:(pcs ts)[i]?=some x):∃u,ts[i]?=some u/\x=.ref u.1:=by
 rw[List.getElem?_map]at h;cases e:ts[i]? with
 |none=>rw[e]at h;cases h
 |some u=>rw[e]at h;exact⟨u,rfl,(Option.some.inj h).symm⟩
def LnAt(H:Hp)(l:Addr)(cs:List (Bool×Int)):Prop:=∃ts:List (Addr×Bool×Int),H l=some (.lst (Ev ts))/\(∀t∈ts,H t.1=some (.tup [.str (wd t.2.1),.int t.2.2]))/\ts.map (·.2)=cs
theorem LnAt.same{H H':Hp}{a:Addr}{ks:List (Bool×Int)}(h:LnAt H a ks)(s:Same H H'):LnAt H' a ks :=
 let ⟨ts,a,b,c⟩:=h;⟨ts,s _ _ a,λ t ht=>s _ _ (b t ht),c⟩
structure Fnd(L:List (Rk×Option Int))(p:Rk)(dn:Bool->Int->Prop)(cs:List (Bool×Int)):Prop where
 ok:∀x∈cs,p.lo x.1<x.2/\x.2<p.hi x.1/\∀g∈L,¬brk x.1 x.2 g
 all:∀u a,dn u a->p.lo u<a->a<p.hi u->(∀g∈L,¬brk u a g)->(u,a)∈cs
theorem RJ{p:Rk}{u:Bool}{a:Int}(h:∀v,0<=p.lo v/\p.hi v<=12)(a1:1<=a)(a2:a<p.len u):(∀v,0<=(p.fst u a).lo v/\(p.fst u a).hi v<=12)/\(∀v,0<=(p.oth u a).lo v/\(p.oth u a).hi v<=12)/\(p.fst u a).len true+(p.fst u a).len false<p.len true+p.len false/\(p.oth u a).len true+(p.oth u a).len false<p.len true+p.len false:=by
 obtain⟨x1,x2⟩:=h true;obtain⟨y1,y2⟩:=h false;have x1:0<=p.l:=x1;have x2:p.r<=12:=x2;have y1:0<=p.t:=y1;have y2:p.b<=12:=y2;cases u with
 |true =>
  have a2:a<p.r-p.l:=a2;refine⟨λ v=>?_,λ v=>?_,?_,?_⟩
  .cases v
   .exact⟨y1,y2⟩
   .exact⟨x1,show p.l+a<=12 by lia⟩
  .cases v
   .exact⟨y1,y2⟩
   .exact⟨show 0<=p.l+a by lia,x2⟩
  .show p.l+a-p.l+(p.b-p.t)<p.r-p.l+(p.b-p.t);lia
  .show p.r-(p.l+a)+(p.b-p.t)<p.r-p.l+(p.b-p.t);lia
 |false =>
  have a2:a<p.b-p.t:=a2;refine⟨λ v=>?_,λ v=>?_,?_,?_⟩
  .cases v
   .exact⟨y1,show p.t+a<=12 by lia⟩
   .exact⟨x1,x2⟩
  .cases v
   .exact⟨show 0<=p.t+a by lia,y2⟩
   .exact⟨x1,x2⟩
  .show p.r-p.l+(p.t+a-p.t)<p.r-p.l+(p.b-p.t);lia
  .show p.r-p.l+(p.b-(p.t+a))<p.r-p.l+(p.b-p.t);lia
def OL(en:Rk->En)(D:Rk->Prop):Tr->Rk->Prop
 |.whole m,p=>D p/\en p=.w m
 |.cut u k x y,p=>D p/\en p=.c u k/\OL en D x (p.fst u k)/\OL en D y (p.oth u k)
def EE(u:Bool)(a:Int)(r:Rk):Bool:=decide (r.lo u<a)&&decide (a<r.hi u)
theorem brkR_iff{u:Bool}{a:Int}{r:Rk}:EE u a r=true↔r.lo u<a/\a<r.hi u:=by
 unfold EE;rw[Bool.and_eq_true,decide_eq_true_iff,decide_eq_true_iff]
def EY(rs:List Rk)(u:Bool)(lo:Int):Nat->List Int
 |0=>[]
 |n+1=>EY rs u lo n++if rs.any (EE u (lo+1+n))=true then [] else [lo+1+n]
def lns(rs:List Rk)(p:Rk)(u:Bool):List Int:=EY rs u (p.lo u) (p.hi u-(p.lo u+1)).toNat
theorem Lh{rs:List Rk}{u:Bool}{lo:Int}:∀{n:Nat}{a:Int},a∈EY rs u lo n↔lo<a/\a<lo+1+n/\∀r∈rs,¬(r.lo u<a/\a<r.hi u)
 |0,a=>by
  rw[EY];exact⟨λ h=>absurd h List.not_mem_nil,λ h=>by lia⟩
 |n+1,a=>by
  rw[EY,List.mem_append,Lh]
  constructor
  .rintro(⟨h1,h2,h3⟩|h)
   .exact⟨h1,by lia,h3⟩
   .split at h
    .cases h
    .rename_i hn;cases List.mem_singleton.mp h;refine⟨by lia,by lia,λ r hr z=>hn ?_⟩;exact List.any_eq_true.mpr ⟨r,hr,brkR_iff.mpr z⟩
  .rintro⟨h1,h2,h3⟩;by_cases e:a=lo+1+n
   .right
    subst e;rw[if_neg (λ z=>by obtain⟨r,hr,hz⟩:=List.any_eq_true.mp z;exact h3 r hr (brkR_iff.mp hz))];exact List.mem_singleton.mpr rfl
   .exact .inl ⟨h1,by lia,h3⟩
theorem DI{rs:List Rk}{u:Bool}{lo:Int}:∀n:Nat,(EY rs u lo n).length<=n
 |0=>Nat.le_refl _
 |n+1=>by
  have:=DI (rs:=rs) (u:=u) (lo:=lo) n;rw[EY,List.length_append];split<;>simp<;>lia
theorem JV{rs:List Rk}{p:Rk}{u:Bool}{a:Int}(h:p.ok):a∈lns rs p u↔p.lo u<a/\a<p.hi u/\∀r∈rs,¬(r.lo u<a/\a<r.hi u):=by
 have:p.lo u<p.hi u:=Dl h u;unfold lns;rw[Lh]
 constructor
 .rintro⟨a1,a2,a3⟩;exact⟨a1,by lia,a3⟩
 .rintro⟨a1,a2,a3⟩;exact⟨a1,by lia,a3⟩
def Dc(rs:List Rk)(p:Rk):List (Bool×Int):=(lns rs p true).map (λ a=>(true,a))++(lns rs p false).map (λ a=>(false,a))
theorem DH{rs:List Rk}{p:Rk}{c:Bool×Int}(h:p.ok):c∈Dc rs p↔p.lo c.1<c.2/\c.2<p.hi c.1/\∀r∈rs,¬(r.lo c.1<c.2/\c.2<r.hi c.1):=by
 obtain⟨u,a⟩:=c;unfold Dc;rw[List.mem_append,List.mem_map,List.mem_map]
 constructor
 .rintro(⟨b,hb,e⟩|⟨b,hb,e⟩)<;>cases e<;>exact(JV h).mp hb
 .intro z;cases u
  .exact .inr ⟨a,(JV h).mpr z,rfl⟩
  .exact .inl ⟨a,(JV h).mpr z,rfl⟩
theorem Q4{L:List (Rk×Option Int)}{p:Rk}(h:p.ok):Fnd L p (λ_ _=>True) (Dc (L.map (·.1)) p) :=
 ⟨λ x hx=>by
  obtain⟨a,b,c⟩:=(DH h).mp hx;exact⟨a,b,λ g hg z=>c g.1 (List.mem_map.mpr ⟨g,hg,rfl⟩) z⟩,λ u a _ a1 a2 nb=>(DH h).mpr ⟨a1,a2,λ r hr z=>by
  obtain⟨g,hg,rfl⟩:=List.mem_map.mp hr;exact nb g hg z⟩⟩
theorem Q3{rs:List Rk}{p:Rk}(h:p.ok)(hb:∀u,0<=p.lo u/\p.hi u<=12):(Dc rs p).length<=24:=by
 unfold Dc;rw[List.length_append,List.length_map,List.length_map];have a:=DI (rs:=rs) (u:=true) (lo:=p.lo true) (p.hi true-(p.lo true+1)).toNat;have b:=DI (rs:=rs) (u:=false) (lo:=p.lo false) (p.hi false-(p.lo false+1)).toNat;have:=hb true;have:=hb false;unfold lns;lia
def thE(p:Rk):List (Bool×Int)->En
 |c::_=>.c c.1 (c.2-p.lo c.1)
 |[]=>.w none
def enL(L:List (Rk×Option Int))(p:Rk):En:=match L with
 |[g]=>.w g.2
 |_=>thE p (Dc (L.map (·.1)) p)
theorem Qb{L:List (Rk×Option Int)}{p:Rk}(h:L.length≠1):enL L p=thE p (Dc (L.map (·.1)) p):=by
 match L,h with
 |[],_=>rfl
 |[g],h=>exact absurd rfl h
 |_::_::_,_=>rfl
def Ins(r p:Rk):Prop:=p.t<=r.t/\p.l<=r.l/\r.b<=p.b/\r.r<=p.r
instance (r p:Rk):Decidable (Ins r p):=inferInstanceAs (Decidable (_/\_/\_/\_))
def inP(L:List (Rk×Option Int))(p:Rk):List (Rk×Option Int):=L.filter λ g=>decide (Ins g.1 p)
theorem ins_iff{r p:Rk}:Ins r p↔∀u,p.lo u<=r.lo u/\r.hi u<=p.hi u:=by
 constructor
 .rintro⟨a,b,c,d⟩ u;cases u
  .exact⟨a,c⟩
  .exact⟨b,d⟩
 .intro h;exact⟨(h false).1,(h true).1,(h false).2,(h true).2⟩
theorem IH{p:Rk}{u v:Bool}{k:Int}(k1:1<=k)(k2:k<p.len u):(p.fst u k).lo v=p.lo v/\(p.fst u k).hi v=(if u=v then p.lo u+k else p.hi v)/\(p.oth u k).lo v=(if u=v then p.lo u+k else p.lo v)/\(p.oth u k).hi v=p.hi v:=by
 cases u<;>cases v<;>exact⟨rfl,rfl,rfl,rfl⟩
theorem PH{L:List (Rk×Option Int)}{p:Rk}{u:Bool}{k:Int}(hL:∀g∈L,∀v,g.1.lo v<g.1.hi v)(k1:1<=k)(k2:k<p.len u)(nb:∀g∈inP L p,¬brk u (p.lo u+k) g) :
  inP L (p.fst u k)=(inP L p).filter (λ g=>decide (g.1.lo u<p.lo u+k))/\inP L (p.oth u k)=(inP L p).filter (λ g=>decide (p.lo u+k<=g.1.lo u)):=by
 rw[B9]at k2;have k2':k<p.len u:=by rw[B9];exact k2
 unfold inP;rw[List.filter_filter,List.filter_filter]
 constructor
 .refine List.filter_congr λ g hg=>?_;rw[Bool.eq_iff_iff,Bool.and_eq_true,decide_eq_true_iff,decide_eq_true_iff,decide_eq_true_iff];have lt:=hL g hg u
  constructor
  .intro z;have zz:=ins_iff.mp z;have zu:=zz u;obtain⟨_,r2,_,_⟩:=IH (p:=p) (u:=u) (v:=u) k1 k2';rw[r2,if_pos rfl]at zu;refine⟨by lia,ins_iff.mpr λ v=>?_⟩;have zv:=zz v;obtain⟨q1,q2,_,_⟩:=IH (p:=p) (u:=u) (v:=v) k1 k2';rw[q1,q2]at zv;by_cases e:u=v
   .subst e;rw[if_pos rfl]at zv;lia
   .rw[if_neg e]at zv;exact zv
  .rintro⟨a,b⟩;have nbg:=nb g (List.mem_filter.mpr ⟨hg,decide_eq_true b⟩);have bb:=ins_iff.mp b;refine ins_iff.mpr λ v=>?_;have bv:=bb v;obtain⟨q1,q2,_,_⟩:=IH (p:=p) (u:=u) (v:=v) k1 k2';rw[q1,q2];by_cases e:u=v
   .subst e;rw[if_pos rfl];exact⟨bv.1,Classical.byContradiction λ z=>nbg ⟨a,by lia⟩⟩
   .rw[if_neg e];exact bv
 .refine List.filter_congr λ g hg=>?_;rw[Bool.eq_iff_iff,Bool.and_eq_true,decide_eq_true_iff,decide_eq_true_iff,decide_eq_true_iff];have lt:=hL g hg u
  constructor
  .intro z;have zz:=ins_iff.mp z;have zu:=zz u;obtain⟨_,_,r3,_⟩:=IH (p:=p) (u:=u) (v:=u) k1 k2';rw[r3,if_pos rfl]at zu;refine⟨zu.1,ins_iff.mpr λ v=>?_⟩;have zv:=zz v;obtain⟨_,_,q3,q4⟩:=IH (p:=p) (u:=u) (v:=v) k1 k2';rw[q3,q4]at zv;by_cases e:u=v
   .subst e;rw[if_pos rfl]at zv;lia
   .rw[if_neg e]at zv;exact zv
  .rintro⟨a,b⟩;have bb:=ins_iff.mp b;refine ins_iff.mpr λ v=>?_;have bv:=bb v;obtain⟨_,_,q3,q4⟩:=IH (p:=p) (u:=u) (v:=v) k1 k2';rw[q3,q4];by_cases e:u=v
   .subst e;rw[if_pos rfl];exact⟨a,bv.2⟩
   .rw[if_neg e];exact bv
def IsF:Tr->List (Rk×Option Int)->Rk->Prop
 |.whole m,L,p=>L=[(p,m)]
 |.cut u k x y,L,p=>(Dc (L.map (·.1)) p).head?=some (u,p.lo u+k)/\IsF x (L.filter λ g=>decide (g.1.lo u<p.lo u+k)) (p.fst u k)/\IsF y (L.filter λ g=>decide (p.lo u+k<=g.1.lo u)) (p.oth u k)
def DF(L:List (Rk×Option Int))(p:Rk):Prop:=p.ok/\(∀u,0<=p.lo u/\p.hi u<=12)/\∃t,Bk p t/\(inP L p).Perm (Az t p)
theorem O2{L:List (Rk×Option Int)}(hL:∀g∈L,∀v,g.1.lo v<g.1.hi v):∀(n:Nat)(p:Rk),(p.len true+p.len false).toNat=n->DF L p->∃F,OL (λ p=>enL (inP L p) p) (DF L) F p/\Bk p F/\IsF F (inP L p) p/\(Az F p).Perm (inP L p):=by
 intro n
 induction n using Nat.strongRecOn with
 |ind n ih =>
  intro p hn df;have df0:=df;obtain⟨ok,bd,t,fit,pm⟩:=df;have len:=pm.length_eq;rw[AC]at len;by_cases h1:(inP L p).length=1
  .obtain⟨g,hg⟩:=List.length_eq_one_iff.mp h1;obtain⟨m,rfl⟩:=OW (len.symm.trans h1);rw[Az,hg]at pm;have e:=List.mem_singleton.mp (pm.mem_iff.mp (List.mem_singleton.mpr rfl));subst e;refine⟨.whole m,⟨df0,by show enL (inP L p) p=_;rw[hg];rfl⟩,trivial,hg,by rw[hg];exact List.Perm.refl _⟩
  .obtain⟨c,rest,hc⟩:∃c rest,Dc ((inP L p).map (·.1)) p=c::rest:=by
    cases t with
    |whole m=>exact absurd len h1
    |cut u0 k0 x0 y0 =>
     obtain⟨⟨k1,k2⟩,fx,fy⟩:=fitR_cut.mp fit;obtain⟨_,_,nb⟩:=Cs ok k1 k2 fx fy;rw[B9]at k2;have m:=(DH (rs:=(inP L p).map (·.1)) (c:=(u0,p.lo u0+k0)) ok).mpr ⟨by show p.lo u0<p.lo u0+k0;lia,by show p.lo u0+k0<p.hi u0;lia,λ r hr z=>by
      obtain⟨g,hg,rfl⟩:=List.mem_map.mp hr;exact nb g (by have:=pm.mem_iff.mp hg;rw[Az]at this;exact this) z⟩
     cases q:Dc ((inP L p).map (·.1)) p with
     |nil=>rw[q]at m;cases m
     |cons c r=>exact⟨c,r,rfl⟩
   obtain⟨u,a⟩:=c;obtain⟨a1,a2,nb⟩:=(DH ok).mp (hc ▸ List.mem_cons_self:(u,a)∈Dc ((inP L p).map (·.1)) p);have a1:p.lo u<a:=a1;have a2:a<p.hi u:=a2;obtain⟨k,rfl⟩:∃k,a=p.lo u+k:=⟨a-p.lo u,by lia⟩;have k1:1<=k:=by lia
   have k2:k<p.len u:=by rw[B9];lia
   have nb':∀g∈inP L p,¬brk u (p.lo u+k) g:=λ g hg z=>nb g.1 (List.mem_map.mpr ⟨g,hg,rfl⟩) z;obtain⟨th,fa,fb,q1,q2⟩:=Ft ok fit pm k1 k2 nb';obtain⟨o1,o2⟩:=DA (u:=u) ok k1 k2;obtain⟨l1,l2,lt1,lt2⟩:=RJ (u:=u) (a:=k) bd k1 k2;obtain⟨i1,i2⟩:=PH hL k1 k2 nb';have d1:DF L (p.fst u k):=⟨o1,l1,_,fa,by rw[i1];exact q1⟩;have d2:DF L (p.oth u k):=⟨o2,l2,_,fb,by rw[i2];exact q2⟩;have pos1:0<=(p.fst u k).len true+(p.fst u k).len false:=by
    have:=Dl o1 true;have:=Dl o1 false;rw[B9,B9];lia
   have pos2:0<=(p.oth u k).len true+(p.oth u k).len false:=by
    have:=Dl o2 true;have:=Dl o2 false;rw[B9,B9];lia
   obtain⟨X,gx,fx,sx,px⟩:=ih _ (by lia) (p.fst u k) rfl d1;obtain⟨Y,gy,fy,sy,py⟩:=ih _ (by lia) (p.oth u k) rfl d2;refine⟨.cut u k X Y,⟨df0,?_,gx,gy⟩,fitR_cut.mpr ⟨⟨k1,k2⟩,fx,fy⟩,⟨by rw[hc];rfl,i1 ▸ sx,i2 ▸ sy⟩,?_⟩
   .show enL (inP L p) p=_;rw[Qb h1,hc];show En.c u (p.lo u+k-p.lo u)=_;rw[show p.lo u+k-p.lo u=k by lia]
   .rw[Az];refine(px.append py).trans ?_;rw[i1,i2];exact(q1.append q2).trans ((BU (p:=p) th).symm.trans pm.symm)
theorem Sj{M:List (Rk×Option Int)}{t:Tr}{p:Rk}(ok:p.ok)(fit:Bk p t)(pm:M.Perm (Az t p))(h1:M.length≠1):Dc (M.map (·.1)) p≠[]:=λ q=>by
 have len:=pm.length_eq;rw[AC]at len;cases t with
 |whole m=>exact absurd len h1
 |cut u0 k0 x0 y0 =>
  obtain⟨⟨k1,k2⟩,fx,fy⟩:=fitR_cut.mp fit;obtain⟨_,_,nb⟩:=Cs ok k1 k2 fx fy;rw[B9]at k2;have m:=(DH (rs:=M.map (·.1)) (c:=(u0,p.lo u0+k0)) ok).mpr ⟨by show p.lo u0<p.lo u0+k0;lia,by show p.lo u0+k0<p.hi u0;lia,λ r hr z=>by
   obtain⟨g,hg,rfl⟩:=List.mem_map.mp hr;exact nb g (by have:=pm.mem_iff.mp hg;rw[Az]at this;exact this) z⟩
  rw[q]at m;cases m
theorem PM:∀{A B:List (Rk×Option Int)},BZ (gsD A) (gsD B)=true->A=B
 |[],[],_=>rfl
 |[],b::B,h=>by simp[gsD,BZ]at h
 |a::A,[],h=>by simp[gsD,BZ]at h
 | (a,m)::A,(b,m')::B,h=>by
  simp only[gsD,gD,deq,BZ,Bool.and_eq_true,and_true]at h;obtain⟨⟨⟨h1,h2,h3,h4⟩,h5⟩,h6⟩:=h;rw[PM h6,(RO m m').mp h5];obtain⟨a1,a2,a3,a4⟩:=a;obtain⟨b1,b2,b3,b4⟩:=b;cases Rj _ _ h1;cases Rj _ _ h2;cases Rj _ _ h3;cases Rj _ _ h4;rfl
theorem Rl{r p:Rk}:(decide (p.t<=r.t)&&decide (p.l<=r.l)&&(decide (r.b<=p.b)&&decide (r.r<=p.r)))=decide (Ins r p):=by
 rw[Bool.eq_iff_iff,decide_eq_true_iff];simp only[Bool.and_eq_true,decide_eq_true_iff];exact⟨λ⟨⟨a,b⟩,c,d⟩=>⟨a,b,c,d⟩,λ⟨a,b,c,d⟩=>⟨⟨a,b⟩,c,d⟩⟩
inductive HS(vs:LUz)(H:Hp)(Q:VK)(E:XK):Prop
 |mk (a b:Addr) (r p:Rk) (h0:vs=[.ref a,.ref b]) (h1:H a=some (.tup r.vs)) (h2:H b=some (.tup p.vs)) (h3:Q (.bl (decide (Ins r p))) H):HS vs H Q E
def ID:Sp:=λ vs H Q E=>HS vs H Q E
theorem Qt:An ["one","other","starts_within"] ["one","other"] (Ag G6):=fsc
theorem Ol{f:Addr}{fd:FuncData}(F:Fun K "inside" "inside" G6 f fd):A8 P w K mg base CX0 1 f fd ["one","other"] ID:=by
 have S:=Qt;refine F.ok S (λ vs H Q E h=>?_) (λ cdv A outer s H vs Q E hr h=>?_)
 .obtain⟨a,b,r,p,rfl,_⟩:=h;rfl
 .obtain⟨a,b,r,p,rfl,ha,hb,q⟩:=h;refine⟨_,(Ac (As (i:=2) S.nd rfl (Or.inl rfl) (Fs (BB GJ (Al Am (pv 1) Ad (λ_ _=>rfl)) (Al Am (pv 0) Ad (λ_ _=>rfl)) (Aq _)) (Fq (BB GJ (Al Am (pv 1) Ad (λ_ _=>rfl)) (Al Am (pv 0) Ad (λ_ _=>rfl)) (Aq _)))))
   (Af (Ak (Fs (pv 2) (Fs (BB GJ (Al Am (pv 0) Ad (λ_ _=>rfl)) (Al Am (pv 1) Ad (λ_ _=>rfl)) (Aq _)) (Fq (BB GJ (Al Am (pv 0) Ad (λ_ _=>rfl)) (Al Am (pv 1) Ad (λ_ _=>rfl)) (Aq _)))))))),?_⟩
  rw[<-Rl]at q;have key:=q;refine⟨_,rfl,b,_,_,_,rfl,rfl,SqT.of hb,at0,_,rfl,a,_,_,_,rfl,rfl,SqT.of ha,at0,_,_,rfl,rfl,_,rfl,Bg (λ h1=>?_) (λ h1=>?_)⟩
  .refine⟨_,rfl,b,_,_,_,rfl,rfl,SqT.of hb,at1,_,rfl,a,_,_,_,rfl,rfl,SqT.of ha,at1,_,_,rfl,rfl,?_⟩;refine⟨_,rfl,_,rfl,Bg (λ h2=>?_) (λ h2=>?_)⟩
   .refine⟨_,rfl,a,_,_,_,rfl,rfl,SqT.of ha,at2,_,rfl,b,_,_,_,rfl,rfl,SqT.of hb,at2,_,_,rfl,rfl,_,rfl,Bg (λ h3=>?_) (λ h3=>?_)⟩
    .refine⟨_,rfl,a,_,_,_,rfl,rfl,SqT.of ha,at3,_,rfl,b,_,_,_,rfl,rfl,SqT.of hb,at3,_,_,rfl,rfl,?_⟩;rw[h1,h2,h3]at key;exact key
    .show Q (.bl false) H;rw[h1,h2,h3]at key;exact key
   .show Q (.bl false) H;rw[h1,h2]at key;exact key
  .refine⟨_,rfl,_,rfl,Ll ?_⟩;show Q (.bl false) H;rw[h1]at key;exact key
abbrev rcs(ts:List (Addr×Rk)):List Rk:=ts.map (·.2)
def PnO(H:Hp)(ts:List (Addr×Rk)):Prop:=∀t∈ts,H t.1=some (.tup t.2.vs)
theorem PnO.same{H H':Hp}{ts:List (Addr×Rk)}(h:PnO H ts)(s:Same H H'):PnO H' ts:=λ t ht=>s _ _ (h t ht)
inductive NO(vs:LUz)(H:Hp)(Q:VK)(E:XK):Prop
 |mk (a:Int) (b:Addr) (r:Rk) (u:Bool) (h0:vs=[.int a,.ref b,.int (sd u)]) (h1:H b=some (.tup r.vs)) (h2:Q (.bl (EE u a r)) H):NO vs H Q E
def Pb:Sp:=λ vs H Q E=>NO vs H Q E
theorem Io:An ["line","pane","side"] ["line","pane","side"] (Ag C9):=fsc
theorem GM{f:Addr}{fd:FuncData}(F:Fun K "line_breaks" "line_breaks" C9 f fd):A8 P w K mg base CX0 1 f fd ["line","pane","side"] Pb:=by
 have S:=Io;refine F.ok S (λ vs H Q E h=>?_) (λ cdv A outer s H vs Q E hr h=>?_)
 .obtain⟨a,b,r,u,rfl,_⟩:=h;rfl
 .obtain⟨a,b,r,u,rfl,hb,q⟩:=h;refine⟨_,(Af (Ak (GH BS BS (Al Am (pv 1) (pv 2) (λ_ _=>rfl)) (pv 0) (Al Am (pv 1) (Au AW (pv 2) Ad) (λ_ _=>rfl))))),?_⟩;unfold EE at q;refine⟨_,rfl,_,rfl,b,_,_,_,rfl,rfl,SqT.of hb,Fc,_,rfl,_,_,rfl,rfl,_,rfl,Bg (λ h1=>?_) (λ h1=>?_)⟩
  .rw[h1,Bool.true_and]at q;exact⟨_,rfl,_,rfl,_,_,rfl,rfl,b,_,_,_,rfl,rfl,SqT.of hb,NC,_,_,rfl,rfl,q⟩
  .rw[h1]at q;exact q
inductive LD(vs:LUz)(H:Hp)(Q:VK)(E:XK):Prop
 |mk (a:Int) (l:Addr) (ts:List (Addr×Rk)) (u:Bool) (h0:vs=[.int a,.ref l,.int (sd u)]) (h1:H l=some (.lst (Ev ts))) (h2:PnO H ts) (h3:ts.length<=150) (h4:∀H',Same H H'->Q (.bl (!(rcs ts).any (EE u a))) H'):LD vs H Q E
def MW:Sp:=λ vs H Q E=>LD vs H Q E
theorem HJ:An ["line","panes","side"] ["line","panes","side"] (Ag Cm):=fsc
theorem FS{f:Addr}{fd:FuncData}(F:Fun K "goes_through" "goes_through" Cm f fd)(T:Txt mg tk)(D_line_breaks:Av P w K mg base 1 "line_breaks" ["line","pane","side"] Pb):A8 P w K mg base CX0 2 f fd ["line","panes","side"] MW:=by
 have S:=HJ;refine F.ok S (λ vs H Q E h=>?_) (λ cdv A outer s H vs Q E hr h=>?_)
 .obtain⟨a,l,ts,u,rfl,_⟩:=h;rfl
 .obtain⟨a,l,ts,u,rfl,hl,hat,few,q⟩:=h;refine⟨_,(Af (Ak (JI (A6 Ly rfl T.z_any rfl (Aa (Nl rfl (BL (pv 1)) (λ_ _ _ _ _=>(Aw (i:=0) (show List.Nodup (["pane","line","side"]:LSz) from by decide +kernel) rfl (Or.inl rfl))) (λ_ _ _ _ _=>(Aj D_line_breaks hr (Aa (pv 1) (Aa (pv 0) (Aa (pv 2) Ab))))) (N:=["pane","line","side"]) (fr:=[none,some 0,some 2])) Ab))))),?_⟩;refine⟨_,rfl,l,rfl,⟨_,SqL.of hl⟩,λ acc hacc=>F6 (K:=K) (a:=l) (ys:=Ev ts) (λ i xs σ H'=>(∃y,σ=[y,some (.int a),some (.int (sd u))])/\Same H H'/\xs=((rcs ts).take i).map λ p=>V.bl (EE u a p)) ⟨⟨none,rfl⟩,Same.new hacc,rfl⟩ (λ i xs σ H' _ _ hp=>SqL.of (hp.2.1 _ _ hl)) ?_ ?_⟩
  .rintro i x xs σ H' hx hi hl' hacc' ⟨⟨y,rfl⟩,s4,rfl⟩;obtain⟨t,ht,rfl⟩:=Pm hx;have hta:=s4 _ _ (hat t (List.mem_of_getElem? ht));have er:(rcs ts)[i]?=some t.2:=by rw[List.getElem?_map,ht];rfl
   refine⟨_,rfl,_,rfl,_,rfl,a,t.1,t.2,u,rfl,hta,?_⟩;refine cNx.mk (Nat.le_of_lt (A0 (by rw[CS];lia))) hi hl' hacc' ⟨⟨_,rfl⟩,λ c o e=>?_,?_⟩
   .rw[Ah (Ae e hacc)];exact s4 c o e
   .rw[List.take_succ,er,List.map_append];rfl
  .rintro xs σ H' hl' hacc' ⟨_,s4,rfl⟩;have e:(Ev ts).length=(rcs ts).length:=by rw[CS,List.length_map]
   rw[e,List.take_length]at hacc';have e2:List.map V.bl ((rcs ts).map (EE u a))=(rcs ts).map λ p=>V.bl (EE u a p):=by rw[List.map_map (l:=rcs ts)];rfl
   refine⟨acc,(rcs ts).map (EE u a),rfl,SqL.of (by rw[hacc',e2]),rfl,?_⟩;have:=q H' s4;have e3:((rcs ts).map (EE u a)).any id=(rcs ts).any (EE u a):=by rw[List.any_map];rfl
   rw[<-e3]at this;exact⟨_,rfl,this⟩
inductive NI(vs:LUz)(H:Hp)(Q:VK)(E:XK):Prop
 |mk (b l:Addr) (p:Rk) (ts:List (Addr×Rk)) (u:Bool) (h0:vs=[.ref b,.ref l,.int (sd u)]) (h1:H b=some (.tup p.vs)) (h2:H l=some (.lst (Ev ts))) (h3:PnO H ts) (h4:ts.length<=150) (h5:p.ok) (h6:(∀u,0<=p.lo u/\p.hi u<=12)) (h7:∀c H',Same H H'->H' c=some (.lst ((lns (rcs ts) p u).map V.int))->Q (.ref c) H'):NI vs H Q E
def OZ:Sp:=λ vs H Q E=>NI vs H Q E
theorem FW:An ["block","panes","side"] ["block","panes","side"] (Ag BV):=fsc
theorem Fu{f:Addr}{fd:FuncData}(F:Fun K "lines_through" "lines_through" BV f fd)(T:Txt mg tk)(D_goes_through:Av P w K mg base 2 "goes_through" ["line","panes","side"] MW):A8 P w K mg base CX0 3 f fd ["block","panes","side"] OZ:=by
 have S:=FW;refine F.ok S (λ vs H Q E h=>?_) (λ cdv A outer s H vs Q E hr h=>?_)
 .obtain⟨b,l,p,ts,u,rfl,_⟩:=h;rfl
 .obtain⟨b,l,p,ts,u,rfl,hb,hl,hat,few,pk,pb,q⟩:=h;refine⟨_,(Af (Ak (KD rfl (IJ rfl T.z_range (Aa (Au AW (Al Am (pv 0) (pv 2) (λ_ _=>rfl)) Ad) (Aa (Al Am (pv 0) (Au AW (pv 2) Ad) (λ_ _=>rfl)) Ab))) (λ_ _ _ _ _=>(Aw (i:=0) (show List.Nodup (["line","panes","side"]:LSz) from by decide +kernel) rfl (Or.inl rfl))) (λ_ _ _ _ _=>(CI (Aj D_goes_through hr (Aa (pv 0) (Aa (pv 1) (Aa (pv 2) Ab)))))) (λ_ _ _ _ _=>(pv 0)) (N:=["line","panes","side"]) (fr:=[none,some 1,some 2])))),?_⟩;obtain⟨b0,b1⟩:=pb u;have hlt:=Dl pk u;refine⟨_,rfl,_,rfl,b,_,_,_,rfl,rfl,SqT.of hb,Fc,_,_,rfl,rfl,_,rfl,_,rfl,_,_,rfl,rfl,b,_,_,_,rfl,rfl,SqT.of hb,NC,p.lo u+1,p.hi u,rfl,⟨by lia,by lia,by lia,by lia⟩,λ acc hacc=>Lw (lo:=p.lo u+1) (n:=(p.hi u-(p.lo u+1)).toNat) (λ i xs σ H'=>(∃y,σ=[y,some (.ref l),some (.int (sd u))])/\Same H H'/\xs=(EY (rcs ts) u (p.lo u) i).map V.int) ⟨⟨none,rfl⟩,Same.new hacc,rfl⟩ ?_ ?_⟩
  .rintro i xs σ H' hi' hxl hacc' ⟨⟨y,rfl⟩,s1,rfl⟩;refine⟨_,rfl,_,rfl,_,rfl,p.lo u+1+i,l,ts,u,rfl,s1 _ _ hl,hat.same s1,few,λ H2 s2=>⟨_,rfl,?_⟩⟩;cases hb':(rcs ts).any (EE u (p.lo u+1+i)) with
   |true =>
    refine fSk.mk hi' hxl (s2 _ _ hacc') ⟨⟨_,rfl⟩,s1.trans s2,?_⟩;rw[EY,hb',if_pos rfl,List.append_nil]
   |false =>
    refine⟨_,rfl,fNx.mk (Nat.le_of_lt (A0 (by lia))) hi' hxl (s2 _ _ hacc') ⟨⟨_,rfl⟩,λ c o e=>?_,?_⟩⟩
    .rw[Ah (Ae e hacc)];exact(s1.trans s2) c o e
    .rw[EY,hb',if_neg Bool.false_ne_true,List.map_append];rfl
  .rintro xs σ H' hxl hacc' ⟨_,s1,rfl⟩;exact q acc H' s1 hacc'
abbrev pns(ts:List PT):List (Addr×Rk):=ts.map λ t=>(t.2.1,t.2.2.1)
theorem Nj(ts:List PT):rcs (pns ts)=(cons ts).map (·.1):=by
 show List.map _ (List.map _ ts)=List.map _ (List.map _ ts);rw[List.map_map,List.map_map];rfl
inductive HU(vs:LUz)(H:Hp)(Q:VK)(E:XK):Prop
 |mk (b l:Addr) (p:Rk) (ts:List PT) (t:Tr) (h0:vs=[.ref b,.ref l]) (h1:H b=some (.tup p.vs)) (h2:H l=some (.lst (pcs ts))) (h3:PcO H ts) (h4:ts.length<=150) (h5:p.ok) (h6:(∀u,0<=p.lo u/\p.hi u<=12)) (h7:Bk p t) (h8:(cons ts).Perm (Az t p)) (h9:∀e H',Same H H'->H' e=some (.tup (enV (enL (cons ts) p)))->Q (.ref e) H'):HU vs H Q E
def IF:Sp:=λ vs H Q E=>HU vs H Q E
theorem L7:An ["block","some","panes","uprights","levels"] ["block","some"] (Ag D0):=fsc
theorem Qp{x:V}{r:LUz}:atI (x::r) 0=some x:=Gn (xs:=x::r) (j:=0) (v:=x) rfl
theorem JP{f:Addr}{fd:FuncData}(F:Fun K "entry_for" "entry_for" D0 f fd)(T:Txt mg tk)(D_lines_through:Av P w K mg base 3 "lines_through" ["block","panes","side"] OZ):A8 P w K mg base CX0 4 f fd ["block","some"] IF:=by
 have S:=L7;refine F.ok S (λ vs H Q E h=>?_) (λ cdv A outer s H vs Q E hr h=>?_)
 .obtain⟨b,l,p,ts,t,rfl,_⟩:=h;rfl
 .obtain⟨b,l,p,ts,t,rfl,hb,hl,pc,few,pk,pb,fit,pm,q⟩:=h;refine⟨_,(Ac (A3 (Ao AZ (A6 Ca rfl T.z_len rfl (Aa (pv 1) Ab)) Ad (Aq _)) (Af (Ak (At (Aa (Ax (v:=.str "whole") rfl T.g_WHOLE ⟨_,rfl⟩) (Aa (Al Am (Al AD (pv 1) Ad (λ_ _=>rfl)) Ad (λ_ _=>rfl)) Ab))))) Ar)
   (Ac (GC rfl (Aw (i:=2) S.nd rfl (Or.inl rfl)) (BL (pv 1)) (λ_ _ _ _ _=>(Gb (K:=K) (n:=2) rfl (Ay (Aw (i:=0) (show List.Nodup (["pane","mark"]:LSz) from by decide +kernel) rfl (Or.inl rfl)) (Ay (Aw (i:=1) (show List.Nodup (["pane","mark"]:LSz) from by decide +kernel) rfl (Or.inl rfl)) B3)))) (λ_ _ _ _ _=>(pv 0)) (N:=["pane","mark"]) (fr:=[none,none]))
   (Ac (As (i:=3) S.nd rfl (Or.inl rfl) (Aj D_lines_through hr (Aa (pv 0) (Aa (pv 2) (Aa (Ax (v:=.int 1) rfl T.g_LEFT ⟨_,rfl⟩) Ab)))))
   (Ac (A3 (CT (pv 3) (λ_=>rfl)) (Af (Ak (At (Aa (Ax (v:=.str "upright") rfl T.g_UPRIGHT ⟨_,rfl⟩) (Aa (Au Bq (Al AD (pv 3) Ad (λ_ _=>rfl)) (Al Am (pv 0) (Ax (v:=.int 1) rfl T.g_LEFT ⟨_,rfl⟩) (λ_ _=>rfl))) Ab))))) Ar)
   (Ac (As (i:=4) S.nd rfl (Or.inl rfl) (Aj D_lines_through hr (Aa (pv 0) (Aa (pv 2) (Aa (Ax (v:=.int 0) rfl T.g_TOP ⟨_,rfl⟩) Ab)))))
   (Ac (A3 (CT (pv 4) (λ_=>rfl)) (Af (Ak (At (Aa (Ax (v:=.str "level") rfl T.g_LEVEL ⟨_,rfl⟩) (Aa (Au Bq (Al AD (pv 4) Ad (λ_ _=>rfl)) (Al Am (pv 0) (Ax (v:=.int 0) rfl T.g_TOP ⟨_,rfl⟩) (λ_ _=>rfl))) Ab))))) Ar)
   (Af (Ak (At (Aa (Ax (v:=.str "room") rfl T.g_ROOM ⟨_,rfl⟩) (Aa (pv 0) Ab))))))))))),?_⟩
  refine⟨_,rfl,l,_,rfl,.inl (SqL.of hl),rfl,_,rfl,Bg (λ c=>?_) (λ c=>?_)⟩
  .have c:=V.int.inj (of_decide_eq_true c);have c:ts.length=1:=by rw[List.length_map]at c;lia
   obtain⟨x,rfl⟩:=List.length_eq_one_iff.mp c;have hx:=pc x (List.mem_singleton.mpr rfl);exact⟨_,rfl,l,_,_,_,rfl,rfl,SqL.of hl,rfl,x.1,_,_,_,rfl,rfl,SqT.of hx.1,Cw,Ap 2,λ e he=>q e _ (Same.new he) upd_same⟩
  .have c1:(cons ts).length≠1:=λ z=>of_decide_eq_false c (by rw[List.length_map]at z |-;rw[z];rfl);have ne:=Sj pk fit pm c1;rw[Qb c1]at q;refine⟨_,rfl,l,rfl,⟨_,SqL.of hl⟩,λ acc hacc=>F6 (K:=K) (a:=l) (ys:=pcs ts) (λ i zs σ H'=>(∃y z,σ=[y,z])/\Same H H'/\zs=Ev ((pns ts).take i)) ⟨⟨none,none,rfl⟩,Same.new hacc,rfl⟩ (λ i zs σ H' _ _ hp=>SqL.of (hp.2.1 _ _ hl)) ?_ ?_⟩
   .rintro i x zs σ H' hx hi hl' hacc' ⟨⟨y,z,rfl⟩,hs,rfl⟩;obtain⟨u,hu,rfl⟩:=EW hx;obtain⟨g1,g2⟩:=(pc.same hs) u (List.mem_of_getElem? hu);refine⟨u.1,_,rfl,SqT.of g1,rfl,_,_,rfl,_,_,rfl,rfl,_,rfl,?_⟩;refine cNx.mk (Nat.le_of_lt (A0 (by rw[List.length_map];lia))) hi hl' hacc' ⟨⟨_,_,rfl⟩,λ c o e=>?_,?_⟩
    .rw[Ah (Ae e hacc)];exact hs c o e
    .unfold Ev;rw[List.take_succ,List.getElem?_map,hu,List.map_append];rfl
   rintro zs σ H1 hzl ac1 ⟨_,s1,rfl⟩;have e1:(pcs ts).length=(pns ts).length:=by rw[List.length_map,List.length_map]
   rw[e1,List.take_length]at ac1;have pn1:PnO H1 (pns ts):=λ z hz=>by
    obtain⟨u,hu,rfl⟩:=List.mem_map.mp hz;exact s1 _ _ (pc u hu).2
   have few':(pns ts).length<=150:=by rw[List.length_map];exact few
   refine⟨_,rfl,_,rfl,b,acc,p,pns ts,true,rfl,s1 _ _ hb,ac1,pn1,few',pk,pb,λ c2 H2 s2 hc2=>?_⟩;rw[Nj]at hc2;have s12:=s1.trans s2;cases q1:lns ((cons ts).map (·.1)) p true with
   |cons x r =>
    rw[q1]at hc2;have eT:Dc ((cons ts).map (·.1)) p=(true,x)::(r.map (λ a=>(true,a))++(lns ((cons ts).map (·.1)) p false).map (λ a=>(false,a))):=by unfold Dc;rw[q1];rfl
    rw[eT]at q;refine⟨_,rfl,_,.inl ⟨_,SqL.of hc2,rfl⟩,AQ rfl ?_⟩;exact⟨_,rfl,c2,_,_,_,rfl,rfl,SqL.of hc2,Qp,_,rfl,b,_,_,_,rfl,rfl,SqT.of (s12 _ _ hb),Fc (u:=true),_,_,rfl,rfl,Ap 2,λ e he=>q e _ (s12.trans (Same.new he)) upd_same⟩
   |nil =>
    rw[q1]at hc2;refine⟨_,rfl,_,.inl ⟨_,SqL.of hc2,rfl⟩,AO rfl ?_⟩;refine⟨_,rfl,_,rfl,b,acc,p,pns ts,false,rfl,s12 _ _ hb,s2 _ _ ac1,pn1.same s2,few',pk,pb,λ c3 H3 s3 hc3=>?_⟩;rw[Nj]at hc3;have s13:=s12.trans s3;cases q2:lns ((cons ts).map (·.1)) p false with
    |cons x r =>
     rw[q2]at hc3;have eT:Dc ((cons ts).map (·.1)) p=(false,x)::r.map (λ a=>(false,a)):=by unfold Dc;rw[q1,q2];rfl
     rw[eT]at q;refine⟨_,rfl,_,.inl ⟨_,SqL.of hc3,rfl⟩,AQ rfl ?_⟩;exact⟨_,rfl,c3,_,_,_,rfl,rfl,SqL.of hc3,Qp,_,rfl,b,_,_,_,rfl,rfl,SqT.of (s13 _ _ hb),Fc (u:=false),_,_,rfl,rfl,Ap 2,λ e he=>q e _ (s13.trans (Same.new he)) upd_same⟩
    |nil =>
     refine absurd ?_ ne;unfold Dc;rw[q1,q2];rfl
def spE(en:Rk->En)(D:Rk->Prop):Sp:=λ vs H Q _=>∃(a:Addr)(p:Rk),vs=[.ref a]/\H a=some (.tup p.vs)/\D p/\∀e H',Same H H'->H' e=some (.tup (enV (en p)))->Q (.ref e) H'
inductive Q0(P:Program)(w:World)(K:Frag)(mg:MGz)(base:Heap)(vs:LUz)(H:Hp)(Q:VK)(E:XK):Prop
 |mk (a f:Addr) (p:Rk) (t:Tr) (en:Rk->En) (D:Rk->Prop) (h0:vs=[.ref a,.ref f]) (h1:H a=some (.tup p.vs)) (h2:FvOk P w K mg base 6 H f (spE en D)) (h3:OL en D t p) (h4:t.nd<=400) (h5:∀l xs H',Same H H'->H l=none->H' l=some (.lst xs)->EnsAt H' xs (AH t)->Q (.ref l) H'):Q0 P w K mg base vs H Q E
def RI(P:Program)(w:World)(K:Frag)(mg:MGz)(base:Heap) :Sp:=λ vs H Q E=>Q0 P w K mg base vs H Q E
theorem Kq:An ["sheet","entry_at","entries","waiting","piece","entry"] ["sheet","entry_at"] (Ag Df):=fsc
abbrev Uq(en:Rk->En)(D:Rk->Prop)(H:Hp)(a f:Addr)(t:Tr)(le lw:Addr)(m:Nat)(σ:St)(H':Hp):Prop:=∃(xs:LUz)(es:List En)(ws:List (Addr×Rk×Tr))(x4 x5:Option V),σ=[some (.ref a),some (.ref f),some (.ref le),some (.ref lw),x4,x5]/\Same H H'/\H' le=some (.lst xs)/\EnsAt H' xs es/\H' lw=some (.lst (AJ ws))/\PsAt H' ws/\(∀p∈ws,OL en D p.2.2 p.2.1)/\es++Cz (trs ws)=AH t/\m=cnt (trs ws)
theorem Ln(e:En):inV ((enV e).headD .non) [V.str "upright",V.str "level"]=match e with
  |.w _=>false
  |.c _ _=>true:=by
 cases e with
 |w m =>
  show(eqV (V.str "upright") (V.str "whole")||(eqV (V.str "level") (V.str "whole")||false))=false;decide +kernel
 |c u k =>
  cases u
  .show(eqV (V.str "upright") (V.str "level")||(eqV (V.str "level") (V.str "level")||false))=true;decide +kernel
  .show(eqV (V.str "upright") (V.str "upright")||(eqV (V.str "level") (V.str "upright")||false))=true;decide +kernel
theorem Ic{f:Addr}{fd:FuncData}(F:Fun K "entries_by" "entries_by" Df f fd)(T:Txt mg tk)(D_first_piece:Av P w K mg base 1 "first_piece" ["piece","word","at"] LU)(D_other_piece:Av P w K mg base 1 "other_piece" ["piece","word","at"] LQ):A8 P w K mg base CX0 7 f fd ["sheet","entry_at"] (RI P w K mg base):=by
 have S:=Kq;refine F.ok S (λ vs H Q E h=>?_) (λ cdv A outer s H vs Q E hr h=>?_)
 .obtain⟨a,f,p,t,en,D,rfl,_⟩:=h;rfl
 .obtain⟨a,fv,p,t,en,D,rfl,ha,hfv,gr,hn,q⟩:=h;refine⟨_,(Ac (As (i:=2) S.nd rfl (Or.inl rfl) (AE Ab))
   (Ac (As (i:=3) S.nd rfl (Or.inl rfl) (AE (Aa (pv 0) Ab)))
   (Ac (K9 PassesOwn.never (CT (pv 3) (λ_=>rfl)) (Ac (As (i:=4) S.nd rfl (Or.inl rfl) (Ez PySem.F.plainAttrs_list PySem.F.slot_list_pop PySem.F.type_list_pop E4 (pv 3)))
   (Ac (As (i:=5) S.nd rfl (Or.inl rfl) (Tz (k:=6) hr (pv 1) (Aa (pv 4) Ab)))
   (Ac (Bt (DG PySem.F.plainAttrs_list PySem.F.slot_list_append PySem.F.type_list_append AX (pv 2) (Aa (pv 5) Ab)))
   (Af (A3 (Ao Oi (Al Am (pv 5) Ad (λ_ _=>rfl)) (At (Aa (Ax (v:=.str "upright") rfl T.g_UPRIGHT ⟨_,rfl⟩) (Aa (Ax (v:=.str "level") rfl T.g_LEVEL ⟨_,rfl⟩) Ab))) rfl) (Ac (Bt (DG PySem.F.plainAttrs_list PySem.F.slot_list_append PySem.F.type_list_append AX (pv 3) (Aa (Aj D_other_piece hr (Aa (pv 4) (Aa (Al Am (pv 5) Ad (λ_ _=>rfl)) (Aa (Al Am (pv 5) Ad (λ_ _=>rfl)) Ab)))) Ab)))
   (Af (Bt (DG PySem.F.plainAttrs_list PySem.F.slot_list_append PySem.F.type_list_append AX (pv 3) (Aa (Aj D_first_piece hr (Aa (pv 4) (Aa (Al Am (pv 5) Ad (λ_ _=>rfl)) (Aa (Al Am (pv 5) Ad (λ_ _=>rfl)) Ab)))) Ab))))) Ar))))))
   (Af (Ak (pv 2)))))),?_⟩
  refine⟨Ap 0,λ le hle=>⟨_,rfl,Ap 1,λ lw hlw=>?_⟩⟩;have nel:le≠lw:=Ae upd_same hlw;have s0:Same H (upd (upd H le (.lst [])) lw (.lst [.ref a])):=(Same.new hle).trans (Same.new hlw);have hlw0:H lw=none:=C1 (Same.new hle) hlw;refine⟨Uq en D H a fv t le lw,
   ⟨_,[],[],[(a,p,t)],none,none,rfl,s0,by rw[Ah nel];exact upd_same,trivial,upd_same,λ r hr=>?_,λ r hr=>?_,?_,rfl⟩,?_⟩
  .rw[List.mem_singleton.mp hr];exact s0 _ _ ha
  .rw[List.mem_singleton.mp hr];exact gr
  .show[]++Cz [(V.ref a,t)]=AH t;rw[Ec];rfl
  rintro m σ H' ⟨xs,es,ws,x4,x5,rfl,s1,hl,hen,hw,hps,hgr,heq,rfl⟩;have tot:es.length+cnt (trs ws)=t.nd:=by rw[<-Cu,<-heq,List.length_append,CY]
  rcases Ck ws with rfl|⟨ws0,r,rfl⟩
  .refine⟨_,rfl,_,.inl ⟨_,SqL.of hw,rfl⟩,AO rfl ⟨_,rfl,q le xs H' s1 hle hl ?_⟩⟩;rw[<-heq];show EnsAt H' xs (es++[]);rw[List.append_nil];exact hen
  .refine⟨_,rfl,_,.inl ⟨_,SqL.of hw,rfl⟩,AQ (by simp) ⟨λ σ' H''=>∃m',m'<cnt (trs (ws0++[r]))/\Uq en D H a fv t le lw m' σ' H'',λ σ' H'' z=>z,?_⟩⟩;obtain⟨pa,pk,pt⟩:=r;have hp0:=hps (pa,pk,pt) (by simp);have hg0:=hgr (pa,pk,pt) (by simp);refine⟨_,rfl,.inl ⟨rfl,_,SqL.of hw⟩,lw,_,_,rfl,rfl,hw,Fv,?_⟩;rw[F2];have k2:Kp H' (upd H' lw (.lst (AJ ws0))):=Kp.put hw;have s2:Same H (upd H' lw (.lst (AJ ws0))):=λ b o e=>by rw[Ah (Ae e hlw0)];exact s1 b o e
   have l2:(upd H' lw (.lst (AJ ws0))) le=some (.lst xs):=by rw[Ah nel];exact hl
   have w2:(upd H' lw (.lst (AJ ws0))) lw=some (.lst (AJ ws0)):=upd_same;generalize upd H' lw (.lst (AJ ws0))=H2 at k2 s2 l2 w2 |-;have hp2:=k2 _ _ hp0 (by intro xs z;cases z);have ps2:PsAt H2 ws0:=λ r hr=>k2 _ _ (hps r (List.mem_append_left _ hr)) (by intro xs z;cases z);have gr2:∀r∈ws0,OL en D r.2.2 r.2.1:=λ r hr=>hgr r (List.mem_append_left _ hr);have hen2:=hen.kp k2;rw[Bo,AU]at heq;rw[Bo,B0]at tot;have hxl:=hen.len;have np:=Ml pt;have hDp:D pk:=by cases pt<;>exact hg0.1
   refine⟨_,rfl,fv,spE en D,rfl,hfv.same s2,_,rfl,Same.refl H2,pa,pk,rfl,hp2,hDp,λ ea H3 s3 e3=>?_⟩;have l3:=s3 _ _ l2;refine⟨_,rfl,.inl ⟨rfl,_,SqL.of l3⟩,_,rfl,le,xs,.ref ea,rfl,rfl,l3,A0 (by lia),?_⟩;have k4:Kp H3 (upd H3 le (.lst (xs++[.ref ea]))):=Kp.put l3;have s4:Same H (upd H3 le (.lst (xs++[.ref ea]))):=λ b o e=>by rw[Ah (Ae e hle)];exact s3 b o (s2 b o e)
   have l4:(upd H3 le (.lst (xs++[.ref ea]))) le=some (.lst (xs++[.ref ea])):=upd_same;have w4:(upd H3 le (.lst (xs++[.ref ea]))) lw=some (.lst (AJ ws0)):=by rw[Ah (Ne.symm nel)];exact s3 _ _ w2
   have en4:EnsAt (upd H3 le (.lst (xs++[.ref ea]))) (xs++[.ref ea]) (es++[en pk]):=((hen2.kp (CV s3)).kp k4).snoc (k4 _ _ e3 (by intro xs z;cases z));have kk:=(CV s3).trans k4;have e4:=k4 _ _ e3 (by intro xs z;cases z);generalize upd H3 le (.lst (xs++[.ref ea]))=H4 at k4 s4 l4 w4 en4 kk e4 |-;have hp4:=kk _ _ hp2 (by intro xs z;cases z);have ps4:PsAt H4 ws0:=ps2.kp kk;cases pt with
   |whole m =>
    have een:en pk=.w m:=hg0.2;rw[een]at e4 en4;refine⟨_,rfl,ea,_,_,_,rfl,rfl,SqT.of e4,BF,Ap 2,λ tt ntt=>?_⟩;obtain⟨H5,g,s5,e5⟩:=nw (.tup [.str "upright",.str "level"]) ntt;rw[g];refine⟨tt,_,rfl,.inr (SqT.of e5),rfl,rfl,_,rfl,AO (by rw[if_neg Bool.false_ne_true];exact Ln (.w m)) ?_⟩;refine⟨cnt (trs ws0),by rw[Bo,B0];exact Nat.lt_succ_self _,_,_,ws0,_,_,rfl,s4.trans s5,s5 _ _ l4,en4.kp (CV s5),s5 _ _ w4,ps4.kp (CV s5),gr2,?_,rfl⟩;rw[<-heq,List.append_assoc];rfl
   |cut u k y1 y2 =>
    obtain⟨_,een,g1,g2⟩:=hg0;have een:en pk=.c u k:=een;rw[een]at e4 en4;refine⟨_,rfl,ea,_,_,_,rfl,rfl,SqT.of e4,BF,Ap 2,λ tt ntt=>?_⟩;obtain⟨H5,g,s5,e5⟩:=nw (.tup [.str "upright",.str "level"]) ntt;rw[g];refine⟨tt,_,rfl,.inr (SqT.of e5),rfl,rfl,_,rfl,AQ (by rw[if_neg Bool.false_ne_true];exact Ln (.c u k)) ?_⟩;have e55:=s5 _ _ e4;have w5:=s5 _ _ w4;have hp5:=s5 _ _ hp4;refine⟨_,rfl,.inl ⟨rfl,_,SqL.of w5⟩,_,rfl,_,rfl,ea,_,_,_,rfl,rfl,SqT.of e55,BF,_,rfl,ea,_,_,_,rfl,rfl,SqT.of e55,Cw,pa,pk,u,k,rfl,hp5,λ t6 n6=>?_⟩;obtain⟨H6,g,s6,e6⟩:=nw (.tup (pk.oth u k).vs) n6;rw[g];have w6:=s6 _ _ w5;have cl:=Ef (trs ws0);rw[List.length_map]at cl;have ndp:(Tr.cut u k y1 y2).nd=y1.nd+y2.nd+1:=rfl;refine⟨lw,_,_,rfl,rfl,w6,A0 (by rw[List.length_map];lia),?_⟩;have k7:Kp H6 (upd H6 lw (.lst (AJ ws0++[.ref t6]))):=Kp.put w6;have s7:Same H (upd H6 lw (.lst (AJ ws0++[.ref t6]))):=λ b o e=>by rw[Ah (Ae e hlw0)];exact s6 _ _ (s5 _ _ (s4 b o e))
    have l7:(upd H6 lw (.lst (AJ ws0++[.ref t6]))) le=some (.lst (xs++[.ref ea])):=by rw[Ah nel];exact s6 _ _ (s5 _ _ l4)
    have w7:(upd H6 lw (.lst (AJ ws0++[.ref t6]))) lw=some (.lst (AJ ws0++[.ref t6])):=upd_same;have kk7:=((CV s5).trans (CV s6)).trans k7;have e7:=k7 _ _ e6 (by intro xs z;cases z);generalize upd H6 lw (.lst (AJ ws0++[.ref t6]))=H7 at k7 s7 l7 w7 kk7 e7 |-;have ea7:=kk7 _ _ e4 (by intro xs z;cases z);have hp7:=kk7 _ _ hp4 (by intro xs z;cases z);refine⟨_,rfl,.inl ⟨rfl,_,SqL.of w7⟩,_,rfl,_,rfl,ea,_,_,_,rfl,rfl,SqT.of ea7,BF,_,rfl,ea,_,_,_,rfl,rfl,SqT.of ea7,Cw,pa,pk,u,k,rfl,hp7,λ t8 n8=>?_⟩;obtain⟨H8,g,s8,e8⟩:=nw (.tup (pk.fst u k).vs) n8;rw[g];have w8:=s8 _ _ w7;refine⟨lw,_,_,rfl,rfl,w8,A0 (by rw[List.length_append,List.length_map,List.length_singleton];lia),?_⟩;have k9:Kp H8 (upd H8 lw (.lst (AJ ws0++[.ref t6]++[.ref t8]))):=Kp.put w8;have kk9:=(CV s8).trans k9;have kall:=kk7.trans kk9;refine⟨cnt (trs (ws0++[(t6,pk.oth u k,y2)]++[(t8,pk.fst u k,y1)])),?_,xs++[.ref ea],es++[.c u k],ws0++[(t6,pk.oth u k,y2)]++[(t8,pk.fst u k,y1)],_,_,rfl,λ b o e=>?_,?_,en4.kp kall,?_,λ r hr=>?_,λ r hr=>?_,?_,rfl⟩
    .rw[Bo,Bo,B0,B0,Bo,B0];show cnt (trs ws0)+y2.nd+y1.nd<cnt (trs ws0)+(y1.nd+y2.nd+1);lia
    .rw[Ah (Ae e hlw0)];exact s8 b o (s7 b o e)
    .rw[Ah nel];exact s8 _ _ l7
    .rw[upd_same,DT,DT]
    .rcases List.mem_append.mp hr with hr|hr
     .rcases List.mem_append.mp hr with hr|hr
      .exact kall _ _ (ps4 r hr) (by intro xs z;cases z)
      .rw[List.mem_singleton.mp hr];exact kk9 _ _ e7 (by intro xs z;cases z)
     .rw[List.mem_singleton.mp hr];exact k9 _ _ e8 (by intro xs z;cases z)
    .rcases List.mem_append.mp hr with hr|hr
     .rcases List.mem_append.mp hr with hr|hr
      .exact gr2 r hr
      .rw[List.mem_singleton.mp hr];exact g2
     .rw[List.mem_singleton.mp hr];exact g1
    .rw[Bo,Bo,AU,AU,<-heq];show es++[.c u k]++(AH y1++(AH y2++Cz (trs ws0)))=es++(.c u k::(AH y1++AH y2)++Cz (trs ws0));simp[List.append_assoc]
theorem EnsAt.tups{H H':Hp}(s:∀a xs,H a=some (.tup xs)->H' a=some (.tup xs)):∀{vs:LUz}{es:List En},EnsAt H vs es->EnsAt H' vs es
 |[],[],_=>trivial
 |v::r,e::q,h=>⟨let ⟨a,b,c⟩:=h.1;⟨a,b,s _ _ c⟩,EnsAt.tups s h.2⟩
 |[],_::_,h=>h
 |_::_,[],h=>h
theorem DL{α:Type}(p:α->Bool){L:List α}{i:Nat}{x:α}(h:L[i]?=some x):(L.take (i+1)).filter p=(L.take i).filter p++if p x=true then [x] else []:=by
 rw[List.take_succ,h,List.filter_append];show _=_;cases hx:p x with
 |true=>simp[hx]
 |false=>simp[hx]
inductive HQ(vs:LUz)(H:Hp)(Q:VK)(E:XK):Prop
 |mk (l b:Addr) (ts:List PT) (p:Rk) (u:Bool) (a:Int) (h0:vs=[.ref l,.ref b,.str (wd u),.int (p.lo u+a)]) (h1:H l=some (.lst (pcs ts))) (h2:PcO H ts) (h3:ts.length<=150) (h4:H b=some (.tup p.vs)) (h5:∀c l1 b1 l2 b2 ts1 ts2 H',Same H H'->H' c=some (.tup [.ref l1,.ref b1,.ref l2,.ref b2])->H' l1=some (.lst (pcs ts1))->PcO H' ts1->cons ts1=((cons ts).filter λ g=>decide (g.1.lo u<p.lo u+a))->H' b1=some (.tup (p.fst u a).vs) ->
  H' l2=some (.lst (pcs ts2))->PcO H' ts2->cons ts2=((cons ts).filter λ g=>decide (p.lo u+a<=g.1.lo u))->H' b2=some (.tup (p.oth u a).vs)->Q (.ref c) H'):HQ vs H Q E
def IB:Sp:=λ vs H Q E=>HQ vs H Q E
theorem Kn:An ["_law_some","_law_block","_law_word","_law_line","_law_top","_law_left","_law_bottom","_law_right","_law_side_here","_law_first","_law_other"] ["_law_some","_law_block","_law_word","_law_line"] (Ag CF):=fsc
theorem HZ{f:Addr}{fd:FuncData}(F:Fun K "_law_parted" "_law_parted" CF f fd)(T:Txt mg tk):A8 P w K mg base CX0 1 f fd ["_law_some","_law_block","_law_word","_law_line"] IB:=by
 have S:=Kn;refine F.ok S (λ vs H Q E h=>?_) (λ cdv A outer s H vs Q E hr h=>?_)
 .obtain⟨l,b,ts,p,u,a,rfl,_⟩:=h;rfl
 .obtain⟨l,b,ts,p,u,a,rfl,hl,pc,hn,hb,q⟩:=h;refine⟨_,(Ac (Fo (pv 1) (DE rfl (Ay (Aw (i:=4) S.nd rfl (Or.inl rfl)) (Ay (Aw (i:=5) S.nd rfl (Or.inl rfl)) (Ay (Aw (i:=6) S.nd rfl (Or.inl rfl)) (Ay (Aw (i:=7) S.nd rfl (Or.inl rfl)) B3))))))
   (Ac (As (i:=8) S.nd rfl (Or.inr rfl) (Fr F8 rfl T.z_int rfl (Aa (BB AZ (pv 2) A4 (Aq _)) Ab)))
   (Ac (FF rfl (Aw (i:=9) S.nd rfl (Or.inl rfl)) (BL (pv 0)) (λ_ _ _ _ _=>(Gb (K:=K) (n:=2) rfl (Ay (Aw (i:=0) (show List.Nodup (["_law_one","_law_mark","_law_line","_law_side_here"]:LSz) from by decide +kernel) rfl (Or.inl rfl)) (Ay (Aw (i:=1) (show List.Nodup (["_law_one","_law_mark","_law_line","_law_side_here"]:LSz) from by decide +kernel) rfl (Or.inl rfl)) B3)))) (λ_ _ _ _ _=>(Ao BS (Al (Fa (K:=K)) (pv 0) (pv 3) (λ_ _=>rfl)) (pv 2) (Aq _))) (λ_ _ _ _ _=>(At (Aa (pv 0) (Aa (pv 1) Ab)))) (N:=["_law_one","_law_mark","_law_line","_law_side_here"]) (fr:=[none,none,some 3,some 8]))
   (Ac (FF rfl (Aw (i:=10) S.nd rfl (Or.inl rfl)) (BL (pv 0)) (λ_ _ _ _ _=>(Gb (K:=K) (n:=2) rfl (Ay (Aw (i:=0) (show List.Nodup (["_law_one","_law_mark","_law_line","_law_side_here"]:LSz) from by decide +kernel) rfl (Or.inl rfl)) (Ay (Aw (i:=1) (show List.Nodup (["_law_one","_law_mark","_law_line","_law_side_here"]:LSz) from by decide +kernel) rfl (Or.inl rfl)) B3)))) (λ_ _ _ _ _=>(Ao RN (Al (Fa (K:=K)) (pv 0) (pv 3) (λ_ _=>rfl)) (pv 2) (Aq _))) (λ_ _ _ _ _=>(At (Aa (pv 0) (Aa (pv 1) Ab)))) (N:=["_law_one","_law_mark","_law_line","_law_side_here"]) (fr:=[none,none,some 3,some 8]))
   (Ac (A3 (Ao AZ (pv 8) Ad (Aq _)) (Af (Ak (At (Aa (pv 9) (Aa (At (Aa (pv 4) (Aa (pv 5) (Aa (pv 6) (Aa (pv 3) Ab))))) (Aa (pv 10) (Aa (At (Aa (pv 4) (Aa (pv 3) (Aa (pv 6) (Aa (pv 7) Ab))))) Ab))))))) Ar)
   (Af (Ak (At (Aa (pv 9) (Aa (At (Aa (pv 4) (Aa (pv 5) (Aa (pv 3) (Aa (pv 7) Ab))))) (Aa (pv 10) (Aa (At (Aa (pv 3) (Aa (pv 5) (Aa (pv 6) (Aa (pv 7) Ab))))) Ab)))))))))))),?_⟩
  refine⟨_,rfl,b,_,rfl,SqT.of hb,rfl,_,_,rfl,_,_,rfl,_,_,rfl,_,_,rfl,rfl,?_⟩;refine⟨_,rfl,rfl,.inr ⟨_,rfl,?_⟩⟩;have hsd:(if decide (V.str (wd u)=V.str "upright")=true then (1:Int) else 0)=sd u:=by rw[OP];rfl
  rw[hsd];have sz:(pcs ts).length<=sizeLine:=Nat.le_of_lt (A0 (by rw[List.length_map];lia));generalize ea:p.lo u+a=ln at q |-;refine⟨_,rfl,l,rfl,⟨_,SqL.of hl⟩,λ acc hacc=>EB (K:=K) (a:=l) (ys:=pcs ts) (λ i zs σ H'=>(∃y z,σ=[y,z,some (.int ln),some (.int (sd u))])/\Same H H'/\∃us:List PT,zs=pcs us/\PcO H' us/\cons us=((cons ts).take i).filter λ g=>decide (g.1.lo u<ln)) ⟨⟨none,none,rfl⟩,Same.new hacc,[],rfl,(λ t ht=>nomatch ht),rfl⟩ (λ i zs σ H' _ _ hp=>SqL.of (hp.2.1 _ _ hl)) ?_ ?_⟩
  .rintro i x zs σ H' hx hi hl' hacc' ⟨⟨y,z,rfl⟩,hs,us,rfl,pu,eu⟩;obtain⟨t,ht,rfl⟩:=EW hx;obtain⟨g1,g2⟩:=(pc.same hs) t (List.mem_of_getElem? ht);have ft:=DL (λ g:Rk×Option Int=>decide (g.1.lo u<ln)) (L:=cons ts) (i:=i) (x:=t.2.2) (by rw[List.getElem?_map,ht];rfl);refine⟨t.1,_,rfl,SqT.of g1,rfl,_,_,rfl,_,_,rfl,rfl,_,rfl,_,rfl,t.2.1,_,_,_,rfl,rfl,SqT.of g2,Fc,_,rfl,_,_,rfl,rfl,_,rfl,?_⟩;cases h3:decide (t.2.2.1.lo u<ln) with
   |true =>
    refine⟨_,rfl,_,rfl,Ap 2,λ n hn'=>?_⟩;obtain⟨H2,g,s2,e2⟩:=nw (.tup [.ref t.2.1,AN t.2.2.2]) hn';rw[g];have a2:=s2 _ _ hacc';refine fNx.mk sz hi hl' a2 ⟨⟨_,_,rfl⟩,λ d o e=>by rw[Ah (Ae e hacc)];exact s2 _ _ (hs d o e),us++[(n,t.2)],(GI us (n,t.2)).symm,?_,?_⟩
    .intro r hr;rcases List.mem_append.mp hr with hr|hr
     .exact(pu.same s2).kp (Kp.put a2) r hr
     .rw[List.mem_singleton.mp hr];exact⟨Kp.put a2 _ _ e2 (by intro xs z;cases z),Kp.put a2 _ _ (s2 _ _ g2) (by intro xs z;cases z)⟩
    .rw[F5,eu,ft,h3,if_pos rfl]
   |false=>exact fSk.mk hi hl' hacc' ⟨⟨_,_,rfl⟩,hs,us,rfl,pu,by rw[eu,ft,h3,if_neg Bool.false_ne_true,List.append_nil]⟩
  rintro zs σ H1 hzl ac1 ⟨_,s1,us1,rfl,pu1,eu1⟩;rw[List.length_map,<-List.length_map (f:=λ t:PT=>t.2.2),List.take_length]at eu1;refine⟨_,rfl,l,rfl,⟨_,SqL.of (s1 _ _ hl)⟩,λ acc2 hacc2=>EB (K:=K) (a:=l) (ys:=pcs ts) (λ i zs σ H'=>(∃y z,σ=[y,z,some (.int ln),some (.int (sd u))])/\Same H1 H'/\∃us:List PT,zs=pcs us/\PcO H' us/\cons us=((cons ts).take i).filter λ g=>decide (ln<=g.1.lo u)) ⟨⟨none,none,rfl⟩,Same.new hacc2,[],rfl,(λ t ht=>nomatch ht),rfl⟩ (λ i zs σ H' _ _ hp=>SqL.of ((s1.trans hp.2.1) _ _ hl)) ?_ ?_⟩
  .rintro i x zs σ H' hx hi hl' hacc' ⟨⟨y,z,rfl⟩,hs,us,rfl,pu,eu⟩;obtain⟨t,ht,rfl⟩:=EW hx;obtain⟨g1,g2⟩:=(pc.same (s1.trans hs)) t (List.mem_of_getElem? ht);have ft:=DL (λ g:Rk×Option Int=>decide (ln<=g.1.lo u)) (L:=cons ts) (i:=i) (x:=t.2.2) (by rw[List.getElem?_map,ht];rfl);refine⟨t.1,_,rfl,SqT.of g1,rfl,_,_,rfl,_,_,rfl,rfl,_,rfl,_,rfl,t.2.1,_,_,_,rfl,rfl,SqT.of g2,Fc,_,rfl,_,_,rfl,rfl,_,rfl,?_⟩;show match decide (ln<=t.2.2.1.lo u) with|true=>_|false=>_
   cases h3:decide (ln<=t.2.2.1.lo u) with
   |true =>
    refine⟨_,rfl,_,rfl,Ap 2,λ n hn'=>?_⟩;obtain⟨H2,g,s2,e2⟩:=nw (.tup [.ref t.2.1,AN t.2.2.2]) hn';rw[g];have a2:=s2 _ _ hacc';refine fNx.mk sz hi hl' a2 ⟨⟨_,_,rfl⟩,λ d o e=>by rw[Ah (Ae e hacc2)];exact s2 _ _ (hs d o e),us++[(n,t.2)],(GI us (n,t.2)).symm,?_,?_⟩
    .intro r hr;rcases List.mem_append.mp hr with hr|hr
     .exact(pu.same s2).kp (Kp.put a2) r hr
     .rw[List.mem_singleton.mp hr];exact⟨Kp.put a2 _ _ e2 (by intro xs z;cases z),Kp.put a2 _ _ (s2 _ _ g2) (by intro xs z;cases z)⟩
    .rw[F5,eu,ft,h3,if_pos rfl]
   |false=>exact fSk.mk hi hl' hacc' ⟨⟨_,_,rfl⟩,hs,us,rfl,pu,by rw[eu,ft,h3,if_neg Bool.false_ne_true,List.append_nil]⟩
  rintro zs σ H2 hzl2 ac2 ⟨_,s2,us2,rfl,pu2,eu2⟩;rw[List.length_map,<-List.length_map (f:=λ t:PT=>t.2.2),List.take_length]at eu2;have s12:=s1.trans s2;refine⟨_,rfl,rfl,_,rfl,?_⟩;cases u with
  |true =>
   refine AQ (by decide) ⟨_,rfl,_,rfl,_,rfl,_,rfl,_,rfl,Ap 4,λ b1 n1=>?_⟩;obtain⟨H3,g,s3,e3⟩:=nw (.tup [.int p.t,.int p.l,.int p.b,.int ln]) n1;rw[g];refine⟨_,rfl,_,rfl,_,rfl,_,rfl,_,rfl,Ap 4,λ b2 n2=>?_⟩;obtain⟨H4,g,s4,e4⟩:=nw (.tup [.int p.t,.int ln,.int p.b,.int p.r]) n2;rw[g];refine⟨Ap 4,λ c n5=>?_⟩;have s5:Same H4 (upd H4 c (.tup [.ref acc,.ref b1,.ref acc2,.ref b2])):=Same.new n5;have s25:=(s3.trans s4).trans s5;subst ea;exact q c acc b1 acc2 b2 us1 us2 _ (s12.trans s25) upd_same (s25 _ _ (s2 _ _ ac1)) ((pu1.same s2).same s25) eu1 ((s4.trans s5) _ _ e3) (s25 _ _ ac2) (pu2.same s25) eu2 (s5 _ _ e4)
  |false =>
   refine AO (by decide) ⟨_,rfl,_,rfl,_,rfl,_,rfl,_,rfl,Ap 4,λ b1 n1=>?_⟩;obtain⟨H3,g,s3,e3⟩:=nw (.tup [.int p.t,.int p.l,.int ln,.int p.r]) n1;rw[g];refine⟨_,rfl,_,rfl,_,rfl,_,rfl,_,rfl,Ap 4,λ b2 n2=>?_⟩;obtain⟨H4,g,s4,e4⟩:=nw (.tup [.int ln,.int p.l,.int p.b,.int p.r]) n2;rw[g];refine⟨Ap 4,λ c n5=>?_⟩;have s5:Same H4 (upd H4 c (.tup [.ref acc,.ref b1,.ref acc2,.ref b2])):=Same.new n5;have s25:=(s3.trans s4).trans s5;subst ea;exact q c acc b1 acc2 b2 us1 us2 _ (s12.trans s25) upd_same (s25 _ _ (s2 _ _ ac1)) ((pu1.same s2).same s25) eu1 ((s4.trans s5) _ _ e3) (s25 _ _ ac2) (pu2.same s25) eu2 (s5 _ _ e4)
def Nv:Expr:=match (A7 Bi).getD 0 (.Pass ⟨0,0,0,0⟩) with
 |.Return (some (.Call _ [_,k] _ _)) _=>k
 |_=>.Constant .none 0 ⟨0,0,0,0⟩
def RP:Arguments:=match Nv with|.Lambda p _ _ _=>p|_=>Bh Bi
def RQ:Expr:=match Nv with|.Lambda _ b _ _=>b|e=>e
def lamS3:Scope:=match Nv with|.Lambda _ _ s _=>s|_=>Ag Bi
def Nu:Pos:=match Nv with|.Lambda _ _ _ q=>q|_=>⟨0,0,0,0⟩
def Li:Str:="cut_up.<locals>.<lambda>"
theorem SO:Jo "block" ["some"] lamS3:=⟨rfl,rfl,rfl,rfl,λ_ _=>rfl,λ_=>rfl,λ y hy=>(by decide +kernel:∀p∈lamS3.names,p.2=.cell->p.1=("block":Str)) _ (PySem.mem_of_lookup hy) rfl,λ y hy=>(by decide +kernel:∀p∈lamS3.names,p.2=.free->p.1∈(["some"]:LSz)) _ (PySem.mem_of_lookup hy) rfl,by decide +kernel⟩
abbrev NA(L:Nat):List (Str×Addr):=[("some",L+1)]
inductive Jv(tb3:Addr)(vs:LUz)(H:Hp)(Q:VK)(E:XK):Prop
 |mk (a l:Addr) (p:Rk) (ts:List PT) (t:Tr) (h0:vs=[.ref a,.ref l]) (h1:H a=some (.tup p.vs)) (h2:H l=some (.lst (pcs ts))) (h3:PcO H ts) (h4:ts.length<=150) (h5:p.ok) (h6:(∀u,0<=p.lo u/\p.hi u<=12)) (h7:Bk p t) (h8:(cons ts).Perm (Az t p)) (h9:TabOk Nu Li tb3 H) (h10:∀le xs F H',SameX tb3 H H'->TabOk Nu Li tb3 H'->H' le=some (.lst xs)->EnsAt H' xs (AH F)->F.nd<=400->Bk p F->IsF F (cons ts) p->(Az F p).Perm (cons ts)->Q (.ref le) H'):Jv tb3 vs H Q E
def G1(tb3:Addr) :Sp:=λ vs H Q E=>Jv tb3 vs H Q E
theorem Qu:An ["sheet","some"] ["sheet","some"] (Ag Bi):=fsc
theorem Rm{L:List (Rk×Option Int)}{p:Rk}(h:∀g∈L,Ins g.1 p):inP L p=L:=List.filter_eq_self.mpr λ g hg=>decide_eq_true (h g hg)
theorem FR{ts:List PT}{i:Nat}{t:PT}(q:PT->Bool)(h:ts[i]?=some t):pcs ((ts.take (i+1)).filter q)=pcs ((ts.take i).filter q)++if q t=true then [.ref t.1] else []:=by
 rw[DL q h];show List.map _ _=_;rw[List.map_append];split<;>rfl
theorem Om{f:Addr}{fd:FuncData}{c tb3:Addr}(F:FunC K "cut_up" "cut_up" Bi f fd c)(hC:F7 K c tb3=true)(hB:RD K mg)(D_inside:Av P w K mg base 1 "inside" ["one","other"] ID)(D_entry_for:Av P w K mg base 4 "entry_for" ["block","some"] IF)(D_entries_by:Av P w K mg base 7 "entries_by" ["sheet","entry_at"] (RI P w K mg base)) :
  A8 P w K mg base CX0 8 f fd ["sheet","some"] (G1 tb3):=by
 have S:=Qu;refine F.ok S (λ vs H Q E h=>?_) (λ A outer s H vs Q E hr h=>?_)
 .obtain⟨a,l,p,ts,t,rfl,_⟩:=h;rfl
 .obtain⟨a,l,p,ts,t,rfl,ha,hl,pc,few,pk,pb,fit,pm,tb,q⟩:=h;have hlam:=Pu (X:=(Bm CX0 P w K mg base ["sheet","some"] "cut_up" (Ag Bi) f (.ref c) A outer s H E).nox) (params:=RP) (body:=RQ) (scope:=lamS3) (pos:=Nu) (qual:=Li) (clos:=NA s.heap.objs.size) rfl (codeTB_of hC) hB rfl rfl rfl;have hcl:∀p∈NA s.heap.objs.size,(Bm CX0 P w K mg base ["sheet","some"] "cut_up" (Ag Bi) f (.ref c) A outer s H E).nox.env.cells.lookup p.1=some p.2/\(Bm CX0 P w K mg base ["sheet","some"] "cut_up" (Ag Bi) f (.ref c) A outer s H E).nox.env.kindOf p.1=some .cell:=λ p hp=>by
   rw[List.mem_singleton.mp hp];exact⟨rfl,rfl⟩
  refine⟨_,(Af (Ak (S4 (clos:=NA s.heap.objs.size) D_entries_by hr (Aa (pv 0) (Aa hlam Ab)) hcl (λ_=>rfl) rfl))),?_⟩;have inn:∀g∈cons ts,∀u,p.lo u<=g.1.lo u/\g.1.lo u<g.1.hi u/\g.1.hi u<=p.hi u:=λ g hg u=>Fz pk fit (pm.mem_iff.mp hg) u;have all:inP (cons ts) p=cons ts:=Rm λ g hg=>ins_iff.mpr λ u=>⟨(inn g hg u).1,(inn g hg u).2.2⟩;obtain⟨G,gr,gfit,isf,gpm⟩:=O2 (L:=cons ts) (λ g hg v=>(inn g hg v).2.1) _ p rfl ⟨pk,pb,t,fit,by rw[all];exact pm⟩;rw[all]at isf gpm;have Gnd:G.nd<=400:=by
   have w1:1<=p.r-p.l:=by have:=pk.2;lia
   have h1:1<=p.b-p.t:=by have:=pk.1;lia
   have z1:=E6 w1 h1 gfit;have b1:=pb true;have b2:=pb false;have z2:(p.r-p.l)*(p.b-p.t)<=12*12:=Int.mul_le_mul (by have:0<=p.l:=b1.1;have:p.r<=12:=b1.2;lia) (by have:0<=p.t:=b2.1;have:p.b<=12:=b2.2;lia) (by lia) (by lia);have z3:=Nq G;lia
  have tbl:=tb.tbl;refine⟨_,rfl,TabOk.lamC tb λ c' fl ctv H1 s1 tab1 hf hc hnew=>?_⟩;have ne1:∀{x:Addr}{u:HO},H x=some u->(∀ps,u≠.tbl ps)->x≠tb3:=λ{x u} e n z=>by obtain⟨ps,e'⟩:=tbl;rw[z,e']at e;cases e;exact n _ rfl
  intro Lc CA;have tup1:∀{x:Addr}{xs:LUz},H x=some (.tup xs)->H1 x=some (.tup xs):=λ e=>s1 _ _ (ne1 e (by intro ps z;cases z)) e;have hl1:H1 l=some (.lst (pcs ts)):=s1 _ _ (ne1 hl (by intro ps z;cases z)) hl;have up:∀{x:Addr}{u:HO},H1 x=some u->(tkd H1 Lc) x=some u:=λ e=>by rw[AS (E3 CA.new e)];exact e
  have fv:=Rt (P:=P) (w:=w) (K:=K) (mg:=mg) (base:=base) (k:=5) (H:=tkd H1 Lc) (f:=fl) (c':=c') (params:=RP) (body:=RQ) (scope:=lamS3) (qual:=Li) (pn:="block") (ctv:=ctv) (fs:=["some"]) (clos:=NA s.heap.objs.size) (cv:=[.ref l]) (L:=Lc)
   (sp:=spE (λ p=>enL (inP (cons ts) p) p) (DF (cons ts)))
   (up hf) (up hc) SO rfl (λ y=>?_) (λ x y cc h1 h2=>?_) (λ a o e=>Gs e) CA.has (λ p hp i v hi hv=>?_) (λ_ _=>.of_eq rfl) (λ vs H' Q' E' hsp=>by obtain⟨a',p',rfl,_⟩:=hsp;exact⟨_,rfl⟩)
   (λ A' outer' s' H' E' v Q' sm' hr' hsp=>?_)
  .refine⟨a,fl,p,G,_,_,rfl,up (tup1 ha),fv,gr,Gnd,λ le xs H2 s2 nl hle hens=>?_⟩;obtain⟨sU,hk⟩:=Pf CA.new s2;exact⟨hk,q le xs G _ (s1.trans sU.x) (tab1.same sU) (J1 hk hle (by intro o z;cases z)) (hens.tups (λ a xs e=>J1 hk e (by intro o z;cases z))) Gnd gfit isf gpm⟩
  .constructor
   .rintro⟨cc,h⟩;have:=PySem.mem_of_lookup h;cases List.mem_singleton.mp this;simp
   .intro hy;rw[List.mem_singleton.mp hy];exact⟨_,rfl⟩
  .have m1:=List.mem_singleton.mp (PySem.mem_of_lookup h1);have m2:=List.mem_singleton.mp (PySem.mem_of_lookup h2);exact(congrArg Prod.fst m1).trans (congrArg Prod.fst m2).symm
  .have hp':=List.mem_singleton.mp hp;subst hp'
   match i,hi with
   |0,_ =>
    cases hv;exact CA.val _ hp 1 _ rfl rfl
  .obtain⟨a',p',ev,ha',⟨ok',bd',t',fit',pm'⟩,q'⟩:=hsp;cases ev;refine⟨_,(Aj D_entry_for hr' (Aa (pv 0) (Aa (KD rfl (BL (pv 1)) (λ_ _ _ _ _=>(Aw (i:=0) (show List.Nodup (["piece","block"]:LSz) from by decide +kernel) rfl (Or.inl rfl))) (λ_ _ _ _ _=>(CI (Aj D_inside hr' (Aa (Al (Fa (K:=K)) (pv 0) Ad (λ_ _=>rfl)) (Aa (pv 1) Ab))))) (λ_ _ _ _ _=>(pv 0)) (N:=["piece","block"]) (fr:=[none,some 0])) Ab))),?_⟩;have hL':∀a o,Lc.lookup a=some o->H' a=some (Bx a o):=λ a o e=>sm' _ _ (Gs e);have kp:∀{x:Addr}{u:HO},H1 x=some u->(∀o,u≠Bx x o)->(utk H' Lc) x=some u:=λ e n=>J1 hL' (sm' _ _ (up e)) n;have hau:=J1 hL' ha' (by intro o z;cases z);have hlu:=kp hl1 (by intro o z;cases z);have pcu:PcO (utk H' Lc) ts:=λ x hx=>⟨kp (tup1 (pc x hx).1) (by intro o z;cases z),kp (tup1 (pc x hx).2) (by intro o z;cases z)⟩;have sm2:∀{H2:Hp},Same (utk H' Lc) H2->Same H' (tkd H2 Lc):=λ{H2} s3 x o e=>by
    cases q:Lc.lookup x with
    |some o'=>rw[hL' x o' q]at e;cases e;exact Gs q
    |none=>rw[AS q];exact s3 _ _ (by rw[Bl q];exact e)
   refine⟨_,rfl,_,rfl,l,rfl,⟨_,SqL.of hlu⟩,λ acc hacc=>EB (K:=K) (a:=l) (ys:=pcs ts) (λ i zs σ H2=>(∃y,σ=[y,some (.ref a')])/\Same (utk H' Lc) H2/\zs=pcs ((ts.take i).filter λ t=>decide (Ins t.2.2.1 p'))) ⟨⟨none,rfl⟩,Same.new hacc,rfl⟩ (λ i zs σ H2 _ _ hp=>SqL.of (hp.2.1 _ _ hlu)) ?_ ?_⟩
   .rintro i x zs σ H2 hx hi hl' hacc' ⟨⟨y,rfl⟩,hs,rfl⟩;obtain⟨z,hz,rfl⟩:=EW hx;obtain⟨g1,g2⟩:=(pcu.same hs) z (List.mem_of_getElem? hz);have ft:=FR (λ t:PT=>decide (Ins t.2.2.1 p')) hz;refine⟨_,rfl,z.1,_,_,_,rfl,rfl,SqT.of g1,BF,_,rfl,z.2.1,a',z.2.2.1,p',rfl,g2,hs _ _ hau,_,rfl,?_⟩;cases h3:decide (Ins z.2.2.1 p') with
    |true =>
     refine⟨_,rfl,fNx.mk (Nat.le_of_lt (A0 (by rw[List.length_map];lia))) hi hl' hacc' ⟨⟨_,rfl⟩,λ c o e=>by rw[Ah (Ae e hacc)];exact hs c o e,?_⟩⟩;rw[ft,h3,if_pos rfl]
    |false=>exact fSk.mk hi hl' hacc' ⟨⟨_,rfl⟩,hs,by rw[ft,h3,if_neg Bool.false_ne_true,List.append_nil]⟩
   rintro zs σ H2 hzl ac2 ⟨_,s2,rfl⟩;rw[List.length_map,List.take_length]at ac2;have ec:cons (ts.filter λ t=>decide (Ins t.2.2.1 p'))=inP (cons ts) p':=by
    unfold inP;show List.map _ _=List.filter _ (List.map _ ts);rw[List.filter_map];rfl
   have fl:(ts.filter λ t=>decide (Ins t.2.2.1 p')).length<=ts.length:=List.length_filter_le _ _;refine⟨a',acc,p',ts.filter λ t=>decide (Ins t.2.2.1 p'),t',rfl,s2 _ _ hau,ac2,λ x hx=>(pcu.same s2) x (List.mem_filter.mp hx).1,by lia,ok',bd',fit',by rw[ec];exact pm',λ e H3 s3 e3 hno=>?_⟩;rw[ec]at e3;refine q' e _ (sm2 (s2.trans s3)) ?_;cases qo:Lc.lookup e with
   |some o=>rw[hno e o qo]at e3;cases e3
   |none=>rw[AS qo];exact e3
theorem SQ:An ["tree","width","height"] ["tree","width","height"] (Ag LY):=fsc
theorem bd0{ww hh:Int}(w2:ww<=12)(h2:hh<=12):∀u,0<=Rk.lo ⟨0,0,hh,ww⟩ u/\Rk.hi ⟨0,0,hh,ww⟩ u<=12:=λ u=>by
 cases u
 .exact⟨Int.le_refl _,h2⟩
 .exact⟨Int.le_refl _,w2⟩
theorem ok0{ww hh:Int}(w1:1<=ww)(h1:1<=hh):Rk.ok ⟨0,0,hh,ww⟩:=⟨show(0:Int)<hh by lia,show(0:Int)<ww by lia⟩
theorem TV{t:Tr}{ww hh:Int}(f:Bk ⟨0,0,hh,ww⟩ t):Fit t ww hh:=by
 have f:Fit t (ww-0) (hh-0):=f;rw[Int.sub_zero,Int.sub_zero]at f;exact f
theorem Ed{t:Tr}{ww hh:Int}(w1:1<=ww)(w2:ww<=12)(h1:1<=hh)(h2:hh<=12)(f:Fit t ww hh):t.sz<=144/\t.nd<=400/\t.dp<24:=by
 have d:=E7 w1 h1 f;have z:=E6 w1 h1 f;have z3:ww*hh<=12*12:=Int.mul_le_mul w2 h2 (by lia) (by lia);have n:=Nq t;exact⟨by lia,by lia,by lia⟩
theorem R8:An ["tree","other","width","height"] ["tree","other","width","height"] (Ag JE):=fsc
theorem N6{t s:Tr}{ww hh:Int}(w1:1<=ww)(w2:ww<=12)(h1:1<=hh)(h2:hh<=12)(f:Fit t ww hh){L M:List (Rk×Option Int)}(a:Due t ww hh L)(b:Due s ww hh M):L=M↔(Az t ⟨0,0,hh,ww⟩).Perm (Az s ⟨0,0,hh,ww⟩) :=
 ⟨λ e=>a.1.symm.trans (e ▸ b.1),λ pm=>Qc w1 w2 h1 h2 f a ⟨b.1.trans pm.symm,b.2⟩⟩
abbrev MT:=Addr×Addr×Mv
abbrev P3(ts:List MT):LUz:=ts.map λ t=>V.ref t.1
def MvsO(H:Hp)(ts:List MT):Prop:=∀t∈ts,H t.1=some (.tup [.ref t.2.1,.str t.2.2.2])/\H t.2.1=some (.tup (t.2.2.1.map V.int))
def MvO(H:Hp)(l:Addr)(L:List Mv):Prop:=∃ts:List MT,H l=some (.lst (P3 ts))/\MvsO H ts/\ts.map (·.2.2)=L
theorem MvsO.same{H H':Hp}{ts:List MT}(h:MvsO H ts)(s:Same H H'):MvsO H' ts:=λ t ht=>⟨s _ _ (h t ht).1,s _ _ (h t ht).2⟩
theorem MvO.same{H H':Hp}{l:Addr}{L:List Mv}(h:MvO H l L)(s:Same H H'):MvO H' l L:=let ⟨ts,a,b,c⟩:=h;⟨ts,s _ _ a,b.same s,c⟩
theorem MvO.nil{H:Hp}{l:Addr}(h:H l=some (.lst [])):MvO H l []:=⟨[],h,(λ_ z=>nomatch z),rfl⟩
theorem MvO.one{H:Hp}{l a sa:Addr}{st:List Int}{w:Str}(h:H l=some (.lst [.ref a]))(h1:H a=some (.tup [.ref sa,.str w]))(h2:H sa=some (.tup (st.map V.int))):MvO H l [(st,w)] :=
 ⟨[(a,sa,st,w)],h,λ t ht=>by rw[List.mem_singleton.mp ht];exact⟨h1,h2⟩,rfl⟩
theorem MvO.cat{H:Hp}{a b:Addr}{A B:List Mv}(ha:MvO H a A)(hb:MvO H b B)(sz:A.length+B.length<=30000){Q:VK}(q:∀l H',Same H H'->H l=none->MvO H' l (A++B)->Q (.ref l) H'):Tv (.ref a) (.ref b) H Q:=by
 obtain⟨ts,h1,h2,rfl⟩:=ha;obtain⟨us,g1,g2,rfl⟩:=hb;rw[List.length_map,List.length_map]at sz;refine⟨a,b,_,_,rfl,rfl,h1,g1,Nat.le_of_lt (So (by rw[List.length_map,List.length_map];exact sz)),λ p hp=>?_⟩;have s:Same H (upd H p (.lst (P3 ts++P3 us))):=Same.new hp;refine q p _ s hp ⟨ts++us,by rw[upd_same];show _=some (HO.lst (List.map _ (ts++us)));rw[List.map_append],λ t ht=>?_,List.map_append⟩;rcases List.mem_append.mp ht with ht|ht
 .exact h2.same s t ht
 .exact g2.same s t ht
def pfx(st:List Int)(L:List Mv):List Mv:=L.map λ m=>(st++m.1,m.2)
theorem DV{st:List Int}{A B:List Mv}:pfx st (A++B)=pfx st A++pfx st B:=List.map_append
theorem DU{st:List Int}{i:Int}{A:List Mv}:pfx (st++[i]) A=pfx st (pre i A):=by
 unfold pfx pre;rw[List.map_map];refine List.map_congr_left λ m _=>?_;show(st++[i]++m.1,m.2)=(st++(i::m.1),m.2);rw[List.append_assoc];rfl
theorem JH{st:List Int}{w:Str}:pfx st [(([],w):Mv)]=[(st,w)]:=by
 show[(st++[],w)]=_;rw[List.append_nil]
theorem BM{st:List Int}{L:List Mv}:(pfx st L).length=L.length:=List.length_map ..
theorem OD{K:Frag}{H:Hp}{sa p:Addr}{st:List Int}{i:Int}(hs:H sa=some (.tup (st.map V.int)))(hp:H p=some (.tup [.int i]))(sz:st.length<=100){Q:VK}(q:∀sb H',Same H H'->H' sb=some (.tup ((st++[i]).map V.int))->Q (.ref sb) H'):RL K (.ref sa) (.ref p) H Q :=
 ⟨sa,p,_,_,rfl,rfl,SqT.of hs,hp,(by simp),Nat.le_of_lt (A0 (by rw[List.length_map];show st.length+1<=1000;lia)),λ sb H' s h=>q sb H' s (by rw[h,List.map_append];rfl)⟩
inductive NG(cW cU cL:Addr)(n:Nat)(vs:LUz)(H:Hp)(Q:VK)(E:XK):Prop
 |mk (v:V) (t:Tr) (u:Bool) (a:Int) (st:List Int) (sa:Addr) (h0:vs=[v,.str (wd u),.int a,.ref sa]) (h1:Obj cW cU cL H t v) (h2:H sa=some (.tup (st.map V.int))) (h3:Thr t u a) (h4:t.dp<n) (h5:st.length+t.dp<=100) (h6:t.sz<=150) (h7:∀l H',Same H H'->H l=none->MvO H' l (pfx st (mup t u a))->Q (.ref l) H'):NG cW cU cL n vs H Q E
def Gx(cW cU cL:Addr)(n:Nat) :Sp:=λ vs H Q E=>NG cW cU cL n vs H Q E
theorem UE{vs:LUz}{H:Hp}{Q:VK}{E:XK}:¬Gx cW cU cL 0 vs H Q E:=by
 rintro⟨v,t,u,a,st,sa,_,_,_,_,h,_⟩;lia
theorem HF:An ["tree","word","at","steps","first"] ["tree","word","at","steps"] (Ag El):=fsc
theorem KJ{f:Addr}{fd:FuncData}{n:Nat}(F:Fun K "moves_up" "moves_up" El f fd)(T:Txt mg tk)(R:RT mg K cT cW cU cL)(D_kind_of:Av P w K mg base 1 "kind_of" ["tree"] (BG cW cU cL))(D_moves_up:Av P w K mg base (n+3) "moves_up" ["tree","word","at","steps"] (Gx cW cU cL n)):A8 P w K mg base CX0 (n+4) f fd ["tree","word","at","steps"] (Gx cW cU cL (n+1)):=by
 have S:=HF;refine F.ok S (λ vs H Q E h=>?_) (λ cdv A outer s H vs Q E hr h=>?_)
 .obtain⟨v,t,u,a,st,sa,rfl,_⟩:=h;rfl
 .obtain⟨v,t,u,a,st,sa,rfl,ho,hs,th,hd,hl,hz,q⟩:=h;refine⟨_,(Ac (A3 (Ao Eh (Aj D_kind_of hr (Aa (pv 0) Ab) (by lia)) (pv 1) (Aq _)) (Ac (As (i:=4) S.nd rfl (Or.inl rfl) (Aj D_moves_up hr (Aa (A9 (pv 0) rfl) (Aa (pv 1) (Aa (pv 2) (Aa (Au DX (pv 3) (At (Aa Ad Ab))) Ab)))) (by lia)))
   (Af (Ak (Au Dn (Au Dn (pv 4) (Aj D_moves_up hr (Aa (A9 (pv 0) rfl) (Aa (pv 1) (Aa (pv 2) (Aa (Au DX (pv 3) (At (Aa Ad Ab))) Ab)))) (by lia))) (AE (Aa (At (Aa (pv 3) (Aa (Ax (v:=.str "cross") rfl T.g_CROSS ⟨_,rfl⟩) Ab))) Ab)))))) Ar)
   (Ac (A3 (Ao BS (pv 2) (A9 (pv 0) rfl) (Aq _)) (Af (Ak (Au Dn (Aj D_moves_up hr (Aa (A9 (pv 0) rfl) (Aa (pv 1) (Aa (pv 2) (Aa (Au DX (pv 3) (At (Aa Ad Ab))) Ab)))) (by lia)) (AE (Aa (At (Aa (pv 3) (Aa (Ax (v:=.str "lean") rfl T.g_LEAN ⟨_,rfl⟩) Ab))) Ab))))) Ar)
   (Ac (A3 (Ao IL (pv 2) (A9 (pv 0) rfl) (Aq _)) (Af (Ak (Au Dn (Aj D_moves_up hr (Aa (A9 (pv 0) rfl) (Aa (pv 1) (Aa (Au Bq (pv 2) (A9 (pv 0) rfl)) (Aa (Au DX (pv 3) (At (Aa Ad Ab))) Ab)))) (by lia)) (AE (Aa (At (Aa (pv 3) (Aa (Ax (v:=.str "back") rfl T.g_BACK ⟨_,rfl⟩) Ab))) Ab))))) Ar)
   (Af (Ak (AE Ab)))))),?_⟩
  refine⟨_,rfl,v,t,rfl,ho,_,rfl,?_⟩;cases t with
  |whole m=>exact th.elim
  |cut v' k y1 y2 =>
   refine⟨rfl,_,rfl,?_⟩;rw[Obj]at ho;obtain⟨x,dx,w1,w2,rfl,hx,o1,o2⟩:=ho;have hd:max y1.dp y2.dp+1<n+1:=hd;have hl:st.length+(max y1.dp y2.dp+1)<=100:=hl;have hz:y1.sz+y2.sz<=150:=hz;have m1:=Do y1 u a;have m2:=Do y2 u a;have m3:=Do y2 u (a-k);rw[Thr]at th;rw[mup]at q;by_cases e:v'=u
   .subst e;rw[if_pos rfl]at th q;refine AO (by show(!decide (V.str (wd v')=V.str (wd v')))=false;rw[decide_eq_true rfl];rfl) ?_;refine⟨_,rfl,_,rfl,x,_,dx,_,_,rfl,hx,(R.iC v').cl,R.n_at v',Ct _ _ _,_,_,rfl,rfl,_,rfl,Bg (λ c=>?_) (λ c=>?_)⟩
    .have c:=of_decide_eq_true c;rw[if_pos c]at th q;refine⟨_,rfl,x,_,dx,_,_,rfl,hx,(R.iC v').cl,R.n_first v',Bz _ _ _,_,rfl,_,rfl,_,rfl,Ap 1,λ p hp=>?_⟩;obtain⟨H1,g,s1,e1⟩:=nw (.tup [.int 0]) hp;rw[g];refine OD (s1 _ _ hs) e1 (by lia) λ sb H2 s2 e2=>?_;have s12:=s1.trans s2;refine⟨w1,y1,v',a,st++[0],sb,rfl,o1.same s12,e2,th,by lia,by rw[List.length_append,List.length_singleton];lia,by lia,λ l H3 s3 nl ml=>?_⟩;refine⟨_,rfl,Ap 2,λ p4 h4=>?_⟩;obtain⟨H4,g,s4,e4⟩:=nw (.tup [.ref sa,.str "lean"]) h4;rw[g];refine⟨Ap 1,λ p5 h5=>?_⟩;obtain⟨H5,g,s5,e5⟩:=nw (.lst [.ref p4]) h5;rw[g];have s15:=(s12.trans s3).trans (s4.trans s5);have one:MvO H5 p5 [(st,"lean")]:=MvO.one e5 (s5 _ _ e4) (s15 _ _ hs);refine MvO.cat (ml.same (s4.trans s5)) one (by rw[BM,List.length_singleton];lia) λ l6 H6 s6 n6 m6=>?_;exact q l6 H6 (s15.trans s6) (C1 s15 n6) (by rw[DV,JH,<-DU];exact m6)
    .have c:=of_decide_eq_false c;rw[if_neg c]at th q;refine⟨_,rfl,_,rfl,x,_,dx,_,_,rfl,hx,(R.iC v').cl,R.n_at v',Ct _ _ _,_,_,rfl,rfl,_,rfl,Bg (λ c2=>?_) (λ c2=>?_)⟩
     .have c2:=of_decide_eq_true c2;rw[if_pos c2]at th q;refine⟨_,rfl,x,_,dx,_,_,rfl,hx,(R.iC v').cl,R.n_other v',By _ _ _,_,rfl,_,rfl,_,rfl,x,_,dx,_,_,rfl,hx,(R.iC v').cl,R.n_at v',Ct _ _ _,_,_,rfl,rfl,_,rfl,Ap 1,λ p hp=>?_⟩;obtain⟨H1,g,s1,e1⟩:=nw (.tup [.int 1]) hp;rw[g];refine OD (s1 _ _ hs) e1 (by lia) λ sb H2 s2 e2=>?_;have s12:=s1.trans s2;refine⟨w2,y2,v',a-k,st++[1],sb,rfl,o2.same s12,e2,th,by lia,by rw[List.length_append,List.length_singleton];lia,by lia,λ l H3 s3 nl ml=>?_⟩;refine⟨_,rfl,Ap 2,λ p4 h4=>?_⟩;obtain⟨H4,g,s4,e4⟩:=nw (.tup [.ref sa,.str "back"]) h4;rw[g];refine⟨Ap 1,λ p5 h5=>?_⟩;obtain⟨H5,g,s5,e5⟩:=nw (.lst [.ref p4]) h5;rw[g];have s15:=(s12.trans s3).trans (s4.trans s5);have one:MvO H5 p5 [(st,"back")]:=MvO.one e5 (s5 _ _ e4) (s15 _ _ hs);refine MvO.cat (ml.same (s4.trans s5)) one (by rw[BM,List.length_singleton];lia) λ l6 H6 s6 n6 m6=>?_;exact q l6 H6 (s15.trans s6) (C1 s15 n6) (by rw[DV,JH,<-DU];exact m6)
     .have c2:=of_decide_eq_false c2;rw[if_neg c2]at q;exact⟨Ap 0,λ l hl=>q l _ (Same.new hl) hl (MvO.nil upd_same)⟩
   .rw[if_neg e]at th q;refine AQ (by show(!decide (V.str (wd v')=V.str (wd u)))=true;rw[Bn,beq_false_of_ne e];rfl) ?_;refine⟨_,rfl,x,_,dx,_,_,rfl,hx,(R.iC v').cl,R.n_first v',Bz _ _ _,_,rfl,_,rfl,_,rfl,Ap 1,λ p hp=>?_⟩;obtain⟨H1,g,s1,e1⟩:=nw (.tup [.int 0]) hp;rw[g];refine OD (s1 _ _ hs) e1 (by lia) λ sb H2 s2 e2=>?_;have s12:=s1.trans s2;refine⟨w1,y1,u,a,st++[0],sb,rfl,o1.same s12,e2,th.1,by lia,by rw[List.length_append,List.length_singleton];lia,by lia,λ l H3 s3 nl ml=>?_⟩;have s13:=s12.trans s3;refine⟨_,rfl,_,rfl,x,_,dx,_,_,rfl,s13 _ _ hx,(R.iC v').cl,R.n_other v',By _ _ _,_,rfl,_,rfl,_,rfl,Ap 1,λ p' hp'=>?_⟩;obtain⟨H4,g,s4,e4⟩:=nw (.tup [.int 1]) hp';rw[g];have s14:=s13.trans s4;refine OD (s14 _ _ hs) e4 (by lia) λ sc H5 s5 e5=>?_;have s15:=s14.trans s5;refine⟨w2,y2,u,a,st++[1],sc,rfl,o2.same s15,e5,th.2,by lia,by rw[List.length_append,List.length_singleton];lia,by lia,λ l2 H6 s6 nl2 ml2=>?_⟩;have s16:=s15.trans s6;refine MvO.cat (ml.same ((s4.trans s5).trans s6)) ml2 (by rw[BM,BM];lia) λ l7 H7 s7 n7 m7=>?_;refine⟨_,rfl,Ap 2,λ p8 h8=>?_⟩;obtain⟨H8,g,s8,e8⟩:=nw (.tup [.ref sa,.str "cross"]) h8;rw[g];refine⟨Ap 1,λ p9 h9=>?_⟩;obtain⟨H9,g,s9,e9⟩:=nw (.lst [.ref p8]) h9;rw[g];have s19:=(s16.trans s7).trans (s8.trans s9);have one:MvO H9 p9 [(st,"cross")]:=MvO.one e9 (s9 _ _ e8) (s19 _ _ hs);refine MvO.cat (m7.same (s8.trans s9)) one (by rw[List.length_append,BM,BM,List.length_singleton];lia) λ l6 Hf sf nf mf=>?_;exact q l6 Hf (s19.trans sf) (C1 s19 nf) (by rw[DV,DV,JH,<-DU,<-DU];exact mf)
inductive NQ(cW cU cL:Addr)(n:Nat)(vs:LUz)(H:Hp)(Q:VK)(E:XK):Prop
 |mk (v:V) (t:Tr) (u:Bool) (a:Int) (h0:vs=[v,.str (wd u),.int a]) (h1:Obj cW cU cL H t v) (h2:Thr t u a) (h3:t.dp<n) (h4:∀v' H',Same H H'->Obj cW cU cL H' (ahd t u a) v'->Q v' H'):NQ cW cU cL n vs H Q E
def G4(cW cU cL:Addr)(n:Nat) :Sp:=λ vs H Q E=>NQ cW cU cL n vs H Q E
theorem UP{vs:LUz}{H:Hp}{Q:VK}{E:XK}:¬G4 cW cU cL 0 vs H Q E:=by
 rintro⟨v,t,u,a,_,_,_,h,_⟩;lia
theorem HK:An ["tree","word","at","first"] ["tree","word","at"] (Ag Es):=fsc
theorem KZ{f:Addr}{fd:FuncData}{n:Nat}(F:Fun K "ahead_of" "ahead_of" Es f fd)(R:RT mg K cT cW cU cL)(D_kind_of:Av P w K mg base 1 "kind_of" ["tree"] (BG cW cU cL))(D_cut_from:Av P w K mg base 3 "cut_from" ["word","at","first","other"] (Cj cW cU cL))(D_ahead_of:Av P w K mg base (n+3) "ahead_of" ["tree","word","at"] (G4 cW cU cL n)):A8 P w K mg base CX0 (n+4) f fd ["tree","word","at"] (G4 cW cU cL (n+1)):=by
 have S:=HK;refine F.ok S (λ vs H Q E h=>?_) (λ cdv A outer s H vs Q E hr h=>?_)
 .obtain⟨v,t,u,a,rfl,_⟩:=h;rfl
 .obtain⟨v,t,u,a,rfl,ho,th,hd,q⟩:=h;refine⟨_,(Ac (A3 (Ao Eh (Aj D_kind_of hr (Aa (pv 0) Ab) (by lia)) (pv 1) (Aq _)) (Ac (As (i:=3) S.nd rfl (Or.inl rfl) (Aj D_ahead_of hr (Aa (A9 (pv 0) rfl) (Aa (pv 1) (Aa (pv 2) Ab))) (by lia)))
   (Af (Ak (Aj D_cut_from hr (Aa (Aj D_kind_of hr (Aa (pv 0) Ab) (by lia)) (Aa (A9 (pv 0) rfl) (Aa (pv 3) (Aa (Aj D_ahead_of hr (Aa (A9 (pv 0) rfl) (Aa (pv 1) (Aa (pv 2) Ab))) (by lia)) Ab)))) (by lia))))) Ar)
   (Ac (A3 (Ao BS (pv 2) (A9 (pv 0) rfl) (Aq _)) (Af (Ak (Aj D_ahead_of hr (Aa (A9 (pv 0) rfl) (Aa (pv 1) (Aa (pv 2) Ab))) (by lia)))) Ar)
   (Ac (A3 (Ao IL (pv 2) (A9 (pv 0) rfl) (Aq _)) (Af (Ak (Aj D_cut_from hr (Aa (pv 1) (Aa (A9 (pv 0) rfl) (Aa (A9 (pv 0) rfl) (Aa (Aj D_ahead_of hr (Aa (A9 (pv 0) rfl) (Aa (pv 1) (Aa (Au Bq (pv 2) (A9 (pv 0) rfl)) Ab))) (by lia)) Ab)))) (by lia)))) Ar)
   (Af (Ak (A9 (pv 0) rfl)))))),?_⟩
  refine⟨_,rfl,v,t,rfl,ho,_,rfl,?_⟩;cases t with
  |whole m=>exact th.elim
  |cut v' k y1 y2 =>
   refine⟨rfl,_,rfl,?_⟩;have ho':=ho;rw[Obj]at ho;obtain⟨x,dx,w1,w2,rfl,hx,o1,o2⟩:=ho;have hd:max y1.dp y2.dp+1<n+1:=hd;rw[Thr]at th;rw[ahd]at q;by_cases e:v'=u
   .subst e;rw[if_pos rfl]at th q;refine AO (by show(!decide (V.str (wd v')=V.str (wd v')))=false;rw[decide_eq_true rfl];rfl) ?_;refine⟨_,rfl,_,rfl,x,_,dx,_,_,rfl,hx,(R.iC v').cl,R.n_at v',Ct _ _ _,_,_,rfl,rfl,_,rfl,Bg (λ c=>?_) (λ c=>?_)⟩
    .have c:=of_decide_eq_true c;rw[if_pos c]at th q;exact⟨_,rfl,x,_,dx,_,_,rfl,hx,(R.iC v').cl,R.n_first v',Bz _ _ _,_,rfl,_,rfl,w1,y1,v',a,rfl,o1,th,by lia,q⟩
    .have c:=of_decide_eq_false c;rw[if_neg c]at th q;refine⟨_,rfl,_,rfl,x,_,dx,_,_,rfl,hx,(R.iC v').cl,R.n_at v',Ct _ _ _,_,_,rfl,rfl,_,rfl,Bg (λ c2=>?_) (λ c2=>?_)⟩
     .have c2:=of_decide_eq_true c2;rw[if_pos c2]at th q;refine⟨_,rfl,_,rfl,x,_,dx,_,_,rfl,hx,(R.iC v').cl,R.n_at v',Ct _ _ _,_,rfl,x,_,dx,_,_,rfl,hx,(R.iC v').cl,R.n_first v',Bz _ _ _,_,rfl,x,_,dx,_,_,rfl,hx,(R.iC v').cl,R.n_other v',By _ _ _,_,rfl,_,rfl,_,rfl,x,_,dx,_,_,rfl,hx,(R.iC v').cl,R.n_at v',Ct _ _ _,_,_,rfl,rfl,w2,y2,v',a-k,rfl,o2,th,by lia,λ v1 H1 s1 b1=>?_⟩;exact⟨v',k,w1,v1,y1,_,rfl,o1.same s1,b1,λ v2 H2 s2 b2=>q _ _ (s1.trans s2) b2⟩
     .have c2:=of_decide_eq_false c2;rw[if_neg c2]at q;exact⟨_,rfl,x,_,dx,_,_,rfl,hx,(R.iC v').cl,R.n_first v',Bz _ _ _,q _ _ (Same.refl H) o1⟩
   .rw[if_neg e]at th q;refine AQ (by show(!decide (V.str (wd v')=V.str (wd u)))=true;rw[Bn,beq_false_of_ne e];rfl) ?_;refine⟨_,rfl,x,_,dx,_,_,rfl,hx,(R.iC v').cl,R.n_first v',Bz _ _ _,_,rfl,_,rfl,w1,y1,u,a,rfl,o1,th.1,by lia,λ v1 H1 s1 b1=>?_⟩;have hx1:=s1 _ _ hx;refine⟨_,rfl,_,_,rfl,ho'.same s1,_,rfl,x,_,dx,_,_,rfl,hx1,(R.iC v').cl,R.n_at v',Ct _ _ _,_,rfl,_,rfl,x,_,dx,_,_,rfl,hx1,(R.iC v').cl,R.n_other v',By _ _ _,_,rfl,_,rfl,w2,y2,u,a,rfl,o2.same s1,th.2,by lia,λ v2 H2 s2 b2=>?_⟩;exact⟨v',k,v1,v2,_,_,rfl,b1.same s2,b2,λ v3 H3 s3 b3=>q _ _ ((s1.trans s2).trans s3) b3⟩
inductive NP(cW cU cL:Addr)(n:Nat)(vs:LUz)(H:Hp)(Q:VK)(E:XK):Prop
 |mk (v:V) (t:Tr) (u:Bool) (a:Int) (h0:vs=[v,.str (wd u),.int a]) (h1:Obj cW cU cL H t v) (h2:Thr t u a) (h3:t.dp<n) (h4:∀v' H',Same H H'->Obj cW cU cL H' (bhd t u a) v'->Q v' H'):NP cW cU cL n vs H Q E
def G2(cW cU cL:Addr)(n:Nat) :Sp:=λ vs H Q E=>NP cW cU cL n vs H Q E
theorem UO{vs:LUz}{H:Hp}{Q:VK}{E:XK}:¬G2 cW cU cL 0 vs H Q E:=by
 rintro⟨v,t,u,a,_,_,_,h,_⟩;lia
theorem FM:An ["tree","word","at","first"] ["tree","word","at"] (Ag D3):=fsc
theorem JR{f:Addr}{fd:FuncData}{n:Nat}(F:Fun K "behind_of" "behind_of" D3 f fd)(R:RT mg K cT cW cU cL)(D_kind_of:Av P w K mg base 1 "kind_of" ["tree"] (BG cW cU cL))(D_cut_from:Av P w K mg base 3 "cut_from" ["word","at","first","other"] (Cj cW cU cL))(D_behind_of:Av P w K mg base (n+3) "behind_of" ["tree","word","at"] (G2 cW cU cL n)):A8 P w K mg base CX0 (n+4) f fd ["tree","word","at"] (G2 cW cU cL (n+1)):=by
 have S:=FM;refine F.ok S (λ vs H Q E h=>?_) (λ cdv A outer s H vs Q E hr h=>?_)
 .obtain⟨v,t,u,a,rfl,_⟩:=h;rfl
 .obtain⟨v,t,u,a,rfl,ho,th,hd,q⟩:=h;refine⟨_,(Ac (A3 (Ao Eh (Aj D_kind_of hr (Aa (pv 0) Ab) (by lia)) (pv 1) (Aq _)) (Ac (As (i:=3) S.nd rfl (Or.inl rfl) (Aj D_behind_of hr (Aa (A9 (pv 0) rfl) (Aa (pv 1) (Aa (pv 2) Ab))) (by lia)))
   (Af (Ak (Aj D_cut_from hr (Aa (Aj D_kind_of hr (Aa (pv 0) Ab) (by lia)) (Aa (A9 (pv 0) rfl) (Aa (pv 3) (Aa (Aj D_behind_of hr (Aa (A9 (pv 0) rfl) (Aa (pv 1) (Aa (pv 2) Ab))) (by lia)) Ab)))) (by lia))))) Ar)
   (Ac (A3 (Ao BS (pv 2) (A9 (pv 0) rfl) (Aq _)) (Af (Ak (Aj D_cut_from hr (Aa (pv 1) (Aa (Au Bq (A9 (pv 0) rfl) (pv 2)) (Aa (Aj D_behind_of hr (Aa (A9 (pv 0) rfl) (Aa (pv 1) (Aa (pv 2) Ab))) (by lia)) (Aa (A9 (pv 0) rfl) Ab)))) (by lia)))) Ar)
   (Ac (A3 (Ao IL (pv 2) (A9 (pv 0) rfl) (Aq _)) (Af (Ak (Aj D_behind_of hr (Aa (A9 (pv 0) rfl) (Aa (pv 1) (Aa (Au Bq (pv 2) (A9 (pv 0) rfl)) Ab))) (by lia)))) Ar)
   (Af (Ak (A9 (pv 0) rfl)))))),?_⟩
  refine⟨_,rfl,v,t,rfl,ho,_,rfl,?_⟩;cases t with
  |whole m=>exact th.elim
  |cut v' k y1 y2 =>
   refine⟨rfl,_,rfl,?_⟩;have ho':=ho;rw[Obj]at ho;obtain⟨x,dx,w1,w2,rfl,hx,o1,o2⟩:=ho;have hd:max y1.dp y2.dp+1<n+1:=hd;rw[Thr]at th;rw[bhd]at q;by_cases e:v'=u
   .subst e;rw[if_pos rfl]at th q;refine AO (by show(!decide (V.str (wd v')=V.str (wd v')))=false;rw[decide_eq_true rfl];rfl) ?_;refine⟨_,rfl,_,rfl,x,_,dx,_,_,rfl,hx,(R.iC v').cl,R.n_at v',Ct _ _ _,_,_,rfl,rfl,_,rfl,Bg (λ c=>?_) (λ c=>?_)⟩
    .have c:=of_decide_eq_true c;rw[if_pos c]at th q;refine⟨_,rfl,_,rfl,x,_,dx,_,_,rfl,hx,(R.iC v').cl,R.n_at v',Ct _ _ _,_,rfl,_,_,rfl,rfl,_,rfl,x,_,dx,_,_,rfl,hx,(R.iC v').cl,R.n_first v',Bz _ _ _,_,rfl,_,rfl,w1,y1,v',a,rfl,o1,th,by lia,λ v1 H1 s1 b1=>?_⟩;refine⟨_,rfl,x,_,dx,_,_,rfl,s1 _ _ hx,(R.iC v').cl,R.n_other v',By _ _ _,v',k-a,v1,w2,_,y2,rfl,b1,o2.same s1,λ v2 H2 s2 b2=>q _ _ (s1.trans s2) b2⟩
    .have c:=of_decide_eq_false c;rw[if_neg c]at th q;refine⟨_,rfl,_,rfl,x,_,dx,_,_,rfl,hx,(R.iC v').cl,R.n_at v',Ct _ _ _,_,_,rfl,rfl,_,rfl,Bg (λ c2=>?_) (λ c2=>?_)⟩
     .have c2:=of_decide_eq_true c2;rw[if_pos c2]at th q;exact⟨_,rfl,x,_,dx,_,_,rfl,hx,(R.iC v').cl,R.n_other v',By _ _ _,_,rfl,_,rfl,_,rfl,x,_,dx,_,_,rfl,hx,(R.iC v').cl,R.n_at v',Ct _ _ _,_,_,rfl,rfl,w2,y2,v',a-k,rfl,o2,th,by lia,q⟩
     .have c2:=of_decide_eq_false c2;rw[if_neg c2]at q;exact⟨_,rfl,x,_,dx,_,_,rfl,hx,(R.iC v').cl,R.n_other v',By _ _ _,q _ _ (Same.refl H) o2⟩
   .rw[if_neg e]at th q;refine AQ (by show(!decide (V.str (wd v')=V.str (wd u)))=true;rw[Bn,beq_false_of_ne e];rfl) ?_;refine⟨_,rfl,x,_,dx,_,_,rfl,hx,(R.iC v').cl,R.n_first v',Bz _ _ _,_,rfl,_,rfl,w1,y1,u,a,rfl,o1,th.1,by lia,λ v1 H1 s1 b1=>?_⟩;have hx1:=s1 _ _ hx;refine⟨_,rfl,_,_,rfl,ho'.same s1,_,rfl,x,_,dx,_,_,rfl,hx1,(R.iC v').cl,R.n_at v',Ct _ _ _,_,rfl,_,rfl,x,_,dx,_,_,rfl,hx1,(R.iC v').cl,R.n_other v',By _ _ _,_,rfl,_,rfl,w2,y2,u,a,rfl,o2.same s1,th.2,by lia,λ v2 H2 s2 b2=>?_⟩;exact⟨v',k,v1,v2,_,_,rfl,b1.same s2,b2,λ v3 H3 s3 b3=>q _ _ ((s1.trans s2).trans s3) b3⟩
theorem Rb{n m:Nat}(h:n<=m*(m-1))(hm:m<=150):n<=30000:=by
 have:m*(m-1)<=150*150:=Nat.mul_le_mul hm (by lia);lia
inductive NH(cW cU cL:Addr)(n:Nat)(vs:LUz)(H:Hp)(Q:VK)(E:XK):Prop
 |mk (v v2:V) (t s:Tr) (p:Rk) (st:List Int) (sa:Addr) (h0:vs=[v,v2,.ref sa]) (h1:Obj cW cU cL H t v) (h2:Obj cW cU cL H s v2) (h3:H sa=some (.tup (st.map V.int))) (h4:p.ok) (h5:Bk p t) (h6:Bk p s) (h7:(Az t p).Perm (Az s p)) (h8:s.dp<n) (h9:t.dp<24) (h10:st.length+s.dp<=60) (h11:t.sz<=150) (h12:∀l H',Same H H'->H l=none->MvO H' l (pfx st (mto t s))->Q (.ref l) H'):NH cW cU cL n vs H Q E
def Gy(cW cU cL:Addr)(n:Nat) :Sp:=λ vs H Q E=>NH cW cU cL n vs H Q E
theorem UF{vs:LUz}{H:Hp}{Q:VK}{E:XK}:¬Gy cW cU cL 0 vs H Q E:=by
 rintro⟨v,v2,t,s,p,st,sa,_,_,_,_,_,_,_,_,h,_⟩;lia
theorem HG:An ["tree","other","steps","word","at","row"] ["tree","other","steps"] (Ag Em):=fsc
theorem KL{f:Addr}{fd:FuncData}{n:Nat}(F:Fun K "moves_to" "moves_to" Em f fd)(T:Txt mg tk)(R:RT mg K cT cW cU cL)(D_kind_of:Av P w K mg base 1 "kind_of" ["tree"] (BG cW cU cL))(D_moves_up:Av P w K mg base 27 "moves_up" ["tree","word","at","steps"] (Gx cW cU cL 24))
  (D_ahead_of:Av P w K mg base 27 "ahead_of" ["tree","word","at"] (G4 cW cU cL 24)) (D_behind_of:Av P w K mg base 27 "behind_of" ["tree","word","at"] (G2 cW cU cL 24)) (D_moves_to:Av P w K mg base (n+28) "moves_to" ["tree","other","steps"] (Gy cW cU cL n)):A8 P w K mg base CX0 (n+29) f fd ["tree","other","steps"] (Gy cW cU cL (n+1)):=by
 have S:=HG;refine F.ok S (λ vs H Q E h=>?_) (λ cdv A outer s H vs Q E hr h=>?_)
 .obtain⟨v,v2,t,s,p,st,sa,rfl,_⟩:=h;rfl
 .obtain⟨v,v2,t,ot,p,st,sa,rfl,h1,h2,hs,pok,f1,f2,pm,hd,hdt,hl,hz,q⟩:=h;refine⟨_,(Ac (As (i:=3) S.nd rfl (Or.inl rfl) (Aj D_kind_of hr (Aa (pv 1) Ab) (by lia)))
   (Ac (A3 (Ao AZ (pv 3) (Ax (v:=.str "whole") rfl T.g_WHOLE ⟨_,rfl⟩) (Aq _)) (Af (Ak (AE Ab))) Ar)
   (Ac (As (i:=4) S.nd rfl (Or.inl rfl) (A9 (pv 1) rfl))
   (Ac (As (i:=5) S.nd rfl (Or.inl rfl) (Aj D_moves_up hr (Aa (pv 0) (Aa (pv 3) (Aa (pv 4) (Aa (pv 2) Ab)))) (by lia)))
   (Ac (As (i:=5) S.nd rfl (Or.inl rfl) (Au Dn (pv 5) (Aj D_moves_to hr (Aa (Aj D_ahead_of hr (Aa (pv 0) (Aa (pv 3) (Aa (pv 4) Ab))) (by lia)) (Aa (A9 (pv 1) rfl) (Aa (Au DX (pv 2) (At (Aa Ad Ab))) Ab))) (by lia))))
   (Af (Ak (Au Dn (pv 5) (Aj D_moves_to hr (Aa (Aj D_behind_of hr (Aa (pv 0) (Aa (pv 3) (Aa (pv 4) Ab))) (by lia)) (Aa (A9 (pv 1) rfl) (Aa (Au DX (pv 2) (At (Aa Ad Ab))) Ab))) (by lia)))))))))),?_⟩
  refine⟨_,rfl,v2,ot,rfl,h2,?_⟩;cases ot with
  |whole m =>
   rw[mto]at q;exact⟨_,rfl,rfl,_,rfl,AQ (decide_eq_true rfl) ⟨Ap 0,λ l hl=>q l _ (Same.new hl) hl (MvO.nil upd_same)⟩⟩
  |cut u k z1 z2 =>
   have lenT:=JT pok f1 f2 pm;have szE:=pm.length_eq;rw[AC,AC]at szE;rw[<-szE]at lenT;have cap:=Rb lenT hz;obtain⟨th,ok1,ok2,fa,fb,fz1,fz2,p1,p2⟩:=Nr pok f1 f2 pm;rw[mto]at q;rw[mto,List.length_append,List.length_append,BA,BA]at cap;rw[Obj]at h2;obtain⟨x,dx,w1,w2,rfl,hx,o1,o2⟩:=h2;have hd:max z1.dp z2.dp+1<n+1:=hd;have hl:st.length+(max z1.dp z2.dp+1)<=60:=hl;have szE:t.sz=z1.sz+z2.sz:=szE;obtain⟨da,db⟩:=Kf t u k;have za:=p1.length_eq;rw[AC,AC]at za;have zb:=p2.length_eq;rw[AC,AC]at zb;refine⟨_,rfl,rfl,_,rfl,AO (BP u) ?_⟩;refine⟨_,rfl,x,_,dx,_,_,rfl,hx,(R.iC u).cl,R.n_at u,Ct _ _ _,?_⟩;refine⟨_,rfl,_,rfl,_,rfl,_,rfl,v,t,u,k,st,sa,rfl,h1,hs,th,hdt,by lia,hz,λ l1 H1 s1 n1 m1=>?_⟩;refine⟨_,rfl,_,rfl,_,rfl,_,rfl,v,t,u,k,rfl,h1.same s1,th,hdt,λ va H2 s2 oa=>?_⟩;have s12:=s1.trans s2;refine⟨_,rfl,x,_,dx,_,_,rfl,s12 _ _ hx,(R.iC u).cl,R.n_first u,Bz _ _ _,_,rfl,Ap 1,λ p3 h3=>?_⟩;obtain⟨H3,g,s3,e3⟩:=nw (.tup [.int 0]) h3;rw[g];have s13:=s12.trans s3;refine OD (s13 _ _ hs) e3 (by lia) λ sb H4 s4 e4=>?_;have s14:=s13.trans s4;refine⟨va,w1,ahd t u k,z1,p.fst u k,st++[0],sb,rfl,(oa.same s3).same s4,o1.same s14,e4,ok1,fa,fz1,p1,by lia,by lia,by rw[List.length_append,List.length_singleton];lia,by lia,λ l2 H5 s5 n2 m2=>?_⟩;have s15:=s14.trans s5;rw[DU]at m2;refine MvO.cat (m1.same (((s2.trans s3).trans s4).trans s5)) m2 (by rw[BM,BM,BA];lia) λ l6 H6 s6 n6 m6=>?_;rw[<-DV]at m6;have s16:=s15.trans s6;refine⟨_,rfl,_,rfl,_,rfl,_,rfl,v,t,u,k,rfl,h1.same s16,th,hdt,λ vb H7 s7 ob=>?_⟩;have s17:=s16.trans s7;refine⟨_,rfl,x,_,dx,_,_,rfl,s17 _ _ hx,(R.iC u).cl,R.n_other u,By _ _ _,_,rfl,Ap 1,λ p8 h8=>?_⟩;obtain⟨H8,g,s8,e8⟩:=nw (.tup [.int 1]) h8;rw[g];have s18:=s17.trans s8;refine OD (s18 _ _ hs) e8 (by lia) λ sc H9 s9 e9=>?_;have s19:=s18.trans s9;refine⟨vb,w2,bhd t u k,z2,p.oth u k,st++[1],sc,rfl,(ob.same s8).same s9,o2.same s19,e9,ok2,fb,fz2,p2,by lia,by lia,by rw[List.length_append,List.length_singleton];lia,by lia,λ l10 H10 s10 n10 m10=>?_⟩;rw[DU]at m10;refine MvO.cat (m6.same (((s7.trans s8).trans s9).trans s10)) m10 (by rw[BM,BM,List.length_append,BA,BA];lia) λ lf Hf sf nf mf=>?_;rw[<-DV]at mf;exact q lf Hf ((s19.trans s10).trans sf) (C1 (s19.trans s10) nf) mf
def XG(H:Hp)(x C:Addr)(d:Option Addr)(fs:LFz):Prop:=((d=none/\fs=[])\/∃dx,d=some dx/\dx≠x/\H dx=some (CM dx fs))/\∃T,H x=some (EF C d x T)
def RfN(H:Hp)(E:XK)(C:Addr)(P:LFz->Hp->Prop):Prop:=∀x d fs H',Qw H x->SameN H H'->XG H' x C d fs->P fs H'->E (.ref x) d H'
def XEN(H:Hp)(R:Addr->LFz->Hp->Prop):XK:=λ v d H'=>∃x C fs,v=.ref x/\Qw H x/\SameN H H'/\XG H' x C d fs/\R C fs H'
theorem XEN.rf{H:Hp}{R:Addr->LFz->Hp->Prop}{C:Addr}{P:LFz->Hp->Prop}(h:∀fs H',P fs H'->R C fs H'):RfN H (XEN H R) C P:=λ x _ fs H' hx s r p=>⟨x,C,fs,rfl,hx,s,r,h fs H' p⟩
def R7(P:LFz->Hp->Prop):Prop:=∀fs H' x C d T2,P fs H'->XG H' x C d fs->H' T2=none->P fs (thrown H' x C d T2)
def RUN(H:Hp)(E:XK):Addr->LFz->Hp->Prop:=λ C fs H'=>∃P,RfN H E C P/\P fs H'/\R7 P
theorem ON{H H1:Hp}{x C C':Addr}{d:Option Addr}{T T2:Addr}{fs:LFz}(hx:Qw H1 x)(s:SameN H1 H)(r:XG H x C d fs)(fl:C6 H x C' d T)(hT:H T2=none) :
  C=C'/\XG (thrown H x C' d T2) x C d fs/\SameN H1 (thrown H x C' d T2):=by
 obtain⟨alt,T',e⟩:=r;have q:C=C':=by
  have:=fl.1;rw[e]at this;exact(Lq (Option.some.inj this)).1
 subst q;refine⟨rfl,⟨alt.imp id λ⟨dx,ed,nd,hd⟩=>⟨dx,ed,nd,by rw[AI nd (Ae hd hT)];exact hd⟩,T2,Ci⟩,λ a o ho no=>?_⟩;rw[AI (λ z=>by subst z;obtain⟨ps,rfl⟩:=hx o ho;exact no ps rfl) (Ae (s a o ho no) hT)];exact s a o ho no
theorem Gd{H:Hp}{E:XK}:∀x C d T T2 H',XEN H (RUN H E) (.ref x) d H'->C6 H' x C d T->H' T2=none->T2≠x->E (.ref x) d (thrown H' x C d T2):=by
 rintro x C d T T2 H' ⟨x',C',fs,ev,hx,s,r,P,rf,p,st⟩ fl hT2 nT2;obtain rfl:x=x':=Value.ref.inj ev;obtain⟨rfl,r2,s2⟩:=ON hx s r fl hT2;exact rf x d fs _ hx s2 r2 (st fs H' x C' d T2 p r hT2)
theorem Pl{H H2:Hp}{E:XK}{C:Addr}{P P':LFz->Hp->Prop}(s:SameN H H2)(r:RfN H E C P)(st:R7 P)(hp:∀fs H',Same H2 H'->P' fs H'->P fs H'):Rf H2 (XEN H (RUN H E)) C P':=λ x d fs H' hx s2 xr p =>
 ⟨x,C,fs,rfl,S9 s hx,s.trans s2.n,⟨.inr xr.1,xr.2⟩,P,r,hp fs H' s2 p,st⟩
theorem RfN.up{H:Hp}{E:XK}{C:Addr}{P:LFz->Hp->Prop}(r:RfN H E C P)(st:R7 P):RfN H (XEN H (RUN H E)) C P:=XEN.rf λ_ _ p=>⟨P,r,p,st⟩
theorem R1{C x T:Addr}{d:Option Addr}{q:Str}:EF C d x T≠Cy x q:=λ h=>by
 have h:(HO.ext λ h=>∃vs sl,h.get? x=some ⟨.ref C,d,.fields vs,sl⟩/\vs[1]?=some (.ref T))=HO.ext λ h=>∃o vs t,h.get? x=some o/\o.data=.fields vs/\vs[1]?=some (.str q t):=h;injection h with h;have e:=congrFun h ((Dr x).push ⟨.ref C,d,.fields #[.none,.ref T],#[]⟩);have g:((Dr x).push ⟨.ref C,d,.fields #[.none,.ref T],#[]⟩).get? x=some ⟨.ref C,d,.fields #[.none,.ref T],#[]⟩:=Heap.get?_push_at (Dq x).symm rfl;obtain⟨o,vs,t,e1,e2,e3⟩:=e.mp ⟨_,_,g,rfl⟩;rw[g]at e1;cases e1;cases e2;cases e3
theorem TabOk.thrown{pos:Pos}{qual:Str}{T x C T2:Addr}{d:Option Addr}{H:Hp}{fs:LFz}(h:TabOk pos qual T H)(r:XG H x C d fs)(hT:H T2=none):TabOk pos qual T (L2.thrown H x C d T2):=by
 obtain⟨ps,e,t,c⟩:=h;obtain⟨_,T',ex⟩:=r;refine⟨ps,by rw[AI (λ z=>by rw[z,ex]at e;cases e) (Ae e hT)];exact e,t,?_⟩;rcases c with c|⟨c',c1,c2⟩
 .exact .inl c
 .exact .inr ⟨c',c1,by rw[AI (λ z=>by rw[z,ex]at c2;exact R1 (Option.some.inj c2)) (Ae c2 hT)];exact c2⟩
structure Tb(tb tb3:Addr)(H:Hp):Prop where
 a:TabOk Rg Ov tb H
 b:TabOk Nu Li tb3 H
theorem Tb.same{tb tb3:Addr}{H H':Hp}(h:Tb tb tb3 H)(s:Same H H'):Tb tb tb3 H':=⟨h.a.same s,h.b.same s⟩
def PRf(tb tb3:Addr)(l:LFz):LFz->Hp->Prop:=λ fs H'=>fs=l/\Tb tb tb3 H'
theorem Gv{tb tb3:Addr}{l:LFz}:R7 (PRf tb tb3 l):=λ_ _ _ _ _ _ p r hT=>⟨p.1,TabOk.thrown p.2.a r hT,TabOk.thrown p.2.b r hT⟩
theorem Pg{H:Hp}{y C T:Addr}{o:HO}{d:Option Addr}(hy:H y=none)(hT:(upd H y o) T=none)(nT:T≠y):Same H (thrown (upd H y o) y C d T):=λ a u e=>by
 rw[Ah nT]at hT;rw[AI (Ae e hy) (Ae e hT),Ah (Ae e hy)];exact e
noncomputable def alB(t s:Tr)(x y:V):Bool:=@decide ((Az t ⟨0,0,iv y,iv x⟩).Perm (Az s ⟨0,0,iv y,iv x⟩)) (Classical.propDecidable _)
theorem Km{t s:Tr}{x y:V}:alB t s x y=true↔(Az t ⟨0,0,iv y,iv x⟩).Perm (Az s ⟨0,0,iv y,iv x⟩):=@decide_eq_true_iff _ (Classical.propDecidable _)
def Ii(t s:Tr)(x y:V):Option (Cl×V):=(Bw t x y).or (Bw s x y)
theorem M6{t s:Tr}{x y:V}{r:Cl×V}(h:Bw t x y=some r):Ii t s x y=some r:=by unfold Ii;rw[h];rfl
theorem EA{t s:Tr}{x y:V}{o:Option (Cl×V)}(g:Bw t x y=none)(h:Bw s x y=o):Ii t s x y=o:=by unfold Ii;rw[g,h];rfl
theorem Je{t s:Tr}{x y:V}(h:Ii t s x y=none):Bw t x y=none/\Bw s x y=none:=by unfold Ii at h;exact Option.or_eq_none_iff.mp h
noncomputable def E9(t s:Tr)(x y:V):Option (Cl×V):=(Ii t s x y).or (if alB t s x y=true then none else some (.U,.non))
inductive LH(tb tb3 cW cU cL:Addr)(cc:Cc)(vs:LUz)(H:Hp)(Q:VK)(E:XK):Prop
 |mk (v:V) (t:Tr) (x y:V) (h0:vs=[v,x,y]) (h1:AA x=true) (h2:AA y=true) (h3:Obj cW cU cL H t v) (h4:t.nd<=400) (h5:Tb tb tb3 H) (h6:(∀r,Bw t x y=some r->RfN H E (cc r.1) (PRf tb tb3 (fsC r)))) (h7:(Bw t x y=none->∀v' H',SameN H H'->Tb tb tb3 H'->Q v' H')):LH tb tb3 cW cU cL cc vs H Q E
def JC(tb tb3 cW cU cL:Addr)(cc:Cc) :Sp:=λ vs H Q E=>LH tb tb3 cW cU cL cc vs H Q E
theorem QX{f tb tb3:Addr}{fd:FuncData}(F:Fun K "form" "form" LY f fd)(hne:tb≠tb3)(D_pieces:BI P w K mg base 5 "pieces" ["tree","width","height"] (DS tb cW cU cL cc))(D_cut_up:Av P w K mg base 8 "cut_up" ["sheet","some"] (G1 tb3))(D_tree_from:Av P w K mg base 4 "tree_from" ["entries"] (JB K cW cU cL)):A8 P w K mg base (CX1 P w) 9 f fd ["tree","width","height"] (JC tb tb3 cW cU cL cc):=by
 have S:=SQ;refine F.okx S (λ vs H Q E h=>?_) (λ cdv A outer s H vs Q E hr h=>?_)
 .obtain⟨v,t,x,y,rfl,_⟩:=h;rfl
 .obtain⟨v,t,x,y,rfl,fx,fy,ho,hn,tab,hR,q⟩:=h;refine⟨_,(Af (Ak (Aj D_tree_from hr (Aa (Aj D_cut_up hr (Aa (At (Aa Ad (Aa Ad (Aa (pv 2) (Aa (pv 1) Ab))))) (Aa (Ey D_pieces hr (E2 BJ (Gd (H:=H) (E:=E))) (Aa (pv 0) (Aa (pv 1) (Aa (pv 2) Ab)))) Ab))) Ab)))),?_⟩;refine⟨_,rfl,_,rfl,Ap 4,λ a na=>?_⟩;obtain⟨H0,e,s0,e0⟩:=nw (.tup [.int 0,.int 0,y,x]) na;rw[e];clear e;refine⟨_,rfl,_,rfl,_,rfl,v,t,x,y,rfl,fx,fy,ho.same s0,hn,tab.a.same s0,λ r e=>Pl s0.n (hR r e) Gv (λ fs H' s z=>⟨z,tab.same (s0.trans s)⟩),λ en l ts H1 s1 tab1 nl hl pc du=>?_⟩;obtain⟨ww,hh,rfl,rfl,w1,w2,h1,h2,fit⟩:=Cf en;have tb0:=(tab.a.same s0).tbl;have sN1:=s1.toN tb0;have t31:=(tab.b.same s0).tb s1 (Ne.symm hne) tb0;have dul:=du.len;rw[List.length_map]at dul;obtain⟨z1,_,_⟩:=Ed w1 w2 h1 h2 fit;refine⟨a,l,⟨0,0,hh,ww⟩,ts,t,rfl,sN1.tup e0,hl,pc,by lia,ok0 w1 h1,bd0 w2 h2,M1 fit,du.1,t31,λ le xs G H2 s2 t32 hle hens gnd gfit isf gpm=>?_⟩;refine⟨le,xs,G,rfl,SqL.of hle,hens,gnd,λ v' H3 s3 ob=>?_⟩;exact q en v' H3 ((s0.n.trans sN1).trans ((s2.toN t31.tbl).trans s3.n)) ⟨(tab1.tb s2 hne t31.tbl).same s3,t32.same s3⟩
inductive Jy(tb tb3 cW cU cL:Addr)(cc:Cc)(vs:LUz)(H:Hp)(Q:VK)(E:XK):Prop
 |mk (v v2:V) (t s:Tr) (x y:V) (h0:vs=[v,v2,x,y]) (h1:AA x=true) (h2:AA y=true) (h3:Obj cW cU cL H t v) (h4:Obj cW cU cL H s v2) (h5:t.nd<=400) (h6:s.nd<=400) (h7:Tb tb tb3 H) (h8:(∀r,Ii t s x y=some r->RfN H E (cc r.1) (PRf tb tb3 (fsC r)))) (h9:(Ii t s x y=none->∀H',SameN H H'->Tb tb tb3 H'->Q (.bl (alB t s x y)) H')):Jy tb tb3 cW cU cL cc vs H Q E
def ET(tb tb3 cW cU cL:Addr)(cc:Cc) :Sp:=λ vs H Q E=>Jy tb tb3 cW cU cL cc vs H Q E
theorem Pz{f tb tb3:Addr}{fd:FuncData}(F:Fun K "alike" "alike" JE f fd)(hne:tb≠tb3)(D_pieces:BI P w K mg base 5 "pieces" ["tree","width","height"] (DS tb cW cU cL cc)):A8 P w K mg base (CX1 P w) 6 f fd ["tree","other","width","height"] (ET tb tb3 cW cU cL cc):=by
 have S:=R8;refine F.okx S (λ vs H Q E h=>?_) (λ cdv A outer s H vs Q E hr h=>?_)
 .obtain⟨v,v2,t,s,x,y,rfl,_⟩:=h;rfl
 .obtain⟨v,v2,t,ot,x,y,rfl,fx,fy,h1,h2,n1,n2,tab,hR,q⟩:=h;refine⟨_,(Af (Ak (BB (Md hr) (Ey D_pieces hr (E2 BJ (Gd (H:=H) (E:=E))) (Aa (pv 0) (Aa (pv 2) (Aa (pv 3) Ab)))) (Ey D_pieces hr (E2 BJ (Gd (H:=H) (E:=E))) (Aa (pv 1) (Aa (pv 2) (Aa (pv 3) Ab)))) (Aq _)))),?_⟩;refine⟨_,rfl,_,rfl,_,rfl,v,t,x,y,rfl,fx,fy,h1,n1,tab.a,λ r e=>Pl (SameN.refl H) (hR r (M6 e)) Gv (λ fs H' s z=>⟨z,tab.same s⟩),λ en1 l1 ts1 H1 s1 tab1 nl1 e1 c1 d1=>?_⟩;have sN1:=s1.toN tab.a.tbl;have T1:Tb tb tb3 H1:=⟨tab1,tab.b.tb s1 (Ne.symm hne) tab.a.tbl⟩;refine⟨_,rfl,_,rfl,_,rfl,v2,ot,x,y,rfl,fx,fy,h2.n sN1,n2,tab1,λ r e=>Pl sN1 (hR r (EA en1 e)) Gv (λ fs H' s z=>⟨z,T1.same s⟩),λ en2 l2 ts2 H2 s2 tab2 nl2 e2 c2 d2=>?_⟩;have sN2:=s2.toN tab1.tbl;have T2:Tb tb tb3 H2:=⟨tab2,T1.b.tb s2 (Ne.symm hne) tab1.tbl⟩;obtain⟨ww,hh,rfl,rfl,w1,w2,g1,g2,f1⟩:=Cf en1;have D1:DIs K H2 (.lst (gsD (cons ts1))) (.ref l1):=gsL (sN2.lst e1) (c1.n sN2);have D2:DIs K H2 (.lst (gsD (cons ts2))) (.ref l2):=gsL e2 c2;refine⟨_,_,D1,D2,⟨_,rfl⟩,⟨_,rfl⟩,by have:=Ka (cons ts1);rw[dep];lia,?_⟩;rw[if_neg Bool.false_ne_true];have eb:deq (D.lst (gsD (cons ts1))) (D.lst (gsD (cons ts2)))=alB t ot (.int ww) (.int hh):=by
   rw[Bool.eq_iff_iff,Km];refine Iff.trans ⟨λ e=>?_,λ e=>?_⟩ (N6 w1 w2 g1 g2 f1 d1 d2)
   .rw[deq]at e;exact PM e
   .rw[e]at D1 |-;exact Cv _ D1
  rw[eb];exact q (EA en1 en2) H2 (sN1.trans sN2) T2
inductive NK(tb tb3 cW cU cL:Addr)(cc:Cc)(vs:LUz)(H:Hp)(Q:VK)(E:XK):Prop
 |mk (v v2:V) (t s:Tr) (x y:V) (h0:vs=[v,v2,x,y]) (h1:AA x=true) (h2:AA y=true) (h3:Obj cW cU cL H t v) (h4:Obj cW cU cL H s v2) (h5:t.nd<=400) (h6:s.nd<=400) (h7:Tb tb tb3 H) (h8:(∀r,E9 t s x y=some r->RfN H E (cc r.1) (PRf tb tb3 (fsC r)))) (h9:(E9 t s x y=none->∀v' H',SameN H H'->Tb tb tb3 H'->Q v' H')):NK tb tb3 cW cU cL cc vs H Q E
def LR(tb tb3 cW cU cL:Addr)(cc:Cc) :Sp:=λ vs H Q E=>NK tb tb3 cW cU cL cc vs H Q E
theorem Ub:An ["tree","other","width","height"] ["tree","other","width","height"] (Ag Ph):=fsc
theorem S6{f tb tb3:Addr}{fd:FuncData}(F:Fun K "led" "led" Ph f fd)(X_Unlike:XMk0 K mg "Unlike" (cc .U))(D_alike:BI P w K mg base 6 "alike" ["tree","other","width","height"] (ET tb tb3 cW cU cL cc))(D_moves_to:Av P w K mg base 52 "moves_to" ["tree","other","steps"] (Gy cW cU cL 24)):A8 P w K mg base (CX1 P w) 53 f fd ["tree","other","width","height"] (LR tb tb3 cW cU cL cc):=by
 have S:=Ub;refine F.okx S (λ vs H Q E h=>?_) (λ cdv A outer s H vs Q E hr h=>?_)
 .obtain⟨v,v2,t,s,x,y,rfl,_⟩:=h;rfl
 .obtain⟨v,v2,t,ot,x,y,rfl,fx,fy,h1,h2,n1,n2,tab,hR,q⟩:=h;refine⟨_,(Ac (A3 (DC (CI (Ey D_alike hr (E2 BJ (Gd (H:=H) (E:=E))) (Aa (pv 0) (Aa (pv 1) (Aa (pv 2) (Aa (pv 3) Ab))))))) (Af (Od BJ X_Unlike)) Ar)
   (Af (Ak (Aj D_moves_to hr (Aa (pv 0) (Aa (pv 1) (Aa (At Ab) Ab))))))),?_⟩
  refine⟨_,rfl,_,rfl,_,rfl,_,rfl,v,v2,t,ot,x,y,rfl,fx,fy,h1,h2,n1,n2,tab,λ r e=>(hR r (by unfold E9;rw[e];rfl)).up Gv,λ en H1 s1 tab1=>⟨_,rfl,?_⟩⟩;have eL:E9 t ot x y=if alB t ot x y=true then none else some (.U,.non):=by unfold E9;rw[en];rfl
  obtain⟨en1,en2⟩:=Je en;have ai:=Km (t:=t) (s:=ot) (x:=x) (y:=y);cases hal:alB t ot x y with
  |false =>
   rw[hal]at eL;refine AQ rfl λ z T hz hT nT=>?_;have s2:=Pg (C:=cc .U) (d:=none) hz hT nT;exact hR (.U,.non) eL z none [] _ (S9 s1 hz) (s1.trans s2.n) ⟨.inl ⟨rfl,rfl⟩,T,Ci⟩ ⟨rfl,tab1.same s2⟩
  |true =>
   rw[hal]at eL ai;obtain⟨ww,hh,rfl,rfl,w1,w2,g1,g2,f1⟩:=Cf en1;obtain⟨_,_,e1,e2,_,_,_,_,f2⟩:=Cf en2;cases e1;cases e2;have pm:=ai.mp rfl;have d1:=E7 w1 g1 f1;have d2:=E7 w1 g1 f2;have z1:=E6 w1 g1 f1;have z2:ww*hh<=12*12:=Int.mul_le_mul w2 g2 (by lia) (by lia);refine AO rfl ⟨_,rfl,_,rfl,Ap 0,λ p hp=>?_⟩;obtain⟨H2,g,s2,e2⟩:=nw (.tup []) hp;rw[g];have e2:H2 p=some (.tup ((([]:List Int)).map V.int)):=e2;refine⟨v,v2,t,ot,⟨0,0,hh,ww⟩,[],p,rfl,(h1.n s1).same s2,(h2.n s1).same s2,e2,ok0 w1 g1,M1 f1,M1 f2,pm,by lia,by lia,by show 0+ot.dp<=60;lia,by lia,λ l H3 s3 nl ml=>?_⟩;exact q eL _ H3 ((s1.trans s2.n).trans s3.n) ((tab1.same s2).same s3)
inductive Fi(vs:LUz)(H:Hp)(Q:VK)(E:XK):Prop
 |mk (l b:Addr) (ts:List PT) (p:Rk) (h0:vs=[.ref l,.ref b]) (h1:H l=some (.lst (pcs ts))) (h2:PcO H ts) (h3:ts.length<=150) (h4:H b=some (.tup p.vs)) (h5:p.ok) (h6:(∀u,0<=p.lo u/\p.hi u<=12)) (h7:∀c H',Same H H'->LnAt H' c (Dc ((cons ts).map (·.1)) p)->Q (.ref c) H'):Fi vs H Q E
def FE:Sp:=λ vs H Q E=>Fi vs H Q E
theorem Ip:An ["_law_some","_law_block","_law_found","_law_side_here","_law_line"] ["_law_some","_law_block"] (Ag Cn):=fsc
def dnL(rs:List Rk)(p:Rk)(i:Nat):List (Bool×Int):=(if 1<=i then (lns rs p true).map (λ a=>(true,a)) else [])++(if 2<=i then (lns rs p false).map (λ a=>(false,a)) else [])
theorem R5{L:List (Rk×Option Int)}{u:Bool}{a:Int}:(L.map (MB u a)).any id=(L.map (·.1)).any (EE u a):=by
 rw[List.any_map,List.any_map];rfl
theorem GN{f:Addr}{fd:FuncData}(F:Fun K "_law_through" "_law_through" Cn f fd)(T:Txt mg tk):A8 P w K mg base CX0 1 f fd ["_law_some","_law_block"] FE:=by
 have S:=Ip;refine F.ok S (λ vs H Q E h=>?_) (λ cdv A outer s H vs Q E hr h=>?_)
 .obtain⟨l,b,ts,p,rfl,_⟩:=h;rfl
 .obtain⟨l,b,ts,p,rfl,hl,pc,hn,hb,pk,pb,q⟩:=h;refine⟨_,(Ac (As (i:=2) S.nd rfl (Or.inl rfl) (AE Ab))
   (Ac (DD PassesOwn.never rfl (BL (AE (Aa Ad (Aa Ad Ab)))) (Aw (i:=3) S.nd rfl (Or.inr rfl)) (Af (DD PassesOwn.never rfl (IJ rfl T.z_range (Aa (Au AW (Al Am (pv 1) (pv 3) (λ_ _=>rfl)) Ad) (Aa (Al Am (pv 1) (Au AW (pv 3) Ad) (λ_ _=>rfl)) Ab))) (Aw (i:=4) S.nd rfl (Or.inr rfl)) (Af (A3 (DC (CI (A6 Ly rfl T.z_any rfl (Aa (Nl rfl (BL (pv 0)) (λ_ _ _ _ _=>(Gb (K:=K) (n:=2) rfl (Ay (Aw (i:=0) (show List.Nodup (["_law_one","_law_mark","_law_line","_law_side_here"]:LSz) from by decide +kernel) rfl (Or.inl rfl)) (Ay (Aw (i:=1) (show List.Nodup (["_law_one","_law_mark","_law_line","_law_side_here"]:LSz) from by decide +kernel) rfl (Or.inl rfl)) B3)))) (λ_ _ _ _ _=>(GH BS BS (Al (Fa (K:=K)) (pv 0) (pv 3) (λ_ _=>rfl)) (pv 2) (Al (Fa (K:=K)) (pv 0) (Au AW (pv 3) Ad) (λ_ _=>rfl)))) (N:=["_law_one","_law_mark","_law_line","_law_side_here"]) (fr:=[none,none,some 4,some 3])) Ab)))) (Af (Bt (DG PySem.F.plainAttrs_list PySem.F.slot_list_append PySem.F.type_list_append AX (pv 2) (Aa (At (Aa (Al AD (AE (Aa A4 (Aa A4 Ab))) (pv 3) (λ_ _=>rfl)) (Aa (pv 4) Ab))) Ab)))) Ar)))))
   (Af (Ak (pv 2))))),?_⟩
  refine⟨Ap 0,λ c hc=>?_⟩;obtain⟨H0,g,s0,e0⟩:=nw (.lst []) hc;rw[g];refine⟨Ap 2,λ M hM=>?_⟩;have s1:Same H0 (upd H0 M (.lst [.int 1,.int 0])):=Same.new hM;have e1:(upd H0 M (.lst [.int 1,.int 0])) M=some (.lst [.int 1,.int 0]):=upd_same;have nM:M≠c:=Ne.symm (Ae e0 hM);have c1:=s1 _ _ e0;generalize upd H0 M (.lst [.int 1,.int 0])=H1 at s1 e1 c1 |-;refine⟨M,rfl,⟨_,SqL.of e1⟩,Fb (K:=K) (a:=M) (xs:=[.int 1,.int 0]) (λ i σ H'=>∃(x3 x4:Option V),σ=[some (.ref l),some (.ref b),some (.ref c),x3,x4]/\Same H H'/\H' M=some (.lst [.int 1,.int 0])/\LnAt H' c (dnL ((cons ts).map (·.1)) p i)/\(dnL ((cons ts).map (·.1)) p i).length<=12*i)
   ⟨_,_,rfl,s0.trans s1,e1,⟨[],c1,(λ t ht=>nomatch ht),rfl⟩,Nat.le_refl _⟩ (λ i σ H' _ hp=>let ⟨_,_,_,_,h,_⟩:=hp;SqL.of h) ?_ ?_⟩
  .rintro i x σ H' hx ⟨x3,x4,rfl,s2,m2,ln,Mt⟩;obtain⟨u,rfl,hu⟩:∃u,x=.int (sd u)/\i=if u then 0 else 1:=by
    match i,hx with
    |0,hx=>cases hx;exact⟨true,rfl,rfl⟩
    |1,hx=>cases hx;exact⟨false,rfl,rfl⟩
   obtain⟨b0,b1⟩:=pb u;have h12:=Dl pk u;refine⟨_,rfl,_,rfl,b,_,_,_,rfl,rfl,SqT.of (s2 _ _ hb),Fc,_,_,rfl,rfl,_,rfl,_,rfl,_,_,rfl,rfl,b,_,_,_,rfl,rfl,SqT.of (s2 _ _ hb),NC,?_⟩;refine⟨_,_,rfl,⟨by lia,by lia,by lia,by lia⟩,?_⟩;refine O4 (lo:=p.lo u+1) (n:=(p.hi u-(p.lo u+1)).toNat) (λ j σ H'=>∃(x4:Option V),σ=[some (.ref l),some (.ref b),some (.ref c),some (.int (sd u)),x4]/\Same H H'/\H' M=some (.lst [.int 1,.int 0])/\LnAt H' c (dnL ((cons ts).map (·.1)) p i++(EY ((cons ts).map (·.1)) u (p.lo u) j).map (λ a=>(u,a))))
    ⟨_,rfl,s2,m2,by rw[EY];show LnAt _ c (_++[]);rw[List.append_nil];exact ln⟩ ?_ ?_
   .rintro j σ H2 hj ⟨x4,rfl,s3,m3,ln⟩;have jl:=DI (rs:=(cons ts).map (·.1)) (u:=u) (lo:=p.lo u) j;refine⟨_,rfl,l,rfl,⟨_,SqL.of (s3 _ _ hl)⟩,λ acc hacc=>F6 (K:=K) (a:=l) (ys:=pcs ts) (λ i zs σ H'=>(∃y z,σ=[y,z,some (.int (p.lo u+1+(j:Int))),some (.int (sd u))])/\Same H2 H'/\zs=((cons ts).take i).map λ g=>V.bl (MB u (p.lo u+1+(j:Int)) g)) ⟨⟨none,none,rfl⟩,Same.new hacc,rfl⟩ (λ i zs σ H' _ _ hp=>SqL.of ((s3.trans hp.2.1) _ _ hl)) ?_ ?_⟩
    .rintro k x zs σ H' hx hk hl' hacc' ⟨⟨y,z,rfl⟩,hs,rfl⟩;obtain⟨t,ht,rfl⟩:=EW hx;obtain⟨g1,g2⟩:=(pc.same (s3.trans hs)) t (List.mem_of_getElem? ht);have next:∀{σ':St}{v:V}{H3:Hp},H3=H'->σ'=[some (.ref t.2.1),some (AN t.2.2.2),some (.int (p.lo u+1+(j:Int))),some (.int (sd u))]->v=.bl (MB u (p.lo u+1+(j:Int)) t.2.2)->cNx acc (pcs ts).length (λ i zs σ H'=>(∃y z,σ=[y,z,some (.int (p.lo u+1+(j:Int))),some (.int (sd u))])/\Same H2 H'/\zs=((cons ts).take i).map λ g=>V.bl (MB u (p.lo u+1+(j:Int)) g)) k σ' v H3:=λ{σ' v H3} e e2 e3=>by
      subst e e2 e3;refine cNx.mk (Nat.le_of_lt (A0 (by rw[List.length_map];lia))) hk hl' hacc' ⟨⟨_,_,rfl⟩,λ b o e=>by rw[Ah (Ae e hacc)];exact hs b o e,?_⟩;rw[List.take_succ,List.getElem?_map,ht,List.map_append];rfl
     refine⟨t.1,_,rfl,SqT.of g1,rfl,_,_,rfl,_,_,rfl,rfl,_,rfl,_,rfl,t.2.1,_,_,_,rfl,rfl,SqT.of g2,Fc,_,rfl,_,_,rfl,rfl,_,rfl,Bg (λ h1=>?_) (λ h1=>?_)⟩
     .refine⟨_,rfl,_,rfl,_,_,rfl,rfl,t.2.1,_,_,_,rfl,rfl,SqT.of g2,NC,_,_,rfl,rfl,next rfl rfl ?_⟩;unfold MB;rw[h1,Bool.true_and]
     .exact next rfl rfl (by unfold MB;rw[h1];rfl)
    .rintro zs σ H3 hzl hacc' ⟨_,s4,rfl⟩;rw[List.length_map,<-List.length_map (f:=λ t:PT=>t.2.2),List.take_length]at hacc';have hbs:SqL K H3 acc (((cons ts).map (MB u (p.lo u+1+(j:Int)))).map V.bl):=SqL.of (by rw[List.map_map];exact hacc');have s24:=s3.trans s4;have m4:=s4 _ _ m3;refine⟨acc,_,rfl,hbs,rfl,_,rfl,?_⟩;rw[R5];cases hany:((cons ts).map (·.1)).any (EE u (p.lo u+1+(j:Int))) with
     |true =>
      refine AO rfl ⟨_,rfl,s24,m4,?_⟩;rw[EY,hany,if_pos rfl,List.append_nil];exact ln.same s4
     |false =>
      refine AQ rfl ?_;obtain⟨us,u1,u2,ue⟩:=ln.same s4;have ul:=congrArg List.length ue;rw[List.length_map,List.length_append,List.length_map]at ul;refine⟨_,rfl,.inl ⟨rfl,_,SqL.of u1⟩,Ap 2,λ N hN=>?_⟩;obtain⟨H5,g,s5,e5⟩:=nw (.lst [.str "level",.str "upright"]) hN;rw[g];refine⟨_,rfl,N,_,_,_,rfl,rfl,SqL.of e5,TY,_,rfl,Ap 2,λ t6 h6=>?_⟩;obtain⟨H6,g,s6,e6⟩:=nw (.tup [.str (wd u),.int (p.lo u+1+(j:Int))]) h6;rw[g];have s56:=s5.trans s6;have u6:=s56 _ _ u1;have il:i<=1:=by rw[hu];cases u<;>decide
      refine⟨c,_,_,rfl,rfl,u6,A0 (by rw[CS];lia),?_⟩;have sK:∀{b:Addr}{o:HO},b≠c->H6 b=some o->(upd H6 c (.lst (Ev us++[.ref t6]))) b=some o:=λ n e=>by rw[Ah n];exact e
      have tup:∀{b:Addr}{xs:LUz},H6 b=some (.tup xs)->(upd H6 c (.lst (Ev us++[.ref t6]))) b=some (.tup xs):=λ{b xs} e=>sK (EX e u6 (by intro z;cases z)) e;refine⟨_,rfl,λ d o e=>?_,sK nM (s56 _ _ m4),⟨us++[(t6,u,p.lo u+1+(j:Int))],by rw[upd_same];show _=some (HO.lst (List.map _ (us++[(t6,u,p.lo u+1+(j:Int))])));rw[List.map_append];rfl,λ t ht=>?_,?_⟩⟩
      .rw[Ah (Ae e hc)];exact s56 _ _ (s24 _ _ e)
      .rcases List.mem_append.mp ht with ht|ht
       .exact tup (s56 _ _ (u2 t ht))
       .rw[List.mem_singleton.mp ht];exact tup e6
      .rw[List.map_append,ue,EY,hany,if_neg Bool.false_ne_true,List.map_append,List.append_assoc];rfl
   .rintro σ H2 ⟨x4,rfl,s3,m3,ln⟩;have ln:LnAt H2 c (dnL ((cons ts).map (·.1)) p i++(lns ((cons ts).map (·.1)) p u).map (λ a=>(u,a))):=ln;have e:dnL ((cons ts).map (·.1)) p i++(lns ((cons ts).map (·.1)) p u).map (λ a=>(u,a))=dnL ((cons ts).map (·.1)) p (i+1):=by
     subst hu;cases u<;>simp[dnL]
    have ll:=DI (rs:=(cons ts).map (·.1)) (u:=u) (lo:=p.lo u) (p.hi u-(p.lo u+1)).toNat;have l3:=congrArg List.length e;rw[List.length_append,List.length_map]at l3;unfold lns at l3;rw[e]at ln;exact⟨_,_,rfl,s3,m3,ln,by lia⟩
  .rintro σ H' ⟨x3,x4,rfl,s2,m2,ln,Mt⟩;exact⟨_,rfl,q c H' s2 ln⟩
theorem St8.keep{H H':Hp}{st a:Addr}{tm:Int}{o:HO}(h:St8 H st tm)(s:SameX st H H')(e:H a=some o)(n:∀kv,o≠.dK kv):H' a=some o:=by
 obtain⟨_,_,_,q⟩:=h;exact s _ _ (EX e q (n _)) e
theorem PcO.st{H H':Hp}{st:Addr}{tm:Int}{ts:List PT}(p:PcO H ts)(h:St8 H st tm)(s:SameX st H H'):PcO H' ts:=λ t ht=>⟨h.keep s (p t ht).1 (by intro kv z;cases z),h.keep s (p t ht).2 (by intro kv z;cases z)⟩
inductive Jr(n:Nat)(vs:LUz)(H:Hp)(Q:VK)(E:XK):Prop
 |mk (l b st:Addr) (ts:List PT) (p:Rk) (t:Tr) (tm:Int) (h0:vs=[.ref l,.ref b,.ref st]) (h1:H l=some (.lst (pcs ts))) (h2:PcO H ts) (h3:ts.length<=150) (h4:H b=some (.tup p.vs)) (h5:p.ok) (h6:(∀u,0<=p.lo u/\p.hi u<=12)) (h7:Bk p t) (h8:(cons ts).Perm (Az t p)) (h9:St8 H st tm) (h10:0<=tm) (h11:tm+t.sz<=900) (h12:p.len true+p.len false<n) (h13:∀v r H' tm',SameX st H H'->St8 H' st tm'->0<=tm'->tm'+1<=tm+t.sz->Told H' r v->Bk p r->(Az r p).Perm (Az t p)->Q v H'):Jr n vs H Q E
def Dx(n:Nat) :Sp:=λ vs H Q E=>Jr n vs H Q E
theorem Sw{vs:LUz}{H:Hp}{Q:VK}{E:XK}:¬Dx 0 vs H Q E:=by
 rintro⟨l,b,st,ts,p,t,tm,_,_,_,_,_,pk,_,_,_,_,_,_,h,_⟩;have h1:=Dl pk true;have h2:=Dl pk false;rw[B9,B9]at h;lia
abbrev RA:LSz:=["_law_some","_law_block","_law_state_here","_law_lines","_law_word","_law_line","_law_first","_law_low_here","_law_other","_law_high","_law_part"]
theorem FL:An RA ["_law_some","_law_block","_law_state_here"] (Ag Dh):=fsc
theorem QI{α:Type}{ts:List (Addr×α)}{z:Int}(h0:0<=z)(h1:z<ts.length):∃t∈ts,atI (Ev ts) z=some (.ref t.1):=by
 have h:z.toNat<ts.length:=by lia
 have e:=Gn (xs:=Ev ts) (j:=z.toNat) (v:=.ref ts[z.toNat].1) (by unfold Ev;rw[List.getElem?_map,List.getElem?_eq_getElem h];rfl);rw[Int.toNat_of_nonneg h0]at e;exact⟨_,List.getElem_mem h,e⟩
theorem JN{f:Addr}{fd:FuncData}{n:Nat}(F:Fun K "_law_recut" "_law_recut" Dh f fd)(T:Txt mg tk)(D__law_through:Av P w K mg base 1 "_law_through" ["_law_some","_law_block"] FE)(D__law_pick:Av P w K mg base 2 "_law_pick" ["_law_state_here","_law_many"] FX)(D__law_parted:Av P w K mg base 1 "_law_parted" ["_law_some","_law_block","_law_word","_law_line"] IB)
  (D__law_recut:Av P w K mg base (n+3) "_law_recut" ["_law_some","_law_block","_law_state_here"] (Dx n)):A8 P w K mg base CX0 (n+4) f fd ["_law_some","_law_block","_law_state_here"] (Dx (n+1)):=by
 have S:=FL;refine F.ok S (λ vs H Q E h=>?_) (λ cdv A outer s H vs Q E hr h=>?_)
 .obtain⟨l,b,st,ts,p,t,tm,rfl,_⟩:=h;rfl
 .obtain⟨l,b,st,ts,p,t,tm,rfl,hl,pc,hn,hb,pk,pb,fit,pm,hst,tm0,tm9,hd,q⟩:=h;refine⟨_,(Ac (A3 (Ao AZ (A6 Ca rfl T.z_len rfl (Aa (pv 0) Ab)) Ad (Aq _)) (Af (Ak (At (Aa A4 (Aa (Al Am (Al AD (pv 0) Ad (λ_ _=>rfl)) Ad (λ_ _=>rfl)) Ab))))) Ar)
   (Ac (As (i:=3) S.nd rfl (Or.inl rfl) (Aj D__law_through hr (Aa (pv 0) (Aa (pv 1) Ab)) (by lia)))
   (Ac (Fo (Al AD (pv 3) (Aj D__law_pick hr (Aa (pv 2) (Aa (A6 Ca rfl T.z_len rfl (Aa (pv 3) Ab)) Ab)) (by lia)) (λ_ _=>rfl)) (DE rfl (Ay (Aw (i:=4) S.nd rfl (Or.inl rfl)) (Ay (Aw (i:=5) S.nd rfl (Or.inl rfl)) B3))))
   (Ac (Fo (Aj D__law_parted hr (Aa (pv 0) (Aa (pv 1) (Aa (pv 4) (Aa (pv 5) Ab)))) (by lia)) (DE rfl (Ay (Aw (i:=6) S.nd rfl (Or.inl rfl)) (Ay (Aw (i:=7) S.nd rfl (Or.inl rfl)) (Ay (Aw (i:=8) S.nd rfl (Or.inl rfl)) (Ay (Aw (i:=9) S.nd rfl (Or.inl rfl)) B3))))))
   (Ac (As (i:=10) S.nd rfl (Or.inl rfl) (Aj D__law_recut hr (Aa (pv 6) (Aa (pv 7) (Aa (pv 2) Ab))) (by lia)))
   (Af (Ak (At (Aa (pv 4) (Aa (Au Bq (pv 5) (Al Am (pv 1) (Fr F8 rfl T.z_int rfl (Aa (BB AZ (pv 4) A4 (Aq _)) Ab)) (λ_ _=>rfl))) (Aa (pv 10) (Aa (Aj D__law_recut hr (Aa (pv 8) (Aa (pv 9) (Aa (pv 2) Ab))) (by lia)) Ab)))))))))))),?_⟩
  have lenE:=pm.length_eq;rw[AC,List.length_map]at lenE;refine⟨_,rfl,l,_,rfl,.inl (SqL.of hl),rfl,_,rfl,Bg (λ c=>?_) (λ c=>?_)⟩
  .have c:=of_decide_eq_true c;have c:ts.length=1:=by have:=V.int.inj c;rw[List.length_map]at this;lia
   obtain⟨x,rfl⟩:=List.length_eq_one_iff.mp c;obtain⟨m,rfl⟩:=OW (lenE.symm.trans c);have hx:=pc x (List.mem_singleton.mpr rfl);refine⟨_,rfl,l,_,_,_,rfl,rfl,SqL.of hl,rfl,x.1,_,_,_,rfl,rfl,SqT.of hx.1,Cw,Ap 2,λ a ha=>?_⟩;rw[Az]at pm;have e:=pm.mem_iff.mp (List.mem_singleton.mpr rfl);have e:=List.mem_singleton.mp e;have e2:x.2.2.2=m:=congrArg Prod.snd e;have s1:Same H (upd H a (.tup [.str "whole",AN x.2.2.2])):=Same.new ha;refine q (.ref a) (.whole m) _ tm s1.x (hst.same s1) tm0 (Int.le_refl _) ?_ fit (List.Perm.refl _);rw[Told,<-e2];exact⟨a,rfl,upd_same⟩
  .have c:=of_decide_eq_false c;have c:t.sz≠1:=λ z=>c (by rw[List.length_map,lenE,z];rfl);refine⟨_,rfl,_,rfl,l,b,ts,p,rfl,hl,pc,hn,hb,pk,pb,λ cl H1 s1 ln=>?_⟩;have fnd:=Q4 (L:=cons ts) pk;have cl24:=Q3 (rs:=(cons ts).map (·.1)) pk pb;generalize Dc ((cons ts).map (·.1)) p=cs at ln fnd cl24;obtain⟨us,u1,u2,ue⟩:=ln;have ul:us.length=cs.length:=by rw[<-ue,List.length_map]
   have ne:0<cs.length:=by
    cases t with
    |whole m=>exact absurd rfl c
    |cut u0 k0 x0 y0 =>
     obtain⟨⟨k1,k2⟩,fx,fy⟩:=fitR_cut.mp fit;obtain⟨_,_,nb⟩:=Cs pk k1 k2 fx fy;rw[B9]at k2;exact List.length_pos_of_mem (fnd.all u0 (p.lo u0+k0) trivial (by lia) (by lia) λ g hg=>nb g (by have:=pm.mem_iff.mp hg;rw[Az]at this;exact this))
   have st1:=hst.same s1;refine⟨_,rfl,_,rfl,_,rfl,cl,_,rfl,.inl (SqL.of u1),st,tm,_,rfl,st1,tm0,by have:=C7 t;lia,by rw[CS];lia,by rw[CS];lia,λ z H2 z0 z1 s2 st2=>?_⟩;rw[CS]at z1;obtain⟨x,hx,hat⟩:=QI (ts:=us) z0 z1;obtain⟨xa,u,line⟩:=x;have kp2:∀{d:Addr}{o:HO},H d=some o->(∀kv,o≠.dK kv)->H2 d=some o:=λ e nk=>st1.keep s2 (s1 _ _ e) nk;refine⟨cl,_,_,_,rfl,rfl,SqL.of (st1.keep s2 u1 (by intro kv z;cases z)),hat,xa,_,rfl,SqT.of (st1.keep s2 (u2 _ hx) (by intro kv z;cases z)),rfl,_,_,rfl,_,_,rfl,rfl,?_⟩;obtain⟨f1,f2,nb⟩:=fnd.ok (u,line) (ue ▸ List.mem_map.mpr ⟨_,hx,rfl⟩);obtain⟨a,rfl⟩:∃a,line=p.lo u+a:=⟨line-p.lo u,by lia⟩;have f1:p.lo u<p.lo u+a:=f1;have f2:p.lo u+a<p.hi u:=f2;have a1:1<=a:=by lia
   have a2:a<p.len u:=by rw[B9];lia
   obtain⟨th,fa,fb,q1,q2⟩:=Ft pk fit pm a1 a2 nb;obtain⟨ok1,ok2⟩:=DA pk a1 a2;obtain⟨lh1,lh2,lt1,lt2⟩:=RJ (u:=u) (a:=a) pb a1 a2;have szE:=(BU (p:=p) th).length_eq;rw[AC,List.length_append,AC,AC]at szE;have sza:=C7 (ahd t u a);have szb:=C7 (bhd t u a);have l2:=kp2 hl (by intro kv z;cases z);have b2:=kp2 hb (by intro kv z;cases z);have pc2:=(pc.same s1).st st1 s2;refine⟨_,rfl,_,rfl,_,rfl,_,rfl,l,b,ts,p,u,a,rfl,l2,pc2,hn,b2,λ cc l1 b1 lo bo ts1 ts2 H3 s3 hcc hl1 pc1 e1 hb1 hlo pco e2 hbo=>?_⟩;refine⟨cc,_,rfl,SqT.of hcc,rfl,_,_,rfl,_,_,rfl,_,_,rfl,_,_,rfl,rfl,?_⟩;have st3:=st2.same s3;have q1':(cons ts1).Perm (Az (ahd t u a) (p.fst u a)):=by rw[e1];exact q1
   have q2':(cons ts2).Perm (Az (bhd t u a) (p.oth u a)):=by rw[e2];exact q2
   have n1:=q1'.length_eq;have n2:=q2'.length_eq;rw[AC,List.length_map]at n1 n2;refine⟨_,rfl,_,rfl,_,rfl,l1,b1,st,ts1,p.fst u a,ahd t u a,tm+1,rfl,hl1,pc1,by lia,hb1,ok1,lh1,fa,q1',st3,by lia,by lia,by lia,λ v1 r1 H4 tm4 s4 st4 t40 t4 told1 fit1 perm1=>?_⟩;have hlo4:=st3.keep s4 hlo (by intro kv z;cases z);have hbo4:=st3.keep s4 hbo (by intro kv z;cases z);have b4:=st3.keep s4 (s3 _ _ b2) (by intro kv z;cases z);refine⟨_,rfl,_,rfl,_,rfl,_,rfl,rfl,.inr ⟨_,rfl,?_⟩⟩;have hsd:(if decide (V.str (wd u)=V.str "upright")=true then (1:Int) else 0)=sd u:=by rw[OP];rfl
   rw[hsd];refine⟨b,_,_,_,rfl,rfl,SqT.of b4,Fc,_,_,rfl,rfl,_,rfl,_,rfl,_,rfl,_,rfl,lo,bo,st,ts2,p.oth u a,bhd t u a,tm4,rfl,hlo4,pco.st st3 s4,by lia,hbo4,ok2,lh2,fb,q2',st4,t40,by lia,by lia,λ v2 r2 H5 tm5 s5 st5 t50 t5 told2 fit2 perm2=>?_⟩;refine⟨Ap 4,λ x6 h6=>?_⟩;have s6:Same H5 (upd H5 x6 (.tup [.str (wd u),.int (p.lo u+a-p.lo u),v1,v2])):=Same.new h6;refine q (.ref x6) (.cut u a r1 r2) _ tm5 ((s1.x.trans s2).trans ((s3.x.trans s4).trans (s5.trans s6.x))) (st5.same s6) t50 (by lia) ?_ (fitR_cut.mpr ⟨⟨a1,a2⟩,fit1,fit2⟩) ?_
   .rw[Told];exact⟨x6,v1,v2,rfl,upd_same.trans (by show some (HO.tup [V.str (wd u),V.int (p.lo u+a-p.lo u),v1,v2])=_;rw[show p.lo u+a-p.lo u=a by lia]),(told1.samed s5 st4).same s6,told2.same s6⟩
   .rw[Az];exact(perm1.append perm2).trans (BU (p:=p) th).symm
def Shp(t t':Tr):Prop:=t'.dp=t.dp/\t'.nd=t.nd
theorem Shp.refl{t:Tr}:Shp t t:=⟨rfl,rfl⟩
theorem Nb{u:Bool}{k k':Int}{x y x' y':Tr}(hx:Shp x x')(hy:Shp y y'):Shp (.cut u k x y) (.cut u k' x' y'):=by
 refine⟨?_,?_⟩
 .rw[Tr.dp,Tr.dp,hx.1,hy.1]
 .rw[Tr.nd,Tr.nd,hx.2,hy.2]
theorem UC:SS 10 6:=⟨by decide,by decide,by decide⟩
theorem Tw:SS 10 20:=⟨by decide,by decide,by decide⟩
inductive NJ(n:Nat)(vs:LUz)(H:Hp)(Q:VK)(E:XK):Prop
 |mk (v:V) (t:Tr) (st:Addr) (tm:Int) (h0:vs=[v,.ref st]) (h1:Told H t v) (h2:t.dp<n) (h3:St8 H st tm) (h4:0<=tm) (h5:tm+3*(t.dp:Int)<=900) (h6:∀v' t' H',SameX st H H'->Told H' t' v'->Shp t t'->Q v' H'):NJ n vs H Q E
def Gz(n:Nat) :Sp:=λ vs H Q E=>NJ n vs H Q E
theorem UG{vs:LUz}{H:Hp}{Q:VK}{E:XK}:¬Gz 0 vs H Q E:=by
 rintro⟨v,t,st,tm,_,_,h,_⟩;lia
theorem Jm:An ["_law_told_here","_law_state_here","_law_way","_law_parts"] ["_law_told_here","_law_state_here"] (Ag Et):=fsc
theorem Me{f:Addr}{fd:FuncData}{n:Nat}(F:Fun K "_law_low" "_law_low" Et f fd)(D__law_pick:Av P w K mg base 2 "_law_pick" ["_law_state_here","_law_many"] FX)(D__law_low:Av P w K mg base (n+3) "_law_low" ["_law_told_here","_law_state_here"] (Gz n)):A8 P w K mg base CX0 (n+4) f fd ["_law_told_here","_law_state_here"] (Gz (n+1)):=by
 have S:=Jm;refine F.ok S (λ vs H Q E h=>?_) (λ cdv A outer s H vs Q E hr h=>?_)
 .obtain⟨v,t,st,tm,rfl,_⟩:=h;rfl
 .obtain⟨v,t,st,tm,rfl,ht,hd,hst,tm0,tm9,q⟩:=h;refine⟨_,(Ac (A3 (Ao AZ (Al Am (pv 0) Ad (λ_ _=>rfl)) A4 (Aq _)) (Af (Ak (pv 0))) Ar)
   (Ac (As (i:=2) S.nd rfl (Or.inl rfl) (Aj D__law_pick hr (Aa (pv 1) (Aa Ad Ab)) (by lia)))
   (Ac (A3 (Ao AZ (pv 2) Ad (Aq _)) (Af (Ak (At (Aa (Al Am (pv 0) Ad (λ_ _=>rfl)) (Aa (Al AD (AE (Aa Ad (Aa (Au Bq (Au Bq Ad Ad) (Aj D__law_pick hr (Aa (pv 1) (Aa (Au Mc Ad Ad) Ab)) (by lia))) Ab))) (Aj D__law_pick hr (Aa (pv 1) (Aa Ad Ab)) (by lia)) (λ_ _=>rfl)) (Aa (Al Am (pv 0) Ad (λ_ _=>rfl)) (Aa (Al Am (pv 0) Ad (λ_ _=>rfl)) Ab))))))) Ar)
   (Ac (As (i:=3) S.nd rfl (Or.inl rfl) (AE (Aa (Al Am (pv 0) Ad (λ_ _=>rfl)) (Aa (Al Am (pv 0) Ad (λ_ _=>rfl)) Ab))))
   (Ac (Fo (Aj D__law_low hr (Aa (Al AD (pv 3) (pv 2) (λ_ _=>rfl)) (Aa (pv 1) Ab)) (by lia)) (S0 (pv 3) (pv 2) Pd))
   (Af (Ak (At (Aa (Al Am (pv 0) Ad (λ_ _=>rfl)) (Aa (Al Am (pv 0) Ad (λ_ _=>rfl)) (Aa (Al AD (pv 3) Ad (λ_ _=>rfl)) (Aa (Al AD (pv 3) Ad (λ_ _=>rfl)) Ab)))))))))))),?_⟩
  cases t with
  |whole m =>
   have ht0:=ht;rw[Told]at ht;obtain⟨a,rfl,ha⟩:=ht;exact⟨_,rfl,a,_,_,_,rfl,rfl,SqT.of ha,BF,rfl,_,rfl,AQ (decide_eq_true rfl) ⟨_,rfl,q _ (.whole m) H (Same.refl H).x ht0 Shp.refl⟩⟩
  |cut u k y1 y2 =>
   rw[Told]at ht;obtain⟨a,v1,v2,rfl,ha,t1,t2⟩:=ht;have hd:max y1.dp y2.dp+1<n+1:=hd;have tm9:tm+3*((max y1.dp y2.dp+1:Nat):Int)<=900:=tm9;refine⟨_,rfl,a,_,_,_,rfl,rfl,SqT.of ha,at0,rfl,_,rfl,AO (BP u) ?_⟩;refine⟨_,rfl,st,tm,3,rfl,hst,tm0,by lia,by decide,by decide,λ z H1 z0 z1 s1 st1=>?_⟩;have ha1:=hst.keep s1 ha (by intro kv z;cases z);have t1:=t1.samed s1 hst;have t2:=t2.samed s1 hst;refine⟨_,rfl,rfl,_,rfl,Bg (λ c=>?_) (λ c=>?_)⟩
   .refine⟨_,rfl,a,_,_,_,rfl,rfl,SqT.of ha1,at0,_,_,rfl,rfl,_,rfl,_,_,rfl,rfl,UC,st,tm+1,_,rfl,st1,by lia,by lia,by decide,by decide,λ z2 H2 z20 z21 s2 st2=>⟨_,_,rfl,rfl,Ap 2,λ l nl=>?_⟩⟩;obtain⟨H3,e,s3,e3⟩:=nw (.lst [.int 0,.int (0-1-z2)]) nl;rw[show upd H2 l (.lst [V.int 0,(λ i j=>V.int (i-j)) ((λ i j=>i-j) 0 1) z2])=H3 from e];clear e;have st3:=st2.same s3;refine⟨_,rfl,st,tm+1+1,2,rfl,st3,by lia,by lia,by decide,by decide,λ z4 H4 z40 z41 s4 st4=>?_⟩;obtain⟨k',hk'⟩:∃k':Int,atI [V.int 0,V.int (0-1-z2)] z4=some (.int k'):=by
     obtain rfl|rfl:z4=0\/z4=1:=by lia
     .exact⟨_,rfl⟩
     .exact⟨_,rfl⟩
    have k14:∀{b:Addr}{o:HO},H1 b=some o->(∀kv,o≠.dK kv)->H4 b=some o:=λ e n=>st3.keep s4 (s3 _ _ (st1.keep s2 e n)) n;have ha4:=k14 ha1 (by intro kv z;cases z);refine⟨l,_,_,_,rfl,rfl,SqL.of (st3.keep s4 e3 (by intro kv z;cases z)),hk',_,rfl,a,_,_,_,rfl,rfl,SqT.of ha4,at2,_,rfl,a,_,_,_,rfl,rfl,SqT.of ha4,at3,Ap 4,λ x hx=>?_⟩;have s5:Same H4 (upd H4 x (.tup [.str (wd u),.int k',v1,v2])):=Same.new hx;have up:∀{t:Tr}{v:V},Told H1 t v->Told (upd H4 x (.tup [.str (wd u),.int k',v1,v2])) t v:=λ h=>((((h.samed s2 st1).same s3).samed s4 st3).same s5);exact q _ (.cut u k' y1 y2) _ ((s1.trans s2).trans ((s3.x.trans s4).trans s5.x)) (by rw[Told];exact⟨x,v1,v2,rfl,upd_same,up t1,up t2⟩) (Nb Shp.refl Shp.refl)
   .have c:=decIf.mp c;refine⟨_,rfl,a,_,_,_,rfl,rfl,SqT.of ha1,at2,_,rfl,a,_,_,_,rfl,rfl,SqT.of ha1,at3,Ap 2,λ lp nlp=>?_⟩;obtain⟨H2,e,s2,e2⟩:=nw (.lst [v1,v2]) nlp;rw[e];clear e;have st2:=st1.same s2;obtain⟨j,vz,yz,hat,hix,tz,dz,fin⟩:∃(j:Nat)(vz:V)(yz:Tr),atI [v1,v2] z=some vz/\ixN 2 z=some j/\Told H1 yz vz/\yz.dp<=max y1.dp y2.dp/\∀(v':V)(t':Tr)(H':Hp),(∀{t:Tr}{v:V},Told H1 t v->Told H' t v)->Told H' t' v'->Shp yz t'->∃w1 w2 x1 x2,[v1,v2].set j v'=[w1,w2]/\Told H' x1 w1/\Told H' x2 w2/\Shp y1 x1/\Shp y2 x2:=by
     obtain rfl|rfl:z=0\/z=1:=by lia
     .exact⟨0,v1,y1,rfl,rfl,t1,by lia,λ v' t' H' up h sh=>⟨v',v2,t',y2,rfl,h,up t2,sh,Shp.refl⟩⟩
     .exact⟨1,v2,y2,rfl,rfl,t2,by lia,λ v' t' H' up h sh=>⟨v1,v',y1,t',rfl,up t1,h,Shp.refl,sh⟩⟩
    refine⟨_,rfl,_,rfl,lp,_,_,_,rfl,rfl,SqL.of e2,hat,_,rfl,vz,yz,st,tm+1,rfl,tz.same s2,by lia,st2,by lia,by lia,λ v' t' H3 s3 o3 sh=>?_⟩;have e3:=st2.keep s3 e2 (by intro kv z;cases z);have ha3:=st2.keep s3 (s2 _ _ ha1) (by intro kv z;cases z);refine⟨_,rfl,_,rfl,lp,_,z,j,rfl,rfl,e3,hix,?_⟩;obtain⟨w1,w2,x1,x2,ew,tw1,tw2,sh1,sh2⟩:=fin v' t' H3 (λ h=>(h.same s2).samed s3 st2) o3 sh;rw[ew];have s4:SameX lp H3 (upd H3 lp (.lst [w1,w2])):=SameX.upd;have e4:(upd H3 lp (.lst [w1,w2])) lp=some (.lst [w1,w2]):=upd_same;have tw1:=tw1.samex s4 e3;have tw2:=tw2.samex s4 e3;have ha4:=s4 _ _ (EX ha3 e3 (by intro z;cases z)) ha3;have n1:∀{b:Addr}{o:HO},H1 b=some o->b≠st->H3 b=some o:=λ e n=>s3 _ _ n (s2 _ _ e);have s14:SameX st H1 (upd H3 lp (.lst [w1,w2])):=λ b o n e=>by rw[Ah (Ae e nlp)];exact n1 e n
    generalize upd H3 lp (.lst [w1,w2])=H4 at e4 tw1 tw2 ha4 s14 |-;refine⟨_,rfl,a,_,_,_,rfl,rfl,SqT.of ha4,at0,_,rfl,a,_,_,_,rfl,rfl,SqT.of ha4,at1,_,rfl,lp,_,_,_,rfl,rfl,SqL.of e4,BF,_,rfl,lp,_,_,_,rfl,rfl,SqL.of e4,Cw,Ap 4,λ x hx=>?_⟩;have s5:Same H4 (upd H4 x (.tup [.str (wd u),.int k,w1,w2])):=Same.new hx;exact q _ (.cut u k x1 x2) _ (s1.trans (s14.trans s5.x)) (by rw[Told];exact⟨x,w1,w2,rfl,upd_same,tw1.same s5,tw2.same s5⟩) (Nb sh1 sh2)
abbrev Sq:LUz:=[.int 0,.int 13,.int (-1),.bl true,.non,.str "5",.int (10^(20:Int).toNat),.int (-12)]
theorem Pc(r:Int):∃v,atI Sq (r % 8)=some v/\AA v=true:=by
 have h0:=Int.emod_nonneg r (b:=8) (by decide);have h1:=Int.emod_lt_of_pos r (b:=8) (by decide);obtain e|e|e|e|e|e|e|e:r % 8=0\/r % 8=1\/r % 8=2\/r % 8=3\/r % 8=4\/r % 8=5\/r % 8=6\/r % 8=7:=by lia
 all_goals (rw[e];exact⟨_,rfl,rfl⟩)
inductive Jt(vs:LUz)(H:Hp)(Q:VK)(E:XK):Prop
 |mk (c:Int) (h0:vs=[.int c]) (h1:∀v H',Same H H'->AA v=true->Q v H'):Jt vs H Q E
def K3:Sp:=λ vs H Q E=>Jt vs H Q E
theorem MC:An ["_law_cell_here"] ["_law_cell_here"] (Ag D4):=fsc
theorem KN{f:Addr}{fd:FuncData}(F:Fun K "_law_side" "_law_side" D4 f fd):A8 P w K mg base CX0 1 f fd ["_law_cell_here"] K3:=by
 have S:=MC;refine F.ok S (λ vs H Q E h=>?_) (λ cdv A outer s H vs Q E hr h=>?_)
 .obtain⟨c,rfl,_⟩:=h;rfl
 .obtain⟨c,rfl,q⟩:=h;refine⟨_,(Ac (A3 (Ao AZ (Au BX (pv 0) Ad) Ad (Aq _)) (Af (Ak (Al AD (AE (Aa Ad (Aa Ad (Aa (Nk J9 Ad) (Aa KF (Aa Bu (Aa A4 (Aa (Au Mc Ad Ad) (Aa (Nk J9 Ad) Ab))))))))) (Au BX (Au CU (pv 0) Ad) Ad) (λ_ _=>rfl)))) Ar)
   (Af (Ak (Au AW Ad (Au BX (Au CU (pv 0) Ad) Ad))))),?_⟩
  refine⟨_,rfl,_,_,rfl,rfl,(show(0:Int)<4 from by decide),rfl,_,rfl,Bg (λ h=>?_) (λ h=>?_)⟩
  .refine⟨_,rfl,_,_,rfl,rfl,Tw,_,rfl,Ap 8,λ l nl=>?_⟩;obtain⟨v,hv,fv⟩:=Pc (c / 4);exact⟨_,rfl,_,_,rfl,rfl,O8 _ (by decide) (by decide),_,_,rfl,rfl,(show(0:Int)<8 from by decide),l,_,_,_,rfl,rfl,SqL.of upd_same,hv,q _ _ (Same.new nl) fv⟩
  .exact⟨_,rfl,_,_,rfl,rfl,O8 _ (by decide) (by decide),_,_,rfl,rfl,(show(0:Int)<12 from by decide),_,_,rfl,rfl,q _ _ (Same.refl H) rfl⟩
theorem Qn{u:Bool}{k w h:Int}{x y:Tr}:B6 (.cut u k x y) w h=if 1<=k/\k<(if u then w else h) then (B6 x (if u then k else w) (if u then h else k)).or (B6 y (if u then w-k else w) (if u then h else h-k)) else some k:=by
 rw[B6];cases u<;>rfl
inductive Js(n:Nat)(vs:LUz)(H:Hp)(Q:VK)(E:XK):Prop
 |mk (v:V) (t:Tr) (ww hh:Int) (h0:vs=[v,.int ww,.int hh]) (h1:Told H t v) (h2:t.dp<n) (h3:(B6 t ww hh=none->∀H',Same H H'->Q .non H')) (h4:∀k,B6 t ww hh=some k->∀a H',Same H H'->H' a=some (.tup [.str "cut",.int k])->Q (.ref a) H'):Js n vs H Q E
def Dy(n:Nat) :Sp:=λ vs H Q E=>Js n vs H Q E
theorem S8{vs:LUz}{H:Hp}{Q:VK}{E:XK}:¬Dy 0 vs H Q E:=by
 rintro⟨v,t,_,_,_,_,h,_⟩;lia
abbrev RB:LSz:=["_law_told_here","_law_width","_law_height","_law_word","_law_at","_law_one","_law_two","_law_found"]
theorem Ff:An RB ["_law_told_here","_law_width","_law_height"] (Ag CG):=fsc
theorem Ia{f:Addr}{fd:FuncData}{n:Nat}(F:Fun K "_law_no_cut" "_law_no_cut" CG f fd)(T:Txt mg tk)(D__law_no_cut:Av P w K mg base (n+3) "_law_no_cut" ["_law_told_here","_law_width","_law_height"] (Dy n)):A8 P w K mg base CX0 (n+4) f fd ["_law_told_here","_law_width","_law_height"] (Dy (n+1)):=by
 have S:=Ff;refine F.ok S (λ vs H Q E h=>?_) (λ cdv A outer s H vs Q E hr h=>?_)
 .obtain⟨v,t,ww,hh,rfl,_⟩:=h;rfl
 .obtain⟨v,t,ww,hh,rfl,ht,hd,qn,qs⟩:=h;refine⟨_,(Ac (A3 (Ao AZ (Al Am (pv 0) Ad (λ_ _=>rfl)) A4 (Aq _)) (Af (Ak Bu)) Ar)
   (Ac (Fo (pv 0) (DE rfl (Ay (Aw (i:=3) S.nd rfl (Or.inl rfl)) (Ay (Aw (i:=4) S.nd rfl (Or.inl rfl)) (Ay (Aw (i:=5) S.nd rfl (Or.inl rfl)) (Ay (Aw (i:=6) S.nd rfl (Or.inl rfl)) B3))))))
   (Ac (A3 (DC (GA BS BS Ad (pv 4) (Al AD (AE (Aa (pv 2) (Aa (pv 1) Ab))) (Fr F8 rfl T.z_int rfl (Aa (BB AZ (pv 3) A4 (Aq _)) Ab)) (λ_ _=>rfl)))) (Af (Ak (At (Aa A4 (Aa (pv 4) Ab))))) Ar)
   (Ac (A3 (Ao AZ (pv 3) A4 (Aq _)) (Ac (As (i:=7) S.nd rfl (Or.inl rfl) (Aj D__law_no_cut hr (Aa (pv 5) (Aa (pv 4) (Aa (pv 2) Ab))) (by lia)))
   (Af (A3 (Ao GK (pv 7) Bu (Aq _)) (Af (As (i:=7) S.nd rfl (Or.inl rfl) (Aj D__law_no_cut hr (Aa (pv 6) (Aa (Au Bq (pv 1) (pv 4)) (Aa (pv 2) Ab))) (by lia)))) Ar))) (Ac (As (i:=7) S.nd rfl (Or.inl rfl) (Aj D__law_no_cut hr (Aa (pv 5) (Aa (pv 1) (Aa (pv 4) Ab))) (by lia)))
   (Af (A3 (Ao GK (pv 7) Bu (Aq _)) (Af (As (i:=7) S.nd rfl (Or.inl rfl) (Aj D__law_no_cut hr (Aa (pv 6) (Aa (pv 1) (Aa (Au Bq (pv 2) (pv 4)) Ab))) (by lia)))) Ar))))
   (Af (Ak (pv 7))))))),?_⟩
  cases t with
  |whole m =>
   rw[Told]at ht;obtain⟨a,rfl,ha⟩:=ht;exact⟨_,rfl,a,_,_,_,rfl,rfl,SqT.of ha,BF,rfl,_,rfl,AQ (decide_eq_true rfl) (qn (by rw[B6]) H (Same.refl H))⟩
  |cut u k y1 y2 =>
   rw[Told]at ht;obtain⟨a,v1,v2,rfl,ha,t1,t2⟩:=ht;have hd:max y1.dp y2.dp+1<n+1:=hd;refine⟨_,rfl,a,_,_,_,rfl,rfl,SqT.of ha,at0,rfl,_,rfl,AO (BP u) ?_⟩;refine⟨_,rfl,a,_,rfl,SqT.of ha,rfl,_,_,rfl,_,_,rfl,_,_,rfl,_,_,rfl,rfl,?_⟩;rw[Qn]at qn qs;have bad:(∀a H',Same H H'->H' a=some (.tup [.str "cut",.int k])->Q (.ref a) H')->∀H' p,Same H H'->H' p=none->Q (.ref p) (upd H' p (.tup [.str "cut",.int k])):=λ z H' p s' hp=>z p _ (s'.trans (Same.new hp)) upd_same;refine⟨_,rfl,_,_,rfl,rfl,_,rfl,Bg (λ c1=>?_) (λ c1=>?_)⟩
   .have c1:=of_decide_eq_true c1;refine⟨_,rfl,_,rfl,Ap 2,λ l nl=>⟨_,rfl,rfl,.inr ⟨_,rfl,?_⟩⟩⟩;have hsd:(if decide (V.str (wd u)=V.str "upright")=true then (1:Int) else 0)=sd u:=by rw[OP];rfl
    rw[hsd];obtain⟨H1,e,s1,e1⟩:=nw (.lst [.int hh,.int ww]) nl;rw[e];clear e;refine⟨l,_,_,_,rfl,rfl,SqL.of e1,(show atI [V.int hh,V.int ww] (sd u)=some (.int (if u then ww else hh)) by cases u<;>rfl),_,_,rfl,rfl,_,rfl,?_⟩;by_cases c2:k<if u then ww else hh
    .rw[if_pos ⟨by lia,c2⟩]at qn qs;refine AO (by rw[decide_eq_true c2];rfl) ?_;cases u with
     |true =>
      refine⟨_,rfl,rfl,_,rfl,AQ (Bn true true) ⟨_,rfl,_,rfl,_,rfl,v1,y1,k,hh,rfl,t1.same s1,by lia,λ hb H2 s2=>?_,λ k' hb a' H2 s2 ha'=>?_⟩⟩
      .refine⟨_,rfl,rfl,_,rfl,AQ (decide_eq_true rfl) ⟨_,rfl,_,rfl,_,rfl,_,_,rfl,rfl,_,rfl,v2,y2,ww-k,hh,rfl,t2.same (s1.trans s2),by lia,λ hb2 H3 s3=>⟨_,rfl,qn ?_ H3 ((s1.trans s2).trans s3)⟩,λ k' hb2 a' H3 s3 ha'=>⟨_,rfl,qs k' ?_ a' H3 ((s1.trans s2).trans s3) ha'⟩⟩⟩
       .simp only[if_true];rw[hb,hb2];rfl
       .simp only[if_true];rw[hb,hb2];rfl
      .exact⟨_,rfl,rfl,_,rfl,AO (decide_eq_false (by intro z;cases z)) ⟨_,rfl,qs k' (by simp only[if_true];rw[hb];rfl) a' H2 (s1.trans s2) ha'⟩⟩
     |false =>
      refine⟨_,rfl,rfl,_,rfl,AO (Bn false true) ⟨_,rfl,_,rfl,_,rfl,v1,y1,ww,k,rfl,t1.same s1,by lia,λ hb H2 s2=>?_,λ k' hb a' H2 s2 ha'=>?_⟩⟩
      .refine⟨_,rfl,rfl,_,rfl,AQ (decide_eq_true rfl) ⟨_,rfl,_,rfl,_,rfl,_,rfl,_,_,rfl,rfl,v2,y2,ww,hh-k,rfl,t2.same (s1.trans s2),by lia,λ hb2 H3 s3=>⟨_,rfl,qn ?_ H3 ((s1.trans s2).trans s3)⟩,λ k' hb2 a' H3 s3 ha'=>⟨_,rfl,qs k' ?_ a' H3 ((s1.trans s2).trans s3) ha'⟩⟩⟩
       .simp only[Bool.false_eq_true,if_false];rw[hb,hb2];rfl
       .simp only[Bool.false_eq_true,if_false];rw[hb,hb2];rfl
      .exact⟨_,rfl,rfl,_,rfl,AO (decide_eq_false (by intro z;cases z)) ⟨_,rfl,qs k' (by simp only[Bool.false_eq_true,if_false];rw[hb];rfl) a' H2 (s1.trans s2) ha'⟩⟩
    .rw[if_neg (λ z=>c2 z.2)]at qs;exact AQ (by rw[decide_eq_false c2];rfl) ⟨_,rfl,Ap 2,λ p hp=>bad (λ a H' s' e=>qs k rfl a H' s' e) H1 p s1 hp⟩
   .have c1:=of_decide_eq_false c1;rw[if_neg (λ z=>c1 (by lia))]at qs;exact⟨_,rfl,AQ rfl ⟨_,rfl,Ap 2,λ p hp=>bad (λ a H' s' e=>qs k rfl a H' s' e) H p (Same.refl H) hp⟩⟩
inductive Vb
 |F
 |A
 |L
def vbS:Vb->Str
 |.F=>"form"
 |.A=>"alike"
 |.L=>"led"
noncomputable def Ht:Vb->Tr->Tr->V->V->Option (Cl×V)
 |.F,t,_,x,y=>Bw t x y
 |.A,t,s,x,y=>Ii t s x y
 |.L,t,s,x,y=>E9 t s x y
theorem Hr{b:Vb}{t s:Tr}{x y:V}{r:Cl×V}(h:Bw t x y=some r):Ht b t s x y=some r:=by
 cases b with
 |F=>exact h
 |A=>exact M6 h
 |L =>
  show E9 t s x y=_;unfold E9;rw[M6 h];rfl
theorem M5{b:Vb}{t s:Tr}{x y:V}{r:Cl×V}(hb:b≠.F)(g:Bw t x y=none)(h:Bw s x y=some r):Ht b t s x y=some r:=by
 cases b with
 |F=>exact absurd rfl hb
 |A=>exact EA g h
 |L =>
  show E9 t s x y=_;unfold E9;rw[EA g h];rfl
theorem Qd{t s:Tr}{x y:V}(g:Bw t x y=none)(h:Bw s x y=none):E9 t s x y=if alB t s x y=true then none else some (.U,.non):=by
 unfold E9;rw[EA g h];rfl
theorem Jd{t:Tr}{x y:V}{r:Cl×V}(fx:AA x=true)(fy:AA y=true)(h:Bw t x y=some r):r.1≠.U/\AA r.2=true:=by
 cases hx:AV x with
 |false =>
  rw[Ke hx]at h;cases h;exact⟨nofun,fx⟩
 |true =>
  cases hy:AV y with
  |false =>
   rw[Kd hx hy]at h;cases h;exact⟨nofun,fy⟩
  |true =>
   obtain⟨ww,rfl,w1,w2⟩:=C0 hx;obtain⟨hh,rfl,h1,h2⟩:=C0 hy;rw[Hu w1 w2 h1 h2]at h;obtain⟨k,_,rfl⟩:=Option.map_eq_some_iff.mp h;exact⟨nofun,rfl⟩
theorem Jc{b:Vb}{t s:Tr}{x y:V}{r:Cl×V}(fx:AA x=true)(fy:AA y=true)(h:Ht b t s x y=some r):(r.1=.U->r.2=.non)/\AA r.2=true:=by
 have key:∀{t:Tr},Bw t x y=some r->(r.1=.U->r.2=.non)/\AA r.2=true:=λ h=>⟨λ e=>absurd e (Jd fx fy h).1,(Jd fx fy h).2⟩;cases h1:Bw t x y with
 |some r' =>
  rw[Hr h1]at h;cases h;exact key h1
 |none =>
  cases b with
  |F=>exact key h
  |A=>exact key ((EA h1 rfl).symm.trans h)
  |L =>
   cases h2:Bw s x y with
   |some r' =>
    rw[M5 (by intro z;cases z) h1 h2]at h;cases h;exact key h2
   |none =>
    have h:E9 t s x y=some r:=h;rw[Qd h1 h2]at h;split at h
    .cases h
    .cases h;exact⟨λ_=>rfl,rfl⟩
inductive NN(vs:LUz)(H:Hp)(Q:VK)(E:XK):Prop
 |mk (v1 v2:V) (t s:Tr) (x y:V) (b:Vb) (h0:vs=[v1,v2,x,y,.str (vbS b)]) (h1:Told H t v1) (h2:Told H s v2) (h3:t.dp<24) (h4:s.dp<24) (h5:t.nd<=400) (h6:s.nd<=400) (h7:AA x=true) (h8:AA y=true) (h9:(∀r,Ht b t s x y=some r->∀a H',Same H H'->H' a=some (.tup [.str (woC r.1),r.2])->Q (.ref a) H')) (h10:(Ht b t s x y=none->∀H',Same H H'->Q .non H')):NN vs H Q E
def Pa:Sp:=λ vs H Q E=>NN vs H Q E
abbrev RZ:LSz:=["_law_one","_law_two","_law_width","_law_height","_law_verb","_law_side_here","_law_found","_law_block"]
theorem OH:An RZ ["_law_one","_law_two","_law_width","_law_height","_law_verb"] (Ag Cp):=fsc
theorem MP{K:Frag}{H:Hp}{t s:Tr}{ww hh:Int}{l1 l2:Addr}{z1 z2:List PT}(w1:1<=ww)(w2:ww<=12)(h1:1<=hh)(h2:hh<=12)(ft:Fit t ww hh)(d1:Due t ww hh (cons z1))(d2:Due s ww hh (cons z2))(e1:H l1=some (.lst (pcs z1)))(e2:H l2=some (.lst (pcs z2)))(p1:PcO H z1)(p2:PcO H z2) :
  ∃d e,DIs K H d (.ref l1)/\DIs K H e (.ref l2)/\dep d<=50/\deq d e=alB t s (.int ww) (.int hh):=by
 have D1:DIs K H (.lst (gsD (cons z1))) (.ref l1):=gsL e1 p1;refine⟨_,_,D1,gsL e2 p2,by have:=Ka (cons z1);rw[dep];lia,?_⟩;rw[Bool.eq_iff_iff,Km];refine Iff.trans ⟨λ e=>?_,λ e=>?_⟩ (N6 w1 w2 h1 h2 ft d1 d2)
 .rw[deq]at e;exact PM e
 .rw[e]at D1 |-;exact Cv _ D1
theorem Mf{f:Addr}{fd:FuncData}(F:Fun K "_law_due" "_law_due" Cp f fd)(T:Txt mg tk)(D__law_no_side:Av P w K mg base 2 "_law_no_side" ["_law_thing"] IC)(D__law_no_cut:Av P w K mg base 27 "_law_no_cut" ["_law_told_here","_law_width","_law_height"] (Dy 24))(D__law_pieces:Av P w K mg base 27 "_law_pieces" ["_law_told_here","_law_block"] (B4 24)):A8 P w K mg base CX0 28 f fd ["_law_one","_law_two","_law_width","_law_height","_law_verb"] Pa:=by
 have S:=OH;refine F.ok S (λ vs H Q E h=>?_) (λ cdv A outer s H vs Q E hr h=>?_)
 .obtain⟨v1,v2,t,s,x,y,b,rfl,_⟩:=h;rfl
 .obtain⟨v1,v2,t,ot,x,y,b,rfl,t1,t2,dp1,dp2,nd1,nd2,fx,fy,qs,qn⟩:=h;obtain⟨tC,hC,kC⟩:∃rd,PSs (Bm CX0 P w K mg base RZ "_law_due" (Ag Cp) f cdv A outer s H E).nox ((A7 Cp).drop 4) rd/\∀(x4 x5 x6 x7:Option V)(ww hh:Int)(H1:Hp),x=.int ww->y=.int hh->1<=ww->ww<=12->1<=hh->hh<=12->Fit t ww hh->Fit ot ww hh->Same H H1->(alB t ot x y=true->∀H',Same H H'->Q .non H')->(alB t ot x y=false->∀a H',Same H H'->H' a=some (.tup [.str "unlike",.non])->Q (.ref a) H') ->
    rd { nx:=λ_ H'=>Q .non H',rt:=Q } [some v1,some v2,some x,some y,x4,x5,x6,x7] H1:=by
   refine⟨_,(Ac (As (i:=7) S.nd rfl (Or.inl rfl) (At (Aa Ad (Aa Ad (Aa (pv 3) (Aa (pv 2) Ab))))))
   (Ac (A3 (Ao (Py hr) (A6 (BE hr) rfl T.z_sorted rfl (Aa (Aj D__law_pieces hr (Aa (pv 0) (Aa (pv 7) Ab))) Ab)) (A6 (BE hr) rfl T.z_sorted rfl (Aa (Aj D__law_pieces hr (Aa (pv 1) (Aa (pv 7) Ab))) Ab)) (Aq _)) (Af (Ak (At (Aa A4 (Aa Bu Ab))))) Ar)
   (Af (Ak Bu)))),?_⟩
   rintro x4 x5 x6 x7 ww hh H1 rfl rfl w1 w2 h1 h2 f1 f2 s1 qt qf;refine⟨_,rfl,_,rfl,Ap 4,λ bk nbk=>?_⟩;obtain⟨H2,e,s2,e2⟩:=nw (.tup [.int 0,.int 0,.int hh,.int ww]) nbk;rw[e];clear e;have s12:=s1.trans s2;refine⟨_,rfl,_,rfl,v1,t,bk,⟨0,0,hh,ww⟩,rfl,t1.same s12,e2,dp1,nd1,λ lp ts H3 s3 nl3 hl3 pc ec=>?_⟩;obtain⟨r1,r2,r3,r4⟩:=EQ w1 w2 h1 h2 f1 pc ec;refine⟨lp,ts.map EM,3,GB.key,rfl,by rw[BK];exact SqL.of hl3,r1,r2,r3,λ l4 us4 n4 pm sr=>?_⟩;obtain⟨zs,rfl,pz,dz⟩:=r4 us4 pm sr;rw[BK];obtain⟨H4,e,s4,e4⟩:=nw (.lst (pcs zs)) n4;rw[e];clear e;have s24:=s3.trans s4;refine⟨_,rfl,_,rfl,v2,ot,bk,⟨0,0,hh,ww⟩,rfl,t2.same (s12.trans s24),s24 _ _ e2,dp2,nd2,λ lp' ts' H5 s5 nl5 hl5 pc5 ec5=>?_⟩;obtain⟨r1',r2',r3',r4'⟩:=EQ w1 w2 h1 h2 f2 pc5 ec5;refine⟨lp',ts'.map EM,3,GB.key,rfl,by rw[BK];exact SqL.of hl5,r1',r2',r3',λ l6 us6 n6 pm6 sr6=>?_⟩;obtain⟨zs',rfl,pz',dz'⟩:=r4' us6 pm6 sr6;rw[BK];obtain⟨H6,e,s6,e6⟩:=nw (.lst (pcs zs')) n6;rw[e];clear e;have s46:=s5.trans s6;have s16:=(s12.trans s24).trans s46;obtain⟨d,d',D1,D2,dd,de⟩:=MP (K:=K) (H:=H6) w1 w2 h1 h2 f1 dz dz' (s46 _ _ e4) e6 (((pc.perm pz).same s4).same s46) ((pc5.perm pz').same s6);refine⟨d,d',D1,D2,⟨_,rfl⟩,⟨_,rfl⟩,dd,_,rfl,?_⟩;rw[if_pos rfl,de];cases hal:alB t ot (.int ww) (.int hh) with
   |true=>exact AO rfl (qt hal H6 s16)
   |false=>exact AQ rfl ⟨Ap 2,λ p hp=>qf hal p _ (s16.trans (Same.new hp)) upd_same⟩
  refine⟨_,(Ac (DD PassesOwn.never rfl (Ps (At (Aa (pv 2) (Aa (pv 3) Ab)))) (Aw (i:=5) S.nd rfl (Or.inl rfl)) (Af (A3 (CI (Aj D__law_no_side hr (Aa (pv 5) Ab))) (Af (Ak (At (Aa A4 (Aa (pv 5) Ab))))) Ar)))
   (Ac (As (i:=6) S.nd rfl (Or.inl rfl) (Aj D__law_no_cut hr (Aa (pv 0) (Aa (pv 2) (Aa (pv 3) Ab)))))
   (Ac (A3 (PW.pt (JF (Ao GK (pv 6) Bu (Aq _)) (FZ (Ao Eh (pv 4) A4 (Aq _))))) (Af (As (i:=6) S.nd rfl (Or.inl rfl) (Aj D__law_no_cut hr (Aa (pv 1) (Aa (pv 2) (Aa (pv 3) Ab)))))) Ar)
   (Ac (A3 (PW.pt (G9 (Ao Np (pv 6) Bu (Aq _)) (G8 (Ao Eh (pv 4) A4 (Aq _))))) (Af (Ak (pv 6))) Ar)
   hC)))),?_⟩
  refine⟨_,rfl,_,rfl,Ap 2,λ tp ntp=>?_⟩;obtain⟨H0,e,s0,e0⟩:=nw (.tup [x,y]) ntp;rw[e];clear e;refine⟨tp,rfl,⟨_,SqT.of e0⟩,N2 (K:=K) (a:=tp) (xs:=[x,y]) (λ i σ H'=>(∃z,σ=[some v1,some v2,some x,some y,some (.str (vbS b)),z,none,none])/\H'=H0/\(0<i->AV x=true)/\(1<i->AV y=true)) ⟨⟨_,rfl⟩,rfl,(λ z=>absurd z (by decide)),λ z=>absurd z (by decide)⟩ (λ i σ H' _ hp=>by rw[hp.2.1];exact SqT.of e0) ?_ ?_⟩
  .rintro i z σ H' hx ⟨⟨z',rfl⟩,rfl,g0,g1⟩
   match i,hx with
   |0,hx =>
    cases hx;refine⟨_,rfl,x,rfl,EK fx,_,rfl,Bg (λ c=>?_) (λ c=>?_)⟩
    .have c:AV x=false:=by simpa using c
     exact⟨_,rfl,Ap 2,λ p hp=>qs (.S,x) (Hr (Ke c)) p _ (s0.trans (Same.new hp)) upd_same⟩
    .exact⟨⟨_,rfl⟩,rfl,λ_=>by simpa using c,λ z=>absurd z (by lia)⟩
   |1,hx =>
    cases hx;refine⟨_,rfl,y,rfl,EK fy,_,rfl,Bg (λ c=>?_) (λ c=>?_)⟩
    .have c:AV y=false:=by simpa using c
     exact⟨_,rfl,Ap 2,λ p hp=>qs (.S,y) (Hr (Kd (g0 (by lia)) c)) p _ (s0.trans (Same.new hp)) upd_same⟩
    .exact⟨⟨_,rfl⟩,rfl,λ_=>g0 (by lia),λ_=>by simpa using c⟩
   |i+2,hx=>cases hx
  .rintro σ H' ⟨⟨z',rfl⟩,rfl,g0,g1⟩;obtain⟨ww,rfl,w1,w2⟩:=C0 (g0 (by show 0<2;decide));obtain⟨hh,rfl,h1,h2⟩:=C0 (g1 (by show 1<2;decide));have eD:=Hu (t:=t) w1 w2 h1 h2;have eE:=Hu (t:=ot) w1 w2 h1 h2;have nN:∀a:Addr,decide (V.ref a=V.non)=false:=λ a=>decide_eq_false (by intro z;cases z);refine⟨_,rfl,_,rfl,_,rfl,v1,t,ww,hh,rfl,t1.same s0,dp1,λ hb H1 s1=>?_,λ k hb a H1 s1 ha=>?_⟩
   .have hP:Bw t (.int ww) (.int hh)=none:=by rw[eD,hb];rfl
    have s01:=s0.trans s1;cases b with
    |F=>exact⟨_,rfl,rfl,_,rfl,AQ (decide_eq_true rfl) ⟨_,rfl,rfl,_,rfl,AO (by decide) ⟨_,rfl,rfl,_,rfl,AO (by decide) ⟨_,rfl,rfl,_,rfl,AQ (by decide) ⟨_,rfl,qn hP H1 s01⟩⟩⟩⟩⟩
    |A =>
     refine⟨_,rfl,rfl,_,rfl,AQ (decide_eq_true rfl) ⟨_,rfl,rfl,_,rfl,AQ (by decide) ⟨_,rfl,_,rfl,_,rfl,v2,ot,ww,hh,rfl,t2.same s01,dp2,λ hb2 H2 s2=>?_,λ k hb2 a H2 s2 ha=>?_⟩⟩⟩
     .exact⟨_,rfl,rfl,_,rfl,AO (by decide) ⟨_,rfl,rfl,_,rfl,AQ (by decide) ⟨_,rfl,qn (EA hP (by rw[eE,hb2];rfl)) H2 (s01.trans s2)⟩⟩⟩
     .exact⟨_,rfl,rfl,_,rfl,AQ (by rw[nN];rfl) (PC ⟨_,rfl,qs (.C,.int k) (M5 (by intro z;cases z) hP (by rw[eE,hb2];rfl)) a H2 (s01.trans s2) ha⟩)⟩
    |L =>
     refine⟨_,rfl,rfl,_,rfl,AQ (decide_eq_true rfl) ⟨_,rfl,rfl,_,rfl,AQ (by decide) ⟨_,rfl,_,rfl,_,rfl,v2,ot,ww,hh,rfl,t2.same s01,dp2,λ hb2 H2 s2=>?_,λ k hb2 a H2 s2 ha=>?_⟩⟩⟩
     .have hP2:Bw ot (.int ww) (.int hh)=none:=by rw[eE,hb2];rfl
      have eL:=Qd hP hP2;exact⟨_,rfl,rfl,_,rfl,AO (by decide) ⟨_,rfl,rfl,_,rfl,AO (by decide) (kC _ _ _ _ ww hh H2 rfl rfl w1 w2 h1 h2 (bad_none.mp hb) (bad_none.mp hb2) (s01.trans s2) (λ z=>qn (by show E9 _ _ _ _=_;rw[eL,z];rfl)) (λ z=>qs (.U,.non) (by show E9 _ _ _ _=_;rw[eL,z];rfl)))⟩⟩
     .exact⟨_,rfl,rfl,_,rfl,AQ (by rw[nN];rfl) (PC ⟨_,rfl,qs (.C,.int k) (M5 (by intro z;cases z) hP (by rw[eE,hb2];rfl)) a H2 (s01.trans s2) ha⟩)⟩
   .exact⟨_,rfl,rfl,_,rfl,AO (nN a) (Ll ⟨_,rfl,rfl,_,rfl,AQ (by rw[nN];rfl) (PC ⟨_,rfl,qs (.C,.int k) (Hr (by rw[eD,hb];rfl)) a H1 (s0.trans s1) ha⟩)⟩)⟩
inductive LG(vs:LUz)(H:Hp)(Q:VK)(E:XK):Prop
 |mk (v1 v2:V) (t s:Tr) (ww hh:Int) (b:Vb) (h0:vs=[v1,v2,.int ww,.int hh,.str (vbS b)]) (h1:Told H t v1) (h2:Told H s v2) (h3:t.dp<24) (h4:s.dp<24) (h5:t.nd<=400) (h6:s.nd<=400) (h7:1<=ww) (h8:ww<=12) (h9:1<=hh) (h10:hh<=12) (h11:(b=.A->Fit t ww hh/\Fit s ww hh/\∀a H',Same H H'->H' a=some (.tup [.str "alike",.bl (alB t s (.int ww) (.int hh))])->Q (.ref a) H')) (h12:(b≠.A->Q .non H)):LG vs H Q E
def MX:Sp:=λ vs H Q E=>LG vs H Q E
theorem ME:An ["_law_one","_law_two","_law_width","_law_height","_law_verb","_law_block"] ["_law_one","_law_two","_law_width","_law_height","_law_verb"] (Ag D7):=fsc
theorem KQ{f:Addr}{fd:FuncData}(F:Fun K "_law_free" "_law_free" D7 f fd)(T:Txt mg tk)(D__law_pieces:Av P w K mg base 27 "_law_pieces" ["_law_told_here","_law_block"] (B4 24)):A8 P w K mg base CX0 28 f fd ["_law_one","_law_two","_law_width","_law_height","_law_verb"] MX:=by
 have S:=ME;refine F.ok S (λ vs H Q E h=>?_) (λ cdv A outer s H vs Q E hr h=>?_)
 .obtain⟨v1,v2,t,s,ww,hh,b,rfl,_⟩:=h;rfl
 .obtain⟨v1,v2,t,ot,ww,hh,b,rfl,t1,t2,dp1,dp2,nd1,nd2,w1,w2,h1,h2,qa,qn⟩:=h;refine⟨_,(Ac (A3 (Ao Eh (pv 4) A4 (Aq _)) (Af (Ak Bu)) Ar)
   (Ac (As (i:=5) S.nd rfl (Or.inl rfl) (At (Aa Ad (Aa Ad (Aa (pv 3) (Aa (pv 2) Ab))))))
   (Af (Ak (At (Aa A4 (Aa (BB (Md hr) (A6 (BE hr) rfl T.z_sorted rfl (Aa (Aj D__law_pieces hr (Aa (pv 0) (Aa (pv 5) Ab))) Ab)) (A6 (BE hr) rfl T.z_sorted rfl (Aa (Aj D__law_pieces hr (Aa (pv 1) (Aa (pv 5) Ab))) Ab)) (Aq _)) Ab))))))),?_⟩
  cases b with
  |F=>exact⟨_,rfl,rfl,_,rfl,AQ (by decide) (qn (by intro z;cases z))⟩
  |L=>exact⟨_,rfl,rfl,_,rfl,AQ (by decide) (qn (by intro z;cases z))⟩
  |A =>
   obtain⟨f1,f2,q⟩:=qa rfl;refine⟨_,rfl,rfl,_,rfl,AO (by decide) ⟨_,rfl,_,rfl,Ap 4,λ bk nbk=>?_⟩⟩;obtain⟨H2,e,s2,e2⟩:=nw (.tup [.int 0,.int 0,.int hh,.int ww]) nbk;rw[e];clear e;refine⟨_,rfl,_,rfl,v1,t,bk,⟨0,0,hh,ww⟩,rfl,t1.same s2,e2,dp1,nd1,λ lp ts H3 s3 nl3 hl3 pc ec=>?_⟩;obtain⟨r1,r2,r3,r4⟩:=EQ w1 w2 h1 h2 f1 pc ec;refine⟨lp,ts.map EM,3,GB.key,rfl,by rw[BK];exact SqL.of hl3,r1,r2,r3,λ l4 us4 n4 pm sr=>?_⟩;obtain⟨zs,rfl,pz,dz⟩:=r4 us4 pm sr;rw[BK];obtain⟨H4,e,s4,e4⟩:=nw (.lst (pcs zs)) n4;rw[e];clear e;have s24:=s3.trans s4;refine⟨_,rfl,_,rfl,v2,ot,bk,⟨0,0,hh,ww⟩,rfl,t2.same (s2.trans s24),s24 _ _ e2,dp2,nd2,λ lp' ts' H5 s5 nl5 hl5 pc5 ec5=>?_⟩;obtain⟨r1',r2',r3',r4'⟩:=EQ w1 w2 h1 h2 f2 pc5 ec5;refine⟨lp',ts'.map EM,3,GB.key,rfl,by rw[BK];exact SqL.of hl5,r1',r2',r3',λ l6 us6 n6 pm6 sr6=>?_⟩;obtain⟨zs',rfl,pz',dz'⟩:=r4' us6 pm6 sr6;rw[BK];obtain⟨H6,e,s6,e6⟩:=nw (.lst (pcs zs')) n6;rw[e];clear e;have s46:=s5.trans s6;have s16:=(s2.trans s24).trans s46;obtain⟨d,d',D1,D2,dd,de⟩:=MP (K:=K) (H:=H6) w1 w2 h1 h2 f1 dz dz' (s46 _ _ e4) e6 (((pc.perm pz).same s4).same s46) ((pc5.perm pz').same s6);refine⟨d,d',D1,D2,⟨_,rfl⟩,⟨_,rfl⟩,dd,?_⟩;rw[if_neg Bool.false_ne_true,de];exact⟨Ap 2,λ p hp=>q p _ (s16.trans (Same.new hp)) upd_same⟩
structure RG(mg:MGz)(K:Frag)(cc:Cc)(cM cG:Addr):Prop where
 g_NoSide:mg "NoSide"=some (.ref (cc .S))
 g_NoCut:mg "NoCut"=some (.ref (cc .C))
 g_Unlike:mg "Unlike"=some (.ref (cc .U))
 g_NoMove:mg "NoMove"=some (.ref cM)
 g_GlassError:mg "GlassError"=some (.ref cG)
 x_NoSide:NT K (cc .S)
 x_NoCut:NT K (cc .C)
 x_Unlike:NT K (cc .U)
 m:∀c c',mroIn K (cc c) (.ref (cc c'))=some (decide (c=c'))
 cl:∀c,XCls K (cc c)
 kx:∀c c',kitOne K (.ref (cc c)) (.ref (cc c'))=some (decide (c=c'))
 kM:∀c,kitOne K (.ref (cc c)) (.ref cM)=some false
 kG:∀c,kitOne K (.ref (cc c)) (.ref cG)=some true
 kV:kitOne K (.ref (cc .U)) (.type "ValueError")=some true
 nS:NoAttr K (cc .S) "side"
 nC:NoAttr K (cc .C) "at"
theorem KB{X:Cx}{K:Frag}{e:Expr}{f:Str}{pos:Pos}{ta:TE}(he:PE X e ta)(hb:attributeBase e f X.env (eval e X.env)=eval e X.env)(hK:X.K=K:=by rfl):PE X (.Attribute e f pos) (RE K ta f):=by subst hK;exact QS he hb
theorem DN{X:Cx}{K:Frag}(hK:X.K=K:=by rfl):Da X (.builtin "isinstance") (λ xs H Q=>∃a C c u b,xs=[.ref a,c]/\IsExc H a C/\XCls K C/\RelV c u/\(∀u',RelV c u'->u'=u)/\kitOne K (.ref C) u=some b/\Q (.bl b) H):=by subst hK;exact MA
theorem Kk{X:Cx}:Da X (.builtin "isinstance") (λ xs H Q=>∃a C t c1 c2 c3,xs=[.ref a,.ref t]/\IsExc H a C/\XCls X.K C/\H t=some (.tup [.ref c1,.ref c2,.ref c3])/\kitOne X.K (.ref C) (.ref c1)=some false/\kitOne X.K (.ref C) (.ref c2)=some false/\kitOne X.K (.ref C) (.ref c3)=some false/\Q (.bl false) H):=by
 intro pins s σ H xs us Q I r h;obtain⟨a,C,t,c1,c2,c3,rfl,he,hc,ht,k1,k2,k3,q⟩:=h;obtain⟨v1,v2,rfl,r1,r2⟩:=K0 r;cases r1;cases r2;obtain⟨its,rt,hp,_⟩:=I.tuple (SqT.of (K:=X.K) ht);cases rt with
 |cons q1 rt=>cases rt with
  |cons q2 rt=>cases rt with
   |cons q3 rt =>
    cases rt;cases q1;cases q2;cases q3;obtain⟨⟨cls,dd,data,sl⟩,ho,ec,n,ed⟩:=hp;simp only at ec ed;subst ec ed;exact kia_tup (Lj hc) I.kIn (He I he) ho (by simp[kitAny,k1,k2,k3]) (λ z=>nomatch z) λ tk=>⟨.bl false,H,I.tok tk,rfl,q⟩
theorem CK{X:Cx}{K:Frag}(hK:X.K=K:=by rfl):Da X (.builtin "isinstance") (λ xs H Q=>∃a C t c1 c2 c3,xs=[.ref a,.ref t]/\IsExc H a C/\XCls K C/\H t=some (.tup [.ref c1,.ref c2,.ref c3])/\kitOne K (.ref C) (.ref c1)=some false/\kitOne K (.ref C) (.ref c2)=some false/\kitOne K (.ref C) (.ref c3)=some false/\Q (.bl false) H):=by subst hK;exact Kk
theorem Nt{f:Str}{v:V}:([(f,v)]:LFz).lookup f=some v:=by simp[List.lookup]
inductive Jx(tb tb3 cW cU cL:Addr)(vs:LUz)(H:Hp)(Q:VK)(E:XK):Prop
 |mk (b:Vb) (v1 v2 x y:V) (t s:Tr) (h0:vs=[.str (vbS b),v1,v2,x,y]) (h1:AA x=true) (h2:AA y=true) (h3:Obj cW cU cL H t v1) (h4:Obj cW cU cL H s v2) (h5:t.nd<=400) (h6:s.nd<=400) (h7:Tb tb tb3 H) (h8:(∀r,Ht b t s x y=some r->∀a H',SameN H H'->Tb tb tb3 H'->H' a=some (.tup [.str (woC r.1),r.2,.bl false,.bl true])->Q (.ref a) H')) (h9:(Ht b t s x y=none->(b=.A->∀a H',SameN H H'->Tb tb tb3 H'->H' a=some (.tup [.str "alike",.bl (alB t s x y)])->Q (.ref a) H')/\(b≠.A->∀H',SameN H H'->Tb tb tb3 H'->Q .non H'))):Jx tb tb3 cW cU cL vs H Q E
def G3(tb tb3 cW cU cL:Addr) :Sp:=λ vs H Q E=>Jx tb tb3 cW cU cL vs H Q E
abbrev RC:LSz:=["_law_verb","_law_one","_law_two","_law_width","_law_height","_law_told_here","e"]
theorem L6:An RC ["_law_verb","_law_one","_law_two","_law_width","_law_height"] (Ag Di):=fsc
theorem JO{f tb tb3 cM cG:Addr}{fd:FuncData}(F:Fun K "_law_asked" "_law_asked" Di f fd)(T:Txt mg tk)(R:RG mg K cc cM cG)(D_form:BI P w K mg base 9 "form" ["tree","width","height"] (JC tb tb3 cW cU cL cc))(D_alike:BI P w K mg base 6 "alike" ["tree","other","width","height"] (ET tb tb3 cW cU cL cc))(D_led:BI P w K mg base 53 "led" ["tree","other","width","height"] (LR tb tb3 cW cU cL cc)):A8 P w K mg base CX0 54 f fd ["_law_verb","_law_one","_law_two","_law_width","_law_height"] (G3 tb tb3 cW cU cL):=by
 have S:=L6;refine F.ok S (λ vs H Q E h=>?_) (λ cdv A outer s H vs Q E hr h=>?_)
 .obtain⟨b,v1,v2,x,y,t,s,rfl,_⟩:=h;rfl
 .obtain⟨b,v1,v2,x,y,t,ot,rfl,fx,fy,o1,o2,n1,n2,tab,qs,qn⟩:=h;refine⟨_,(Ac (As (i:=5) S.nd rfl (Or.inl rfl) Bu)
   (Ac (QN (Pp (Ao AZ (pv 0) A4 (Aq _)) (K8 (λ_=>Pq D_form hr (Aa (pv 1) (Aa (pv 3) (Aa (pv 4) Ab))))) (Pp (Ao AZ (pv 0) A4 (Aq _)) (QL (i:=5) S.nd rfl (Or.inl rfl) (QM (λ_=>Pq D_alike hr (Aa (pv 1) (Aa (pv 2) (Aa (pv 3) (Aa (pv 4) Ab))))))) (K8 (λ_=>Pq D_led hr (Aa (pv 1) (Aa (pv 2) (Aa (pv 3) (Aa (pv 4) Ab))))))))
   (Fp (im:=6) S.nd rfl rfl rfl R.g_NoSide R.x_NoSide (λ_=>(Af (As (i:=5) S.nd rfl (Or.inl rfl) (At (Aa A4 (Aa (KB (K:=K) (pv 6) rfl) (Aa (A6 (CK (K:=K)) rfl T.z_isinstance rfl (Aa (pv 6) (Aa (At (Aa (Ax (v:=.ref ((cc .C))) rfl R.g_NoCut rfl) (Aa (Ax (v:=.ref ((cc .U))) rfl R.g_Unlike rfl) (Aa (Ax (v:=.ref (cM)) rfl R.g_NoMove rfl) Ab)))) Ab))) (Aa (A6 (DN (K:=K)) rfl T.z_isinstance rfl (Aa (pv 6) (Aa (Ax (v:=.ref (cG)) rfl R.g_GlassError rfl) Ab))) Ab))))))))
   (Fp (im:=6) S.nd rfl rfl rfl R.g_NoCut R.x_NoCut (λ_=>(Af (As (i:=5) S.nd rfl (Or.inl rfl) (At (Aa A4 (Aa (KB (K:=K) (pv 6) rfl) (Aa (A6 (CK (K:=K)) rfl T.z_isinstance rfl (Aa (pv 6) (Aa (At (Aa (Ax (v:=.ref ((cc .S))) rfl R.g_NoSide rfl) (Aa (Ax (v:=.ref ((cc .U))) rfl R.g_Unlike rfl) (Aa (Ax (v:=.ref (cM)) rfl R.g_NoMove rfl) Ab)))) Ab))) (Aa (A6 (DN (K:=K)) rfl T.z_isinstance rfl (Aa (pv 6) (Aa (Ax (v:=.ref (cG)) rfl R.g_GlassError rfl) Ab))) Ab))))))))
   (Fp (im:=6) S.nd rfl rfl rfl R.g_Unlike R.x_Unlike (λ_=>(Af (As (i:=5) S.nd rfl (Or.inl rfl) (At (Aa A4 (Aa Bu (Aa (A6 (CK (K:=K)) rfl T.z_isinstance rfl (Aa (pv 6) (Aa (At (Aa (Ax (v:=.ref ((cc .S))) rfl R.g_NoSide rfl) (Aa (Ax (v:=.ref ((cc .C))) rfl R.g_NoCut rfl) (Aa (Ax (v:=.ref (cM)) rfl R.g_NoMove rfl) Ab)))) Ab))) (Aa (A6 (DN (K:=K)) rfl T.z_isinstance rfl (Aa (pv 6) (Aa (Dm (v:=.ty "ValueError") rfl T.z_ValueError rfl rfl) Ab))) Ab))))))))
   QQ))) rfl rfl (by intro z;cases z))
   (Af (Ak (pv 5))))),?_⟩
  have rf:∀r,Ht b t ot x y=some r->RfN H (XEN H λ C fs H'=>∃r,Ht b t ot x y=some r/\C=cc r.1/\PRf tb tb3 (fsC r) fs H') (cc r.1) (PRf tb tb3 (fsC r)):=λ r e=>XEN.rf λ fs H' hp=>⟨r,e,rfl,hp⟩;refine⟨XEN H λ C fs H'=>∃r,Ht b t ot x y=some r/\C=cc r.1/\PRf tb tb3 (fsC r) fs H',?_,?_⟩
  .cases b with
   |F=>exact⟨_,rfl,rfl,_,rfl,AQ (decide_eq_true rfl) ⟨_,rfl,_,rfl,_,rfl,v1,t,x,y,rfl,fx,fy,o1,n1,tab,rf,λ en v' H' s' t'=>⟨_,rfl,(qn en).2 (by intro z;cases z) H' s' t'⟩⟩⟩
   |A=>exact⟨_,rfl,rfl,_,rfl,AO (by decide) ⟨_,rfl,rfl,_,rfl,AQ (decide_eq_true rfl) ⟨_,rfl,_,rfl,_,rfl,_,rfl,v1,v2,t,ot,x,y,rfl,fx,fy,o1,o2,n1,n2,tab,rf,λ en H' s' t' p hp=>⟨_,rfl,(qn en).1 rfl p _ (s'.trans (Same.new hp).n) (t'.same (Same.new hp)) upd_same⟩⟩⟩⟩
   |L=>exact⟨_,rfl,rfl,_,rfl,AO (by decide) ⟨_,rfl,rfl,_,rfl,AO (by decide) ⟨_,rfl,_,rfl,_,rfl,_,rfl,v1,v2,t,ot,x,y,rfl,fx,fy,o1,o2,n1,n2,tab,rf,λ en v' H' s' t'=>⟨_,rfl,(qn en).2 (by intro z;cases z) H' s' t'⟩⟩⟩⟩
  rintro x' C' d T0 T2 H' ⟨x2,C2,fs,ev,hx,s34,xr,⟨c,vv⟩,ed,rfl,hp⟩ fl hT2 nT2;obtain rfl:x'=x2:=Value.ref.inj ev;have hp5:=Gv _ _ _ (cc c) _ _ hp xr hT2;obtain⟨rfl,xr',s5⟩:=ON hx s34 xr fl hT2;obtain⟨alt,T3,hxT⟩:=xr';obtain⟨rfl,tab5⟩:=hp5;have tell:∀(H6:Hp),Same (thrown H' x' (cc c) d T2) H6->∀l,H6 l=none->Q (.ref l) (upd H6 l (.tup [.str (woC c),vv,.bl false,.bl true])):=λ H6 s6 l nl=>by
   have s7:=s6.trans (Same.new (o:=.tup [.str (woC c),vv,.bl false,.bl true]) nl);exact qs _ ed l _ (s5.trans s7.n) (tab5.same s7) upd_same
  refine⟨_,R.m c .S,λ z=>?_,λ z0=>?_⟩
  .obtain rfl:c=.S:=of_decide_eq_true z;obtain⟨_,z⟩|⟨dx,rfl,nd,hd⟩:=alt
   .cases z
   have he:IsExc (thrown H' x' (cc .S) (some dx) T2) x' (cc .S):=.inl ⟨dx,_,.inr ⟨T3,hxT⟩,hd⟩;refine⟨_,rfl,x',_,dx,_,_,rfl,.inr ⟨T3,hxT⟩,hd,R.cl .S,R.nS,Nt,_,rfl,Ap 3,λ tt ntt=>?_⟩;have s6:=Same.new (o:=.tup [.ref (cc .C),.ref (cc .U),.ref cM]) ntt;exact⟨x',_,tt,cc .C,cc .U,cM,rfl,he.same s6,R.cl .S,upd_same,R.kx .S .C,R.kx .S .U,R.kM .S,_,rfl,x',_,_,_,true,rfl,he.same s6,R.cl .S,rfl,(λ_ z=>z),R.kG .S,Ap 4,λ l nl=>⟨_,rfl,tell _ s6 l nl⟩⟩
  refine⟨_,R.m c .C,λ z=>?_,λ z1=>?_⟩
  .obtain rfl:c=.C:=of_decide_eq_true z;obtain⟨_,z⟩|⟨dx,rfl,nd,hd⟩:=alt
   .cases z
   have he:IsExc (thrown H' x' (cc .C) (some dx) T2) x' (cc .C):=.inl ⟨dx,_,.inr ⟨T3,hxT⟩,hd⟩;refine⟨_,rfl,x',_,dx,_,_,rfl,.inr ⟨T3,hxT⟩,hd,R.cl .C,R.nC,Nt,_,rfl,Ap 3,λ tt ntt=>?_⟩;have s6:=Same.new (o:=.tup [.ref (cc .S),.ref (cc .U),.ref cM]) ntt;exact⟨x',_,tt,cc .S,cc .U,cM,rfl,he.same s6,R.cl .C,upd_same,R.kx .C .S,R.kx .C .U,R.kM .C,_,rfl,x',_,_,_,true,rfl,he.same s6,R.cl .C,rfl,(λ_ z=>z),R.kG .C,Ap 4,λ l nl=>⟨_,rfl,tell _ s6 l nl⟩⟩
  refine⟨_,R.m c .U,λ z=>?_,λ z2=>?_⟩
  .obtain rfl:c=.U:=of_decide_eq_true z;have he:IsExc (thrown H' x' (cc .U) d T2) x' (cc .U):=by
    obtain⟨rfl,_⟩|⟨dx,rfl,nd,hd⟩:=alt
    .exact .inr (.inr ⟨T3,hxT⟩)
    .exact .inl ⟨dx,_,.inr ⟨T3,hxT⟩,hd⟩
   obtain rfl:vv=.non:=(Jc fx fy ed).1 rfl;refine⟨_,rfl,Ap 3,λ tt ntt=>?_⟩;have s6:=Same.new (o:=.tup [.ref (cc .S),.ref (cc .C),.ref cM]) ntt;exact⟨x',_,tt,cc .S,cc .C,cM,rfl,he.same s6,R.cl .U,upd_same,R.kx .U .S,R.kx .U .C,R.kM .U,_,rfl,x',_,_,_,true,rfl,he.same s6,R.cl .U,rfl,(λ_ z=>z),R.kV,Ap 4,λ l nl=>⟨_,rfl,tell _ s6 l nl⟩⟩
  cases c
  .exact absurd z0 (by decide)
  .exact absurd z1 (by decide)
  .exact absurd z2 (by decide)
def UA(K:Frag):R2:=λ x y H Q=>rNe x y H Q\/Sz K true x y H Q
theorem S5{X:Cx}{k:Nat}(hr:Room k X.A):OpR X (compareOp .NotEq) (UA X.K):=by
 intro pins s σ H x y v u Q I rx ry h;rcases h with h|h
 .exact Eh pins s σ H x y v u Q I rx ry h
 .exact Py hr pins s σ H x y v u Q I rx ry h
abbrev Jn:LSz:=["_law_script","_law_sides","_law_one","_law_two","_law_block","_law_trees","_law_some","_law_width","_law_height","_law_verb","_law_due_here","_law_told_here"]
theorem Uc:An Jn ["_law_script"] (Ag BY):=fsc
def US(H:Hp)(xs:LUz):Prop:=∀v∈xs,∃a x y,v=.ref a/\H a=some (.lst [x,y])/\AA x=true/\AA y=true
theorem Pw{K:Frag}{H:Hp}{a:Addr}{b:Bool}(h:H a=some (.tup [.str "alike",.bl b])):DIs K H (.tup (.cons (.at (.str "alike")) (.cons (.at (.bl b)) .nil))) (.ref a):=by
 rw[DIs];refine⟨a,_,rfl,SqT.of h,?_⟩;rw[DIss];refine⟨_,_,rfl,by rw[DIs];exact⟨rfl,rfl⟩,?_⟩;rw[DIss];exact⟨_,_,rfl,by rw[DIs];exact⟨rfl,rfl⟩,by rw[DIss]⟩
theorem DM{v:V}:(!decide (v=v))=false:=by rw[decide_eq_true rfl];rfl
theorem SJ{b:Vb}{t s:Tr}{x y:V}(h:Ht b t s x y=none):Bw t x y=none/\(b=.A->Bw s x y=none):=by
 cases h1:Bw t x y with
 |some r=>rw[Hr h1]at h;cases h
 |none=>exact⟨rfl,λ e=>by subst e;exact(Je h).2⟩
inductive NL(tb tb3:Addr)(K:Frag)(vs:LUz)(H:Hp)(Q:VK)(E:XK):Prop
 |mk (a:Addr) (ns:List Int) (h0:vs=[.ref a]) (h1:SqL K H a (ns.map V.int)) (h2:ns.length<=63) (h3:H tb=some (.tbl #[])) (h4:H tb3=some (.tbl #[])) (h5:∀H',Q (.bl true) H'):NL tb tb3 K vs H Q E
def sp_law(tb tb3:Addr)(K:Frag) :Sp:=λ vs H Q E=>NL tb tb3 K vs H Q E
theorem S7{f tb tb3:Addr}{fd:FuncData}(F:Fun K "law" "law" BY f fd)(T:Txt mg tk)(D__law_cell:Av P w K mg base 1 "_law_cell" ["_law_script","_law_k"] (MZ K))(D__law_state:Av P w K mg base 1 "_law_state" ["_law_cell_here"] Gw)
  (D__law_tree:Av P w K mg base 28 "_law_tree" ["_law_cells","_law_width","_law_height"] (ER 25)) (D__law_pieces:Av P w K mg base 27 "_law_pieces" ["_law_told_here","_law_block"] (B4 24)) (D__law_recut:Av P w K mg base 28 "_law_recut" ["_law_some","_law_block","_law_state_here"] (Dx 25)) (D__law_made:Av P w K mg base 27 "_law_made" ["_law_told_here"] (ES cW cU cL 24)) (D__law_low:Av P w K mg base 27 "_law_low" ["_law_told_here","_law_state_here"] (Gz 24)) (D__law_side:Av P w K mg base 1 "_law_side" ["_law_cell_here"] K3)
  (D__law_due:Av P w K mg base 28 "_law_due" ["_law_one","_law_two","_law_width","_law_height","_law_verb"] Pa) (D__law_free:Av P w K mg base 28 "_law_free" ["_law_one","_law_two","_law_width","_law_height","_law_verb"] MX) (D__law_asked:Av P w K mg base 54 "_law_asked" ["_law_verb","_law_one","_law_two","_law_width","_law_height"] (G3 tb tb3 cW cU cL)):A8 P w K mg base CX0 55 f fd ["_law_script"] (sp_law tb tb3 K):=by
 have S:=Uc;refine F.ok S (λ vs H Q E h=>?_) (λ cdv A outer s H vs Q E hr h=>?_)
 .obtain⟨a,ns,rfl,_⟩:=h;rfl
 .obtain⟨a,ns,rfl,hS,hlen,htb,htb3,q⟩:=h;obtain⟨tD,hD,kD⟩:∃rd,PSs (Bm CX0 P w K mg base Jn "law" (Ag BY) f cdv A outer s H E).nox ((A7 BY).drop 9) rd/\∀(x0 x1 x4 x7 x8 x9 x10 x11:Option V)(v1 v2 o1 o2:V)(lt ls:Addr)(xs:LUz)(t r:Tr)(H1:Hp),Told H1 t v1->Told H1 r v2->Obj cW cU cL H1 t o1->Obj cW cU cL H1 r o2->t.dp<24->r.dp<24->t.nd<=400->r.nd<=400->H1 lt=some (.lst [o1,o2])->H1 ls=some (.lst xs)->US H1 xs->Tb tb tb3 H1 ->
    rd { nx:=λ_ H'=>Q .non H',rt:=Q } [x0,x1,some v1,some v2,x4,some (.ref lt),some (.ref ls),x7,x8,x9,x10,x11] H1:=by
   refine⟨_,(Ac (DD PassesOwn.never rfl (BL (pv 6)) (S2 rfl (Ay (Aw (i:=7) S.nd rfl (Or.inl rfl)) (Ay (Aw (i:=8) S.nd rfl (Or.inl rfl)) B3))) (Af (DD PassesOwn.never rfl (BL (AE (Aa A4 (Aa A4 (Aa A4 Ab))))) (Aw (i:=9) S.nd rfl (Or.inl rfl)) (Ac (As (i:=10) S.nd rfl (Or.inl rfl) (Aj D__law_due hr (Aa (pv 2) (Aa (pv 3) (Aa (pv 7) (Aa (pv 8) (Aa (pv 9) Ab)))))))
   (Ac (As (i:=11) S.nd rfl (Or.inl rfl) (Aj D__law_asked hr (Aa (pv 9) (Aa (Al AD (pv 5) Ad (λ_ _=>rfl)) (Aa (Al AD (pv 5) Ad (λ_ _=>rfl)) (Aa (pv 7) (Aa (pv 8) Ab)))))))
   (Ac (A3 (PW.pt (JF (Ao GK (pv 10) Bu (Aq _)) (FZ (Ao (S5 hr) (pv 11) (Aj D__law_free hr (Aa (pv 2) (Aa (pv 3) (Aa (pv 7) (Aa (pv 8) (Aa (pv 9) Ab)))))) (Aq _))))) (Af (Ak KF)) Ar)
   (Af (A3 (Ao Np (pv 10) Bu (Aq _)) (Ac (A3 (PW.pt (G9 (Ao GK (pv 11) Bu (Aq _)) (G9 (Ao Eh (Al Am (pv 11) Ad (λ_ _=>rfl)) (Al Am (pv 10) Ad (λ_ _=>rfl)) (Aq _)) (G8 (Ao Eh (Al Am (pv 11) Ad (λ_ _=>rfl)) (Al Am (pv 10) Ad (λ_ _=>rfl)) (Aq _)))))) (Af (Ak KF)) Ar)
   (Af (A3 (PW.pt (G9 (CT (Al Am (pv 11) Ad (λ_ _=>rfl)) (λ_=>rfl)) (G9 (DC (CT (Al Am (pv 11) Ad (λ_ _=>rfl)) (λ_=>rfl))) (G8 (Ao Eh (A6 Cg rfl T.z_isinstance rfl (Aa (Al Am (pv 11) Ad (λ_ _=>rfl)) (Aa (Dm (v:=.ty "bool") rfl T.z_bool rfl rfl) Ab))) (A6 Cg rfl T.z_isinstance rfl (Aa (Al Am (pv 10) Ad (λ_ _=>rfl)) (Aa (Dm (v:=.ty "bool") rfl T.z_bool rfl rfl) Ab))) (Aq _)))))) (Af (Ak KF)) Ar))) Ar))))))))
   (Af (Ak KF))),?_⟩
   intro x0 x1 x4 x7 x8 x9 x10 x11 v1 v2 o1 o2 lt ls xs t r H1 tt tr b1 b2 dp1 dp2 nd1 nd2 hlt hls hsm tab;refine⟨_,rfl,ls,rfl,⟨_,SqL.of hls⟩,Fb (K:=K) (a:=ls) (xs:=xs) (λ i σ H'=>(∃x7 x8 x9 x10 x11,σ=[x0,x1,some v1,some v2,x4,some (.ref lt),some (.ref ls),x7,x8,x9,x10,x11])/\SameN H1 H'/\Tb tb tb3 H') ⟨⟨_,_,_,_,_,rfl⟩,SameN.refl _,tab⟩ (λ i σ H' _ hp=>SqL.of (hp.2.1.lst hls)) ?_ ?_⟩
   .rintro i xv σ H' hx ⟨⟨x7,x8,x9,x10,x11,rfl⟩,s1,tab1⟩;obtain⟨p,x,y,rfl,hp,fx,fy⟩:=hsm xv (List.mem_of_getElem? hx);refine⟨p,_,rfl,SqL.of (s1.lst hp),rfl,_,_,rfl,_,_,rfl,rfl,?_⟩;refine⟨Ap 3,λ lv nlv=>?_⟩;obtain⟨H2,e,s2,e2⟩:=nw (.lst [.str "form",.str "alike",.str "led"]) nlv;rw[e];clear e;refine⟨lv,rfl,⟨_,SqL.of e2⟩,Fb (K:=K) (a:=lv) (xs:=[.str "form",.str "alike",.str "led"]) (λ i σ H'=>(∃x9 x10 x11,σ=[x0,x1,some v1,some v2,x4,some (.ref lt),some (.ref ls),some x,some y,x9,x10,x11])/\SameN H2 H'/\Tb tb tb3 H') ⟨⟨_,_,_,rfl⟩,SameN.refl _,tab1.same s2⟩ (λ i σ H' _ hp=>SqL.of (hp.2.1.lst e2)) ?_ ?_⟩
    .rintro j xb σ H3 hx ⟨⟨x9,x10,x11,rfl⟩,s3,tab3⟩;obtain⟨b,rfl⟩:∃b:Vb,xb=.str (vbS b):=by
      match j,hx with
      |0,hx=>cases hx;exact⟨.F,rfl⟩
      |1,hx=>cases hx;exact⟨.A,rfl⟩
      |2,hx=>cases hx;exact⟨.L,rfl⟩
     have s13:=s1.trans (s2.n.trans s3);have dne:=@Jc b t r x y;refine⟨_,rfl,_,rfl,_,rfl,_,rfl,_,rfl,v1,v2,t,r,x,y,b,rfl,tt.n s13,tr.n s13,dp1,dp2,nd1,nd2,fx,fy,λ d ed da H4 s4 hda=>?_,λ en H4 s4=>?_⟩
     .have s14:=s13.trans s4.n;refine⟨_,rfl,_,rfl,lt,_,_,_,rfl,rfl,SqL.of (s14.lst hlt),BF,_,rfl,lt,_,_,_,rfl,rfl,SqL.of (s14.lst hlt),Cw,_,rfl,_,rfl,b,o1,o2,x,y,t,r,rfl,fx,fy,b1.n s14,b2.n s14,nd1,nd2,tab3.same s4,λ d' ed' ta H5 s5 tab5 hta=>?_,λ z=>absurd (z.symm.trans ed) (by intro z;cases z)⟩;obtain rfl:d=d':=Option.some.inj (ed.symm.trans ed');have sc:=Oa (dne fx fy ed).2;have da5:=s5.tup hda;refine⟨_,rfl,rfl,_,rfl,AO (decide_eq_false (by intro z;cases z)) (Ll ?_)⟩;refine⟨_,rfl,rfl,_,rfl,AQ (by rw[decide_eq_false (by intro z;cases z)];rfl) ?_⟩;refine⟨_,rfl,rfl,_,rfl,AO (decide_eq_false (by intro z;cases z)) ?_⟩;refine⟨_,rfl,ta,_,_,_,rfl,rfl,SqT.of hta,at0,_,rfl,da,_,_,_,rfl,rfl,SqT.of da5,BF,rfl,_,rfl,AO DM ?_⟩;refine⟨_,rfl,ta,_,_,_,rfl,rfl,SqT.of hta,at1,_,rfl,da,_,_,_,rfl,rfl,SqT.of da5,Cw,sc,_,rfl,AO DM ?_⟩;obtain⟨T',hT⟩:=EK (H:=H5) (dne fx fy ed).2;refine⟨_,rfl,ta,_,_,_,rfl,rfl,SqT.of hta,at2,_,rfl,Ll ⟨_,rfl,ta,_,_,_,rfl,rfl,SqT.of hta,at3,_,rfl,AO rfl ?_⟩⟩;refine⟨_,rfl,ta,_,_,_,rfl,rfl,SqT.of hta,at1,_,T',"bool",rfl,hT,.inr (.inl rfl),_,rfl,da,_,_,_,rfl,rfl,SqT.of da5,Cw,_,T',"bool",rfl,hT,.inr (.inl rfl),rfl,_,rfl,AO DM ?_⟩;exact⟨⟨_,_,_,rfl⟩,s3.trans (s4.n.trans s5),tab5⟩
     .have s14:=s13.trans s4.n;obtain⟨en1,en2⟩:=SJ en;obtain⟨ww,hh,rfl,rfl,w1,w2,h1,h2,f1⟩:=Cf en1;refine⟨_,rfl,_,rfl,lt,_,_,_,rfl,rfl,SqL.of (s14.lst hlt),BF,_,rfl,lt,_,_,_,rfl,rfl,SqL.of (s14.lst hlt),Cw,_,rfl,_,rfl,b,o1,o2,_,_,t,r,rfl,fx,fy,b1.n s14,b2.n s14,nd1,nd2,tab3.same s4,λ d ed=>absurd (en.symm.trans ed) (by intro z;cases z),λ_=>⟨λ hA ta H5 s5 tab5 hta=>?_,λ hA H5 s5 tab5=>?_⟩⟩
      .have s15:=s14.trans s5;refine⟨_,rfl,rfl,_,rfl,AQ (decide_eq_true rfl) ⟨_,rfl,_,rfl,_,rfl,_,rfl,_,rfl,_,rfl,v1,v2,t,r,ww,hh,b,rfl,tt.n s15,tr.n s15,dp1,dp2,nd1,nd2,w1,w2,h1,h2,λ_=>⟨f1,?_,λ p H6 s6 hp6=>?_⟩,λ z=>absurd hA z⟩⟩
       .obtain⟨_,_,e1,e2,_,_,_,_,f2⟩:=Cf (en2 hA);cases e1;cases e2;exact f2
       .have D1:=Pw (K:=K) (s6 _ _ hta);refine .inr ⟨_,_,D1,Pw hp6,⟨_,rfl⟩,⟨_,rfl⟩,by rw[dep,BH,BH,BH,dep,dep];lia,_,rfl,AO (by rw[if_pos rfl,Cv _ D1];rfl) ?_⟩;exact⟨_,rfl,rfl,_,rfl,AO (by decide) ⟨⟨_,_,_,rfl⟩,s3.trans (s4.n.trans (s5.trans s6.n)),tab5.same s6⟩⟩
      .have s15:=s14.trans s5;refine⟨_,rfl,rfl,_,rfl,AQ (decide_eq_true rfl) ⟨_,rfl,_,rfl,_,rfl,_,rfl,_,rfl,_,rfl,v1,v2,t,r,ww,hh,b,rfl,tt.n s15,tr.n s15,dp1,dp2,nd1,nd2,w1,w2,h1,h2,λ z=>absurd z hA,λ_=>.inl ⟨rfl,_,rfl,AO (by decide) ?_⟩⟩⟩;exact⟨_,rfl,rfl,_,rfl,AO (by decide) ⟨⟨_,_,_,rfl⟩,s3.trans (s4.n.trans s5),tab5⟩⟩
    .rintro σ H3 ⟨⟨x9,x10,x11,rfl⟩,s3,tab3⟩;exact⟨⟨_,_,_,_,_,rfl⟩,s1.trans (s2.n.trans s3),tab3⟩
   .rintro σ H' ⟨⟨x7,x8,x9,x10,x11,rfl⟩,s1,tab1⟩;exact q H'
  obtain⟨tC,hC,kC⟩:∃rd,PSs (Bm CX0 P w K mg base Jn "law" (Ag BY) f cdv A outer s H E).nox ((A7 BY).drop 6) rd/\∀(x4:Option V)(v1 v2:V)(sd:Addr)(ww hh:Int)(t r:Tr)(H1:Hp),Same H H1->Told H1 t v1->Told H1 r v2->t.dp<24->r.dp<24->t.nd<=400->r.nd<=400->H1 sd=some (.lst [.int ww,.int hh]) ->
    rd { nx:=λ_ H'=>Q .non H',rt:=Q } [some (.ref a),some (.ref sd),some v1,some v2,x4,none,none,none,none,none,none,none] H1:=by
   refine⟨_,(Ac (As (i:=5) S.nd rfl (Or.inl rfl) (AE (Aa (Aj D__law_made hr (Aa (pv 2) Ab)) (Aa (Aj D__law_made hr (Aa (pv 3) Ab)) Ab))))
   (Ac (As (i:=6) S.nd rfl (Or.inl rfl) (AE (Aa (pv 1) (Aa (AE (Aa (Aj D__law_side hr (Aa (Aj D__law_cell hr (Aa (pv 0) (Aa Ad Ab))) Ab)) (Aa (Aj D__law_side hr (Aa (Aj D__law_cell hr (Aa (pv 0) (Aa Ad Ab))) Ab)) Ab))) Ab))))
   (Ac (As (i:=6) S.nd rfl (Or.inl rfl) (Au Dn (pv 6) (AE (Aa (AE (Aa (Al AD (pv 1) Ad (λ_ _=>rfl)) (Aa (Aj D__law_side hr (Aa (Aj D__law_cell hr (Aa (pv 0) (Aa Ad Ab))) Ab)) Ab))) (Aa (AE (Aa (Aj D__law_side hr (Aa (Aj D__law_cell hr (Aa (pv 0) (Aa Ad Ab))) Ab)) (Aa (Al AD (pv 1) Ad (λ_ _=>rfl)) Ab))) Ab)))))
   hD))),?_⟩
   intro x4 v1 v2 sd ww hh t r H1 s1 tt tr dp1 dp2 nd1 nd2 hsd;refine⟨_,rfl,v1,t,rfl,tt,dp1,λ o1 H2 s2 b1=>⟨_,rfl,v2,r,rfl,tr.same s2,dp2,λ o2 H3 s3 b2=>⟨Ap 2,λ lt nlt=>?_⟩⟩⟩;obtain⟨H4,e,s4,e4⟩:=nw (.lst [o1,o2]) nlt;rw[e];clear e;have y4:=(s2.trans s3).trans s4;have z4:=s1.trans y4;refine⟨_,rfl,_,rfl,a,ns,4,rfl,z4.seq hS,by decide,λ c1=>⟨c1,rfl,λ xa H5 s5 fa=>?_⟩⟩;have y5:=y4.trans s5;refine⟨_,rfl,a,ns,5,rfl,(s1.trans y5).seq hS,by decide,λ c2=>⟨c2,rfl,λ xb H6 s6 fb=>⟨Ap 2,λ la nla=>?_⟩⟩⟩;obtain⟨H7,e,s7,e7⟩:=nw (.lst [xa,xb]) nla;rw[e];clear e;refine⟨Ap 2,λ l0 nl0=>?_⟩;obtain⟨H8,e,s8,e8⟩:=nw (.lst [.ref sd,.ref la]) nl0;rw[e];clear e;have y8:=((y5.trans s6).trans s7).trans s8;refine⟨_,rfl,_,rfl,sd,_,_,_,rfl,rfl,SqL.of (y8 _ _ hsd),BF,_,rfl,a,ns,5,rfl,(s1.trans y8).seq hS,by decide,λ c3=>⟨c3,rfl,λ xc H9 s9 fc=>⟨Ap 2,λ lb nlb=>?_⟩⟩⟩;obtain⟨H10,e,s10,e10⟩:=nw (.lst [.int ww,xc]) nlb;rw[e];clear e;have y10:=(y8.trans s9).trans s10;refine⟨_,rfl,a,ns,4,rfl,(s1.trans y10).seq hS,by decide,λ c4=>⟨c4,rfl,λ xd H11 s11 fd'=>⟨_,rfl,sd,_,_,_,rfl,rfl,SqL.of ((y10.trans s11) _ _ hsd),Cw,Ap 2,λ lc nlc=>?_⟩⟩⟩;obtain⟨H12,e,s12,e12⟩:=nw (.lst [xd,.int hh]) nlc;rw[e];clear e;refine⟨Ap 2,λ l9 nl9=>?_⟩;obtain⟨H13,e,s13,e13⟩:=nw (.lst [.ref lb,.ref lc]) nl9;rw[e];clear e;have u10:=(s11.trans s12).trans s13;have u8:=(s9.trans s10).trans u10;have y13:=y8.trans u8;refine⟨l0,l9,_,_,rfl,rfl,u8 _ _ e8,e13,Nat.le_of_lt (A0 (by show 4<=1000;decide)),λ ls nls=>?_⟩;obtain⟨H14,e,s14,e14⟩:=nw (.lst ([.ref sd,.ref la]++[.ref lb,.ref lc])) nls;rw[e];clear e;have u14:=u8.trans s14;have y14:=y13.trans s14;have w4:=((s5.trans s6).trans s7).trans (s8.trans u14);have tab:Tb tb tb3 H14:=⟨TabOk.same (TabOk.new htb) (s1.trans y14),TabOk.same (TabOk.new htb3) (s1.trans y14)⟩;refine kD _ _ _ _ _ _ _ _ v1 v2 o1 o2 lt ls _ t r H14 (tt.same y14) (tr.same y14) (((b1.same s3).same s4).same w4) ((b2.same s4).same w4) dp1 dp2 nd1 nd2 (w4 _ _ e4) e14 ?_ tab;intro v hv;simp only[List.cons_append,List.nil_append,List.mem_cons,List.not_mem_nil,or_false]at hv;rcases hv with rfl|rfl|rfl|rfl
   .exact⟨sd,_,_,rfl,y14 _ _ hsd,rfl,rfl⟩
   .exact⟨la,_,_,rfl,(s8.trans u14) _ _ e7,fa,fb⟩
   .exact⟨lb,_,_,rfl,(u10.trans s14) _ _ e10,rfl,fc⟩
   .exact⟨lc,_,_,rfl,(s13.trans s14) _ _ e12,fd',rfl⟩
  obtain⟨tB3,hB3,kB3⟩:∃rd,PSs (Bm CX0 P w K mg base Jn "law" (Ag BY) f cdv A outer s H E).nox ((A7 BY).drop 5) rd/\∀(x4:Option V)(v1 v2:V)(sd:Addr)(ww hh:Int)(t r:Tr)(H1:Hp),Same H H1->Told H1 t v1->Told H1 r v2->t.dp<24->r.dp<24->t.nd<=400->r.nd<=400->H1 sd=some (.lst [.int ww,.int hh]) ->
    rd { nx:=λ_ H'=>Q .non H',rt:=Q } [some (.ref a),some (.ref sd),some v1,some v2,x4,none,none,none,none,none,none,none] H1:=by
   refine⟨_,(Ac (A3 (Ao AZ (Au BX (Au CU (Aj D__law_cell hr (Aa (pv 0) (Aa Ad Ab))) Ad) Ad) Ad (Aq _)) (Af (As (i:=3) S.nd rfl (Or.inl rfl) (Aj D__law_low hr (Aa (pv 3) (Aa (Aj D__law_state hr (Aa (Au AW (Aj D__law_cell hr (Aa (pv 0) (Aa Ad Ab))) Ad) Ab)) Ab))))) Ar)
   hC),?_⟩
   intro x4 v1 v2 sd ww hh t r H1 s1 tt tr dp1 dp2 nd1 nd2 hsd;refine⟨_,rfl,a,ns,2,rfl,s1.seq hS,by decide,λ z=>⟨_,_,rfl,rfl,O8 _ (by decide) (by decide),_,_,rfl,rfl,(show(0:Int)<8 from by decide),rfl,_,rfl,Bg (λ c=>?_) (λ c=>?_)⟩⟩
   .refine⟨_,rfl,_,rfl,a,ns,3,rfl,s1.seq hS,by decide,λ z3=>⟨_,_,rfl,rfl,_,rfl,λ st H2 s2 n2 st8=>⟨v2,r,st,0,rfl,tr.same s2,dp2,st8,Int.le_refl _,by lia,λ v' r' H3 s3 t3 sh=>?_⟩⟩⟩;have s13:Same H1 H3:=s3.same s2 n2;exact kC x4 v1 v' sd ww hh t r' H3 (s1.trans s13) (tt.same s13) t3 dp1 (by rw[sh.1];exact dp2) nd1 (by rw[sh.2];exact nd2) (s13 _ _ hsd)
   .exact kC x4 v1 v2 sd ww hh t r H1 s1 tt tr dp1 dp2 nd1 nd2 hsd
  obtain⟨tB2,hB2,kB2⟩:∃rd,PSs (Bm CX0 P w K mg base Jn "law" (Ag BY) f cdv A outer s H E).nox ((A7 BY).drop 4) rd/\∀(x4:Option V)(v1 v2:V)(sd:Addr)(ww hh:Int)(t r:Tr)(H1:Hp),Same H H1->Told H1 t v1->Told H1 r v2->t.dp<24->r.dp<24->t.nd<=400->r.nd<=400->H1 sd=some (.lst [.int ww,.int hh]) ->
    rd { nx:=λ_ H'=>Q .non H',rt:=Q } [some (.ref a),some (.ref sd),some v1,some v2,x4,none,none,none,none,none,none,none] H1:=by
   refine⟨_,(Ac (A3 (Ao AZ (Au BX (Au CU (Aj D__law_cell hr (Aa (pv 0) (Aa Ad Ab))) Ad) Ad) Ad (Aq _)) (Af (As (i:=2) S.nd rfl (Or.inl rfl) (Aj D__law_low hr (Aa (pv 2) (Aa (Aj D__law_state hr (Aa (Au AW (Aj D__law_cell hr (Aa (pv 0) (Aa Ad Ab))) Ad) Ab)) Ab))))) Ar)
   hB3),?_⟩
   intro x4 v1 v2 sd ww hh t r H1 s1 tt tr dp1 dp2 nd1 nd2 hsd;refine⟨_,rfl,a,ns,2,rfl,s1.seq hS,by decide,λ z=>⟨_,_,rfl,rfl,O8 _ (by decide) (by decide),_,_,rfl,rfl,(show(0:Int)<8 from by decide),rfl,_,rfl,Bg (λ c=>?_) (λ c=>?_)⟩⟩
   .refine⟨_,rfl,_,rfl,a,ns,3,rfl,s1.seq hS,by decide,λ z3=>⟨_,_,rfl,rfl,_,rfl,λ st H2 s2 n2 st8=>⟨v1,t,st,0,rfl,tt.same s2,dp1,st8,Int.le_refl _,by lia,λ v' r' H3 s3 t3 sh=>?_⟩⟩⟩;have s13:Same H1 H3:=s3.same s2 n2;exact kB3 x4 v' v2 sd ww hh r' r H3 (s1.trans s13) t3 (tr.same s13) (by rw[sh.1];exact dp1) dp2 (by rw[sh.2];exact nd1) nd2 (s13 _ _ hsd)
   .exact kB3 x4 v1 v2 sd ww hh t r H1 s1 tt tr dp1 dp2 nd1 nd2 hsd
  obtain⟨tB,hB,kB⟩:∃rd,PSs (Bm CX0 P w K mg base Jn "law" (Ag BY) f cdv A outer s H E).nox ((A7 BY).drop 3) rd/\∀(v1 v2:V)(sd:Addr)(ww hh:Int)(t r:Tr)(H1:Hp),Same H H1->Told H1 t v1->Told H1 r v2->1<=ww->ww<=12->1<=hh->hh<=12->Fit t ww hh->Fit r ww hh->H1 sd=some (.lst [.int ww,.int hh]) ->
    rd { nx:=λ_ H'=>Q .non H',rt:=Q } [some (.ref a),some (.ref sd),some v1,some v2,none,none,none,none,none,none,none,none] H1:=by
   refine⟨_,(Ac (A3 (Ao AZ (Au BX (Aj D__law_cell hr (Aa (pv 0) (Aa Ad Ab))) Ad) Ad (Aq _)) (Ac (As (i:=4) S.nd rfl (Or.inl rfl) (At (Aa Ad (Aa Ad (Aa (Al AD (pv 1) Ad (λ_ _=>rfl)) (Aa (Al AD (pv 1) Ad (λ_ _=>rfl)) Ab))))))
   (Af (As (i:=3) S.nd rfl (Or.inl rfl) (Aj D__law_recut hr (Aa (A6 (BE hr) rfl T.z_sorted rfl (Aa (Aj D__law_pieces hr (Aa (pv 2) (Aa (pv 4) Ab))) Ab)) (Aa (pv 4) (Aa (Aj D__law_state hr (Aa (Aj D__law_cell hr (Aa (pv 0) (Aa Ad Ab))) Ab)) Ab))))))) Ar)
   hB2),?_⟩
   intro v1 v2 sd ww hh t r H1 s1 tt tr w1 w2 h1 h2 f1 f2 hsd;obtain⟨sz1,nd1,dp1⟩:=Ed w1 w2 h1 h2 f1;obtain⟨_,nd2,dp2⟩:=Ed w1 w2 h1 h2 f2;refine⟨_,rfl,a,ns,2,rfl,s1.seq hS,by decide,λ z=>⟨_,_,rfl,rfl,(show(0:Int)<3 from by decide),rfl,_,rfl,Bg (λ c=>?_) (λ c=>?_)⟩⟩
   .refine⟨_,rfl,sd,_,_,_,rfl,rfl,SqL.of hsd,Cw,_,rfl,sd,_,_,_,rfl,rfl,SqL.of hsd,BF,Ap 4,λ bk nbk=>?_⟩;obtain⟨H2,e,s2,e2⟩:=nw (.tup [.int 0,.int 0,.int hh,.int ww]) nbk;rw[e];clear e;refine⟨_,rfl,_,rfl,v1,t,bk,⟨0,0,hh,ww⟩,rfl,tt.same s2,e2,dp1,nd1,λ lp ts H3 s3 nl3 hl3 pc ec=>?_⟩;obtain⟨r1,r2,r3,r4⟩:=EQ w1 w2 h1 h2 f1 pc ec;refine⟨lp,ts.map EM,3,GB.key,rfl,by rw[BK];exact SqL.of hl3,r1,r2,r3,λ l4 us4 n4 pm sr=>?_⟩;obtain⟨zs,rfl,pz,dz⟩:=r4 us4 pm sr;rw[BK];obtain⟨H4,e,s4,e4⟩:=nw (.lst (pcs zs)) n4;rw[e];clear e;have s24:=s3.trans s4;have s14:=s2.trans s24;have lz:=dz.len;rw[List.length_map]at lz;refine⟨_,rfl,_,rfl,a,ns,3,rfl,(s1.trans s14).seq hS,by decide,λ z3=>⟨z3,rfl,λ st H5 s5 n5 hst=>?_⟩⟩;refine⟨l4,bk,st,zs,⟨0,0,hh,ww⟩,t,0,rfl,s5 _ _ e4,((pc.perm pz).same s4).same s5,by lia,(s24.trans s5) _ _ e2,ok0 w1 h1,bd0 w2 h2,M1 f1,dz.1,hst,Int.le_refl _,by lia,?_,λ v' r' H6 tm' s6 st6 _ _ t6 fr pmr=>?_⟩
    .show ww-0+(hh-0)<25;lia
    have s46:Same H4 H6:=s6.same s5 n5;have s16:=s14.trans s46;obtain⟨_,nd6,dp6⟩:=Ed w1 w2 h1 h2 (TV fr);exact kB2 _ v1 v' sd ww hh t r' H6 (s1.trans s16) (tt.same s16) t6 dp1 dp6 nd1 nd6 (s16 _ _ hsd)
   .exact kB2 _ v1 v2 sd ww hh t r H1 s1 tt tr dp1 dp2 nd1 nd2 hsd
  refine⟨_,(Ac (GC rfl (Aw (i:=1) S.nd rfl (Or.inl rfl)) (Of rfl T.z_range (Aa Ad Ab)) (λ_ _ _ _ _=>(Aw (i:=0) (show List.Nodup (["_law_k","_law_script"]:LSz) from by decide +kernel) rfl (Or.inl rfl))) (λ_ _ _ _ _=>(Au AW Ad (Au BX (Aj D__law_cell hr (Aa (pv 1) (Aa (pv 0) Ab))) Ad))) (N:=["_law_k","_law_script"]) (fr:=[none,some 0]))
   (Ac (As (i:=2) S.nd rfl (Or.inl rfl) (Aj D__law_tree hr (Aa (Pt (KC Na (pv 0) (Ga Ad) (Ga Ad)) (Nk J9 Ad)) (Aa (Al AD (pv 1) Ad (λ_ _=>rfl)) (Aa (Al AD (pv 1) Ad (λ_ _=>rfl)) Ab)))))
   (Ac (As (i:=3) S.nd rfl (Or.inl rfl) (Aj D__law_tree hr (Aa (Pt (KC Na (pv 0) (Ga Ad) (Ga Ad)) (Nk J9 Ad)) (Aa (Al AD (pv 1) Ad (λ_ _=>rfl)) (Aa (Al AD (pv 1) Ad (λ_ _=>rfl)) Ab)))))
   hB))),?_⟩
  refine⟨2,rfl,by decide,by decide,λ acc hacc=>M8 (lo:=0) (n:=2) (λ i xs σ H'=>(∃y,σ=[y,some (.ref a)])/\Same H H'/\∃ms:List Int,xs=ms.map V.int/\ms.length=i/\∀m∈ms,1<=m/\m<=12) ⟨⟨none,rfl⟩,Same.new hacc,[],rfl,rfl,λ_ z=>nomatch z⟩ ?_ ?_⟩
  .rintro i xs σ H' hi hl hacc' ⟨⟨y,rfl⟩,hs,ms,rfl,ml,mb⟩;refine⟨_,rfl,_,rfl,a,ns,_,rfl,hs.seq hS,by lia,λ z=>⟨_,_,rfl,rfl,(show(0:Int)<12 from by decide),_,_,rfl,rfl,cNx.mk (Nat.le_of_lt (A0 (by lia))) hi hl hacc' ⟨⟨_,rfl⟩,λ b o e=>?_,ms++[1+z % 12],by rw[List.map_append];rfl,by rw[List.length_append,ml];rfl,λ m hm=>?_⟩⟩⟩
   .rw[Ah (Ae e hacc)];exact hs b o e
   .rcases List.mem_append.mp hm with hm|hm
    .exact mb m hm
    .rw[List.mem_singleton.mp hm];have:=Int.emod_nonneg z (b:=12) (by decide);have:=Int.emod_lt_of_pos z (b:=12) (by decide);exact⟨by lia,by lia⟩
  rintro xs σ H0 hl hsd ⟨_,s0,ms,rfl,ml,mb⟩;obtain⟨ww,hh,rfl⟩:∃ww hh:Int,ms=[ww,hh]:=by
   match ms,ml with
   |[x,y],_=>exact⟨x,y,rfl⟩
  obtain⟨w1,w2⟩:=mb ww (by simp);obtain⟨h1,h2⟩:=mb hh (by simp);refine⟨_,rfl,6,rfl,20,rfl,a,_,rfl,s0.seq hS,λ l nl=>?_⟩;obtain⟨cs,ecs⟩:∃cs:List Int,Lu (ns.map V.int) (some 6) (some 20)=cs.map V.int:=⟨_,by unfold Lu;rw[<-List.map_drop,<-List.map_take]⟩;rw[ecs];obtain⟨H1,e,s1,e1⟩:=nw (.lst (cs.map V.int)) nl;rw[e];clear e;refine⟨_,rfl,l,_,rfl,rfl,SqL.of e1,λ rr nr=>?_⟩;rw[<-List.map_reverse];have nrA:=MO s1 nr;obtain⟨H2,e,s2,e2⟩:=nw (.lst (cs.reverse.map V.int)) nr;rw[e];clear e;have sd2:=(s1.trans s2) _ _ hsd;refine⟨_,rfl,acc,_,_,_,rfl,rfl,SqL.of sd2,BF,_,rfl,acc,_,_,_,rfl,rfl,SqL.of sd2,Cw,rr,_,ww,hh,rfl,e2,w1,h1,by lia,w2,h2,λ v1 t H3 ms' sx e3 tt ft=>?_⟩;have s03:Same H0 H3:=sx.same (s1.trans s2) nrA;refine⟨_,rfl,20,rfl,34,rfl,a,_,rfl,(s0.trans s03).seq hS,λ l' nl'=>?_⟩;obtain⟨cs',ecs'⟩:∃cs:List Int,Lu (ns.map V.int) (some 20) (some 34)=cs.map V.int:=⟨_,by unfold Lu;rw[<-List.map_drop,<-List.map_take]⟩;rw[ecs'];obtain⟨H4,e,s4,e4⟩:=nw (.lst (cs'.map V.int)) nl';rw[e];clear e;refine⟨_,rfl,l',_,rfl,rfl,SqL.of e4,λ rr' nr'=>?_⟩;rw[<-List.map_reverse];have nrB:=MO s4 nr';obtain⟨H5,e,s5,e5⟩:=nw (.lst (cs'.reverse.map V.int)) nr';rw[e];clear e;have sd5:=(s03.trans (s4.trans s5)) _ _ hsd;refine⟨_,rfl,acc,_,_,_,rfl,rfl,SqL.of sd5,BF,_,rfl,acc,_,_,_,rfl,rfl,SqL.of sd5,Cw,rr',_,ww,hh,rfl,e5,w1,h1,by lia,w2,h2,λ v2 r H6 ms6 sx6 e6 tr fr=>?_⟩;have s36:Same H3 H6:=sx6.same (s4.trans s5) nrB;exact kB v1 v2 acc ww hh t r H6 ((s0.trans s03).trans s36) (tt.same s36) tr w1 w2 h1 h2 ft fr ((s03.trans s36) _ _ hsd)
def clA(s c u:Addr):Cc
 |.S=>s
 |.C=>c
 |.U=>u
def clL:List Cl:=[.S,.C,.U]
def TJ(K:Frag)(cc:Cc)(cM cG:Addr):Bool:=clL.all λ x=>(clL.all λ y=>kitOne K (.ref (cc x)) (.ref (cc y))==some (decide (x=y))&&mroIn K (cc x) (.ref (cc y))==some (decide (x=y)))&&(kitOne K (.ref (cc x)) (.ref cM)==some false&&kitOne K (.ref (cc x)) (.ref cG)==some true)
theorem PJ(x:Cl):x∈clL:=by cases x<;>simp[clL]
theorem Ge{K:Frag}{cc:Cc}{cM cG:Addr}(h:TJ K cc cM cG=true)(x:Cl):(∀y,kitOne K (.ref (cc x)) (.ref (cc y))=some (decide (x=y))/\mroIn K (cc x) (.ref (cc y))=some (decide (x=y)))/\kitOne K (.ref (cc x)) (.ref cM)=some false/\kitOne K (.ref (cc x)) (.ref cG)=some true:=by
 have h:=List.all_eq_true.mp h x (PJ x);simp only[Bool.and_eq_true,beq_iff_eq]at h;refine⟨λ y=>?_,h.2⟩;have h:=List.all_eq_true.mp h.1 y (PJ y);simp only[Bool.and_eq_true,beq_iff_eq]at h;exact h
theorem SW{H H1:Hp}{Q:VK}{x d:Addr}{o1 o2:HO}{E1:HO}(hx:H x=some E1)(hd:H d=none):(upd (upd H d o1) x o2) x=some o2/\(upd (upd H d o1) x o2) d=some o1/\∀a o,a≠x->H a=some o->(upd (upd H d o1) x o2) a=some o :=
 ⟨upd_same,by rw[Ah (Ne.symm (Ae hx hd)),upd_same],λ a o ne e=>by rw[Ah ne,Ah (Ae e hd)];exact e⟩
theorem Ks:An ["self","at"] ["self","at"] (Ag Dj):=fsc
theorem Ig{f cN:Addr}{fd:FuncData}(F:Fun K "__init__" "NoCut.__init__" Dj f fd)(xc:XCls K cN)(xn:NoAttr K cN "at"):A8 P w K mg base CX0 1 f fd ["self","at"] (QA cN ["at"]):=by
 have S:=Ks;refine F.ok S (λ vs H Q E h=>?_) (λ cdv A outer s H vs Q E hr h=>?_)
 .obtain⟨x,ws,rfl,hl,_⟩:=h;rw[List.length_cons,hl];rfl
 .obtain⟨x,ws,rfl,hl,hx,q⟩:=h;obtain⟨v0,rfl⟩:=Mu hl;refine⟨_,(Af (Nh (pv 0) (pv 1) rfl)),?_⟩;refine⟨_,rfl,_,rfl,x,cN,rfl,xc,xn,.inl ⟨hx,λ d hd=>?_⟩⟩;obtain⟨e1,e2,e3⟩:=SW (H1:=H) (Q:=Q) (o1:=CM d [("at",v0)]) (o2:=DQ cN d x) hx hd;exact q d _ hd e1 e2 e3
theorem Ix:An ["self","side"] ["self","side"] (Ag CH):=fsc
theorem GR{f cN:Addr}{fd:FuncData}(F:Fun K "__init__" "NoSide.__init__" CH f fd)(xc:XCls K cN)(xn:NoAttr K cN "side"):A8 P w K mg base CX0 1 f fd ["self","side"] (QA cN ["side"]):=by
 have S:=Ix;refine F.ok S (λ vs H Q E h=>?_) (λ cdv A outer s H vs Q E hr h=>?_)
 .obtain⟨x,ws,rfl,hl,_⟩:=h;rw[List.length_cons,hl];rfl
 .obtain⟨x,ws,rfl,hl,hx,q⟩:=h;obtain⟨v0,rfl⟩:=Mu hl;refine⟨_,(Af (Nh (pv 0) (pv 1) rfl)),?_⟩;refine⟨_,rfl,_,rfl,x,cN,rfl,xc,xn,.inl ⟨hx,λ d hd=>?_⟩⟩;obtain⟨e1,e2,e3⟩:=SW (H1:=H) (Q:=Q) (o1:=CM d [("side",v0)]) (o2:=DQ cN d x) hx hd;exact q d _ hd e1 e2 e3
def icB(K:Frag)(C:Addr):Bool:=plainGet K C Str.empty&&(hasDictIn K C&&(plainOver K C&&((findIn K (.ref C) "__setattr__"==some (some (.builtin "object.__setattr__")))&&((findIn K (.ref C) "__class__"==some (some (.builtin "object.__class__"))) &&
 ((specialIn K (.builtin "object.__class__") "__get__"==some (some (.builtin "getset_descriptor.__get__")))&&((takesIn K (.builtin "object.__class__")==some true)&&((mroIn K C (.type "object")==some true)&&(makesIn K C&&keepIn K (.ref C)))))))))
theorem Mz{C:Addr}(h:icB K C=true):MM K C/\makesIn K C=true/\keepIn K (.ref C)=true:=by
 unfold icB at h;simp only[Bool.and_eq_true,beq_iff_eq]at h;obtain⟨a,b,c,d,e,f,g,i,j,l⟩:=h;exact⟨⟨⟨a,b,c,d⟩,e,f,g,i⟩,j,l⟩
def SD(K:Frag)(cT cW cU cL:Addr):Bool:=([(cW,"mark"),(cU,"at"),(cU,"first"),(cU,"other"),(cL,"at"),(cL,"first"),(cL,"other")]:List (Addr×Str)).all (λ p=>findIn K (.ref p.1) p.2==some none) &&
 ([(cW,cW,true),(cW,cU,false),(cW,cL,false),(cU,cW,false),(cL,cW,false),(cU,cU,true),(cU,cL,false),(cL,cU,false),(cL,cL,true),(cW,cT,true),(cU,cT,true),(cL,cT,true)]:List (Addr×Addr×Bool)).all (λ p=>kitOne K (.ref p.1) (.ref p.2.1)==some p.2.2)
theorem Tq(h:SD K cT cW cU cL=true)(iW:MM K cW)(iU:MM K cU)(iL:MM K cL)(gT:mg "Tree"=some (.ref cT))(gW:mg "Whole"=some (.ref cW))(gU:mg "Upright"=some (.ref cU))(gL:mg "Level"=some (.ref cL)):RT mg K cT cW cU cL:=by
 unfold SD at h;rw[Bool.and_eq_true,List.all_eq_true,List.all_eq_true]at h;obtain⟨h1,h2⟩:=h;have f1:∀p∈([(cW,"mark"),(cU,"at"),(cU,"first"),(cU,"other"),(cL,"at"),(cL,"first"),(cL,"other")]:List (Addr×Str)),findIn K (.ref p.1) p.2=some none:=λ p hp=>beq_iff_eq.mp (h1 p hp);have f2:∀p∈([(cW,cW,true),(cW,cU,false),(cW,cL,false),(cU,cW,false),(cL,cW,false),(cU,cU,true),(cU,cL,false),(cL,cU,false),(cL,cL,true),(cW,cT,true),(cU,cT,true),(cL,cT,true)]:List (Addr×Addr×Bool)),kitOne K (.ref p.1) (.ref p.2.1)=some p.2.2:=λ p hp=>beq_iff_eq.mp (h2 p hp);simp only[List.forall_mem_cons,List.not_mem_nil,false_implies,implies_true,and_true]at f1 f2;obtain⟨a1,a2,a3,a4,a5,a6,a7⟩:=f1;obtain⟨k1,k2,k3,k4,k5,k6,k7,k8,k9,k10,k11,k12⟩:=f2;refine⟨gT,gW,gU,gL,iW,?_,a1,?_,?_,?_,k1,?_,?_,?_,k10,?_⟩
 .intro u;cases u;exact iL;exact iU
 .intro u;cases u;exact a5;exact a2
 .intro u;cases u;exact a6;exact a3
 .intro u;cases u;exact a7;exact a4
 .intro u;cases u;exact k3;exact k2
 .intro u;cases u;exact k5;exact k4
 .intro u v;cases u<;>cases v;exact k9;exact k8;exact k7;exact k6
 .intro u;cases u;exact k12;exact k11
end
theorem Os{α β:Type}{us:List α}{p:β}{ps:List β}(h:us.length=(p::ps).length):∃u vs,us=u::vs/\vs.length=ps.length:=by
 cases us with
 |nil=>cases h
 |cons u vs=>exact⟨u,vs,rfl,Nat.succ.inj h⟩
theorem Oq{α β:Type}{us:List α}(h:us.length=([]:List β).length):us=[]:=List.length_eq_zero_iff.mp h
abbrev FB(K:Frag)(x qual:Str)(st:Stmt)(f:Addr):Prop:=∃fd,Fun K x qual st f fd
abbrev FI(K:Frag)(x:Str)(st:Stmt)(f:Addr):Prop:=nsIn K mainGlobals x=some (some (.ref f))/\FB K x x st f
abbrev MI(K:Frag)(C:Addr)(x qual:Str)(st:Stmt)(f:Addr):Prop:=findIn K (.ref C) x=some (some (.ref f))/\isFn K (.ref f)=true/\FB K x qual st f
structure HC(P:Program)(w:World)(K:Frag)(mg:MGz)(base:Heap):Prop where
 ex:∃h:Heap,K.In h/\h.Ns mainGlobals mg
abbrev BOk(x qual:Str)(st:Stmt)(ps:LSz):Prop:=∀(kV doc pm:Value)(an:Option Addr)(cdv ct:Value)(us:LWz),us.length=ps.length->bindArgs (fnOf x qual (Bh st) (A7 st) (Ag st) .none kV doc pm an cdv ct) ⟨us,[]⟩=pure (ps.zip us)
section
variable{P:Program}{w:World}{K:Frag}{mg:MGz}{base:Heap}{x qual:Str}{st:Stmt}{f C:Addr}{n:Nat}{ps:LSz}{sp:Sp}{v:Value}
theorem HC.g(c:HC P w K mg base)(a:nsIn K mainGlobals x=some (some v)):mg x=some v:=let ⟨_,X,G⟩:=c.ex;mg_of X G a
theorem HC.d(c:HC P w K mg base)(i:FI K x st f)(ok:∀fd,Fun K x x st f fd->A8 P w K mg base CX0 n f fd ps sp)(hb:BOk x x st ps:=by intro _ _ _ _ _ _ us hl;(repeat (obtain⟨_,_,e,h⟩:=Os hl;clear hl;subst e;have hl:=h;clear h));cases Oq hl;rfl):Av P w K mg base n x ps sp:=let ⟨a,_,F⟩:=i;⟨_,_,ok _ F,c.g a,F.kp,F.binds hb⟩
theorem HC.dx(c:HC P w K mg base)(i:FI K x st f)(ok:∀fd,Fun K x x st f fd->A8 P w K mg base (CX1 P w) n f fd ps sp)(hb:BOk x x st ps:=by intro _ _ _ _ _ _ us hl;(repeat (obtain⟨_,_,e,h⟩:=Os hl;clear hl;subst e;have hl:=h;clear h));cases Oq hl;rfl):BI P w K mg base n x ps sp:=let ⟨a,_,F⟩:=i;⟨_,_,ok _ F,c.g a,F.kp,F.binds hb⟩
theorem HC.k{cn:Str}(c:HC P w K mg base)(m:makesIn K C=true)(k:keepIn K (.ref C)=true)(ac:nsIn K mainGlobals cn=some (some (.ref C)))(i:MI K C "__init__" qual st f)(ok:∀fd,Fun K "__init__" qual st f fd->A8 P w K mg base CX0 n f fd ps sp)(hb:BOk "__init__" qual st ps:=by intro _ _ _ _ _ _ us hl;(repeat (obtain⟨_,_,e,h⟩:=Os hl;clear hl;subst e;have hl:=h;clear h));cases Oq hl;rfl):Kv P w K mg base n cn C ps sp:=let ⟨a,b,_,F⟩:=i;⟨_,_,⟨m,a,b,k⟩,ok _ F,c.g ac,F.binds hb⟩
theorem HC.xm{cn:Str}{ns:LSz}(c:HC P w K mg base)(l:Iz K C=true)(e:Dp K C f=true)(k:keepIn K (.ref C)=true)(ac:nsIn K mainGlobals cn=some (some (.ref C)))(i:MI K C "__init__" qual st f)(ok:∀fd,Fun K "__init__" qual st f fd->XCls K C->A8 P w K mg base CX0 n f fd ps (QA C ns))(fw:ns.length<=1000:=by decide)(hb:BOk "__init__" qual st ps:=by intro _ _ _ _ _ _ us hl;(repeat (obtain⟨_,_,e,h⟩:=Os hl;clear hl;subst e;have hl:=h;clear h));cases Oq hl;rfl):Jl P w K mg base n cn C ps ns:=let ⟨a,b,_,F⟩:=i;⟨fw,_,_,⟨XCls.of l,e,k,b⟩,ok _ F (XCls.of l),c.g ac,F.binds hb⟩
end
theorem all_mk{l:OpenLaw}{w:World}{K:Frag}{h:Heap}{mg:MGz}{fa:Addr}(X:K.In h)(G:h.Ns mainGlobals mg)(hfa:mg "law"=some (.ref fa))
  {cT:Addr} (aT:nsIn K mainGlobals "Tree"=some (some (.ref cT)))
  {cW:Addr} (aC_cW:nsIn K mainGlobals "Whole"=some (some (.ref cW))) (ic_cW:icB K cW=true)
  {f_cW:Addr} {od_cW an_cW:Option Addr} {sl_cW:AOz} {oc_cW kV_cW dc_cW pm_cW cd_cW ct_cW:Value} {T_cW:Addr} {to_cW:Value} {td_cW:Option Addr} {ts_cW:AOz} {ti_cW:Array Value} {tn_cW:Nat} (a_cWcW:findIn K (.ref cW) "__init__"=some (some (.ref f_cW))) (i_cW:isFn K (.ref f_cW)=true) (l_cW:K.lookup f_cW=some ⟨oc_cW,od_cW,.func (fnOf "__init__" "Whole.__init__" (Bh Bs) (A7 Bs) (Ag Bs) (.ref T_cW) kV_cW dc_cW pm_cW an_cW cd_cW ct_cW),sl_cW⟩) (cc_cW:codeIn K cd_cW "Whole.__init__"=true) (k_cW:keepIn K (.ref f_cW)=true) (lT_cW:K.lookup T_cW=some ⟨to_cW,td_cW,.seq ti_cW tn_cW,ts_cW⟩) (eT_cW:ti_cW=#[.none])
  {cU:Addr} (aC_cU:nsIn K mainGlobals "Upright"=some (some (.ref cU))) (ic_cU:icB K cU=true)
  {f_cU:Addr} (h_cUcU:MI K cU "__init__" "Upright.__init__" Cq f_cU)
  {cL:Addr} (aC_cL:nsIn K mainGlobals "Level"=some (some (.ref cL))) (ic_cL:icB K cL=true)
  {f_cL:Addr} (h_cLcL:MI K cL "__init__" "Level.__init__" Dk f_cL)
  (kit:SD K cT cW cU cL=true)
  {cG:Addr} (aG:nsIn K mainGlobals "GlassError"=some (some (.ref cG))) (eG:PySem.W.excIn K cG vErr "ValueError.__new__"=true)
  {qS:Addr} (aC_qS:nsIn K mainGlobals "NoSide"=some (some (.ref qS))) (kC_qS:keepIn K (.ref qS)=true) (nC_qS:findIn K (.ref qS) "side"=some none)
  {f_qS:Addr} (h_qSqS:MI K qS "__init__" "NoSide.__init__" CH f_qS)
  (ei_qS:Dp K qS f_qS=true) (xc_qS:Iz K qS=true) (xm_qS:mroIn K qS (.ref cG)=some true)
  {qC:Addr} (aC_qC:nsIn K mainGlobals "NoCut"=some (some (.ref qC))) (kC_qC:keepIn K (.ref qC)=true) (nC_qC:findIn K (.ref qC) "at"=some none)
  {f_qC:Addr} (h_qCqC:MI K qC "__init__" "NoCut.__init__" Dj f_qC)
  (ei_qC:Dp K qC f_qC=true) (xc_qC:Iz K qC=true) (xm_qC:mroIn K qC (.ref cG)=some true)
  {qU:Addr} (aC_qU:nsIn K mainGlobals "Unlike"=some (some (.ref qU)))
  {cM:Addr} (aC_cM:nsIn K mainGlobals "NoMove"=some (some (.ref cM)))
  (kU:keepIn K (.ref qU)=true)
  (eU:PySem.W.excIn K qU vErr "ValueError.__new__"=true)
  (xU:Iz K qU=true)
  (ktV:(kitOne K (.ref qU) (.type "ValueError")==some true)=true)
  (ktC:TJ K (clA qS qC qU) cM cG=true)
  {f0:Addr} (h0:FI K "is_whole" Eo f0)
  {f1:Addr} (h1:FI K "is_side" Fm f1)
  {f2:Addr} (h2:FI K "inside" G6 f2)
  {f3:Addr} (h3:FI K "check_sides" CC f3)
  {f4:Addr} (h4:FI K "kind_of" Fl f4)
  {f5:Addr} (h5:FI K "entry_of" Ep f5)
  {f6:Addr} (h6:FI K "entries_of" De f6)
  {f7:Addr} (h7:FI K "cut_from" Er f7)
  {f8:Addr} (h8:FI K "tree_from" Dz f8)
  {f9:Addr} (h9:FI K "first_piece" CB f9)
  {f10:Addr} (h10:FI K "other_piece" C8 f10)
  {f11:Addr} (h11:FI K "entries_by" Df f11)
  {f12:Addr} (h12:FI K "check_cut" BQ f12)
  {f13:Addr} (h13:FI K "cut_out" Fn f13)
  {f14:Addr} {od14 an14:Option Addr} {sl14:AOz} {oc14 kV14 dc14 pm14 cd14 ct14:Value} (a14:nsIn K mainGlobals "pieces"=some (some (.ref f14))) (l14:K.lookup f14=some ⟨oc14,od14,.func (fnOf "pieces" "pieces" (Bh Bp) (A7 Bp) (Ag Bp) .none kV14 dc14 pm14 an14 cd14 ct14),sl14⟩) (cc14:codeIn K cd14 "pieces"=true) (k14:keepIn K (.ref f14)=true) {c14 tb:Addr} (ec14:cd14=.ref c14) (hC14:F7 K c14 tb=true)
  {f15:Addr} (h15:FI K "line_breaks" C9 f15)
  {f16:Addr} (h16:FI K "goes_through" Cm f16)
  {f17:Addr} (h17:FI K "lines_through" BV f17)
  {f18:Addr} (h18:FI K "entry_for" D0 f18)
  {f19:Addr} {od19 an19:Option Addr} {sl19:AOz} {oc19 kV19 dc19 pm19 cd19 ct19:Value} (a19:nsIn K mainGlobals "cut_up"=some (some (.ref f19))) (l19:K.lookup f19=some ⟨oc19,od19,.func (fnOf "cut_up" "cut_up" (Bh Bi) (A7 Bi) (Ag Bi) .none kV19 dc19 pm19 an19 cd19 ct19),sl19⟩) (cc19:codeIn K cd19 "cut_up"=true) (k19:keepIn K (.ref f19)=true) {c19 tb3:Addr} (ec19:cd19=.ref c19) (hC19:F7 K c19 tb3=true)
  {f20:Addr} (h20:FI K "form" LY f20)
  {f21:Addr} (h21:FI K "alike" JE f21)
  {f22:Addr} (h22:FI K "moves_up" El f22)
  {f23:Addr} (h23:FI K "ahead_of" Es f23)
  {f24:Addr} (h24:FI K "behind_of" D3 f24)
  {f25:Addr} (h25:FI K "moves_to" Em f25)
  {f26:Addr} (h26:FI K "led" Ph f26)
  {f27:Addr} (h27:FI K "_law_cell" D9 f27)
  {f28:Addr} (h28:FI K "_law_draw" D8 f28)
  {f29:Addr} (h29:FI K "_law_state" B8 f29)
  {f30:Addr} (h30:FI K "_law_pick" D5 f30)
  {f31:Addr} (h31:FI K "_law_tree" AY f31)
  {f32:Addr} (h32:FI K "_law_made" D6 f32)
  {f33:Addr} (h33:FI K "_law_whole" Dg f33)
  {f34:Addr} (h34:FI K "_law_pieces" CD f34)
  {f35:Addr} (h35:FI K "_law_through" Cn f35)
  {f36:Addr} (h36:FI K "_law_parted" CF f36)
  {f37:Addr} (h37:FI K "_law_recut" Dh f37)
  {f38:Addr} (h38:FI K "_law_low" Et f38)
  {f39:Addr} (h39:FI K "_law_side" D4 f39)
  {f40:Addr} (h40:FI K "_law_no_side" Co f40)
  {f41:Addr} (h41:FI K "_law_no_cut" CG f41)
  {f42:Addr} (h42:FI K "_law_due" Cp f42)
  {f43:Addr} (h43:FI K "_law_free" D7 f43)
  {f44:Addr} (h44:FI K "_law_asked" Di f44)
  {f45:Addr} (h45:FI K "law" BY f45)
  {bm:Addr} {bsl:AOz} (abm:nsIn K mainGlobals "__builtins__"=some (some (.ref bm))) (lbm:K.lookup bm=some ⟨.type "module",some builtinsNs,.plain,bsl⟩) (nbm1:bm≠builtinsNs) (nbm2:bm≠mainGlobals)
  (hne:tb≠tb3)
  (z0:nsIn K mainGlobals "isinstance"=some none)
  (z1:nsIn K mainGlobals "int"=some none)
  (z2:nsIn K mainGlobals "bool"=some none)
  (z3:nsIn K mainGlobals "tuple"=some none)
  (z4:nsIn K mainGlobals "list"=some none)
  (z5:nsIn K mainGlobals "len"=some none)
  (z6:nsIn K mainGlobals "range"=some none)
  (z7:nsIn K mainGlobals "abs"=some none)
  (z8:nsIn K mainGlobals "all"=some none)
  (z9:nsIn K mainGlobals "any"=some none)
  (z10:nsIn K mainGlobals "sorted"=some none)
  (z11:nsIn K mainGlobals "str"=some none)
  (z12:nsIn K mainGlobals "reversed"=some none)
  (z13:nsIn K mainGlobals "ValueError"=some none)
  {tk0:Tok} (g0:nsIn K mainGlobals "LONGEST_SIDE"=some (some (.int 12 tk0)))
  {tk1:Tok} (g1:nsIn K mainGlobals "WHOLE"=some (some (.str "whole" tk1)))
  {tk2:Tok} (g2:nsIn K mainGlobals "UPRIGHT"=some (some (.str "upright" tk2)))
  {tk3:Tok} (g3:nsIn K mainGlobals "LEVEL"=some (some (.str "level" tk3)))
  {tk4:Tok} (g4:nsIn K mainGlobals "TOP"=some (some (.int 0 tk4)))
  {tk5:Tok} (g5:nsIn K mainGlobals "LEFT"=some (some (.int 1 tk5)))
  {tk6:Tok} (g6:nsIn K mainGlobals "ROOM"=some (some (.str "room" tk6)))
  {tk7:Tok} (g7:nsIn K mainGlobals "LEAN"=some (some (.str "lean" tk7)))
  {tk8:Tok} (g8:nsIn K mainGlobals "BACK"=some (some (.str "back" tk8)))
  {tk9:Tok} (g9:nsIn K mainGlobals "CROSS"=some (some (.str "cross" tk9)))
  : ∃fd:FuncData,(∀(s:Shared)(v:Value),BindsTo s fd ⟨[v],[]⟩ [("_law_script",v)])/\∀base:Heap,K.In base->base.Ns mainGlobals mg->A8 l.prog w K mg base CX0 55 fa fd ["_law_script"] (sp_law tb tb3 K):=by
 have e:=hfa.symm.trans (mg_of X G h45.1);cases e;have T:Txt mg (tk0,tk1,tk2,tk3,tk4,tk5,tk6,tk7,tk8,tk9):=⟨mg_none_of X G z0,mg_none_of X G z1,mg_none_of X G z2,mg_none_of X G z3,mg_none_of X G z4,mg_none_of X G z5,mg_none_of X G z6,mg_none_of X G z7,mg_none_of X G z8,mg_none_of X G z9,mg_none_of X G z10,mg_none_of X G z11,mg_none_of X G z12,mg_none_of X G z13,mg_of X G g0,mg_of X G g1,mg_of X G g2,mg_of X G g3,mg_of X G g4,mg_of X G g5,mg_of X G g6,mg_of X G g7,mg_of X G g8,mg_of X G g9⟩;obtain⟨I_cW,mk_cW,kc_cW⟩:=Mz ic_cW;obtain⟨I_cU,mk_cU,kc_cU⟩:=Mz ic_cU;obtain⟨I_cL,mk_cL,kc_cL⟩:=Mz ic_cL;have R0:RT mg K cT cW cU cL:=Tq kit I_cW I_cU I_cL (mg_of X G aT) (mg_of X G aC_cW) (mg_of X G aC_cU) (mg_of X G aC_cL);have hB0:RD K mg:=⟨bm,bsl,mg_of X G abm,nbm1,nbm2,lbm⟩;have RG0:RG mg K (clA qS qC qU) cM cG:=⟨mg_of X G aC_qS,mg_of X G aC_qC,mg_of X G aC_qU,mg_of X G aC_cM,mg_of X G aG,.inl ⟨f_qS,ei_qS⟩,.inl ⟨f_qC,ei_qC⟩,.inr eU,λ x y=>((Ge ktC x).1 y).2,λ x=>by cases x;exact XCls.of xc_qS;exact XCls.of xc_qC;exact XCls.of xU,λ x y=>((Ge ktC x).1 y).1,λ x=>(Ge ktC x).2.1,λ x=>(Ge ktC x).2.2,beq_iff_eq.mp ktV,nC_qS,nC_qC⟩;have X_Unlike:XMk0 K mg "Unlike" ((clA qS qC qU) .U):=⟨eU,kU,mg_of X G aC_qU⟩;have F_cW:FunD K "__init__" "Whole.__init__" Bs f_cW _:=⟨⟨_,_,_,_,_,_,_,_,_,_,_,tn_cW,rfl,l_cW,cc_cW,lT_cW,by rw[eT_cW]⟩,k_cW⟩;have b_cW:=F_cW.binds (ps:=["self","mark"]) (ds:=[]) λ_ _ _ _ _ _ _ us hl=>by obtain⟨u0,u1,rfl⟩:=Mt ((List.append_nil us) ▸ hl);exact⟨_,rfl,rfl⟩
 have F14:=N1 (st:=Bp) l14 cc14 k14 ec14;have b14:=F14.fn.binds (ps:=["tree","width","height"]) λ_ _ _ _ _ _ us hl=>by (repeat (obtain⟨_,_,e,h⟩:=Os hl;clear hl;subst e;have hl:=h;clear h));cases Oq hl;rfl
 have F19:=N1 (st:=Bi) l19 cc19 k19 ec19;have b19:=F19.fn.binds (ps:=["sheet","some"]) λ_ _ _ _ _ _ us hl=>by (repeat (obtain⟨_,_,e,h⟩:=Os hl;clear hl;subst e;have hl:=h;clear h));cases Oq hl;rfl
 obtain⟨ha45,fd,F45⟩:=h45;obtain⟨oc,od,kV,doc,pm,an,cdv,ct,osl,rfl,lk,hcd⟩:=id F45.ex;refine⟨fnOf "law" "law" (Bh BY) (A7 BY) (Ag BY) .none kV doc pm an cdv ct,λ s v=>.of_eq rfl,λ base _ _=>?_⟩;have c:HC l.prog w K mg base:=⟨h,X,G⟩;have K_Whole:Kv l.prog w K mg base 1 "Whole" cW ["self","mark"] (MV cW):=⟨_,_,⟨mk_cW,a_cWcW,i_cW,kc_cW⟩,Ie F_cW R0,mg_of X G aC_cW,b_cW⟩;have K_Upright:=c.k mk_cU kc_cU aC_cU h_cUcU λ_ F=>FT F R0;have K_Level:=c.k mk_cL kc_cL aC_cL h_cLcL λ_ F=>Ih F R0;have X_NoSide:=c.xm xc_qS ei_qS kC_qS aC_qS h_qSqS λ_ F x=>GR F x nC_qS;have X_NoCut:=c.xm xc_qC ei_qC kC_qC aC_qC h_qCqC λ_ F x=>Ig F x nC_qC;have X_NoSide:Jl l.prog w K mg base 1 "NoSide" ((clA qS qC qU) .S) ["self","side"] ["side"]:=X_NoSide;have X_NoCut:Jl l.prog w K mg base 1 "NoCut" ((clA qS qC qU) .C) ["self","at"] ["at"]:=X_NoCut;have D_is_whole:=c.d h0 λ_ F=>KU F T;have D_is_side:=c.d h1 λ_ F=>Mh F T D_is_whole;have D_inside:=c.d h2 λ_ F=>Ol F;have D_check_sides:=c.dx h3 λ_ F=>GQ F X_NoSide D_is_side;have D_kind_of:=c.d (sp:=BG cW cU cL) h4 λ_ F=>Mg F T R0;have D_entry_of:=c.d (sp:=G0 cW cU cL) h5 λ_ F=>KW F T R0 D_kind_of;have D_entries_of:=c.d (sp:=Ek cW cU cL) h6 λ_ F=>Ib F T R0 D_entry_of;have D_cut_from:=c.d (sp:=Cj cW cU cL) h7 λ_ F=>KY F T K_Upright K_Level;have D_tree_from:=c.d (sp:=JB K cW cU cL) h8 λ_ F=>JK F T R0 K_Whole D_cut_from;have D_first_piece:=c.d h9 λ_ F=>GP F T;have D_other_piece:=c.d h10 λ_ F=>GL F T;have D_entries_by:=c.d h11 λ_ F=>Ic F T D_first_piece D_other_piece;have D_check_cut:=c.dx h12 λ_ F=>JQ F T X_NoCut D_is_whole;have D_cut_out:=c.dx (sp:=LP cW cU cL ((clA qS qC qU) .C)) h13 λ_ F=>Mi F T D_entries_of D_check_cut D_first_piece D_other_piece;have D_pieces:BI l.prog w K mg base 5 "pieces" ["tree","width","height"] (DS tb cW cU cL (clA qS qC qU)):=⟨_,_,Oj F14 T hC14 hB0 D_check_sides D_cut_out,mg_of X G a14,k14,b14⟩;have D_line_breaks:=c.d h15 λ_ F=>GM F;have D_goes_through:=c.d h16 λ_ F=>FS F T D_line_breaks;have D_lines_through:=c.d h17 λ_ F=>Fu F T D_goes_through;have D_entry_for:=c.d h18 λ_ F=>JP F T D_lines_through;have D_cut_up:Av l.prog w K mg base 8 "cut_up" ["sheet","some"] (G1 tb3):=⟨_,_,Om F19 hC19 hB0 D_inside D_entry_for D_entries_by,mg_of X G a19,k19,b19⟩;have D_form:=c.dx (sp:=JC tb tb3 cW cU cL (clA qS qC qU)) h20 λ_ F=>QX F hne D_pieces D_cut_up D_tree_from;have D_alike:=c.dx (sp:=ET tb tb3 cW cU cL (clA qS qC qU)) h21 λ_ F=>Pz F hne D_pieces;have A_moves_up:∀n:Nat,Av l.prog w K mg base (n+3) "moves_up" ["tree","word","at","steps"] (Gx cW cU cL n):=λ n=>by
  induction n with
  |zero=>exact c.d h22 λ_ F=>BO F HF λ_ _ _ _=>UE
  |succ n ih=>exact c.d h22 λ_ F=>KJ F T R0 D_kind_of ih
 have D_moves_up:=A_moves_up 24;have A_ahead_of:∀n:Nat,Av l.prog w K mg base (n+3) "ahead_of" ["tree","word","at"] (G4 cW cU cL n):=λ n=>by
  induction n with
  |zero=>exact c.d h23 λ_ F=>BO F HK λ_ _ _ _=>UP
  |succ n ih=>exact c.d h23 λ_ F=>KZ F R0 D_kind_of D_cut_from ih
 have D_ahead_of:=A_ahead_of 24;have A_behind_of:∀n:Nat,Av l.prog w K mg base (n+3) "behind_of" ["tree","word","at"] (G2 cW cU cL n):=λ n=>by
  induction n with
  |zero=>exact c.d h24 λ_ F=>BO F FM λ_ _ _ _=>UO
  |succ n ih=>exact c.d h24 λ_ F=>JR F R0 D_kind_of D_cut_from ih
 have D_behind_of:=A_behind_of 24;have A_moves_to:∀n:Nat,Av l.prog w K mg base (n+28) "moves_to" ["tree","other","steps"] (Gy cW cU cL n):=λ n=>by
  induction n with
  |zero=>exact c.d h25 λ_ F=>BO F HG λ_ _ _ _=>UF
  |succ n ih=>exact c.d h25 λ_ F=>KL F T R0 D_kind_of D_moves_up D_ahead_of D_behind_of ih
 have D_moves_to:=A_moves_to 24;have D_led:=c.dx (sp:=LR tb tb3 cW cU cL (clA qS qC qU)) h26 λ_ F=>S6 F X_Unlike D_alike D_moves_to;have D__law_cell:=c.d h27 λ_ F=>KS F T;have D__law_draw:=c.d h28 λ_ F=>KR F;have D__law_state:=c.d h29 λ_ F=>JM F T;have D__law_pick:=c.d h30 λ_ F=>KO F D__law_draw;have A__law_tree:∀n:Nat,Av l.prog w K mg base (n+3) "_law_tree" ["_law_cells","_law_width","_law_height"] (ER n):=λ n=>by
  induction n with
  |zero=>exact c.d h31 λ_ F=>BO F HH λ_ _ _ _=>SX
  |succ n ih=>exact c.d h31 λ_ F=>KM F D__law_state D__law_pick ih
 have D__law_tree:=A__law_tree 25;have A__law_made:∀n:Nat,Av l.prog w K mg base (n+3) "_law_made" ["_law_told_here"] (ES cW cU cL n):=λ n=>by
  induction n with
  |zero=>exact c.d h32 λ_ F=>BO F HI λ_ _ _ _=>TB
  |succ n ih=>exact c.d h32 λ_ F=>KP F K_Whole K_Upright K_Level ih
 have D__law_made:=A__law_made 24;have D__law_whole:=c.d h33 λ_ F=>JL F T;have A__law_pieces:∀n:Nat,Av l.prog w K mg base (n+3) "_law_pieces" ["_law_told_here","_law_block"] (B4 n):=λ n=>by
  induction n with
  |zero=>exact c.d h34 λ_ F=>BO F Fe λ_ _ _ _=>P8
  |succ n ih=>exact c.d h34 λ_ F=>HY F ih
 have D__law_pieces:=A__law_pieces 24;have D__law_through:=c.d h35 λ_ F=>GN F T;have D__law_parted:=c.d h36 λ_ F=>HZ F T;have A__law_recut:∀n:Nat,Av l.prog w K mg base (n+3) "_law_recut" ["_law_some","_law_block","_law_state_here"] (Dx n):=λ n=>by
  induction n with
  |zero=>exact c.d h37 λ_ F=>BO F FL λ_ _ _ _=>Sw
  |succ n ih=>exact c.d h37 λ_ F=>JN F T D__law_through D__law_pick D__law_parted ih
 have D__law_recut:=A__law_recut 25;have A__law_low:∀n:Nat,Av l.prog w K mg base (n+3) "_law_low" ["_law_told_here","_law_state_here"] (Gz n):=λ n=>by
  induction n with
  |zero=>exact c.d h38 λ_ F=>BO F Jm λ_ _ _ _=>UG
  |succ n ih=>exact c.d h38 λ_ F=>Me F D__law_pick ih
 have D__law_low:=A__law_low 24;have D__law_side:=c.d h39 λ_ F=>KN F;have D__law_no_side:=c.d h40 λ_ F=>GO F D__law_whole;have A__law_no_cut:∀n:Nat,Av l.prog w K mg base (n+3) "_law_no_cut" ["_law_told_here","_law_width","_law_height"] (Dy n):=λ n=>by
  induction n with
  |zero=>exact c.d h41 λ_ F=>BO F Ff λ_ _ _ _=>S8
  |succ n ih=>exact c.d h41 λ_ F=>Ia F T ih
 have D__law_no_cut:=A__law_no_cut 24;have D__law_due:=c.d h42 λ_ F=>Mf F T D__law_no_side D__law_no_cut D__law_pieces;have D__law_free:=c.d h43 λ_ F=>KQ F T D__law_pieces;have D__law_asked:=c.d (sp:=G3 tb tb3 cW cU cL) h44 λ_ F=>JO F T RG0 D_form D_alike D_led;exact S7 F45 T D__law_cell D__law_state D__law_tree D__law_pieces D__law_recut D__law_made D__law_low D__law_side D__law_due D__law_free D__law_asked
theorem walk(tb:Addr)(tb3:Addr){l:OpenLaw}{q:Program}{loose:LSz}{XP:(MGz)->Heap->Prop}{YP:World->Heap->Prop}{d:DefRec}{K:Params->Frag}{Ts:List Addr}(hm_tb:tb∈Ts)(hm_tb3:tb3∈Ts)(hn:l.most=some 63)(hdf:d.params.defaults=[])
  (hY:∀(w:World)(h:Heap),YP w h->(K w.params).In h) (hT:∀(w:World)(h:Heap),YP w h->∀T∈Ts,h.get? T=some (tabObj #[])/\(K w.params).lookup T=none/\∃c,CodeHd h c T)
  (F:∀(w:World)(mg:MGz)(fa:Addr)(h:Heap),(K w.params).In h->h.Ns mainGlobals mg->mg d.name=some (.ref fa) ->
   ∃fd:FuncData,(∀(s:Shared)(u:Value),BindsTo s fd ⟨[u],[]⟩ [("_law_script",u)])/\∀base:Heap,(K w.params).In base->base.Ns mainGlobals mg->A8 l.prog w (K w.params) mg base CX0 55 fa fd ["_law_script"] (sp_law tb tb3 (K w.params))) :
  WalkO q loose XP YP l.row.toRowW d [] (λ f vs=>PySem.call f vs) :=
 L2.walk_ofT (n:=63) (k:=55) (x:="_law_script") (CX:=λ_=>CX0) (sp:=λ w=>sp_law tb tb3 (K w.params)) hn (by decide) hdf ⟨rfl,by decide,by decide⟩ hY hT F (λ_ _ a ns hl hO hS=>⟨a,ns,rfl,hS,hl,hO.2 tb hm_tb,hO.2 tb3 hm_tb3,λ_=>rfl⟩) λ_ _ _ _ _ z=>z
end K34
open PySem PySem.W PyProof.Rows
set_option maxRecDepth 100000 in
set_option maxHeartbeats 0 in
theorem PySem.Challenge.cw_glazebench_k34_forms_refused_holds : PySem.Challenge.rw_glazebench_k34_forms_refused.Holds := by
 refine KH.prep fun said => ?_
 have fx : ∀ s, KH.Xp PySem.Challenge.pw_glazebench_k34_forms_refused s = true → XL (KH.qv PySem.Challenge.pw_glazebench_k34_forms_refused) [] (s.heap.nsMap mainGlobals) s.heap := fun s e => xl_of s (Bool.and_eq_true_iff.mp e).1
 have fr : ∀ s, KH.Xp PySem.Challenge.pw_glazebench_k34_forms_refused s = true → RecFacts (RowW.records (OpenRow.toRowW PySem.Challenge.rw_glazebench_k34_forms_refused.row)) s.heap := fun s e => recFacts_of (Bool.and_eq_true_iff.mp e).2
 refine holds_open (XP := XL (KH.qv PySem.Challenge.pw_glazebench_k34_forms_refused) []) KH.left (L2.hookT (kHook KH.KK KH.kas KH.kas_is) KH.Ts).of (L2.hookT (kHook KH.KK KH.kas KH.kas_is) KH.Ts).keeps fx XL.keeps (by rfl) (by rfl) (by rfl) fr (by rfl) said (by decide +kernel) ?hb ?hw ?hc
 case hb => exact ⟨rfl,rfl, rfl,rfl, rfl, by decide +kernel⟩
 case hw => w_witness2
 case hc =>
  k_fill
  refine K34.walk (l := PySem.Challenge.rw_glazebench_k34_forms_refused) (Ts := KH.Ts) 308 337 (by simp [KH.Ts]) (by simp [KH.Ts]) rfl rfl (fun w h Y => PySem.W.kIn_of Y.1) ?HT ?F
  case HT =>
   intro w h Y T hT
   refine ⟨Y.2 T hT, ?_⟩
   have hT : T ∈ [308, 337] := hT
   simp only [List.mem_cons, List.not_mem_nil, or_false] at hT
   rcases hT with rfl | rfl
   ·exact ⟨by kernel_rfl, 312, L2.codeTB_of (c := 312) (T := 308) (by kernel_rfl) h (PySem.W.kIn_of Y.1)⟩
   ·exact ⟨by kernel_rfl, 341, L2.codeTB_of (c := 341) (T := 337) (by kernel_rfl) h (PySem.W.kIn_of Y.1)⟩
  case F =>
   intro w mg fa h KX G hmg
   refine' K34.all_mk (tb := 308) (tb3 := 337) KX G hmg ?my_aT ?my_aC_cW ?my_ic_cW ?my_a_cWcW ?my_i_cW ?my_l_cW ?my_cc_cW ?my_k_cW ?my_lT_cW ?my_eT_cW ?my_aC_cU ?my_ic_cU ?my_h_cUcU ?my_aC_cL ?my_ic_cL ?my_h_cLcL ?my_kit ?my_aG ?my_eG ?my_aC_qS ?my_kC_qS ?my_nC_qS ?my_h_qSqS ?my_ei_qS ?my_xc_qS ?my_xm_qS ?my_aC_qC ?my_kC_qC ?my_nC_qC ?my_h_qCqC ?my_ei_qC ?my_xc_qC ?my_xm_qC ?my_aC_qU ?my_aC_cM ?my_kU ?my_eU ?my_xU ?my_ktV ?my_ktC ?my_h0 ?my_h1 ?my_h2 ?my_h3 ?my_h4 ?my_h5 ?my_h6 ?my_h7 ?my_h8 ?my_h9 ?my_h10 ?my_h11 ?my_h12 ?my_h13 ?my_a14 ?my_l14 ?my_cc14 ?my_k14 ?my_ec14 ?my_hC14 ?my_h15 ?my_h16 ?my_h17 ?my_h18 ?my_a19 ?my_l19 ?my_cc19 ?my_k19 ?my_ec19 ?my_hC19 ?my_h20 ?my_h21 ?my_h22 ?my_h23 ?my_h24 ?my_h25 ?my_h26 ?my_h27 ?my_h28 ?my_h29 ?my_h30 ?my_h31 ?my_h32 ?my_h33 ?my_h34 ?my_h35 ?my_h36 ?my_h37 ?my_h38 ?my_h39 ?my_h40 ?my_h41 ?my_h42 ?my_h43 ?my_h44 ?my_h45 ?my_abm ?my_lbm ?my_nbm1 ?my_nbm2 ?my_hne ?my_z0 ?my_z1 ?my_z2 ?my_z3 ?my_z4 ?my_z5 ?my_z6 ?my_z7 ?my_z8 ?my_z9 ?my_z10 ?my_z11 ?my_z12 ?my_z13 ?my_g0 ?my_g1 ?my_g2 ?my_g3 ?my_g4 ?my_g5 ?my_g6 ?my_g7 ?my_g8 ?my_g9
   (case my_aT => k_is); (case my_aC_cW => k_is); (case my_a_cWcW => k_is); (case my_i_cW => k_is); (case my_l_cW => k_is); (case my_cc_cW => k_is); (case my_k_cW => k_is); (case my_lT_cW => k_is)
   (case my_aC_cU => k_is); (case my_aC_cL => k_is); (case my_aG => k_is); (case my_aC_qS => k_is); (case my_kC_qS => k_is); (case my_nC_qS => k_is); (case my_xm_qS => k_is); (case my_aC_qC => k_is)
   (case my_kC_qC => k_is); (case my_nC_qC => k_is); (case my_xm_qC => k_is); (case my_aC_qU => k_is); (case my_aC_cM => k_is); (case my_kU => k_is); (case my_a14 => k_is); (case my_l14 => k_is)
   (case my_cc14 => k_is); (case my_k14 => k_is); (case my_a19 => k_is); (case my_l19 => k_is); (case my_cc19 => k_is); (case my_k19 => k_is); (case my_abm => k_is); (case my_lbm => k_is)
   (case my_z0 => k_is); (case my_z1 => k_is); (case my_z2 => k_is); (case my_z3 => k_is); (case my_z4 => k_is); (case my_z5 => k_is); (case my_z6 => k_is); (case my_z7 => k_is)
   (case my_z8 => k_is); (case my_z9 => k_is); (case my_z10 => k_is); (case my_z11 => k_is); (case my_z12 => k_is); (case my_z13 => k_is); (case my_g0 => k_is); (case my_g1 => k_is)
   (case my_g2 => k_is); (case my_g3 => k_is); (case my_g4 => k_is); (case my_g5 => k_is); (case my_g6 => k_is); (case my_g7 => k_is); (case my_g8 => k_is); (case my_g9 => k_is)
   (case my_eT_cW => rfl); (case my_ec14 => rfl); (case my_ec19 => rfl); (case my_ic_cW => kernel_rfl); (case my_ic_cU => kernel_rfl); (case my_ic_cL => kernel_rfl); (case my_kit => kernel_rfl); (case my_eG => kernel_rfl)
   (case my_ei_qS => kernel_rfl); (case my_xc_qS => kernel_rfl); (case my_ei_qC => kernel_rfl); (case my_xc_qC => kernel_rfl); (case my_eU => kernel_rfl); (case my_xU => kernel_rfl); (case my_ktV => kernel_rfl); (case my_ktC => kernel_rfl)
   (case my_hC14 => kernel_rfl); (case my_hC19 => kernel_rfl); (case my_nbm1 => decide); (case my_nbm2 => decide); (case my_hne => decide)
   case my_h_cUcU | my_h_cLcL | my_h_qSqS | my_h_qCqC => exact ⟨by k_is, by k_is, _, ⟨⟨_,_,_,_,_,_,_,_,_,rfl, by k_is, by k_is⟩, by k_is⟩⟩
   case my_h0 | my_h1 | my_h2 | my_h3 | my_h4 | my_h5 | my_h6 | my_h7 | my_h8 | my_h9 | my_h10 | my_h11 | my_h12 | my_h13 | my_h15 | my_h16 | my_h17 | my_h18 | my_h20 | my_h21 | my_h22 | my_h23 | my_h24 | my_h25 | my_h26 | my_h27 | my_h28 | my_h29 | my_h30 | my_h31 | my_h32 | my_h33 | my_h34 | my_h35 | my_h36 | my_h37 | my_h38 | my_h39 | my_h40 | my_h41 | my_h42 | my_h43 | my_h44 | my_h45 => exact ⟨by k_is, _, ⟨⟨_,_,_,_,_,_,_,_,_,rfl, by k_is, by k_is⟩, by k_is⟩⟩
