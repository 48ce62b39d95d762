import PyProof.Rows.All
import Wide.All
import OpenK.AllK
import Wide.FinOn
import Lean
import PyProof.EqAt
import PyProof.EqKinds
import PyProof.TupleCall
import PyProof.Rows.SortRuns
import PyProof.NeKinds
import PyProof.ExcAttrAll.ValueError
import PyProof.StationsW
import PyProof.PassesOwn
import PyProof.RulesAs
import PyProof.NsDelKeeps
import PyProof.CompMap
import PyProof.DictItems
import KE.KPairComp
import KE.KMinKey
import KE.KDictList
import KE.KDictOf
import KE.KEqDict
import PyProof.DictIter
import PyProof.DictWalks
import PyProof.Rows.DictUnroll
import KE.KRevIter
import KE.KLam
import KE.KSortKey
import KE.KSortTup
import PyProof.Rows.StrJoin2
import PyProof.Rows.StrNews
import PyProof.StrLawsTight
import PyProof.StrWalks
import PyProof.StrBlockH
import KE.KIntText
import KE.LcSums
import KE.KNest
import PySem.Challenge.RW_glazebench_k56_worths_refused
set_option Elab.async false
set_option linter.all false
set_option maxRecDepth 100000
abbrev VPz:=PySem.Value→PySem.Shared→Prop
abbrev PNz:=List (PySem.Addr × PySem.Obj)
abbrev MGz:=PySem.Str→Option PySem.Value
abbrev AOz:=Array (Option PySem.Value)
abbrev LSz:=List PySem.Str
abbrev LWz:=List PySem.Value
namespace L2
open PySem.W
open PySem PySem.Spec PyProof.Rows
abbrev Key:=Sum Int Str
def IT:Key->Value->Bool
 |.inl k,v=>Value.isInt k v
 |.inr x,v=>Value.isStrOf x v
def UO(w:World):Key->Int
 |.inl k=>hashInt k
 |.inr x=>hashStr w x
theorem Ba:∀{k:Key}{v:Value},IT k v=true->(∃i t,k=Sum.inl i/\v=Value.int i t)\/(∃x t,k=Sum.inr x/\v=Value.str x t)
 |.inl i,v,h=>by
  obtain⟨t,e⟩:=Value.isInt_shape (k:=i) (v:=v) h;exact .inl ⟨i,t,rfl,e⟩
 |.inr x,v,h=>by
  obtain⟨t,e⟩:=Value.isStrOf_shape (x:=x) (v:=v) h;exact .inr ⟨x,t,rfl,e⟩
theorem Oy(i:Int)(t:Tok):IT (.inl i) (.int i t)=true:=by simp[IT,Value.isInt]
theorem Ox(x:Str)(t:Tok):IT (.inr x) (.str x t)=true:=by simp[IT,Value.isStrOf]
theorem SA(a b:Int):decide ((Sum.inl a:Key)=Sum.inl b)=(a==b):=by
 by_cases e:a=b
 .subst e;simp
 .have h:¬(Sum.inl a:Key)=Sum.inl b:=λ q=>e (Sum.inl.inj q);rw[decide_eq_false h];exact(beq_eq_false_iff_ne.mpr e).symm
theorem S7(a b:Str):decide ((Sum.inr a:Key)=Sum.inr b)=decide (a=b):=by
 by_cases e:a=b
 .subst e;simp
 .have h:¬(Sum.inr a:Key)=Sum.inr b:=λ q=>e (Sum.inr.inj q);rw[decide_eq_false h,decide_eq_false e]
theorem S9(a:Int)(b:Str):decide ((Sum.inl a:Key)=Sum.inr b)=false:=decide_eq_false (λ q=>nomatch q)
theorem S8(a:Str)(b:Int):decide ((Sum.inr a:Key)=Sum.inl b)=false:=decide_eq_false (λ q=>nomatch q)
def Bf(prog:Program)(w:World):PySem.KeyKind prog w Key where
 is:=IT
 hash:=UO w
 inj:=λ v a b ha hb=>by
  rcases Ba ha with ⟨i,t,rfl,rfl⟩|⟨x,t,rfl,rfl⟩
  .rcases Ba hb with ⟨j,u,rfl,e⟩|⟨y,u,rfl,e⟩
   .injection e with e1 _;rw[e1]
   .exact nomatch e
  .rcases Ba hb with ⟨j,u,rfl,e⟩|⟨y,u,rfl,e⟩
   .exact nomatch e
   .injection e with e1 _;rw[e1]
 byValue:=λ k v h=>by
  rcases Ba h with ⟨i,t,rfl,rfl⟩|⟨x,t,rfl,rfl⟩<;>rfl
 pyHash:=λ hv h=>by
  rcases Ba hv with ⟨i,t,rfl,rfl⟩|⟨x,t,rfl,rfl⟩
  .exact wpAny_pyHash_int h
  .exact wpAny_pyHash_str h
 eqBool:=λ hu hv h=>by
  rcases Ba hu with ⟨i,t,rfl,rfl⟩|⟨x,t,rfl,rfl⟩
  .rcases Ba hv with ⟨j,u,rfl,rfl⟩|⟨y,u,rfl,rfl⟩
   .rw[SA]at h;exact wpAny_eqBool_int h
   .rw[S9]at h;exact SeqAt.EqAt.int_str i t y u _ _ _ _ h
  .rcases Ba hv with ⟨j,u,rfl,rfl⟩|⟨y,u,rfl,rfl⟩
   .rw[S8]at h;exact SeqAt.EqAt.str_int x t j u _ _ _ _ h
   .rw[S7]at h;exact wpAny_eqBool_str h
 «strs»:=λ k x t v h=>by
  rcases Ba h with ⟨i,u,rfl,e⟩|⟨y,u,rfl,e⟩
  .exact nomatch e
  .injection e with e1 _;subst e1;cases v<;>rfl
theorem Lh(prog:Program)(w:World)(i:Int)(t:Tok):(Bf prog w).is (.inl i) (.int i t)=true:=Oy i t
theorem Lg(prog:Program)(w:World)(x:Str)(t:Tok):(Bf prog w).is (.inr x) (.str x t)=true:=Ox x t
inductive V where
 |non|bl (b:Bool)|int (i:Int)|str (x:Str)|byt (b:Array UInt8)|flt (b:UInt64)|ref (a:Addr)|ty (n:String)
 deriving DecidableEq
abbrev LKz:=List (List Key×V)
abbrev LFz:=List (Str×V)
abbrev LUz:=List V
def RelV:V->Value->Prop
 |.non,u=>u=Value.none
 |.bl b,u=>u=Value.bool b
 |.int i,u=>∃t,u=Value.int i t
 |.str x,u=>∃t,u=Value.str x t
 |.byt b,u=>∃t,u=Value.bytes b t
 |.flt b,u=>∃t,u=Value.float b t
 |.ref a,u=>u=Value.ref a
 |.ty n,u=>u=Value.type n
abbrev Vals:LUz->LWz->Prop:=Paired RelV
theorem Vals.length{xs:LUz}{us:LWz}(r:Vals xs us):xs.length=us.length:=Paired.length r
theorem Vals.get:∀{xs:LUz}{us:LWz}{i:Nat}{x:V},Vals xs us->xs[i]?=some x->∃u,us[i]?=some u/\RelV x u
 |_,_,_,_,.nil,e=>by simp at e
 |_,_,0,_,.cons r _,e=>by simp at e;subst e;exact⟨_,rfl,r⟩
 |_,_,i+1,x,.cons _ t,e=>by
  obtain⟨u,h1,h2⟩:=Vals.get (i:=i) (x:=x) t (by simpa using e);exact⟨u,by simpa using h1,h2⟩
theorem Vals.set{x:V}{u:Value}(r:RelV x u):∀{xs:LUz}{us:LWz}(i:Nat),Vals xs us->Vals (xs.set i x) (us.set i u)
 |_,_,_,.nil=>.nil
 |_,_,0,.cons _ t=>.cons r t
 |_,_,i+1,.cons q t=>.cons q (Vals.set r i t)
theorem Vals.append:∀{xs ys:LUz}{us ws:LWz},Vals xs us->Vals ys ws->Vals (xs++ys) (us++ws)
 |_,_,_,_,.nil,s=>s
 |_,_,_,_,.cons r t,s=>.cons r (Vals.append t s)
theorem Vals.take:∀{xs:LUz}{us:LWz}(n:Nat),Vals xs us->Vals (xs.take n) (us.take n)
 |_,_,0,_=>.nil
 |_,_,_+1,.nil=>.nil
 |_,_,n+1,.cons r t=>.cons r (Vals.take n t)
theorem Vals.drop:∀{xs:LUz}{us:LWz}(n:Nat),Vals xs us->Vals (xs.drop n) (us.drop n)
 |_,_,0,r=>r
 |_,_,_+1,.nil=>.nil
 |_,_,n+1,.cons _ t=>Vals.drop n t
def RelO:Option V->Option Value->Prop
 |some v,some u=>RelV v u
 |none,none=>True
 |_,_=>False
def KV{κ:Type}:List (κ×V)->List (κ×Value)->Prop:=Paired λ(p:κ×V)(q:κ×Value)=>p.1=q.1/\RelV p.2 q.2
def kV:Key->V
 |.inl i=>.int i
 |.inr x=>.str x
inductive HO where
 |lst (xs:LUz)
 |tup (xs:LUz)
 |dK (kvs:List (Key×V))|dT (kvs:LKz)
 |set (S:Int->Bool) (n:Nat)
 |ins (C dx:Addr) (fs:LFz)
 |own (x:Addr)
 |xd (fs:LFz)
 |met (f x:Addr)
 |rng (lo hi:Int)
 |frz (o:Obj) (u:HO)
 |tbl (ps:Array Value)
 |ext (φ:Heap->Prop)
abbrev Hp:=Addr->Option HO
def upd(H:Hp)(a:Addr)(o:HO):Hp:=λ b=>if b=a then some o else H b
theorem Ac{H:Hp}{a:Addr}{o:HO}:upd H a o a=some o:=by unfold upd;rw[if_pos rfl]
theorem Ai{H:Hp}{a b:Addr}{o:HO}(h:b≠a):upd H a o b=H b:=by unfold upd;rw[if_neg h]
theorem Nr{H:Hp}{a b:Addr}{o u:HO}(h:H a=some o)(h':H b=some u)(d:o≠u):a≠b:=by
 intro e;subst e;rw[h]at h';exact d (Option.some.inj h')
theorem Ah{H:Hp}{a b:Addr}{o:HO}(h:H a=some o)(h':H b=none):a≠b:=by
 intro e;subst e;rw[h]at h';cases h'
section
variable(P:Program)(w:World)
def ObjOk(H:Hp)(h:Heap)(a:Addr):HO->Prop
 |.lst xs=>xs.length<=sizeLine/\∃(its:LWz)(n:Nat),Vals xs its/\h.get? a=some { cls:=.type "list",data:=.seq its.toArray n }
 |.tup xs=>xs.length<=sizeLine/\∃its:LWz,Vals xs its/\IsTup h a its.toArray
 |.dK kvs=>kvs.length<=sizeLine/\(a==sysModules)=false/\∃vs,KV kvs vs/\h.DictOf (Bf P w) a vs
 |.dT kvs=>kvs.length<=sizeLine/\(a==sysModules)=false/\∃xs:List (List Key×Addr×Value),
   Paired (λ(p:List Key×V)(q:List Key×Addr×Value)=>p.1=q.1/\H q.2.1=some (.tup (p.1.map kV))/\RelV p.2 q.2.2) kvs xs /\
   ∃o es ep,h.get? a=some o/\o.ExactDict/\o.data=.dict es ep/\es.toList=xs.map (entryOfKey (tupleKind (Bf P w)))/\(xs.map (·.1)).Nodup
 |.set S n=>h.SetOf (intKind P w) a S n
 |.ins C dx fs=>H dx=some (.own a)/\fs.length<=1000/\dx≠a/\h.get? a=some (instObj C dx) /\
   ∃mA,h.Ns1 dx mA/\(∀f,RelO (fs.lookup f) (mA f))/\PySem.Within mA (fs.map (·.1))
 |.own _=>∃o,h.get? a=some o
 |.xd fs=>∃mA,h.Ns1 a mA/\∀f,RelO (fs.lookup f) (mA f)
 |.rng lo hi=>∃t u v,h.get? a=some { cls:=.type "range",data:=.fields #[.int lo t,.int hi u,.int 1 v] }
 |.frz o u=>h.get? a=some o/\ObjOk H h a u
 |.tbl ps=>h.get? a=some { cls:=.none,data:=.fields ps }
 |.met f x=>h.get? a=some (methodObj (.ref f) (.ref x))
 |.ext φ=>φ h/\(∃o,h.get? a=some o)/\∀h1 h2:Heap,φ h1->(∀o,h1.get? a=some o->h2.get? a=some o)->φ h2
def HOk(H:Hp)(h:Heap):Prop:=∀a o,H a=some o->ObjOk P w H h a o
end
section
variable{P:Program}{w:World}{H H':Hp}{h h':Heap}{a:Addr}{o:HO}
theorem ObjOk.lt(x:ObjOk P w H h a o):a<h.objs.size:=by
 cases o with
 |lst xs=>obtain⟨_,_,_,_,e⟩:=x;exact Heap.lt_size e
 |tup xs=>obtain⟨_,_,_,p⟩:=x;exact p.lt
 |dK kvs=>obtain⟨_,_,_,_,o,_,_,e,_⟩:=x;exact Heap.lt_size e
 |dT kvs=>obtain⟨_,_,_,_,o,_,_,e,_⟩:=x;exact Heap.lt_size e
 |set S n=>obtain⟨o,_,_,_,e,_⟩:=x;exact Heap.lt_size e
 |ins C dx fs=>obtain⟨_,_,_,e,_⟩:=x;exact Heap.lt_size e
 |own y=>obtain⟨_,e⟩:=x;exact Heap.lt_size e
 |xd fs=>obtain⟨_,⟨_,_,_,e,_⟩,_⟩:=x;exact Heap.lt_size e
 |rng lo hi=>obtain⟨_,_,_,e⟩:=x;exact Heap.lt_size e
 |frz ob u=>obtain⟨e,_⟩:=x;exact Heap.lt_size e
 |tbl ps=>exact Heap.lt_size (show h.get? a=some _ from x)
 |met f y=>exact Heap.lt_size (show h.get? a=some _ from x)
 |ext φ=>obtain⟨_,⟨_,e⟩,_⟩:=x;exact Heap.lt_size e
theorem Paired.mapP{α β:Type}{F G:α->β->Prop}:∀{l₁:List α}{l₂:List β},Paired F l₁ l₂->(∀a b,F a b->G a b)->Paired G l₁ l₂
 |_,_,.nil,_=>.nil
 |_,_,.cons r t,f=>.cons (f _ _ r) (Paired.mapP t f)
theorem ObjOk.stay(x:ObjOk P w H h a o)(k:∀b u,(b=a\/H b=some (.own a))->h.get? b=some u->h'.get? b=some u)
  (ho:∀b,H b=some (.own a)->H' b=some (.own a)) (ht:∀b xs,H b=some (.tup xs)->H' b=some (.tup xs)):ObjOk P w H' h' a o:=by
 induction o with
 |lst xs=>obtain⟨z,its,n,r,e⟩:=x;exact⟨z,its,n,r,k _ _ (.inl rfl) e⟩
 |tup xs=>obtain⟨z,its,r,ob,e,c⟩:=x;exact⟨z,its,r,ob,k _ _ (.inl rfl) e,c⟩
 |dK kvs=>obtain⟨z,y,vs,r,ob,es,ep,e,c⟩:=x;exact⟨z,y,vs,r,ob,es,ep,k _ _ (.inl rfl) e,c⟩
 |dT kvs =>
  obtain⟨z,y,xs,r,ob,es,ep,e,c⟩:=x;exact⟨z,y,xs,Paired.mapP r λ p q z=>⟨z.1,ht _ _ z.2.1,z.2.2⟩,ob,es,ep,k _ _ (.inl rfl) e,c⟩
 |set S n=>obtain⟨ob,es,ep,t,e,c⟩:=x;exact⟨ob,es,ep,t,k _ _ (.inl rfl) e,c⟩
 |ins C dx fs =>
  obtain⟨d,z,ne,e,mA,⟨od,es,ep,e2,c⟩,r⟩:=x;exact⟨ho _ d,z,ne,k _ _ (.inl rfl) e,mA,⟨od,es,ep,k _ _ (.inr d) e2,c⟩,r⟩
 |own y=>obtain⟨ob,e⟩:=x;exact⟨ob,k _ _ (.inl rfl) e⟩
 |xd fs=>obtain⟨mA,⟨od,es,ep,e,c⟩,r⟩:=x;exact⟨mA,⟨od,es,ep,k _ _ (.inl rfl) e,c⟩,r⟩
 |rng lo hi=>obtain⟨t,u,v,e⟩:=x;exact⟨t,u,v,k _ _ (.inl rfl) e⟩
 |frz ob u ih=>obtain⟨e,q⟩:=x;exact⟨k _ _ (.inl rfl) e,ih q⟩
 |tbl ps =>
  have e:h.get? a=some { cls:=.none,data:=.fields ps }:=x;show h'.get? a=some { cls:=.none,data:=.fields ps };exact k a _ (.inl rfl) e
 |met f y =>
  have e:h.get? a=some (methodObj (.ref f) (.ref y)):=x;show h'.get? a=some (methodObj (.ref f) (.ref y));exact k a _ (.inl rfl) e
 |ext φ=>obtain⟨p,⟨o,e⟩,st⟩:=x;exact⟨st _ _ p λ o q=>k _ _ (.inl rfl) q,⟨o,k _ _ (.inl rfl) e⟩,st⟩
theorem HOk.lt(x:HOk P w H h)(e:H a=some o):a<h.objs.size:=(x a o e).lt
theorem HOk.fresh(x:HOk P w H h)(e:h.objs.size<=a):H a=none:=by
 cases q:H a with
 |none=>rfl
 |some u=>exact absurd (Nat.lt_of_lt_of_le (x.lt q) e) (Nat.lt_irrefl _)
theorem HOk.kept(x:HOk P w H h)(k:∀b u,h.get? b=some u->h'.get? b=some u):HOk P w H h':=λ a o e =>
 (x a o e).stay (λ b u _ q=>k b u q) (λ_ q=>q) λ_ _ q=>q
theorem HOk.laid(x:HOk P w H h)(k:∀b u,h.get? b=some u->h'.get? b=some u)(hp:h.objs.size<=a)(new:ObjOk P w (upd H a o) h' a o):HOk P w (upd H a o) h':=λ b u e=>by
 have hn:=x.fresh hp;by_cases hb:b=a
 .subst hb;rw[Ac]at e;cases e;exact new
 .rw[Ai hb]at e;exact(x b u e).stay (λ c v _ q=>k c v q) (λ c q=>by rw[Ai (Ah q hn)];exact q) λ c xs q=>by rw[Ai (Ah q hn)];exact q
end
def Rd(H:Hp)(a:Addr)(u:HO):Prop:=H a=some u\/∃o,H a=some (.frz o u)
theorem Rd.ok{P:Program}{w:World}{H:Hp}{h:Heap}{a:Addr}{u:HO}(r:Rd H a u)(x:HOk P w H h):ObjOk P w H h a u:=by
 rcases r with r|⟨o,r⟩
 .exact x a u r
 .obtain⟨_,q⟩:=x a _ r;exact q
def Mut:Option HO->Prop
 |some (.lst _)=>True
 |some (.dK _)=>True
 |some (.dT _)=>True
 |some (.set _ _)=>True
 |some (.ins _ _ _)=>True
 |some (.ext _)=>True
 |_=>False
section
variable{P:Program}{w:World}{H:Hp}{h h':Heap}{x e:Addr}{o':HO}
theorem HOk.write(ok:HOk P w H h)(mu:Mut (H x))(he:e=x\/H e=some (.own x))(k:∀b u,b≠e->h.get? b=some u->h'.get? b=some u)(heo:∃u,h'.get? e=some u)
  (new:ObjOk P w (upd H x o') h' x o'):HOk P w (upd H x o') h':=λ b u q=>by
 have nown:∀c y,H c=some (.own y)->c≠x:=λ c y r z=>by subst z;rw[r]at mu;exact mu
 have ntup:∀c xs,H c=some (.tup xs)->c≠x:=λ c xs r z=>by subst z;rw[r]at mu;exact mu
 by_cases hb:b=x
 .subst hb;rw[Ac]at q;cases q;exact new
 .rw[Ai hb]at q;by_cases hbe:b=e
  .have q':H b=some (.own x):=by
    rcases he with z|z
    .exact absurd (hbe.trans z) hb
    .rw[hbe];exact z
   rw[q]at q';cases q';obtain⟨v,hv⟩:=heo;exact⟨v,by rw[hbe];exact hv⟩
  .refine(ok b u q).stay (λ c v hc r=>k c v ?_ r) (λ c r=>by rw[Ai (nown c b r)];exact r) λ c xs r=>by rw[Ai (ntup c xs r)];exact r
   rcases hc with rfl|hc
   .exact hbe
   .rintro rfl;rcases he with z|z
    .exact nown c b hc z
    .rw[hc]at z;cases z;exact hb rfl
end
structure Un(fs ex:List Addr)(H H':Hp)(h h':Heap):Prop where
 keep:∀b o,h.get? b=some o->H b=none->b∉fs->b∉ex->h'.get? b=some o
 slot:∀b o,h.get? b=some o->H b=none->b∈fs->b∉ex->∃sl,h'.get? b=some { o with slots:=sl }
 free:∀b o,h.get? b=some o->H b=none->b∉ex->H' b=none
 there:∀b o,h.get? b=some o->b∉ex->∃o',h'.get? b=some o'
 tups:∀b xs,H b=some (.tup xs)->H' b=some (.tup xs)
 frzs:∀b o u,H b=some (.frz o u)->H' b=some (.frz o u)
 tbls:∀b ps,H b=some (.tbl ps)->∃more,H' b=some (.tbl (ps++more))
section
variable{fs fs' ex ex':List Addr}{H H1 H2:Hp}{h h1 h2 h':Heap}{a x e:Addr}{o:HO}
theorem Un.any(u:Un fs ex H H1 h h1){b:Addr}{ob:Obj}(q:h.get? b=some ob)(n:H b=none)(hx:b∉ex):∃sl,h1.get? b=some { ob with slots:=sl }:=by
 by_cases hb:b∈fs
 .exact u.slot b ob q n hb hx
 .exact⟨ob.slots,u.keep b ob q n hb hx⟩
theorem Un.kept(k:∀b u,h.get? b=some u->h'.get? b=some u):Un fs ex H H h h' :=
 ⟨λ b ob q _ _ _=>k b ob q,λ b ob q _ _ _=>⟨ob.slots,k b ob q⟩,λ_ _ _ n _=>n,λ b ob q _=>⟨ob,k b ob q⟩,λ_ _ q=>q,λ_ _ _ q=>q,λ_ ps q=>⟨#[],by rw[q];simp⟩⟩
theorem Un.refl:Un fs ex H H h h:=Un.kept λ_ _ q=>q
theorem Un.laid(k:∀b u,h.get? b=some u->h'.get? b=some u)(hp:h.objs.size<=a)(hn:H a=none):Un fs ex H (upd H a o) h h' where
 keep:=λ b u q _ _ _=>k b u q
 slot:=λ b u q _ _ _=>⟨u.slots,k b u q⟩
 free:=λ b u q n _=>by rw[Ai (Nat.ne_of_lt (Nat.lt_of_lt_of_le (Heap.lt_size q) hp))];exact n
 there:=λ b u q _=>⟨u,k b u q⟩
 tups:=λ b xs q=>by rw[Ai (Ah q hn)];exact q
 frzs:=λ b u xs q=>by rw[Ai (Ah q hn)];exact q
 tbls:=λ b ps q=>⟨#[],by rw[Ai (Ah q hn),q];simp⟩
theorem Un.write(mu:Mut (H x))(he:e=x\/H e=some (.own x))(k:∀b u,b≠e->h.get? b=some u->h'.get? b=some u)(heo:∃u,h'.get? e=some u):Un fs ex H (upd H x o) h h':=by
 have hx:∀b,H b=none->b≠x:=λ b n z=>by subst z;rw[n]at mu;exact mu
 have hb:∀b,H b=none->b≠e:=λ b n z=>by
  subst z;rcases he with r|r
  .exact hx b n r
  .rw[n]at r;cases r
 have hm:∀b u,H b=some u->¬Mut (some u)->b≠x:=λ b u q nm z=>by subst z;rw[q]at mu;exact nm mu
 refine⟨λ b u q n _ _=>k b u (hb b n) q,λ b u q n _ _=>⟨u.slots,k b u (hb b n) q⟩,λ b u q n _=>by rw[Ai (hx b n)];exact n,λ b u q _=>?_,
  λ b xs q=>by rw[Ai (hm b _ q λ z=>z)];exact q,λ b u xs q=>by rw[Ai (hm b _ q λ z=>z)];exact q,λ b ps q=>⟨#[],by rw[Ai (hm b _ q λ z=>z),q];simp⟩⟩
 by_cases hbe:b=e
 .subst hbe;exact heo
 .exact⟨u,k b u hbe q⟩
end
def trk(h:Heap)(H:Hp):List Addr:=(List.range h.objs.size).filter λ a=>(H a).isSome
def JW(h:Heap)(H:Hp):Heap:=hideAll h (trk h H)
theorem O0(h:Heap)(H:Hp):(JW h H).objs.size=h.objs.size:=hideAll_size _ _
theorem PL{h:Heap}{H:Hp}{b:Addr}{o:Obj}(e:h.get? b=some o)(n:H b=none):(JW h H).get? b=some o :=
 hideAll_get _ e λ hm=>by
  have q:(H b).isSome=true:=(List.mem_filter.mp hm).2;rw[n]at q;simp at q
theorem QQ{h:Heap}{H:Hp}{b:Addr}{o:Obj}(e:(JW h H).get? b=some o):h.get? b=some o/\H b=none:=by
 have e':h.get? b=some o:=of_hideAll (trk h H) e;refine⟨e',?_⟩;cases q:H b with
 |none=>rfl
 |some x =>
  have hm:b∈trk h H:=List.mem_filter.mpr ⟨List.mem_range.mpr (Heap.lt_size e'),by simp[q]⟩;have z:(JW h H).get? b=none:=hideAll_none (trk h H) hm;rw[z]at e;cases e
structure Mod(K:Frag)(mg:MGz)(base:Heap):Prop where
 kin:K.In base
 glob:base.Ns mainGlobals mg
 blt:∃mb,base.Ns builtinsNs mb/\∀x:Str,x≠"__name__"->mb x=bootBuiltins x
 nolimit:base.NoLimit
structure Cx where
 prog:Program
 w:World
 K:Frag
 mg:MGz
 base:Heap
 A:Around
 N:LSz
 s₀:Shared
 H₀:Hp
 env:Env
 outer:List Env
 stack:List Env
 ex:List Addr
 fn:Str->Bool
 calm:Bool
 pn:PNz
 xe:VPz
def frs(l:List Env):List Addr:=l.filterMap (·.frame)
abbrev Cx.fs(X:Cx):List Addr:=frs X.outer
def Vis(sc:Scope)(x:Str):Prop:=sc.names.lookup x=some .local\/sc.names.lookup x=some .cell\/sc.names.lookup x=some .free
def Loc(sc:Scope)(x:Str):Prop:=sc.names.lookup x=some .local\/sc.names.lookup x=some .cell
def UX(env:Env)(h:Heap)(m:MGz)(x:Str)(u:Value):Prop :=
 (env.kindOf x=some .local/\m x=some u)\/((env.kindOf x=some .cell\/env.kindOf x=some .free)/\∃c,env.cells.lookup x=some c/\h.IsCell c (some u))
structure Cx.Ok(X:Cx):Prop where
 mod:Mod X.K X.mg X.base
 kind:X.env.scope.kind=.function
 glob:X.env.globals=mainGlobals
 blt:X.env.builtins=builtinsNs
 above:X.s₀.heap.objs.size<=X.env.locals
 inj:∀x y c,X.env.cells.lookup x=some c->X.env.cells.lookup y=some c->x=y
 has:∀x,(X.env.kindOf x=some .cell\/X.env.kindOf x=some .free)->∃c,X.env.cells.lookup x=some c
 cab:∀x c,X.fn x=true->X.env.cells.lookup x=some c->X.s₀.heap.objs.size<=c
 hd:X.calm=true->X.A.handled=none
 frames:X.A.frames=some X.stack
 stk:X.stack=X.outer\/(X.stack=X.env::X.outer/\X.env.frame=some X.env.locals)
 exf:∀b∈X.ex,b≠X.env.locals/\∀x c,X.env.cells.lookup x=some c->c≠b
 bs:∀b o,X.base.get? b=some o->X.s₀.heap.get? b=some o/\X.H₀ b=none
 bsz:X.base.objs.size<=X.s₀.heap.objs.size
 noex:∀b o,X.base.get? b=some o->b∉X.ex
 exfs:∀b∈X.ex,b∉X.fs
 funs:X.s₀.heap.FunFrames X.base X.outer
 frf:∀b∈X.fs,X.H₀ b=none
structure Inv(X:Cx)(pins:PNz)(σ:List (Option V))(H:Hp)(s:Shared):Prop where
 ok:X.Ok
 os:s.os=X.s₀.os
 bare:AllBare s.gens
 base:Un X.fs X.ex X.H₀ H X.s₀.heap s.heap
 loc:∃m,s.heap.Ns X.env.locals m/\∀(i:Nat)(x:Str)(v:V),X.N[i]?=some x->σ[i]?=some (some v)->Vis X.env.scope x->∃u,RelV v u/\UX X.env s.heap m x u
 cell:∀x c,X.env.cells.lookup x=some c->∃v,s.heap.IsCell c v
 free:H X.env.locals=none
 freeC:∀x c,X.env.cells.lookup x=some c->H c=none
 pin:∀p∈X.pn++pins,s.heap.get? p.1=some p.2/\H p.1=none/\p.1≠X.env.locals/\p.1∉X.fs/\∀v,p.2.data≠.cell v
 hok:HOk X.prog X.w H s.heap
 len:σ.length=X.N.length
section
variable{X:Cx}{pins:PNz}{σ:List (Option V)}{H H':Hp}{s:Shared}{h':Heap}
theorem Cx.Ok.nofr(ok:X.Ok){b:Addr}{o:Obj}(e:X.base.get? b=some o):b∉X.fs:=λ hb=>by
 have:=(ok.funs.mem hb).1;rw[e]at this;cases this
theorem Inv.bs(I:Inv X pins σ H s):∀b o,X.base.get? b=some o->s.heap.get? b=some o/\H b=none:=λ b o e =>
 ⟨I.base.keep b o (I.ok.bs b o e).1 (I.ok.bs b o e).2 (I.ok.nofr e) (I.ok.noex b o e),I.base.free b o (I.ok.bs b o e).1 (I.ok.bs b o e).2 (I.ok.noex b o e)⟩
theorem Inv.bk(I:Inv X pins σ H s):∀b o,X.base.get? b=some o->s.heap.get? b=some o:=λ b o e=>(I.bs b o e).1
theorem Inv.mod(I:Inv X pins σ H s):Mod X.K X.mg X.base:=I.ok.mod
theorem Inv.kIn(I:Inv X pins σ H s):X.K.In s.heap:=I.ok.mod.kin.keeps I.bk
theorem Inv.lt(I:Inv X pins σ H s):X.env.locals<s.heap.objs.size:=let ⟨_,hn,_⟩:=I.loc;hn.lt
theorem Inv.sz(I:Inv X pins σ H s):X.s₀.heap.objs.size<=s.heap.objs.size:=Nat.le_trans I.ok.above (Nat.le_of_lt I.lt)
theorem Inv.nofs(I:Inv X pins σ H s){a:Addr}(h:s.heap.objs.size<=a):a∉X.fs:=λ hb=>by
 obtain⟨_,o,ho,_⟩:=I.ok.funs.mem hb;exact absurd (Nat.lt_of_lt_of_le (Heap.lt_size ho) (Nat.le_trans I.sz h)) (Nat.lt_irrefl _)
theorem Inv.cne(I:Inv X pins σ H s):∀x c,X.env.cells.lookup x=some c->c≠X.env.locals:=λ x c e z=>by
 obtain⟨v,o,ho,hd⟩:=I.cell x c e;obtain⟨m,⟨o',es,ep,ho',hd',_⟩,_⟩:=I.loc;rw[z,ho']at ho;cases ho;rw[hd']at hd;cases hd
theorem Inv.funs(I:Inv X pins σ H s):s.heap.FunFrames X.base X.outer:=by
 have all:∀(l:List Env),(∀b∈frs l,b∈X.fs)->X.s₀.heap.FunFrames X.base l->s.heap.FunFrames X.base l:=by
  intro l
  induction l with
  |nil=>intro _ _;trivial
  |cons env r ih =>
   intro hs hl;obtain⟨hk,⟨L,o,hf,hn,ho,hd⟩,hr⟩:=hl;have hL:L∈X.fs:=hs L (by unfold frs;rw[List.filterMap_cons,hf];exact List.mem_cons_self);obtain⟨sl,e⟩:=I.base.slot L o ho (I.ok.frf L hL) hL λ z=>I.ok.exfs L z hL;exact⟨hk,⟨L,_,hf,hn,e,hd⟩,ih (λ b hb=>hs b (by unfold frs;rw[List.filterMap_cons,hf];exact List.mem_cons_of_mem _ hb)) hr⟩
 exact all X.outer (λ_ hb=>hb) I.ok.funs
theorem Inv.stack(I:Inv X pins σ H s):s.heap.FunFrames X.base X.stack:=by
 rcases I.ok.stk with e|⟨e,hf⟩
 .rw[e];exact I.funs
 .rw[e];obtain⟨m,hn,_⟩:=I.loc;refine .cons (by rw[I.ok.kind];decide) hf hn ?_ I.funs;exact Heap.get?_none_of_le (Nat.le_trans I.ok.bsz I.ok.above)
theorem Inv.stkSub(I:Inv X pins σ H s):∀b∈frs X.stack,b∈X.env.locals::X.fs:=λ b hb=>by
 rcases I.ok.stk with e|⟨e,hf⟩
 .rw[e]at hb;exact List.mem_cons_of_mem _ hb
 .rw[e]at hb;unfold frs at hb;rw[List.filterMap_cons,hf]at hb;exact hb
theorem Inv.stkFree(I:Inv X pins σ H s):∀b∈frs X.stack,H b=none:=λ b hb=>by
 rcases List.mem_cons.mp (I.stkSub b hb) with e|hb
 .rw[e];exact I.free
 .obtain⟨_,o,ho,_⟩:=I.ok.funs.mem hb;exact I.base.free b o ho (I.ok.frf b hb) λ z=>I.ok.exfs b z hb
theorem Inv.step{g':Array GenState}{t':Nat}{d':Drawn}{ch:List Addr}(I:Inv X pins σ H s)
  (hch:∀b∈ch,(b∈X.ex\/X.s₀.heap.objs.size<=b)/\b≠X.env.locals/\(∀x c,X.env.cells.lookup x=some c->c≠b)/\∀p∈X.pn++pins,p.1≠b)
  (keep:∀b o,b≠X.env.locals->b∉X.fs->b∉ch->s.heap.get? b=some o->H b=none->h'.get? b=some o)
  (slot:∀b o,b≠X.env.locals->b∈X.fs->b∉ch->s.heap.get? b=some o->H b=none->∃sl,h'.get? b=some { o with slots:=sl }) (free:∀b o,b∉ch->s.heap.get? b=some o->H b=none->H' b=none)
  (there:∀b o,b∉ch->s.heap.get? b=some o->∃o',h'.get? b=some o')
  (tups:∀b xs,H b=some (.tup xs)->H' b=some (.tup xs)) (frzs:∀b o u,H b=some (.frz o u)->H' b=some (.frz o u)) (tbls:∀b ps,H b=some (.tbl ps)->∃more,H' b=some (.tbl (ps++more)))
  (ns:∀m,s.heap.Ns X.env.locals m->h'.Ns X.env.locals m) (hok:HOk X.prog X.w H' h') (hg:AllBare g') :
  Inv X pins σ H' { s with heap:=h',gens:=g',drawn:=d',toks:=t' }:=by
 have neL:∀b o,X.s₀.heap.get? b=some o->b≠X.env.locals:=λ b o e=>Nat.ne_of_lt (Nat.lt_of_lt_of_le (Heap.lt_size e) I.ok.above);have neC:∀b o,X.s₀.heap.get? b=some o->b∉X.ex->b∉ch:=λ b o e hx hb=>by
  rcases(hch b hb).1 with z|z
  .exact hx z
  .exact absurd (Nat.lt_of_lt_of_le (Heap.lt_size e) z) (Nat.lt_irrefl _)
 have cellK:∀x c,X.env.cells.lookup x=some c->∀v,s.heap.IsCell c v->h'.IsCell c v:=λ x c e v ⟨o,ho,hd⟩=>by
  have nch:c∉ch:=λ z=>(hch c z).2.2.1 x c e rfl;by_cases hc:c∈X.fs
  .obtain⟨sl,q⟩:=slot c o (I.cne x c e) hc nch ho (I.freeC x c e);exact⟨_,q,hd⟩
  .exact⟨o,keep c o (I.cne x c e) hc nch ho (I.freeC x c e),hd⟩
 refine⟨I.ok,I.os,hg,⟨λ b o e n hb hx=>?_,λ b o e n hb hx=>?_,λ b o e n hx=>?_,λ b o e hx=>?_,λ b xs e=>tups b xs (I.base.tups b xs e),λ b o xs e=>frzs b o xs (I.base.frzs b o xs e),λ b ps e=>?_⟩,?_,λ x c e=>?_,?_,λ x c e=>?_,λ p hp=>?_,hok,I.len⟩
 .exact keep b o (neL b o e) hb (neC b o e hx) (I.base.keep b o e n hb hx) (I.base.free b o e n hx)
 .obtain⟨sl,e1⟩:=I.base.slot b o e n hb hx;obtain⟨sl',e2⟩:=slot b _ (neL b o e) hb (neC b o e hx) e1 (I.base.free b o e n hx);exact⟨sl',e2⟩
 .obtain⟨o',e1⟩:=I.base.there b o e hx;exact free b o' (neC b o e hx) e1 (I.base.free b o e n hx)
 .obtain⟨o',e1⟩:=I.base.there b o e hx;exact there b o' (neC b o e hx) e1
 .obtain⟨m1,e1⟩:=I.base.tbls b ps e;obtain⟨m2,e2⟩:=tbls b _ e1;exact⟨m1++m2,by rw[e2,Array.append_assoc]⟩
 .obtain⟨m,hn,hl⟩:=I.loc;refine⟨m,ns m hn,λ i x v e1 e2 e3=>?_⟩;obtain⟨u,r,l⟩:=hl i x v e1 e2 e3;refine⟨u,r,?_⟩;rcases l with l|⟨k,c,e,z⟩
  .exact .inl l
  .exact .inr ⟨k,c,e,cellK x c e _ z⟩
 .obtain⟨v,z⟩:=I.cell x c e;exact⟨v,cellK x c e v z⟩
 .obtain⟨m,⟨o,_,_,ho,_⟩,_⟩:=I.loc;exact free _ o (λ z=>(hch _ z).2.1 rfl) ho I.free
 .obtain⟨v,o,ho,hd⟩:=I.cell x c e;exact free c o (λ z=>(hch c z).2.2.1 x c e rfl) ho (I.freeC x c e)
 .obtain⟨e,n,ne,nf,d⟩:=I.pin p hp;have nch:p.1∉ch:=λ z=>(hch p.1 z).2.2.2 p hp rfl;exact⟨keep p.1 p.2 ne nf nch e n,free p.1 p.2 nch e n,ne,nf,d⟩
theorem Inv.un{t':Nat}(I:Inv X pins σ H s)(u:Un X.fs [] H H' s.heap h')(hok:HOk X.prog X.w H' h'):Inv X pins σ H' { s with heap:=h',toks:=t' }:=by
 obtain⟨m,⟨o,es,ep,ho,r⟩,_⟩:=id I.loc;obtain⟨sl,hL⟩:=u.any ho I.free (by simp);exact I.step (g':=s.gens) (d':=s.drawn) (ch:=[]) (λ_ z=>nomatch z) (λ b o _ hb _ e n=>u.keep b o e n hb (by simp)) (λ b o _ hb _ e n=>u.slot b o e n hb (by simp)) (λ b o _ e n=>u.free b o e n (by simp)) (λ b o _ e=>u.there b o e (by simp)) u.tups u.frzs u.tbls (λ m' hm=>by
  obtain⟨o',es',ep',ho',r'⟩:=hm;rw[ho]at ho';cases ho';exact⟨_,es',ep',hL,r'⟩) hok I.bare
theorem Inv.call{g':Array GenState}{t':Nat}{d':Drawn}{ch:List Addr}(I:Inv X pins σ H s)(u:Un (frs X.stack) ch H H' s.heap h')(hok:HOk X.prog X.w H' h')(hg:AllBare g')
  (hch:∀b∈ch,(b∈X.ex\/X.s₀.heap.objs.size<=b)/\b≠X.env.locals/\(∀x c,X.env.cells.lookup x=some c->c≠b)/\∀p∈X.pn++pins,p.1≠b) :
  Inv X pins σ H' { s with heap:=h',gens:=g',drawn:=d',toks:=t' }:=by
 obtain⟨m,⟨o,es,ep,ho,r⟩,_⟩:=id I.loc;obtain⟨sl,hL⟩:=u.any ho I.free λ z=>(hch _ z).2.1 rfl;exact I.step (ch:=ch) hch (λ b o hL hb hc e n=>u.keep b o e n (λ z=>(List.mem_cons.mp (I.stkSub b z)).elim hL hb) hc) (λ b o _ _ hc e n=>u.any e n hc) (λ b o hc e n=>u.free b o e n hc) (λ b o hc e=>u.there b o e hc) u.tups u.frzs u.tbls (λ m' hm=>by
  obtain⟨o',es',ep',ho',r'⟩:=hm;rw[ho]at ho';cases ho';exact⟨_,es',ep',hL,r'⟩) hok hg
theorem Inv.turned{t':Nat}{it:Addr}(I:Inv X pins σ H s)(k:∀b o,b≠it->s.heap.get? b=some o->h'.get? b=some o)(hn:H it=none)(hL:it≠X.env.locals)
  (h1:it∈X.ex\/X.s₀.heap.objs.size<=it) (h2:∀x c,X.env.cells.lookup x=some c->c≠it) (h3:∀p∈X.pn++pins,p.1≠it):Inv X pins σ H { s with heap:=h',toks:=t' }:=by
 have nit:∀b u,H b=some u->b≠it:=λ b u e z=>by rw[z,hn]at e;cases e
 refine I.step (g':=s.gens) (d':=s.drawn) (ch:=[it]) (λ b hb=>?_) (λ b o _ _ hc e _=>k b o (λ z=>hc (by simp[z])) e) (λ b o _ _ hc e _=>⟨o.slots,k b o (λ z=>hc (by simp[z])) e⟩) (λ_ _ _ _ n=>n)
  (λ b o hc e=>⟨o,k b o (λ z=>hc (by simp[z])) e⟩) (λ_ _ e=>e) (λ_ _ _ e=>e) (λ b ps e=>⟨#[],by rw[e];simp⟩) (λ m hm=>?_) (λ b u e=>?_) I.bare
 .have e:b=it:=by simpa using hb
  subst e;exact⟨h1,hL,h2,h3⟩
 .obtain⟨o,es,ep,ho,r⟩:=hm;exact⟨o,es,ep,k _ o (Ne.symm hL) ho,r⟩
 .refine(I.hok b u e).stay (λ c v hc q=>k c v ?_ q) (λ_ q=>q) λ_ _ q=>q;rcases hc with z|z
  .rw[z];exact nit b u e
  .exact nit c _ z
theorem Inv.tok(I:Inv X pins σ H s)(t:Nat):Inv X pins σ H { s with toks:=t }:=I.un (h':=s.heap) (t':=t) Un.refl I.hok
theorem Inv.kept{t':Nat}(I:Inv X pins σ H s)(k:∀b u,s.heap.get? b=some u->h'.get? b=some u):Inv X pins σ H { s with heap:=h',toks:=t' }:=I.un (Un.kept k) (I.hok.kept k)
theorem Inv.laid{a:Addr}{o:HO}{t':Nat}(I:Inv X pins σ H s)(k:∀b u,s.heap.get? b=some u->h'.get? b=some u)(hp:s.heap.objs.size<=a)(new:ObjOk X.prog X.w (upd H a o) h' a o) :
  Inv X pins σ (upd H a o) { s with heap:=h',toks:=t' }:=I.un (Un.laid k hp (I.hok.fresh hp)) (I.hok.laid k hp new)
theorem Inv.write{x e:Addr}{o:HO}{t':Nat}(I:Inv X pins σ H s)(mu:Mut (H x))(he:e=x\/H e=some (.own x))(k:∀b u,b≠e->s.heap.get? b=some u->h'.get? b=some u)(heo:∃u,h'.get? e=some u)
  (new:ObjOk X.prog X.w (upd H x o) h' x o):Inv X pins σ (upd H x o) { s with heap:=h',toks:=t' }:=I.un (Un.write mu he k heo) (I.hok.write mu he k heo new)
theorem Inv.pins_of{pins':PNz}(I:Inv X pins σ H s)(h:∀p∈pins',s.heap.get? p.1=some p.2/\H p.1=none/\p.1≠X.env.locals/\p.1∉X.fs/\∀v,p.2.data≠.cell v):Inv X pins' σ H s :=
 ⟨I.ok,I.os,I.bare,I.base,I.loc,I.cell,I.free,I.freeC,λ p hp=>(List.mem_append.mp hp).elim (λ z=>I.pin p (List.mem_append_left _ z)) (h p),I.hok,I.len⟩
theorem Ha{N:LSz}(hN:N.Nodup){i j:Nat}{x:Str}(a:N[i]?=some x)(b:N[j]?=some x):i=j:=by
 obtain⟨h1,e1⟩:=List.getElem?_eq_some_iff.mp a;obtain⟨h2,e2⟩:=List.getElem?_eq_some_iff.mp b;exact(List.getElem_inj hN).mp (e1.trans e2.symm)
theorem NW{M:Model}{A:Around}{E:VPz}{i:Nat}{x:Str}{v:V}{u:Value}{Q:Unit->Shared->Prop}(I:Inv X pins σ H s)(hN:X.N.Nodup)(hi:X.N[i]?=some x)(hx:Loc X.env.scope x)(r:RelV v u)
  (h:∀s',Inv X pins (σ.set i (some v)) H s'->(∃a,Heap.SameBut a s.heap s'.heap/\(a=X.env.locals\/X.env.cells.lookup x=some a))->Q () s') (hf:X.fn x=true\/X.env.scope.names.lookup x=some .local:=by first|exact .inl rfl|exact .inr rfl|assumption):wpAny M A (storeName X.env x u) Q E s:=by
 obtain⟨m,hn,hl⟩:=id I.loc;have hcls:(X.env.scope.kind==.class||(X.env.scope.kind==.module&&X.env.locals != X.env.globals))=false:=by rw[I.ok.kind];rfl
 have hiσ:i<σ.length:=by rw[I.len];exact(List.getElem?_eq_some_iff.mp hi).1
 have cne:=I.cne;have tracked:∀{a:Addr}{h':Heap},(∃o,s.heap.get? a=some o/\H a=none)->Heap.SameBut a s.heap h'->HOk X.prog X.w H h':=λ{a h'} ha hs b ob e=>by
  obtain⟨_,_,hfree⟩:=ha;refine(I.hok b ob e).stay (λ c w' hc q=>(hs.2 c ?_).trans q) (λ_ q=>q) λ_ _ q=>q;rintro rfl;rcases hc with rfl|hc
  .rw[hfree]at e;cases e
  .rw[hfree]at hc;cases hc
 rcases hx with hk|hk
 .refine wpAny_storeName_local hk hn (λ h' hn' hs=>?_) hcls;obtain⟨oL,_,_,hoL,_⟩:=id hn;refine h _ ⟨I.ok,I.os,I.bare,⟨λ b o e n hb hx=>?_,λ b o e n hb hx=>?_,I.base.free,λ b o e hx=>?_,I.base.tups,I.base.frzs,I.base.tbls⟩,⟨_,hn',λ j y v' e1 e2 e3=>?_⟩,λ y c e=>?_,I.free,I.freeC,λ p hp=>?_,tracked ⟨oL,hoL,I.free⟩ hs,by simpa using I.len⟩ ⟨_,hs,.inl rfl⟩
  .exact(hs.2 b (Nat.ne_of_lt (Nat.lt_of_lt_of_le (Heap.lt_size e) I.ok.above))).trans (I.base.keep b o e n hb hx)
  .obtain⟨sl,e1⟩:=I.base.slot b o e n hb hx;exact⟨sl,(hs.2 b (Nat.ne_of_lt (Nat.lt_of_lt_of_le (Heap.lt_size e) I.ok.above))).trans e1⟩
  .obtain⟨o',e1⟩:=I.base.there b o e hx;exact⟨o',(hs.2 b (Nat.ne_of_lt (Nat.lt_of_lt_of_le (Heap.lt_size e) I.ok.above))).trans e1⟩
  .by_cases hj:j=i
   .subst hj;rw[hi]at e1;cases e1;rw[List.getElem?_set_self hiσ]at e2;cases e2;exact⟨u,r,.inl ⟨hk,by simp⟩⟩
   .rw[List.getElem?_set_ne (Ne.symm hj)]at e2;obtain⟨u',r',q⟩:=hl j y v' e1 e2 e3;refine⟨u',r',?_⟩;rcases q with ⟨k,e⟩|⟨k,c,e,z⟩
    .refine .inl ⟨k,?_⟩;have:y≠x:=λ e=>hj (Ha hN e1 (e ▸ hi));simp[this,e]
    .exact .inr ⟨k,c,e,z.sameBut hs (cne y c e)⟩
  .obtain⟨w',z⟩:=I.cell y c e;exact⟨w',z.sameBut hs (cne y c e)⟩
  .obtain⟨e,n,ne,nf,d⟩:=I.pin p hp;exact⟨(hs.2 p.1 ne).trans e,n,ne,nf,d⟩
 .have hfn:X.fn x=true:=by
   rcases hf with z|z
   .exact z
   .rw[z]at hk;cases hk
  obtain⟨c,hc⟩:=I.ok.has x (.inl hk);obtain⟨w',z⟩:=I.cell x c hc;refine wpAny_storeName_cell I.ok.kind hk hc z (λ h' hc' hs=>?_);obtain⟨oc,hoc,hocd⟩:=id z;refine h { s with heap:=h' } ⟨I.ok,I.os,I.bare,⟨λ b o e n hb hx=>?_,λ b o e n hb hx=>?_,I.base.free,λ b o e hx=>?_,I.base.tups,I.base.frzs,I.base.tbls⟩,⟨m,hn.sameBut hs (Ne.symm (cne x c hc)),λ j y v' e1 e2 e3=>?_⟩,λ y c' e=>?_,I.free,I.freeC,λ p hp=>?_,tracked ⟨oc,hoc,I.freeC x c hc⟩ hs,by simpa using I.len⟩ ⟨c,hs,.inr hc⟩
  .exact(hs.2 b (Nat.ne_of_lt (Nat.lt_of_lt_of_le (Heap.lt_size e) (I.ok.cab x c hfn hc)))).trans (I.base.keep b o e n hb hx)
  .obtain⟨sl,e1⟩:=I.base.slot b o e n hb hx;exact⟨sl,(hs.2 b (Nat.ne_of_lt (Nat.lt_of_lt_of_le (Heap.lt_size e) (I.ok.cab x c hfn hc)))).trans e1⟩
  .obtain⟨o',e1⟩:=I.base.there b o e hx;exact⟨o',(hs.2 b (Nat.ne_of_lt (Nat.lt_of_lt_of_le (Heap.lt_size e) (I.ok.cab x c hfn hc)))).trans e1⟩
  .by_cases hj:j=i
   .subst hj;rw[hi]at e1;cases e1;rw[List.getElem?_set_self hiσ]at e2;cases e2;exact⟨u,r,.inr ⟨.inl hk,c,hc,hc'⟩⟩
   .rw[List.getElem?_set_ne (Ne.symm hj)]at e2;obtain⟨u',r',q⟩:=hl j y v' e1 e2 e3;refine⟨u',r',?_⟩;rcases q with q|⟨k,c',e,z'⟩
    .exact .inl q
    .refine .inr ⟨k,c',e,z'.sameBut hs ?_⟩;rintro rfl;exact hj (Ha hN e1 (I.ok.inj _ _ _ e hc ▸ hi))
  .by_cases hcc:c'=c
   .subst hcc;exact⟨_,hc'⟩
   .obtain⟨w2,z2⟩:=I.cell y c' e;exact⟨w2,z2.sameBut hs hcc⟩
  .obtain⟨e,n,ne,nf,d⟩:=I.pin p hp;refine⟨(hs.2 p.1 ?_).trans e,n,ne,nf,d⟩;intro q;rw[q,hoc]at e;have q':oc=p.2:=Option.some.inj e;exact d w' (by rw[<-q'];exact hocd)
theorem G3{M:Model}{A:Around}{E:VPz}{i:Nat}{x:Str}{v:V}{u:Value}{Q:Unit->Shared->Prop}(I:Inv X pins σ H s)(hN:X.N.Nodup)(hi:X.N[i]?=some x)(hx:Loc X.env.scope x)(r:RelV v u)
  (h:∀s',Inv X pins (σ.set i (some v)) H s'->Q () s') (hf:X.fn x=true\/X.env.scope.names.lookup x=some .local:=by first|exact .inl rfl|exact .inr rfl|assumption):wpAny M A (storeName X.env x u) Q E s :=
 NW I hN hi hx r (λ s' I' _=>h s' I') hf
theorem Inv.call'{s':Shared}{ch:List Addr}(I:Inv X pins σ H s)(ho:s'.os=s.os)(u:Un (frs X.stack) ch H H' s.heap s'.heap)(hok:HOk X.prog X.w H' s'.heap)(hg:AllBare s'.gens)
  (hch:∀b∈ch,(b∈X.ex\/X.s₀.heap.objs.size<=b)/\b≠X.env.locals/\(∀x c,X.env.cells.lookup x=some c->c≠b)/\∀p∈X.pn++pins,p.1≠b):Inv X pins σ H' s':=by
 obtain⟨h',g',d',t',o'⟩:=s';have e:o'=s.os:=ho;subst e;exact I.call (g':=g') (t':=t') (d':=d') u hok hg hch
end
abbrev XK:=Value->Option Addr->Hp->Prop
abbrev St:=List (Option V)
abbrev VK:=V->Hp->Prop
abbrev TE:=St->Hp->VK->Prop
abbrev TT:=St->Hp->(Bool->Hp->Prop)->Prop
abbrev TA:=St->Hp->(LUz->Hp->Prop)->Prop
structure Eb where
 nx:St->Hp->Prop
 rt:VK
 bk:St->Hp->Prop:=λ_ _=>False
 ct:St->Hp->Prop:=λ_ _=>False
abbrev TS:=Eb->St->Hp->Prop
def EP(X:Cx)(pins:PNz)(σ:St)(Q:VK)(u:Value)(s':Shared):Prop:=∃v H',Inv X pins σ H' s'/\RelV v u/\Q v H'
def TP(X:Cx)(pins:PNz)(σ:St)(Q:Bool->Hp->Prop)(b:Bool)(s':Shared):Prop:=∃H',Inv X pins σ H' s'/\Q b H'
def AP(X:Cx)(pins:PNz)(σ:St)(Q:LUz->Hp->Prop)(us:LWz)(s':Shared):Prop:=∃vs H',Inv X pins σ H' s'/\Vals vs us/\Q vs H'
def SP(X:Cx)(pins:PNz)(D:Eb)(f:Flow)(s':Shared):Prop :=
 match f with
 |.next=>∃σ' H',Inv X pins σ' H' s'/\D.nx σ' H'
 |.brk=>∃σ' H',Inv X pins σ' H' s'/\D.bk σ' H'
 |.cont=>∃σ' H',Inv X pins σ' H' s'/\D.ct σ' H'
 |.ret u=>∃v σ' H',Inv X pins σ' H' s'/\RelV v u/\D.rt v H'
def PE(X:Cx)(e:Expr)(t:TE):Prop :=
 ∀(pins:PNz)(s:Shared)(σ:St)(H:Hp)(Q:VK),Inv X pins σ H s->t σ H Q->wpAny (model X.prog X.w) X.A (eval e X.env) (EP X pins σ Q) X.xe s
def PT(X:Cx)(e:Expr)(t:TT):Prop :=
 ∀(pins:PNz)(s:Shared)(σ:St)(H:Hp)(Q:Bool->Hp->Prop),Inv X pins σ H s->t σ H Q->wpAny (model X.prog X.w) X.A (isTrue e X.env (eval e X.env)) (TP X pins σ Q) X.xe s
def PW(X:Cx)(e:Expr)(t:TT):Prop :=
 ∀(whole:Sem Value)(pins:PNz)(s:Shared)(σ:St)(H:Hp)(Q:Bool->Hp->Prop),Inv X pins σ H s->t σ H Q->wpAny (model X.prog X.w) X.A (isTrue e X.env whole) (TP X pins σ Q) X.xe s
theorem PW.pt{X:Cx}{e:Expr}{t:TT}(h:PW X e t):PT X e t:=h _
def PA(X:Cx)(es:List Expr)(t:TA):Prop :=
 ∀(pos:Pos)(pins:PNz)(s:Shared)(σ:St)(H:Hp)(Q:LUz->Hp->Prop),Inv X pins σ H s->t σ H Q->wpAny (model X.prog X.w) X.A (spliced (backTo pos (starEach es X.env))) (AP X pins σ Q) X.xe s
def PS(X:Cx)(st:Stmt)(t:TS):Prop :=
 ∀(pins:PNz)(s:Shared)(σ:St)(H:Hp)(D:Eb),Inv X pins σ H s->t D σ H->wpAny (model X.prog X.w) X.A (exec st X.env) (SP X pins D) X.xe s
def PSs(X:Cx)(st:List Stmt)(t:TS):Prop :=
 ∀(pins:PNz)(s:Shared)(σ:St)(H:Hp)(D:Eb),Inv X pins σ H s->t D σ H->wpAny (model X.prog X.w) X.A (execs st X.env) (SP X pins D) X.xe s
theorem thn{α:Type}{t:Sem α}{Q Q':α->Shared->Prop}{M:Model}{A:Around}{E:VPz}{s:Shared}(h:wpAny M A t Q E s)(hQ:∀a s,Q a s->Q' a s):wpAny M A t Q' E s:=wpAny_mono h hQ λ_ _ x=>x
section
variable{X:Cx}
inductive Up(i:Nat)(σ:St)(H:Hp)(Q:VK):Prop
 |mk (v:V) (e:σ[i]?=some (some v)) (q:Q v H):Up i σ H Q
def HV(i:Nat):TE:=λ σ H Q=>Up i σ H Q
inductive IBl(x:V)(Q:Bool->Prop):Prop
 |mk (c:Bool) (e:x=.bl c) (q:Q c):IBl x Q
def tC(v:V):TE:=λ_ H Q=>Q v H
theorem Pu{i:Nat}{x:Str}{pos:Pos}(hN:X.N[i]?=some x)(hv:Vis X.env.scope x)(hd:(x==("__debug__":Str))=false:=by decide)(hcd:(x==("__classdict__":Str))=false:=by decide):PE X (.Name x pos) (HV i):=by
 intro pins s σ H Q I h;obtain⟨v,e,h⟩:=h;obtain⟨m,hn,hl⟩:=I.loc;obtain⟨u,r,l⟩:=hl i x v hN e hv;have fin:EP X pins σ Q u s:=⟨v,H,I,r,h⟩;rcases l with ⟨hk,hm⟩|⟨hk,c,hc,hcell⟩
 .exact wpAny_Name (wpAny_loadName_local I.ok.kind hk hn hm fin) hd
 .rcases hk with hk|hk
  .exact wpAny_Name (wpAny_loadName_cell I.ok.kind hk hc hcell fin) hd
  .exact wpAny_Name (wpAny_loadName_free I.ok.kind hk hc hcell fin hcd) hd
theorem Ad{i j pos}:PE X (.Constant (.int i) j pos) (tC (.int i)):=λ_ _ _ H _ I h=>wpAny_Constant_int ⟨.int i,H,I.tok _,⟨_,rfl⟩,h⟩
theorem DS{b j pos}:PE X (.Constant (.bool b) j pos) (tC (.bl b)):=λ_ _ _ H _ I h=>Constant_bool ⟨.bl b,H,I,rfl,h⟩
theorem BA{j pos}:PE X (.Constant .none j pos) (tC .non):=λ_ _ _ H _ I h=>Constant_none ⟨.non,H,I,rfl,h⟩
theorem BK{x j pos}:PE X (.Constant (.str x) j pos) (tC (.str x)):=λ_ _ _ H _ I h=>Calls.Constant_str ⟨.str x,H,I.tok _,⟨_,rfl⟩,h⟩
def Gl(X:Cx)(x:Str):Prop:=X.env.kindOf x=some .globalImplicit
theorem Cj{E:VPz}{pins:PNz}{s:Shared}{σ:St}{H:Hp}{x:Str}{u:Value}{pos:Pos}{Q:VPz}(I:Inv X pins σ H s)(hg:Gl X x)(hm:X.mg x=some u)(h:Q u s)
  (hd:(x==("__debug__":Str))=false:=by decide):wpAny (model X.prog X.w) X.A (eval (.Name x pos) X.env) Q E s :=
 Calls.Name_function_global I.ok.kind hg (Calls.loadGlobal_global (by rw[I.ok.glob];exact I.mod.glob.keeps I.bk) hm h) hd
theorem D7{E:VPz}{pins:PNz}{s:Shared}{σ:St}{H:Hp}{x:Str}{u:Value}{pos:Pos}{Q:VPz}(I:Inv X pins σ H s)(hg:Gl X x)(hm:X.mg x=none)(hv:bootBuiltins x=some u)(h:Q u s)
  (hn:x≠"__name__":=by decide) (hd:(x==("__debug__":Str))=false:=by decide):wpAny (model X.prog X.w) X.A (eval (.Name x pos) X.env) Q E s:=by
 obtain⟨mb,h1,h2⟩:=I.mod.blt;exact Calls.Name_function_global I.ok.kind hg (Calls.loadGlobal_builtin (by rw[I.ok.glob];exact I.mod.glob.keeps I.bk) hm (by rw[I.ok.blt];exact h1.keeps I.bk) ((h2 x hn).trans hv) h) hd
theorem Al{x:Str}{v:V}{u:Value}{pos:Pos}(hg:Gl X x)(hm:X.mg x=some u)(r:RelV v u)(hd:(x==("__debug__":Str))=false:=by decide):PE X (.Name x pos) (tC v) :=
 λ_ _ _ H _ I h=>Cj I hg hm ⟨v,H,I,r,h⟩ hd
theorem Ci{x:Str}{v:V}{u:Value}{pos:Pos}(hg:Gl X x)(hm:X.mg x=none)(hv:bootBuiltins x=some u)(r:RelV v u)(hn:x≠"__name__":=by decide)(hd:(x==("__debug__":Str))=false:=by decide):PE X (.Name x pos) (tC v) :=
 λ_ _ _ H _ I h=>D7 I hg hm hv ⟨v,H,I,r,h⟩ hn hd
variable{a b:Expr}{ta tb:TE}{pos:Pos}
def tB(t:TE):TT:=λ σ H Q=>t σ H λ x H1=>IBl x λ c=>Q c H1
theorem Bg{e:Expr}{t:TE}(h:PE X e t)(he:∀whole,isTrue e X.env whole=(do let v <-whole;standAt e.pos;holding [v] (truthy v)):=by intro _;rfl):PT X e (tB t):=by
  intro pins s σ H Q I hw;refine isTrue_plain (thn (h pins s σ H _ I hw) λ v s1 hz_=>?_) (he _);obtain⟨x,H1,I1,r1,q1⟩:=hz_;obtain⟨d,rfl,q⟩:=q1;cases r1;exact wpAny_truthy_bool ⟨H1,I1,q⟩
variable{tA tB':TT}{rest:List Expr}
def U7(t u:TT):TT:=λ σ H Q=>t σ H λ c H1=>if c=true then u σ H1 Q else Q false H1
def tOr(t u:TT):TT:=λ σ H Q=>t σ H λ c H1=>if c=true then Q true H1 else u σ H1 Q
def U0(t:TT):TT:=λ σ H Q=>t σ H λ c H1=>Q (!c) H1
theorem C9(ha:PT X a tA):PW X (.BoolOp .And [a] pos) tA:=by
 intro wh pins s σ H Q I h;refine isTrue_and (thn (ha pins s σ H Q I h) λ c s1 e=>?_);cases c with
 |true=>exact isTrue_and_nil e
 |false=>exact e
theorem CT(ha:PT X a tA):PW X (.BoolOp .Or [a] pos) tA:=by
 intro wh pins s σ H Q I h;refine isTrue_or (thn (ha pins s σ H Q I h) λ c s1 e=>?_);cases c with
 |false=>exact isTrue_or_nil e
 |true=>exact e
theorem DR(ha:PT X a tA)(hb:PW X (.BoolOp .And (b::rest) pos) tB'):PW X (.BoolOp .And (a::b::rest) pos) (U7 tA tB'):=by
 intro wh pins s σ H Q I h;refine isTrue_and (thn (ha pins s σ H _ I h) λ c s1 hz_=>?_);obtain⟨H1,I1,q1⟩:=hz_;cases c with
 |true=>exact hb wh pins s1 σ H1 Q I1 q1
 |false=>exact⟨H1,I1,q1⟩
theorem DQ(ha:PT X a tA)(hb:PW X (.BoolOp .Or (b::rest) pos) tB'):PW X (.BoolOp .Or (a::b::rest) pos) (tOr tA tB'):=by
 intro wh pins s σ H Q I h;refine isTrue_or (thn (ha pins s σ H _ I h) λ c s1 hz_=>?_);obtain⟨H1,I1,q1⟩:=hz_;cases c with
 |true=>exact⟨H1,I1,q1⟩
 |false=>exact hb wh pins s1 σ H1 Q I1 q1
theorem Bx(ha:PT X a tA):PT X (.UnaryOp .Not a pos) (U0 tA):=by
 intro pins s σ H Q I h;exact isTrue_not (ha pins s σ H (λ c H1=>Q (!c) H1) I h)
def Tj(ta tb:TE):TE:=λ σ H Q=>ta σ H λ x H1=>IBl x λ c=>if c=true then tb σ H1 Q else Q (.bl false) H1
def Uz(ta tb:TE):TE:=λ σ H Q=>ta σ H λ x H1=>IBl x λ c=>if c=true then Q (.bl true) H1 else tb σ H1 Q
def Td(ta:TE):TE:=λ σ H Q=>ta σ H λ x H1=>IBl x λ c=>Q (.bl (!c)) H1
theorem D4{op}{t:TE}(h:PE X a t):PE X (.BoolOp op [a] pos) t:=λ pins s σ H Q I hw=>BoolOp_one (h pins s σ H Q I hw)
theorem Cz(ha:PE X a ta)(hb:PE X (.BoolOp .And (b::rest) pos) tb):PE X (.BoolOp .And (a::b::rest) pos) (Tj ta tb):=by
 intro pins s σ H Q I h;refine BoolOp_and (thn (ha pins s σ H _ I h) λ v s1 hz_=>?_);obtain⟨x,H1,I1,r1,q1⟩:=hz_;obtain⟨c,rfl,q1⟩:=q1;cases r1;refine wpAny_truthy_bool ?_;cases c with
 |true=>exact hb pins s1 σ H1 Q I1 q1
 |false=>exact⟨.bl false,H1,I1,rfl,q1⟩
theorem T4(ha:PE X a ta)(hb:PE X (.BoolOp .Or (b::rest) pos) tb):PE X (.BoolOp .Or (a::b::rest) pos) (Uz ta tb):=by
 intro pins s σ H Q I h;refine BoolOp_or (thn (ha pins s σ H _ I h) λ v s1 hz_=>?_);obtain⟨x,H1,I1,r1,q1⟩:=hz_;obtain⟨c,rfl,q1⟩:=q1;cases r1;refine wpAny_truthy_bool ?_;cases c with
 |false=>exact hb pins s1 σ H1 Q I1 q1
 |true=>exact⟨.bl true,H1,I1,rfl,q1⟩
theorem Px(ha:PE X a ta):PE X (.UnaryOp .Not a pos) (Td ta):=by
 intro pins s σ H Q I h;refine UnaryOp_ (thn (ha pins s σ H _ I h) λ v s1 hz_=>?_);obtain⟨x,H1,I1,r1,q1⟩:=hz_;obtain⟨c,rfl,q1⟩:=q1;cases r1;exact not_of (wpAny_truthy_bool ⟨.bl (!c),H1,I1,rfl,q1⟩)
def tIf(t:TT)(ta tb:TE):TE:=λ σ H Q=>t σ H λ c H1=>if c=true then ta σ H1 Q else tb σ H1 Q
theorem Fb{c:Expr}(hc:PT X c tA)(ha:PE X a ta)(hb:PE X b tb):PE X (.IfExp c a b pos) (tIf tA ta tb):=by
 intro pins s σ H Q I h;refine wpAny_IfExp (thn (hc pins s σ H _ I h) λ d s1 hz_=>?_);obtain⟨H1,I1,q1⟩:=hz_;cases d with
 |true=>exact ha pins s1 σ H1 Q I1 q1
 |false=>exact hb pins s1 σ H1 Q I1 q1
end
def SqL(K:Frag)(H:Hp)(a:Addr)(xs:LUz):Prop :=
 Rd H a (.lst xs) \/
  ∃(o:Obj)(its:Array Value)(n:Nat),K.lookup a=some o/\o.cls=.type "list"/\o.dict=none/\o.data=.seq its n/\its.size<=sizeLine/\Vals xs its.toList
def SqT(K:Frag)(H:Hp)(a:Addr)(xs:LUz):Prop :=
 Rd H a (.tup xs) \/
  ∃(o:Obj)(its:Array Value)(n:Nat),K.lookup a=some o/\o.cls=.type "tuple"/\o.data=.seq its n/\its.size<=sizeLine/\Vals xs its.toList
def UV:Value->Option V
 |.none=>some .non
 |.bool b=>some (.bl b)
 |.int i _=>some (.int i)
 |.str x _=>some (.str x)
 |.bytes b _=>some (.byt b)
 |.float b _=>some (.flt b)
 |.ref a=>some (.ref a)
 |.type n=>some (.ty n)
 |_=>none
theorem RelV.abs{x:V}{u:Value}(r:RelV x u):UV u=some x:=by
 cases x with
 |non=>cases r;rfl
 |bl _=>cases r;rfl
 |int _=>obtain⟨t,rfl⟩:=r;rfl
 |str _=>obtain⟨t,rfl⟩:=r;rfl
 |byt _=>obtain⟨t,rfl⟩:=r;rfl
 |flt _=>obtain⟨t,rfl⟩:=r;rfl
 |ref _=>cases r;rfl
 |ty _=>cases r;rfl
theorem RelV.inj{x y:V}{u:Value}(r:RelV x u)(q:RelV y u):x=y:=Option.some.inj (r.abs.symm.trans q.abs)
theorem Vals.inj:∀{xs ys:LUz}{us:LWz},Vals xs us->Vals ys us->xs=ys
 |_,_,_,.nil,.nil=>rfl
 |_,_,_,.cons r t,.cons r' t'=>by rw[r.inj r',Vals.inj t t']
section
variable{X:Cx}{pins:PNz}{σ:St}{H:Hp}{s:Shared}{a:Addr}{xs ys:LUz}
theorem SqL.of{K:Frag}(h:H a=some (.lst xs)):SqL K H a xs:=.inl (.inl h)
theorem SqT.of{K:Frag}(h:H a=some (.tup xs)):SqT K H a xs:=.inl (.inl h)
theorem Inv.list(I:Inv X pins σ H s)(h:SqL X.K H a xs):∃its:LWz,Vals xs its/\PlainL s.heap a its.toArray/\xs.length<=sizeLine:=by
 rcases h with h|⟨o,its,n,hk,hc,hd,hs,hz,r⟩
 .obtain⟨z,its,n,r,e⟩:=h.ok I.hok;exact⟨its,r,⟨_,n,e,rfl,rfl,rfl⟩,z⟩
 .refine⟨its.toList,r,⟨o,n,I.kIn a o hk,hc,hd,by simpa using hs⟩,?_⟩;have e:=r.length;simp only[Array.length_toList]at e;lia
theorem Inv.tuple(I:Inv X pins σ H s)(h:SqT X.K H a xs):∃its:LWz,Vals xs its/\IsTup s.heap a its.toArray/\xs.length<=sizeLine:=by
 rcases h with h|⟨o,its,n,hk,hc,hs,hz,r⟩
 .obtain⟨z,its,r,p⟩:=h.ok I.hok;exact⟨its,r,p,z⟩
 .refine⟨its.toList,r,⟨o,I.kIn a o hk,hc,n,by simpa using hs⟩,?_⟩;have e:=r.length;simp only[Array.length_toList]at e;lia
theorem Inv.list_inj(I:Inv X pins σ H s)(h:SqL X.K H a xs)(h':SqL X.K H a ys):xs=ys:=by
 obtain⟨its,r,⟨o,n,e,_,_,d⟩,_⟩:=I.list h;obtain⟨its',r',⟨o',n',e',_,_,d'⟩,_⟩:=I.list h';rw[e]at e';cases e';rw[d]at d';injection d' with d1 _;have:its=its':=by simpa using congrArg Array.toList d1
 subst this;exact r.inj r'
theorem Inv.tuple_inj(I:Inv X pins σ H s)(h:SqT X.K H a xs)(h':SqT X.K H a ys):xs=ys:=by
 obtain⟨its,r,⟨o,e,_,n,d⟩,_⟩:=I.tuple h;obtain⟨its',r',⟨o',e',_,n',d'⟩,_⟩:=I.tuple h';rw[e]at e';cases e';rw[d]at d';injection d' with d1 _;have:its=its':=by simpa using congrArg Array.toList d1
 subst this;exact r.inj r'
end
abbrev Cx.wish(X:Cx)(E:VPz):Cx:={ X with xe:=E }
abbrev Cx.nox(X:Cx):Cx:=X.wish λ_ _=>False
theorem Cx.Ok.wish{X:Cx}(ok:X.Ok)(E:VPz):(X.wish E).Ok :=
 ⟨ok.mod,ok.kind,ok.glob,ok.blt,ok.above,ok.inj,ok.has,ok.cab,ok.hd,ok.frames,ok.stk,ok.exf,ok.bs,ok.bsz,ok.noex,ok.exfs,ok.funs,ok.frf⟩
theorem Cx.Ok.unwish{X:Cx}{E:VPz}(ok:(X.wish E).Ok):X.Ok :=
 ⟨ok.mod,ok.kind,ok.glob,ok.blt,ok.above,ok.inj,ok.has,ok.cab,ok.hd,ok.frames,ok.stk,ok.exf,ok.bs,ok.bsz,ok.noex,ok.exfs,ok.funs,ok.frf⟩
section
variable{X:Cx}{pins:PNz}{σ:St}{H:Hp}{s:Shared}{E:VPz}
theorem Inv.wish(I:Inv X pins σ H s)(E:VPz):Inv (X.wish E) pins σ H s:=⟨I.ok.wish E,I.os,I.bare,I.base,I.loc,I.cell,I.free,I.freeC,I.pin,I.hok,I.len⟩
theorem Inv.unwish(I:Inv (X.wish E) pins σ H s):Inv X pins σ H s:=⟨I.ok.unwish,I.os,I.bare,I.base,I.loc,I.cell,I.free,I.freeC,I.pin,I.hok,I.len⟩
theorem SP.unwish{D:Eb}{f:Flow}{s':Shared}(h:SP (X.wish E) pins D f s'):SP X pins D f s':=by
 cases f with
 |next=>obtain⟨σ',H',I,q⟩:=h;exact⟨σ',H',I.unwish,q⟩
 |brk=>obtain⟨σ',H',I,q⟩:=h;exact⟨σ',H',I.unwish,q⟩
 |cont=>obtain⟨σ',H',I,q⟩:=h;exact⟨σ',H',I.unwish,q⟩
 |ret u=>obtain⟨v,σ',H',I,r,q⟩:=h;exact⟨v,σ',H',I.unwish,r,q⟩
theorem PSs.nox{st:List Stmt}{t:TS}(h:PSs X.nox st t):PSs X st t:=λ pins s σ H D I hw =>
 wpAny_mono (h pins s σ H D (I.wish _) hw) (λ_ _ q=>q.unwish) λ_ _ z=>False.elim z
end
section
variable{X:Cx}{st:Stmt}{rest:List Stmt}{t u:TS}{e:Expr}{te:TE}{pos:Pos}
def Te:TS:=λ D σ H=>D.nx σ H
def Uy(t u:TS):TS:=λ D σ H=>t { D with nx:=u D } σ H
theorem Ax:PSs X [] Te:=λ_ _ σ H _ I h=>wpAny_execs_nil ⟨σ,H,I,h⟩
theorem Af(h1:PS X st t)(h2:PSs X rest u):PSs X (st::rest) (Uy t u):=by
 intro pins s σ H D I h;refine wpAny_execs_cons (thn (h1 pins s σ H { D with nx:=u D } I h) λ f s1 q=>?_);cases f with
 |next =>
  obtain⟨σ',H',I',q⟩:=q;exact h2 pins s1 σ' H' D I' q
 |ret v=>exact q
 |brk=>exact q
 |cont=>exact q
theorem Ae(h1:PS X st t):PSs X [st] t:=by
 intro pins s σ H D I h;refine wpAny_execs_cons (thn (h1 pins s σ H D I h) λ f s1 q=>?_);cases f with
 |next=>exact wpAny_execs_nil q
 |ret v=>exact q
 |brk=>exact q
 |cont=>exact q
theorem Inv.quiet{pins:PNz}{σ:St}{H:Hp}{s:Shared}(I:Inv X pins σ H s):interactive X.env=false:=by simp[interactive,I.ok.kind]
def Ti(te:TE):TS:=λ D σ H=>te σ H λ_ H1=>D.nx σ H1
theorem AL(he:PE X e te)(hs:swapsWith e none pos.line X.env=pure false:=by rfl):PS X (.Expr e pos) (Ti te):=by
 intro pins s σ H D I h;exact wpAny_Expr_any (thn (he pins s σ H _ I h) λ v s1 ⟨x,H1,I1,r1,q1⟩=>⟨σ,H1,I1,q1⟩) I.quiet hs
def Si(te:TE):TS:=λ D σ H=>te σ H D.rt
theorem Am(he:PE X e te):PS X (.Return (some e) pos) (Si te):=by
 intro pins s σ H D I h;exact wpAny_Return_some (thn (he pins s σ H _ I h) λ v s1 ⟨x,H1,I1,r1,q1⟩=>⟨x,σ,H1,I1,r1,q1⟩)
def Tg(c:TT)(t u:TS):TS:=λ D σ H=>c σ H λ b H1=>if b=true then t D σ H1 else u D σ H1
theorem AC{c:Expr}{a b:List Stmt}{tc:TT}(hc:PT X c tc)(ha:PSs X a t)(hb:PSs X b u):PS X (.If c a b pos) (Tg tc t u):=by
 intro pins s σ H D I h;refine wpAny_If (thn (hc pins s σ H _ I h) λ d s1 hz_=>?_);obtain⟨H1,I1,q1⟩:=hz_;cases d with
 |true=>exact ha pins s1 σ H1 D I1 q1
 |false=>exact hb pins s1 σ H1 D I1 q1
end
abbrev TG:=V->St->Hp->(St->Hp->Prop)->Prop
abbrev TGs:=LUz->St->Hp->(St->Hp->Prop)->Prop
def PG(X:Cx)(target:Expr)(t:TG):Prop :=
 ∀(pins:PNz)(s:Shared)(σ:St)(H:Hp)(v:V)(u:Value)(Q:St->Hp->Prop),Inv X pins σ H s->RelV v u->t v σ H Q ->
  wpAny (model X.prog X.w) X.A (assign target X.env u) (λ_ s'=>∃σ' H',Inv X pins σ' H' s'/\Q σ' H') X.xe s
def PGs(X:Cx)(ts:List Expr)(t:TGs):Prop :=
 ∀(pins:PNz)(s:Shared)(σ:St)(H:Hp)(vs:LUz)(us:LWz)(Q:St->Hp->Prop),Inv X pins σ H s->Vals vs us->t vs σ H Q ->
  wpAny (model X.prog X.w) X.A (assignInOrder ((assignEach ts X.env).map (·.2)) us) (λ_ s'=>∃σ' H',Inv X pins σ' H' s'/\Q σ' H') X.xe s
abbrev SQ:=V->V->V->Hp->(Hp->Prop)->Prop
def Ul(X:Cx)(t:SQ):Prop :=
 ∀(pins:PNz)(s:Shared)(σ:St)(H:Hp)(o i v:V)(ov iv u:Value)(Q:Hp->Prop),Inv X pins σ H s->RelV o ov->RelV i iv->RelV v u->t o i v H Q ->
  wpAny (model X.prog X.w) X.A (setItem ov iv u) (λ_ s'=>∃H',Inv X pins σ H' s'/\Q H') X.xe s
section
variable{X:Cx}{pos:Pos}
def RQ(i:Nat):TG:=λ v σ H Q=>Q (σ.set i (some v)) H
theorem Aq{i:Nat}{x:Str}(hN:X.N.Nodup)(hi:X.N[i]?=some x)(hx:Loc X.env.scope x)(hf:X.fn x=true\/X.env.scope.names.lookup x=some .local:=by first|exact .inl rfl|exact .inr rfl|assumption):PG X (.Name x pos) (RQ i):=by
 intro pins s σ H v u Q I r h;exact wpAny_assign_Name (G3 I hN hi hx r (λ s' I'=>⟨_,H,I',h⟩) hf)
def UT:TGs:=λ vs σ H Q=>vs=[]/\Q σ H
def TR(t:TG)(u:TGs):TGs:=λ vs σ H Q=>∃v r,vs=v::r/\t v σ H λ σ' H'=>u r σ' H' Q
theorem B3:PGs X [] UT:=by
 intro pins s σ H vs us Q I r h;obtain⟨e,h⟩:=h;subst e;cases r;exact assignInOrder_nil ⟨σ,H,I,h⟩
theorem A5{e:Expr}{es:List Expr}{t:TG}{u:TGs}(h1:PG X e t)(h2:PGs X es u)
  (hs:(assignEach (e::es) X.env).map (·.2)=assign e X.env::(assignEach es X.env).map (·.2):=by rfl):PGs X (e::es) (TR t u):=by
 intro pins s σ H vs us Q I r h;obtain⟨v,vr,e1,h⟩:=h;subst e1;cases r with
 |cons r rr =>
  rw[hs];refine assignInOrder_cons (thn (h1 pins s σ H _ _ _ I r h) λ_ s1 hz_=>?_);obtain⟨σ1,H1,I1,q1⟩:=hz_;exact h2 pins s1 σ1 H1 _ _ Q I1 rr q1
inductive RW(K:Frag)(n:Nat)(t:TGs)(v:V)(σ:St)(H:Hp)(Q:St->Hp->Prop):Prop
 |mk (a:Addr) (xs:LUz) (e:v=.ref a) (s:SqT K H a xs) (l:xs.length=n) (q:t xs σ H Q):RW K n t v σ H Q
def TQ(K:Frag)(n:Nat)(t:TGs):TG:=λ v σ H Q=>RW K n t v σ H Q
theorem Cb{es:List Expr}{k:Nat}{t:TGs}{n:Nat}(hc:X.calm=true)(h:PGs X es t)
  (hn:(assignEach es X.env).length=n:=by rfl) (hst:(assignEach es X.env).findIdx? (·.1)=none:=by rfl):PG X (.Tuple es k pos) (TQ X.K n t):=by
 intro pins s σ H v u Q I r hw;obtain⟨a,xs,e1,hq,hl,hw⟩:=hw;subst e1;cases r;obtain⟨its,rv,ht,hz⟩:=I.tuple hq;refine assign_Tuple_tuple (I.ok.hd hc) ht (by simp[hn,<-hl,rv.length]) hst λ h' hx=>?_;have I1:Inv X pins σ H { s with heap:=h' }:=I.kept (t':=s.toks) λ b o e=>hx b o (Nat.ne_of_lt (Heap.lt_size e)) e;exact h pins _ σ H xs _ Q I1 (by simpa using rv) hw
def US(to ti:TE)(t:SQ):TG:=λ v σ H Q=>to σ H λ o H1=>ti σ H1 λ i H2=>t o i v H2 λ H3=>Q σ H3
theorem Ps{o i:Expr}{to ti:TE}{t:SQ}(ho:PE X o to)(hi:PE X i ti)(hs:Ul X t)
    (ha:∀v,assign (.Subscript o i pos) X.env v=(do
      let ov <-holding [v] (eval o X.env)
      let iv <-holding [v,ov] (eval i X.env)
      standAt pos
      holding [v,ov,iv] (setItem ov iv v)
      release [v,ov,iv] []):=by intro _;rfl):PG X (.Subscript o i pos) (US to ti t):=by
  intro pins s σ H v u Q I r h;rw[ha];refine wpAny_bind (wpAny_holding (thn (ho pins s σ H _ I h) λ ov s1 hz_=>?_));obtain⟨x,H1,I1,r1,q1⟩:=hz_;refine wpAny_bind (wpAny_holding (thn (hi pins s1 σ H1 _ I1 q1) λ iv s2 hz_=>?_));obtain⟨y,H2,I2,r2,q2⟩:=hz_;refine wpAny_bind (wpAny_standAt (wpAny_bind (wpAny_holding (thn (hs pins s2 σ H2 x y v ov iv u _ I2 r1 r2 r q2) λ_ s3 hz_=>?_))));obtain⟨H3,I3,q3⟩:=hz_;exact wpAny_release ⟨σ,H3,I3,q3⟩
def Q7(te:TE)(g:TG):TS:=λ D σ H=>te σ H λ x H1=>g x σ H1 D.nx
theorem JE{tg e:Expr}{te:TE}{g:TG}(he:PE X e te)(hg:PG X tg g)(hs:swapsWithSole [tg] e pos.line X.env=pure false:=by rfl)(hw:swappedStores [tg] e X.env=pure none:=by rfl)
  (h1:(assignEach [tg] X.env).map (·.2)=[assign tg X.env]:=by rfl):PS X (.Assign [tg] e pos) (Q7 te g):=by
 intro pins s σ H D I h;refine wpAny_Assign_stores (thn (he pins s σ H _ I h) λ v s1 hz_=>?_) hs hw;obtain⟨x,H1,I1,r1,q1⟩:=hz_;rw[h1];exact thn (hg pins s1 σ H1 x v _ I1 r1 q1) λ_ s2 q=>q
theorem At{i:Nat}{x:Str}{e:Expr}{te:TE}{pos':Pos}(hN:X.N.Nodup)(hi:X.N[i]?=some x)(hx:Loc X.env.scope x)(he:PE X e te)(hs:swapsWith e (some (.Name x pos')) pos.line X.env=pure false:=by rfl)(hf:X.fn x=true\/X.env.scope.names.lookup x=some .local:=by first|exact .inl rfl|exact .inr rfl|assumption) :
  PS X (.Assign [.Name x pos'] e pos) (Q7 te (RQ i)):=by
 intro pins s σ H D I h;refine wpAny_Assign_Name (thn (he pins s σ H _ I h) λ v s1 hz_=>?_) hs;obtain⟨y,H1,I1,r1,q1⟩:=hz_;exact G3 I1 hN hi hx r1 (λ s2 I2=>⟨_,H1,I2,q1⟩) hf
def Sg(c:TT)(tb:TS):TS:=λ D σ H=>∃W:Nat->St->Hp->Prop,(∃m,W m σ H)/\∀m σ H,W m σ H ->
 c σ H λ b H1=>if b=true then ∃N:St->Hp->Prop,(∀σ' H',N σ' H'->∃m',m'<m/\W m' σ' H')/\tb { D with nx:=N,ct:=N,bk:=D.nx } σ H1 else D.nx σ H1
theorem KN{c:Expr}{body:List Stmt}{tc:TT}{tb:TS}(hp:PassesOwn (model X.prog X.w) X.A X.env X.xe)(hc:PT X c tc)(hb:PSs X body tb):PS X (.While c body [] pos) (Sg tc tb):=by
 intro pins s σ H D I h;obtain⟨W,⟨m0,w0⟩,turn⟩:=h;refine wpAny_While (codeAny_whileLoop (λ n s'=>∃σ' H',Inv X pins σ' H' s'/\W n σ' H') ?_ m0 ⟨σ,H,I,w0⟩);rintro n s1 ⟨σ1,H1,I1,w1⟩;refine wpAny_passesOwn hp (thn (hc pins s1 σ1 H1 _ I1 (turn n σ1 H1 w1)) λ b s2 hz_=>?_);obtain⟨H2,I2,q2⟩:=hz_;cases b with
 |true =>
  obtain⟨N,hN,q2⟩:=q2;rw[if_pos rfl];refine wpAny_passesOwn hp (thn (hb pins s2 σ1 H2 _ I2 q2) λ f s3 q3=>?_);cases f with
  |next =>
   obtain⟨σ3,H3,I3,n3⟩:=q3;obtain⟨m',hm,w3⟩:=hN σ3 H3 n3;exact⟨m',hm,σ3,H3,I3,w3⟩
  |cont =>
   obtain⟨σ3,H3,I3,n3⟩:=q3;obtain⟨m',hm,w3⟩:=hN σ3 H3 n3;exact⟨m',hm,σ3,H3,I3,w3⟩
  |brk=>exact q3
  |ret v=>exact q3
 |false =>
  rw[if_neg Bool.false_ne_true];exact wpAny_execs_nil ⟨σ1,H2,I2,q2⟩
end
structure It where
 go:Nat->Hp->Prop
 yld:Nat->Hp->V->Hp->Prop
 stop:Nat->Hp->Prop
def EN(X:Cx)(pins:PNz)(H:Hp)(b:Addr):Prop :=
 H b=none/\b≠X.env.locals/\b∉X.fs/\(b∈X.ex\/X.s₀.heap.objs.size<=b)/\(∀x c,X.env.cells.lookup x=some c->c≠b)/\∀p∈X.pn++pins,p.1≠b
theorem Inv.fpOk{X:Cx}{pins:PNz}{σ:St}{H H':Hp}{s:Shared}{b:Addr}(I:Inv X pins σ H s)(hb:s.heap.objs.size<=b)(hn:H' b=none):EN X pins H' b:=by
 refine⟨hn,Nat.ne_of_gt (Nat.lt_of_lt_of_le I.lt hb),I.nofs hb,.inr (Nat.le_trans I.sz hb),λ x c e z=>?_,λ p hp z=>?_⟩
 .obtain⟨v,q⟩:=I.cell x c e;exact absurd (Nat.lt_of_lt_of_le q.lt (by rw[z];exact hb)) (Nat.lt_irrefl _)
 .exact absurd (Nat.lt_of_lt_of_le (Heap.lt_size (I.pin p hp).1) (by rw[z];exact hb)) (Nat.lt_irrefl _)
structure MO(P:Program)(w:World)(K:Frag)(tg:Expr)(J:It)(fp:List Addr)(it:Addr)(tn:Nat->Heap->Prop):Prop where
 mem:it∈fp
 obj:∀i h,tn i h->∀b∈fp,∃o,h.get? b=some o/\∀v,o.data≠.cell v
 keep:∀i h h',tn i h->(∀b∈fp,∀o,h.get? b=some o->h'.get? b=some o)->tn i h'
 item:∀(X:Cx),X.prog=P->X.w=w->X.K=K->X.calm=true->∀(i:Nat)(pins:PNz)(s:Shared)(σ:St)(H:Hp)(E:VPz),Inv X pins σ H s->(∀b∈fp,EN X pins H b)->tn i s.heap->J.go i H ->
  wpAny (model P w) X.A (pyNext (.ref it)) (λ r s1=>∃u,r=some u /\
   wpAny (model P w) X.A (letOwnedTupleGo tg (.ref it) u) (λ_ s2=>∃x H',Inv X pins σ H' s2/\RelV x u/\J.yld i H x H'/\tn (i+1) s2.heap/\∀b∈fp,H' b=none) E s1) E s
 done:∀(X:Cx),X.prog=P->X.w=w->X.K=K->X.calm=true->∀(i:Nat)(pins:PNz)(s:Shared)(σ:St)(H:Hp)(E:VPz),Inv X pins σ H s->(∀b∈fp,EN X pins H b)->tn i s.heap->J.stop i H ->
  wpAny (model P w) X.A (pyNext (.ref it)) (λ r s1=>r=none/\Inv X pins σ H s1) E s
 self:∀(A:Around)(i:Nat)(s:Shared)(Q:VPz)(E:VPz),tn i s.heap->Q (.ref it) s->wpAny (model P w) A (pyIter (.ref it)) Q E s
abbrev TI:=St->Hp->(It->Hp->Prop)->Prop
def PIE(X:Cx)(pins:PNz)(σ:St)(tg:Expr)(R:It->Hp->Prop)(itv:Value)(s2:Shared):Prop :=
 ∃(it:Addr)(fp:List Addr)(tn:Nat->Heap->Prop)(J:It)(H':Hp),itv=.ref it/\Inv X pins σ H' s2/\MO X.prog X.w X.K tg J fp it tn/\tn 0 s2.heap/\(∀b∈fp,EN X pins H' b)/\R J H'
def PI(X:Cx)(tg iter:Expr)(wi:TI):Prop :=
 ∀(pins:PNz)(s:Shared)(σ:St)(H:Hp)(R:It->Hp->Prop),Inv X pins σ H s->wi σ H R ->
  wpAny (model X.prog X.w) X.A (eval iter X.env) (λ v s1=>wpAny (model X.prog X.w) X.A (pyIter v) (PIE X pins σ tg R) X.xe s1) X.xe s
theorem N0{M:Model}{A:Around}{E:VPz}{s:Shared}{tg:Expr}{it:Addr}{u:Value}{o:Obj}{n:String}{vs:Array Value}{Q:Unit->Shared->Prop}(ho:s.heap.get? it=some o)(hc:o.cls=.type n)(hd:o.data=.fields vs)
    (hn:["enumerate","zip","dict_itemiterator","dict_reverseitemiterator","odict_iterator","itertools.zip_longest","itertools.pairwise"].contains n=false) (hQ:Q () s):wpAny M A (letOwnedTupleGo tg (.ref it) u) Q E s:=by
  unfold letOwnedTupleGo;cases tg<;>first
    |exact wpAny_pure hQ
    | (cases u<;>first
        |exact wpAny_pure hQ
        | (refine wpAny_bind (wpAny_load ho ?_)
           rw[hc,hd];show wpAny M A (if (["enumerate","zip","dict_itemiterator","dict_reverseitemiterator","odict_iterator","itertools.zip_longest","itertools.pairwise"].contains n&&vs[0]?==some (rawInt _))=true then _ else _) Q E s;rw[if_neg (by intro h;rw[hn,Bool.false_and]at h;cases h)];exact wpAny_pure hQ))
def Itl(K:Frag)(a:Addr):It :=
 ⟨λ i H=>∃xs x,SqL K H a xs/\xs[i]?=some x,λ i H x H'=>H'=H/\∀xs,SqL K H a xs->xs[i]?=some x,λ i H=>∃xs,SqL K H a xs/\xs.length<=i⟩
def Itt(K:Frag)(a:Addr):It :=
 ⟨λ i H=>∃xs x,SqT K H a xs/\xs[i]?=some x,λ i H x H'=>H'=H/\∀xs,SqT K H a xs->xs[i]?=some x,λ i H=>∃xs,SqT K H a xs/\xs.length<=i⟩
def Itr(lo:Int)(n:Nat):It:=⟨λ i _=>i<n,λ i H x H'=>H'=H/\x=.int (lo+i),λ i _=>n<=i⟩
theorem NU{P:Program}{w:World}{K:Frag}{tg:Expr}(a it:Addr):MO P w K tg (Itl K a) [it] it (λ i h=>h.IsListIter it a i) where
 mem:=by simp
 obj:=λ i h st b hb=>by
  have e:b=it:=by simpa using hb
  subst e;obtain⟨o,e,c,d⟩:=st;exact⟨o,e,λ v z=>by rw[d]at z;cases z⟩
 keep:=λ i h h' st k=>st.at λ o e=>k it (by simp) o e
 item:=by
  intro X hP hw hK hc i pins s σ H E I hf st hg;subst hP hw hK;obtain⟨xs,x,hq,hx⟩:=hg;obtain⟨its,rv,p,hz⟩:=I.list hq;obtain⟨u,hu,ru⟩:=rv.get hx;obtain⟨f0,f1,f2,f3,f4,f5⟩:=hf it (by simp);refine wpAny_pyNext_list_item st p.isList (x:=u) (by simpa using hu) λ h' st' sb=>?_;have I1:Inv X pins σ H { s with heap:=h' }:=I.turned (t':=s.toks) (λ b o hb e=>(sb.2 b hb).trans e) f0 f1 f3 f4 f5;obtain⟨o,e,c,d⟩:=id st';exact⟨u,rfl,N0 (s:={ s with heap:=h' }) e c d (by decide) ⟨x,H,I1,ru,⟨rfl,λ ys hy=>by rw[I.list_inj hy hq];exact hx⟩,st',λ b hb=>(hf b hb).1⟩⟩
 done:=by
  intro X hP hw hK hc i pins s σ H E I hf st hg;subst hP hw hK;obtain⟨xs,hq,hx⟩:=hg;obtain⟨its,rv,p,hz⟩:=I.list hq;obtain⟨f0,f1,f2,f3,f4,f5⟩:=hf it (by simp);have hl:=rv.length;exact wpAny_pyNext_list_end (I.ok.hd hc) st p.isList (by simp;lia) λ h' eb=>⟨rfl,I.turned (t':=s.toks) (λ b o hb e=>eb b o hb e) f0 f1 f3 f4 f5⟩
 self:=λ_ _ _ _ _ st h=>wpAny_pyIter_listiter st h
theorem LZ{P:Program}{w:World}{K:Frag}{tg:Expr}(a it:Addr):MO P w K tg (Itt K a) [it] it (λ i h=>h.IsTupleIter it a i) where
 mem:=by simp
 obj:=λ i h st b hb=>by
  have e:b=it:=by simpa using hb
  subst e;obtain⟨o,e,c,d⟩:=st;exact⟨o,e,λ v z=>by rw[d]at z;cases z⟩
 keep:=λ i h h' st k=>st.at λ o e=>k it (by simp) o e
 item:=by
  intro X hP hw hK hc i pins s σ H E I hf st hg;subst hP hw hK;obtain⟨xs,x,hq,hx⟩:=hg;obtain⟨its,rv,p,hz⟩:=I.tuple hq;obtain⟨u,hu,ru⟩:=rv.get hx;obtain⟨f0,f1,f2,f3,f4,f5⟩:=hf it (by simp);refine wpAny_pyNext_tuple_item st (show s.heap.IsTuple a its.toArray from p) (x:=u) (by simpa using hu) λ h' st' sb=>?_;have I1:Inv X pins σ H { s with heap:=h' }:=I.turned (t':=s.toks) (λ b o hb e=>(sb.2 b hb).trans e) f0 f1 f3 f4 f5;obtain⟨o,e,c,d⟩:=id st';exact⟨u,rfl,N0 (s:={ s with heap:=h' }) e c d (by decide) ⟨x,H,I1,ru,⟨rfl,λ ys hy=>by rw[I.tuple_inj hy hq];exact hx⟩,st',λ b hb=>(hf b hb).1⟩⟩
 done:=by
  intro X hP hw hK hc i pins s σ H E I hf st hg;subst hP hw hK;obtain⟨xs,hq,hx⟩:=hg;obtain⟨its,rv,p,hz⟩:=I.tuple hq;obtain⟨f0,f1,f2,f3,f4,f5⟩:=hf it (by simp);have hl:=rv.length;exact wpAny_pyNext_tuple_end (I.ok.hd hc) st (show s.heap.IsTuple a its.toArray from p) (by simp;lia) λ h' eb=>⟨rfl,I.turned (t':=s.toks) (λ b o hb e=>eb b o hb e) f0 f1 f3 f4 f5⟩
 self:=λ_ _ _ _ _ st h=>wpAny_pyIter_tupleiter st h
theorem Ma{P:Program}{w:World}{K:Frag}{tg:Expr}(it:Addr)(lo:Int)(n:Nat):MO P w K tg (Itr lo n) [it] it (λ i h=>IsRangeIter h it (lo+(i:Nat)*1) ((n:Int)-(i:Nat)) 1) where
 mem:=by simp
 obj:=λ i h st b hb=>by
  have e:b=it:=by simpa using hb
  subst e;exact⟨_,st,λ v z=>by
   have z':Data.fields _=Data.cell v:=z;cases z'⟩
 keep:=λ i h h' st k=>k it (by simp) _ st
 item:=by
  intro X hP hw hK hc i pins s σ H E I hf st hg;subst hP hw hK;obtain⟨f0,f1,f2,f3,f4,f5⟩:=hf it (by simp);have W:=Walks.range (prog:=X.prog) (w:=X.w) (I.ok.hd hc) it lo 1 n;refine W.item i s _ _ hg st λ v h' tk hv st' kk=>?_;obtain⟨t,rfl⟩:=hv;have I1:Inv X pins σ H { s with heap:=h',toks:=tk }:=I.turned (λ b o hb e=>kk b o (by simpa using hb) e) f0 f1 f3 f4 f5;refine⟨_,rfl,N0 (s:={ s with heap:=h',toks:=tk }) (n:="range_iterator") st' rfl rfl (by decide) ⟨.int (lo+i),H,I1,⟨t,?_⟩,⟨rfl,rfl⟩,st',λ b hb=>(hf b hb).1⟩⟩;rw[Int.mul_one]
 done:=by
  intro X hP hw hK hc i pins s σ H E I hf st hg;subst hP hw hK;obtain⟨f0,f1,f2,f3,f4,f5⟩:=hf it (by simp);exact wpAny_pyNext_range_end (I.ok.hd hc) st (by have:n<=i:=hg;lia) λ h' eb=>⟨rfl,I.turned (t':=s.toks) (λ b o hb e=>eb b o hb e) f0 f1 f3 f4 f5⟩
 self:=λ_ _ _ _ _ st h=>wpAny_pyIter_rangeiter st h
section
variable{X:Cx}{tg:Expr}
inductive SU(x:V)(S Q:Addr->Prop):Prop
 |mk (a:Addr) (e:x=.ref a) (s:S a) (q:Q a):SU x S Q
def TL(K:Frag)(tl:TE):TI:=λ σ H R=>tl σ H λ x H1=>SU x (λ a=>∃xs,SqL K H1 a xs) λ a=>R (Itl K a) H1
def UP(K:Frag)(tl:TE):TI:=λ σ H R=>tl σ H λ x H1=>SU x (λ a=>∃xs,SqT K H1 a xs) λ a=>R (Itt K a) H1
theorem Ch{l:Expr}{tl:TE}(hl:PE X l tl):PI X tg l (TL X.K tl):=by
 intro pins s σ H R I h;refine thn (hl pins s σ H _ I h) λ v s1 hz_=>?_;obtain⟨x,H1,I1,r1,q1⟩:=hz_;obtain⟨a,e,⟨xs,hq⟩,q⟩:=q1;subst e;cases r1;obtain⟨its,rv,p,hz⟩:=I1.list hq;refine wpAny_pyIter_list p.isList ?_;refine⟨s1.heap.objs.size,[s1.heap.objs.size],_,_,H1,rfl,I1.kept (t':=s1.toks) λ b o e=>Heap.get?_push_of_some _ e,NU a _,⟨_,Heap.get?_push_size _ rfl,rfl,rfl⟩,λ b hb=>?_,q⟩;have e:b=s1.heap.objs.size:=by simpa using hb
 subst e;exact I1.fpOk (Nat.le_refl _) (I1.hok.fresh (Nat.le_refl _))
theorem JG{l:Expr}{tl:TE}(hl:PE X l tl):PI X tg l (UP X.K tl):=by
 intro pins s σ H R I h;refine thn (hl pins s σ H _ I h) λ v s1 hz_=>?_;obtain⟨x,H1,I1,r1,q1⟩:=hz_;obtain⟨a,e,⟨xs,hq⟩,q⟩:=q1;subst e;cases r1;obtain⟨its,rv,p,hz⟩:=I1.tuple hq;refine wpAny_pyIter_tuple (show s1.heap.IsTuple a its.toArray from p) ?_;refine⟨s1.heap.objs.size,[s1.heap.objs.size],_,_,H1,rfl,I1.kept (t':=s1.toks) λ b o e=>Heap.get?_push_of_some _ e,LZ a _,⟨_,Heap.get?_push_size _ rfl,rfl,rfl⟩,λ b hb=>?_,q⟩;have e:b=s1.heap.objs.size:=by simpa using hb
 subst e;exact I1.fpOk (Nat.le_refl _) (I1.hok.fresh (Nat.le_refl _))
theorem KI{pins:PNz}{σ:St}{H:Hp}{s:Shared}{R:It->Hp->Prop}{E:VPz}{lo hi:Int}{t u v:Tok}{tk:Nat}(I:Inv X pins σ H s)(h1:-(2^62)<=lo)(h2:lo<2^62)(h3:-(2^62)<=hi)(h4:hi<2^62)
  (q:R (Itr lo (hi-lo).toNat) H):wpAny (model X.prog X.w) X.A (pyIter (.ref s.heap.objs.size)) (PIE X pins σ tg R) E { s with heap:=s.heap.push { cls:=.type "range",data:=.fields #[.int lo t,.int hi u,.int 1 v] },toks:=tk }:=by
 refine wpAny_pyIter_range (IsRange.new ..) (small_one h1 h2 h3 h4) ?_;have I1:Inv X pins σ H { s with heap:=s.heap.push { cls:=.type "range",data:=.fields #[.int lo t,.int hi u,.int 1 v] },toks:=tk }:=I.kept λ b o e=>Heap.get?_push_of_some _ e;refine⟨(s.heap.push { cls:=.type "range",data:=.fields #[.int lo t,.int hi u,.int 1 v] }).objs.size,[(s.heap.push { cls:=.type "range",data:=.fields #[.int lo t,.int hi u,.int 1 v] }).objs.size],_,_,H,rfl,
  I1.kept (t':=tk) λ b o e=>Heap.get?_push_of_some _ e,Ma _ lo (hi-lo).toNat,?_,λ b hb=>?_,q⟩
 .have e1:lo+((0:Nat):Int)*1=lo:=by simp
  have e2:(((hi-lo).toNat:Nat):Int)-((0:Nat):Int)=Builtin.Range.rangeSize lo hi 1:=by rw[rangeSize_one];split<;>lia
  show IsRangeIter _ _ (lo+((0:Nat):Int)*1) ((((hi-lo).toNat:Nat):Int)-((0:Nat):Int)) 1;rw[e1,e2];exact Heap.get?_push_size _ rfl
 .have e:b=(s.heap.push { cls:=.type "range",data:=.fields #[.int lo t,.int hi u,.int 1 v] }).objs.size:=by simpa using hb
  subst e;exact I1.fpOk (Nat.le_refl _) (I1.hok.fresh (Nat.le_refl _))
inductive RX(vs:LUz)(R:Int->Prop):Prop
 |mk (j:Int) (e:vs=[.int j]) (l:-(2^62)<=j) (h:j<2^62) (q:R j):RX vs R
def TK(ta:TA):TI:=λ σ H R=>ta σ H λ vs H1=>RX vs λ j=>R (Itr 0 j.toNat) H1
def TJ(ta:TA):TI:=λ σ H R=>ta σ H λ vs H1=>∃i j:Int,vs=[.int i,.int j]/\(-(2^62)<=i/\i<2^62/\-(2^62)<=j/\j<2^62)/\R (Itr i (j-i).toNat) H1
theorem Ck{a:Expr}{ta:TA}{p pos:Pos}(hg:Gl X "range")(hm:X.mg "range"=none)(ha:PA X [a] ta)(hs:starEach [a] X.env=[(false,eval a X.env)]:=by rfl):PI X tg (.Call (.Name "range" p) [a] [] pos) (TK ta):=by
 intro pins s σ H R I h;refine Call_ (D7 I hg hm boot_range (PyProof.Rows.callWith_type1 (thn (ha pos pins s σ H _ I h) λ us s1 hz_=>?_) hs rfl));obtain⟨vs,H1,I1,r1,q1⟩:=hz_;obtain⟨j,e,q1,q2,q⟩:=q1;subst e;cases r1 with
 |cons r rr =>
  cases rr;obtain⟨t,rfl⟩:=r;exact call_range_1 (KI I1 (by lia) (by lia) q1 q2 (by simpa using q))
theorem Dh{a b:Expr}{ta:TA}{p pos:Pos}(hg:Gl X "range")(hm:X.mg "range"=none)(ha:PA X [a,b] ta)(hs:starEach [a,b] X.env=[(false,eval a X.env),(false,eval b X.env)]:=by rfl)(hs2:starEach [b] X.env=[(false,eval b X.env)]:=by rfl) :
  PI X tg (.Call (.Name "range" p) [a,b] [] pos) (TJ ta):=by
 intro pins s σ H R I h;refine Call_ (D7 I hg hm boot_range (PyProof.Rows.callWith_type1 (thn (ha pos pins s σ H _ I h) λ us s1 hz_=>?_) (by rw[hs,hs2]) (by rw[hs2];rfl)));obtain⟨vs,H1,I1,r1,q1⟩:=hz_;obtain⟨i,j,e,⟨q1,q2,q3,q4⟩,q⟩:=q1;subst e;cases r1 with
 |cons r rr =>
  cases rr with
  |cons r' rr =>
   cases rr;obtain⟨t,rfl⟩:=r;obtain⟨t',rfl⟩:=r';exact call_range_2 (KI I1 q1 q2 q3 q4 q)
def U3(wi:TI)(g:TG)(tb:TS):TS:=λ D σ H=>wi σ H λ J H1=>∃W:Nat->Nat->St->Hp->Prop,(∃m,W 0 m σ H1)/\∀i m σ H,W i m σ H ->
 (J.stop i H/\D.nx σ H)\/(J.go i H/\∃N:St->Hp->Prop,(∀σ' H',N σ' H'->∃m',m'<m/\W (i+1) m' σ' H')/\∀x H',J.yld i H x H'->g x σ H' λ σ2 H2=>tb { D with nx:=N,ct:=N,bk:=D.nx } σ2 H2)
def JF(fp:List Addr)(h:Heap):PNz:=fp.filterMap λ b=>(h.get? b).map λ o=>(b,o)
theorem Bd{fp:List Addr}{h:Heap}{b:Addr}{o:Obj}(hb:b∈fp)(e:h.get? b=some o):(b,o)∈JF fp h:=List.mem_filterMap.mpr ⟨b,hb,by rw[e];rfl⟩
theorem Oj{fp:List Addr}{h:Heap}{p:Addr×Obj}(hp:p∈JF fp h):p.1∈fp/\h.get? p.1=some p.2:=by
 obtain⟨b,hb,e⟩:=List.mem_filterMap.mp hp;cases q:h.get? b with
 |none=>rw[q]at e;cases e
 |some o =>
  rw[q]at e;have e':(b,o)=p:=Option.some.inj e;subst e';exact⟨hb,q⟩
theorem Inv.pinned{pins:PNz}{σ:St}{H:Hp}{s:Shared}{fp:List Addr}(I:Inv X pins σ H s)(hf:∀b∈fp,EN X pins H b)(ho:∀b∈fp,∃o,s.heap.get? b=some o/\∀v,o.data≠.cell v):Inv X (pins++JF fp s.heap) σ H s :=
 I.pins_of λ p hp=>(List.mem_append.mp hp).elim (λ z=>I.pin p (List.mem_append_right _ z)) λ z=>by
  obtain⟨hb,e⟩:=Oj z;obtain⟨f0,f1,f2,_⟩:=hf p.1 hb;obtain⟨o,e',d⟩:=ho p.1 hb;rw[e]at e';cases e';exact⟨e,f0,f1,f2,d⟩
theorem Inv.unpinned{pins pl:PNz}{σ:St}{H:Hp}{s:Shared}(I:Inv X (pins++pl) σ H s):Inv X pins σ H s:=I.pins_of λ p hp=>I.pin p (List.mem_append_right _ (List.mem_append_left _ hp))
theorem Bh{iter:Expr}{body:List Stmt}{wi:TI}{g:TG}{tb:TS}{pos:Pos}(hp:PassesOwn (model X.prog X.w) X.A X.env X.xe)(hc:X.calm=true)(hi:PI X tg iter wi)(hg:PG X tg g)(hb:PSs X body tb)
  (hs:∀x,foldedSetIterable iter X.env x=pure x:=by intro _;rfl):PS X (.For tg iter body [] pos) (U3 wi g tb):=by
 intro pins s σ H D I h;refine wpAny_For (thn (hi pins s σ H _ I h) λ v s1 h1=>thn h1 λ itv s2 h2=>?_) hs;obtain⟨it,fp,tn,J,H2,e,I2,T,st2,f2,W,⟨m0,w0⟩,turn⟩:=h2;subst e;have stat:∀{H':Hp},(∀b∈fp,H' b=none)->∀b∈fp,EN X pins H' b:=λ hn b hb=>⟨hn b hb,(f2 b hb).2⟩;refine codeAny_forLoop_any (λ n s'=>∃i σ' H',Inv X pins σ' H' s'/\tn i s'.heap/\(∀b∈fp,H' b=none)/\W i n σ' H') ?_ m0 ⟨0,σ,H2,I2,st2,λ b hb=>(f2 b hb).1,w0⟩;rintro n s3 ⟨i,σ3,H3,I3,st3,fr3,w3⟩;rcases turn i n σ3 H3 w3 with ⟨stop,qn⟩|⟨go,N,hN,step⟩
 .refine wpAny_passesOwn hp (thn (T.done X rfl rfl rfl hc i pins s3 σ3 H3 X.xe I3 (stat fr3) st3 stop) λ r s4 hz_=>?_);obtain⟨hr,I4⟩:=hz_;subst hr;exact wpAny_execs_nil ⟨σ3,H3,I4,qn⟩
 .refine wpAny_passesOwn hp (thn (T.item X rfl rfl rfl hc i pins s3 σ3 H3 X.xe I3 (stat fr3) st3 go) λ r s4 hz_=>?_);obtain⟨u,hr,h4⟩:=hz_;subst hr;refine wpAny_passesOwn hp (thn h4 λ_ s5 hz_=>?_);obtain⟨x,H5,I5,r5,y5,st5,fr5⟩:=hz_;have I5':=I5.pinned (stat fr5) (T.obj _ _ st5);refine wpAny_passesOwn hp (thn (hg _ s5 σ3 H5 x u _ I5' r5 (step x H5 y5)) λ_ s6 hz_=>?_);obtain⟨σ6,H6,I6,q6⟩:=hz_;refine wpAny_passesOwn hp (thn (hb _ s6 σ6 H6 _ I6 q6) λ f s7 q7=>?_);have again:∀{σ7:St}{H7:Hp},Inv X (pins++JF fp s5.heap) σ7 H7 s7->N σ7 H7->∃m,m<n/\∃i σ' H',Inv X pins σ' H' s7/\tn i s7.heap/\(∀b∈fp,H' b=none)/\W i m σ' H':=λ{σ7 H7} I7 n7=>by
   obtain⟨m',hm,w7⟩:=hN σ7 H7 n7;refine⟨m',hm,i+1,σ7,H7,I7.unpinned,T.keep _ _ _ st5 λ b hb o e=>(I7.pin (b,o) (List.mem_append_right _ (List.mem_append_right _ (Bd hb e)))).1,λ b hb=>?_,w7⟩;obtain⟨o,e,d⟩:=T.obj _ _ st5 b hb;exact(I7.pin (b,o) (List.mem_append_right _ (List.mem_append_right _ (Bd hb e)))).2.1
  cases f with
  |next=>obtain⟨σ7,H7,I7,n7⟩:=q7;exact again I7 n7
  |cont=>obtain⟨σ7,H7,I7,n7⟩:=q7;exact again I7 n7
  |brk=>obtain⟨σ7,H7,I7,q7⟩:=q7;exact⟨σ7,H7,I7.unpinned,q7⟩
  |ret v=>obtain⟨x7,σ7,H7,I7,r7,q7⟩:=q7;exact⟨x7,σ7,H7,I7.unpinned,r7,q7⟩
end
theorem DX{K:Frag}{a:Addr}{xs:LUz}{g:TG}{tb:TS}{D:Eb}{σ:St}{H:Hp}(Pv:Nat->St->Hp->Prop)(h0:Pv 0 σ H)(hl:∀i σ H,i<=xs.length->Pv i σ H->SqL K H a xs)
  (hs:∀i x σ H,xs[i]?=some x->Pv i σ H->g x σ H λ σ2 H2=>tb { D with nx:=Pv (i+1),ct:=Pv (i+1),bk:=D.nx } σ2 H2) (hd:∀σ H,Pv xs.length σ H->D.nx σ H) :
  ∃W:Nat->Nat->St->Hp->Prop,(∃m,W 0 m σ H)/\∀i m σ H,W i m σ H ->
   ((Itl K a).stop i H/\D.nx σ H)\/((Itl K a).go i H/\∃N:St->Hp->Prop,(∀σ' H',N σ' H'->∃m',m'<m/\W (i+1) m' σ' H')/\∀x H',(Itl K a).yld i H x H'->g x σ H' λ σ2 H2=>tb { D with nx:=N,ct:=N,bk:=D.nx } σ2 H2):=by
 refine⟨λ i m σ H=>m=xs.length-i/\i<=xs.length/\Pv i σ H,⟨xs.length,by simp,Nat.zero_le _,h0⟩,?_⟩;rintro i m σ H ⟨rfl,hi,p⟩;have q:=hl i σ H hi p;by_cases hlt:i<xs.length
 .refine .inr ⟨⟨xs,xs[i],q,by simp[hlt]⟩,Pv (i+1),λ σ' H' p'=>⟨xs.length-(i+1),by lia,rfl,hlt,p'⟩,λ x H' y=>?_⟩;obtain⟨e,y⟩:=y;subst e;exact hs i x σ _ (y xs q) p
 .have e:i=xs.length:=by lia
  subst e;exact .inl ⟨⟨xs,q,Nat.le_refl _⟩,hd σ H p⟩
theorem JZ{K:Frag}{a:Addr}{xs:LUz}{g:TG}{tb:TS}{D:Eb}{σ:St}{H:Hp}(Pv:Nat->St->Hp->Prop)(h0:Pv 0 σ H)(hl:∀i σ H,i<=xs.length->Pv i σ H->SqT K H a xs)
  (hs:∀i x σ H,xs[i]?=some x->Pv i σ H->g x σ H λ σ2 H2=>tb { D with nx:=Pv (i+1),ct:=Pv (i+1),bk:=D.nx } σ2 H2) (hd:∀σ H,Pv xs.length σ H->D.nx σ H) :
  ∃W:Nat->Nat->St->Hp->Prop,(∃m,W 0 m σ H)/\∀i m σ H,W i m σ H ->
   ((Itt K a).stop i H/\D.nx σ H)\/((Itt K a).go i H/\∃N:St->Hp->Prop,(∀σ' H',N σ' H'->∃m',m'<m/\W (i+1) m' σ' H')/\∀x H',(Itt K a).yld i H x H'->g x σ H' λ σ2 H2=>tb { D with nx:=N,ct:=N,bk:=D.nx } σ2 H2):=by
 refine⟨λ i m σ H=>m=xs.length-i/\i<=xs.length/\Pv i σ H,⟨xs.length,by simp,Nat.zero_le _,h0⟩,?_⟩;rintro i m σ H ⟨rfl,hi,p⟩;have q:=hl i σ H hi p;by_cases hlt:i<xs.length
 .refine .inr ⟨⟨xs,xs[i],q,by simp[hlt]⟩,Pv (i+1),λ σ' H' p'=>⟨xs.length-(i+1),by lia,rfl,hlt,p'⟩,λ x H' y=>?_⟩;obtain⟨e,y⟩:=y;subst e;exact hs i x σ _ (y xs q) p
 .have e:i=xs.length:=by lia
  subst e;exact .inl ⟨⟨xs,q,Nat.le_refl _⟩,hd σ H p⟩
theorem BP{lo:Int}{n:Nat}{g:TG}{tb:TS}{D:Eb}{σ:St}{H:Hp}(Pv:Nat->St->Hp->Prop)(h0:Pv 0 σ H)
  (hs:∀i σ H,i<n->Pv i σ H->g (.int (lo+i)) σ H λ σ2 H2=>tb { D with nx:=Pv (i+1),ct:=Pv (i+1),bk:=D.nx } σ2 H2) (hd:∀σ H,Pv n σ H->D.nx σ H) :
  ∃W:Nat->Nat->St->Hp->Prop,(∃m,W 0 m σ H)/\∀i m σ H,W i m σ H ->
   ((Itr lo n).stop i H/\D.nx σ H)\/((Itr lo n).go i H/\∃N:St->Hp->Prop,(∀σ' H',N σ' H'->∃m',m'<m/\W (i+1) m' σ' H')/\∀x H',(Itr lo n).yld i H x H'->g x σ H' λ σ2 H2=>tb { D with nx:=N,ct:=N,bk:=D.nx } σ2 H2):=by
 refine⟨λ i m σ H=>m=n-i/\i<=n/\Pv i σ H,⟨n,by simp,Nat.zero_le _,h0⟩,?_⟩;rintro i m σ H ⟨rfl,hi,p⟩;by_cases hlt:i<n
 .refine .inr ⟨hlt,Pv (i+1),λ σ' H' p'=>⟨n-(i+1),by lia,rfl,hlt,p'⟩,λ x H' y=>?_⟩;obtain⟨e,y⟩:=y;subst e y;exact hs i σ _ hlt p
 .have e:i=n:=by lia
  subst e;exact .inl ⟨Nat.le_refl _,hd σ H p⟩
abbrev R2:=V->V->Hp->VK->Prop
def OpR(X:Cx)(f:Value->Value->Sem Value)(r:R2):Prop :=
 ∀(pins:PNz)(s:Shared)(σ:St)(H:Hp)(x y:V)(v u:Value)(Q:VK),Inv X pins σ H s->RelV x v->RelV y u->r x y H Q ->
  wpAny (model X.prog X.w) X.A (f v u) (EP X pins σ Q) X.xe s
def UnR(X:Cx)(f:Value->Sem Value)(r:V->Hp->VK->Prop):Prop :=
 ∀(pins:PNz)(s:Shared)(σ:St)(H:Hp)(x:V)(v:Value)(Q:VK),Inv X pins σ H s->RelV x v->r x H Q ->
  wpAny (model X.prog X.w) X.A (f v) (EP X pins σ Q) X.xe s
def Ec(X:Cx)(f:Value)(r:LUz->Hp->VK->Prop):Prop :=
 ∀(pins:PNz)(s:Shared)(σ:St)(H:Hp)(xs:LUz)(us:LWz)(Q:VK),Inv X pins σ H s->Vals xs us->r xs H Q ->
  wpAny (model X.prog X.w) X.A (call f us) (EP X pins σ Q) X.xe s
def UW(X:Cx)(r:V->Hp->(Bool->Hp->Prop)->Prop):Prop :=
 ∀(pins:PNz)(s:Shared)(σ:St)(H:Hp)(x:V)(v:Value)(Q:Bool->Hp->Prop),Inv X pins σ H s->RelV x v->r x H Q ->
  wpAny (model X.prog X.w) X.A (truthy v) (TP X pins σ Q) X.xe s
def tOp(r:R2)(ta tb:TE):TE:=λ σ H Q=>ta σ H λ x H1=>tb σ H1 λ y H2=>r x y H2 Q
def tUn(r:V->Hp->VK->Prop)(ta:TE):TE:=λ σ H Q=>ta σ H λ x H1=>r x H1 Q
inductive II1(C:Int->Int->Prop)(g:Int->Int->V)(x y:V)(H:Hp)(Q:VK):Prop
 |mk (i j:Int) (e1:x=.int i) (e2:y=.int j) (c:C i j) (q:Q (g i j) H):II1 C g x y H Q
inductive II0(g:Int->Int->V)(x y:V)(H:Hp)(Q:VK):Prop
 |mk (i j:Int) (e1:x=.int i) (e2:y=.int j) (q:Q (g i j) H):II0 g x y H Q
inductive IU(g:Int->V)(x:V)(H:Hp)(Q:VK):Prop
 |mk (i:Int) (e:x=.int i) (q:Q (g i) H):IU g x H Q
def rI(C:Int->Int->Prop)(g:Int->Int->V):R2:=λ x y H Q=>II1 C g x y H Q
def rI0(g:Int->Int->V):R2:=λ x y H Q=>II0 g x y H Q
def rU(g:Int->V):V->Hp->VK->Prop:=λ x H Q=>IU g x H Q
section
variable{X:Cx}{a b c:Expr}{ta tb tc:TE}{pos:Pos}
theorem SK(ha:PE X a ta)(hb:PE X b tb){pins:PNz}{s:Shared}{σ:St}{H:Hp}{R:V->V->Hp->Prop}(I:Inv X pins σ H s)
  (h:ta σ H λ x H1=>tb σ H1 λ y H2=>R x y H2) {Q:VPz} {f:Value->Value->Sem Value}
  (hf:∀v u s2 x y H2,Inv X pins σ H2 s2->RelV x v->RelV y u->R x y H2->wpAny (model X.prog X.w) X.A (f v u) Q X.xe s2) :
  wpAny (model X.prog X.w) X.A (eval a X.env) (λ v s₁=>wpAny (model X.prog X.w) X.A (eval b X.env) (λ u s₂=>wpAny (model X.prog X.w) X.A (f v u) Q X.xe s₂) X.xe s₁) X.xe s:=by
 refine thn (ha pins s σ H _ I h) λ v s1 hz_=>?_;obtain⟨x,H1,I1,r1,q1⟩:=hz_;refine thn (hb pins s1 σ H1 _ I1 q1) λ u s2 hz_=>?_;obtain⟨y,H2,I2,r2,q2⟩:=hz_;exact hf v u s2 x y H2 I2 r1 r2 q2
theorem Az{op:Operator}{r:R2}(ho:OpR X (binaryOp op) r)(ha:PE X a ta)(hb:PE X b tb):PE X (.BinOp a op b pos) (tOp r ta tb):=by
 intro pins s σ H Q I h;exact wpAny_BinOp (SK ha hb I h λ v u s2 x y H2 I2 rx ry q=>ho pins s2 σ H2 x y v u Q I2 rx ry q)
theorem Tz{op:UnaryOp}{r:V->Hp->VK->Prop}(ho:UnR X (unaryOp op) r)(ha:PE X a ta):PE X (.UnaryOp op a pos) (tUn r ta):=by
 intro pins s σ H Q I h;exact UnaryOp_ (thn (ha pins s σ H _ I h) λ v s1 ⟨x,H1,I1,r1,q1⟩=>ho pins s1 σ H1 x v Q I1 r1 q1)
theorem opI{f:Value->Value->Sem Value}{C:Int->Int->Prop}{g:Int->Int->Int}
  (rule:∀(i j:Int)(t u:Tok)(s:Shared)(Q:VPz)(E:VPz),C i j->Q (.int (g i j) s.toks) { s with toks:=s.toks+1 }->wpAny (model X.prog X.w) X.A (f (.int i t) (.int j u)) Q E s) :
  OpR X f (rI C λ i j=>.int (g i j)):=by
 intro pins s σ H x y v u Q I rx ry h;obtain⟨i,j,rfl,rfl,hc,q⟩:=h;obtain⟨t,rfl⟩:=rx;obtain⟨t',rfl⟩:=ry;exact rule i j t t' s _ _ hc ⟨.int (g i j),H,I.tok _,⟨_,rfl⟩,q⟩
theorem T7{f:Value->Value->Sem Value}{g:Int->Int->Int}
  (rule:∀(i j:Int)(t u:Tok)(s:Shared)(Q:VPz)(E:VPz),Q (.int (g i j) s.toks) { s with toks:=s.toks+1 }->wpAny (model X.prog X.w) X.A (f (.int i t) (.int j u)) Q E s) :
  OpR X f (rI0 λ i j=>.int (g i j)):=by
 intro pins s σ H x y v u Q I rx ry h;obtain⟨i,j,rfl,rfl,q⟩:=h;obtain⟨t,rfl⟩:=rx;obtain⟨t',rfl⟩:=ry;exact rule i j t t' s _ _ ⟨.int (g i j),H,I.tok _,⟨_,rfl⟩,q⟩
theorem Sy{f:Value->Value->Sem Value}{g:Int->Int->Bool}
  (rule:∀(i j:Int)(t u:Tok)(s:Shared)(Q:VPz)(E:VPz),Q (.bool (g i j)) s->wpAny (model X.prog X.w) X.A (f (.int i t) (.int j u)) Q E s) :
  OpR X f (rI0 λ i j=>.bl (g i j)):=by
 intro pins s σ H x y v u Q I rx ry h;obtain⟨i,j,rfl,rfl,q⟩:=h;obtain⟨t,rfl⟩:=rx;obtain⟨t',rfl⟩:=ry;exact rule i j t t' s _ _ ⟨.bl (g i j),H,I,rfl,q⟩
def Uw(i j:Int):Prop:=0<=j/\j<=1000000/\i.natAbs<2^64
theorem AW:OpR X (binaryOp .Add) (rI0 λ i j=>.int (i+j)):=T7 λ_ _ _ _ _ _ _ q=>add_int q
theorem EE:OpR X (binaryOp .Sub) (rI0 λ i j=>.int (i-j)):=T7 λ_ _ _ _ _ _ _ q=>sub_int q
theorem BO:OpR X (binaryOp .Mod) (rI (λ_ j=>0<j) λ i j=>.int (i % j)):=opI λ i j _ _ _ _ _ hc q=>by
 have h1:(0:Int)<j:=hc;exact mod_int' (by lia) (by rw[Int.fmod_eq_emod_of_nonneg i (by lia)];exact q)
theorem Mn:OpR X (binaryOp .Pow) (rI Uw λ i j=>.int (i^j.toNat)):=opI λ_ _ _ _ _ _ _ hc q=>pow_int_small hc.1 hc.2.1 hc.2.2 q
theorem unI{f:Value->Sem Value}{g:Int->Int}
  (rule:∀(i:Int)(t:Tok)(s:Shared)(Q:VPz)(E:VPz),Q (.int (g i) s.toks) { s with toks:=s.toks+1 }->wpAny (model X.prog X.w) X.A (f (.int i t)) Q E s) :
  UnR X f (rU λ i=>.int (g i)):=by
 intro pins s σ H x v Q I rx h;obtain⟨i,rfl,q⟩:=h;obtain⟨t,rfl⟩:=rx;exact rule i t s _ _ ⟨.int (g i),H,I.tok _,⟨_,rfl⟩,q⟩
theorem Sb:UnR X (unaryOp .USub) (rU λ i=>.int (-i)):=unI λ_ _ _ _ _ q=>neg_int q
end
def Tl:V->V->Bool
 |.non,.non=>true|.non,.int _=>true|.int _,.non=>true|.non,.bl _=>true|.bl _,.non=>true|.non,.str _=>true|.str _,.non=>true
 |.int _,.int _=>true|.bl _,.bl _=>true|.str _,.str _=>true|.byt _,.byt _=>true
 |.int _,.str _=>true|.str _,.int _=>true|.bl _,.str _=>true|.str _,.bl _=>true
 |_,_=>false
def rEq:R2:=λ x y H Q=>Tl x y=true/\Q (.bl (decide (x=y))) H
def rNe:R2:=λ x y H Q=>Tl x y=true/\Q (.bl (!decide (x=y))) H
theorem N7{i j:Int}:decide (V.int i=V.int j)=(i==j):=by
 rw[Bool.eq_iff_iff];simp
theorem Qe{i j:Bool}:decide (V.bl i=V.bl j)=(i==j):=by
 rw[Bool.eq_iff_iff];simp
theorem N6{i j:Str}:decide (V.str i=V.str j)=(i==j):=by
 rw[Bool.eq_iff_iff];simp
theorem N8{i j:Array UInt8}:decide (V.byt i=V.byt j)=(i.toList==j.toList):=by
 rw[Bool.eq_iff_iff];cases i;cases j;simp
section
variable{X:Cx}{a b c:Expr}{ta tb tc:TE}{pos:Pos}
theorem A8{pins:PNz}{σ:St}{H:Hp}{s:Shared}{Q:VK}{k k':Bool}(I:Inv X pins σ H s)(q:Q (.bl k) H)(e:k=k'):EP X pins σ Q (.bool k') s:=by
 subst e;exact⟨.bl k,H,I,rfl,q⟩
theorem BN:OpR X (compareOp .Eq) rEq:=by
 intro pins s σ H x y v u Q I rx ry h;obtain⟨hs,q⟩:=h;cases x with
 |non =>
  cases rx;cases y with
  |non=>cases ry;exact PySem.EqNone.eq_none_none (A8 I q (by simp))
  |bl j=>cases ry;exact PySem.EqNone.eq_none_bool (A8 I q (by simp))
  |int j=>obtain⟨t',rfl⟩:=ry;exact PySem.EqNone.eq_none_int (A8 I q (by simp))
  |str j=>obtain⟨t',rfl⟩:=ry;exact PySem.EqNone.eq_none_str (A8 I q (by simp))
  |_=>exact absurd (show false=true from hs) Bool.false_ne_true
 |bl i =>
  cases rx;cases y with
  |non=>cases ry;exact PySem.EqNone.eq_bool_none (A8 I q (by simp))
  |bl j=>cases ry;exact eq_bool (A8 I q Qe)
  |str j=>obtain⟨t',rfl⟩:=ry;exact PySem.EqMixed.eq_bool_str (A8 I q (by simp))
  |_=>exact absurd (show false=true from hs) Bool.false_ne_true
 |int i =>
  obtain⟨t,rfl⟩:=rx;cases y with
  |non=>cases ry;exact PySem.EqNone.eq_int_none (A8 I q (by simp))
  |int j=>obtain⟨t',rfl⟩:=ry;exact eq_int (A8 I q N7)
  |str j=>obtain⟨t',rfl⟩:=ry;exact PySem.EqMixed.eq_int_str (A8 I q (by simp))
  |_=>exact absurd (show false=true from hs) Bool.false_ne_true
 |str i =>
  obtain⟨t,rfl⟩:=rx;cases y with
  |non=>cases ry;exact PySem.EqNone.eq_str_none (A8 I q (by simp))
  |bl j=>cases ry;exact PySem.EqMixed.eq_str_bool (A8 I q (by simp))
  |int j=>obtain⟨t',rfl⟩:=ry;exact PySem.EqMixed.eq_str_int (A8 I q (by simp))
  |str j=>obtain⟨t',rfl⟩:=ry;exact eq_str (A8 I q N6)
  |_=>exact absurd (show false=true from hs) Bool.false_ne_true
 |byt i =>
  obtain⟨t,rfl⟩:=rx;cases y with
  |byt j=>obtain⟨t',rfl⟩:=ry;exact eq_bytes (A8 I q N8)
  |_=>exact absurd (show false=true from hs) Bool.false_ne_true
 |_=>cases y<;>exact absurd (show false=true from hs) Bool.false_ne_true
theorem Nq:OpR X (compareOp .NotEq) rNe:=by
 intro pins s σ H x y v u Q I rx ry h;obtain⟨hs,q⟩:=h;cases x with
 |non =>
  cases rx;cases y with
  |non=>cases ry;exact PySem.EqNone.ne_none_none (A8 I q (by simp))
  |bl j=>cases ry;exact PySem.EqNone.ne_none_bool (A8 I q (by simp))
  |int j=>obtain⟨t',rfl⟩:=ry;exact PySem.EqNone.ne_none_int (A8 I q (by simp))
  |str j=>obtain⟨t',rfl⟩:=ry;exact PySem.EqNone.ne_none_str (A8 I q (by simp))
  |_=>exact absurd (show false=true from hs) Bool.false_ne_true
 |bl i =>
  cases rx;cases y with
  |non=>cases ry;exact PySem.EqNone.ne_bool_none (A8 I q (by simp))
  |bl j=>cases ry;exact ne_bool (A8 I q (congrArg not Qe))
  |str j=>obtain⟨t',rfl⟩:=ry;exact PySem.EqMixed.ne_bool_str (A8 I q (by simp))
  |_=>exact absurd (show false=true from hs) Bool.false_ne_true
 |int i =>
  obtain⟨t,rfl⟩:=rx;cases y with
  |non=>cases ry;exact PySem.EqNone.ne_int_none (A8 I q (by simp))
  |int j=>obtain⟨t',rfl⟩:=ry;exact ne_int (A8 I q (congrArg not N7))
  |str j=>obtain⟨t',rfl⟩:=ry;exact PySem.EqMixed.ne_int_str (A8 I q (by simp))
  |_=>exact absurd (show false=true from hs) Bool.false_ne_true
 |str i =>
  obtain⟨t,rfl⟩:=rx;cases y with
  |non=>cases ry;exact PySem.EqNone.ne_str_none (A8 I q (by simp))
  |bl j=>cases ry;exact PySem.EqMixed.ne_str_bool (A8 I q (by simp))
  |int j=>obtain⟨t',rfl⟩:=ry;exact PySem.EqMixed.ne_str_int (A8 I q (by simp))
  |str j=>obtain⟨t',rfl⟩:=ry;exact ne_str (A8 I q (congrArg not N6))
  |_=>exact absurd (show false=true from hs) Bool.false_ne_true
 |byt i =>
  obtain⟨t,rfl⟩:=rx;cases y with
  |byt j=>obtain⟨t',rfl⟩:=ry;exact ne_bytes (A8 I q (congrArg not N8))
  |_=>exact absurd (show false=true from hs) Bool.false_ne_true
 |_=>cases y<;>exact absurd (show false=true from hs) Bool.false_ne_true
theorem DV:OpR X (compareOp .Lt) (rI0 λ i j=>.bl (decide (i<j))):=Sy λ_ _ _ _ _ _ _ q=>lt_int q
theorem DD:OpR X (compareOp .LtE) (rI0 λ i j=>.bl (decide (i<=j))):=Sy λ_ _ _ _ _ _ _ q=>le_int q
theorem CC:OpR X (compareOp .Gt) (rI0 λ i j=>.bl (decide (j<i))):=Sy λ_ _ _ _ _ _ _ q=>gt_int q
theorem GK:OpR X (compareOp .Is) (λ x y H Q=>y=.non/\Q (.bl (decide (x=.non))) H):=by
 intro pins s σ H x y v u Q I rx ry h;obtain⟨rfl,q⟩:=h;cases ry;refine is_none_gen (A8 I q ?_);cases x<;>first
  | (cases rx;rfl)
  | (obtain⟨t,rfl⟩:=rx;rfl)
theorem Gn:OpR X (compareOp .IsNot) (λ x y H Q=>y=.non/\Q (.bl (!decide (x=.non))) H):=by
 intro pins s σ H x y v u Q I rx ry h;obtain⟨rfl,q⟩:=h;cases ry;refine isnot_none_gen (A8 I q ?_);cases x<;>first
  | (cases rx;rfl)
  | (obtain⟨t,rfl⟩:=rx;rfl)
theorem Av(b:Expr){op:CmpOp}(h:op≠.In:=by decide)(h2:op≠.NotIn:=by decide):behindInMarks op b=false:=by
 have e1:(op==CmpOp.In)=false:=by cases op<;>first|rfl|exact absurd rfl h
 have e2:(op==CmpOp.NotIn)=false:=by cases op<;>first|rfl|exact absurd rfl h2
 cases b<;>simp[behindInMarks,e1,e2]
theorem Eo{op:CmpOp}{r:R2}(ho:OpR X (compareOp op) r)(ha:PE X a ta)(hb:PE X b tb)(hm:behindInMarks op b=false):PE X (.Compare a [op] [b] pos) (tOp r ta tb):=by
 intro pins s σ H Q I h;exact wpAny_Compare1 (SK ha hb I h λ v u s2 x y H2 I2 rx ry q=>ho pins s2 σ H2 x y v u Q I2 rx ry q) hm
def RA(t:TE):TT:=λ σ H Q=>t σ H λ x H'=>IBl x λ k=>Q k H'
theorem Ap{op:CmpOp}{r:R2}(ho:OpR X (compareOp op) r)(ha:PE X a ta)(hb:PE X b tb)(hm:behindInMarks op b=false):PT X (.Compare a [op] [b] pos) (RA (tOp r ta tb)):=by
 intro pins s σ H Q I h;refine wpAny_isTrue_Compare1 (thn (ha pins s σ H _ I h) λ v s1 ⟨x,H1,I1,r1,q1⟩=>thn (hb pins s1 σ H1 _ I1 q1) λ u s2 ⟨y,H2,I2,r2,q2⟩ =>
  thn (ho pins s2 σ H2 x y v u _ I2 r1 r2 q2) λ c s3 ⟨z,H3,I3,r3,k,e,q3⟩=>?_) hm
 subst e;cases r3;exact wpAny_truthy_bool ⟨H3,I3,q3⟩
def OZ(r r':R2)(ta tb tc:TE):TE:=λ σ H Q=>ta σ H λ x H1=>tb σ H1 λ y H2=>r x y H2 λ z H3=>IBl z λ k =>
 (if k=true then tc σ H3 λ w' H4=>r' y w' H4 Q else Q (.bl false) H3)
theorem BW{op op':CmpOp}{r r':R2}(ho:OpR X (compareOp op) r)(ho':OpR X (compareOp op') r')(ha:PE X a ta)(hb:PE X b tb)(hc:PE X c tc)
  (hm:lastMarks [op,op'] [b,c]=false:=by with_unfolding_all rfl):PE X (.Compare a [op,op'] [b,c] pos) (OZ r r' ta tb tc):=by
 intro pins s σ H Q I h;refine Compare_chain (thn (ha pins s σ H _ I h) λ v s1 ⟨x,H1,I1,r1,q1⟩=>chain_link (thn (hb pins s1 σ H1 _ I1 q1) λ u s2 ⟨y,H2,I2,r2,q2⟩ =>
  thn (ho pins s2 σ H2 x y v u _ I2 r1 r2 q2) λ d s3 ⟨z,H3,I3,r3,k,e,q3⟩=>?_)) hm
 subst e;cases r3;refine wpAny_truthy_bool ?_;cases k with
 |false=>exact ite_ff ⟨.bl false,H3,I3,rfl,q3⟩
 |true=>exact ite_tt (chain_last (thn (hc pins s3 σ H3 _ I3 q3) λ w' s4 ⟨z',H4,I4,r4,q4⟩=>ho' pins s4 σ H4 y z' u w' Q I4 r2 r4 q4))
theorem KM{op op':CmpOp}{r r':R2}(ho:OpR X (compareOp op) r)(ho':OpR X (compareOp op') r')(ha:PE X a ta)(hb:PE X b tb)(hc:PE X c tc)
  (hm:lastMarks [op,op'] [b,c]=false:=by with_unfolding_all rfl):PT X (.Compare a [op,op'] [b,c] pos) (RA (OZ r r' ta tb tc)):=by
 intro pins s σ H Q I h;refine isTrue_chain (thn (ha pins s σ H _ I h) λ v s1 ⟨x,H1,I1,r1,q1⟩=>test_link (thn (hb pins s1 σ H1 _ I1 q1) λ u s2 ⟨y,H2,I2,r2,q2⟩ =>
  thn (ho pins s2 σ H2 x y v u _ I2 r1 r2 q2) λ d s3 ⟨z,H3,I3,r3,k,e,q3⟩=>?_)) hm
 subst e;cases r3;refine wpAny_truthy_bool ?_;cases k with
 |false =>
  obtain⟨k',e',q'⟩:=q3;cases e';exact ite_ff ⟨H3,I3,q'⟩
 |true =>
  refine ite_tt (test_last (thn (hc pins s3 σ H3 _ I3 q3) λ w' s4 ⟨z',H4,I4,r4,q4⟩=>thn (ho' pins s4 σ H4 y z' u w' _ I4 r2 r4 q4) λ d' s5 ⟨z2,H5,I5,r5,k2,e2,q5⟩=>?_));subst e2;cases r5;exact wpAny_truthy_bool ⟨H5,I5,q5⟩
def Ue(K:Frag)(x:V)(H:Hp)(k:Bool):Prop :=
 match x with
 |.non=>k=false
 |.bl b=>k=b
 |.int i=>k=(i != 0)
 |.str y=>y.length<=sizeLine/\k=((y.length:Int) != 0)
 |.byt y=>y.size<=sizeLine/\k=((y.size:Int) != 0)
 |.ref p=>(∃xs,SqL K H p xs/\k=!xs.isEmpty)\/(∃xs,SqT K H p xs/\k=!xs.isEmpty)\/∃kvs,H p=some (.dK kvs)/\k=!kvs.isEmpty
 |_=>False
theorem M9{κ:Type}{kvs:List (κ×V)}{vs:List (κ×Value)}(r:KV kvs vs):(!vs.isEmpty)=!kvs.isEmpty:=by
 cases r<;>rfl
theorem Hi{xs:LUz}{its:LWz}(r:Vals xs its):(!its.toArray.isEmpty)=!xs.isEmpty:=by
 cases r<;>simp
theorem He:(sizeLine:Nat)<2^63:=by rw[sizeLine_eq];decide
theorem Se:UW X (λ x H Q=>∃k,Ue X.K x H k/\Q k H):=by
 intro pins s σ H x v Q I rx h;obtain⟨k,e,q⟩:=h;have hl:=He;have hs:sizeLine=16777216:=sizeLine_eq;cases x with
 |non =>
  cases rx;have e':k=false:=e;subst e';exact truthy_none ⟨H,I,q⟩
 |bl b =>
  cases rx;have e':k=b:=e;subst e';exact wpAny_truthy_bool ⟨H,I,q⟩
 |int i =>
  obtain⟨t,rfl⟩:=rx;have e':k=(i != 0):=e;subst e';exact PySem.P.truthy_int ⟨H,I,q⟩
 |str y =>
  obtain⟨t,rfl⟩:=rx;obtain⟨hy,e'⟩:y.length<=sizeLine/\k=((y.length:Int) != 0):=e;subst e';exact PySem.P.truthy_str (by lia) ⟨H,I.tok _,q⟩
 |byt y =>
  obtain⟨t,rfl⟩:=rx;obtain⟨hy,e'⟩:y.size<=sizeLine/\k=((y.size:Int) != 0):=e;subst e';exact truthy_bytes (by lia) ⟨H,I.tok _,q⟩
 |ref p =>
  cases rx;have e':(∃xs,SqL X.K H p xs/\k=!xs.isEmpty)\/(∃xs,SqT X.K H p xs/\k=!xs.isEmpty)\/∃kvs,H p=some (.dK kvs)/\k=!kvs.isEmpty:=e;rcases e' with ⟨xs,hx,e'⟩|⟨xs,hx,e'⟩|⟨kvs,hx,e'⟩
  .subst e';obtain⟨its,r,pl,hz⟩:=I.list hx;have hlen:=r.length;exact wpAny_truthy_list pl.isList (by simp only[List.size_toArray];lia) ⟨H,I.tok _,by rw[Hi r];exact q⟩
  .subst e';obtain⟨its,r,pl,hz⟩:=I.tuple hx;have hlen:=r.length;exact truthy_tuple pl (by simp only[List.size_toArray];lia) ⟨H,I.tok _,by rw[Hi r];exact q⟩
  .subst e';obtain⟨hz,hS,vs,r,m⟩:kvs.length<=sizeLine/\(p==sysModules)=false/\∃vs,KV kvs vs/\s.heap.DictOf (Bf X.prog X.w) p vs:=I.hok p _ hx;have hlen:kvs.length=vs.length:=Paired.length r;exact wpAny_truthy_dict hS m (by lia) ⟨H,I.tok _,by rw[M9 r];exact q⟩
 |_=>exact(show False from e).elim
theorem KL(ha:PE X a ta)(he:∀whole,isTrue a X.env whole=(do let v <-whole;standAt a.pos;holding [v] (truthy v))) :
    PT X a (λ σ H Q=>ta σ H λ x H'=>∃k,Ue X.K x H' k/\Q k H'):=by
  intro pins s σ H Q I h;exact isTrue_plain (thn (ha pins s σ H _ I h) λ v s1 ⟨x,H1,I1,r1,q1⟩=>Se pins s1 σ H1 x v Q I1 r1 q1) (he _)
theorem ER{x:V}{us:LWz}(r:Vals [x] us):∃u,us=[u]/\RelV x u:=by
 cases r with
 |cons r1 r2=>cases r2;exact⟨_,rfl,r1⟩
theorem MZ{x y:V}{us:LWz}(r:Vals [x,y] us):∃u w',us=[u,w']/\RelV x u/\RelV y w':=by
 cases r with
 |cons r1 r2 =>
  cases r2 with
  |cons r3 r4=>cases r4;exact⟨_,_,rfl,r1,r3⟩
theorem Jf(hc:X.calm=true):Ec X (.builtin "min") (λ xs H Q=>∃i j,xs=[.int i,.int j]/\Q (.int (if j<i then j else i)) H):=by
 intro pins s σ H xs us Q I r h;obtain⟨i,j,rfl,q⟩:=h;obtain⟨u,w',rfl,⟨t,rfl⟩,⟨t',rfl⟩⟩:=MZ r;refine min_two_ints (I.ok.hd hc) λ h' tk k=>⟨_,H,I.kept k,?_,q⟩;by_cases hj:j<i
 .rw[if_pos hj,if_pos hj];exact⟨_,rfl⟩
 .rw[if_neg hj,if_neg hj];exact⟨_,rfl⟩
theorem OA:Ec X (.type "int") (λ xs H Q=>(∃i,xs=[.int i]/\Q (.int i) H)\/∃k,xs=[.bl k]/\Q (.int (if k then 1 else 0)) H):=by
 intro pins s σ H xs us Q I r h;rcases h with ⟨i,rfl,q⟩|⟨k,rfl,q⟩
 .obtain⟨u,rfl,t,rfl⟩:=ER r;exact call_int_int ⟨.int i,H,I,⟨_,rfl⟩,q⟩
 .obtain⟨u,rfl,r1⟩:=ER r;cases r1;exact call_int_bool ⟨.int (if k then 1 else 0),H,I.tok _,⟨_,rfl⟩,q⟩
end
structure ObjM(h:Heap)(x dx C:Addr)(mA:MGz):Prop where
 obj:h.get? x=some (instObj C dx)
 ns:h.Ns1 dx mA
 ne:dx≠x
theorem IS{h:Heap}{dx:Addr}{mA:MGz}(n:h.Ns1 dx mA):∃od,h.get? dx=some od/\∀name,lookIn name od=some (mA name):=by
 obtain⟨o,es,ep,ho,hd,hk,_,hm⟩:=n;refine⟨o,ho,λ name=>?_⟩;have e:=hm name;unfold nsFind findBy at e;rw[<-Array.find?_toList]at e;unfold lookIn;rw[hd];dsimp only;split
 .rename_i y q;rw[q]at e;exact congrArg some e
 .rename_i q;rw[q]at e;have a:es.toList.any (·.refKey)=false:=by
   rw[List.any_eq_false];intro y hy;obtain⟨z,t,hkey⟩:=hk y (Array.mem_toList_iff.mp hy);simp[DictEntry.refKey,hkey]
  have a':¬es.toList.any (·.refKey)=true:=by rw[a];exact Bool.false_ne_true
  rw[if_neg a'];exact congrArg some e
theorem ObjM.look{h:Heap}{x dx C:Addr}{mA:MGz}(I:ObjM h x dx C mA):∃od,InstAt h x (instObj C dx) C (some od)/\∀name,lookIn name od=some (mA name) :=
 let ⟨od,ho,hl⟩:=IS I.ns
 ⟨od,⟨I.obj,rfl,rfl,ho⟩,hl⟩
section
variable{prog:Program}{w:World}{A:Around}{E:VPz}{s:Shared}{K:Frag}{x dx C f:Addr}{mA:MGz}{name:Str}{v:Value}
theorem Rm{expr:Bool}{Q:VPz}(X:K.In s.heap)(I:ObjM s.heap x dx C mA)(hg:plainGet K C name=true)(hh:hasDictIn K C=true)
  (ha:findIn K (.ref C) name=some none) (hv:mA name=some v) (hv':handedIn v=true) (h:Q v { s with toks:=s.toks+1 }) :
  wpAny (model prog w) A (getAttr (.ref x) name expr) Q E s:=by
 obtain⟨od,J,hl⟩:=I.look;exact get_value X J (plainGet_of hg).1 (findObj_own hh ha rfl (by rw[hl,hv])) hv' h
theorem QA{ns:LSz}{Q:Unit->Shared->Prop}(X:K.In s.heap)(I:ObjM s.heap x dx C mA)
  (hs:findIn K (.ref C) "__setattr__"=some (some (.builtin "object.__setattr__"))) (hp:plainOver K C=true) (ht:takerIn K C name=some none) (hh:hasDictIn K C=true)
  (hw:PySem.Within mA ns) (hsz:ns.length<=sizeLine)
  (h:∀h',ObjM h' x dx C (λ y=>if y=name then some v else mA y)->Heap.SameBut dx s.heap h'->Q () { s with heap:=h',toks:=s.toks+2 }) :
  wpAny (model prog w) A (setAttr (.ref x) name v) Q E s:=by
 obtain⟨od,J,hl⟩:=I.look;refine set_plain X J hs (osa_open (s:={ s with toks:=s.toks+1 }) (r:=none) X J hp ht λ b=>?_);obtain⟨cd,hc,hd'⟩:=any_some hh;have hx:s.heap.get? x=some ⟨.ref C,some dx,.plain,#[]⟩:=I.obj;refine wpAny_bind (wpAny_pure (wpAny_bind (wpAny_bind (wpAny_loadPart hx (wpAny_bind (Looks.here (s:={ s with toks:=s.toks+1 }) (looks_clsIn X hc) ?_))))));rw[hd'];refine wpAny_pure (a:=some dx) (wpAny_bind (wpAny_pure (wpAny_bind ?_)));refine wpAny_nsSet1 (s:={ s with toks:=s.toks+1 }) I.ns λ h' hn2 hs2=>?_;obtain⟨oD,esD,epD,hoD,hdD,hcD⟩:=hn2.count (PySem.Within.cons name v hw);refine wpAny_bind (wpAny_lookBehind hoD (by rw[hdD];exact pastItsLine_dict (Nat.le_trans hcD (by rw[List.length_cons];lia))) ?_);exact wpAny_pure (h _ ⟨(hs2.2 _ (Ne.symm I.ne)).trans I.obj,hn2,I.ne⟩ hs2)
theorem P6{R:Result->Shared->Prop}{vs:LWz}{kw:List (Str×Value)}(X:K.In s.heap)(hm:makesIn K C=true)
  (hi:findIn K (.ref C) "__init__"=some (some (.ref f))) (hf:typeIn K (.ref f)=some (.type "function"))
  (h:codeAny (model prog w) (A.under (.builtin "type.__call__" ⟨.ref C::vs,kw⟩)) (.call (.ref f) ⟨.ref (s.heap.objs.size+1)::vs,kw⟩) (InitBack (s.heap.objs.size+1) R)
   { s with heap:=(s.heap.push emptyDict).push (instObj C s.heap.objs.size) }) :
  codeAny (model prog w) A (.call (.ref C) ⟨vs,kw⟩) R s:=by
 obtain⟨hh,g,d,t,os⟩:=s;exact make_core (makes_of X hm) (looks_findIn X hi) (λ self=>bind_fn X self hf) (.inl rfl) h
end
def Cy(f:Str)(v:V):LFz->LFz
 |[]=>[(f,v)]
 | (g,x)::r=>if g=f then (g,v)::r else (g,x)::Cy f v r
theorem AU(f g:Str)(v:V):∀fs:LFz,(Cy f v fs).lookup g=if g=f then some v else fs.lookup g
 |[]=>by
  show List.lookup g [(f,v)]=_;by_cases h:g=f
  .have hb:(g==f)=true:=beq_iff_eq.mpr h;simp only[List.lookup,hb,if_pos h]
  .have hb:(g==f)=false:=beq_eq_false_iff_ne.mpr h;simp only[List.lookup,hb,if_neg h]
 | (k,x)::r=>by
  have ih:=AU f g v r;rw[show Cy f v ((k,x)::r)=(if k=f then (k,v)::r else (k,x)::Cy f v r) from rfl];by_cases hk:k=f
  .rw[if_pos hk];by_cases h:g=k
   .have hb:(g==k)=true:=beq_iff_eq.mpr h;simp only[List.lookup,hb,if_pos (h.trans hk)]
   .have hb:(g==k)=false:=beq_eq_false_iff_ne.mpr h;simp only[List.lookup,hb,if_neg (λ e:g=f=>h (e.trans hk.symm))]
  .rw[if_neg hk];by_cases h:g=k
   .have hb:(g==k)=true:=beq_iff_eq.mpr h;simp only[List.lookup,hb,if_neg (λ e:g=f=>hk (h.symm.trans e))]
   .have hb:(g==k)=false:=beq_eq_false_iff_ne.mpr h;simp only[List.lookup,hb];exact ih
theorem Do(f:Str)(v:V):∀fs:LFz,f∈(Cy f v fs).map (·.1)/\∀g,g∈fs.map (·.1)->g∈(Cy f v fs).map (·.1)
 |[]=>⟨by simp[Cy],λ g h=>by simp at h⟩
 | (k,x)::r=>by
  obtain⟨i1,i2⟩:=Do f v r;rw[show Cy f v ((k,x)::r)=(if k=f then (k,v)::r else (k,x)::Cy f v r) from rfl];by_cases hk:k=f
  .rw[if_pos hk];subst hk;exact⟨by simp,λ g h=>by simpa using h⟩
  .rw[if_neg hk];refine⟨?_,λ g h=>?_⟩
   .rw[List.map_cons];exact List.mem_cons_of_mem _ i1
   .rw[List.map_cons]at h |-;rcases List.mem_cons.mp h with e|e
    .exact List.mem_cons.mpr (.inl e)
    .exact List.mem_cons_of_mem _ (i2 g e)
theorem FW(f:Str)(v:V):∀fs:LFz,(Cy f v fs).length<=fs.length+1
 |[]=>by simp[Cy]
 | (k,x)::r=>by
  have ih:=FW f v r;rw[show Cy f v ((k,x)::r)=(if k=f then (k,v)::r else (k,x)::Cy f v r) from rfl];by_cases hk:k=f
  .rw[if_pos hk,List.length_cons,List.length_cons];lia
  .rw[if_neg hk,List.length_cons,List.length_cons];lia
theorem RelO.some_of{v:V}{o:Option Value}(r:RelO (some v) o):∃u,o=some u/\RelV v u:=by
 cases o with
 |none=>exact(show False from r).elim
 |some u=>exact⟨u,rfl,r⟩
theorem IY{v:V}{u:Value}(r:RelV v u):handedIn u=true:=by
 cases v with
 |non=>cases(show u=Value.none from r);rfl
 |bl b=>cases(show u=Value.bool b from r);rfl
 |int i=>obtain⟨t,e⟩:=(show ∃t,u=Value.int i t from r);cases e;rfl
 |str x=>obtain⟨t,e⟩:=(show ∃t,u=Value.str x t from r);cases e;rfl
 |byt b=>obtain⟨t,e⟩:=(show ∃t,u=Value.bytes b t from r);cases e;rfl
 |flt b=>obtain⟨t,e⟩:=(show ∃t,u=Value.float b t from r);cases e;rfl
 |ref a=>cases(show u=Value.ref a from r);rfl
 |ty n=>cases(show u=Value.type n from r);rfl
section
variable{P:Program}{w:World}{H H':Hp}{h h':Heap}{a C dx:Addr}{fs fs':LFz}
theorem JV(hok:HOk P w H h)(e:H a=some (.ins C dx fs)):∃mA,ObjM h a dx C mA/\(∀f,RelO (fs.lookup f) (mA f))/\PySem.Within mA (fs.map (·.1))/\fs.length<=1000/\H dx=some (.own a):=by
 obtain⟨d,z,ne,ob,mA,n,r,q⟩:=(show ObjOk P w H h a (.ins C dx fs) from hok a _ e);exact⟨mA,⟨ob,n,ne⟩,r,q,z,d⟩
end
structure Cls(K:Frag)(C:Addr):Prop where
 pg:plainGet K C Str.empty=true
 hd:hasDictIn K C=true
 po:plainOver K C=true
 sa:findIn K (.ref C) "__setattr__"=some (some (.builtin "object.__setattr__"))
theorem Cls.get{K:Frag}{C:Addr}(c:Cls K C)(f:Str):plainGet K C f=true:=c.pg
def NoAttr(K:Frag)(C:Addr)(f:Str):Prop:=findIn K (.ref C) f=some none
theorem NoAttr.taker{K:Frag}{C:Addr}{f:Str}(n:NoAttr K C f):takerIn K C f=some none:=by
 unfold takerIn;rw[show findIn K (.ref C) f=some none from n];rfl
section
variable{X:Cx}{pins:PNz}{σ:St}{H:Hp}{s:Shared}{a C dx:Addr}{fs:LFz}{f:Str}{v:V}{A:Around}{E:VPz}
theorem MB{b:Bool}{Q:VPz}(I:Inv X pins σ H s)(e:H a=some (.ins C dx fs))(c:Cls X.K C)(n:NoAttr X.K C f)(l:fs.lookup f=some v)
  (h:∀u s',Inv X pins σ H s'->RelV v u->Q u s'):wpAny (model X.prog X.w) A (getAttr (.ref a) f b) Q E s:=by
 obtain⟨mA,O,r,_,_,_⟩:=JV I.hok e;obtain⟨u,hu,ru⟩:=RelO.some_of (v:=v) (o:=mA f) (by rw[<-l];exact r f);exact Rm I.kIn O (c.get f) c.hd n hu (IY ru) (h u _ (I.tok _) ru)
theorem Mh{y:V}{u:Value}{Q:Unit->Shared->Prop}(I:Inv X pins σ H s)(e:H a=some (.ins C dx fs))(c:Cls X.K C)(n:NoAttr X.K C f)(hl:fs.length<1000)(ry:RelV y u)
  (h:∀s',Inv X pins σ (upd H a (.ins C dx (Cy f y fs))) s'->Q () s'):wpAny (model X.prog X.w) A (setAttr (.ref a) f u) Q E s:=by
 obtain⟨mA,O,r,wi,_,ho⟩:=JV I.hok e;have hz:(fs.map (·.1)).length<=sizeLine:=by rw[List.length_map,sizeLine_eq];lia
 refine QA I.kIn O c.sa c.po n.taker c.hd wi hz λ h' O' sb=>h _ ?_;have hd:∃o,h'.get? dx=some o:=let ⟨o,_,_,e',_⟩:=O'.ns;⟨o,e'⟩;refine I.write (x:=a) (e:=dx) (by rw[e];exact True.intro) (.inr ho) (λ b q hb z=>(sb.2 b hb).trans z) hd ?_;refine⟨by rw[Ai O.ne];exact ho,?_,O.ne,O'.obj,_,O'.ns,λ g=>?_,λ g hg=>?_⟩
 .have:=FW f y fs;lia
 .show RelO ((Cy f y fs).lookup g) (if g=f then some u else mA g);rw[AU];by_cases q:g=f
  .rw[if_pos q,if_pos q];exact ry
  .rw[if_neg q,if_neg q];exact r g
 .by_cases q:g=f
  .rw[q];exact(Do f y fs).1
  .refine(Do f y fs).2 g (wi g λ z=>hg ?_);show(if g=f then some u else mA g)=none;rw[if_neg q];exact z
theorem Inv.made(I:Inv X pins σ H s):Inv X pins σ (upd (upd H s.heap.objs.size (.own (s.heap.objs.size+1))) (s.heap.objs.size+1) (.ins C s.heap.objs.size []))
  { s with heap:=(s.heap.push emptyDict).push (instObj C s.heap.objs.size) }:=by
 have e1:(s.heap.push emptyDict).get? s.heap.objs.size=some emptyDict:=Heap.get?_push_size s.heap rfl;have e2:((s.heap.push emptyDict).push (instObj C s.heap.objs.size)).get? (s.heap.objs.size+1)=some (instObj C s.heap.objs.size):=by
  have:=Heap.get?_push_size (s.heap.push emptyDict) (o:=instObj C s.heap.objs.size) rfl;rwa [Heap.size_push]at this
 have e3:(s.heap.push emptyDict).Ns s.heap.objs.size (λ_=>none):=⟨emptyDict,#[],_,e1,rfl,(λ e he=>absurd he (by simp)),λ_=>rfl⟩;have I1:=I.laid (a:=s.heap.objs.size) (o:=.own (s.heap.objs.size+1)) (h':=s.heap.push emptyDict) (t':=s.toks) (λ b u q=>Heap.get?_push_of_some _ q) (Nat.le_refl _) ⟨_,e1⟩;refine I1.laid (a:=s.heap.objs.size+1) (o:=.ins C s.heap.objs.size []) (t':=s.toks) (λ b u q=>Heap.get?_push_of_some _ q) (Nat.le_of_eq (Heap.size_push _ _)) ?_;have ne:s.heap.objs.size≠s.heap.objs.size+1:=Nat.ne_of_lt (Nat.lt_succ_self _);refine⟨by rw[Ai ne,Ac],Nat.zero_le _,ne,e2,λ_=>none,(Heap.Ns1.of_empty e3).at λ o q=>Heap.get?_push_of_some _ q,λ_=>True.intro,λ y hy=>absurd rfl hy⟩
theorem NC{prog:Program}{w:World}{env:Env}{e:Expr}{f:Str}{pos:Pos}{s:Shared}{Q:VPz}(hb:attributeBase e f env (eval e env)=eval e env)
  (h:wpAny (model prog w) A (eval e env) (λ o s₁=>wpAny (model prog w) A (getAttr o f true) Q E s₁) E s):wpAny (model prog w) A (eval (.Attribute e f pos) env) Q E s :=
 Attribute_any_ h (by rw[arm_eval_Attribute,hb])
end
inductive Us(K:Frag)(f:Str)(x:V)(H:Hp)(Q:VK):Prop
 |mk (a C dx:Addr) (fs:LFz) (v:V) (e:x=.ref a) (h:H a=some (.ins C dx fs)) (c:Cls K C) (n:NoAttr K C f) (l:fs.lookup f=some v) (q:Q v H):Us K f x H Q
def U4(K:Frag)(ta:TE)(f:Str):TE:=λ σ H Q=>ta σ H λ x H1=>Us K f x H1 Q
def UC(K:Frag)(ta tv:TE)(f:Str):TS:=λ D σ H=>tv σ H λ y H1=>ta σ H1 λ x H2=>∃a C dx fs,x=.ref a/\H2 a=some (.ins C dx fs)/\Cls K C/\NoAttr K C f/\fs.length<1000 /\
 D.nx σ (upd H2 a (.ins C dx (Cy f y fs)))
section
variable{X:Cx}{o e value:Expr}{f:Str}{pos pos' tpos:Pos}{ta tv:TE}
theorem JI(he:PE X e ta)(hb:attributeBase e f X.env (eval e X.env)=eval e X.env):PE X (.Attribute e f pos) (U4 X.K ta f):=by
 intro pins s σ H Q I h;refine NC hb (thn (he pins s σ H _ I h) λ u s1 hz_=>?_);obtain⟨x,H1,I1,rx,a,C,dx,fs,v,ex,ea,c,n,l,q⟩:=hz_;subst ex;obtain rfl:u=Value.ref a:=rx;exact MB I1 ea c n l λ u' s2 I2 ru=>⟨v,H1,I2,ru,q⟩
theorem ED(ha:PE X o ta)(hv:PE X value tv)(hs:swapsWith value (some (.Attribute o f pos')) pos.line X.env=pure false):PS X (.Assign [.Attribute o f pos'] value pos) (UC X.K ta tv f):=by
 intro pins s σ H D I h;refine plainObj_wpAny_Assign_Attribute (thn (hv pins s σ H _ I h) λ u s1 hz_=>?_) hs;obtain⟨y,H1,I1,ry,q⟩:=hz_;refine thn (ha pins s1 σ H1 _ I1 q) λ ov s2 hz_=>?_;obtain⟨x,H2,I2,rx,a,C,dx,fs,ex,ea,c,n,l,q2⟩:=hz_;subst ex;obtain rfl:ov=Value.ref a:=rx;exact Mh I2 ea c n l ry λ s3 I3=>⟨σ,_,I3,q2⟩
end
section
variable{X:Cx}{pins:PNz}{σ:St}{H:Hp}{s:Shared}{A:Around}{E:VPz}{Q:VPz}{c:Value}{b:Bool}
inductive FP(K:Frag)(H:Hp):V->Value->Prop where
 |non:FP K H .non (.type "NoneType")
 |bl (x:Bool):FP K H (.bl x) (.type "bool")
 |int (i:Int):FP K H (.int i) (.type "int")
 |str (x:Str):FP K H (.str x) (.type "str")
 |flt (x:UInt64):FP K H (.flt x) (.type "float")
 |lst {a:Addr} {xs:LUz} (e:H a=some (.lst xs)):FP K H (.ref a) (.type "list")
 |frz {a:Addr} {o:Obj} {xs:LUz} (e:H a=some (.frz o (.lst xs))):FP K H (.ref a) (.type "list")
 |tup {a:Addr} {xs:LUz} (e:H a=some (.tup xs)):FP K H (.ref a) (.type "tuple")
 |dK {a:Addr} {kvs:List (Key×V)} (e:H a=some (.dK kvs)):FP K H (.ref a) (.type "dict")
 |dT {a:Addr} {kvs:LKz} (e:H a=some (.dT kvs)):FP K H (.ref a) (.type "dict")
 |ins {a C dx:Addr} {fs:LFz} (e:H a=some (.ins C dx fs)) (cl:Cls K C) (ha:findIn K (.ref C) "__class__"=some (some (.builtin "object.__class__")))
   (hn:specialIn K (.builtin "object.__class__") "__get__"=some (some (.builtin "getset_descriptor.__get__"))) (htk:takesIn K (.builtin "object.__class__")=some true)
   (hm:mroIn K C (.type "object")=some true):FP K H (.ref a) (.ref C)
theorem IW{x:V}{u t:Value}(I:Inv X pins σ H s)(rx:RelV x u)(ty:FP X.K H x t)(e:kitOne X.K t c=some b)(h:∀tk,Q (.bool b) { s with toks:=tk }) :
  wpAny (model X.prog X.w) A (call (.builtin "isinstance") [u,c]) Q E s:=by
 cases ty with
 |non=>cases(show u=Value.none from rx);exact kia_one kitx_none I.kIn True.intro e (λ z=>nomatch z) h
 |bl y=>cases(show u=Value.bool y from rx);exact kia_one kitx_bool I.kIn True.intro e (λ z=>nomatch z) h
 |int i=>obtain⟨t,q⟩:=(show ∃t,u=Value.int i t from rx);cases q;exact kia_one kitx_int I.kIn True.intro e (λ z=>nomatch z) h
 |str y=>obtain⟨t,q⟩:=(show ∃t,u=Value.str y t from rx);cases q;exact kia_one kitx_str I.kIn True.intro e (λ z=>nomatch z) h
 |flt y=>obtain⟨t,q⟩:=(show ∃t,u=Value.float y t from rx);cases q;exact kia_one kitx_float I.kIn True.intro e (λ z=>nomatch z) h
 |@lst a xs ea =>
  cases(show u=Value.ref a from rx);obtain⟨_,_,n,_,h1⟩:=(show ObjOk X.prog X.w H s.heap a (.lst xs) from I.hok a _ ea);exact kia_one kitx_list I.kIn ⟨_,h1,rfl⟩ e (λ z=>nomatch z) h
 |@frz a ob xs ea =>
  cases(show u=Value.ref a from rx);obtain⟨_,_,_,n,_,h1⟩:=(show ObjOk X.prog X.w H s.heap a (.frz ob (.lst xs)) from I.hok a _ ea);exact kia_one kitx_list I.kIn ⟨_,h1,rfl⟩ e (λ z=>nomatch z) h
 |@tup a xs ea =>
  cases(show u=Value.ref a from rx);obtain⟨_,_,_,p⟩:=(show ObjOk X.prog X.w H s.heap a (.tup xs) from I.hok a _ ea);obtain⟨o,h1,h2,_⟩:=p;exact kia_one kitx_tuple I.kIn ⟨o,h1,h2⟩ e (λ z=>nomatch z) h
 |@dK a kvs ea =>
  cases(show u=Value.ref a from rx);obtain⟨_,_,vs,_,p⟩:=(show ObjOk X.prog X.w H s.heap a (.dK kvs) from I.hok a _ ea);obtain⟨o,es,ep,h1,h2,_⟩:=p;exact kia_one kitx_dict I.kIn ⟨o,h1,h2.1⟩ e (λ z=>nomatch z) h
 |@dT a kvs ea =>
  cases(show u=Value.ref a from rx);obtain⟨_,_,xs,_,o,es,ep,h1,h2,_⟩:=(show ObjOk X.prog X.w H s.heap a (.dT kvs) from I.hok a _ ea);exact kia_one kitx_dict I.kIn ⟨o,h1,h2.1⟩ e (λ z=>nomatch z) h
 |@ins a C dx fs ea cl ha hn htk hm =>
  cases(show u=Value.ref a from rx);obtain⟨mA,O,_⟩:=JV I.hok ea;obtain⟨od,J,_⟩:=O.look;exact kia_one (kitx_own (cl.get _) cl.hd ha hn htk hm) I.kIn J e (λ z=>nomatch z) h
end
structure Room(k:Nat)(A:Around):Prop where
 hd:A.handled=none
 dp:A.depth+3*k+5<recursionLimit
 un:A.units+16*k+200<cLine
theorem Room.mono{j k:Nat}{A:Around}(r:Room k A)(h:j<=k):Room j A:=⟨r.hd,by have:=r.dp;lia,by have:=r.un;lia⟩
theorem Room.deeper{k:Nat}{A:Around}(r:Room (k+1) A)(env:Env):Room k (A.deeper env) :=
 ⟨r.hd,by have:=r.dp;show A.depth+1+3*k+5<_;lia,by have:=r.un;show A.units+3+16*k+200<_;lia⟩
theorem Room.in1{k:Nat}{A:Around}(r:Room (k+1) A):Room k A.in1 :=
 ⟨r.hd,by have:=r.dp;show A.depth+3*k+5<_;lia,by have:=r.un;show A.units+1+16*k+200<_;lia⟩
theorem M5{A:Around}{C:Addr}{us:LWz}{kw:List (Str×Value)}:(A.under (.builtin "type.__call__" ⟨.ref C::us,kw⟩)).depth=A.depth+1:=by
 first|rfl|simp[Around.under,Code.weight,Code.isCreation,Code.isGuard,Code.isCaller,Code.frames,Code.isFrame,guardIds]
theorem M4{A:Around}{C:Addr}{us:LWz}{kw:List (Str×Value)}:(A.under (.builtin "type.__call__" ⟨.ref C::us,kw⟩)).units=A.units+1:=by
 first|rfl|simp[Around.under,Code.cUnits,Code.frames,Code.isFrame]
theorem Room.make{k:Nat}{A:Around}(r:Room (k+1) A)(C:Addr)(us:LWz)(kw:List (Str×Value)):Room k (A.under (.builtin "type.__call__" ⟨.ref C::us,kw⟩)) :=
 ⟨r.hd,by have:=r.dp;rw[M5];lia,by have:=r.un;rw[M4];lia⟩
theorem Room.depth{k:Nat}{A:Around}(r:Room k A):A.depth<recursionLimit:=by have:=r.dp;lia
theorem Room.units{k:Nat}{A:Around}(r:Room k A):A.units+64<cLine:=by have:=r.un;lia
def K3:TA:=λ_ H Q=>Q [] H
def ID(ta:TE)(tr:TA):TA:=λ σ H Q=>ta σ H λ x H1=>tr σ H1 λ xs H2=>Q (x::xs) H2
section
variable{X:Cx}{e:Expr}{es:List Expr}{te:TE}{t:TA}{pos:Pos}
theorem Ab:PA X [] K3:=λ_ _ _ _ H Q I h=>Calls.spliced_nil ⟨[],H,I,.nil,h⟩
theorem Aa(ha:PE X e te)(hr:PA X es t)(hs:starEach (e::es) X.env=(false,eval e X.env)::starEach es X.env:=by rfl):PA X (e::es) (ID te t):=by
 intro pos pins s σ H Q I h;rw[hs];show wpAny _ _ (spliced ((false,eval e X.env)::backTo pos (starEach es X.env))) _ _ s;refine Calls.spliced_cons (thn (ha pins s σ H _ I h) λ u s1 hz_=>?_);obtain⟨x,H1,I1,r1,q1⟩:=hz_;exact thn (hr pos pins s1 σ H1 _ I1 q1) λ us s2 ⟨xs,H2,I2,r2,q2⟩=>⟨x::xs,H2,I2,.cons r1 r2,q2⟩
def Sh(t:TA):TE:=λ σ H Q=>t σ H λ xs H1=>xs.length<=sizeLine/\∀p,H1 p=none->Q (.ref p) (upd H1 p (.tup xs))
def U1(t:TA):TE:=λ σ H Q=>t σ H λ xs H1=>xs.length<=sizeLine/\∀p,H1 p=none->Q (.ref p) (upd H1 p (.lst xs))
theorem A3{x1}(h:PA X es t):PE X (.Tuple es x1 pos) (Sh t):=by
 intro pins s σ H Q I hq;refine wpAny_Tuple_spliced (thn (h pos pins s σ H _ I hq) λ us s1 ⟨xs,H1,I1,r,z,q⟩=>⟨by rw[<-r.length];exact z,?_⟩);have hf:H1 s1.heap.objs.size=none:=I1.hok.fresh (Nat.le_refl _);refine⟨.ref s1.heap.objs.size,upd H1 s1.heap.objs.size (.tup xs),I1.laid (t':=s1.toks) (λ b u e=>Heap.get?_push_of_some _ e) (Nat.le_refl _) ?_,rfl,q _ hf⟩;exact⟨z,us,r,⟨_,Heap.get?_push_size _ rfl,rfl,_,rfl⟩⟩
theorem A9(h:PA X es t):PE X (.List es pos) (U1 t):=by
 intro pins s σ H Q I hq;refine wpAny_List_spliced (thn (h pos pins s σ H _ I hq) λ us s1 ⟨xs,H1,I1,r,z,q⟩=>⟨by rw[<-r.length];exact z,?_⟩);have hf:H1 s1.heap.objs.size=none:=I1.hok.fresh (Nat.le_refl _);refine⟨.ref s1.heap.objs.size,upd H1 s1.heap.objs.size (.lst xs),I1.laid (t':=s1.toks) (λ b u e=>Heap.get?_push_of_some _ e) (Nat.le_refl _) ?_,rfl,q _ hf⟩;exact⟨z,us,0,r,Heap.get?_push_size _ rfl⟩
end
abbrev Sp:=LUz->Hp->VK->XK->Prop
abbrev CXT:=List Env->Hp->Shared->XK->Value->Shared->Prop
structure Env0(P:Program)(w:World)(K:Frag)(mg:MGz)(base:Heap)(A:Around)(outer:List Env)(s:Shared)(H:Hp):Prop where
 frames:A.frames=some outer
 mod:Mod K mg base
 bs:∀b o,base.get? b=some o->s.heap.get? b=some o/\H b=none
 bsz:base.objs.size<=s.heap.objs.size
 funs:s.heap.FunFrames base outer
 frf:∀b∈frs outer,H b=none
 hok:HOk P w H s.heap
 bare:AllBare s.gens
def CE(outer:List Env)(P:Program)(w:World)(H:Hp)(s:Shared)(Q:VK)(u:Value)(s':Shared):Prop :=
 ∃v H',s'.os=s.os/\AllBare s'.gens/\Un (frs outer) [] H H' s.heap s'.heap/\HOk P w H' s'.heap/\RelV v u/\Q v H'
def CR(CX:CXT)(outer:List Env)(P:Program)(w:World)(H:Hp)(s:Shared)(Q:VK)(E:XK)(r:Result)(s':Shared):Prop :=
 match r with
 |.ok (.ret u)=>CE outer P w H s Q u s'
 |.ok _=>False
 |.error e=>CX outer H s E e s'
structure FnOk(P:Program)(w:World)(K:Frag)(mg:MGz)(base:Heap)(CX:CXT)(k:Nat)(f:Addr)(fd:FuncData)(ps:LSz)(sp:Sp):Prop where
 len:∀vs H Q E,sp vs H Q E->vs.length=ps.length
 run:∀(A:Around)(outer:List Env)(s:Shared)(H:Hp)(args:Args)(us:LWz)(vs:LUz)(Q:VK)(E:XK),Room k A->Env0 P w K mg base A outer s H->BindsTo s fd args (ps.zip us)->Vals vs us->sp vs H Q E ->
  codeAny (model P w) A (.call (.ref f) args) (CR CX outer P w H s Q E) s
theorem FnOk.imp{P:Program}{w:World}{K:Frag}{mg:MGz}{base:Heap}{CX:CXT}{k:Nat}{f:Addr}{fd:FuncData}{ps:LSz}{sp sp':Sp}(F:FnOk P w K mg base CX k f fd ps sp)
  (h:∀vs H Q E,sp' vs H Q E->sp vs H Q E):FnOk P w K mg base CX k f fd ps sp' :=
 ⟨λ vs H Q E q=>F.len vs H Q E (h _ _ _ _ q),λ A outer s H args us vs Q E hr he hb hv hs=>F.run A outer s H args us vs Q E hr he hb hv (h _ _ _ _ hs)⟩
theorem Env0.make{P:Program}{w:World}{K:Frag}{mg:MGz}{base:Heap}{A:Around}{outer:List Env}{s:Shared}{H:Hp}(e:Env0 P w K mg base A outer s H)(C:Addr)(us:LWz)(kw:List (Str×Value)) :
  Env0 P w K mg base (A.under (.builtin "type.__call__" ⟨.ref C::us,kw⟩)) outer s H:=⟨by first|exact e.frames|(simpa [Around.under,Code.envs,Code.isFrame,pushEnvs] using e.frames),e.mod,e.bs,e.bsz,e.funs,e.frf,e.hok,e.bare⟩
theorem Env0.in1{P:Program}{w:World}{K:Frag}{mg:MGz}{base:Heap}{A:Around}{outer:List Env}{s:Shared}{H:Hp}(e:Env0 P w K mg base A outer s H) :
  Env0 P w K mg base A.in1 outer s H:=⟨e.frames,e.mod,e.bs,e.bsz,e.funs,e.frf,e.hok,e.bare⟩
section
variable{X:Cx}{pins:PNz}{σ:St}{H:Hp}{s s':Shared}
theorem Inv.env0(I:Inv X pins σ H s):Env0 X.prog X.w X.K X.mg X.base X.A X.stack s H :=
 ⟨I.ok.frames,I.ok.mod,I.bs,Nat.le_trans I.ok.bsz I.sz,I.stack,I.stkFree,I.hok,I.bare⟩
theorem Inv.after{Q:VK}{u:Value}(I:Inv X pins σ H s)(h:CE X.stack X.prog X.w H s Q u s'):EP X pins σ Q u s':=by
 obtain⟨v,H',os,bare,un,hok,r,q⟩:=h;obtain⟨hh,g,d,t,os'⟩:=s';obtain rfl:os'=s.os:=os;exact⟨v,H',I.call (h':=hh) (g':=g) (d':=d) (t':=t) (ch:=[]) un hok bare (λ b z=>absurd z (by simp)),r,q⟩
end
def K4(sp:Sp)(dvs:LUz)(E:XK)(t:TA):TE:=λ σ H Q=>t σ H λ vs H1=>sp (vs++dvs) H1 Q E
def Nb(C:Addr)(sp:Sp)(dvs:LUz)(E:XK)(t:TA):TE:=λ σ H Q=>t σ H λ vs H1=>∀x dx,H1 x=none->H1 dx=none->dx≠x ->
 sp (.ref x::(vs++dvs)) (upd (upd H1 dx (.own x)) x (.ins C dx [])) (λ v H2=>v=.non/\Q (.ref x) H2) E
def Binds(K:Frag)(fd:FuncData)(ps:LSz)(ds:LWz):Prop :=
 ∀(s:Shared)(us:LWz),K.In s.heap->(us++ds).length=ps.length->BindsTo s fd ⟨us,[]⟩ (ps.zip (us++ds))
theorem Binds.all{K:Frag}{fd:FuncData}{ps:LSz}(h:∀us:LWz,us.length=ps.length->bindArgs fd ⟨us,[]⟩=pure (ps.zip us)):Binds K fd ps []:=λ s us _ hl=>by
 rw[List.append_nil]at hl |-;exact .of_eq (h us hl)
def DC(CX:CXT)(X:Cx)(E:XK):Prop:=∀(pins:PNz)(σ:St)(H:Hp)(s:Shared)(e:Value)(s':Shared),Inv X pins σ H s->CX X.stack H s E e s'->X.xe e s'
section
variable{X:Cx}{CX:CXT}{k:Nat}{f C:Addr}{fd:FuncData}{ps:LSz}{sp:Sp}{dvs:LUz}{ds:LWz}{E:XK}{x m:Str}{p pos apos:Pos}{e o:Expr}{es:List Expr}{ta:TE}{t:TA}
theorem Pq{pins:PNz}{σ:St}{H:Hp}{s:Shared}{Q:VK}{us:LWz}{vs:LUz}(F:FnOk X.prog X.w X.K X.mg X.base CX k f fd ps sp)(hr:Room k X.A)(hb:Binds X.K fd ps ds)(hd:Vals dvs ds)(hx:DC CX X E)
  (I:Inv X pins σ H s) (r:Vals vs us) (h:sp (vs++dvs) H Q E):wpAny (model X.prog X.w) X.A (call (.ref f) us) (EP X pins σ Q) X.xe s:=by
 have r2:Vals (vs++dvs) (us++ds):=r.append hd;have hl:(us++ds).length=ps.length:=by rw[<-r2.length];exact F.len _ _ _ _ h
 refine wpAny_call (codeAny_mono (F.run X.A X.stack s H ⟨us,[]⟩ (us++ds) (vs++dvs) Q E hr I.env0 (hb s us I.kIn hl) r2 h) λ r s' hq=>?_);cases r with
 |error e=>exact hx pins σ H s e s' I hq
 |ok fl =>
  cases fl with
  |ret u=>exact I.after hq
  |next=>exact False.elim hq
  |brk=>exact False.elim hq
  |cont=>exact False.elim hq
theorem No(F:FnOk X.prog X.w X.K X.mg X.base CX k f fd ps sp)(hr:Room k X.A)(hg:Gl X x)(hm:X.mg x=some (.ref f))(hk:keepIn X.K (.ref f)=true)(hb:Binds X.K fd ps ds)(hd:Vals dvs ds)(hx:DC CX X E)
  (ha:PA X (e::es) t) (hdb:(x==("__debug__":Str))=false:=by decide) (he:starEach (e::es) X.env=(false,eval e X.env)::starEach es X.env:=by rfl) (hpl:(backTo pos (starEach es X.env)).any (·.1)=false:=by rfl) :
  PE X (.Call (.Name x p) (e::es) [] pos) (K4 sp dvs E t):=by
 intro pins s σ H Q I h;refine wpAny_Call_Name_kw (Cj I hg hm ?_ hdb);refine callWith_K (h₀:=X.base) I.ok.mod.kin hk (thn (ha pos pins s σ H _ I h) λ us s1 ⟨vs,H1,I1,r,q⟩=>⟨I1.kIn,?_⟩) he hpl;exact Pq F hr hb hd hx I1 r q
structure Mk(K:Frag)(C f:Addr):Prop where
 makes:makesIn K C=true
 init:findIn K (.ref C) "__init__"=some (some (.ref f))
 fn:isFn K (.ref f)=true
 kp:keepIn K (.ref C)=true
theorem KF{pins:PNz}{σ:St}{H:Hp}{s:Shared}{Q:VK}{us:LWz}{vs:LUz}(M:Mk X.K C f)(F:FnOk X.prog X.w X.K X.mg X.base CX k f fd ps sp)(hr:Room (k+1) X.A)(hb:Binds X.K fd ps ds)(hd:Vals dvs ds)
  (hx:DC CX X E) (I:Inv X pins σ H s) (r:Vals vs us)
  (h:∀x dx,H x=none->H dx=none->dx≠x->sp (.ref x::(vs++dvs)) (upd (upd H dx (.own x)) x (.ins C dx [])) (λ v H2=>v=.non/\Q (.ref x) H2) E) :
  wpAny (model X.prog X.w) X.A (call (.ref C) us) (EP X pins σ Q) X.xe s:=by
 have hq:=h (s.heap.objs.size+1) s.heap.objs.size (I.hok.fresh (Nat.le_succ _)) (I.hok.fresh (Nat.le_refl _)) (Nat.ne_of_lt (Nat.lt_succ_self _));have I2:=Inv.made (C:=C) I;have r2:Vals (V.ref (s.heap.objs.size+1)::(vs++dvs)) (Value.ref (s.heap.objs.size+1)::(us++ds)):=.cons rfl (r.append hd);have hl:(Value.ref (s.heap.objs.size+1)::us++ds).length=ps.length:=by
  have e:=r2.length;rw[F.len _ _ _ _ hq]at e;exact e.symm
 refine wpAny_call (P6 (f:=f) I.kIn M.makes M.init (beq_iff_eq.mp M.fn) (codeAny_mono (F.run _ X.stack _ _ ⟨Value.ref (s.heap.objs.size+1)::us,[]⟩ (Value.ref (s.heap.objs.size+1)::(us++ds)) _ _ E (hr.make C us [])
  (I2.env0.make C us []) (hb _ (Value.ref (s.heap.objs.size+1)::us) I2.kIn hl) r2 hq) λ r s' hq'=>?_))
 cases r with
 |error e=>exact hx pins σ _ _ e s' I2 hq'
 |ok fl =>
  cases fl with
  |ret u =>
   obtain⟨v,H',I3,rv,ev,q3⟩:=I2.after hq';subst ev;exact⟨rv,⟨V.ref (s.heap.objs.size+1),H',I3,rfl,q3⟩⟩
  |next=>exact False.elim hq'
  |brk=>exact False.elim hq'
  |cont=>exact False.elim hq'
theorem QO(M:Mk X.K C f)(F:FnOk X.prog X.w X.K X.mg X.base CX k f fd ps sp)(hr:Room (k+1) X.A)(hg:Gl X x)(hm:X.mg x=some (.ref C))(hb:Binds X.K fd ps ds)(hd:Vals dvs ds)(hx:DC CX X E)
  (ha:PA X (e::es) t) (hdb:(x==("__debug__":Str))=false:=by decide) (he:starEach (e::es) X.env=(false,eval e X.env)::starEach es X.env:=by rfl) (hpl:(backTo pos (starEach es X.env)).any (·.1)=false:=by rfl) :
  PE X (.Call (.Name x p) (e::es) [] pos) (Nb C sp dvs E t):=by
 intro pins s σ H Q I h;refine wpAny_Call_Name_kw (Cj I hg hm ?_ hdb);refine callWith_K (h₀:=X.base) I.ok.mod.kin M.kp (thn (ha pos pins s σ H _ I h) λ us s1 ⟨vs,H1,I1,r,q⟩=>⟨I1.kIn,?_⟩) he hpl;exact KF M F hr hb hd hx I1 r q
theorem Py(M:Mk X.K C f)(F:FnOk X.prog X.w X.K X.mg X.base CX k f fd ps sp)(hr:Room (k+1) X.A)(hg:Gl X x)(hm:X.mg x=some (.ref C))(hb:Binds X.K fd ps ds)(hd:Vals dvs ds)(hx:DC CX X E)
  (hdb:(x==("__debug__":Str))=false:=by decide):PE X (.Call (.Name x p) [] [] pos) (Nb C sp dvs E K3):=by
 intro pins s σ H Q I h;refine wpAny_Call_Name_kw (Cj I hg hm ?_ hdb);exact callWith_K0 I.kIn M.kp (KF (us:=[]) M F hr hb hd hx I .nil h)
end
structure Ak(N P:LSz)(sc:Scope):Prop where
 kind:sc.kind=.function
 co:sc.isCoroutine=false
 gen:sc.isGenerator=false
 nd:N.Nodup
 pre:N.take P.length=P
 par:∀x∈P,sc.names.lookup x=some .local\/sc.names.lookup x=some .cell
 nofree:∀y∈sc.names,y.2≠.free
theorem fsc{N P:List Str}{sc:Scope}(a:sc.kind=.function:=by rfl)(b:sc.isCoroutine=false:=by rfl)(c:sc.isGenerator=false:=by rfl)(d:N.Nodup:=by decide +kernel)(e:N.take P.length=P:=by rfl)(f:∀x∈P,sc.names.lookup x=some .local\/sc.names.lookup x=some .cell:=by decide +kernel)(g:∀y∈sc.names,y.2≠.free:=by decide +kernel):Ak N P sc:=⟨a,b,c,d,e,f,g⟩
theorem Jg{kindOf:Str->Option NameKind}{x:Str}:∀{binds:List (Str×Value)}{m:MGz},(∀v,(x,v)∉binds)->bindL kindOf binds m x=m x
 |[],_,_=>rfl
 | (n,v)::r,m,h=>by
  unfold bindL;rw[Jg λ w hw=>h w (List.mem_cons_of_mem _ hw)];split
  .have:x≠n:=by rintro rfl;exact h v List.mem_cons_self
   simp[this]
  .rfl
theorem Ji{kindOf:Str->Option NameKind}{x:Str}:∀{binds:List (Str×Value)}{m:MGz},(∀v,(x,v)∉binds)->bindC kindOf binds m x=m x
 |[],_,_=>rfl
 | (n,v)::r,m,h=>by
  unfold bindC;rw[Ji λ w hw=>h w (List.mem_cons_of_mem _ hw)];split
  .rfl
  .have:x≠n:=by rintro rfl;exact h v List.mem_cons_self
   simp[this]
theorem Jh{kindOf:Str->Option NameKind}{x:Str}{v:Value}:∀{P:LSz}{vs:LWz}{i:Nat}{m:MGz},P.Nodup->P[i]?=some x->vs[i]?=some v->kindOf x=some .local ->
  bindL kindOf (P.zip vs) m x=some v
 |[],_,_,_,_,h,_,_=>by simp at h
 |_::_,[],_,_,_,_,h,_=>by simp at h
 |p::P,w::vs,0,m,nd,h1,h2,hk=>by
  simp at h1 h2;subst h1;subst h2;show bindL kindOf ((p,w)::P.zip vs) m p=_;unfold bindL;rw[Jg λ v hv=>(List.nodup_cons.mp nd).1 (List.of_mem_zip hv).1,if_pos hk];simp
 |p::P,w::vs,i+1,m,nd,h1,h2,hk=>by
  show bindL kindOf ((p,w)::P.zip vs) m x=_;unfold bindL;exact Jh (i:=i) (List.nodup_cons.mp nd).2 (by simpa using h1) (by simpa using h2) hk
theorem Jj{kindOf:Str->Option NameKind}{x:Str}{v:Value}:∀{P:LSz}{vs:LWz}{i:Nat}{m:MGz},P.Nodup->P[i]?=some x->vs[i]?=some v->kindOf x≠some .local ->
  bindC kindOf (P.zip vs) m x=some v
 |[],_,_,_,_,h,_,_=>by simp at h
 |_::_,[],_,_,_,_,h,_=>by simp at h
 |p::P,w::vs,0,m,nd,h1,h2,hk=>by
  simp at h1 h2;subst h1;subst h2;show bindC kindOf ((p,w)::P.zip vs) m p=_;unfold bindC;rw[Ji λ v hv=>(List.nodup_cons.mp nd).1 (List.of_mem_zip hv).1,if_neg hk];simp
 |p::P,w::vs,i+1,m,nd,h1,h2,hk=>by
  show bindC kindOf ((p,w)::P.zip vs) m x=_;unfold bindC;exact Jj (i:=i) (List.nodup_cons.mp nd).2 (by simpa using h1) (by simpa using h2) hk
def start(N:LSz)(vs:LUz):St:=vs.map some++List.replicate (N.length-vs.length) none
def BF(CX:CXT)(P:Program)(w:World)(K:Frag)(mg:MGz)(base:Heap)(N:LSz)(qual:Str)(scope:Scope)(f:Addr)(cd:Value)(A:Around)(outer:List Env)(s:Shared)(H:Hp)(E:XK):Cx where
 prog:=P
 w:=w
 K:=K
 mg:=mg
 base:=base
 A:=A.deeper (envOfC qual scope s.heap.objs.size f cd)
 N:=N
 s₀:=s
 H₀:=H
 env:=envOfC qual scope s.heap.objs.size f cd
 outer:=outer
 stack:=envOfC qual scope s.heap.objs.size f cd::outer
 ex:=[]
 calm:=true
 fn:=λ_=>true
 pn:=[]
 xe:=λ e s'=>wpAny (model P w) (A.deeper (envOfC qual scope s.heap.objs.size f cd)) (leaving (envOfC qual scope s.heap.objs.size f cd) e) (λ_ s''=>CX outer H s E e s'') (λ e' s''=>CX outer H s E e' s'') s'
theorem L5{sc:Scope}{n:Nat}{x:Str}(h:sc.names.lookup x=some .cell):∃c,(cellsFrom n sc.names []).lookup x=some c:=by
 have q:=cellsFrom_some sc.names n [] (.inl h);exact Option.isSome_iff_exists.mp q
theorem IX{CX:CXT}{P:Program}{w:World}{K:Frag}{mg:MGz}{base:Heap}{N ps:LSz}{qual:Str}{scope:Scope}{f:Addr}{cd:Value}{A:Around}{outer:List Env}{s s1:Shared}{H:Hp}{E:XK}{us:LWz}{vs:LUz}
  (S:Ak N ps scope) (hd:A.handled=none) (e0:Env0 P w K mg base A outer s H) (hl:vs.length=ps.length) (r:Vals vs us)
  (x:InCallC s s.heap.objs.size (bindL (envOfC qual scope s.heap.objs.size f cd).kindOf (ps.zip us) λ_=>none) (cellsFrom (s.heap.objs.size+1) scope.names []) (bindC (envOfC qual scope s.heap.objs.size f cd).kindOf (ps.zip us) λ_=>none) s1) :
  Inv (BF CX P w K mg base N qual scope f cd A outer s H E) [] (start N vs) H s1:=by
 have hpl:ps.length<=N.length:=by have:=congrArg List.length S.pre;rw[List.length_take]at this;lia
 obtain⟨h1,tk,rfl,hk⟩:=x.done;have noA:∀b:Addr,b∉(BF CX P w K mg base N qual scope f cd A outer s H E).ex:=λ b z=>absurd (show b∈([]:List Addr) from z) (by simp);refine⟨⟨e0.mod,S.kind,rfl,rfl,Nat.le_refl _,λ y z c h1 h2=>?_,λ y hy=>?_,λ y c _ h=>?_,λ_=>hd,Around.frames_deeper e0.frames,.inr ⟨rfl,rfl⟩,λ b z=>absurd z (noA b),e0.bs,e0.bsz,λ b _ _=>noA b,λ b z=>absurd z (noA b),e0.funs,e0.frf⟩,
  rfl,e0.bare,Un.kept hk,⟨_,x.toInCall.ns,λ i y v h1 h2 h3=>?_⟩,λ y c h=>⟨_,x.cell y c h⟩,e0.hok.fresh (Nat.le_refl _),λ y c h=>?_,λ p hp=>absurd (show p∈([]:PNz) from hp) (by simp),e0.hok.kept hk,?_⟩
 .exact name_of_addr x.apart (PySem.mem_of_lookup h1) (PySem.mem_of_lookup h2)
 .have hy:scope.names.lookup y=some .cell\/scope.names.lookup y=some .free:=hy;rcases hy with hy|hy
  .exact L5 hy
  .exact absurd rfl (S.nofree _ (PySem.mem_of_lookup hy))
 .exact Nat.le_of_lt (x.above y c (PySem.mem_of_lookup h))
 .have hi:i<vs.length:=by
   unfold start at h2;by_cases hi:i<vs.length
   .exact hi
   .rw[List.getElem?_append_right (by simpa using hi)]at h2;rw[List.getElem?_replicate]at h2;split at h2<;>cases h2
  have ha:vs[i]?=some v:=by
   unfold start at h2;rw[List.getElem?_append_left (by simpa using hi),List.getElem?_map]at h2;cases e:vs[i]? with
   |none=>rw[e]at h2;cases h2
   |some a=>rw[e]at h2;cases h2;rfl
  obtain⟨u,hu,rv⟩:=r.get ha;have hp:ps[i]?=some y:=by
   rw[<-S.pre,List.getElem?_take_of_lt (by lia)];exact h1
  have ndP:ps.Nodup:=by rw[<-S.pre];exact S.nd.sublist (List.take_sublist _ _)
  refine⟨u,rv,?_⟩;rcases S.par y (List.mem_of_getElem? hp) with k|k
  .exact .inl ⟨k,Jh ndP hp hu k⟩
  .obtain⟨c,e⟩:=L5 (n:=s.heap.objs.size+1) k;refine .inr ⟨.inl k,c,e,?_⟩;have q:=x.cell y c e;rw[Jj ndP hp hu (by show scope.names.lookup y≠_;rw[k];decide)]at q;exact q
 .exact e0.hok.fresh (Nat.le_of_lt (x.above y c (PySem.mem_of_lookup h)))
 .unfold start;show _=N.length;rw[List.length_append,List.length_map,List.length_replicate];lia
theorem Lv{CX:CXT}{P:Program}{w:World}{K:Frag}{mg:MGz}{base:Heap}{k:Nat}{f:Addr}{name qual:Str}{params:Arguments}{body:List Stmt}{scope:Scope}{dV kV doc pm cdv ct oc:Value}{an od:Option Addr}
  {osl:AOz} {N ps:LSz} {sp:Sp} (lk:K.lookup f=some ⟨oc,od,.func (fnOf name qual params body scope dV kV doc pm an cdv ct),osl⟩) (hcd:codeIn K cdv qual=true) (S:Ak N ps scope)
  (len:∀vs H Q E,sp vs H Q E->vs.length=ps.length)
  (hbody:∀(A:Around)(outer:List Env)(s:Shared)(H:Hp)(vs:LUz)(Q:VK)(E:XK),Room k (A.deeper (envOfC qual scope s.heap.objs.size f cdv))->sp vs H Q E ->
   ∃t,PSs (BF CX P w K mg base N qual scope f cdv A outer s H E) body t/\t { nx:=λ_ H'=>Q .non H',rt:=Q } (start N vs) H) :
  FnOk P w K mg base CX (k+1) f (fnOf name qual params body scope dV kV doc pm an cdv ct) ps sp:=by
 refine⟨len,λ A outer s H args us vs Q E hr e0 hb r hsp=>?_⟩;have hl:=len _ _ _ _ hsp;have KX:K.In s.heap:=e0.mod.kin.keeps λ b o e=>(e0.bs b o e).1;have lim:s.heap.NoLimit:=e0.mod.nolimit.keeps λ b o e=>(e0.bs b o e).1;have hkind:∀y∈ps.zip us,scope.names.lookup y.1=some .local\/(scope.names.lookup y.1=some .cell/\((cellsFrom (s.heap.objs.size+1) scope.names []).lookup y.1).isSome=true):=λ⟨n,v⟩ hy=>by
  rcases S.par n (List.of_mem_zip hy).1 with q|q
  .exact .inl q
  .exact .inr ⟨q,cellsFrom_some _ _ _ (.inl q)⟩
 refine codeAny_call_function hr.depth (KX _ _ lk) rfl S.co S.gen rfl (codeRec_of KX hcd) (hb _ _ _ _ ?_);refine wpAny_newFunctionEnv_cells S.kind hkind λ env he s1 x=>?_;subst he;refine⟨lim.keeps x.toInCall.keep,codeAny_func ?_⟩;obtain⟨t,ht,hq⟩:=hbody A outer s H vs Q E (hr.deeper _) hsp;have I:Inv (BF CX P w K mg base N qual scope f cdv A outer s H E) [] (start N vs) H s1:=IX S hr.hd e0 hl r x;refine wpAny_mono (ht [] s1 (start N vs) H _ I hq) (λ fl s' hs=>?_) λ e s' hs=>hs;have fin:∀{σ':St}{H':Hp}{v:V}{u:Value},Inv (BF CX P w K mg base N qual scope f cdv A outer s H E) [] σ' H' s'->RelV v u->Q v H'->CE outer P w H s Q u s' :=
  λ{σ' H' v u} J rv q=>⟨v,H',J.os,J.bare,J.base,J.hok,rv,q⟩
 cases fl with
 |ret u =>
  obtain⟨v,σ',H',J,rv,q⟩:=hs;exact fin J rv q
 |next =>
  obtain⟨σ',H',J,q⟩:=hs;exact fin (v:=V.non) (u:=Value.none) J rfl q
 |brk =>
  obtain⟨_,_,_,q⟩:=hs;exact False.elim q
 |cont =>
  obtain⟨_,_,_,q⟩:=hs;exact False.elim q
section
variable{X:Cx}{x:Str}{p pos:Pos}{e:Expr}{es:List Expr}{t:TA}{id T:String}{r:LUz->Hp->VK->Prop}
def tCB(r:LUz->Hp->VK->Prop)(t:TA):TE:=λ σ H Q=>t σ H λ vs H1=>r vs H1 Q
theorem Aw(hc:Ec X (.builtin id) r)(hg:Gl X x)(hm:X.mg x=none)(hv:bootBuiltins x=some (.builtin id))(ha:PA X (e::es) t)(hn:x≠"__name__":=by decide)(hdb:(x==("__debug__":Str))=false:=by decide)
  (he:starEach (e::es) X.env=(false,eval e X.env)::starEach es X.env:=by rfl) (hpl:(backTo pos (starEach es X.env)).any (·.1)=false:=by rfl):PE X (.Call (.Name x p) (e::es) [] pos) (tCB r t):=by
 intro pins s σ H Q I h;refine wpAny_Call_Name_kw (D7 I hg hm hv ?_ hn hdb);exact PyProof.Rows.callWith_builtin1 (thn (ha pos pins s σ H _ I h) λ us s1 ⟨vs,H1,I1,r1,q1⟩=>hc pins s1 σ H1 vs us Q I1 r1 q1) he hpl
theorem F3(hc:Ec X (.type T) r)(hg:Gl X x)(hm:X.mg x=none)(hv:bootBuiltins x=some (.type T))(ha:PA X (e::es) t)(hn:x≠"__name__":=by decide)(hdb:(x==("__debug__":Str))=false:=by decide)
  (he:starEach (e::es) X.env=(false,eval e X.env)::starEach es X.env:=by rfl) (hpl:(backTo pos (starEach es X.env)).any (·.1)=false:=by rfl):PE X (.Call (.Name x p) (e::es) [] pos) (tCB r t):=by
 intro pins s σ H Q I h;refine wpAny_Call_Name_kw (D7 I hg hm hv ?_ hn hdb);exact PyProof.Rows.callWith_type1 (thn (ha pos pins s σ H _ I h) λ us s1 ⟨vs,H1,I1,r1,q1⟩=>hc pins s1 σ H1 vs us Q I1 r1 q1) he hpl
end
end L2
namespace HT
open PySem.W
open PySem PyProof.Rows
def lexLt:List Int->List Int->Bool
 |[],[]=>false
 |[],_::_=>true
 |_::_,[]=>false
 |x::xs,y::ys=>if x=y then lexLt xs ys else decide (x<y)
theorem lexLt_cons(x y:Int)(xs ys:List Int):lexLt (x::xs) (y::ys)=if x=y then lexLt xs ys else decide (x<y):=rfl
theorem lexLt_nil_nil:lexLt [] []=false:=rfl
section
variable{prog:Program}{w:World}{A:Around}{E:VPz}{s:Shared}
def sIx(n d:Nat):Option Int->Nat
 |none=>d
 |some v=>if v<0 then (v+(n:Int)).toNat else min v.toNat n
end
end HT
namespace L2
open PySem.W
open PySem PySem.Spec PyProof.Rows
abbrev TO:=St->Hp->(Option Int->Hp->Prop)->Prop
def PO(X:Cx)(e:Option Expr)(t:TO):Prop :=
 ∀(pins:PNz)(s:Shared)(σ:St)(H:Hp)(Q:Option Int->Hp->Prop),Inv X pins σ H s->t σ H Q ->
  wpAny (model X.prog X.w) X.A (evalPart e X.env) (λ u s'=>∃o H',Inv X pins σ H' s'/\IsPart u o/\Q o H') X.xe s
def Q6:TO:=λ_ H Q=>Q none H
def Tc(t:TE):TO:=λ σ H Q=>t σ H λ x H1=>∃i,x=.int i/\Q (some i) H1
theorem EG{ns:List Int}:∀{us:LWz},Vals (ns.map V.int) us->IntsAre us ns:=by
 induction ns with
 |nil=>intro us r;rw[List.map_nil]at r;cases r;exact .nil
 |cons n ns ih =>
  intro us r;rw[List.map_cons]at r;cases r with
  |cons r1 r2 =>
   obtain⟨t,e⟩:=r1;subst e;exact .cons n t (ih r2)
section
variable{X:Cx}{e:Expr}{te:TE}{lo hi:Option Expr}{tl th:TO}{pos p2:Pos}
theorem QK:PO X none Q6:=by
 intro pins s σ H Q I h;rw[evalPart_none];exact wpAny_pure ⟨none,H,I,.none,h⟩
theorem QJ(h:PE X e te):PO X (some e) (Tc te):=by
 intro pins s σ H Q I hw;rw[evalPart_some];refine thn (h pins s σ H _ I hw) λ u s1 hz_=>?_;obtain⟨x,H1,I1,r1,q1⟩:=hz_;obtain⟨i,rfl,q⟩:=q1;obtain⟨t,rfl⟩:=r1;exact⟨some i,H1,I1,.int i t,q⟩
def SlR(X:Cx)(r:V->Option Int->Option Int->Hp->VK->Prop):Prop :=
 ∀(pins:PNz)(s:Shared)(σ:St)(H:Hp)(x:V)(v vl vu:Value)(lo hi:Option Int)(sl:Addr)(Q:VK),Inv X pins σ H s->RelV x v->s.heap.IsSliceOf sl vl vu .none->IsPart vl lo->IsPart vu hi->r x lo hi H Q ->
  ∃T id,typeLookup (.type T) "__getitem__"=pure (some (.builtin id))/\s.TypeIs v T/\wpAny (model X.prog X.w) X.A (getItem v (.ref sl)) (EP X pins σ Q) X.xe s
def tSl(r:V->Option Int->Option Int->Hp->VK->Prop)(te:TE)(tl th:TO):TE:=λ σ H Q=>te σ H λ x H1=>tl σ H1 λ l H2=>th σ H2 λ u H3=>r x l u H3 Q
theorem Pw{r:V->Option Int->Option Int->Hp->VK->Prop}(hr:SlR X r)(he:PE X e te)(hl:PO X lo tl)(hu:PO X hi th):PE X (.Subscript e (.Slice lo hi none p2) pos) (tSl r te tl th):=by
 intro pins s σ H Q I h;refine Subscript_ (thn (he pins s σ H _ I h) λ v s1 hz_=>?_);obtain⟨x,H1,I1,r1,q1⟩:=hz_;refine wpAny_Slice (thn (hl pins s1 σ H1 _ I1 q1) λ vl s2 hz_=>?_);obtain⟨l,H2,I2,pl,q2⟩:=hz_;refine thn (hu pins s2 σ H2 _ I2 q2) λ vu s3 hz_=>?_;obtain⟨u,H3,I3,pu,q3⟩:=hz_;rw[evalPart_none];refine wpAny_pure ?_;have I4:Inv X pins σ H3 { s3 with heap:=s3.heap.push { cls:=.type "slice",data:=.fields #[vl,vu,.none] } }:=I3.kept (t':=s3.toks) λ b ob q=>Heap.get?_push_of_some _ q;obtain⟨T,id,hT,ht,hg⟩:=hr pins { s3 with heap:=s3.heap.push { cls:=.type "slice",data:=.fields #[vl,vu,.none] } } σ H3 x v vl vu l u s3.heap.objs.size Q I4 r1 (Heap.IsSliceOf.new ..) pl pu q3;show wpAny (model X.prog X.w) X.A (subscriptTail e (.Slice lo hi none p2) v (.ref s3.heap.objs.size)) (EP X pins σ Q) X.xe { s3 with heap:=s3.heap.push { cls:=.type "slice",data:=.fields #[vl,vu,.none] } };exact tail_any (ops:=[.ref s3.heap.objs.size,v]) ht hT hg (by with_unfolding_all rfl)
def Qg(xs:LUz)(lo hi:Option Int):LUz:=(xs.drop (HT.sIx xs.length 0 lo)).take (HT.sIx xs.length xs.length hi-HT.sIx xs.length 0 lo)
theorem L4(xs:LUz)(lo hi:Option Int):(Qg xs lo hi).length<=xs.length:=by
 unfold Qg;rw[List.length_take,List.length_drop];lia
end
def ixN(n:Nat)(i:Int):Option Nat:=if 0<=i then (if i<n then some i.toNat else none) else if -(n:Int)<=i then some (i+n).toNat else none
def atI{α:Type}(xs:List α)(i:Int):Option α:=(ixN xs.length i).bind λ j=>xs[j]?
theorem Nx{n:Nat}{i:Int}{j:Nat}(h:ixN n i=some j):seqIndex? i n=some j/\j<n/\-(n:Int)<=i/\i<n:=by
 unfold ixN at h;by_cases h0:0<=i
 .rw[if_pos h0]at h;by_cases h1:i<n
  .rw[if_pos h1]at h;have e:i.toNat=j:=Option.some.inj h;exact⟨by rw[seqIndex_of h0 h1,e],by lia,by lia,h1⟩
  .rw[if_neg h1]at h;cases h
 .rw[if_neg h0]at h;by_cases h1:-(n:Int)<=i
  .rw[if_pos h1]at h;have e:(i+n).toNat=j:=Option.some.inj h;exact⟨by rw[seqIndex_neg (by lia) h1,e],by lia,h1,by lia⟩
  .rw[if_neg h1]at h;cases h
theorem ND{α:Type}{xs:List α}{i:Int}{v:α}(h:atI xs i=some v):∃j,seqIndex? i xs.length=some j/\xs[j]?=some v/\j<xs.length/\-(xs.length:Int)<=i/\i<xs.length:=by
 unfold atI at h;cases e:ixN xs.length i with
 |none=>rw[e]at h;cases h
 |some j =>
  rw[e]at h;obtain⟨h1,h2,h3,h4⟩:=Nx e;exact⟨j,h1,h,h2,h3,h4⟩
theorem Fj{α:Type}{xs:List α}{j:Nat}{v:α}(h:xs[j]?=some v):atI xs (j:Int)=some v:=by
 have hj:j<xs.length:=(List.getElem?_eq_some_iff.mp h).1;have e:ixN xs.length (j:Int)=some j:=by
  unfold ixN;rw[if_pos (by lia),if_pos (by lia)];simp
 unfold atI;rw[e];exact h
def R3(b:Expr):Prop:=∀o i,subscripted b false o i=operate [o,i] (getItem o i)
def IxR(X:Cx)(r:R2):Prop :=
 ∀(value slice:Expr)(pins:PNz)(s:Shared)(σ:St)(H:Hp)(x y:V)(v u:Value)(Q:VK),Inv X pins σ H s->RelV x v->RelV y u->r x y H Q ->
  subscripted slice false v u=operate [v,u] (getItem v u)->wpAny (model X.prog X.w) X.A (subscriptTail value slice v u) (EP X pins σ Q) X.xe s
def MtR(X:Cx)(id:String)(r:V->LUz->Hp->VK->Prop):Prop :=
 ∀(pins:PNz)(s:Shared)(σ:St)(H:Hp)(x:V)(xs:LUz)(v:Value)(us:LWz)(Q:VK),Inv X pins σ H s->RelV x v->Vals xs us->r x xs H Q ->
  wpAny (model X.prog X.w) X.A (call (.builtin id) (v::us)) (EP X pins σ Q) X.xe s
section
variable{X:Cx}{a b:Expr}{ta tb:TE}{pos:Pos}
theorem Ao{r:R2}(hr:IxR X r)(ha:PE X a ta)(hb:PE X b tb)(hs:R3 b):PE X (.Subscript a b pos) (tOp r ta tb):=by
 intro pins s σ H Q I h;exact Subscript_ (SK ha hb I h λ v u s2 x y H2 I2 rx ry q=>hr a b pins s2 σ H2 x y v u Q I2 rx ry q (hs _ _))
inductive Ur(K:Frag)(x y:V)(H:Hp)(Q:VK):Prop
 |mk (p:Addr) (xs:LUz) (i:Int) (v:V) (e1:x=.ref p) (e2:y=.int i) (s:SqL K H p xs) (a:atI xs i=some v) (q:Q v H):Ur K x y H Q
inductive Uq(K:Frag)(x y:V)(H:Hp)(Q:VK):Prop
 |mk (p:Addr) (xs:LUz) (i:Int) (v:V) (e1:x=.ref p) (e2:y=.int i) (s:SqT K H p xs) (a:atI xs i=some v) (q:Q v H):Uq K x y H Q
def Tw(K:Frag):R2:=λ x y H Q=>Ur K x y H Q
def QF(K:Frag):R2:=λ x y H Q=>Uq K x y H Q
theorem Bb:IxR X (Tw X.K):=by
 intro value slice pins s σ H x y v u Q I rx ry h hs;obtain⟨p,xs,i,z,rfl,rfl,hq,he,q⟩:=h;cases rx;obtain⟨t,rfl⟩:=ry;obtain⟨its,r,pl,hz⟩:=I.list hq;obtain⟨j,h1,h2,h3,h4,h5⟩:=ND he;obtain⟨w,ew,rw'⟩:=r.get h2;have hl:=r.length;have hn:=He;have fin:EP X pins σ Q w s:=⟨z,H,I,rw',q⟩;by_cases h0:0<=i
 .have hj:i.toNat=j:=by
   rw[seqIndex_of h0 h5]at h1;exact Option.some.inj h1
  exact item_listR pl.isList h0 (by lia) (by rw[hj];simpa using ew) fin hs
 .have hj:(i+(its.toArray.size:Int)).toNat=j:=by
   rw[seqIndex_neg (by lia) h4]at h1;rw[List.size_toArray,<-hl];exact Option.some.inj h1
  exact subscriptTail_builtinR (x:=w) pl.isList.typeIs slot_list_getitem.lookup
   (wpAny_getItem_list_neg (Q:=λ r s'=>r=w/\EP X pins σ Q r s') pl.isList (by lia) (by rw[List.size_toArray]<;>lia) (by lia) (by rw[hj];simpa using ew) ⟨rfl,fin⟩) hs
theorem An:IxR X (QF X.K):=by
 intro value slice pins s σ H x y v u Q I rx ry h hs;obtain⟨p,xs,i,z,rfl,rfl,hq,he,q⟩:=h;cases rx;obtain⟨t,rfl⟩:=ry;obtain⟨its,r,pl,hz⟩:=I.tuple hq;obtain⟨j,h1,h2,h3,h4,h5⟩:=ND he;obtain⟨w,ew,rw'⟩:=r.get h2;have hl:=r.length;have hn:=He;have fin:EP X pins σ Q w s:=⟨z,H,I,rw',q⟩;exact subscriptTail_builtinR (x:=w) pl.typeIs slot_tuple_getitem.lookup
  (getItem_tuple (j:=j) (Q:=λ r s'=>r=w/\EP X pins σ Q r s') pl (by lia) (by lia) (by rw[List.size_toArray,<-hl];exact h1) (by simpa using ew) ⟨rfl,fin⟩) hs
theorem M3(its:LWz)(n j:Nat)(u:Value):Obj.mapSeq (·.setIfInBounds j u) { cls:=.type "list",data:=.seq its.toArray n }={ cls:=.type "list",data:=.seq (its.set j u).toArray n }:=by
 simp[Obj.mapSeq]
theorem Inv.lst{pins:PNz}{σ:St}{H:Hp}{s:Shared}{p:Addr}{xs:LUz}(I:Inv X pins σ H s)(h:H p=some (.lst xs)) :
  ∃(its:LWz)(n:Nat),Vals xs its/\s.heap.get? p=some { cls:=.type "list",data:=.seq its.toArray n }/\xs.length<=sizeLine:=by
 obtain⟨z,its,n,r,e⟩:=I.hok p _ h;exact⟨its,n,r,e,z⟩
theorem Inv.lstUpd{pins:PNz}{σ:St}{H:Hp}{s:Shared}{p:Addr}{xs ys:LUz}{its its':LWz}{n n':Nat}{f:Obj->Obj}(I:Inv X pins σ H s)(h:H p=some (.lst xs))
  (ho:s.heap.get? p=some { cls:=.type "list",data:=.seq its.toArray n }) (hf:f { cls:=.type "list",data:=.seq its.toArray n }={ cls:=.type "list",data:=.seq its'.toArray n' }) (r:Vals ys its') (hz:ys.length<=sizeLine) (t:Nat) :
  Inv X pins σ (upd H p (.lst ys)) { s with heap:=s.heap.update p f,toks:=t }:=by
 have e:(s.heap.update p f).get? p=some { cls:=.type "list",data:=.seq its'.toArray n' }:=by
  rw[Heap.get?_update_self f ho (by rw[hf]<;>rfl),hf]
 refine I.write (x:=p) (e:=p) (by rw[h];trivial) (.inl rfl) (λ b u hb q=>(Heap.get?_update_other _ _ (Ne.symm hb)).trans q) ⟨_,e⟩ ?_;exact⟨hz,its',n',r,e⟩
def Tv:V->V->V->Hp->(Hp->Prop)->Prop:=λ o i v H Q=>∃p xs k j,o=.ref p/\i=.int k/\H p=some (.lst xs)/\ixN xs.length k=some j/\Q (upd H p (.lst (xs.set j v)))
theorem KB:Ul X Tv:=by
 intro pins s σ H o i v ov iv u Q I ro ri rv h;obtain⟨p,xs,k,j,rfl,rfl,hp,hj,q⟩:=h;cases ro;obtain⟨t,rfl⟩:=ri;obtain⟨its,n,r,ho,hz⟩:=I.lst hp;obtain⟨h1,h2,h3,h4⟩:=Nx hj;have hl:=r.length;have hn:=He;have I':Inv X pins σ (upd H p (.lst (xs.set j v))) { s with heap:=s.heap.update p (Obj.mapSeq (·.setIfInBounds j u)) } :=
  I.lstUpd hp ho (M3 its n j u) (r.set rv j) (by rw[List.length_set];exact hz) s.toks
 by_cases h0:0<=k
 .have hk:k.toNat=j:=by
   rw[seqIndex_of h0 h4]at h1;exact Option.some.inj h1
  exact ki_setAt ho h0 (by lia) (by rw[List.size_toArray,<-hl];exact h4) (by rw[hk];exact⟨_,I',q⟩)
 .have hk:(k+(its.toArray.size:Int)).toNat=j:=by
   rw[seqIndex_neg (by lia) h3]at h1;rw[List.size_toArray,<-hl];exact Option.some.inj h1
  exact ki_setBack ho (by lia) (by rw[List.size_toArray,<-hl];exact h3) (by lia) (by rw[hk];exact⟨_,I',q⟩)
theorem JA(lo hi:Option Int)(n:Nat):(sliceBounds lo hi none n).1=((HT.sIx n 0 lo:Nat):Int)/\(sliceBounds lo hi none n).2.1=((HT.sIx n n hi:Nat):Int)/\(sliceBounds lo hi none n).2.2=1:=by
 refine⟨?_,?_,rfl⟩
 .cases lo with
  |none=>simp[sliceBounds,HT.sIx]
  |some i =>
   simp only[sliceBounds,HT.sIx,Option.getD_none,show(1:Int)>0 by decide,if_true];by_cases h:i<0
   .simp only[h,if_true]<;>lia
   .simp only[h,if_false]<;>lia
 .cases hi with
  |none=>simp[sliceBounds,HT.sIx]
  |some i =>
   simp only[sliceBounds,HT.sIx,Option.getD_none,show(1:Int)>0 by decide,if_true];by_cases h:i<0
   .simp only[h,if_true]<;>lia
   .simp only[h,if_false]<;>lia
theorem HW(its:LWz)(lo hi:Option Int):slicePick its.toArray lo hi none=((its.drop (HT.sIx its.length 0 lo)).take (HT.sIx its.length its.length hi-HT.sIx its.length 0 lo)).toArray:=by
 obtain⟨h1,h2,h3⟩:=JA lo hi its.toArray.size;unfold slicePick;rw[h1,h2,h3];simp only[sliceRange_one,pick_run,List.size_toArray]<;>rfl
def UH(K:Frag):V->Option Int->Option Int->Hp->VK->Prop:=λ x lo hi H Q=>∃a xs,x=.ref a/\SqL K H a xs/\∀p,H p=none->Q (.ref p) (upd H p (.lst (Qg xs lo hi)))
theorem Q9:SlR X (UH X.K):=by
 intro pins s σ H x v vl vu lo hi sl Q I rx hs pl pu h;obtain⟨a,xs,rfl,hx,q⟩:=h;cases rx;obtain⟨its,r,ht,hz⟩:=I.list hx;have hlen:=r.length;refine⟨"list",_,slot_list_getitem.lookup,ht.isList.typeIs,?_⟩;refine wpAny_getItem_list_slice ht.isList hs pl pu .none (by simp) ?_ (by rw[List.size_toArray]<;>lia);rw[HW,<-hlen];refine⟨.ref s.heap.objs.size,_,I.laid (t':=s.toks) (o:=.lst (Qg xs lo hi)) (λ b ob q=>Heap.get?_push_of_some _ q) (Nat.le_refl _) ?_,rfl,q _ (I.hok.fresh (Nat.le_refl _))⟩;exact⟨Nat.le_trans (L4 xs lo hi) hz,_,0,(r.drop (HT.sIx xs.length 0 lo)).take (HT.sIx xs.length xs.length hi-HT.sIx xs.length 0 lo),Heap.get?_push_size _ rfl⟩
def BH:V->Bool
 |.non=>true
 |.bl _=>true
 |.int _=>true
 |.str _=>true
 |_=>false
def eqV:V->V->Bool
 |.non,.non=>true
 |.bl a,.bl b=>a==b
 |.bl a,.int b=>(if a then 1 else 0)==b
 |.int a,.bl b=>a==(if b then 1 else 0)
 |.int a,.int b=>a==b
 |.str a,.str b=>a==b
 |_,_=>false
theorem ME{A:Around}{s:Shared}{y x:V}{u v:Value}(ry:RelV y u)(rx:RelV x v)(fy:BH y=true)(fx:BH x=true):SeqAt.EqAt A s u v (eqV y x):=by
 cases y with
 |non =>
  cases ry;cases x with
  |non=>cases rx;exact SeqAt.EqAt.same _
  |bl b=>cases rx;exact SeqAt.EqAt.none_bool b
  |int b=>obtain⟨t,rfl⟩:=rx;exact SeqAt.EqAt.none_int b t
  |str b=>obtain⟨t,rfl⟩:=rx;exact SeqAt.EqAt.none_str b t
  |_=>exact absurd (show false=true from fx) Bool.false_ne_true
 |bl a =>
  cases ry;cases x with
  |non=>cases rx;exact SeqAt.EqAt.bool_none a
  |bl b=>cases rx;exact SeqAt.EqAt.bool_bool a b
  |int b=>obtain⟨t,rfl⟩:=rx;exact SeqAt.EqAt.bool_int a b t
  |str b=>obtain⟨t,rfl⟩:=rx;exact SeqAt.EqAt.bool_str a b t
  |_=>exact absurd (show false=true from fx) Bool.false_ne_true
 |int a =>
  obtain⟨t',rfl⟩:=ry;cases x with
  |non=>cases rx;exact SeqAt.EqAt.int_none a t'
  |bl b=>cases rx;exact SeqAt.EqAt.int_bool a t' b
  |int b=>obtain⟨t,rfl⟩:=rx;exact SeqAt.EqAt.int_int a t' b t
  |str b=>obtain⟨t,rfl⟩:=rx;exact SeqAt.EqAt.int_str a t' b t
  |_=>exact absurd (show false=true from fx) Bool.false_ne_true
 |str a =>
  obtain⟨t',rfl⟩:=ry;cases x with
  |non=>cases rx;exact SeqAt.EqAt.str_none a t'
  |bl b=>cases rx;exact SeqAt.EqAt.str_bool a t' b
  |int b=>obtain⟨t,rfl⟩:=rx;exact SeqAt.EqAt.str_int a t' b t
  |str b=>obtain⟨t,rfl⟩:=rx;exact SeqAt.EqAt.str_str a t' b t
  |_=>exact absurd (show false=true from fx) Bool.false_ne_true
 |_=>exact absurd (show false=true from fy) Bool.false_ne_true
def eqU(x:V)(u:Value):Bool:=match u with
 |.none=>eqV .non x
 |.bool b=>eqV (.bl b) x
 |.int i _=>eqV (.int i) x
 |.str z _=>eqV (.str z) x
 |_=>false
theorem Qa{x y:V}{u:Value}(r:RelV y u)(f:BH y=true):eqU x u=eqV y x:=by
 cases y with
 |non=>cases r;rfl
 |bl b=>cases r;rfl
 |int i=>obtain⟨t,rfl⟩:=r;rfl
 |str z=>obtain⟨t,rfl⟩:=r;rfl
 |_=>exact absurd (show false=true from f) Bool.false_ne_true
theorem Kj{x:V}:∀{xs:LUz}{us:LWz},Vals xs us->xs.all BH=true->us.any (eqU x)=xs.any λ y=>eqV y x
 |_,_,.nil,_=>rfl
 |y::xs,u::us,.cons r t,f=>by
  rw[List.all_cons,Bool.and_eq_true]at f;rw[List.any_cons,List.any_cons,Qa r f.1,Kj t f.2]
theorem Hc{A:Around}{s:Shared}{x:V}{v:Value}(rx:RelV x v)(fx:BH x=true):∀{xs:LUz}{us:LWz},Vals xs us->xs.all BH=true->∀u∈us,SeqAt.EqAt A s u v (eqU x u)
 |_,_,.nil,_=>λ u hu=>by cases hu
 |y::xs,u::us,.cons r t,f=>λ u' hu=>by
  rw[List.all_cons,Bool.and_eq_true]at f;rcases List.mem_cons.mp hu with rfl|hu
  .rw[Qa r f.1];exact ME r rx f.1 fx
  .exact Hc rx fx t f.2 u' hu
def inV(x:V)(xs:LUz):Bool:=xs.any λ y=>eqV y x
def rIn(K:Frag)(neg:Bool):R2:=λ x y H Q=>∃p xs,y=.ref p/\(SqL K H p xs\/SqT K H p xs)/\BH x=true/\xs.all BH=true/\Q (.bl (if neg then !inV x xs else inV x xs)) H
theorem Of:OpR X (compareOp .In) (rIn X.K false):=by
 intro pins s σ H x y v u Q I rx ry h;obtain⟨p,xs,rfl,hq,fx,fs,q⟩:=h;cases ry;rcases hq with hq|hq
 .obtain⟨its,r,pl,hz⟩:=I.list hq;refine SeqAt.in_listAt (eqU x) pl.isList (λ w hw=>Hc rx fx r fs w (by simpa using hw)) ⟨.bl _,H,I,rfl,?_⟩;rw[show its.toArray.any (eqU x)=its.any (eqU x) by simp,Kj r fs];exact q
 .obtain⟨its,r,pl,hz⟩:=I.tuple hq;refine SeqAt.in_tupleAt (eqU x) pl (λ w hw=>Hc rx fx r fs w (by simpa using hw)) ⟨.bl _,H,I,rfl,?_⟩;rw[show its.toArray.any (eqU x)=its.any (eqU x) by simp,Kj r fs];exact q
theorem AA:Ec X (.builtin "len") (λ xs H Q=>∃p ys,xs=[.ref p]/\(SqL X.K H p ys\/SqT X.K H p ys)/\Q (.int ys.length) H):=by
 intro pins s σ H xs us Q I r h;obtain⟨p,ys,rfl,hq,q⟩:=h;obtain⟨u,rfl,rx⟩:=ER r;cases rx;have hn:=He;rcases hq with hq|hq
 .obtain⟨its,r',pl,hz⟩:=I.list hq;have hlen:=r'.length;exact Calls.call_len_list pl.isList (by simp only[List.size_toArray]<;>lia) ⟨.int ys.length,H,I.tok _,⟨s.toks+1,by rw[List.size_toArray,hlen]⟩,q⟩
 .obtain⟨its,r',pl,hz⟩:=I.tuple hq;have hlen:=r'.length;exact len_tuple pl (by simp only[List.size_toArray]<;>lia) ⟨.int ys.length,H,I.tok _,⟨s.toks+1,by rw[List.size_toArray,hlen]⟩,q⟩
theorem Fi:Ec X (.type "list") (λ xs H Q=>∃p ys,xs=[.ref p]/\(SqL X.K H p ys\/SqT X.K H p ys)/\∀l,H l=none->Q (.ref l) (upd H l (.lst ys))):=by
 intro pins s σ H xs us Q I r h;obtain⟨p,ys,rfl,hq,q⟩:=h;obtain⟨u,rfl,rx⟩:=ER r;cases rx;have fin:∀(its:LWz),Vals ys its->ys.length<=sizeLine->∀(h':Heap)(c':Nat),(∀b o',s.heap.get? b=some o'->h'.get? b=some o') ->
   h'.get? s.heap.objs.size=some { cls:=.type "list",dict:=none,data:=.seq its.toArray c',slots:=#[] }->EP X pins σ Q (.ref s.heap.objs.size) { s with heap:=h' }:=λ its r' hz h' c' kp e =>
  ⟨.ref s.heap.objs.size,_,I.laid (t':=s.toks) kp (Nat.le_refl _) (show ObjOk X.prog X.w _ h' _ (.lst ys) from ⟨hz,its,c',r',e⟩),rfl,q _ (I.hok.fresh (Nat.le_refl _))⟩
 rcases hq with hq|hq
 .obtain⟨its,r',pl,hz⟩:=I.list hq;have hlen:=r'.length;obtain⟨o,ho,hc,n,hd⟩:=pl.isList;exact call_list_seq p (.inl rfl) ho hc hd (λ h' c' kp e=>fin its r' hz h' c' kp e) (by simp only[List.size_toArray]<;>lia)
 .obtain⟨its,r',pl,hz⟩:=I.tuple hq;have hlen:=r'.length;obtain⟨o,ho,hc,n,hd⟩:=pl;exact call_list_seq p (.inr rfl) ho hc hd (λ h' c' kp e=>fin its r' hz h' c' kp e) (by simp only[List.size_toArray]<;>lia)
def tyV(K:Frag)(T:String)(x:V)(H:Hp):Prop:=match x with
 |.str _=>T="str"
 |.int _=>T="int"
 |.ref p=>(T="list"/\∃xs,SqL K H p xs)\/(T="tuple"/\∃o,K.lookup p=some o/\o.cls=.type "tuple"/\o.dict=none) \/
   (T="dict"/\((∃kvs,H p=some (.dK kvs))\/∃kvs,H p=some (.dT kvs)))\/(T="set"/\∃S n,H p=some (.set S n))
 |_=>False
theorem OU{pins:PNz}{σ:St}{H:Hp}{s:Shared}{T:String}{x:V}{v:Value}(I:Inv X pins σ H s)(r:RelV x v)(ty:tyV X.K T x H) :
  s.TypeIs v T/\∀a,v=.ref a->∃ob,s.heap.get? a=some ob/\ob.dict=none:=by
 cases x with
 |str z =>
  obtain⟨t,rfl⟩:=r;cases(show T="str" from ty);exact⟨typeIs_str s z t,λ_ e=>nomatch e⟩
 |int i =>
  obtain⟨t,rfl⟩:=r;cases(show T="int" from ty);exact⟨typeIs_int s i t,λ_ e=>nomatch e⟩
 |ref p =>
  cases r;rcases ty with ⟨rfl,xs,hq⟩|⟨rfl,o,hk,hc,hd⟩|⟨rfl,hk⟩|⟨rfl,S,n,hk⟩
  .obtain⟨its,_,pl,_⟩:=I.list hq;refine⟨pl.isList.typeIs,λ a e=>?_⟩;cases e;obtain⟨o,n,e,c,hd,_⟩:=pl;exact⟨o,e,hd⟩
  .refine⟨⟨o,I.kIn p o hk,hc⟩,λ a e=>?_⟩;cases e;exact⟨o,I.kIn _ o hk,hd⟩
  .have z:∃o,s.heap.get? p=some o/\o.ExactDict:=by
    rcases hk with ⟨kvs,hk⟩|⟨kvs,hk⟩
    .obtain⟨_,_,_,_,o,_,_,e,ex,_⟩:=I.hok p _ hk;exact⟨o,e,ex⟩
    .obtain⟨_,_,_,_,o,_,_,e,ex,_⟩:=I.hok p _ hk;exact⟨o,e,ex⟩
   obtain⟨o,e,ex⟩:=z;refine⟨⟨o,e,ex.1⟩,λ a e2=>?_⟩;cases e2;exact⟨o,e,ex.2.1⟩
  .obtain⟨o,_,_,_,e,ex,_⟩:=I.hok p _ hk;refine⟨⟨o,e,ex.1⟩,λ a e2=>?_⟩;cases e2;exact⟨o,e,ex.2.1⟩
 |_=>exact False.elim ty
def U6(K:Frag)(T:String)(r:V->LUz->Hp->VK->Prop)(to:TE):TE:=λ σ H Q=>to σ H λ x H1=>tyV K T x H1/\r x [] H1 Q
def tBM(K:Frag)(T:String)(r:V->LUz->Hp->VK->Prop)(to:TE)(t:TA):TE:=λ σ H Q=>to σ H λ x H1=>tyV K T x H1/\t σ H1 λ xs H2=>r x xs H2 Q
variable{o e:Expr}{es:List Expr}{to:TE}{t:TA}{name:Str}{apos cpos:Pos}{T id:String}{r:V->LUz->Hp->VK->Prop}
theorem F4(pa:PlainAttrs T)(slot:Slot T name id)(hty:typeOf (.builtin id)=pure (.type "method_descriptor"))(hm:MtR X id r)(ho:PE X o to)
  (hbase:attributeBase o name X.env (eval o X.env)=eval o X.env:=by rfl) (hline:(apos.endLine==cpos.line)=true:=by rfl):PE X (.Call (.Attribute o name apos) [] [] cpos) (U6 X.K T r to):=by
 intro pins s σ H Q I h;refine wpAny_Call_method0_late hbase hline (thn (ho pins s σ H _ I h) λ v s1 hz_=>?_);obtain⟨x,H1,I1,r1,ty,q1⟩:=hz_;obtain⟨h1,h2⟩:=OU I1 r1 ty;exact⟨T,id,pa,slot,hty,h1,h2,Calls.callWith_builtin rfl (PySem.evalArgs_none (hm pins s1 σ H1 x [] v [] Q I1 r1 .nil q1))⟩
theorem Dk(pa:PlainAttrs T)(slot:Slot T name id)(hty:typeOf (.builtin id)=pure (.type "method_descriptor"))(hm:MtR X id r)(ho:PE X o to)(ha:PA X (e::es) t)
  (hbase:attributeBase o name X.env (eval o X.env)=eval o X.env:=by rfl)
  (hfew:((backTo cpos (starEach (e::es) X.env)).all (λ x=>!x.1)&&(backToKw cpos (keywordEach [] X.env)).all (λ x=>x.1.isSome)
  &&decide ((e::es).length+([]:List Keyword).length+(if ([]:List Keyword).isEmpty then 0 else 1)<30))=true:=by rfl)
  (hline:(apos.endLine==cpos.line)=true:=by rfl) (hs:starEach (e::es) X.env=(false,eval e X.env)::starEach es X.env:=by rfl) (hplain:(backTo cpos (starEach es X.env)).any (·.1)=false:=by rfl) :
  PE X (.Call (.Attribute o name apos) (e::es) [] cpos) (tBM X.K T r to t):=by
 intro pins s σ H Q I h;refine wpAny_Call_method_late hbase hfew hline rfl (thn (ho pins s σ H _ I h) λ v s1 hz_=>?_);obtain⟨x,H1,I1,r1,ty,q1⟩:=hz_;obtain⟨h1,h2⟩:=OU I1 r1 ty;refine⟨T,id,pa,slot,hty,h1,h2,?_⟩;have hA:=ha cpos pins s1 σ H1 _ I1 q1;rw[hs]at hA |-;refine Calls.callWith_builtin (by show(false||(backTo cpos (starEach es X.env)).any (·.1))=false;rw[hplain]<;>rfl) (Calls.evalArgs_plain ?_);exact thn hA λ us s2 ⟨vs,H2,I2,r2,q2⟩=>hm pins s2 σ H2 x vs v us Q I2 r1 r2 q2
/- xs.append(e),list.index on a module's tuple .. are MtR facts of 06m -/
end
def MtM(X:Cx)(id:String)(r:V->LUz->Hp->VK->Prop):Prop :=
 ∀(pins:PNz)(s:Shared)(σ:St)(H:Hp)(x:V)(xs:LUz)(v:Value)(us:LWz)(Q:VK),Inv X pins σ H s->RelV x v->Vals xs us->r x xs H Q ->
  wpAny (model X.prog X.w) X.A (call (.builtin id) (v::us)) (EP X pins σ Q) X.xe s
theorem Vals.one:∀{x:V}{us:LWz},Vals [x] us->∃u,us=[u]/\RelV x u
 |_,_,.cons r .nil=>⟨_,rfl,r⟩
theorem Vals.zero:∀{us:LWz},Vals [] us->us=[]
 |_,.nil=>rfl
theorem Vals.dropLast{xs:LUz}{us:LWz}(h:Vals xs us):Vals xs.dropLast us.dropLast:=by
 induction h with
 |nil=>exact .nil
 |cons r t ih =>
  cases t with
  |nil=>exact .nil
  |cons q t'=>exact .cons r ih
theorem MD{α:Type}(l:List α):l.eraseIdx (l.length-1)=l.dropLast:=by
 induction l with
 |nil=>rfl
 |cons a r ih =>
  cases r with
  |nil=>rfl
  |cons b r =>
   have e:(a::b::r).length-1=((b::r).length-1)+1:=by
    have h1:(a::b::r).length=r.length+2:=rfl;have h2:(b::r).length=r.length+1:=rfl;lia
   rw[e,List.eraseIdx_cons_succ,ih]
   all_goals rfl
section
variable{X:Cx}{pins:PNz}{σ:St}{H:Hp}{s:Shared}{l b:Addr}{xs ys zs:LUz}
theorem Inv.lset{its its':LWz}{n:Nat}{f:Array Value->Array Value}{t':Nat}(I:Inv X pins σ H s)(hH:H l=some (.lst xs))
  (e:s.heap.get? l=some { cls:=.type "list",data:=.seq its.toArray n }) (hf:f its.toArray=its'.toArray) (hv:Vals ys its') (hz:ys.length<=sizeLine) :
  Inv X pins σ (upd H l (.lst ys)) { s with heap:=s.heap.update l (Obj.mapSeq f),toks:=t' }:=by
 have q:=PySem.IsL.update e f;rw[hf]at q;refine I.write (x:=l) (e:=l) (by rw[hH];exact trivial) (.inl rfl) (λ b' u hb hu=>(Heap.get?_update_other s.heap (Obj.mapSeq f) (Ne.symm hb)).trans hu) ⟨_,q⟩ ?_;exact⟨hz,its',_,hv,q⟩
theorem Inv.lnew{its:LWz}{t':Nat}(I:Inv X pins σ H s)(hv:Vals ys its)(hz:ys.length<=sizeLine) :
  Inv X pins σ (upd H s.heap.objs.size (.lst ys)) { s with heap:=s.heap.push { cls:=.type "list",data:=.seq its.toArray },toks:=t' } :=
 I.laid (λ_ _ q=>Heap.get?_push_of_some _ q) (Nat.le_refl _) ⟨hz,its,0,hv,Heap.get?_push_size _ rfl⟩
theorem Inv.fresh(I:Inv X pins σ H s):H s.heap.objs.size=none:=I.hok.fresh (Nat.le_refl _)
theorem Inv.lstM(I:Inv X pins σ H s)(hH:H l=some (.lst xs)):xs.length<=sizeLine/\∃(its:LWz)(n:Nat),Vals xs its/\xs.length=its.length/\s.heap.get? l=some { cls:=.type "list",data:=.seq its.toArray n }:=by
 obtain⟨z,its,n,r,e⟩:=I.hok l _ hH;exact⟨z,its,n,r,r.length,e⟩
theorem P2{n:Nat}(h:n<=sizeLine):Builtin.List.listTooLong n=false:=by
 unfold Builtin.List.listTooLong;exact decide_eq_false (by lia)
end
section
variable{X:Cx}
def QH:V->LUz->Hp->VK->Prop:=λ x vs H Q=>∃l xs y,x=.ref l/\vs=[y]/\H l=some (.lst xs)/\xs.length<sizeLine/\Q .non (upd H l (.lst (xs++[y])))
theorem AZ:MtM X "list.append" QH:=by
 intro pins s σ H x vs v us Q I rx rv h;obtain⟨l,xs,y,rfl,rfl,hH,hz,q⟩:=h;cases rx;obtain⟨u,rfl,ru⟩:=rv.one;obtain⟨z,its,n,r,hl,e⟩:=I.lstM hH;refine call_meets F.slot_list_append ⟨_,e,rfl⟩ F.entry_list_append (F.args_list_append_2 _ _) (PySem.list_append l its.toArray n u (by rw[List.size_toArray];lia)) ⟨e,?_⟩;refine⟨.non,_,I.lset (its':=its++[u]) hH e (by simp) (r.append (.cons ru .nil)) ?_,rfl,q⟩;rw[List.length_append,List.length_singleton];lia
def QG:V->LUz->Hp->VK->Prop:=λ x vs H Q=>∃l b xs zs,x=.ref l/\vs=[.ref b]/\H l=some (.lst xs)/\H b=some (.lst zs)/\xs.length+zs.length<=sizeLine/\Q .non (upd H l (.lst (xs++zs)))
theorem F9:MtM X "list.extend" QG:=by
 intro pins s σ H x vs v us Q I rx rv h;obtain⟨l,b,xs,zs,rfl,rfl,hH,hB,hz,q⟩:=h;cases rx;obtain⟨u,rfl,ru⟩:=rv.one;cases ru;obtain⟨z,its,n,r,hl,e⟩:=I.lstM hH;obtain⟨z2,its2,n2,r2,hl2,e2⟩:=I.lstM hB;have hsz:its.toArray.size+its2.toArray.size<=sizeLine:=by rw[List.size_toArray,List.size_toArray];lia
 have hlong:¬(!its.toArray.isEmpty&&Builtin.List.listTooLong (its.toArray.size+its2.toArray.size))=true:=by
  rw[P2 hsz,Bool.and_false];exact Bool.false_ne_true
 refine call_meets F.slot_list_extend ⟨_,e,rfl⟩ F.entry_list_extend (F.args_list_extend_2 _ _)
  (AutoSeq1.list_extend_list_list_0 l its.toArray n b its2.toArray n2 hlong (by rw[List.size_toArray];lia) (by lia)) ⟨e,e2,?_⟩
 refine⟨.non,_,I.lset (its':=its++its2) hH e (by simp) (r.append r2) ?_,rfl,q⟩;rw[List.length_append];lia
def UI:V->LUz->Hp->VK->Prop:=λ x vs H Q=>∃l xs y,x=.ref l/\vs=[]/\H l=some (.lst xs)/\xs[xs.length-1]?=some y/\Q y (upd H l (.lst xs.dropLast))
theorem F8:MtM X "list.pop" UI:=by
 intro pins s σ H x vs v us Q I rx rv h;obtain⟨l,xs,y,rfl,rfl,hH,hy,q⟩:=h;cases rx;have hus:=rv.zero;subst hus;obtain⟨z,its,n,r,hl,e⟩:=I.lstM hH;obtain⟨u,hu,ru⟩:=r.get hy;have hy':its.toArray[its.toArray.size-1]?=some u:=by
  show its.toArray[its.length-1]?=some u;rw[<-Array.getElem?_toList,<-hl];exact hu
 refine call_meets F.slot_list_pop ⟨_,e,rfl⟩ F.entry_list_pop (F.args_list_pop_1 _) (MeetsSeq.list_pop_last l its.toArray n u hy' (by rw[List.size_toArray];lia)) ⟨e,?_⟩;refine⟨y,_,I.lset (its':=its.dropLast) hH e ?_ r.dropLast ?_,ru,q⟩
 .show its.toArray.eraseIdxIfInBounds (its.toArray.size-1)=its.dropLast.toArray;rw[List.size_toArray,List.eraseIdxIfInBounds_toArray,MD]
 .rw[List.length_dropLast];lia
inductive Ut(x y:V)(H:Hp)(Q:VK):Prop
 |mk (l b:Addr) (xs zs:LUz) (e1:x=.ref l) (e2:y=.ref b) (h1:H l=some (.lst xs)) (h2:H b=some (.lst zs)) (n:xs.length+zs.length<=sizeLine) (q:∀p,H p=none->Q (.ref p) (upd H p (.lst (xs++zs)))):Ut x y H Q
def UJ:R2:=λ x y H Q=>Ut x y H Q
theorem P1:OpR X (binaryOp .Add) UJ:=by
 intro pins s σ H x y v u Q I rx ry h;obtain⟨l,b,xs,zs,rfl,rfl,hH,hB,hz,q⟩:=h;cases rx;cases ry;obtain⟨z,its,n,r,hl,e⟩:=I.lstM hH;obtain⟨z2,its2,n2,r2,hl2,e2⟩:=I.lstM hB;refine PySem.P.add_list e e2 ?_ (by rw[List.size_toArray,List.size_toArray];lia);have ea:its.toArray++its2.toArray=(its++its2).toArray:=by simp
 rw[ea];exact⟨.ref _,_,I.lnew (t':=s.toks) (r.append r2) (by rw[List.length_append];lia),rfl,q _ I.fresh⟩
end
end L2
namespace Att
open PySem.W
open PySem PySem.Calls PyProof.Rows
theorem Gg{P:Params}{h:Heap}:∀(ns:List Int)(vs:LWz),WellAll P h vs (ns.map WData.int)->IntsAre vs ns:=by
 intro ns
 induction ns with
 |nil =>
  intro vs w;rw[List.map_nil]at w;cases w;exact .nil
 |cons n ns ih =>
  intro vs w;rw[List.map_cons]at w;cases w with
  |cons a b =>
   cases a;exact .cons _ _ (ih _ b)
theorem NZ{l:OpenLaw}{n:Nat}(hn:l.most=some n){P:Params}{h:Heap}{args:List WData}{vals:LWz}
  (hpre:l.row.toRowW.claim.pre args=true) (hwl:WellAll P h vals args) :
  ∃a vs ns,vals=[Value.ref a]/\args=[WData.list (ns.map WData.int)]/\h.get? a=some { cls:=.type "list",data:=.seq vs.toArray }/\IntsAre vs ns/\ns.length<=n:=by
 have hsh:WShape.hasAll [] args [.list .int]=true:=(pre_splitW hpre).1;have hc:l.pre.holds [] { args:=args }=true:=(pre_splitW hpre).2;obtain⟨d,r,rfl,h1,h2⟩:=hasAllW_cons hsh;obtain rfl:=hasAllW_nil h2;obtain⟨xs,rfl,h3⟩:=hasW_list h1;obtain⟨ns,rfl⟩:=items_int h3;have hlen:ns.length<=n:=by
  unfold OpenLaw.pre at hc;have h4:(WTm.not (.lt (.lit (.int (n:Int))) (.len (.arg 0)))).holds [] { args:=[.list (ns.map .int)] }=true:=by
   have h4:=(holds_andW hc).1;rw[hn]at h4;exact h4
  have h5:=condW_of h4 (w_not (w_lt w_lit (w_len_list (w_arg rfl))));rw[List.length_map]at h5;refine Nat.le_of_not_lt λ q=>?_;have q':(n:Int)<((ns.length:Nat):Int):=by lia
  first
   | (rw[decide_eq_true q']at h5;exact absurd h5 (by decide))
   | (simp at h5;lia)
 cases hwl with
 |cons w1 w2 =>
  cases w2;cases w1 with
  |list ho hall=>exact⟨_,_,ns,rfl,rfl,ho,Gg ns _ hall,hlen⟩
theorem Ob(l:OpenLaw)(args:List WData):l.row.toRowW.claim.post args (.bool true) args=true :=
 postW_of (r:=l.row.toRowW) (X:=(true==true))
  (show WShape.has [] (.bool true) .bool=true by first|rfl|decide|simp[WShape.has,WShape.arms,WShape.armsAll])
  (show(WTm.eq .res (.lit (.bool true))).value [] { args:=args,res:=some (.bool true),after:=args }=some (.bool (true==true)) from w_eq_bool (w_res rfl) w_lit) rfl
theorem attach_call{l:OpenLaw}{n:Nat}{q:Program}{loose:LSz}{XP:(MGz)->Heap->Prop}{YP:World->Heap->Prop}{d:DefRec}
  (hn:l.most=some n) (hdf:d.params.defaults=[])
  (call:∀(w:World)(s₀ s₁:Shared)(mg mb:MGz)(fa:Addr)(o:Obj)(pm cd doc:Value)(a:Addr)(vs:LWz)(ns:List Int),
   Ground q loose [] XP w s₀ mg mb s₁.heap->YP w s₁.heap ->
   s₁.heap.get? fa=some o->o.data=.func (docDef d.name d.params d.body d.scope pm cd doc)->s₁.heap.CodeRec cd d.name->mg d.name=some (.ref fa) ->
   s₁.heap.get? a=some { cls:=.type "list",data:=.seq vs.toArray }->IntsAre vs ns->ns.length<=n->s₁.gens=#[] ->
   codeAny (model l.prog w) callerA (.call (.ref fa) ⟨[.ref a],[]⟩) (λ r s'=>r=.ok (.ret (.bool true))/\OldK s₁.heap s'.heap/\s'.os=s₁.os/\AllBare s'.gens) s₁) :
  WalkO q loose XP YP l.row.toRowW d [] (λ f vs=>PySem.call f vs):=by
 intro w s₀ s₁ mg mb G Y fa o pm cd doc dV kV ho hd hcd hD hmg hg args vals as hpre hlay hrd hwl hlo;obtain rfl:dV=.none:=Dflts.none hD hdf;obtain rfl:kV=.none:=Dflts.noKw hD;obtain⟨a,vs,ns,rfl,rfl,hobj,hints,hlen⟩:=NZ hn hpre hwl;refine enter_call (codeAny_mono (call w s₀ s₁ mg mb fa o pm cd doc a vs ns G Y ho (fd_plain hd) hcd hmg hobj hints hlen hg) λ r s' hq=>?_);obtain⟨rfl,h2,h3,h4⟩:=hq;exact⟨.inl ⟨.bool true,.bool true,[],rfl,λ_=>rfl,.bool true,Ob l _,λ_=>⟨List.Pairwise.nil,λ_ hm=>(nomatch hm)⟩⟩,h2,h3,h4⟩
end Att
namespace L2
open PySem.W
open PySem PySem.Spec PyProof.Rows
theorem IA:∀{vs:LWz}{ns:List Int},IntsAre vs ns->Vals (ns.map V.int) vs
 |_,_,.nil=>.nil
 |_,_,.cons n t h=>.cons ⟨t,rfl⟩ (IA h)
end L2
/- THE LAST THEOREM (shape;LID,My.* are yours):
  My.Adr: a structure of the addresses that your layer names (classes,functions);My.Txt K t: a structure (Prop) of the equations over K;
  My.txt_mk:{K} {implicit addresses ..} (e1:nsIn K mainGlobals "law"=some (some (.ref f))) (e2:K.lookup f=some ⟨oc,od,.func (fnOf "law" "law" params body scope dV kV doc pm an cdv ct),sl⟩) (e3:codeIn K cdv "law"=true) ..:∃t,My.Txt K t
set_option maxRecDepth 100000 in
set_option maxHeartbeats 0 in
theorem PySem.Challenge.cw_LID_holds:PySem.Challenge.rw_LID.Holds:=by
 w_on;o_law;k_head;(case hw=>w_witness2)
 k_fill
 refine L2.walk_of (l:=PySem.Challenge.rw_LID) (n:=63) (k:=40) (x:="script") (CX:=λ w=>..) (sp:=λ_=>My.sp_law) rfl (by decide) rfl ⟨rfl,by decide,by decide⟩ (λ w h Y=>kIn_of Y) ?F ?S ?C
 case F =>
  intro w mg fa h KX G hmg;have T:∃t,My.Txt (L2.KOf KX) t:=by
   dsimp only[L2.KOf]                          -- K must stand as «<heap const> w.params» for k_is;refine' My.txt_mk ?e1 ?e2 ?e3 ..
   (case e1=>k_is)                    -- in the order: a name -> its address -> its object -> its parts
   (case e2=>k_is)
   ..
  obtain⟨t,T⟩:=T;have e0:=hmg.symm.trans (mg_of KX G T.law);cases e0                                       -- fa is the law's own address;exact⟨_,λ s u=>.of_eq rfl,λ base kb nb=>My.law_fn T kb nb⟩     -- if «.of_eq rfl» comes too early: refine'⟨_,?b,λ base kb nb=>My.law_fn T kb nb⟩;exact λ s u=>.of_eq rfl
 case S=>exact λ w H a ns hl hO hS=>..
 case C=>exact ..
(the tactic k_is has no namespace: write k_is) -/
namespace L2
open PySem.W
open PySem PySem.Spec PyProof.Rows
def AH(s:Stmt)(j:Nat):Stmt:=match s with
 |.ClassDef _ _ _ body _ _ _ _ _ _ _=>body.getD j (.Pass ⟨0,0,0,0⟩)
 |_=>.Pass ⟨0,0,0,0⟩
def Bk(s:Stmt):Arguments:=match s with
 |.FunctionDef _ a _ _ _ _ _ _ _ _=>a
 |_=>{ posonlyargs:=[],args:=[],vararg:=none,kwonlyargs:=[],kw_defaults:=[],kwarg:=none,defaults:=[] }
def Ar(s:Stmt):List Stmt:=match s with
 |.FunctionDef _ _ b _ _ _ _ _ _ _=>b
 |_=>[]
def Ag(s:Stmt):Scope:=match s with
 |.FunctionDef _ _ _ _ _ _ sc _ _ _=>sc
 |_=>{ kind:=.function,names:=[],isGenerator:=false,isCoroutine:=false }
abbrev CX0:CXT:=λ_ _ _ _ _ _=>False
abbrev E0:XK:=λ_ _ _=>False
theorem GH{X:Cx}:DC CX0 X E0:=λ_ _ _ _ _ _ _ h=>h.elim
structure Fun(K:Frag)(x qual:Str)(st:Stmt)(f:Addr)(fd:FuncData):Prop where
 ex:∃(oc:Value)(od:Option Addr)(kV doc pm:Value)(an:Option Addr)(cdv ct:Value)(osl:AOz),
  fd=fnOf x qual (Bk st) (Ar st) (Ag st) .none kV doc pm an cdv ct/\K.lookup f=some ⟨oc,od,.func fd,osl⟩/\codeIn K cdv qual=true
 kp:keepIn K (.ref f)=true
section
variable{P:Program}{w:World}{K:Frag}{mg:MGz}{base:Heap}
theorem Fun.ok{x qual:Str}{st:Stmt}{f:Addr}{fd:FuncData}{N ps:LSz}{k:Nat}{sp:Sp}(F:Fun K x qual st f fd)(S:Ak N ps (Ag st))(len:∀vs H Q E,sp vs H Q E->vs.length=ps.length)
  (hbody:∀(cdv:Value)(A:Around)(outer:List Env)(s:Shared)(H:Hp)(vs:LUz)(Q:VK)(E:XK),Room k (A.deeper (envOfC qual (Ag st) s.heap.objs.size f cdv))->sp vs H Q E ->
   ∃t,PSs (BF CX0 P w K mg base N qual (Ag st) f cdv A outer s H E).nox (Ar st) t/\t { nx:=λ_ H'=>Q .non H',rt:=Q } (start N vs) H):FnOk P w K mg base CX0 (k+1) f fd ps sp:=by
 obtain⟨oc,od,kV,doc,pm,an,cdv,ct,osl,rfl,lk,hcd⟩:=F.ex;refine Lv lk hcd S len λ A outer s H vs Q E hr hsp=>?_;obtain⟨t,h,q⟩:=hbody cdv A outer s H vs Q E hr hsp;exact⟨t,h.nox,q⟩
theorem Fun.binds{x qual:Str}{st:Stmt}{f:Addr}{fd:FuncData}{ps:LSz}(F:Fun K x qual st f fd)
  (h:∀(kV doc pm:Value)(an:Option Addr)(cdv ct:Value)(us:LWz),us.length=ps.length->bindArgs (fnOf x qual (Bk st) (Ar st) (Ag st) .none kV doc pm an cdv ct) ⟨us,[]⟩=pure (ps.zip us)):Binds K fd ps []:=by
 obtain⟨oc,od,kV,doc,pm,an,cdv,ct,osl,rfl,lk,hcd⟩:=F.ex;exact .all (h kV doc pm an cdv ct)
end
theorem Lq{A:Around}{k:Nat}(hr:Room k A):A.units+1<cLine:=Nat.lt_of_le_of_lt (Nat.add_le_add_left (by decide:1<=64) _) hr.units
theorem A0{n:Nat}(h:n<=1000):n<sizeLine:=Nat.lt_of_le_of_lt h (by decide)
section
variable{X:Cx}
theorem pv(i:Nat){x:Str}{pos:Pos}(hN:X.N[i]?=some x:=by rfl)(hv:Vis X.env.scope x:=by first|exact Or.inl rfl|exact Or.inr (Or.inl rfl)|exact Or.inr (Or.inr rfl))(hd:(x==("__debug__":Str))=false:=by decide)
  (hcd:(x==("__classdict__":Str))=false:=by decide):PE X (.Name x pos) (HV i):=Pu hN hv hd hcd
end
theorem Fe{A B:Prop}(h:B):if false=true then A else B:=by
 rw[if_neg Bool.false_ne_true];exact h
theorem E2{A B:Prop}(h:A):if true=true then A else B:=by
 rw[if_pos rfl];exact h
def Same(H H':Hp):Prop:=∀b o,H b=some o->H' b=some o
theorem Same.refl(H:Hp):Same H H:=λ_ _ h=>h
theorem Same.trans{H H1 H2:Hp}(a:Same H H1)(b:Same H1 H2):Same H H2:=λ c o h=>b c o (a c o h)
theorem Same.seq{K:Frag}{H H':Hp}{a:Addr}{xs:LUz}(e:Same H H')(h:SqL K H a xs):SqL K H' a xs:=by
 rcases h with (h|⟨o,h⟩)|h
 .exact .inl (.inl (e _ _ h))
 .exact .inl (.inr ⟨o,e _ _ h⟩)
 .exact .inr h
end L2
set_option maxHeartbeats 4000000
namespace L2
open PySem.W
open PySem PyProof.Rows
def IR{α β:Type}(oS:Program->LSz->LSz->(Shared->Bool)->Bool->Shared->α)(ms:LSz)(p q:Program)(lo:LSz)(Xt:Shared->Bool)(Yf:Shared->β)(h0:Heap)(s:Shared):Bool×α×β :=
 ((((staticsOk ms h0 s.heap&&namesBound p s.heap)&&gensDone s)&&laidKept h0 s.heap),oS q lo ms Xt true s,Yf s)
noncomputable abbrev DY(P:Params)(os:OsState):Shared:=Shared.mk (boot_heap P) (Array.mk []) boot_drawn boot_toks os
theorem Os{p q:Program}{lo:LSz}{Xt:Shared->Bool}{β:Type}{Yf:Shared->β}{Ya:World->β}{N m:Nat}{an:Option Value}
  (bo:∀w:World,Option.map (λ s=>(s.heap,s.gens,s.drawn,s.toks)) (fencedOpening treeTable p w N)=some (boot_heap w.params,Array.mk [],boot_drawn,boot_toks))
  (sz:∀w:World,((boot_heap w.params).isNs mainGlobals,(boot_heap w.params).objs.size,(boot_heap w.params).nsMap mainGlobals "__annotations__")=(true,m,an))
  (rn:∀(w:World)(os:OsState),Option.map (IR openSeen (importedModules p.main.body) p q lo Xt Yf (boot_heap w.params)) (topRun treeTable p w m an N (DY w.params os) (topStub p))=some (true,openGood q lo,Ya w)) :
  LeftO p q lo Xt Yf Ya N:=by
 intro w;obtain⟨s0,e0,e1⟩:=Option.map_eq_some_iff.mp (bo w);obtain⟨hp,gs,dr,tk,os⟩:=s0;simp only[Prod.mk.injEq]at e1;obtain⟨rfl,rfl,rfl,rfl⟩:=e1;have z:=sz w;simp only[Prod.mk.injEq]at z;obtain⟨z1,z2,z3⟩:=z;obtain⟨s1,r1,r2⟩:=Option.map_eq_some_iff.mp (rn w os);unfold IR at r2;simp only[Prod.mk.injEq]at r2;obtain⟨l1,l2,l3⟩:=r2;have tf:topFrom treeTable p w N (DY w.params os)=some s1:=by
  unfold topFrom;dsimp only;rw[z1,z2,z3];show Option.bind (topRun treeTable p w m an N (DY w.params os) (topStub p)) _=_;rw[r1];show(match (((staticsOk (importedModules p.main.body) (boot_heap w.params) s1.heap&&namesBound p s1.heap)&&gensDone s1)&&laidKept (boot_heap w.params) s1.heap) with|true=>some s1|false=>none)=_;rw[l1]
 unfold openEnds;rw[e0];show Option.map _ (topFrom treeTable p w N (DY w.params os))=_;rw[tf];exact congrArg some (Prod.ext l2 l3)
def OW:List Obj->Nat->BT->BT
 |[],_,t=>t
 |o::r,i,t=>OW r (i+1) (t.ins i o)
def Dt(ok:Thread->Bool)(stp:SharedT->Thread->Option (SharedT×Thread)):Nat->SharedT->Thread->Option SharedT
 |0,_,_=>none
 |n+1,s,t=>match through t with
  |true=>some s
  |false=>match ok t with
   |false=>none
   |true=>match stp s t with
    |some (s1,t1)=>Dt ok stp n s1 t1
    |none=>none
theorem G1{tb:String->Option Builtin}{p:Program}{w:World}{m:Nat}{an:Option Value}:∀{n:Nat}{s s1:SharedT}{t:Thread},Dt (stepOk m an) (stepT (denote tb) p w) n s t=some s1->topRun tb p w m an n s.abs t=some s1.abs
 |0,_,_,_,h=>by cases h
 |n+1,s,s1,t,h=>by
  rw[Dt]at h;rw[topRun];cases ht:through t with
  |true=>rw[ht]at h;cases h;rfl
  |false =>
   rw[ht]at h;cases hk:stepOk m an t with
   |false=>rw[hk]at h;cases h
   |true =>
    rw[hk]at h;cases hs:stepT (denote tb) p w s t with
    |none=>rw[hs]at h;cases h
    |some r =>
     obtain⟨s2,t2⟩:=r;rw[hs]at h;rw[stepT_spec hs];exact G1 h
noncomputable def TY(P:Params):BT:=OW (boot_heap P).objs.toList 0 .nil
noncomputable def Fk(P:Params)(os:OsState):SharedT:=SharedT.mk (TY P) 11 (boot_heap P).life (Array.mk []) boot_drawn boot_toks os
theorem Ql(P:Params)(os:OsState):(Fk P os).abs=DY P os:=by kernel_rfl
theorem Sr{p q:Program}{lo ms:LSz}{Xt:Shared->Bool}{α β:Type}{Yf:Shared->β}{N m:Nat}{an:Option Value}{w:World}{os:OsState}{r:Bool×α×β}{oS:Program->LSz->LSz->(Shared->Bool)->Bool->Shared->α}
  (h:Option.map (λ s=>IR oS ms p q lo Xt Yf (boot_heap w.params) (SharedT.abs s)) (Dt (stepOk m an) (stepT (denote treeTable) p w) N (Fk w.params os) (topStub p))=some r) :
  Option.map (IR oS ms p q lo Xt Yf (boot_heap w.params)) (topRun treeTable p w m an N (DY w.params os) (topStub p))=some r:=by
 obtain⟨s,e,z⟩:=Option.map_eq_some_iff.mp h;have e:=G1 e;rw[Ql]at e;rw[e];exact congrArg some z
theorem TC{σ α β:Type}{r:Option σ}{f:σ->Bool}{g:σ->α}{k:σ->β}{a:α}{b:β}(h1:r.map f=some true)(h2:r.map g=some a)(h3:r.map k=some b):r.map (λ s=>(f s,g s,k s))=some (true,a,b):=by
 cases r with
 |none=>cases h1
 |some s =>
  have e1:=Option.some.inj h1;have e2:=Option.some.inj h2;have e3:=Option.some.inj h3;exact congrArg some (Prod.ext e1 (Prod.ext e2 e3))
def TB(ms:LSz)(p:Program)(h0:Heap)(s:Shared):Bool:=(((staticsOk ms h0 s.heap&&namesBound p s.heap)&&gensDone s)&&laidKept h0 s.heap)
def Uj(N m:Nat)(an:Option Value){p p':Program}{sT:(Code->Sem Fin)->Program->World->SharedT->Thread->Option (SharedT×Thread)}{dn:(String->Option Builtin)->Code->Sem Fin}{tT:String->Option Builtin}{iM:List Stmt->LSz}{oS:∀(q:Program)(lo ms:LSz)(Xt:Shared->Bool)(g0:Bool)(s:Shared),_}(h1:@stepT=sT)(h0:@denote=dn)(h2:treeTable=tT)(h3:@importedModules=iM)(h4:@openSeen=oS)(h5:p=p'):Prop:=∀(w:World)(os:OsState),Option.map (λ s=>TB (iM p'.main.body) p' (boot_heap w.params) (SharedT.abs s)) (Dt (stepOk m an) (sT (dn tT) p' w) N (Fk w.params os) (topStub p'))=some true
def Ui(N m:Nat)(an:Option Value)(q:Program->Program)(lo:LSz)(Xt:Program->Shared->Bool){p p':Program}{sT:(Code->Sem Fin)->Program->World->SharedT->Thread->Option (SharedT×Thread)}{dn:(String->Option Builtin)->Code->Sem Fin}{tT:String->Option Builtin}{iM:List Stmt->LSz}{oS:∀(q:Program)(lo ms:LSz)(Xt:Shared->Bool)(g0:Bool)(s:Shared),_}(h1:@stepT=sT)(h0:@denote=dn)(h2:treeTable=tT)(h3:@importedModules=iM)(h4:@openSeen=oS)(h5:p=p'):Prop:=∀(w:World)(os:OsState),Option.map (λ s=>oS (q p') lo (iM p'.main.body) (Xt p') true (SharedT.abs s)) (Dt (stepOk m an) (sT (dn tT) p' w) N (Fk w.params os) (topStub p'))=some (openGood (q p') lo)
def Uh(N m:Nat)(an:Option Value){β:Type}(Yf:Shared->β)(Ya:World->β){p p':Program}{sT:(Code->Sem Fin)->Program->World->SharedT->Thread->Option (SharedT×Thread)}{dn:(String->Option Builtin)->Code->Sem Fin}{tT:String->Option Builtin}{iM:List Stmt->LSz}{oS:∀(q:Program)(lo ms:LSz)(Xt:Shared->Bool)(g0:Bool)(s:Shared),_}(h1:@stepT=sT)(h0:@denote=dn)(h2:treeTable=tT)(h3:@importedModules=iM)(h4:@openSeen=oS)(h5:p=p'):Prop:=∀(w:World)(os:OsState),Option.map (λ s=>Yf (SharedT.abs s)) (Dt (stepOk m an) (sT (dn tT) p' w) N (Fk w.params os) (topStub p'))=some (Ya w)
theorem QD{q:Program->Program}{lo:LSz}{Xt:Program->Shared->Bool}{β:Type}{Yf:Shared->β}{Ya:World->β}{N m:Nat}{an:Option Value}{p p':Program}{sT:(Code->Sem Fin)->Program->World->SharedT->Thread->Option (SharedT×Thread)}{dn:(String->Option Builtin)->Code->Sem Fin}{tT:String->Option Builtin}{iM:List Stmt->LSz}{oS:∀(q:Program)(lo ms:LSz)(Xt:Shared->Bool)(g0:Bool)(s:Shared),_}{h1:@stepT=sT}{h0:@denote=dn}{h2:treeTable=tT}{h3:@importedModules=iM}{h4:@openSeen=oS}{h5:p=p'}
  (rA:Uj N m an h1 h0 h2 h3 h4 h5) (rB:Ui N m an q lo Xt h1 h0 h2 h3 h4 h5) (rC:Uh N m an Yf Ya h1 h0 h2 h3 h4 h5) :
  ∀(w:World)(os:OsState),Option.map (IR openSeen (importedModules p.main.body) p (q p) lo (Xt p) Yf (boot_heap w.params)) (topRun treeTable p w m an N (DY w.params os) (topStub p))=some (true,openGood (q p) lo,Ya w):=by
 subst h1 h0 h2 h3 h4 h5;exact λ w os=>Sr (TC (rA w os) (rB w os) (rC w os))
open PySem.Spec
def hookT(K:Hook)(Ts:List Addr):Hook :=
 ⟨K.α×List (Option Obj),λ s=>(K.obs s,Ts.map λ T=>s.heap.get? T),λ w=>(K.val w,Ts.map λ_=>some (tabObj #[])),λ w h=>K.says w h/\∀T∈Ts,h.get? T=some (tabObj #[]),
  λ w s e=>⟨K.of w s (Prod.mk.inj e).1,λ T hT=>by
   have e2:=(Prod.mk.inj e).2;have:=List.map_eq_map_iff.mp e2 T hT;exact this⟩,λ w h h' x k=>⟨K.keeps w h h' x.1 k,λ T hT=>k _ _ (x.2 T hT)⟩⟩
end L2
namespace KH
open PySem.W
open PySem PyProof.Rows L2
noncomputable def top(i:Nat):Stmt:=PySem.Challenge.pw_glazebench_k56_worths_refused.main.body.getD i (.Pass ⟨0,0,0,0⟩)
noncomputable def kE(P:Params)(x:Str)(t:Tok)(v:Value):DictEntry:=⟨PyData.keyHash P x,.str x t,v⟩
noncomputable abbrev fo(a b:Str)(e:Stmt)(d m:Value)(c:Addr):Obj:=⟨(.type "function"),none,(.func (fnOf a b (Bk e) (Ar e) (Ag e) d .none .none m none (.ref c) .none)),#[]⟩
noncomputable abbrev cp(a b:Str)(t u v:Tok)(l n:Int)(r:Addr)(i:Int)(p:Addr)(q x y:Value)(j k:Int)(z:Tok):Obj:=⟨(.type "code"),none,(.fields #[(.str a t),(.str b u),(.str "/claim/cut.py" v),(.int l 0),(.int n 0),(.int (0) 0),(.int (0) 0),(.int (3) 0),(.ref r),(.bool true),(.int i 0),(.ref p),.none,q,x,y,(.int j 0),(.int k 0),(.str "/claim/cut.py" z)]),#[]⟩
noncomputable abbrev co(a b:Str)(t u v:Tok)(l n:Int)(r:Addr)(i:Int)(p q x y:Addr)(j k:Int)(z:Tok):Obj:=⟨(.type "code"),none,(.fields #[(.str a t),(.str b u),(.str "/claim/cut.py" v),(.int l 0),(.int n 0),(.int (0) 0),(.int (0) 0),(.int (3) 0),(.ref r),(.bool true),(.int i 0),(.ref p),.none,(.ref q),(.ref x),(.ref y),(.int j 0),(.int k 0),(.str "/claim/cut.py" z)]),#[]⟩
noncomputable def KK:Params->Frag:=λ P=>(nat_lit 2,⟨.none,none,(.dict #[] 0),#[]⟩)::(nat_lit 3,⟨(.type "dict"),none,(.dict #[kE P "__name__" 165 (.str "law_glazebench_k56_worths_refused" 903),kE P "__doc__" 166 .none,kE P "__package__" 167 .none,kE P "__loader__" 168 (.builtin "__main__.__loader__#opaque"),kE P "__spec__" 169 .none,kE P "__annotations__" 170 (.ref 6),kE P "__builtins__" 171 (.ref 4),kE P "__file__" 173 (.str "/claim/cut.py" 172),kE P "__cached__" 174 .none,kE P "_wall" 193 (.ref 21),kE P "GlassError" 213 (.ref 31),kE P "NoSide" 238 (.ref 51),kE P "TooMany" 263 (.ref 70),kE P "NoCut" 288 (.ref 89),kE P "NoKind" 313 (.ref 108),kE P "Unfit" 338 (.ref 127),kE P "NoFlaw" 363 (.ref 146),kE P "LONGEST_SIDE" 367 (.int (12) 366),kE P "is_whole" 374 (.ref 155),kE P "is_side" 381 (.ref 162),kE P "size_of" 388 (.ref 169),kE P "area_of" 395 (.ref 176),kE P "check_sides" 404 (.ref 183),kE P "WHOLE" 408 (.str "whole" 407),kE P "UPRIGHT" 410 (.str "upright" 409),kE P "LEVEL" 412 (.str "level" 411),kE P "Tree" 470 (.ref 228),kE P "Whole" 495 (.ref 250),kE P "Upright" 524 (.ref 269),kE P "Level" 553 (.ref 288),kE P "kind_of" 560 (.ref 297),kE P "entry_of" 568 (.ref 304),kE P "entries_of" 578 (.ref 311),kE P "cut_from" 588 (.ref 318),kE P "tree_from" 600 (.ref 325),kE P "entries_by" 612 (.ref 332),kE P "check_cut" 622 (.ref 339),kE P "first_piece" 631 (.ref 346),kE P "other_piece" 640 (.ref 353),kE P "cut_out" 654 (.ref 360),kE P "pieces" 663 (.ref 367),kE P "MOST_KINDS" 667 (.int (8) 666),kE P "GREATEST_WORTH" 669 (.int (1000000000) 668),kE P "is_kind" 676 (.ref 374),kE P "check_kinds" 685 (.ref 381),kE P "has_size" 695 (.ref 388),kE P "is_of_kind" 703 (.ref 395),kE P "choice_uncut" 714 (.ref 402),kE P "cuts_within" 720 (.ref 407),kE P "best_choice" 735 (.ref 414),kE P "tree_by" 746 (.ref 421),kE P "worths_in" 756 (.ref 428),kE P "choices_by_size" 769 (.ref 435),kE P "worths" 778 (.ref 442),kE P "best" 787 (.ref 449),kE P "is_laid" 796 (.ref 456),kE P "worth_of" 802 (.ref 461),kE P "LONGEST_FLAWED" 806 (.int (7) 805),kE P "MOST_FLAWS" 808 (.int (49) 807),kE P "check_flawed_sides" 817 (.ref 468),kE P "is_square_of" 826 (.ref 475),kE P "check_flaws" 837 (.ref 482),kE P "itself" 844 (.ref 489),kE P "runs_within" 850 (.ref 494),kE P "pieces_within" 856 (.ref 499),kE P "lies_in" 864 (.ref 506),kE P "flawed_uncut" 870 (.ref 511),kE P "choices_by_piece" 882 (.ref 518),kE P "flawed_worths" 892 (.ref 525),kE P "flawed_best" 902 (.ref 532),kE P "_law_cell" 912 (.ref 539),kE P "_law_draw" 922 (.ref 546),kE P "_law_side" 929 (.ref 553),kE P "_law_is_side" 936 (.ref 560),kE P "_law_kinds" 949 (.ref 567),kE P "_law_flaws" 955 (.ref 572),kE P "_law_asked" 969 (.ref 579),kE P "_law_due" 984 (.ref 586),kE P "_law_right" 992 (.ref 593),kE P "law" 998 (.ref 598)] 80),#[]⟩)::(nat_lit 20,co "_wall" "_wall" 187 188 189 1 1 15 181 16 17 18 19 191 1 192)::(nat_lit 21,fo "_wall" "_wall" (top 0) .none (.str "__main__" 164) 20)::(nat_lit 30,⟨(.type "dict"),none,(.dict #[kE P "__module__" 203 (.str "glazebench.errors" 194),kE P "__firstlineno__" 207 (.int (5) 206),kE P "__static_attributes__" 208 (.ref 29),kE P "__weakref__" 210 (.ref 32),kE P "__doc__" 211 .none] 3),#[]⟩)::(nat_lit 31,⟨(.type "type"),none,(.cls { name:="GlassError",bases:=[(.type "ValueError")],mro:=[(.ref 31),(.type "ValueError"),(.type "Exception"),(.type "BaseException"),(.type "object")],ns:=30,qualname:="GlassError",hasDict:=true,slotNames:=[],subclasses:=[(.ref 51),(.ref 70),(.ref 89),(.ref 108),(.ref 127),(.ref 146)],abstract:=false,collection:=none,hasDel:=false }),#[some (.ref 22),none,some (.str "GlassError" 196),some (.str "GlassError" 204),some (.builtin "ValueError.__new__"),some (.bool true)]⟩)::(nat_lit 32,⟨(.type "getset_descriptor"),none,(.fields #[(.str "__weakref__" 209),(.ref 31),(.builtin "ExceptionGroup.__weakref__"),.none]),#[]⟩)::(nat_lit 47,co "__init__" "NoSide.__init__" 226 227 228 9 2 42 181 43 44 45 46 231 9 232)::(nat_lit 48,fo "__init__" "NoSide.__init__" (AH (top 3) 0) .none (.str "glazebench.errors" 194) 47)::(nat_lit 50,⟨(.type "dict"),none,(.dict #[kE P "__module__" 221 (.str "glazebench.errors" 194),kE P "__firstlineno__" 225 (.int (7) 224),kE P "__init__" 233 (.ref 48),kE P "__static_attributes__" 235 (.ref 49),kE P "__doc__" 236 .none] 2),#[]⟩)::(nat_lit 51,⟨(.type "type"),none,(.cls { name:="NoSide",bases:=[(.ref 31)],mro:=[(.ref 51),(.ref 31),(.type "ValueError"),(.type "Exception"),(.type "BaseException"),(.type "object")],ns:=50,qualname:="NoSide",hasDict:=true,slotNames:=[],subclasses:=[],abstract:=false,collection:=none,hasDel:=false }),#[some (.ref 35),none,some (.str "NoSide" 214),some (.str "NoSide" 222),some (.builtin "ValueError.__new__"),some (.bool true)]⟩)::(nat_lit 66,co "__init__" "TooMany.__init__" 251 252 253 13 2 61 181 62 63 64 65 256 13 257)::(nat_lit 67,fo "__init__" "TooMany.__init__" (AH (top 4) 0) .none (.str "glazebench.errors" 194) 66)::(nat_lit 69,⟨(.type "dict"),none,(.dict #[kE P "__module__" 246 (.str "glazebench.errors" 194),kE P "__firstlineno__" 250 (.int (11) 249),kE P "__init__" 258 (.ref 67),kE P "__static_attributes__" 260 (.ref 68),kE P "__doc__" 261 .none] 2),#[]⟩)::(nat_lit 70,⟨(.type "type"),none,(.cls { name:="TooMany",bases:=[(.ref 31)],mro:=[(.ref 70),(.ref 31),(.type "ValueError"),(.type "Exception"),(.type "BaseException"),(.type "object")],ns:=69,qualname:="TooMany",hasDict:=true,slotNames:=[],subclasses:=[],abstract:=false,collection:=none,hasDel:=false }),#[some (.ref 54),none,some (.str "TooMany" 239),some (.str "TooMany" 247),some (.builtin "ValueError.__new__"),some (.bool true)]⟩)::(nat_lit 85,co "__init__" "NoCut.__init__" 276 277 278 17 2 80 181 81 82 83 84 281 17 282)::(nat_lit 86,fo "__init__" "NoCut.__init__" (AH (top 5) 0) .none (.str "glazebench.errors" 194) 85)::(nat_lit 88,⟨(.type "dict"),none,(.dict #[kE P "__module__" 271 (.str "glazebench.errors" 194),kE P "__firstlineno__" 275 (.int (15) 274),kE P "__init__" 283 (.ref 86),kE P "__static_attributes__" 285 (.ref 87),kE P "__doc__" 286 .none] 2),#[]⟩)::(nat_lit 89,⟨(.type "type"),none,(.cls { name:="NoCut",bases:=[(.ref 31)],mro:=[(.ref 89),(.ref 31),(.type "ValueError"),(.type "Exception"),(.type "BaseException"),(.type "object")],ns:=88,qualname:="NoCut",hasDict:=true,slotNames:=[],subclasses:=[],abstract:=false,collection:=none,hasDel:=false }),#[some (.ref 73),none,some (.str "NoCut" 264),some (.str "NoCut" 272),some (.builtin "ValueError.__new__"),some (.bool true)]⟩)::(nat_lit 104,co "__init__" "NoKind.__init__" 301 302 303 21 2 99 181 100 101 102 103 306 21 307)::(nat_lit 105,fo "__init__" "NoKind.__init__" (AH (top 6) 0) .none (.str "glazebench.errors" 194) 104)::(nat_lit 107,⟨(.type "dict"),none,(.dict #[kE P "__module__" 296 (.str "glazebench.errors" 194),kE P "__firstlineno__" 300 (.int (19) 299),kE P "__init__" 308 (.ref 105),kE P "__static_attributes__" 310 (.ref 106),kE P "__doc__" 311 .none] 2),#[]⟩)::(nat_lit 108,⟨(.type "type"),none,(.cls { name:="NoKind",bases:=[(.ref 31)],mro:=[(.ref 108),(.ref 31),(.type "ValueError"),(.type "Exception"),(.type "BaseException"),(.type "object")],ns:=107,qualname:="NoKind",hasDict:=true,slotNames:=[],subclasses:=[],abstract:=false,collection:=none,hasDel:=false }),#[some (.ref 92),none,some (.str "NoKind" 289),some (.str "NoKind" 297),some (.builtin "ValueError.__new__"),some (.bool true)]⟩)::(nat_lit 123,co "__init__" "Unfit.__init__" 326 327 328 25 2 118 181 119 120 121 122 331 25 332)::(nat_lit 124,fo "__init__" "Unfit.__init__" (AH (top 7) 0) .none (.str "glazebench.errors" 194) 123)::(nat_lit 126,⟨(.type "dict"),none,(.dict #[kE P "__module__" 321 (.str "glazebench.errors" 194),kE P "__firstlineno__" 325 (.int (23) 324),kE P "__init__" 333 (.ref 124),kE P "__static_attributes__" 335 (.ref 125),kE P "__doc__" 336 .none] 2),#[]⟩)::(nat_lit 127,⟨(.type "type"),none,(.cls { name:="Unfit",bases:=[(.ref 31)],mro:=[(.ref 127),(.ref 31),(.type "ValueError"),(.type "Exception"),(.type "BaseException"),(.type "object")],ns:=126,qualname:="Unfit",hasDict:=true,slotNames:=[],subclasses:=[],abstract:=false,collection:=none,hasDel:=false }),#[some (.ref 111),none,some (.str "Unfit" 314),some (.str "Unfit" 322),some (.builtin "ValueError.__new__"),some (.bool true)]⟩)::(nat_lit 142,co "__init__" "NoFlaw.__init__" 351 352 353 29 2 137 181 138 139 140 141 356 29 357)::(nat_lit 143,fo "__init__" "NoFlaw.__init__" (AH (top 8) 0) .none (.str "glazebench.errors" 194) 142)::(nat_lit 145,⟨(.type "dict"),none,(.dict #[kE P "__module__" 346 (.str "glazebench.errors" 194),kE P "__firstlineno__" 350 (.int (27) 349),kE P "__init__" 358 (.ref 143),kE P "__static_attributes__" 360 (.ref 144),kE P "__doc__" 361 .none] 2),#[]⟩)::(nat_lit 146,⟨(.type "type"),none,(.cls { name:="NoFlaw",bases:=[(.ref 31)],mro:=[(.ref 146),(.ref 31),(.type "ValueError"),(.type "Exception"),(.type "BaseException"),(.type "object")],ns:=145,qualname:="NoFlaw",hasDict:=true,slotNames:=[],subclasses:=[],abstract:=false,collection:=none,hasDel:=false }),#[some (.ref 130),none,some (.str "NoFlaw" 339),some (.str "NoFlaw" 347),some (.builtin "ValueError.__new__"),some (.bool true)]⟩)::(nat_lit 154,co "is_whole" "is_whole" 368 369 370 33 1 149 181 150 151 152 153 372 33 373)::(nat_lit 155,fo "is_whole" "is_whole" (top 11) .none (.str "glazebench.panels" 364) 154)::(nat_lit 161,co "is_side" "is_side" 375 376 377 35 1 156 181 157 158 159 160 379 35 380)::(nat_lit 162,fo "is_side" "is_side" (top 12) .none (.str "glazebench.panels" 364) 161)::(nat_lit 168,co "size_of" "size_of" 382 383 384 37 1 163 181 164 165 166 167 386 37 387)::(nat_lit 169,fo "size_of" "size_of" (top 13) .none (.str "glazebench.panels" 364) 168)::(nat_lit 175,co "area_of" "area_of" 389 390 391 39 1 170 181 171 172 173 174 393 39 394)::(nat_lit 176,fo "area_of" "area_of" (top 14) .none (.str "glazebench.panels" 364) 175)::(nat_lit 182,co "check_sides" "check_sides" 396 397 398 41 2 177 181 178 179 180 181 402 41 403)::(nat_lit 183,fo "check_sides" "check_sides" (top 15) .none (.str "glazebench.panels" 364) 182)::(nat_lit 196,co "leaves" "Tree.leaves" 425 426 427 51 1 191 181 192 193 194 195 429 51 430)::(nat_lit 197,fo "leaves" "Tree.leaves" (AH (top 20) 0) .none (.str "glazebench.cuts" 405) 196)::(nat_lit 203,co "depth" "Tree.depth" 432 433 434 54 1 198 181 199 200 201 202 436 54 437)::(nat_lit 204,fo "depth" "Tree.depth" (AH (top 20) 1) .none (.str "glazebench.cuts" 405) 203)::(nat_lit 210,co "turned" "Tree.turned" 439 440 441 57 1 205 181 206 207 208 209 443 57 444)::(nat_lit 211,fo "turned" "Tree.turned" (AH (top 20) 2) .none (.str "glazebench.cuts" 405) 210)::(nat_lit 217,co "fits" "Tree.fits" 446 447 448 60 3 212 181 213 214 215 216 452 60 453)::(nat_lit 218,fo "fits" "Tree.fits" (AH (top 20) 3) .none (.str "glazebench.cuts" 405) 217)::(nat_lit 224,co "same" "Tree.same" 455 456 457 63 2 219 181 220 221 222 223 460 63 461)::(nat_lit 225,fo "same" "Tree.same" (AH (top 20) 4) .none (.str "glazebench.cuts" 405) 224)::(nat_lit 227,⟨(.type "dict"),none,(.dict #[kE P "__module__" 420 (.str "glazebench.cuts" 405),kE P "__firstlineno__" 424 (.int (49) 423),kE P "leaves" 431 (.ref 197),kE P "depth" 438 (.ref 204),kE P "turned" 445 (.ref 211),kE P "fits" 454 (.ref 218),kE P "same" 462 (.ref 225),kE P "__static_attributes__" 463 (.ref 226),kE P "__dict__" 465 (.ref 229),kE P "__weakref__" 467 (.ref 230),kE P "__doc__" 468 .none] 4),#[]⟩)::(nat_lit 228,⟨(.type "type"),none,(.cls { name:="Tree",bases:=[(.type "object")],mro:=[(.ref 228),(.type "object")],ns:=227,qualname:="Tree",hasDict:=true,slotNames:=[],subclasses:=[(.ref 250),(.ref 269),(.ref 288)],abstract:=false,collection:=none,hasDel:=false }),#[none,none,some (.str "Tree" 413),some (.str "Tree" 421),some (.builtin "object.__new__"),some (.bool true)]⟩)::(nat_lit 229,⟨(.type "getset_descriptor"),none,(.fields #[(.str "__dict__" 464),(.ref 228),(.builtin "function.__dict__"),(.builtin "function.__dict__#set")]),#[]⟩)::(nat_lit 230,⟨(.type "getset_descriptor"),none,(.fields #[(.str "__weakref__" 466),(.ref 228),(.builtin "ExceptionGroup.__weakref__"),.none]),#[]⟩)::(nat_lit 240,⟨(.type "tuple"),none,(.seq #[.none] 0),#[]⟩)::(nat_lit 246,co "__init__" "Whole.__init__" 483 484 485 67 2 241 181 242 243 244 245 488 67 489)::(nat_lit 247,fo "__init__" "Whole.__init__" (AH (top 21) 0) (.ref 240) (.str "glazebench.cuts" 405) 246)::(nat_lit 249,⟨(.type "dict"),none,(.dict #[kE P "__module__" 478 (.str "glazebench.cuts" 405),kE P "__firstlineno__" 482 (.int (65) 481),kE P "__init__" 490 (.ref 247),kE P "__static_attributes__" 492 (.ref 248),kE P "__doc__" 493 .none] 2),#[]⟩)::(nat_lit 250,⟨(.type "type"),none,(.cls { name:="Whole",bases:=[(.ref 228)],mro:=[(.ref 250),(.ref 228),(.type "object")],ns:=249,qualname:="Whole",hasDict:=true,slotNames:=[],subclasses:=[],abstract:=false,collection:=none,hasDel:=false }),#[some (.ref 233),none,some (.str "Whole" 471),some (.str "Whole" 479),some (.builtin "object.__new__"),some (.bool true)]⟩)::(nat_lit 265,co "__init__" "Upright.__init__" 508 509 510 71 4 260 181 261 262 263 264 515 71 516)::(nat_lit 266,fo "__init__" "Upright.__init__" (AH (top 22) 0) .none (.str "glazebench.cuts" 405) 265)::(nat_lit 268,⟨(.type "dict"),none,(.dict #[kE P "__module__" 503 (.str "glazebench.cuts" 405),kE P "__firstlineno__" 507 (.int (69) 506),kE P "__init__" 517 (.ref 266),kE P "__static_attributes__" 521 (.ref 267),kE P "__doc__" 522 .none] 2),#[]⟩)::(nat_lit 269,⟨(.type "type"),none,(.cls { name:="Upright",bases:=[(.ref 228)],mro:=[(.ref 269),(.ref 228),(.type "object")],ns:=268,qualname:="Upright",hasDict:=true,slotNames:=[],subclasses:=[],abstract:=false,collection:=none,hasDel:=false }),#[some (.ref 253),none,some (.str "Upright" 496),some (.str "Upright" 504),some (.builtin "object.__new__"),some (.bool true)]⟩)::(nat_lit 284,co "__init__" "Level.__init__" 537 538 539 77 4 279 181 280 281 282 283 544 77 545)::(nat_lit 285,fo "__init__" "Level.__init__" (AH (top 23) 0) .none (.str "glazebench.cuts" 405) 284)::(nat_lit 287,⟨(.type "dict"),none,(.dict #[kE P "__module__" 532 (.str "glazebench.cuts" 405),kE P "__firstlineno__" 536 (.int (75) 535),kE P "__init__" 546 (.ref 285),kE P "__static_attributes__" 550 (.ref 286),kE P "__doc__" 551 .none] 2),#[]⟩)::(nat_lit 288,⟨(.type "type"),none,(.cls { name:="Level",bases:=[(.ref 228)],mro:=[(.ref 288),(.ref 228),(.type "object")],ns:=287,qualname:="Level",hasDict:=true,slotNames:=[],subclasses:=[],abstract:=false,collection:=none,hasDel:=false }),#[some (.ref 272),none,some (.str "Level" 525),some (.str "Level" 533),some (.builtin "object.__new__"),some (.bool true)]⟩)::(nat_lit 296,co "kind_of" "kind_of" 554 555 556 81 1 291 181 292 293 294 295 558 81 559)::(nat_lit 297,fo "kind_of" "kind_of" (top 24) .none (.str "glazebench.cuts" 405) 296)::(nat_lit 303,co "entry_of" "entry_of" 561 562 563 85 1 298 181 299 300 301 302 566 85 567)::(nat_lit 304,fo "entry_of" "entry_of" (top 25) .none (.str "glazebench.cuts" 405) 303)::(nat_lit 310,co "entries_of" "entries_of" 569 570 571 88 1 305 181 306 307 308 309 576 88 577)::(nat_lit 311,fo "entries_of" "entries_of" (top 26) .none (.str "glazebench.cuts" 405) 310)::(nat_lit 317,co "cut_from" "cut_from" 579 580 581 97 4 312 181 313 314 315 316 586 97 587)::(nat_lit 318,fo "cut_from" "cut_from" (top 27) .none (.str "glazebench.cuts" 405) 317)::(nat_lit 324,co "tree_from" "tree_from" 589 590 591 101 1 319 181 320 321 322 323 598 101 599)::(nat_lit 325,fo "tree_from" "tree_from" (top 28) .none (.str "glazebench.cuts" 405) 324)::(nat_lit 331,co "entries_by" "entries_by" 601 602 603 111 2 326 181 327 328 329 330 610 111 611)::(nat_lit 332,fo "entries_by" "entries_by" (top 29) .none (.str "glazebench.cuts" 405) 331)::(nat_lit 338,co "check_cut" "check_cut" 613 614 615 122 3 333 181 334 335 336 337 620 122 621)::(nat_lit 339,fo "check_cut" "check_cut" (top 30) .none (.str "glazebench.cuts" 405) 338)::(nat_lit 345,co "first_piece" "first_piece" 623 624 625 126 3 340 181 341 342 343 344 629 126 630)::(nat_lit 346,fo "first_piece" "first_piece" (top 31) .none (.str "glazebench.cuts" 405) 345)::(nat_lit 352,co "other_piece" "other_piece" 632 633 634 130 3 347 181 348 349 350 351 638 130 639)::(nat_lit 353,fo "other_piece" "other_piece" (top 32) .none (.str "glazebench.cuts" 405) 352)::(nat_lit 359,co "cut_out" "cut_out" 641 642 643 134 3 354 181 355 356 357 358 652 134 653)::(nat_lit 360,fo "cut_out" "cut_out" (top 33) .none (.str "glazebench.cuts" 405) 359)::(nat_lit 366,co "pieces" "pieces" 655 656 657 146 3 361 181 362 363 364 365 661 146 662)::(nat_lit 367,fo "pieces" "pieces" (top 34) .none (.str "glazebench.cuts" 405) 366)::(nat_lit 373,co "is_kind" "is_kind" 670 671 672 152 1 368 181 369 370 371 372 674 152 675)::(nat_lit 374,fo "is_kind" "is_kind" (top 38) .none (.str "glazebench.worths" 664) 373)::(nat_lit 380,co "check_kinds" "check_kinds" 677 678 679 158 1 375 181 376 377 378 379 683 158 684)::(nat_lit 381,fo "check_kinds" "check_kinds" (top 39) .none (.str "glazebench.worths" 664) 380)::(nat_lit 387,co "has_size" "has_size" 686 687 688 164 4 382 181 383 384 385 386 693 164 694)::(nat_lit 388,fo "has_size" "has_size" (top 40) .none (.str "glazebench.worths" 664) 387)::(nat_lit 394,co "is_of_kind" "is_of_kind" 696 697 698 166 2 389 181 390 391 392 393 701 166 702)::(nat_lit 395,fo "is_of_kind" "is_of_kind" (top 41) .none (.str "glazebench.worths" 664) 394)::(nat_lit 401,co "choice_uncut" "choice_uncut" 704 705 706 168 2 396 181 397 398 399 400 712 168 713)::(nat_lit 402,fo "choice_uncut" "choice_uncut" (top 42) .none (.str "glazebench.worths" 664) 401)::(nat_lit 406,cp "cuts_within" "cuts_within" 715 716 717 174 1 403 181 404 .none .none (.ref 405) 718 174 719)::(nat_lit 407,fo "cuts_within" "cuts_within" (top 43) .none (.str "glazebench.worths" 664) 406)::(nat_lit 413,co "best_choice" "best_choice" 721 722 723 177 4 408 181 409 410 411 412 733 177 734)::(nat_lit 414,fo "best_choice" "best_choice" (top 44) .none (.str "glazebench.worths" 664) 413)::(nat_lit 420,co "tree_by" "tree_by" 736 737 738 185 3 415 181 416 417 418 419 744 185 745)::(nat_lit 421,fo "tree_by" "tree_by" (top 45) .none (.str "glazebench.worths" 664) 420)::(nat_lit 427,co "worths_in" "worths_in" 747 748 749 187 1 422 181 423 424 425 426 754 187 755)::(nat_lit 428,fo "worths_in" "worths_in" (top 46) .none (.str "glazebench.worths" 664) 427)::(nat_lit 434,co "choices_by_size" "choices_by_size" 757 758 759 192 3 429 181 430 431 432 433 767 192 768)::(nat_lit 435,fo "choices_by_size" "choices_by_size" (top 47) .none (.str "glazebench.worths" 664) 434)::(nat_lit 441,co "worths" "worths" 770 771 772 201 3 436 181 437 438 439 440 776 201 777)::(nat_lit 442,fo "worths" "worths" (top 48) .none (.str "glazebench.worths" 664) 441)::(nat_lit 448,co "best" "best" 779 780 781 203 3 443 181 444 445 446 447 785 203 786)::(nat_lit 449,fo "best" "best" (top 49) .none (.str "glazebench.worths" 664) 448)::(nat_lit 455,co "is_laid" "is_laid" 788 789 790 205 3 450 181 451 452 453 454 794 205 795)::(nat_lit 456,fo "is_laid" "is_laid" (top 50) .none (.str "glazebench.worths" 664) 455)::(nat_lit 460,cp "worth_of" "worth_of" 797 798 799 207 4 457 181 458 .none .none (.ref 459) 800 207 801)::(nat_lit 461,fo "worth_of" "worth_of" (top 51) .none (.str "glazebench.worths" 664) 460)::(nat_lit 467,co "check_flawed_sides" "check_flawed_sides" 809 810 811 218 2 462 181 463 464 465 466 815 218 816)::(nat_lit 468,fo "check_flawed_sides" "check_flawed_sides" (top 55) .none (.str "glazebench.flaws" 803) 467)::(nat_lit 474,co "is_square_of" "is_square_of" 818 819 820 222 3 469 181 470 471 472 473 824 222 825)::(nat_lit 475,fo "is_square_of" "is_square_of" (top 56) .none (.str "glazebench.flaws" 803) 474)::(nat_lit 481,co "check_flaws" "check_flaws" 827 828 829 228 3 476 181 477 478 479 480 835 228 836)::(nat_lit 482,fo "check_flaws" "check_flaws" (top 57) .none (.str "glazebench.flaws" 803) 481)::(nat_lit 488,co "itself" "itself" 838 839 840 234 1 483 181 484 485 486 487 842 234 843)::(nat_lit 489,fo "itself" "itself" (top 58) .none (.str "glazebench.flaws" 803) 488)::(nat_lit 493,cp "runs_within" "runs_within" 845 846 847 236 1 490 181 491 .none .none (.ref 492) 848 236 849)::(nat_lit 494,fo "runs_within" "runs_within" (top 59) .none (.str "glazebench.flaws" 803) 493)::(nat_lit 498,cp "pieces_within" "pieces_within" 851 852 853 241 2 495 181 496 .none .none (.ref 497) 854 241 855)::(nat_lit 499,fo "pieces_within" "pieces_within" (top 60) .none (.str "glazebench.flaws" 803) 498)::(nat_lit 505,co "lies_in" "lies_in" 857 858 859 246 2 500 181 501 502 503 504 862 246 863)::(nat_lit 506,fo "lies_in" "lies_in" (top 61) .none (.str "glazebench.flaws" 803) 505)::(nat_lit 510,cp "flawed_uncut" "flawed_uncut" 865 866 867 248 3 507 181 508 .none .none (.ref 509) 868 248 869)::(nat_lit 511,fo "flawed_uncut" "flawed_uncut" (top 62) .none (.str "glazebench.flaws" 803) 510)::(nat_lit 517,co "choices_by_piece" "choices_by_piece" 871 872 873 252 4 512 181 513 514 515 516 880 252 881)::(nat_lit 518,fo "choices_by_piece" "choices_by_piece" (top 63) .none (.str "glazebench.flaws" 803) 517)::(nat_lit 524,co "flawed_worths" "flawed_worths" 883 884 885 260 4 519 181 520 521 522 523 890 260 891)::(nat_lit 525,fo "flawed_worths" "flawed_worths" (top 64) .none (.str "glazebench.flaws" 803) 524)::(nat_lit 531,co "flawed_best" "flawed_best" 893 894 895 262 4 526 181 527 528 529 530 900 262 901)::(nat_lit 532,fo "flawed_best" "flawed_best" (top 65) .none (.str "glazebench.flaws" 803) 531)::(nat_lit 538,co "_law_cell" "_law_cell" 905 906 907 265 2 533 181 534 535 536 537 910 265 911)::(nat_lit 539,fo "_law_cell" "_law_cell" (top 67) .none (.str "law_glazebench_k56_worths_refused" 903) 538)::(nat_lit 545,co "_law_draw" "_law_draw" 913 914 915 269 3 540 181 541 542 543 544 920 269 921)::(nat_lit 546,fo "_law_draw" "_law_draw" (top 68) .none (.str "law_glazebench_k56_worths_refused" 903) 545)::(nat_lit 552,co "_law_side" "_law_side" 923 924 925 272 1 547 181 548 549 550 551 927 272 928)::(nat_lit 553,fo "_law_side" "_law_side" (top 69) .none (.str "law_glazebench_k56_worths_refused" 903) 552)::(nat_lit 559,co "_law_is_side" "_law_is_side" 930 931 932 276 1 554 181 555 556 557 558 934 276 935)::(nat_lit 560,fo "_law_is_side" "_law_is_side" (top 70) .none (.str "law_glazebench_k56_worths_refused" 903) 559)::(nat_lit 566,co "_law_kinds" "_law_kinds" 937 938 939 278 2 561 181 562 563 564 565 947 278 948)::(nat_lit 567,fo "_law_kinds" "_law_kinds" (top 71) .none (.str "law_glazebench_k56_worths_refused" 903) 566)::(nat_lit 571,cp "_law_flaws" "_law_flaws" 950 951 952 292 3 568 181 569 .none .none (.ref 570) 953 292 954)::(nat_lit 572,fo "_law_flaws" "_law_flaws" (top 72) .none (.str "law_glazebench_k56_worths_refused" 903) 571)::(nat_lit 578,co "_law_asked" "_law_asked" 956 957 958 304 6 573 181 574 575 576 577 967 304 968)::(nat_lit 579,fo "_law_asked" "_law_asked" (top 73) .none (.str "law_glazebench_k56_worths_refused" 903) 578)::(nat_lit 585,co "_law_due" "_law_due" 970 971 972 330 8 580 181 581 582 583 584 982 330 983)::(nat_lit 586,fo "_law_due" "_law_due" (top 74) .none (.str "law_glazebench_k56_worths_refused" 903) 585)::(nat_lit 592,co "_law_right" "_law_right" 985 986 987 347 2 587 181 588 589 590 591 990 347 991)::(nat_lit 593,fo "_law_right" "_law_right" (top 75) .none (.str "law_glazebench_k56_worths_refused" 903) 592)::(nat_lit 597,cp "law" "law" 993 994 995 353 1 594 181 595 .none .none (.ref 596) 996 353 997)::(nat_lit 598,fo "law" "law" (top 76) .none (.str "law_glazebench_k56_worths_refused" 903) 597)::(nat_lit 4,⟨(.type "module"),(some 0),.plain,#[]⟩)::[]
noncomputable def kas:List Addr:=nat_lit 2::nat_lit 3::nat_lit 20::nat_lit 21::nat_lit 30::nat_lit 31::nat_lit 32::nat_lit 47::nat_lit 48::nat_lit 50::nat_lit 51::nat_lit 66::nat_lit 67::nat_lit 69::nat_lit 70::nat_lit 85::nat_lit 86::nat_lit 88::nat_lit 89::nat_lit 104::nat_lit 105::nat_lit 107::nat_lit 108::nat_lit 123::nat_lit 124::nat_lit 126::nat_lit 127::nat_lit 142::nat_lit 143::nat_lit 145::nat_lit 146::nat_lit 154::nat_lit 155::nat_lit 161::nat_lit 162::nat_lit 168::nat_lit 169::nat_lit 175::nat_lit 176::nat_lit 182::nat_lit 183::nat_lit 196::nat_lit 197::nat_lit 203::nat_lit 204::nat_lit 210::nat_lit 211::nat_lit 217::nat_lit 218::nat_lit 224::nat_lit 225::nat_lit 227::nat_lit 228::nat_lit 229::nat_lit 230::nat_lit 240::nat_lit 246::nat_lit 247::nat_lit 249::nat_lit 250::nat_lit 265::nat_lit 266::nat_lit 268::nat_lit 269::nat_lit 284::nat_lit 285::nat_lit 287::nat_lit 288::nat_lit 296::nat_lit 297::nat_lit 303::nat_lit 304::nat_lit 310::nat_lit 311::nat_lit 317::nat_lit 318::nat_lit 324::nat_lit 325::nat_lit 331::nat_lit 332::nat_lit 338::nat_lit 339::nat_lit 345::nat_lit 346::nat_lit 352::nat_lit 353::nat_lit 359::nat_lit 360::nat_lit 366::nat_lit 367::nat_lit 373::nat_lit 374::nat_lit 380::nat_lit 381::nat_lit 387::nat_lit 388::nat_lit 394::nat_lit 395::nat_lit 401::nat_lit 402::nat_lit 406::nat_lit 407::nat_lit 413::nat_lit 414::nat_lit 420::nat_lit 421::nat_lit 427::nat_lit 428::nat_lit 434::nat_lit 435::nat_lit 441::nat_lit 442::nat_lit 448::nat_lit 449::nat_lit 455::nat_lit 456::nat_lit 460::nat_lit 461::nat_lit 467::nat_lit 468::nat_lit 474::nat_lit 475::nat_lit 481::nat_lit 482::nat_lit 488::nat_lit 489::nat_lit 493::nat_lit 494::nat_lit 498::nat_lit 499::nat_lit 505::nat_lit 506::nat_lit 510::nat_lit 511::nat_lit 517::nat_lit 518::nat_lit 524::nat_lit 525::nat_lit 531::nat_lit 532::nat_lit 538::nat_lit 539::nat_lit 545::nat_lit 546::nat_lit 552::nat_lit 553::nat_lit 559::nat_lit 560::nat_lit 566::nat_lit 567::nat_lit 571::nat_lit 572::nat_lit 578::nat_lit 579::nat_lit 585::nat_lit 586::nat_lit 592::nat_lit 593::nat_lit 597::nat_lit 598::nat_lit 4::[]
noncomputable def keeps:List Nat:=0::2::3::4::5::6::7::8::10::11::12::13::14::15::17::18::19::20::21::22::23::24::25::26::27::28::29::30::31::32::33::34::36::37::38::39::40::41::42::43::44::45::46::47::48::49::50::51::53::54::55::56::57::58::59::60::61::62::63::64::65::67::68::69::70::71::72::73::74::75::76::[]
noncomputable def lo:LSz:=["Whole"]
noncomputable def Ts:List Addr:=nat_lit 362::nat_lit 416::[]
theorem prep(h:PySem.Challenge.rw_glazebench_k56_worths_refused.row.wellSaid=true->PySem.Challenge.rw_glazebench_k56_worths_refused.row.Holds):PySem.Challenge.rw_glazebench_k56_worths_refused.Holds:=by
 w_on
 o_law
 exact h (by assumption)
noncomputable def qv(p:Program):Program:=view p keeps
noncomputable def Xp(p:Program)(s:Shared):Bool:=xlAt (qv p) [] s&&recOk (RowW.records (OpenRow.toRowW PySem.Challenge.rw_glazebench_k56_worths_refused.row)) s
theorem kas_is(P:Params):kas=(KK P).map (λ x=>x.1):=by kernel_rfl
theorem T6:opening PySem.Challenge.pw_glazebench_k56_worths_refused=plainProg PySem.Challenge.pw_glazebench_k56_worths_refused.main.scope.names:=by kernel_rfl
theorem PU(s:Shared):fenceModules? PySem.Challenge.pw_glazebench_k56_worths_refused s=some s:=by kernel_rfl
theorem Rz(w:World):((boot_heap w.params).isNs mainGlobals,(boot_heap w.params).objs.size,(boot_heap w.params).nsMap mainGlobals "__annotations__")=(true,11,(some (.ref 6))):=by kernel_rfl
theorem UG:Uj 9082 11 (some (.ref 6)) Fast.te10156331382660048174 Fast.te11892475500146522536 Fast.te14364793385576792824 Fast.te5923862056798008813 Fast.te4187177175401517315 Fast.te594504719349864092:=λ w os=>by kernel_rfl
theorem UF:Ui 9082 11 (some (.ref 6)) qv lo Xp Fast.te10156331382660048174 Fast.te11892475500146522536 Fast.te14364793385576792824 Fast.te5923862056798008813 Fast.te4187177175401517315 Fast.te594504719349864092:=λ w os=>by kernel_rfl
theorem UE:Uh 9082 11 (some (.ref 6)) (hookT (kHook KK kas kas_is) Ts).obs (hookT (kHook KK kas kas_is) Ts).val Fast.te10156331382660048174 Fast.te11892475500146522536 Fast.te14364793385576792824 Fast.te5923862056798008813 Fast.te4187177175401517315 Fast.te594504719349864092:=λ w os=>by kernel_rfl
theorem ran:∀(w:World)(os:OsState),Option.map (IR openSeen (importedModules PySem.Challenge.pw_glazebench_k56_worths_refused.main.body) PySem.Challenge.pw_glazebench_k56_worths_refused (qv PySem.Challenge.pw_glazebench_k56_worths_refused) lo (Xp PySem.Challenge.pw_glazebench_k56_worths_refused) (hookT (kHook KK kas kas_is) Ts).obs (boot_heap w.params)) (topRun treeTable PySem.Challenge.pw_glazebench_k56_worths_refused w 11 (some (.ref 6)) 9082 (DY w.params os) (topStub PySem.Challenge.pw_glazebench_k56_worths_refused))=some (true,openGood (qv PySem.Challenge.pw_glazebench_k56_worths_refused) lo,(hookT (kHook KK kas kas_is) Ts).val w):=QD UG UF UE
theorem left:LeftO PySem.Challenge.pw_glazebench_k56_worths_refused (qv PySem.Challenge.pw_glazebench_k56_worths_refused) lo (Xp PySem.Challenge.pw_glazebench_k56_worths_refused) (hookT (kHook KK kas kas_is) Ts).obs (hookT (kHook KK kas kas_is) Ts).val 9082:=Os (boot_open T6 (by decide) PU) Rz ran
end KH
namespace L2
open PySem.W
open PySem PySem.Spec PyProof.Rows
section
variable{M:Model}{A:Around}{E:VPz}{s:Shared}
def Ro:Bool->Keyed->Array Keyed->Nat->Nat->Nat->StateT SortSt Sem (Option Nat):=sortPriv% PySem.Builtin.gallop
def SW(M:Model)(A:Around)(E:VPz)(s:Shared)(left:Bool)(key:Keyed)(arr:Array Keyed)(base n:Nat)(kd:SortKind)(B:Nat->Bool):Prop :=
 ∀i,i<n->∀(st:SortSt)(Q:Option Bool->SortSt->Prop),kindOf st=kd->Q (some (B i)) st->wpS M A E s (elem' arr (base+i) >>= λ x=>if left=true then lt' x key else lt' key x >>= λ r=>pure (r.map (!·))) Q st
theorem RL{n:Nat}{B:Nat->Bool}{f:Nat->Option (Option Nat)×Nat×Nat->StateT SortSt Sem (ForInStep (Option (Option Nat)×Nat×Nat))}{g:Option (Option Nat)×Nat×Nat->StateT SortSt Sem (Option Nat)}{lo hi:Nat}{st:SortSt}{Q:Option Nat->SortSt->Prop}(mono:∀i j,i<=j->j<n->B j=true->B i=true)
  (hf:∀x lo hi (Q':ForInStep (Option (Option Nat)×Nat×Nat)->SortSt->Prop),hi<=n->(lo>=hi->Q' (.done (none,lo,hi)) st)->(lo<hi->B (lo+(hi-lo) / 2)=true->Q' (.yield (none,lo+(hi-lo) / 2+1,hi)) st)->(lo<hi->B (lo+(hi-lo) / 2)=false->Q' (.yield (none,lo,lo+(hi-lo) / 2)) st)->wpS M A E s (f x (none,lo,hi)) Q' st)
  (hg:∀lo hi,g (none,lo,hi)=pure (some hi)) (h1:lo<=hi) (h2:hi<=n) (h3:∀i,i<lo->B i=true) (h4:∀i,hi<=i->i<n->B i=false)
  (h:∀k,k<=n->(∀i,i<k->B i=true)->(∀i,k<=i->i<n->B i=false)->Q (some k) st):wpS M A E s (forIn [0:n] (none,lo,hi) f >>= g) Q st:=by
 have anti:∀i j,i<=j->j<n->B i=false->B j=false:=λ i j hij hj hi=>by
  cases e:B j with
  |false=>rfl
  |true=>rw[mono i j hij hj e]at hi;cases hi
 refine wpS_bind (wpS_mono (wpS_forRange (I:=λ x (c:Option (Option Nat)×Nat×Nat) st'=>st'=st/\c.1=none/\c.2.1<=c.2.2/\c.2.2<=n/\(c.2.2-c.2.1)+x<=n/\(∀i,i<c.2.1->B i=true)/\(∀i,c.2.2<=i->i<n->B i=false))
  (Q:=λ(c:Option (Option Nat)×Nat×Nat) st'=>st'=st/\c.1=none/\c.2.2<=n/\(∀i,i<c.2.2->B i=true)/\(∀i,c.2.2<=i->i<n->B i=false)) ?step ?fin (And.intro rfl ⟨rfl,h1,h2,by show hi-lo+0<=n;lia,h3,h4⟩)) ?post)
 case fin =>
  rintro⟨r,lo,hi⟩ st' ⟨e,e1,c1,c2,c3,c4,c5⟩;have:lo=hi:=by
   have c3:hi-lo+max 0 n<=n:=c3;have c1:lo<=hi:=c1;lia
  subst this;exact And.intro e ⟨e1,c2,c4,c5⟩
 case step =>
  rintro x ⟨r,lo,hi⟩ st' _ hx ⟨e,e1,c1,c2,c3,c4,c5⟩;have e1:r=none:=e1;subst e1;subst e;have c1:lo<=hi:=c1;have c2:hi<=n:=c2;have c3:hi-lo+x<=n:=c3;have c4:∀i,i<lo->B i=true:=c4;have c5:∀i,hi<=i->i<n->B i=false:=c5;refine hf x lo hi _ c2 (λ hl=>?_) (λ hl hb=>?_) (λ hl hb=>?_)
  .have:lo=hi:=by lia
   subst this;exact And.intro rfl ⟨rfl,c2,c4,c5⟩
  .refine And.intro rfl ⟨rfl,by show lo+(hi-lo) / 2+1<=hi;lia,c2,by show hi-(lo+(hi-lo) / 2+1)+(x+1)<=n;lia,λ i hi'=>?_,c5⟩;exact mono i _ (by have:i<lo+(hi-lo) / 2+1:=hi';lia) (by lia) hb
  .refine And.intro rfl ⟨rfl,by show lo<=lo+(hi-lo) / 2;lia,by show lo+(hi-lo) / 2<=n;lia,by show lo+(hi-lo) / 2-lo+(x+1)<=n;lia,c4,λ i h1 h2=>?_⟩;exact anti _ i h1 h2 hb
 case post =>
  rintro⟨r,lo,hi⟩ st' ⟨e,e1,c1,c2,c3⟩;have e1:r=none:=e1;subst e1;subst e;rw[hg];exact wpS_pure (h hi c1 c2 c3)
theorem Pa{n mx:Nat}{C:Nat->Bool}{f:Nat->Option (Option Nat)×Nat×Nat->StateT SortSt Sem (ForInStep (Option (Option Nat)×Nat×Nat))}{g:Option (Option Nat)×Nat×Nat->StateT SortSt Sem (Option Nat)}{st:SortSt}{Q:Option Nat->SortSt->Prop}(hmx:mx<=n)(h1:1<=mx)(c0:C 0=true)
  (hf:∀x la of (Q':ForInStep (Option (Option Nat)×Nat×Nat)->SortSt->Prop),(of>=mx->Q' (.done (none,la,of)) st)->(of<mx->C of=false->Q' (.done (none,la,of)) st)->(of<mx->C of=true->Q' (.yield (none,of,2*of+1)) st)->wpS M A E s (f x (none,la,of)) Q' st)
  (hg:∀la of,la<of->la<mx->C la=true->(of>=mx\/(of<mx/\C of=false))->wpS M A E s (g (none,la,of)) Q st):wpS M A E s (forIn [0:n] (none,0,1) f >>= g) Q st:=by
 refine wpS_bind (wpS_mono (wpS_forRange (I:=λ x (c:Option (Option Nat)×Nat×Nat) st'=>st'=st/\c.1=none/\c.2.1<c.2.2/\c.2.1<mx/\x+1<=c.2.2/\C c.2.1=true)
  (Q:=λ(c:Option (Option Nat)×Nat×Nat) st'=>st'=st/\c.1=none/\c.2.1<c.2.2/\c.2.1<mx/\C c.2.1=true/\(c.2.2>=mx\/(c.2.2<mx/\C c.2.2=false))) ?step ?fin (And.intro rfl ⟨rfl,by show 0<1;lia,by show 0<mx;lia,by show 0+1<=1;lia,c0⟩)) ?post)
 case fin =>
  rintro⟨r,la,of⟩ st' ⟨e,e1,c1,c2,c3,c4⟩;have c3:max 0 n+1<=of:=c3;exact And.intro e ⟨e1,c1,c2,c4,.inl (by show of>=mx;lia)⟩
 case step =>
  rintro x ⟨r,la,of⟩ st' _ hx ⟨e,e1,c1,c2,c3,c4⟩;have e1:r=none:=e1;subst e1;subst e;have c1:la<of:=c1;have c2:la<mx:=c2;have c3:x+1<=of:=c3;refine hf x la of _ (λ hl=>?_) (λ hl hb=>?_) (λ hl hb=>?_)
  .exact And.intro rfl ⟨rfl,c1,c2,c4,.inl hl⟩
  .exact And.intro rfl ⟨rfl,c1,c2,c4,.inr ⟨hl,hb⟩⟩
  .exact And.intro rfl ⟨rfl,by show of<2*of+1;lia,hl,by show x+1+1<=2*of+1;lia,hb⟩
 case post =>
  rintro⟨r,la,of⟩ st' ⟨e,e1,c1,c2,c3,c4⟩;have e1:r=none:=e1;subst e1;subst e;exact hg la of c1 c2 c3 c4
theorem AF{left:Bool}{key:Keyed}{arr:Array Keyed}{base n hint:Nat}{kd:SortKind}{B:Nat->Bool}{st:SortSt}{Q:Option Nat->SortSt->Prop}(hk:kindOf st=kd)(ask:SW M A E s left key arr base n kd B)(mono:∀i j,i<=j->j<n->B j=true->B i=true)(hh:hint<n)
  (h:∀k,k<=n->(∀i,i<k->B i=true)->(∀i,k<=i->i<n->B i=false)->Q (some k) st):wpS M A E s (Ro left key arr base n hint) Q st:=by
 have anti:∀i j,i<=j->j<n->B i=false->B j=false:=λ i j hij hj hi=>by
  cases e:B j with
  |false=>rfl
  |true=>rw[mono i j hij hj e]at hi;cases hi
 refine wpS_bind (ask hint hh st _ hk ?_);dsimp only;cases hr:B hint with
 |true =>
  rw[if_pos rfl];refine Pa (mx:=n-hint) (C:=λ o=>B (hint+o)) (by lia) (by lia) hr (λ x la of Q' k1 k2 k3=>?_) (λ la of d1 d2 d3 d4=>?_)
  .dsimp only;by_cases hl:of>=n-hint
   .rw[if_pos hl];exact wpS_pure (k1 hl)
   .rw[if_neg hl];refine wpS_bind (ask (hint+of) (by lia) st _ hk ?_);dsimp only;cases hb:B (hint+of) with
    |true=>exact wpS_pure (k3 (by lia) hb)
    |false=>exact wpS_pure (k2 (by lia) hb)
  .dsimp only;refine RL mono (λ x lo hi Q' hn k1 k2 k3=>?_) (λ lo hi=>rfl) (by lia) (by lia) (λ i hi=>mono i (hint+la) (by lia) (by lia) d3) (λ i hi hi2=>?_) h
   .dsimp only;by_cases hl:lo>=hi
    .rw[if_pos hl];exact wpS_pure (k1 hl)
    .rw[if_neg hl];refine wpS_bind (ask (lo+(hi-lo) / 2) (by lia) st _ hk ?_);dsimp only;cases hb:B (lo+(hi-lo) / 2) with
     |true=>exact wpS_pure (k2 (by lia) hb)
     |false=>exact wpS_pure (k3 (by lia) hb)
   .rcases d4 with d4|⟨d4,d5⟩
    .lia
    .exact anti (hint+of) i (by lia) hi2 d5
 |false =>
  rw[if_neg Bool.false_ne_true];refine Pa (mx:=hint+1) (C:=λ o=>!B (hint-o)) (by lia) (by lia) (by show(!B hint)=true;rw[hr];rfl) (λ x la of Q' k1 k2 k3=>?_) (λ la of d1 d2 d3 d4=>?_)
  .dsimp only;by_cases hl:of>=hint+1
   .rw[if_pos hl];exact wpS_pure (k1 hl)
   .rw[if_neg hl];refine wpS_bind (ask (hint-of) (by lia) st _ hk ?_);dsimp only;cases hb:B (hint-of) with
    |true=>exact wpS_pure (k2 (by lia) (by rw[hb];rfl))
    |false=>exact wpS_pure (k3 (by lia) (by rw[hb];rfl))
  .dsimp only;have d3:B (hint-la)=false:=by simpa using d3
   refine RL mono (λ x lo hi Q' hn k1 k2 k3=>?_) (λ lo hi=>rfl) (by lia) (by lia) (λ i hi=>?_) (λ i hi hi2=>anti (hint-la) i (by lia) hi2 d3) h
   .dsimp only;by_cases hl:lo>=hi
    .rw[if_pos hl];exact wpS_pure (k1 hl)
    .rw[if_neg hl];refine wpS_bind (ask (lo+(hi-lo) / 2) (by lia) st _ hk ?_);dsimp only;cases hb:B (lo+(hi-lo) / 2) with
     |true=>exact wpS_pure (k2 (by lia) hb)
     |false=>exact wpS_pure (k3 (by lia) hb)
   .rcases d4 with d4|⟨d4,d5⟩
    .lia
    .have d5:B (hint-of)=true:=by simpa using d5
     exact mono i (hint-of) (by lia) (by lia) d5
def LtG(M:Model)(A:Around)(E:VPz)(s:Shared)(kd:SortKind)(κ:Keyed->Int)(S:Keyed->Prop):Prop :=
 ∀x y,S x->S y->∀(st:SortSt)(Q:Option Bool->SortSt->Prop),kindOf st=kd->Q (some (decide (κ x<κ y))) st->wpS M A E s (lt' x y) Q st
theorem Aj{arr:Array Keyed}{i:Nat}{x:Keyed}{st:SortSt}{Q:Keyed->SortSt->Prop}(hx:arr[i]?=some x)(h:Q x st):wpS M A E s (elem' arr i) Q st:=by
 rw[elem'_eq,hx];exact wpS_pure h
theorem DB{kd:SortKind}{κ:Keyed->Int}{S:Keyed->Prop}(L:LtG M A E s kd κ S){key:Keyed}{arr:Array Keyed}{base n:Nat}(hk:S key)(ha:∀i,i<n->∃x,arr[base+i]?=some x/\S x) :
  SW M A E s true key arr base n kd (λ i=>decide (κ (arr.getD (base+i) default)<κ key)):=λ i hi st Q hs hq=>by
 obtain⟨x,hx,sx⟩:=ha i hi;refine wpS_bind (Aj hx ?_);rw[if_pos rfl];refine L x key sx hk st Q hs ?_;have e:arr.getD (base+i) default=x:=by rw[Array.getD_eq_getD_getElem?,hx];rfl
 dsimp only at hq;rw[e]at hq;exact hq
theorem Hy{kd:SortKind}{κ:Keyed->Int}{S:Keyed->Prop}(L:LtG M A E s kd κ S){key:Keyed}{arr:Array Keyed}{base n:Nat}(hk:S key)(ha:∀i,i<n->∃x,arr[base+i]?=some x/\S x) :
  SW M A E s false key arr base n kd (λ i=>!decide (κ key<κ (arr.getD (base+i) default))):=λ i hi st Q hs hq=>by
 obtain⟨x,hx,sx⟩:=ha i hi;refine wpS_bind (Aj hx ?_);rw[if_neg Bool.false_ne_true];refine wpS_bind (L key x hk sx st _ hs ?_);have e:arr.getD (base+i) default=x:=by rw[Array.getD_eq_getD_getElem?,hx];rfl
 dsimp only at hq;rw[e]at hq;exact wpS_pure hq
end
section
variable{α:Type}{κ:α->Int}
def Rise(κ:α->Int)(xs:List α):Prop:=xs.Pairwise λ x y=>κ x<=κ y
structure MI(κ:α->Int)(a b out:List α)(ia ib:Nat):Prop where
 pm:(out++(a.drop ia++b.drop ib)).Perm (a++b)
 so:Rise κ out
 le:∀x∈out,∀y∈a.drop ia++b.drop ib,κ x<=κ y
 la:ia<=a.length
 lb:ib<=b.length
theorem Rise.drop{xs:List α}(h:Rise κ xs)(n:Nat):Rise κ (xs.drop n):=List.Pairwise.sublist (List.drop_sublist n xs) h
theorem Rise.app{xs ys:List α}(h1:Rise κ xs)(h2:Rise κ ys)(h:∀x∈xs,∀y∈ys,κ x<=κ y):Rise κ (xs++ys):=List.pairwise_append.mpr ⟨h1,h2,h⟩
theorem BE(xs:List α)(i k:Nat):xs.drop i=(xs.drop i).take k++xs.drop (i+k):=by
 rw[<-List.drop_drop];exact(List.take_append_drop k _).symm
theorem MI.start(a b:List α):MI κ a b [] 0 0:=⟨by simp,List.Pairwise.nil,λ x h=>absurd h List.not_mem_nil,Nat.zero_le _,Nat.zero_le _⟩
theorem MI.takeA{a b out:List α}{ia ib k:Nat}(m:MI κ a b out ia ib)(sa:Rise κ a)(hk:ia+k<=a.length)(h:∀x∈(a.drop ia).take k,∀y∈b.drop ib,κ x<=κ y):MI κ a b (out++(a.drop ia).take k) (ia+k) ib:=by
 have e:=BE a ia k;have sd:=sa.drop ia;rw[e]at sd;obtain⟨s1,s2,s3⟩:=List.pairwise_append.mp sd;refine⟨?_,m.so.app s1 λ x hx y hy=>m.le x hx y (List.mem_append_left _ (by rw[e];exact List.mem_append_left _ hy)),λ x hx y hy=>?_,hk,m.lb⟩
 .refine List.Perm.trans ?_ m.pm;rw[List.append_assoc,<-List.append_assoc ((a.drop ia).take k),<-e]
 .rcases List.mem_append.mp hx with hx|hx
  .rcases List.mem_append.mp hy with hy|hy
   .exact m.le x hx y (List.mem_append_left _ (by rw[e];exact List.mem_append_right _ hy))
   .exact m.le x hx y (List.mem_append_right _ hy)
  .rcases List.mem_append.mp hy with hy|hy
   .exact s3 x hx y hy
   .exact h x hx y hy
theorem MI.takeB{a b out:List α}{ia ib k:Nat}(m:MI κ a b out ia ib)(sb:Rise κ b)(hk:ib+k<=b.length)(h:∀x∈(b.drop ib).take k,∀y∈a.drop ia,κ x<=κ y):MI κ a b (out++(b.drop ib).take k) ia (ib+k):=by
 have e:=BE b ib k;have sd:=sb.drop ib;rw[e]at sd;obtain⟨s1,s2,s3⟩:=List.pairwise_append.mp sd;refine⟨?_,m.so.app s1 λ x hx y hy=>m.le x hx y (List.mem_append_right _ (by rw[e];exact List.mem_append_left _ hy)),λ x hx y hy=>?_,m.la,hk⟩
 .refine List.Perm.trans ?_ m.pm;rw[List.append_assoc];refine List.Perm.append_left out ?_;have e2:a.drop ia++b.drop ib=a.drop ia++((b.drop ib).take k++b.drop (ib+k)):=by rw[<-e]
  rw[e2,<-List.append_assoc,<-List.append_assoc];exact List.Perm.append_right _ List.perm_append_comm
 .rcases List.mem_append.mp hx with hx|hx
  .rcases List.mem_append.mp hy with hy|hy
   .exact m.le x hx y (List.mem_append_left _ hy)
   .exact m.le x hx y (List.mem_append_right _ (by rw[e];exact List.mem_append_right _ hy))
  .rcases List.mem_append.mp hy with hy|hy
   .exact h x hx y hy
   .exact s3 x hx y hy
theorem MI.done{a b out:List α}{ia ib:Nat}(m:MI κ a b out ia ib)(sa:Rise κ a)(sb:Rise κ b)(h:ib=b.length\/ia=a.length):Rise κ (out++a.drop ia++b.drop ib)/\(out++a.drop ia++b.drop ib).Perm (a++b):=by
 refine⟨?_,by rw[List.append_assoc];exact m.pm⟩;rw[List.append_assoc];refine m.so.app ?_ m.le;refine(sa.drop ia).app (sb.drop ib) λ x hx y hy=>?_;rcases h with h|h
 .rw[h,List.drop_length]at hy;exact absurd hy List.not_mem_nil
 .rw[h,List.drop_length]at hx;exact absurd hx List.not_mem_nil
theorem MI.lastA{a b out:List α}{ia ib:Nat}(m:MI κ a b out ia ib)(sa:Rise κ a)(sb:Rise κ b)(h:∀x∈b,∀y∈a.drop ia,κ x<=κ y):Rise κ (out++b.drop ib++a.drop ia)/\(out++b.drop ib++a.drop ia).Perm (a++b):=by
 refine⟨?_,?_⟩
 .rw[List.append_assoc];refine m.so.app ((sb.drop ib).app (sa.drop ia) λ x hx y hy=>h x (List.mem_of_mem_drop hx) y hy) λ x hx y hy=>m.le x hx y ?_;rcases List.mem_append.mp hy with hy|hy
  .exact List.mem_append_right _ hy
  .exact List.mem_append_left _ hy
 .refine List.Perm.trans ?_ m.pm;rw[List.append_assoc];exact List.Perm.append_left out List.perm_append_comm
end
section
variable{M:Model}{A:Around}{E:VPz}{s:Shared}
def P4:Array Keyed->Array Keyed->StateT SortSt Sem (Array Keyed):=sortPriv% PySem.Builtin.mergeLo
theorem Gq{α:Type}(a:Array α)(i:Nat):(a.extract i a.size).toList=a.toList.drop i:=by
 rw[Array.toList_extract,List.extract_eq_drop_take];exact List.take_of_length_le (by rw[List.length_drop,Array.length_toList];lia)
theorem PZ{α:Type}(a:Array α)(i k:Nat):(a.extract i (i+k)).toList=(a.toList.drop i).take k:=by
 rw[Array.toList_extract,List.extract_eq_drop_take];congr 1;lia
theorem CU{α:Type}{a:Array α}{i:Nat}(h:i<a.size):∃x,a[i]?=some x/\x∈a.toList/\a.toList.drop i=x::a.toList.drop (i+1):=by
 refine⟨a[i],by simp[h],by simp,?_⟩;have h':i<a.toList.length:=by rw[Array.length_toList];exact h
 rw[List.drop_eq_getElem_cons h'];simp
theorem BG{α:Type}{κ:α->Int}{xs:List α}(h:Rise κ xs){i:Nat}{x:α}(e:xs.drop i=x::xs.drop (i+1)):∀y∈xs.drop i,κ x<=κ y:=λ y hy=>by
 have hd:=h.drop i;rw[e]at hd hy;rcases List.mem_cons.mp hy with rfl|hy
 .exact Int.le_refl _
 .exact(List.pairwise_cons.mp hd).1 y hy
theorem Bl{α:Type}[Inhabited α]{κ:α->Int}{a:Array α}(h:Rise κ a.toList){i j:Nat}(hij:i<=j)(hj:j<a.size):κ (a.getD i default)<=κ (a.getD j default):=by
 have hi:i<a.size:=by lia
 have ei:a.getD i default=a.toList[i]'(by simpa using hi):=by simp[Array.getD,hi]
 have ej:a.getD j default=a.toList[j]'(by simpa using hj):=by simp[Array.getD,hj]
 rw[ei,ej];rcases Nat.lt_or_ge i j with h'|h'
 .exact List.pairwise_iff_getElem.mp h i j _ _ h'
 .have:i=j:=by lia
  subst this;exact Int.le_refl _
structure CW(st st':SortSt):Prop where
 kd:kindOf st'=kindOf st
 ar:arrOf st'=arrOf st
 pe:pendingOf st'=pendingOf st
 fa:failedOf st'=failedOf st
structure GoL(κ:Keyed->Int)(a b out:Array Keyed)(ia ib:Nat):Prop where
 mi:MI κ a.toList b.toList out.toList ia ib
 la:ia+1<a.size
 lb:ib<b.size
def Bc(κ:Keyed->Int)(a b r:Array Keyed):Prop:=Rise κ r.toList/\r.toList.Perm (a.toList++b.toList)
theorem AK{κ:Keyed->Int}{a b out:Array Keyed}{ia ib:Nat}(m:MI κ a.toList b.toList out.toList ia ib)(sa:Rise κ a.toList)(sb:Rise κ b.toList)(h:ib=b.size\/ia=a.size):Bc κ a b (out++a.extract ia a.size++b.extract ib b.size):=by
 have:=m.done sa sb (by rw[Array.length_toList,Array.length_toList];exact h);unfold Bc;rw[Array.toList_append,Array.toList_append,Gq,Gq];exact this
theorem AJ{κ:Keyed->Int}{a b out:Array Keyed}{ia ib:Nat}(m:MI κ a.toList b.toList out.toList ia ib)(sa:Rise κ a.toList)(sb:Rise κ b.toList)(h:∀x∈b.toList,∀y∈a.toList.drop ia,κ x<=κ y):Bc κ a b (out++b.extract ib b.size++a.extract ia a.size):=by
 have:=m.lastA sa sb h;unfold Bc;rw[Array.toList_append,Array.toList_append,Gq,Gq];exact this
theorem GoL.stepB{κ:Keyed->Int}{a b out:Array Keyed}{ia ib:Nat}{x y:Keyed}(g:GoL κ a b out ia ib)(sa:Rise κ a.toList)(sb:Rise κ b.toList)(db:b.toList.drop ib=x::b.toList.drop (ib+1))(da:a.toList.drop ia=y::a.toList.drop (ia+1))(h:κ x<=κ y):MI κ a.toList b.toList (out.push x).toList ia (ib+1):=by
 have:=g.mi.takeB sb (k:=1) (by rw[Array.length_toList];have:=g.lb;lia) (λ z hz w hw=>?_)
 .rw[db]at this;rw[Array.toList_push]
  simpa using this
 .rw[db]at hz;have:z=x:=by simpa using hz
  rw[this];exact Int.le_trans h (BG sa da w hw)
theorem GoL.stepA{κ:Keyed->Int}{a b out:Array Keyed}{ia ib:Nat}{x y:Keyed}(g:GoL κ a b out ia ib)(sa:Rise κ a.toList)(sb:Rise κ b.toList)(db:b.toList.drop ib=x::b.toList.drop (ib+1))(da:a.toList.drop ia=y::a.toList.drop (ia+1))(h:κ y<=κ x):MI κ a.toList b.toList (out.push y).toList (ia+1) ib:=by
 have:=g.mi.takeA sa (k:=1) (by rw[Array.length_toList];have:=g.la;lia) (λ z hz w hw=>?_)
 .rw[da]at this;rw[Array.toList_push]
  simpa using this
 .rw[da]at hz;have:z=y:=by simpa using hz
  rw[this];exact Int.le_trans h (BG sb db w hw)
theorem MI.pushB{κ:Keyed->Int}{a b out:Array Keyed}{ia ib:Nat}{x:Keyed}(m:MI κ a.toList b.toList out.toList ia ib)(sb:Rise κ b.toList)(lb:ib<b.size)(db:b.toList.drop ib=x::b.toList.drop (ib+1))(h:∀w∈a.toList.drop ia,κ x<=κ w):MI κ a.toList b.toList (out.push x).toList ia (ib+1):=by
 have:=m.takeB sb (k:=1) (by rw[Array.length_toList];lia) (λ z hz w hw=>?_)
 .rw[db]at this;rw[Array.toList_push]
  simpa using this
 .rw[db]at hz;have:z=x:=by simpa using hz
  rw[this];exact h w hw
theorem MI.pushA{κ:Keyed->Int}{a b out:Array Keyed}{ia ib:Nat}{x:Keyed}(m:MI κ a.toList b.toList out.toList ia ib)(sa:Rise κ a.toList)(la:ia<a.size)(da:a.toList.drop ia=x::a.toList.drop (ia+1))(h:∀w∈b.toList.drop ib,κ x<=κ w):MI κ a.toList b.toList (out.push x).toList (ia+1) ib:=by
 have:=m.takeA sa (k:=1) (by rw[Array.length_toList];lia) (λ z hz w hw=>?_)
 .rw[da]at this;rw[Array.toList_push]
  simpa using this
 .rw[da]at hz;have:z=x:=by simpa using hz
  rw[this];exact h w hw
theorem MI.extA{κ:Keyed->Int}{a b out:Array Keyed}{ia ib k:Nat}(m:MI κ a.toList b.toList out.toList ia ib)(sa:Rise κ a.toList)(hk:ia+k<=a.size)(h:∀x∈(a.toList.drop ia).take k,∀y∈b.toList.drop ib,κ x<=κ y):MI κ a.toList b.toList (out++a.extract ia (ia+k)).toList (ia+k) ib:=by
 rw[Array.toList_append,PZ];exact m.takeA sa (by rw[Array.length_toList];exact hk) h
theorem MI.extB{κ:Keyed->Int}{a b out:Array Keyed}{ia ib k:Nat}(m:MI κ a.toList b.toList out.toList ia ib)(sb:Rise κ b.toList)(hk:ib+k<=b.size)(h:∀x∈(b.toList.drop ib).take k,∀y∈a.toList.drop ia,κ x<=κ y):MI κ a.toList b.toList (out++b.extract ib (ib+k)).toList ia (ib+k):=by
 rw[Array.toList_append,PZ];exact m.takeB sb (by rw[Array.length_toList];exact hk) h
theorem Cn{a:Array Keyed}{i:Nat}{x:Keyed}(h:x∈a.toList.drop i):∃j,i+j<a.size/\x=a.getD (i+j) default:=by
 obtain⟨j,hj,e⟩:=List.getElem_of_mem h;rw[List.length_drop,Array.length_toList]at hj;refine⟨j,by lia,?_⟩;rw[List.getElem_drop]at e;rw[<-e];have:i+j<a.size:=by lia
 simp[Array.getD,this]
theorem AN{a:Array Keyed}{i k:Nat}{x:Keyed}(h:x∈(a.toList.drop i).take k):∃j,j<k/\i+j<a.size/\x=a.getD (i+j) default:=by
 obtain⟨j,hj,e⟩:=List.getElem_of_mem h;rw[List.length_take,List.length_drop,Array.length_toList]at hj;refine⟨j,by lia,by lia,?_⟩;rw[List.getElem_take,List.getElem_drop]at e;rw[<-e];have:i+j<a.size:=by lia
 simp[Array.getD,this]
theorem Gp{a:Array Keyed}{i:Nat}{x:Keyed}(h:a[i]?=some x):a.getD i default=x:=by rw[Array.getD_eq_getD_getElem?,h];rfl
theorem Ku{kd:SortKind}{κ:Keyed->Int}{S:Keyed->Prop}{a b:Array Keyed}{st:SortSt}{Q:Array Keyed->SortSt->Prop}(L:LtG M A E s kd κ S)(hk:kindOf st=kd)(ha:0<a.size)(hb:0<b.size)(hSa:∀x∈a.toList,S x)(hSb:∀x∈b.toList,S x)
  (sa:Rise κ a.toList) (sb:Rise κ b.toList) (hf:∀x∈b.toList.take 1,∀y∈a.toList,κ x<=κ y) (hl:∀x∈b.toList,∀y∈a.toList.drop (a.size-1),κ x<=κ y)
  (h:∀r st',Bc κ a b r->CW st st'->Q r st'):wpS M A E s (P4 a b) Q st:=by
 refine wpS_bind (wpS_lift (wpAny_rule ⟨rfl,?_⟩));obtain⟨b0,eb0,mb0,db0⟩:=CU hb;have lk0:CW st st:=⟨rfl,rfl,rfl,rfl⟩;have m0:MI κ a.toList b.toList (#[b0]:Array Keyed).toList 0 1:=by
  have:=(MI.start (κ:=κ) a.toList b.toList).takeB sb (k:=1) (by rw[Array.length_toList];lia) (λ x hx y hy=>hf x (by simpa using hx) y (by simpa using hy));rw[db0]at this
  simpa using this
 refine wpS_bind (Aj eb0 ?_);dsimp only;by_cases h1:1=b.size
 .rw[if_pos (beq_iff_eq.mpr h1)];exact wpS_pure (h _ _ (AK m0 sa sb (.inl h1)) lk0)
 rw[if_neg (λ z=>h1 (beq_iff_eq.mp z))];by_cases h2:0+1=a.size
 .rw[if_pos (beq_iff_eq.mpr h2)];exact wpS_pure (h _ _ (AJ m0 sa sb (by rw[show(0:Nat)=a.size-1 by lia];exact hl)) lk0)
 rw[if_neg (λ z=>h2 (beq_iff_eq.mp z))];refine wpS_bind (wpS_get ?_);refine wpS_bind (wpS_mono (wpS_forRange (I:=λ x (c:Option (Array Keyed)×Array Keyed×Nat×Nat×Nat) st'=>c.1=none/\GoL κ a b c.2.1 c.2.2.1 c.2.2.2.1/\x+1<=c.2.2.1+c.2.2.2.1/\CW st st')
  (Q:=λ(c:Option (Array Keyed)×Array Keyed×Nat×Nat×Nat) st'=>CW st st'/\∃r,c.1=some r/\Bc κ a b r) ?ostep ?ofin (And.intro rfl ⟨⟨m0,by show 0+1<a.size;lia,by show 1<b.size;lia⟩,by show 0+1<=0+1;lia,lk0⟩)) ?opost)
 case ofin =>
  rintro⟨r,out,ia,ib,mg⟩ st1 ⟨e1,go,hge,lk⟩;have hge:max 0 (a.size+b.size)+1<=ia+ib:=hge;have l1:ia+1<a.size:=go.la;have l2:ib<b.size:=go.lb;lia
 case opost =>
  rintro⟨r,out,ia,ib,mg⟩ st1 ⟨lk,r',e1,mr⟩;have e1:r=some r':=e1;subst e1;exact wpS_pure (h _ _ mr lk)
 case ostep =>
  rintro x ⟨r,out,ia,ib,mg⟩ st1 _ hx ⟨e1,go,hge,lk⟩;have e1:r=none:=e1;subst e1;have hge:x+1<=ia+ib:=hge;dsimp only;refine wpS_bind (wpS_mono (wpS_forRange (I:=λ y (c:Option (Array Keyed)×Array Keyed×Nat×Nat×Nat×Nat) st'=>c.1=none/\GoL κ a b c.2.1 c.2.2.1 c.2.2.2.1/\c.2.2.1+c.2.2.2.1=ia+ib+y/\CW st st')
   (Q:=λ(c:Option (Array Keyed)×Array Keyed×Nat×Nat×Nat×Nat) st'=>CW st st'/\((∃r,c.1=some r/\Bc κ a b r)\/(c.1=none/\GoL κ a b c.2.1 c.2.2.1 c.2.2.2.1/\ia+ib+1<=c.2.2.1+c.2.2.2.1))) ?istep ?ifin (And.intro rfl ⟨go,rfl,lk⟩)) ?ipost)
  case ifin =>
   rintro⟨r,out,ia',ib',ac,bc⟩ st2 ⟨e1,go',hs,lk'⟩;have hs:ia'+ib'=ia+ib+max 0 (a.size+b.size):=hs;exact And.intro lk' (.inr ⟨e1,go',by show ia+ib+1<=ia'+ib';lia⟩)
  case istep =>
   rintro y ⟨r,out',ia',ib',ac,bc⟩ st2 _ hy ⟨e1,go',hs,lk'⟩;have e1:r=none:=e1;subst e1;have go':GoL κ a b out' ia' ib':=go';have hs:ia'+ib'=ia+ib+y:=hs;have l1:=go'.la;have l2:=go'.lb;dsimp only;obtain⟨xb,exb,mb,db⟩:=CU l2;obtain⟨xa,exa,ma,da⟩:=CU (show ia'<a.size by lia);refine wpS_bind (Aj exb (wpS_bind (Aj exa (wpS_bind (L xb xa (hSb _ mb) (hSa _ ma) st2 _ (lk'.kd.trans hk) ?_)))));dsimp only;by_cases hlt:κ xb<κ xa
   .rw[decide_eq_true hlt,if_pos rfl];refine wpS_bind (Aj exb ?_);have mi':=go'.stepB sa sb db da (Int.le_of_lt hlt);by_cases q1:ib'+1=b.size
    .rw[if_pos (beq_iff_eq.mpr q1)];exact wpS_pure (And.intro lk' (.inl ⟨_,rfl,AK mi' sa sb (.inl q1)⟩))
    .rw[if_neg (λ z=>q1 (beq_iff_eq.mp z))];have gn:GoL κ a b (out'.push xb) ia' (ib'+1):=⟨mi',l1,by lia⟩;split
     .exact wpS_pure (And.intro lk' (.inr ⟨rfl,gn,by show ia+ib+1<=ia'+(ib'+1);lia⟩))
     .exact wpS_pure (And.intro rfl ⟨gn,by show ia'+(ib'+1)=ia+ib+(y+1);lia,lk'⟩)
   .rw[decide_eq_false hlt,if_neg Bool.false_ne_true];refine wpS_bind (Aj exa ?_);have mi':=go'.stepA sa sb db da (by lia);by_cases q1:ia'+1+1=a.size
    .rw[if_pos (beq_iff_eq.mpr q1)];exact wpS_pure (And.intro lk' (.inl ⟨_,rfl,AJ mi' sa sb (by rw[show ia'+1=a.size-1 by lia];exact hl)⟩))
    .rw[if_neg (λ z=>q1 (beq_iff_eq.mp z))];have gn:GoL κ a b (out'.push xa) (ia'+1) ib':=⟨mi',by lia,l2⟩;split
     .exact wpS_pure (And.intro lk' (.inr ⟨rfl,gn,by show ia+ib+1<=ia'+1+ib';lia⟩))
     .exact wpS_pure (And.intro rfl ⟨gn,by show ia'+1+ib'=ia+ib+(y+1);lia,lk'⟩)
  case ipost =>
   rintro⟨r,out',ia',ib',ac,bc⟩ st2 ⟨lk',hh⟩;rcases hh with ⟨r',e1,mr⟩|⟨e1,go',hs⟩
   .have e1:r=some r':=e1;subst e1;exact wpS_pure (And.intro lk' ⟨_,rfl,mr⟩)
   .have e1:r=none:=e1;subst e1;have go':GoL κ a b out' ia' ib':=go';have hs:ia+ib+1<=ia'+ib':=hs;dsimp only;refine wpS_bind (wpS_lift (wpAny_rule ⟨rfl,?_⟩));refine wpS_bind (wpS_mono (wpS_forRange (I:=λ y (c:Option (Array Keyed)×Array Keyed×Nat×Nat×Nat×Nat×Nat) st'=>c.1=none/\GoL κ a b c.2.1 c.2.2.1 c.2.2.2.1/\ia+ib+1<=c.2.2.1+c.2.2.2.1/\CW st st')
     (Q:=λ(c:Option (Array Keyed)×Array Keyed×Nat×Nat×Nat×Nat×Nat) st'=>CW st st'/\((∃r,c.1=some r/\Bc κ a b r)\/(c.1=none/\GoL κ a b c.2.1 c.2.2.1 c.2.2.2.1/\ia+ib+1<=c.2.2.1+c.2.2.2.1))) ?gstep ?gfin (And.intro rfl ⟨go',hs,lk'⟩)) ?gpost)
    case gfin =>
     rintro⟨r,out,ia2,ib2,mg2,ac,bc⟩ st3 ⟨e1,go2,hs2,lk2⟩;exact And.intro lk2 (.inr ⟨e1,go2,hs2⟩)
    case gpost =>
     rintro⟨r,out,ia2,ib2,mg2,ac,bc⟩ st3 ⟨lk2,hh2⟩;rcases hh2 with ⟨r',e1,mr⟩|⟨e1,go2,hs2⟩
     .have e1:r=some r':=e1;subst e1;exact wpS_pure (And.intro lk2 ⟨_,rfl,mr⟩)
     .have e1:r=none:=e1;subst e1;have hs2:ia+ib+1<=ia2+ib2:=hs2;refine wpS_bind (wpS_modify ?_);exact wpS_pure (And.intro rfl ⟨go2,by show x+1+1<=ia2+ib2;lia,⟨lk2.kd,lk2.ar,lk2.pe,lk2.fa⟩⟩)
    case gstep =>
     rintro y ⟨r,out2,ia2,ib2,mg2,ac,bc⟩ st3 _ hy ⟨e1,go2,hs2,lk2⟩;have e1:r=none:=e1;subst e1;have go2:GoL κ a b out2 ia2 ib2:=go2;have hs2:ia+ib+1<=ia2+ib2:=hs2;dsimp only;have l1:=go2.la;have l2:=go2.lb;have inA:∀i,i<a.size->∃x,a[i]?=some x/\S x:=λ i hi=>by
      obtain⟨x,e,m,_⟩:=CU hi;exact⟨x,e,hSa x m⟩
     have inB:∀i,i<b.size->∃x,b[i]?=some x/\S x:=λ i hi=>by
      obtain⟨x,e,m,_⟩:=CU hi;exact⟨x,e,hSb x m⟩
     by_cases hm:mg2>1
     .rw[if_pos hm];refine wpS_bind (wpS_modify ?_);have lkN:CW st (SortSt.mk' (kindOf st3) (arrOf st3) (pendingOf st3) (mg2-1) (failedOf st3)):=⟨lk2.kd,lk2.ar,lk2.pe,lk2.fa⟩;obtain⟨xb,exb,mb,db⟩:=CU l2;refine wpS_bind (Aj exb (wpS_bind (AF (B:=λ i=>!decide (κ xb<κ (a.getD (ia2+i) default))) (lkN.kd.trans hk) (Hy L (hSb _ mb) (λ i hi=>inA _ (by lia))) (λ i j hij hj hB=>?_) (by lia) λ k hk' f1 f2=>?_)))
      .have h3:=Bl sa (i:=ia2+i) (j:=ia2+j) (by lia) (by lia);simp only[Bool.not_eq_true',decide_eq_false_iff_not]at hB |-;lia
      have u1:∀z∈(a.toList.drop ia2).take k,∀w∈b.toList.drop ib2,κ z<=κ w:=λ z hz w hw=>by
       obtain⟨j,j1,j2,rfl⟩:=AN hz;have h3:=f1 j j1;simp only[Bool.not_eq_true',decide_eq_false_iff_not]at h3;have h4:=BG sb db w hw;lia
      have u2:∀w∈a.toList.drop (ia2+k),κ xb<=κ w:=λ w hw=>by
       obtain⟨j,j1,rfl⟩:=Cn hw;have h3:=f2 (k+j) (by lia) (by lia);simp only[Bool.not_eq_false',decide_eq_true_eq]at h3;rw[<-Nat.add_assoc]at h3;lia
      dsimp only;by_cases p0:k>0
      .rw[if_pos p0];have m2:=go2.mi.extA sa (k:=k) (by lia) u1;by_cases q1:ia2+k+1=a.size
       .rw[if_pos (beq_iff_eq.mpr q1)];exact wpS_pure (And.intro lkN (.inl ⟨_,rfl,AJ m2 sa sb (by rw[show ia2+k=a.size-1 by lia];exact hl)⟩))
       .rw[if_neg (λ z=>q1 (beq_iff_eq.mp z))];by_cases q2:ia2+k=a.size
        .rw[if_pos (beq_iff_eq.mpr q2)];exact wpS_pure (And.intro lkN (.inl ⟨_,rfl,AK m2 sa sb (.inr q2)⟩))
        .rw[if_neg (λ z=>q2 (beq_iff_eq.mp z))];have kB:=u2;refine wpS_bind (Aj exb ?_);have m3:=m2.pushB sb l2 db kB;by_cases q3:ib2+1=b.size
         .rw[if_pos (beq_iff_eq.mpr q3)];exact wpS_pure (And.intro lkN (.inl ⟨_,rfl,AK m3 sa sb (.inl q3)⟩))
         .rw[if_neg (λ z=>q3 (beq_iff_eq.mp z))];obtain⟨xa,exa,ma,da⟩:=CU (show ia2+k<a.size by lia);refine wpS_bind (Aj exa (wpS_bind (AF (B:=λ i=>decide (κ (b.getD (ib2+1+i) default)<κ xa)) (lkN.kd.trans hk) (DB L (hSa _ ma) (λ i hi=>inB _ (by lia))) (λ i j hij hj hB=>decide_eq_true (Int.lt_of_le_of_lt (Bl sb (by lia) (by lia)) (of_decide_eq_true hB))) (by lia) λ k1 hk1 g1 g2=>?_)));have t1:∀z∈(b.toList.drop (ib2+1)).take k1,∀w∈a.toList.drop (ia2+k),κ z<=κ w:=λ z hz w hw=>by
           obtain⟨j,j1,j2,rfl⟩:=AN hz;exact Int.le_trans (Int.le_of_lt (of_decide_eq_true (g1 j j1))) (BG sa da w hw)
          have t2:∀w∈b.toList.drop (ib2+1+k1),κ xa<=κ w:=λ w hw=>by
           obtain⟨j,j1,rfl⟩:=Cn hw;have:=of_decide_eq_false (g2 (k1+j) (by lia) (by lia));rw[<-Nat.add_assoc]at this;lia
          dsimp only;by_cases p1:k1>0
          .rw[if_pos p1];have m4:=m3.extB sb (k:=k1) (by lia) t1;by_cases q4:ib2+1+k1=b.size
           .rw[if_pos (beq_iff_eq.mpr q4)];exact wpS_pure (And.intro lkN (.inl ⟨_,rfl,AK m4 sa sb (.inl q4)⟩))
           .rw[if_neg (λ z=>q4 (beq_iff_eq.mp z))];have kA:=t2;refine wpS_bind (Aj exa ?_);have m5:=m4.pushA sa (by lia) da kA;by_cases q5:ia2+k+1+1=a.size
            .rw[if_pos (beq_iff_eq.mpr q5)];exact wpS_pure (And.intro lkN (.inl ⟨_,rfl,AJ m5 sa sb (by rw[show ia2+k+1=a.size-1 by lia];exact hl)⟩))
            .rw[if_neg (λ z=>q5 (beq_iff_eq.mp z))];have gn:GoL κ a b _ (ia2+k+1) (ib2+1+k1):=⟨m5,by lia,by lia⟩;split
             .exact wpS_pure (And.intro lkN (.inr ⟨rfl,gn,by show ia+ib+1<=ia2+k+1+(ib2+1+k1);lia⟩))
             .exact wpS_pure (And.intro rfl ⟨gn,by show ia+ib+1<=ia2+k+1+(ib2+1+k1);lia,lkN⟩)
          .rw[if_neg p1];have k10:k1=0:=by lia
           subst k10;have kA:∀w∈b.toList.drop (ib2+1),κ xa<=κ w:=t2;refine wpS_bind (Aj exa ?_);have m5:=m3.pushA sa (by lia) da kA;by_cases q5:ia2+k+1+1=a.size
           .rw[if_pos (beq_iff_eq.mpr q5)];exact wpS_pure (And.intro lkN (.inl ⟨_,rfl,AJ m5 sa sb (by rw[show ia2+k+1=a.size-1 by lia];exact hl)⟩))
           .rw[if_neg (λ z=>q5 (beq_iff_eq.mp z))];have gn:GoL κ a b _ (ia2+k+1) (ib2+1):=⟨m5,by lia,by lia⟩;split
            .exact wpS_pure (And.intro lkN (.inr ⟨rfl,gn,by show ia+ib+1<=ia2+k+1+(ib2+1);lia⟩))
            .exact wpS_pure (And.intro rfl ⟨gn,by show ia+ib+1<=ia2+k+1+(ib2+1);lia,lkN⟩)
      .rw[if_neg p0];have k00:k=0:=by lia
       subst k00;have kB:∀w∈a.toList.drop ia2,κ xb<=κ w:=u2;have mi2:=go2.mi;refine wpS_bind (Aj exb ?_);have m3:=mi2.pushB sb l2 db kB;by_cases q3:ib2+1=b.size
       .rw[if_pos (beq_iff_eq.mpr q3)];exact wpS_pure (And.intro lkN (.inl ⟨_,rfl,AK m3 sa sb (.inl q3)⟩))
       .rw[if_neg (λ z=>q3 (beq_iff_eq.mp z))];obtain⟨xa,exa,ma,da⟩:=CU (show ia2<a.size by lia);refine wpS_bind (Aj exa (wpS_bind (AF (B:=λ i=>decide (κ (b.getD (ib2+1+i) default)<κ xa)) (lkN.kd.trans hk) (DB L (hSa _ ma) (λ i hi=>inB _ (by lia))) (λ i j hij hj hB=>decide_eq_true (Int.lt_of_le_of_lt (Bl sb (by lia) (by lia)) (of_decide_eq_true hB))) (by lia) λ k1 hk1 g1 g2=>?_)));have t1:∀z∈(b.toList.drop (ib2+1)).take k1,∀w∈a.toList.drop (ia2),κ z<=κ w:=λ z hz w hw=>by
         obtain⟨j,j1,j2,rfl⟩:=AN hz;exact Int.le_trans (Int.le_of_lt (of_decide_eq_true (g1 j j1))) (BG sa da w hw)
        have t2:∀w∈b.toList.drop (ib2+1+k1),κ xa<=κ w:=λ w hw=>by
         obtain⟨j,j1,rfl⟩:=Cn hw;have:=of_decide_eq_false (g2 (k1+j) (by lia) (by lia));rw[<-Nat.add_assoc]at this;lia
        dsimp only;by_cases p1:k1>0
        .rw[if_pos p1];have m4:=m3.extB sb (k:=k1) (by lia) t1;by_cases q4:ib2+1+k1=b.size
         .rw[if_pos (beq_iff_eq.mpr q4)];exact wpS_pure (And.intro lkN (.inl ⟨_,rfl,AK m4 sa sb (.inl q4)⟩))
         .rw[if_neg (λ z=>q4 (beq_iff_eq.mp z))];have kA:=t2;refine wpS_bind (Aj exa ?_);have m5:=m4.pushA sa (by lia) da kA;by_cases q5:ia2+1+1=a.size
          .rw[if_pos (beq_iff_eq.mpr q5)];exact wpS_pure (And.intro lkN (.inl ⟨_,rfl,AJ m5 sa sb (by rw[show ia2+1=a.size-1 by lia];exact hl)⟩))
          .rw[if_neg (λ z=>q5 (beq_iff_eq.mp z))];have gn:GoL κ a b _ (ia2+1) (ib2+1+k1):=⟨m5,by lia,by lia⟩;split
           .exact wpS_pure (And.intro lkN (.inr ⟨rfl,gn,by show ia+ib+1<=ia2+1+(ib2+1+k1);lia⟩))
           .exact wpS_pure (And.intro rfl ⟨gn,by show ia+ib+1<=ia2+1+(ib2+1+k1);lia,lkN⟩)
        .rw[if_neg p1];have k10:k1=0:=by lia
         subst k10;have kA:∀w∈b.toList.drop (ib2+1),κ xa<=κ w:=t2;refine wpS_bind (Aj exa ?_);have m5:=m3.pushA sa (by lia) da kA;by_cases q5:ia2+1+1=a.size
         .rw[if_pos (beq_iff_eq.mpr q5)];exact wpS_pure (And.intro lkN (.inl ⟨_,rfl,AJ m5 sa sb (by rw[show ia2+1=a.size-1 by lia];exact hl)⟩))
         .rw[if_neg (λ z=>q5 (beq_iff_eq.mp z))];have gn:GoL κ a b _ (ia2+1) (ib2+1):=⟨m5,by lia,by lia⟩;split
          .exact wpS_pure (And.intro lkN (.inr ⟨rfl,gn,by show ia+ib+1<=ia2+1+(ib2+1);lia⟩))
          .exact wpS_pure (And.intro rfl ⟨gn,by show ia+ib+1<=ia2+1+(ib2+1);lia,lkN⟩)
     .rw[if_neg hm];refine wpS_bind (wpS_modify ?_);have lkN:CW st (SortSt.mk' (kindOf st3) (arrOf st3) (pendingOf st3) mg2 (failedOf st3)):=⟨lk2.kd,lk2.ar,lk2.pe,lk2.fa⟩;obtain⟨xb,exb,mb,db⟩:=CU l2;refine wpS_bind (Aj exb (wpS_bind (AF (B:=λ i=>!decide (κ xb<κ (a.getD (ia2+i) default))) (lkN.kd.trans hk) (Hy L (hSb _ mb) (λ i hi=>inA _ (by lia))) (λ i j hij hj hB=>?_) (by lia) λ k hk' f1 f2=>?_)))
      .have h3:=Bl sa (i:=ia2+i) (j:=ia2+j) (by lia) (by lia);simp only[Bool.not_eq_true',decide_eq_false_iff_not]at hB |-;lia
      have u1:∀z∈(a.toList.drop ia2).take k,∀w∈b.toList.drop ib2,κ z<=κ w:=λ z hz w hw=>by
       obtain⟨j,j1,j2,rfl⟩:=AN hz;have h3:=f1 j j1;simp only[Bool.not_eq_true',decide_eq_false_iff_not]at h3;have h4:=BG sb db w hw;lia
      have u2:∀w∈a.toList.drop (ia2+k),κ xb<=κ w:=λ w hw=>by
       obtain⟨j,j1,rfl⟩:=Cn hw;have h3:=f2 (k+j) (by lia) (by lia);simp only[Bool.not_eq_false',decide_eq_true_eq]at h3;rw[<-Nat.add_assoc]at h3;lia
      dsimp only;by_cases p0:k>0
      .rw[if_pos p0];have m2:=go2.mi.extA sa (k:=k) (by lia) u1;by_cases q1:ia2+k+1=a.size
       .rw[if_pos (beq_iff_eq.mpr q1)];exact wpS_pure (And.intro lkN (.inl ⟨_,rfl,AJ m2 sa sb (by rw[show ia2+k=a.size-1 by lia];exact hl)⟩))
       .rw[if_neg (λ z=>q1 (beq_iff_eq.mp z))];by_cases q2:ia2+k=a.size
        .rw[if_pos (beq_iff_eq.mpr q2)];exact wpS_pure (And.intro lkN (.inl ⟨_,rfl,AK m2 sa sb (.inr q2)⟩))
        .rw[if_neg (λ z=>q2 (beq_iff_eq.mp z))];have kB:=u2;refine wpS_bind (Aj exb ?_);have m3:=m2.pushB sb l2 db kB;by_cases q3:ib2+1=b.size
         .rw[if_pos (beq_iff_eq.mpr q3)];exact wpS_pure (And.intro lkN (.inl ⟨_,rfl,AK m3 sa sb (.inl q3)⟩))
         .rw[if_neg (λ z=>q3 (beq_iff_eq.mp z))];obtain⟨xa,exa,ma,da⟩:=CU (show ia2+k<a.size by lia);refine wpS_bind (Aj exa (wpS_bind (AF (B:=λ i=>decide (κ (b.getD (ib2+1+i) default)<κ xa)) (lkN.kd.trans hk) (DB L (hSa _ ma) (λ i hi=>inB _ (by lia))) (λ i j hij hj hB=>decide_eq_true (Int.lt_of_le_of_lt (Bl sb (by lia) (by lia)) (of_decide_eq_true hB))) (by lia) λ k1 hk1 g1 g2=>?_)));have t1:∀z∈(b.toList.drop (ib2+1)).take k1,∀w∈a.toList.drop (ia2+k),κ z<=κ w:=λ z hz w hw=>by
           obtain⟨j,j1,j2,rfl⟩:=AN hz;exact Int.le_trans (Int.le_of_lt (of_decide_eq_true (g1 j j1))) (BG sa da w hw)
          have t2:∀w∈b.toList.drop (ib2+1+k1),κ xa<=κ w:=λ w hw=>by
           obtain⟨j,j1,rfl⟩:=Cn hw;have:=of_decide_eq_false (g2 (k1+j) (by lia) (by lia));rw[<-Nat.add_assoc]at this;lia
          dsimp only;by_cases p1:k1>0
          .rw[if_pos p1];have m4:=m3.extB sb (k:=k1) (by lia) t1;by_cases q4:ib2+1+k1=b.size
           .rw[if_pos (beq_iff_eq.mpr q4)];exact wpS_pure (And.intro lkN (.inl ⟨_,rfl,AK m4 sa sb (.inl q4)⟩))
           .rw[if_neg (λ z=>q4 (beq_iff_eq.mp z))];have kA:=t2;refine wpS_bind (Aj exa ?_);have m5:=m4.pushA sa (by lia) da kA;by_cases q5:ia2+k+1+1=a.size
            .rw[if_pos (beq_iff_eq.mpr q5)];exact wpS_pure (And.intro lkN (.inl ⟨_,rfl,AJ m5 sa sb (by rw[show ia2+k+1=a.size-1 by lia];exact hl)⟩))
            .rw[if_neg (λ z=>q5 (beq_iff_eq.mp z))];have gn:GoL κ a b _ (ia2+k+1) (ib2+1+k1):=⟨m5,by lia,by lia⟩;split
             .exact wpS_pure (And.intro lkN (.inr ⟨rfl,gn,by show ia+ib+1<=ia2+k+1+(ib2+1+k1);lia⟩))
             .exact wpS_pure (And.intro rfl ⟨gn,by show ia+ib+1<=ia2+k+1+(ib2+1+k1);lia,lkN⟩)
          .rw[if_neg p1];have k10:k1=0:=by lia
           subst k10;have kA:∀w∈b.toList.drop (ib2+1),κ xa<=κ w:=t2;refine wpS_bind (Aj exa ?_);have m5:=m3.pushA sa (by lia) da kA;by_cases q5:ia2+k+1+1=a.size
           .rw[if_pos (beq_iff_eq.mpr q5)];exact wpS_pure (And.intro lkN (.inl ⟨_,rfl,AJ m5 sa sb (by rw[show ia2+k+1=a.size-1 by lia];exact hl)⟩))
           .rw[if_neg (λ z=>q5 (beq_iff_eq.mp z))];have gn:GoL κ a b _ (ia2+k+1) (ib2+1):=⟨m5,by lia,by lia⟩;split
            .exact wpS_pure (And.intro lkN (.inr ⟨rfl,gn,by show ia+ib+1<=ia2+k+1+(ib2+1);lia⟩))
            .exact wpS_pure (And.intro rfl ⟨gn,by show ia+ib+1<=ia2+k+1+(ib2+1);lia,lkN⟩)
      .rw[if_neg p0];have k00:k=0:=by lia
       subst k00;have kB:∀w∈a.toList.drop ia2,κ xb<=κ w:=u2;have mi2:=go2.mi;refine wpS_bind (Aj exb ?_);have m3:=mi2.pushB sb l2 db kB;by_cases q3:ib2+1=b.size
       .rw[if_pos (beq_iff_eq.mpr q3)];exact wpS_pure (And.intro lkN (.inl ⟨_,rfl,AK m3 sa sb (.inl q3)⟩))
       .rw[if_neg (λ z=>q3 (beq_iff_eq.mp z))];obtain⟨xa,exa,ma,da⟩:=CU (show ia2<a.size by lia);refine wpS_bind (Aj exa (wpS_bind (AF (B:=λ i=>decide (κ (b.getD (ib2+1+i) default)<κ xa)) (lkN.kd.trans hk) (DB L (hSa _ ma) (λ i hi=>inB _ (by lia))) (λ i j hij hj hB=>decide_eq_true (Int.lt_of_le_of_lt (Bl sb (by lia) (by lia)) (of_decide_eq_true hB))) (by lia) λ k1 hk1 g1 g2=>?_)));have t1:∀z∈(b.toList.drop (ib2+1)).take k1,∀w∈a.toList.drop (ia2),κ z<=κ w:=λ z hz w hw=>by
         obtain⟨j,j1,j2,rfl⟩:=AN hz;exact Int.le_trans (Int.le_of_lt (of_decide_eq_true (g1 j j1))) (BG sa da w hw)
        have t2:∀w∈b.toList.drop (ib2+1+k1),κ xa<=κ w:=λ w hw=>by
         obtain⟨j,j1,rfl⟩:=Cn hw;have:=of_decide_eq_false (g2 (k1+j) (by lia) (by lia));rw[<-Nat.add_assoc]at this;lia
        dsimp only;by_cases p1:k1>0
        .rw[if_pos p1];have m4:=m3.extB sb (k:=k1) (by lia) t1;by_cases q4:ib2+1+k1=b.size
         .rw[if_pos (beq_iff_eq.mpr q4)];exact wpS_pure (And.intro lkN (.inl ⟨_,rfl,AK m4 sa sb (.inl q4)⟩))
         .rw[if_neg (λ z=>q4 (beq_iff_eq.mp z))];have kA:=t2;refine wpS_bind (Aj exa ?_);have m5:=m4.pushA sa (by lia) da kA;by_cases q5:ia2+1+1=a.size
          .rw[if_pos (beq_iff_eq.mpr q5)];exact wpS_pure (And.intro lkN (.inl ⟨_,rfl,AJ m5 sa sb (by rw[show ia2+1=a.size-1 by lia];exact hl)⟩))
          .rw[if_neg (λ z=>q5 (beq_iff_eq.mp z))];have gn:GoL κ a b _ (ia2+1) (ib2+1+k1):=⟨m5,by lia,by lia⟩;split
           .exact wpS_pure (And.intro lkN (.inr ⟨rfl,gn,by show ia+ib+1<=ia2+1+(ib2+1+k1);lia⟩))
           .exact wpS_pure (And.intro rfl ⟨gn,by show ia+ib+1<=ia2+1+(ib2+1+k1);lia,lkN⟩)
        .rw[if_neg p1];have k10:k1=0:=by lia
         subst k10;have kA:∀w∈b.toList.drop (ib2+1),κ xa<=κ w:=t2;refine wpS_bind (Aj exa ?_);have m5:=m3.pushA sa (by lia) da kA;by_cases q5:ia2+1+1=a.size
         .rw[if_pos (beq_iff_eq.mpr q5)];exact wpS_pure (And.intro lkN (.inl ⟨_,rfl,AJ m5 sa sb (by rw[show ia2+1=a.size-1 by lia];exact hl)⟩))
         .rw[if_neg (λ z=>q5 (beq_iff_eq.mp z))];have gn:GoL κ a b _ (ia2+1) (ib2+1):=⟨m5,by lia,by lia⟩;split
          .exact wpS_pure (And.intro lkN (.inr ⟨rfl,gn,by show ia+ib+1<=ia2+1+(ib2+1);lia⟩))
          .exact wpS_pure (And.intro rfl ⟨gn,by show ia+ib+1<=ia2+1+(ib2+1);lia,lkN⟩)
end
section
variable{α:Type}{κ:α->Int}
structure MH(κ:α->Int)(a b out:List α)(na nb:Nat):Prop where
 pm:(a.take na++b.take nb++out).Perm (a++b)
 so:Rise κ out
 le:∀x∈a.take na++b.take nb,∀y∈out,κ x<=κ y
 la:na<=a.length
 lb:nb<=b.length
theorem Rise.take{xs:List α}(h:Rise κ xs)(n:Nat):Rise κ (xs.take n):=List.Pairwise.sublist (List.take_sublist n xs) h
theorem E4(xs:List α){m n:Nat}(h:m<=n):xs.take n=xs.take m++(xs.take n).drop m:=by
 have:=(List.take_append_drop m (xs.take n)).symm;rw[List.take_take,Nat.min_eq_left h]at this;exact this
theorem MH.start(a b:List α):MH κ a b [] a.length b.length:=⟨by simp,List.Pairwise.nil,λ x _ y h=>absurd h List.not_mem_nil,Nat.le_refl _,Nat.le_refl _⟩
theorem MH.takeA{a b out:List α}{na nb m:Nat}(q:MH κ a b out na nb)(sa:Rise κ a)(hm:m<=na)(h:∀x∈b.take nb,∀y∈(a.take na).drop m,κ x<=κ y):MH κ a b ((a.take na).drop m++out) m nb:=by
 have e:=E4 a hm;have sd:=sa.take na;rw[e]at sd;obtain⟨s1,s2,s3⟩:=List.pairwise_append.mp sd;have inn:∀y∈(a.take na).drop m,y∈a.take na:=λ y hy=>List.mem_of_mem_drop hy;have in1:∀y∈a.take m,y∈a.take na:=λ y hy=>by rw[e];exact List.mem_append_left _ hy
 refine⟨?_,Rise.app s2 q.so λ x hx y hy=>q.le x (List.mem_append_left _ (inn x hx)) y hy,λ x hx y hy=>?_,by have:=q.la;lia,q.lb⟩
 .refine List.Perm.trans ?_ q.pm;rw[<-List.append_assoc];refine List.Perm.append_right out ?_;have e2:a.take na++b.take nb=a.take m++(a.take na).drop m++b.take nb:=by rw[<-e]
  rw[e2,List.append_assoc,List.append_assoc];exact List.Perm.append_left _ List.perm_append_comm
 .rcases List.mem_append.mp hy with hy|hy
  .rcases List.mem_append.mp hx with hx|hx
   .exact s3 x hx y hy
   .exact h x hx y hy
  .rcases List.mem_append.mp hx with hx|hx
   .exact q.le x (List.mem_append_left _ (in1 x hx)) y hy
   .exact q.le x (List.mem_append_right _ hx) y hy
theorem MH.takeB{a b out:List α}{na nb m:Nat}(q:MH κ a b out na nb)(sb:Rise κ b)(hm:m<=nb)(h:∀x∈a.take na,∀y∈(b.take nb).drop m,κ x<=κ y):MH κ a b ((b.take nb).drop m++out) na m:=by
 have e:=E4 b hm;have sd:=sb.take nb;rw[e]at sd;obtain⟨s1,s2,s3⟩:=List.pairwise_append.mp sd;have inn:∀y∈(b.take nb).drop m,y∈b.take nb:=λ y hy=>List.mem_of_mem_drop hy;have in1:∀y∈b.take m,y∈b.take nb:=λ y hy=>by rw[e];exact List.mem_append_left _ hy
 refine⟨?_,Rise.app s2 q.so λ x hx y hy=>q.le x (List.mem_append_right _ (inn x hx)) y hy,λ x hx y hy=>?_,q.la,by have:=q.lb;lia⟩
 .refine List.Perm.trans ?_ q.pm;rw[<-List.append_assoc];refine List.Perm.append_right out ?_;rw[List.append_assoc,<-e]
 .rcases List.mem_append.mp hy with hy|hy
  .rcases List.mem_append.mp hx with hx|hx
   .exact h x hx y hy
   .exact s3 x hx y hy
  .rcases List.mem_append.mp hx with hx|hx
   .exact q.le x (List.mem_append_left _ hx) y hy
   .exact q.le x (List.mem_append_right _ (in1 x hx)) y hy
theorem MH.done{a b out:List α}{na nb:Nat}(q:MH κ a b out na nb)(sa:Rise κ a)(sb:Rise κ b)(h:na=0\/nb=0):Rise κ (a.take na++b.take nb++out)/\(a.take na++b.take nb++out).Perm (a++b):=by
 refine⟨?_,q.pm⟩;refine Rise.app ((sa.take na).app (sb.take nb) λ x hx y hy=>?_) q.so q.le;rcases h with h|h
 .rw[h,List.take_zero]at hx;exact absurd hx List.not_mem_nil
 .rw[h,List.take_zero]at hy;exact absurd hy List.not_mem_nil
theorem MH.firstB{a b out:List α}{na nb:Nat}(q:MH κ a b out na nb)(sa:Rise κ a)(sb:Rise κ b)(h:∀x∈b.take nb,∀y∈a,κ x<=κ y):Rise κ (b.take nb++a.take na++out)/\(b.take nb++a.take na++out).Perm (a++b):=by
 refine⟨?_,?_⟩
 .refine Rise.app ((sb.take nb).app (sa.take na) λ x hx y hy=>h x hx y (List.mem_of_mem_take hy)) q.so λ x hx y hy=>q.le x ?_ y hy;rcases List.mem_append.mp hx with hx|hx
  .exact List.mem_append_right _ hx
  .exact List.mem_append_left _ hx
 .exact(List.Perm.append_right out List.perm_append_comm).trans q.pm
end
section
variable{M:Model}{A:Around}{E:VPz}{s:Shared}
def P5:Array Keyed->Array Keyed->StateT SortSt Sem (Array Keyed):=sortPriv% PySem.Builtin.mergeHi
theorem EH{α:Type}(a:Array α)(m n:Nat):(a.extract m n).toList=(a.toList.take n).drop m:=by
 rw[Array.toList_extract,List.extract_eq_drop_take,List.drop_take]
theorem JX{κ:Keyed->Int}{a:Array Keyed}(sa:Rise κ a.toList){n:Nat}(h0:0<n)(h:n<=a.size):∃x,a[n-1]?=some x/\x∈a.toList/\(a.toList.take n).drop (n-1)=[x]/\∀y∈a.toList.take n,κ y<=κ x:=by
 obtain⟨x,e,m,d⟩:=CU (show n-1<a.size by lia);have e2:(a.toList.take n).drop (n-1)=[x]:=by
  rw[List.drop_take,d,show n-(n-1)=1 by lia];rfl
 refine⟨x,e,m,e2,λ y hy=>?_⟩;have e3:=E4 a.toList (show n-1<=n by lia);have sd:=sa.take n;rw[e3]at sd hy;rw[e2]at sd hy;rcases List.mem_append.mp hy with hy|hy
 .exact(List.pairwise_append.mp sd).2.2 y hy x (by simp)
 .rw[List.mem_singleton.mp hy];exact Int.le_refl _
theorem MH.pushA{κ:Keyed->Int}{a b out:Array Keyed}{na nb:Nat}{x:Keyed}(m:MH κ a.toList b.toList out.toList.reverse na nb)(sa:Rise κ a.toList)(da:(a.toList.take na).drop (na-1)=[x])(h:∀w∈b.toList.take nb,κ w<=κ x):MH κ a.toList b.toList (out.push x).toList.reverse (na-1) nb:=by
 have:=m.takeA sa (m:=na-1) (by lia) (λ z hz w hw=>?_)
 .rw[da]at this;rw[Array.toList_push,List.reverse_append];exact this
 .rw[da]at hw;rw[List.mem_singleton.mp hw];exact h z hz
theorem MH.pushB{κ:Keyed->Int}{a b out:Array Keyed}{na nb:Nat}{x:Keyed}(m:MH κ a.toList b.toList out.toList.reverse na nb)(sb:Rise κ b.toList)(db:(b.toList.take nb).drop (nb-1)=[x])(h:∀w∈a.toList.take na,κ w<=κ x):MH κ a.toList b.toList (out.push x).toList.reverse na (nb-1):=by
 have:=m.takeB sb (m:=nb-1) (by lia) (λ z hz w hw=>?_)
 .rw[db]at this;rw[Array.toList_push,List.reverse_append];exact this
 .rw[db]at hw;rw[List.mem_singleton.mp hw];exact h z hz
theorem MH.extA{κ:Keyed->Int}{a b out:Array Keyed}{na nb m:Nat}(q:MH κ a.toList b.toList out.toList.reverse na nb)(sa:Rise κ a.toList)(hm:m<=na)(h:∀x∈b.toList.take nb,∀y∈(a.toList.take na).drop m,κ x<=κ y):MH κ a.toList b.toList (out++(a.extract m na).reverse).toList.reverse m nb:=by
 have:=q.takeA sa hm h;rw[Array.toList_append,List.reverse_append,Array.toList_reverse,List.reverse_reverse,EH];exact this
theorem MH.extB{κ:Keyed->Int}{a b out:Array Keyed}{na nb m:Nat}(q:MH κ a.toList b.toList out.toList.reverse na nb)(sb:Rise κ b.toList)(hm:m<=nb)(h:∀x∈a.toList.take na,∀y∈(b.toList.take nb).drop m,κ x<=κ y):MH κ a.toList b.toList (out++(b.extract m nb).reverse).toList.reverse na m:=by
 have:=q.takeB sb hm h;rw[Array.toList_append,List.reverse_append,Array.toList_reverse,List.reverse_reverse,EH];exact this
theorem Cm{a:Array Keyed}{n:Nat}{x:Keyed}(h:x∈a.toList.take n):∃j,j<n/\j<a.size/\x=a.getD (0+j) default:=by
 have h':x∈(a.toList.drop 0).take n:=by simpa using h
 obtain⟨j,h1,h2,h3⟩:=AN h';exact⟨j,h1,by lia,h3⟩
theorem Es{a:Array Keyed}{m n:Nat}{x:Keyed}(hmn:m<=n)(h:x∈(a.toList.take n).drop m):∃j,m<=j/\j<n/\j<a.size/\x=a.getD (0+j) default:=by
 rw[List.drop_take]at h;obtain⟨j,h1,h2,h3⟩:=AN h;exact⟨m+j,by lia,by lia,h2,by rw[Nat.zero_add];exact h3⟩
structure GoH(κ:Keyed->Int)(a b out:Array Keyed)(na nb:Nat):Prop where
 mi:MH κ a.toList b.toList out.toList.reverse na nb
 la:0<na
 lb:1<nb
theorem A4{κ:Keyed->Int}{a b out:Array Keyed}{na nb:Nat}(m:MH κ a.toList b.toList out.toList.reverse na nb)(sa:Rise κ a.toList)(sb:Rise κ b.toList)(h:na=0\/nb=0):Bc κ a b (a.extract 0 na++b.extract 0 nb++out.reverse):=by
 have:=m.done sa sb h;unfold Bc;rw[Array.toList_append,Array.toList_append,EH,EH,Array.toList_reverse,List.drop_zero,List.drop_zero];exact this
theorem AD{κ:Keyed->Int}{a b out:Array Keyed}{na nb:Nat}(m:MH κ a.toList b.toList out.toList.reverse na nb)(sa:Rise κ a.toList)(sb:Rise κ b.toList)(h1:nb=1)(h:∀x∈b.toList.take 1,∀y∈a.toList,κ x<=κ y):Bc κ a b (b.extract 0 nb++a.extract 0 na++out.reverse):=by
 have:=m.firstB sa sb (by rw[h1];exact h);unfold Bc;rw[Array.toList_append,Array.toList_append,EH,EH,Array.toList_reverse,List.drop_zero,List.drop_zero];exact this
theorem Kv{kd:SortKind}{κ:Keyed->Int}{S:Keyed->Prop}{a b:Array Keyed}{st:SortSt}{Q:Array Keyed->SortSt->Prop}(L:LtG M A E s kd κ S)(hk:kindOf st=kd)(ha:0<a.size)(hb:0<b.size)(hSa:∀x∈a.toList,S x)(hSb:∀x∈b.toList,S x)
  (sa:Rise κ a.toList) (sb:Rise κ b.toList) (hf:∀x∈b.toList.take 1,∀y∈a.toList,κ x<=κ y) (hl:∀x∈b.toList,∀y∈a.toList.drop (a.size-1),κ x<=κ y)
  (h:∀r st',Bc κ a b r->CW st st'->Q r st'):wpS M A E s (P5 a b) Q st:=by
 refine wpS_bind (wpS_lift (wpAny_rule ⟨rfl,?_⟩));obtain⟨a0,ea0,ma0,da0,ra0⟩:=JX sa ha (Nat.le_refl _);have lk0:CW st st:=⟨rfl,rfl,rfl,rfl⟩;have m0:MH κ a.toList b.toList (#[a0]:Array Keyed).toList.reverse (a.size-1) b.size:=by
  have:=(MH.start (κ:=κ) a.toList b.toList).takeA sa (m:=a.size-1) (by rw[Array.length_toList];lia) (λ x hx y hy=>hl x (List.mem_of_mem_take hx) y (by rw[List.take_length]at hy;exact hy));rw[Array.length_toList,Array.length_toList,da0]at this;exact this
 refine wpS_bind (Aj ea0 ?_);dsimp only;by_cases h1:a.size-1=0
 .rw[if_pos (beq_iff_eq.mpr h1)];exact wpS_pure (h _ _ (A4 m0 sa sb (.inl h1)) lk0)
 rw[if_neg (λ z=>h1 (beq_iff_eq.mp z))];by_cases h2:b.size=1
 .rw[if_pos (beq_iff_eq.mpr h2)];exact wpS_pure (h _ _ (AD m0 sa sb h2 hf) lk0)
 rw[if_neg (λ z=>h2 (beq_iff_eq.mp z))];refine wpS_bind (wpS_get ?_);refine wpS_bind (wpS_mono (wpS_forRange (I:=λ x (c:Option (Array Keyed)×Nat×Nat×Array Keyed×Nat) st'=>c.1=none/\GoH κ a b c.2.2.2.1 c.2.1 c.2.2.1/\c.2.1+c.2.2.1+x+1<=a.size+b.size/\CW st st')
  (Q:=λ(c:Option (Array Keyed)×Nat×Nat×Array Keyed×Nat) st'=>CW st st'/\∃r,c.1=some r/\Bc κ a b r) ?ostep ?ofin (And.intro rfl ⟨⟨m0,by show 0<a.size-1;lia,by show 1<b.size;lia⟩,by show a.size-1+b.size+0+1<=a.size+b.size;lia,lk0⟩)) ?opost)
 case ofin =>
  rintro⟨r,na,nb,out,mg⟩ st1 ⟨e1,go,hge,lk⟩;have hge:na+nb+max 0 (a.size+b.size)+1<=a.size+b.size:=hge;lia
 case opost =>
  rintro⟨r,na,nb,out,mg⟩ st1 ⟨lk,r',e1,mr⟩;have e1:r=some r':=e1;subst e1;exact wpS_pure (h _ _ mr lk)
 case ostep =>
  rintro x ⟨r,na,nb,out,mg⟩ st1 _ hx ⟨e1,go,hge,lk⟩;have e1:r=none:=e1;subst e1;have hge:na+nb+x+1<=a.size+b.size:=hge;dsimp only;refine wpS_bind (wpS_mono (wpS_forRange (I:=λ y (c:Option (Array Keyed)×Nat×Nat×Array Keyed×Nat×Nat) st'=>c.1=none/\GoH κ a b c.2.2.2.1 c.2.1 c.2.2.1/\c.2.1+c.2.2.1+y=na+nb/\CW st st')
   (Q:=λ(c:Option (Array Keyed)×Nat×Nat×Array Keyed×Nat×Nat) st'=>CW st st'/\((∃r,c.1=some r/\Bc κ a b r)\/(c.1=none/\GoH κ a b c.2.2.2.1 c.2.1 c.2.2.1/\c.2.1+c.2.2.1+1<=na+nb))) ?istep ?ifin (And.intro rfl ⟨go,rfl,lk⟩)) ?ipost)
  case ifin =>
   rintro⟨r,na',nb',out,ac,bc⟩ st2 ⟨e1,go',hs,lk'⟩;have hs:na'+nb'+max 0 (a.size+b.size)=na+nb:=hs;exact And.intro lk' (.inr ⟨e1,go',by show na'+nb'+1<=na+nb;lia⟩)
  case istep =>
   rintro y ⟨r,na',nb',out',ac,bc⟩ st2 _ hy ⟨e1,go',hs,lk'⟩;have e1:r=none:=e1;subst e1;have go':GoH κ a b out' na' nb':=go';have hs:na'+nb'+y=na+nb:=hs;have l1:=go'.la;have l2:=go'.lb;have l3:na'<=a.size:=by have:=go'.mi.la;rwa [Array.length_toList]at this
   have l4:nb'<=b.size:=by have:=go'.mi.lb;rwa [Array.length_toList]at this
   dsimp only;obtain⟨xb,exb,mb,db,rb⟩:=JX sb (show 0<nb' by lia) l4;obtain⟨xa,exa,ma,da,ra⟩:=JX sa l1 l3;refine wpS_bind (Aj exb (wpS_bind (Aj exa (wpS_bind (L xb xa (hSb _ mb) (hSa _ ma) st2 _ (lk'.kd.trans hk) ?_)))));dsimp only;by_cases hlt:κ xb<κ xa
   .rw[decide_eq_true hlt,if_pos rfl];refine wpS_bind (Aj exa ?_);have mi':=go'.mi.pushA sa da (λ w hw=>by have:=rb w hw;lia);by_cases q1:na'-1=0
    .rw[if_pos (beq_iff_eq.mpr q1)];exact wpS_pure (And.intro lk' (.inl ⟨_,rfl,A4 mi' sa sb (.inl q1)⟩))
    .rw[if_neg (λ z=>q1 (beq_iff_eq.mp z))];have gn:GoH κ a b (out'.push xa) (na'-1) nb':=⟨mi',by lia,l2⟩;split
     .exact wpS_pure (And.intro lk' (.inr ⟨rfl,gn,by show na'-1+nb'+1<=na+nb;lia⟩))
     .exact wpS_pure (And.intro rfl ⟨gn,by show na'-1+nb'+(y+1)=na+nb;lia,lk'⟩)
   .rw[decide_eq_false hlt,if_neg Bool.false_ne_true];refine wpS_bind (Aj exb ?_);have mi':=go'.mi.pushB sb db (λ w hw=>by have:=ra w hw;lia);by_cases q1:nb'-1=1
    .rw[if_pos (beq_iff_eq.mpr q1)];exact wpS_pure (And.intro lk' (.inl ⟨_,rfl,AD mi' sa sb q1 hf⟩))
    .rw[if_neg (λ z=>q1 (beq_iff_eq.mp z))];have gn:GoH κ a b (out'.push xb) na' (nb'-1):=⟨mi',l1,by lia⟩;split
     .exact wpS_pure (And.intro lk' (.inr ⟨rfl,gn,by show na'+(nb'-1)+1<=na+nb;lia⟩))
     .exact wpS_pure (And.intro rfl ⟨gn,by show na'+(nb'-1)+(y+1)=na+nb;lia,lk'⟩)
  case ipost =>
   rintro⟨r,na',nb',out',ac,bc⟩ st2 ⟨lk',hh⟩;rcases hh with ⟨r',e1,mr⟩|⟨e1,go',hs⟩
   .have e1:r=some r':=e1;subst e1;exact wpS_pure (And.intro lk' ⟨_,rfl,mr⟩)
   .have e1:r=none:=e1;subst e1;have go':GoH κ a b out' na' nb':=go';have hs:na'+nb'+1<=na+nb:=hs;dsimp only;refine wpS_bind (wpS_lift (wpAny_rule ⟨rfl,?_⟩));refine wpS_bind (wpS_mono (wpS_forRange (I:=λ y (c:Option (Array Keyed)×Nat×Nat×Array Keyed×Nat×Nat×Nat) st'=>c.1=none/\GoH κ a b c.2.2.2.1 c.2.1 c.2.2.1/\c.2.1+c.2.2.1+1<=na+nb/\CW st st')
     (Q:=λ(c:Option (Array Keyed)×Nat×Nat×Array Keyed×Nat×Nat×Nat) st'=>CW st st'/\((∃r,c.1=some r/\Bc κ a b r)\/(c.1=none/\GoH κ a b c.2.2.2.1 c.2.1 c.2.2.1/\c.2.1+c.2.2.1+1<=na+nb))) ?gstep ?gfin (And.intro rfl ⟨go',hs,lk'⟩)) ?gpost)
    case gfin =>
     rintro⟨r,na2,nb2,out,mg2,ac,bc⟩ st3 ⟨e1,go2,hs2,lk2⟩;exact And.intro lk2 (.inr ⟨e1,go2,hs2⟩)
    case gpost =>
     rintro⟨r,na2,nb2,out,mg2,ac,bc⟩ st3 ⟨lk2,hh2⟩;rcases hh2 with ⟨r',e1,mr⟩|⟨e1,go2,hs2⟩
     .have e1:r=some r':=e1;subst e1;exact wpS_pure (And.intro lk2 ⟨_,rfl,mr⟩)
     .have e1:r=none:=e1;subst e1;have hs2:na2+nb2+1<=na+nb:=hs2;refine wpS_bind (wpS_modify ?_);exact wpS_pure (And.intro rfl ⟨go2,by show na2+nb2+(x+1)+1<=a.size+b.size;lia,⟨lk2.kd,lk2.ar,lk2.pe,lk2.fa⟩⟩)
    case gstep =>
     rintro y ⟨r,na2,nb2,out2,mg2,ac,bc⟩ st3 _ hy ⟨e1,go2,hs2,lk2⟩;have e1:r=none:=e1;subst e1;have go2:GoH κ a b out2 na2 nb2:=go2;have hs2:na2+nb2+1<=na+nb:=hs2;dsimp only;have l1:=go2.la;have l2:=go2.lb;have l3:na2<=a.size:=by have:=go2.mi.la;rwa [Array.length_toList]at this
     have l4:nb2<=b.size:=by have:=go2.mi.lb;rwa [Array.length_toList]at this
     have inA:∀i,i<a.size->∃x,a[i]?=some x/\S x:=λ i hi=>by
      obtain⟨x,e,m,_⟩:=CU hi;exact⟨x,e,hSa x m⟩
     have inB:∀i,i<b.size->∃x,b[i]?=some x/\S x:=λ i hi=>by
      obtain⟨x,e,m,_⟩:=CU hi;exact⟨x,e,hSb x m⟩
     by_cases hm:mg2>1
     .rw[if_pos hm];refine wpS_bind (wpS_modify ?_);have lkN:CW st (SortSt.mk' (kindOf st3) (arrOf st3) (pendingOf st3) (mg2-1) (failedOf st3)):=⟨lk2.kd,lk2.ar,lk2.pe,lk2.fa⟩;obtain⟨xb,exb,mb,db,rb⟩:=JX sb (show 0<nb2 by lia) l4;refine wpS_bind (Aj exb (wpS_bind (AF (B:=λ i=>!decide (κ xb<κ (a.getD (0+i) default))) (lkN.kd.trans hk) (Hy L (hSb _ mb) (λ i hi=>inA _ (by lia))) (λ i j hij hj hB=>?_) (by lia) λ k hk' f1 f2=>?_)))
      .have h3:=Bl sa (i:=0+i) (j:=0+j) (by lia) (by lia);simp only[Bool.not_eq_true',decide_eq_false_iff_not]at hB |-;lia
      have u1:∀z∈b.toList.take nb2,∀w∈(a.toList.take na2).drop k,κ z<=κ w:=λ z hz w hw=>by
       obtain⟨j,j1,j2,j3,rfl⟩:=Es hk' hw;have h3:=f2 j j1 j2;simp only[Bool.not_eq_false',decide_eq_true_eq]at h3;have h4:=rb z hz;lia
      have u2:∀w∈a.toList.take k,κ w<=κ xb:=λ w hw=>by
       obtain⟨j,j1,j2,rfl⟩:=Cm hw;have h3:=f1 j j1;simp only[Bool.not_eq_true',decide_eq_false_iff_not]at h3;lia
      dsimp only;by_cases p0:na2-k>0
      .rw[if_pos p0];have m2:=go2.mi.extA sa (m:=k) hk' u1;by_cases q1:k=0
       .rw[if_pos (beq_iff_eq.mpr q1)];exact wpS_pure (And.intro lkN (.inl ⟨_,rfl,A4 m2 sa sb (.inl q1)⟩))
       .rw[if_neg (λ z=>q1 (beq_iff_eq.mp z))];have kB:=u2;refine wpS_bind (Aj exb ?_);have m3:=m2.pushB sb db kB;by_cases q3:nb2-1=1
        .rw[if_pos (beq_iff_eq.mpr q3)];exact wpS_pure (And.intro lkN (.inl ⟨_,rfl,AD m3 sa sb q3 hf⟩))
        .rw[if_neg (λ z=>q3 (beq_iff_eq.mp z))];obtain⟨xa,exa,ma,da,ra⟩:=JX sa (show 0<k by lia) (by lia);refine wpS_bind (Aj exa (wpS_bind (AF (B:=λ i=>decide (κ (b.getD (0+i) default)<κ xa)) (lkN.kd.trans hk) (DB L (hSa _ ma) (λ i hi=>inB _ (by lia))) (λ i j hij hj hB=>decide_eq_true (Int.lt_of_le_of_lt (Bl sb (by lia) (by lia)) (of_decide_eq_true hB))) (by lia) λ k1 hk1 g1 g2=>?_)));have t1:∀z∈a.toList.take (k),∀w∈(b.toList.take (nb2-1)).drop k1,κ z<=κ w:=λ z hz w hw=>by
          obtain⟨j,j1,j2,j3,rfl⟩:=Es hk1 hw;have h3:=of_decide_eq_false (g2 j j1 j2);have h4:=ra z hz;lia
         have t2:∀w∈b.toList.take k1,κ w<=κ xa:=λ w hw=>by
          obtain⟨j,j1,j2,rfl⟩:=Cm hw;exact Int.le_of_lt (of_decide_eq_true (g1 j j1))
         dsimp only;by_cases p1:nb2-1-k1>0
         .rw[if_pos p1];have m4:=m3.extB sb (m:=k1) hk1 t1;by_cases q4:k1=1
          .rw[if_pos (beq_iff_eq.mpr q4)];exact wpS_pure (And.intro lkN (.inl ⟨_,rfl,AD m4 sa sb q4 hf⟩))
          .rw[if_neg (λ z=>q4 (beq_iff_eq.mp z))];by_cases q6:k1=0
           .rw[if_pos (beq_iff_eq.mpr q6)];exact wpS_pure (And.intro lkN (.inl ⟨_,rfl,A4 m4 sa sb (.inr q6)⟩))
           .rw[if_neg (λ z=>q6 (beq_iff_eq.mp z))];have kA:=t2;refine wpS_bind (Aj exa ?_);have m5:=m4.pushA sa da kA;by_cases q5:k-1=0
            .rw[if_pos (beq_iff_eq.mpr q5)];exact wpS_pure (And.intro lkN (.inl ⟨_,rfl,A4 m5 sa sb (.inl q5)⟩))
            .rw[if_neg (λ z=>q5 (beq_iff_eq.mp z))];have gn:GoH κ a b _ (k-1) (k1):=⟨m5,by lia,by lia⟩;split
             .exact wpS_pure (And.intro lkN (.inr ⟨rfl,gn,by show k-1+(k1)+1<=na+nb;lia⟩))
             .exact wpS_pure (And.intro rfl ⟨gn,by show k-1+(k1)+1<=na+nb;lia,lkN⟩)
         .rw[if_neg p1];have k10:k1=nb2-1:=by lia
          subst k10;have kA:=t2;refine wpS_bind (Aj exa ?_);have m5:=m3.pushA sa da kA;by_cases q5:k-1=0
          .rw[if_pos (beq_iff_eq.mpr q5)];exact wpS_pure (And.intro lkN (.inl ⟨_,rfl,A4 m5 sa sb (.inl q5)⟩))
          .rw[if_neg (λ z=>q5 (beq_iff_eq.mp z))];have gn:GoH κ a b _ (k-1) (nb2-1):=⟨m5,by lia,by lia⟩;split
           .exact wpS_pure (And.intro lkN (.inr ⟨rfl,gn,by show k-1+(nb2-1)+1<=na+nb;lia⟩))
           .exact wpS_pure (And.intro rfl ⟨gn,by show k-1+(nb2-1)+1<=na+nb;lia,lkN⟩)
      .rw[if_neg p0];have k00:k=na2:=by lia
       subst k00;have kB:=u2;have mi2:=go2.mi;refine wpS_bind (Aj exb ?_);have m3:=mi2.pushB sb db kB;by_cases q3:nb2-1=1
       .rw[if_pos (beq_iff_eq.mpr q3)];exact wpS_pure (And.intro lkN (.inl ⟨_,rfl,AD m3 sa sb q3 hf⟩))
       .rw[if_neg (λ z=>q3 (beq_iff_eq.mp z))];obtain⟨xa,exa,ma,da,ra⟩:=JX sa (show 0<k by lia) (by lia);refine wpS_bind (Aj exa (wpS_bind (AF (B:=λ i=>decide (κ (b.getD (0+i) default)<κ xa)) (lkN.kd.trans hk) (DB L (hSa _ ma) (λ i hi=>inB _ (by lia))) (λ i j hij hj hB=>decide_eq_true (Int.lt_of_le_of_lt (Bl sb (by lia) (by lia)) (of_decide_eq_true hB))) (by lia) λ k1 hk1 g1 g2=>?_)));have t1:∀z∈a.toList.take (k),∀w∈(b.toList.take (nb2-1)).drop k1,κ z<=κ w:=λ z hz w hw=>by
         obtain⟨j,j1,j2,j3,rfl⟩:=Es hk1 hw;have h3:=of_decide_eq_false (g2 j j1 j2);have h4:=ra z hz;lia
        have t2:∀w∈b.toList.take k1,κ w<=κ xa:=λ w hw=>by
         obtain⟨j,j1,j2,rfl⟩:=Cm hw;exact Int.le_of_lt (of_decide_eq_true (g1 j j1))
        dsimp only;by_cases p1:nb2-1-k1>0
        .rw[if_pos p1];have m4:=m3.extB sb (m:=k1) hk1 t1;by_cases q4:k1=1
         .rw[if_pos (beq_iff_eq.mpr q4)];exact wpS_pure (And.intro lkN (.inl ⟨_,rfl,AD m4 sa sb q4 hf⟩))
         .rw[if_neg (λ z=>q4 (beq_iff_eq.mp z))];by_cases q6:k1=0
          .rw[if_pos (beq_iff_eq.mpr q6)];exact wpS_pure (And.intro lkN (.inl ⟨_,rfl,A4 m4 sa sb (.inr q6)⟩))
          .rw[if_neg (λ z=>q6 (beq_iff_eq.mp z))];have kA:=t2;refine wpS_bind (Aj exa ?_);have m5:=m4.pushA sa da kA;by_cases q5:k-1=0
           .rw[if_pos (beq_iff_eq.mpr q5)];exact wpS_pure (And.intro lkN (.inl ⟨_,rfl,A4 m5 sa sb (.inl q5)⟩))
           .rw[if_neg (λ z=>q5 (beq_iff_eq.mp z))];have gn:GoH κ a b _ (k-1) (k1):=⟨m5,by lia,by lia⟩;split
            .exact wpS_pure (And.intro lkN (.inr ⟨rfl,gn,by show k-1+(k1)+1<=na+nb;lia⟩))
            .exact wpS_pure (And.intro rfl ⟨gn,by show k-1+(k1)+1<=na+nb;lia,lkN⟩)
        .rw[if_neg p1];have k10:k1=nb2-1:=by lia
         subst k10;have kA:=t2;refine wpS_bind (Aj exa ?_);have m5:=m3.pushA sa da kA;by_cases q5:k-1=0
         .rw[if_pos (beq_iff_eq.mpr q5)];exact wpS_pure (And.intro lkN (.inl ⟨_,rfl,A4 m5 sa sb (.inl q5)⟩))
         .rw[if_neg (λ z=>q5 (beq_iff_eq.mp z))];have gn:GoH κ a b _ (k-1) (nb2-1):=⟨m5,by lia,by lia⟩;split
          .exact wpS_pure (And.intro lkN (.inr ⟨rfl,gn,by show k-1+(nb2-1)+1<=na+nb;lia⟩))
          .exact wpS_pure (And.intro rfl ⟨gn,by show k-1+(nb2-1)+1<=na+nb;lia,lkN⟩)
     .rw[if_neg hm];refine wpS_bind (wpS_modify ?_);have lkN:CW st (SortSt.mk' (kindOf st3) (arrOf st3) (pendingOf st3) mg2 (failedOf st3)):=⟨lk2.kd,lk2.ar,lk2.pe,lk2.fa⟩;obtain⟨xb,exb,mb,db,rb⟩:=JX sb (show 0<nb2 by lia) l4;refine wpS_bind (Aj exb (wpS_bind (AF (B:=λ i=>!decide (κ xb<κ (a.getD (0+i) default))) (lkN.kd.trans hk) (Hy L (hSb _ mb) (λ i hi=>inA _ (by lia))) (λ i j hij hj hB=>?_) (by lia) λ k hk' f1 f2=>?_)))
      .have h3:=Bl sa (i:=0+i) (j:=0+j) (by lia) (by lia);simp only[Bool.not_eq_true',decide_eq_false_iff_not]at hB |-;lia
      have u1:∀z∈b.toList.take nb2,∀w∈(a.toList.take na2).drop k,κ z<=κ w:=λ z hz w hw=>by
       obtain⟨j,j1,j2,j3,rfl⟩:=Es hk' hw;have h3:=f2 j j1 j2;simp only[Bool.not_eq_false',decide_eq_true_eq]at h3;have h4:=rb z hz;lia
      have u2:∀w∈a.toList.take k,κ w<=κ xb:=λ w hw=>by
       obtain⟨j,j1,j2,rfl⟩:=Cm hw;have h3:=f1 j j1;simp only[Bool.not_eq_true',decide_eq_false_iff_not]at h3;lia
      dsimp only;by_cases p0:na2-k>0
      .rw[if_pos p0];have m2:=go2.mi.extA sa (m:=k) hk' u1;by_cases q1:k=0
       .rw[if_pos (beq_iff_eq.mpr q1)];exact wpS_pure (And.intro lkN (.inl ⟨_,rfl,A4 m2 sa sb (.inl q1)⟩))
       .rw[if_neg (λ z=>q1 (beq_iff_eq.mp z))];have kB:=u2;refine wpS_bind (Aj exb ?_);have m3:=m2.pushB sb db kB;by_cases q3:nb2-1=1
        .rw[if_pos (beq_iff_eq.mpr q3)];exact wpS_pure (And.intro lkN (.inl ⟨_,rfl,AD m3 sa sb q3 hf⟩))
        .rw[if_neg (λ z=>q3 (beq_iff_eq.mp z))];obtain⟨xa,exa,ma,da,ra⟩:=JX sa (show 0<k by lia) (by lia);refine wpS_bind (Aj exa (wpS_bind (AF (B:=λ i=>decide (κ (b.getD (0+i) default)<κ xa)) (lkN.kd.trans hk) (DB L (hSa _ ma) (λ i hi=>inB _ (by lia))) (λ i j hij hj hB=>decide_eq_true (Int.lt_of_le_of_lt (Bl sb (by lia) (by lia)) (of_decide_eq_true hB))) (by lia) λ k1 hk1 g1 g2=>?_)));have t1:∀z∈a.toList.take (k),∀w∈(b.toList.take (nb2-1)).drop k1,κ z<=κ w:=λ z hz w hw=>by
          obtain⟨j,j1,j2,j3,rfl⟩:=Es hk1 hw;have h3:=of_decide_eq_false (g2 j j1 j2);have h4:=ra z hz;lia
         have t2:∀w∈b.toList.take k1,κ w<=κ xa:=λ w hw=>by
          obtain⟨j,j1,j2,rfl⟩:=Cm hw;exact Int.le_of_lt (of_decide_eq_true (g1 j j1))
         dsimp only;by_cases p1:nb2-1-k1>0
         .rw[if_pos p1];have m4:=m3.extB sb (m:=k1) hk1 t1;by_cases q4:k1=1
          .rw[if_pos (beq_iff_eq.mpr q4)];exact wpS_pure (And.intro lkN (.inl ⟨_,rfl,AD m4 sa sb q4 hf⟩))
          .rw[if_neg (λ z=>q4 (beq_iff_eq.mp z))];by_cases q6:k1=0
           .rw[if_pos (beq_iff_eq.mpr q6)];exact wpS_pure (And.intro lkN (.inl ⟨_,rfl,A4 m4 sa sb (.inr q6)⟩))
           .rw[if_neg (λ z=>q6 (beq_iff_eq.mp z))];have kA:=t2;refine wpS_bind (Aj exa ?_);have m5:=m4.pushA sa da kA;by_cases q5:k-1=0
            .rw[if_pos (beq_iff_eq.mpr q5)];exact wpS_pure (And.intro lkN (.inl ⟨_,rfl,A4 m5 sa sb (.inl q5)⟩))
            .rw[if_neg (λ z=>q5 (beq_iff_eq.mp z))];have gn:GoH κ a b _ (k-1) (k1):=⟨m5,by lia,by lia⟩;split
             .exact wpS_pure (And.intro lkN (.inr ⟨rfl,gn,by show k-1+(k1)+1<=na+nb;lia⟩))
             .exact wpS_pure (And.intro rfl ⟨gn,by show k-1+(k1)+1<=na+nb;lia,lkN⟩)
         .rw[if_neg p1];have k10:k1=nb2-1:=by lia
          subst k10;have kA:=t2;refine wpS_bind (Aj exa ?_);have m5:=m3.pushA sa da kA;by_cases q5:k-1=0
          .rw[if_pos (beq_iff_eq.mpr q5)];exact wpS_pure (And.intro lkN (.inl ⟨_,rfl,A4 m5 sa sb (.inl q5)⟩))
          .rw[if_neg (λ z=>q5 (beq_iff_eq.mp z))];have gn:GoH κ a b _ (k-1) (nb2-1):=⟨m5,by lia,by lia⟩;split
           .exact wpS_pure (And.intro lkN (.inr ⟨rfl,gn,by show k-1+(nb2-1)+1<=na+nb;lia⟩))
           .exact wpS_pure (And.intro rfl ⟨gn,by show k-1+(nb2-1)+1<=na+nb;lia,lkN⟩)
      .rw[if_neg p0];have k00:k=na2:=by lia
       subst k00;have kB:=u2;have mi2:=go2.mi;refine wpS_bind (Aj exb ?_);have m3:=mi2.pushB sb db kB;by_cases q3:nb2-1=1
       .rw[if_pos (beq_iff_eq.mpr q3)];exact wpS_pure (And.intro lkN (.inl ⟨_,rfl,AD m3 sa sb q3 hf⟩))
       .rw[if_neg (λ z=>q3 (beq_iff_eq.mp z))];obtain⟨xa,exa,ma,da,ra⟩:=JX sa (show 0<k by lia) (by lia);refine wpS_bind (Aj exa (wpS_bind (AF (B:=λ i=>decide (κ (b.getD (0+i) default)<κ xa)) (lkN.kd.trans hk) (DB L (hSa _ ma) (λ i hi=>inB _ (by lia))) (λ i j hij hj hB=>decide_eq_true (Int.lt_of_le_of_lt (Bl sb (by lia) (by lia)) (of_decide_eq_true hB))) (by lia) λ k1 hk1 g1 g2=>?_)));have t1:∀z∈a.toList.take (k),∀w∈(b.toList.take (nb2-1)).drop k1,κ z<=κ w:=λ z hz w hw=>by
         obtain⟨j,j1,j2,j3,rfl⟩:=Es hk1 hw;have h3:=of_decide_eq_false (g2 j j1 j2);have h4:=ra z hz;lia
        have t2:∀w∈b.toList.take k1,κ w<=κ xa:=λ w hw=>by
         obtain⟨j,j1,j2,rfl⟩:=Cm hw;exact Int.le_of_lt (of_decide_eq_true (g1 j j1))
        dsimp only;by_cases p1:nb2-1-k1>0
        .rw[if_pos p1];have m4:=m3.extB sb (m:=k1) hk1 t1;by_cases q4:k1=1
         .rw[if_pos (beq_iff_eq.mpr q4)];exact wpS_pure (And.intro lkN (.inl ⟨_,rfl,AD m4 sa sb q4 hf⟩))
         .rw[if_neg (λ z=>q4 (beq_iff_eq.mp z))];by_cases q6:k1=0
          .rw[if_pos (beq_iff_eq.mpr q6)];exact wpS_pure (And.intro lkN (.inl ⟨_,rfl,A4 m4 sa sb (.inr q6)⟩))
          .rw[if_neg (λ z=>q6 (beq_iff_eq.mp z))];have kA:=t2;refine wpS_bind (Aj exa ?_);have m5:=m4.pushA sa da kA;by_cases q5:k-1=0
           .rw[if_pos (beq_iff_eq.mpr q5)];exact wpS_pure (And.intro lkN (.inl ⟨_,rfl,A4 m5 sa sb (.inl q5)⟩))
           .rw[if_neg (λ z=>q5 (beq_iff_eq.mp z))];have gn:GoH κ a b _ (k-1) (k1):=⟨m5,by lia,by lia⟩;split
            .exact wpS_pure (And.intro lkN (.inr ⟨rfl,gn,by show k-1+(k1)+1<=na+nb;lia⟩))
            .exact wpS_pure (And.intro rfl ⟨gn,by show k-1+(k1)+1<=na+nb;lia,lkN⟩)
        .rw[if_neg p1];have k10:k1=nb2-1:=by lia
         subst k10;have kA:=t2;refine wpS_bind (Aj exa ?_);have m5:=m3.pushA sa da kA;by_cases q5:k-1=0
         .rw[if_pos (beq_iff_eq.mpr q5)];exact wpS_pure (And.intro lkN (.inl ⟨_,rfl,A4 m5 sa sb (.inl q5)⟩))
         .rw[if_neg (λ z=>q5 (beq_iff_eq.mp z))];have gn:GoH κ a b _ (k-1) (nb2-1):=⟨m5,by lia,by lia⟩;split
          .exact wpS_pure (And.intro lkN (.inr ⟨rfl,gn,by show k-1+(nb2-1)+1<=na+nb;lia⟩))
          .exact wpS_pure (And.intro rfl ⟨gn,by show k-1+(nb2-1)+1<=na+nb;lia,lkN⟩)
def Li:Nat->StateT SortSt Sem Bool:=sortPriv% PySem.Builtin.mergeAt
theorem MY{α:Type}:∀(ms:List α)(n base:Nat)(xs:Array α),base+n+ms.length<=xs.size ->
  ((ms.zipIdx n).foldl (λ a p=>a.setIfInBounds (base+p.2) p.1) xs).toList=xs.toList.take (base+n)++ms++xs.toList.drop (base+n+ms.length)
 |[],n,base,xs,h=>by simp
 |m::ms,n,base,xs,h=>by
  rw[List.zipIdx_cons,List.foldl_cons];have hl:base+n+(ms.length+1)<=xs.size:=h;rw[MY ms (n+1) base (xs.setIfInBounds (base+n) m) (by rw[Array.size_setIfInBounds];lia)];rw[Array.toList_setIfInBounds];have h1:base+n<xs.toList.length:=by rw[Array.length_toList];lia
  rw[show base+(n+1)=base+n+1 by lia];rw[List.take_set,List.drop_set,if_pos (by lia)];have e1:(xs.toList.take (base+n+1)).set (base+n) m=xs.toList.take (base+n)++[m]:=by
   rw[List.take_succ_eq_append_getElem h1,List.set_append_right _ _ (by rw[List.length_take];lia)];rw[List.length_take,Nat.min_eq_left (by lia),Nat.sub_self];rfl
  rw[e1,show base+n+1+ms.length=base+n+(m::ms).length by simp;lia];simp
theorem Q2{σ:Type}{st st':σ}{Q:PUnit->σ->Prop}(h:Q ⟨⟩ st'):wpS M A E s (set st':StateT σ Sem PUnit) Q st:=by
 unfold wpS;rw[StateT.run_set];exact wpAny_pure ⟨rfl,h⟩
theorem Gm{κ:Keyed->Int}{a:Array Keyed}{lo n:Nat}(h:Rise κ ((a.toList.drop lo).take n))(hn:lo+n<=a.size){i j:Nat}(hij:i<=j)(hj:j<n):κ (a.getD (lo+i) default)<=κ (a.getD (lo+j) default):=by
 have ei:a.getD (lo+i) default=a.toList[lo+i]'(by simp;lia):=by
  have:lo+i<a.size:=by lia
  simp[Array.getD,this]
 have ej:a.getD (lo+j) default=a.toList[lo+j]'(by simp;lia):=by
  have:lo+j<a.size:=by lia
  simp[Array.getD,this]
 rw[ei,ej];rcases Nat.lt_or_ge i j with h'|h'
 .have:=List.pairwise_iff_getElem.mp h i j (by simp;lia) (by simp;lia) h';rwa [List.getElem_take,List.getElem_take,List.getElem_drop,List.getElem_drop]at this
 .have:i=j:=by lia
  subst this;exact Int.le_refl _
theorem Ta{α:Type}{κ:α->Int}{A1 A2 B1 B2 ms:List α}(sA:Rise κ (A1++A2))(sB:Rise κ (B1++B2))(hm:Rise κ ms)(pm:ms.Perm (A2++B1))(h1:∀x∈A1,∀y∈B1++B2,κ x<=κ y)(h2:∀x∈A1++A2,∀y∈B2,κ x<=κ y):Rise κ (A1++ms++B2):=by
 obtain⟨a1,a2,a3⟩:=List.pairwise_append.mp sA;obtain⟨b1,b2,b3⟩:=List.pairwise_append.mp sB;refine Rise.app (Rise.app a1 hm λ x hx y hy=>?_) b2 λ x hx y hy=>?_
 .rcases List.mem_append.mp (pm.mem_iff.mp hy) with hy|hy
  .exact a3 x hx y hy
  .exact h1 x hx y (List.mem_append_left _ hy)
 .rcases List.mem_append.mp hx with hx|hx
  .exact h2 x (List.mem_append_left _ hx) y hy
  .rcases List.mem_append.mp (pm.mem_iff.mp hx) with hx|hx
   .exact h2 x (List.mem_append_right _ hx) y hy
   .exact b3 x hx y hy
theorem Kw{kd:SortKind}{κ:Keyed->Int}{S:Keyed->Prop}{st:SortSt}{i sa na pw nb pw':Nat}{Q:Bool->SortSt->Prop}(L:LtG M A E s kd κ S)(hk:kindOf st=kd)(hfa:failedOf st=none)(p1:(pendingOf st)[i]?=some (sa,na,pw))(p2:(pendingOf st)[i+1]?=some (sa+na,nb,pw'))
  (hS:∀x∈(arrOf st).toList,S x) (ha:0<na) (hb:0<nb) (hn:sa+na+nb<=(arrOf st).size) (r1:Rise κ (((arrOf st).toList.drop sa).take na)) (r2:Rise κ (((arrOf st).toList.drop (sa+na)).take nb))
  (h:∀(arr':Array Keyed)(g:Nat)(seg:List Keyed),arr'.toList=(arrOf st).toList.take sa++seg++(arrOf st).toList.drop (sa+na+nb)->Rise κ seg->seg.Perm (((arrOf st).toList.drop sa).take na++((arrOf st).toList.drop (sa+na)).take nb) ->
   Q true (SortSt.mk' kd arr' (((pendingOf st).setIfInBounds i (sa,na+nb,pw)).eraseIdxIfInBounds (i+1)) g none)):wpS M A E s (Li i) Q st:=by
 refine wpS_bind (wpS_get ?_);have inn:∀i,i<(arrOf st).size->∃x,(arrOf st)[i]?=some x/\S x:=λ i hi=>by
  obtain⟨x,e,m,_⟩:=CU hi;exact⟨x,e,hS x m⟩
 have split:(arrOf st).toList=(arrOf st).toList.take sa++(((arrOf st).toList.drop sa).take na++((arrOf st).toList.drop (sa+na)).take nb)++(arrOf st).toList.drop (sa+na+nb):=by
  rw[List.append_assoc,List.append_assoc,<-BE _ (sa+na) nb,<-BE _ sa na,List.take_append_drop]
 rw[p1,p2];dsimp only;refine wpS_bind (Q2 ?_);subst hk;obtain⟨x0,ex0,mx0,dx0⟩:=CU (show sa+na<(arrOf st).size by lia);have x0B:∀y∈((arrOf st).toList.drop (sa+na)).take nb,κ x0<=κ y:=λ y hy=>by
  obtain⟨j,j1,j2,rfl⟩:=AN hy;have:=Gm r2 hn (i:=0) (j:=j) (by lia) j1;rwa [Nat.add_zero,Gp ex0]at this
 have same:∀g:Nat,∀f:Option Value,f=none->∀(arr':Array Keyed)(seg:List Keyed),arr'.toList=(arrOf st).toList.take sa++seg++(arrOf st).toList.drop (sa+na+nb)->Rise κ seg->seg.Perm (((arrOf st).toList.drop sa).take na++((arrOf st).toList.drop (sa+na)).take nb)->Q true (SortSt.mk' (kindOf st) arr' (((pendingOf st).setIfInBounds i (sa,na+nb,pw)).eraseIdxIfInBounds (i+1)) g f):=λ g f hf arr' seg e1 e2 e3=>by
  rw[hf];exact h arr' g seg e1 e2 e3
 refine wpS_bind (Aj ex0 (wpS_bind (AF (B:=λ i=>!decide (κ x0<κ ((arrOf st).getD (sa+i) default))) rfl (Hy L (hS _ mx0) (λ i hi=>inn _ (by lia))) (λ i j hij hj hB=>?_) (by lia) λ k hk' f1 f2=>?_)))
 .have h3:=Gm r1 (by lia) hij hj;simp only[Bool.not_eq_true',decide_eq_false_iff_not]at hB |-;lia
 have u1:∀z∈((arrOf st).toList.drop sa).take k,κ z<=κ x0:=λ z hz=>by
  obtain⟨j,j1,j2,rfl⟩:=AN hz;have h3:=f1 j j1;simp only[Bool.not_eq_true',decide_eq_false_iff_not]at h3;lia
 dsimp only;by_cases q1:na-k=0
 .rw[if_pos (beq_iff_eq.mpr q1)];have:k=na:=by lia
  subst this;exact wpS_pure (same _ _ hfa _ _ split (Rise.app r1 r2 λ x hx y hy=>Int.le_trans (u1 x hx) (x0B y hy)) (List.Perm.refl _))
 rw[if_neg (λ z=>q1 (beq_iff_eq.mp z))];have eA:((arrOf st).toList.drop sa).take na=((arrOf st).toList.drop sa).take k++((arrOf st).toList.drop (sa+k)).take (na-k):=by
  conv=>lhs;rw[show na=k+(na-k) by lia]
  rw[List.take_add,List.drop_drop]
 obtain⟨x1,ex1,mx1,dx1⟩:=CU (show sa+k+(na-k)-1<(arrOf st).size by lia);have x1A:∀y∈((arrOf st).toList.drop sa).take na,κ y<=κ x1:=λ y hy=>by
  obtain⟨j,j1,j2,rfl⟩:=AN hy;have:=Gm r1 (by lia) (i:=j) (j:=na-1) (by lia) (by lia);rwa [show sa+(na-1)=sa+k+(na-k)-1 by lia,Gp ex1]at this
 refine wpS_bind (Aj ex1 (wpS_bind (AF (B:=λ i=>decide (κ ((arrOf st).getD (sa+na+i) default)<κ x1)) rfl (DB L (hS _ mx1) (λ i hi=>inn _ (by lia))) (λ i j hij hj hB=>decide_eq_true (Int.lt_of_le_of_lt (Gm r2 hn hij hj) (of_decide_eq_true hB))) (by lia) λ k1 hk1 g1 g2=>?_)));have eB:((arrOf st).toList.drop (sa+na)).take nb=((arrOf st).toList.drop (sa+na)).take k1++((arrOf st).toList.drop (sa+na+k1)).take (nb-k1):=by
  conv=>lhs;rw[show nb=k1+(nb-k1) by lia]
  rw[List.take_add,List.drop_drop]
 have v1:∀z∈((arrOf st).toList.drop (sa+na)).take k1,κ z<=κ x1:=λ z hz=>by
  obtain⟨j,j1,j2,rfl⟩:=AN hz;exact Int.le_of_lt (of_decide_eq_true (g1 j j1))
 have v2:∀z∈((arrOf st).toList.drop (sa+na+k1)).take (nb-k1),κ x1<=κ z:=λ z hz=>by
  obtain⟨j,j1,j2,rfl⟩:=AN hz;have:=of_decide_eq_false (g2 (k1+j) (by lia) (by lia));rw[<-Nat.add_assoc]at this;lia
 dsimp only;by_cases q2:k1=0
 .rw[if_pos (beq_iff_eq.mpr q2)];subst q2;exact wpS_pure (same _ _ hfa _ _ split (Rise.app r1 r2 λ x hx y hy=>Int.le_trans (x1A x hx) (v2 y (by simpa using hy))) (List.Perm.refl _))
 rw[if_neg (λ z=>q2 (beq_iff_eq.mp z))];have ex:((arrOf st).extract (sa+k) (sa+na)).toList=((arrOf st).toList.drop (sa+k)).take (na-k):=by
  rw[EH,List.drop_take,show sa+na-(sa+k)=na-k by lia]
 have ey:((arrOf st).extract (sa+na) (sa+na+k1)).toList=((arrOf st).toList.drop (sa+na)).take k1:=PZ _ _ _;have subx:∀x∈((arrOf st).extract (sa+k) (sa+na)).toList,x∈(arrOf st).toList:=λ x hx=>by rw[ex]at hx;exact List.mem_of_mem_drop (List.mem_of_mem_take hx)
 have suby:∀x∈((arrOf st).extract (sa+na) (sa+na+k1)).toList,x∈(arrOf st).toList:=λ x hx=>by rw[ey]at hx;exact List.mem_of_mem_drop (List.mem_of_mem_take hx)
 have rA:=r1;rw[eA]at rA;have rB:=r2;rw[eB]at rB;have rx:Rise κ ((arrOf st).extract (sa+k) (sa+na)).toList:=by rw[ex];exact(List.pairwise_append.mp rA).2.1
 have ry:Rise κ ((arrOf st).extract (sa+na) (sa+na+k1)).toList:=by rw[ey];exact(List.pairwise_append.mp rB).1
 have hfx:∀x∈((arrOf st).extract (sa+na) (sa+na+k1)).toList.take 1,∀y∈((arrOf st).extract (sa+k) (sa+na)).toList,κ x<=κ y:=λ x hx y hy=>by
  rw[ey,List.take_take,Nat.min_eq_left (by lia),dx0]at hx;have:x=x0:=by simpa using hx
  rw[this];rw[ex]at hy;obtain⟨j,j1,j2,rfl⟩:=AN hy;have h3:=f2 (k+j) (by lia) (by lia);simp only[Bool.not_eq_false',decide_eq_true_eq]at h3;rw[<-Nat.add_assoc]at h3;lia
 have hlx:∀x∈((arrOf st).extract (sa+na) (sa+na+k1)).toList,∀y∈((arrOf st).extract (sa+k) (sa+na)).toList.drop (((arrOf st).extract (sa+k) (sa+na)).size-1),κ x<=κ y:=λ x hx y hy=>by
  rw[ey]at hx;have sz:((arrOf st).extract (sa+k) (sa+na)).size=na-k:=by rw[Array.size_extract];lia
  rw[sz,ex,List.drop_take,List.drop_drop,show sa+k+(na-k-1)=sa+k+(na-k)-1 by lia,dx1,show na-k-(na-k-1)=1 by lia]at hy;have:y=x1:=by simpa using hy
  rw[this];exact v1 x hx
 have fin:∀(r:Array Keyed)(st2:SortSt),Bc κ ((arrOf st).extract (sa+k) (sa+na)) ((arrOf st).extract (sa+na) (sa+na+k1)) r->CW (SortSt.mk' (kindOf st) (arrOf st) (((pendingOf st).setIfInBounds i (sa,na+nb,pw)).eraseIdxIfInBounds (i+1)) (gallopOf st) (failedOf st)) st2 ->
   ∀arr':Array Keyed,arr'=(r.toList.zipIdx 0).foldl (λ a p=>a.setIfInBounds (sa+k+p.2) p.1) (arrOf st2)->Q true (SortSt.mk' (kindOf st2) arr' (pendingOf st2) (gallopOf st2) (failedOf st2)):=λ r st2 mr lk arr' earr=>by
  have rl:r.toList.length=na-k+k1:=by
   rw[mr.2.length_eq,List.length_append,ex,ey,List.length_take,List.length_take,List.length_drop,List.length_drop,Array.length_toList];lia
  rw[lk.kd,lk.pe];have la:arrOf st2=arrOf st:=lk.ar;have w:=MY r.toList 0 (sa+k) (arrOf st) (by lia);refine same _ _ (lk.fa.trans hfa) arr' (((arrOf st).toList.drop sa).take k++r.toList++((arrOf st).toList.drop (sa+na+k1)).take (nb-k1)) ?_ ?_ ?_
  .rw[earr,la,w,rl,Nat.add_zero,show sa+k+(na-k+k1)=sa+na+k1 by lia];have e1:(arrOf st).toList.take (sa+k)=(arrOf st).toList.take sa++((arrOf st).toList.drop sa).take k:=List.take_add;have e2:=BE (arrOf st).toList (sa+na+k1) (nb-k1);rw[show sa+na+k1+(nb-k1)=sa+na+nb by lia]at e2;rw[e1]
   conv=>lhs;rw[e2]
   simp only[List.append_assoc]
  .refine Ta rA rB mr.1 (by rw[<-ex,<-ey];exact mr.2) (λ x hx y hy=>Int.le_trans (u1 x hx) (x0B y (by rw[eB];exact hy))) λ x hx y hy=>Int.le_trans (x1A x (by rw[eA];exact hx)) (v2 y hy)
  .have pm:=mr.2;rw[ex,ey]at pm;rw[eA,eB];refine(List.Perm.append_right _ (List.Perm.append_left _ pm)).trans ?_;simp only[List.append_assoc];exact List.Perm.refl _
 have sx:0<((arrOf st).extract (sa+k) (sa+na)).size:=by rw[Array.size_extract];lia
 have sy:0<((arrOf st).extract (sa+na) (sa+na+k1)).size:=by rw[Array.size_extract];lia
 by_cases q3:na-k<=k1
 .rw[if_pos q3];refine wpS_bind (Ku L rfl sx sy (λ x hx=>hS x (subx x hx)) (λ x hx=>hS x (suby x hx)) rx ry hfx hlx λ r st2 mr lk=>?_);refine wpS_bind (wpS_modify (wpS_bind (wpS_get ?_)));have fl:failedOf st2=none:=lk.fa.trans hfa;have:=fin r st2 mr lk _ rfl;refine wpS_pure ?_;have e:(failedOf st2).isNone=true:=by rw[fl];rfl
  show Q (failedOf st2).isNone _;rw[e];exact this
 .rw[if_neg q3];refine wpS_bind (Kv L rfl sx sy (λ x hx=>hS x (subx x hx)) (λ x hx=>hS x (suby x hx)) rx ry hfx hlx λ r st2 mr lk=>?_);refine wpS_bind (wpS_modify (wpS_bind (wpS_get ?_)));have fl:failedOf st2=none:=lk.fa.trans hfa;have:=fin r st2 mr lk _ rfl;refine wpS_pure ?_;have e:(failedOf st2).isNone=true:=by rw[fl];rfl
  show Q (failedOf st2).isNone _;rw[e];exact this
def L6:Nat->Nat->Nat->StateT SortSt Sem Bool:=sortPriv% PySem.Builtin.binarySort
theorem NS{kd:SortKind}{κ:Keyed->Int}{S:Keyed->Prop}(L:LtG M A E s kd κ S){st:SortSt}{i j:Nat}{x y:Keyed}{Q:Option Bool->SortSt->Prop}(hk:kindOf st=kd)(hx:(arrOf st)[i]?=some x)(hy:(arrOf st)[j]?=some y)(sx:S x)(sy:S y)(h:Q (some (decide (κ x<κ y))) st):wpS M A E s (ltAt' i j) Q st:=by
 rw[ltAt'_eq];refine wpS_bind (wpS_get ?_);exact wpS_bind (Aj hx (wpS_bind (Aj hy (L x y sx sy st Q hk h))))
end
section
variable{M:Model}{A:Around}{E:VPz}{s:Shared}{κ:Keyed->Int}{S:Keyed->Prop}{kd:SortKind}
def KG(κ:Keyed->Int)(xs:Array Keyed)(i:Nat):Int:=κ (xs.getD i default)
theorem Fm{xs ys:Array Keyed}{i j:Nat}(h:xs[i]?=ys[j]?):KG κ xs i=KG κ ys j:=by
 unfold KG;rw[Array.getD_eq_getD_getElem?,Array.getD_eq_getD_getElem?,h]
structure Amid(st0:SortSt)(lo n:Nat)(st:SortSt):Prop where
 kd:kindOf st=kindOf st0
 fa:failedOf st=failedOf st0
 pe:pendingOf st=pendingOf st0
 pm:(arrOf st).Perm (arrOf st0)
 out:∀i,i<lo\/lo+n<=i->(arrOf st)[i]?=(arrOf st0)[i]?
theorem Amid.refl(st:SortSt)(lo n:Nat):Amid st lo n st:=⟨rfl,rfl,rfl,Array.Perm.refl _,λ_ _=>rfl⟩
theorem Amid.sz{st0 st:SortSt}{lo n:Nat}(h:Amid st0 lo n st):(arrOf st).size=(arrOf st0).size:=h.pm.size_eq
theorem Amid.mem{st0 st:SortSt}{lo n:Nat}(h:Amid st0 lo n st){x:Keyed}(m:x∈(arrOf st).toList):x∈(arrOf st0).toList:=(Array.perm_iff_toList_perm.mp h.pm).mem_iff.mp m
theorem Amid.set{st0 st:SortSt}{lo n:Nat}(h:Amid st0 lo n st){xs:Array Keyed}(hp:xs.Perm (arrOf st))(ho:∀i,i<lo\/lo+n<=i->xs[i]?=(arrOf st)[i]?):Amid st0 lo n (setArr st xs) :=
 ⟨h.kd,h.fa,h.pe,hp.trans h.pm,λ i hi=>(ho i hi).trans (h.out i hi)⟩
def UpG(κ:Keyed->Int)(xs:Array Keyed)(lo k:Nat):Prop:=∀i j,i<=j->j<k->KG κ xs (lo+i)<=KG κ xs (lo+j)
def DownG(κ:Keyed->Int)(xs:Array Keyed)(lo k:Nat):Prop:=∀i j,i<=j->j<k->KG κ xs (lo+j)<=KG κ xs (lo+i)
theorem EQ(L:LtG M A E s kd κ S){st0 st:SortSt}{lo n i j:Nat}{Q:Option Bool->SortSt->Prop}(hk:kindOf st0=kd)(hS:∀x∈(arrOf st0).toList,S x)(B:Amid st0 lo n st)(hi:i<(arrOf st0).size)(hj:j<(arrOf st0).size)
  (h:Q (some (decide (KG κ (arrOf st) i<KG κ (arrOf st) j))) st):wpS M A E s (ltAt' i j) Q st:=by
 obtain⟨x,ex,mx,_⟩:=CU (show i<(arrOf st).size by rw[B.sz];exact hi);obtain⟨y,ey,my,_⟩:=CU (show j<(arrOf st).size by rw[B.sz];exact hj);refine NS L (B.kd.trans hk) ex ey (hS x (B.mem mx)) (hS y (B.mem my)) ?_;unfold KG at h;rwa [Gp ex,Gp ey]at h
theorem Jl{xs:Array Keyed}{src d:Nat}(hs:src<xs.size)(hd:d<=src)(k:Nat) :
  KG κ (bubble xs src d) k=if k=src-d then KG κ xs src else if src-d<k/\k<=src then KG κ xs (k-1) else KG κ xs k:=by
 have e:=getElem?_bubble hs d hd k;split
 .next h1=>rw[if_pos h1]at e;exact Fm e
 .next h1 =>
  rw[if_neg h1]at e;split
  .next h2=>rw[if_pos h2]at e;exact Fm e
  .next h2=>rw[if_neg h2]at e;exact Fm e
theorem FQ{xs:Array Keyed}{i j:Nat}(hj:j<=xs.size)(k:Nat):KG κ (mirror xs i j ((j-i) / 2)) k=if i<=k/\k<j then KG κ xs (i+j-1-k) else KG κ xs k:=by
 have e:=getElem?_mirror_all (i:=i) hj k;split
 .next h1=>rw[if_pos h1]at e;exact Fm e
 .next h1=>rw[if_neg h1]at e;exact Fm e
theorem Fn{xs:Array Keyed}{i j:Nat}(hj:j<=xs.size)(heq:∀k,i<=k->k<j->KG κ xs k=KG κ xs (j-1))(k:Nat):KG κ (mirror xs i j ((j-i) / 2)) k=KG κ xs k:=by
 rw[FQ hj];split
 .rw[heq _ (by lia) (by lia),heq k (by lia) (by lia)]
 .rfl
theorem Amid.mir{st0 st:SortSt}{lo n:Nat}(h:Amid st0 lo n st){i j:Nat}(hi:lo<=i)(hj:j<=lo+n)(hn:lo+n<=(arrOf st0).size):Amid st0 lo n (setArr st (mirror (arrOf st) i j ((j-i) / 2))) :=
 h.set (mirror_perm _ _ _ _) λ k hk=>by rw[getElem?_mirror_all (by rw[h.sz];lia),if_neg (by lia)]
theorem Amid.bub{st0 st:SortSt}{lo n:Nat}(h:Amid st0 lo n st){k l:Nat}(hk:k<n)(hl:l<=k)(hn:lo+n<=(arrOf st0).size):Amid st0 lo n (setArr st (bubble (arrOf st) (lo+k) (k-l))) :=
 h.set (bubble_perm _ _ _) λ i hi=>by
  rw[getElem?_bubble (by rw[h.sz];lia) _ (by lia)];rw[if_neg (by lia),if_neg (by lia)]
theorem Ed{st:SortSt}{i j:Nat}{Q:Unit->SortSt->Prop}(h:Q () (setArr st (mirror (arrOf st) i j ((j-i) / 2)))):wpS M A E s (reverseSlice' i j) Q st:=by
 rw[reverseSlice'_eq];exact wpS_modify h
theorem OR{st:SortSt}{i j:Nat}{Q:Unit->SortSt->Prop}(h:Q () (setArr st (bubble (arrOf st) i (i-j)))):wpS M A E s (moveDown' i j) Q st:=by
 rw[moveDown'_eq];exact wpS_modify h
theorem Ga(L:LtG M A E s kd κ S){st0 st:SortSt}{lo n ok:Nat}{Q:Bool->SortSt->Prop}(hk:kindOf st0=kd)(hS:∀x∈(arrOf st0).toList,S x)(hn:lo+n<=(arrOf st0).size)(hok:ok<=n)(B:Amid st0 lo n st)(up:UpG κ (arrOf st) lo ok)
  (h:∀u,Amid st0 lo n u->UpG κ (arrOf u) lo n->Q true u):wpS M A E s (L6 lo n ok) Q st:=by
 refine wpS_bind (wpS_mono (wpS_forRange (I:=λ k (c:Option Bool×Unit) u=>c=(none,())/\Amid st0 lo n u/\UpG κ (arrOf u) lo (min k n))
  (Q:=λ(c:Option Bool×Unit) u=>c=(none,())/\Amid st0 lo n u/\UpG κ (arrOf u) lo n) ?step ?fin ?init) ?post)
 case post =>
  rintro c u ⟨rfl,B1,up1⟩;exact wpS_pure (h u B1 up1)
 case init =>
  refine⟨rfl,B,λ i j hij hj=>?_⟩;rcases Nat.eq_zero_or_pos ok with h1|h1
  .have:i=j:=by lia
   subst this;exact Int.le_refl _
  .exact up i j hij (by lia)
 case fin =>
  rintro c u ⟨hc,B1,up1⟩;refine⟨hc,B1,?_⟩;rwa [show min (max (max ok 1) n) n=n by lia]at up1
 case step =>
  rintro k c u hak hkn ⟨rfl,B1,up1⟩;rw[show min k n=k by lia]at up1;refine wpS_bind (wpS_mono (wpS_forRange (I:=λ x (c:Option Bool×Nat×Nat) v=>v=u/\∃l r,c=(none,l,r)/\l<=r/\r<=k/\r-l<=k-x /\
    (∀i,i<l->KG κ (arrOf u) (lo+i)<=KG κ (arrOf u) (lo+k))/\(∀i,r<=i->i<k->KG κ (arrOf u) (lo+k)<KG κ (arrOf u) (lo+i)))
   (Q:=λ(c:Option Bool×Nat×Nat) v=>v=u/\∃l r,c=(none,l,r)/\l<=k /\
    (∀i,i<l->KG κ (arrOf u) (lo+i)<=KG κ (arrOf u) (lo+k))/\(∀i,l<=i->i<k->KG κ (arrOf u) (lo+k)<KG κ (arrOf u) (lo+i))) ?istep ?ifin ?iinit) ?ipost)
  case iinit=>exact⟨rfl,0,k,rfl,Nat.zero_le _,Nat.le_refl _,Nat.le_refl _,λ i hi=>absurd hi (Nat.not_lt_zero i),λ i g1 g2=>by lia⟩
  case ifin =>
   rintro c v ⟨rfl,l,r,rfl,hlr,hrk,hm,g1,g2⟩;have:l=r:=by lia
   subst this;exact⟨rfl,l,l,rfl,hrk,g1,g2⟩
  case istep =>
   rintro x c v _ hxk ⟨rfl,l,r,rfl,hlr,hrk,hm,g1,g2⟩;dsimp only;rcases Nat.lt_or_ge l r with hge|hge
   .rw[if_neg (by lia)];refine wpS_bind (EQ L hk hS B1 (by lia) (by lia) ?_);by_cases hless:KG κ (arrOf v) (lo+k)<KG κ (arrOf v) (lo+(l+r) / 2)
    .simp only[hless,decide_true,if_true];refine wpS_pure ⟨rfl,l,(l+r) / 2,rfl,by lia,by lia,by lia,g1,λ i i1 i2=>?_⟩;exact Int.lt_of_lt_of_le hless (up1 _ _ i1 i2)
    .simp only[hless,decide_false,Bool.false_eq_true,if_false];refine wpS_pure ⟨rfl,(l+r) / 2+1,r,rfl,by lia,by lia,by lia,λ i i1=>?_,g2⟩;exact Int.le_trans (up1 i ((l+r) / 2) (by lia) (by lia)) (Int.not_lt.mp hless)
   .rw[if_pos hge];have:l=r:=by lia
    subst this;exact wpS_pure ⟨rfl,l,l,rfl,hrk,g1,g2⟩
  case ipost =>
   rintro c v ⟨rfl,l,r,rfl,hlk,g1,g2⟩;have hks:lo+k<(arrOf v).size:=by rw[B1.sz];lia
   refine wpS_bind (OR (wpS_pure ⟨rfl,?_,?_⟩))
   .rw[show lo+k-(lo+l)=k-l by lia];exact B1.bub hkn hlk hn
   rw[show min (k+1) n=k+1 by lia];intro i j hij hj;show KG κ (bubble (arrOf v) (lo+k) (lo+k-(lo+l))) (lo+i)<=KG κ (bubble (arrOf v) (lo+k) (lo+k-(lo+l))) (lo+j);rw[show lo+k-(lo+l)=k-l by lia];rw[Jl hks (by lia),Jl hks (by lia),show lo+k-(k-l)=lo+l by lia];have at1:∀i,i≠0->lo+i-1=lo+(i-1):=λ i hi=>by lia
   repeat' split
   all_goals first
    | (exfalso;lia)
    |exact Int.le_refl _
    | (rw[at1 _ (by lia)];exact Int.le_of_lt (g2 _ (by lia) (by lia)))
    | (rw[at1 i (by lia),at1 j (by lia)];exact up1 _ _ (by lia) (by lia))
    | (rw[at1 j (by lia)];exact up1 _ _ (by lia) (by lia))
    |exact g1 _ (by lia)
    |exact up1 _ _ (by lia) (by lia)
def O7:Nat->Nat->StateT SortSt Sem (Option Nat):=sortPriv% PySem.Builtin.countRun
def SX(M:Model)(A:Around)(E:VPz)(s:Shared)(lo:Nat)(f:Nat->Option (Option Nat)×Nat->StateT SortSt Sem (ForInStep (Option (Option Nat)×Nat))):Prop :=
 ∀x n u (R:ForInStep (Option (Option Nat)×Nat)->SortSt->Prop),wpS M A E s (ltAt' (lo+n) (lo+n-1)) (λ r v=>∃b,r=some b/\(b=true->R (.done (none,n)) v)/\(b=false->R (.yield (none,n+1)) v)) u->wpS M A E s (f x (none,n)) R u
theorem UpG.more{xs:Array Keyed}{lo x:Nat}(up:UpG κ xs lo x)(hx:1<=x)(g:¬KG κ xs (lo+x)<KG κ xs (lo+x-1)):UpG κ xs lo (x+1):=λ i j hij hj=>by
 rcases Nat.lt_or_ge j x with hjx|hjx
 .exact up i j hij hjx
 .have e:j=x:=by lia
  subst e;rcases Nat.lt_or_ge i j with hi|hi
  .have:=up i (j-1) (by lia) (by lia);rw[show lo+(j-1)=lo+j-1 by lia]at this;lia
  .rw[show i=j by lia];exact Int.le_refl _
theorem DownG.more{xs:Array Keyed}{lo x:Nat}(up:DownG κ xs lo x)(hx:1<=x)(g:KG κ xs (lo+x)<=KG κ xs (lo+x-1)):DownG κ xs lo (x+1):=λ i j hij hj=>by
 rcases Nat.lt_or_ge j x with hjx|hjx
 .exact up i j hij hjx
 .have e:j=x:=by lia
  subst e;rcases Nat.lt_or_ge i j with hi|hi
  .have:=up i (j-1) (by lia) (by lia);rw[show lo+(j-1)=lo+j-1 by lia]at this;lia
  .rw[show i=j by lia];exact Int.le_refl _
theorem Ud(L:LtG M A E s kd κ S){st0 st:SortSt}{lo a nrem:Nat}{f:Nat->Option (Option Nat)×Nat->StateT SortSt Sem (ForInStep (Option (Option Nat)×Nat))}{Q:Option (Option Nat)×Nat->SortSt->Prop}(hk:kindOf st0=kd)(hS:∀x∈(arrOf st0).toList,S x)(hn:lo+nrem<=(arrOf st0).size)(B:Amid st0 lo nrem st)
  (hf:SX M A E s lo f) (ha:1<=a) (han:a<=nrem) (up:UpG κ (arrOf st) lo a)
  (h:∀n,a<=n->n<=nrem->UpG κ (arrOf st) lo n->(n=nrem\/KG κ (arrOf st) (lo+n)<KG κ (arrOf st) (lo+n-1))->Q (none,n) st):wpS M A E s (forIn [a:nrem] (none,a) f) Q st:=by
 refine wpS_forRange (I:=λ x c u=>u=st/\c=(none,x)/\UpG κ (arrOf st) lo x) ?_ ?_ ⟨rfl,rfl,up⟩
 .rintro x c u hax hxn ⟨rfl,rfl,up1⟩;refine hf _ _ _ _ (EQ L hk hS B (by lia) (by lia) ⟨_,rfl,λ e=>?_,λ e=>?_⟩)
  .exact h x hax (by lia) up1 (.inr (of_decide_eq_true e))
  .exact⟨rfl,rfl,up1.more (by lia) (of_decide_eq_false e)⟩
 .rintro c u ⟨rfl,rfl,up1⟩;rw[show max a nrem=nrem by lia]at up1 |-;exact h nrem han (Nat.le_refl _) up1 (.inl rfl)
theorem Na(L:LtG M A E s kd κ S){st0 st:SortSt}{lo m nrem:Nat}{f:Nat->Option (Option Nat)×Nat->StateT SortSt Sem (ForInStep (Option (Option Nat)×Nat))}{g:Option (Option Nat)×Nat->StateT SortSt Sem (Option Nat)}{Q:Option Nat->SortSt->Prop}(hk:kindOf st0=kd)(hS:∀x∈(arrOf st0).toList,S x)(hn:lo+nrem<=(arrOf st0).size)(B:Amid st0 lo nrem st)
  (hf:SX M A E s lo f) (hg:∀n,g (none,n)=pure (some n)) (ha:1<=m) (han:m<=nrem) (dn:DownG κ (arrOf st) lo m)
  (h:∀n u,Amid st0 lo nrem u->1<=n->n<=nrem->UpG κ (arrOf u) lo n->Q (some n) u):wpS M A E s (reverseSlice' lo (lo+m) >>= λ_=>(forIn [m:nrem] (none,m) f >>= g)) Q st:=by
 refine wpS_bind (Ed ?_);have B1:=B.mir (i:=lo) (j:=lo+m) (Nat.le_refl _) (by lia) hn;have sz:lo+m<=(arrOf st).size:=by rw[B.sz];lia
 refine wpS_bind (Ud L hk hS hn B1 hf ha han (λ i j hij hj=>?_) λ n h1 h2 h3 _=>?_)
 .show KG κ (mirror (arrOf st) lo (lo+m) _) (lo+i)<=KG κ (mirror (arrOf st) lo (lo+m) _) (lo+j);rw[FQ sz,FQ sz,if_pos (by lia),if_pos (by lia)];rw[show lo+(lo+m)-1-(lo+i)=lo+(m-1-i) by lia,show lo+(lo+m)-1-(lo+j)=lo+(m-1-j) by lia];exact dn _ _ (by lia) (by lia)
 .rw[hg];exact wpS_pure (h n _ B1 (by lia) h2 h3)
def UZ(M:Model)(A:Around)(E:VPz)(s:Shared)(lo:Nat)(f:Nat->Option (Option Nat)×Nat×Nat->StateT SortSt Sem (ForInStep (Option (Option Nat)×Nat×Nat))):Prop :=
 ∀x n q u (R:ForInStep (Option (Option Nat)×Nat×Nat)->SortSt->Prop),wpS M A E s (ltAt' (lo+n) (lo+n-1)) (λ r v=>∃b,r=some b/\(b=true->q>0->R (.yield (none,n+1,0)) (setArr v (mirror (arrOf v) (lo+n-(q+1)) (lo+n) ((lo+n-(lo+n-(q+1))) / 2))))/\(b=true->q=0->R (.yield (none,n+1,0)) v) /\
  (b=false->wpS M A E s (ltAt' (lo+n-1) (lo+n)) (λ r w=>∃b,r=some b/\(b=true->R (.done (none,n,q)) w)/\(b=false->R (.yield (none,n+1,q+1)) w)) v)) u->wpS M A E s (f x (none,n,q)) R u
theorem RS(L:LtG M A E s kd κ S){st0 st:SortSt}{lo n nrem:Nat}{f:Nat->Option (Option Nat)×Nat×Nat->StateT SortSt Sem (ForInStep (Option (Option Nat)×Nat×Nat))}{Q:Option (Option Nat)×Nat×Nat->SortSt->Prop}(hk:kindOf st0=kd)(hS:∀x∈(arrOf st0).toList,S x)(hn:lo+nrem<=(arrOf st0).size)(B:Amid st0 lo nrem st)
  (hf:UZ M A E s lo f) (ha:1<=n) (han:n<=nrem) (dn:DownG κ (arrOf st) lo n)
  (h:∀m q u,Amid st0 lo nrem u->n<=m->m<=nrem->DownG κ (arrOf u) lo m->q+1<=m->(∀i,lo+m-(q+1)<=i->i<lo+m->KG κ (arrOf u) i=KG κ (arrOf u) (lo+m-1))->Q (none,m,q) u):wpS M A E s (forIn [n:nrem] (none,n,0) f) Q st:=by
 refine wpS_forRange (I:=λ x c u=>∃q,c=(none,x,q)/\Amid st0 lo nrem u/\DownG κ (arrOf u) lo x/\q+1<=x/\(∀i,lo+x-(q+1)<=i->i<lo+x->KG κ (arrOf u) i=KG κ (arrOf u) (lo+x-1))) ?_ ?_ ⟨0,rfl,B,dn,ha,λ i h1 h2=>by rw[show i=lo+n-1 by lia]⟩
 .rintro x c u hax hxn ⟨q,rfl,B1,dn1,hq,he⟩;have sz:lo+x<=(arrOf u).size:=by rw[B1.sz];lia
  refine hf _ _ _ _ _ (EQ L hk hS B1 (by lia) (by lia) ⟨_,rfl,λ e q0=>?_,λ e q0=>?_,λ e=>?_⟩)
  .have e:=of_decide_eq_true e;have lv:=Fn sz he;refine⟨0,rfl,B1.mir (by lia) (by lia) hn,?_,by lia,λ i h1 h2=>by rw[show i=lo+(x+1)-1 by lia]⟩;have d2:DownG κ (mirror (arrOf u) (lo+x-(q+1)) (lo+x) ((lo+x-(lo+x-(q+1))) / 2)) lo x:=λ i j hij hj=>by
    rw[lv,lv];exact dn1 i j hij hj
   exact d2.more (by lia) (by rw[lv,lv];exact Int.le_of_lt e)
  .have e:=of_decide_eq_true e;exact⟨0,rfl,B1,dn1.more (by lia) (Int.le_of_lt e),by lia,λ i h1 h2=>by rw[show i=lo+(x+1)-1 by lia]⟩
  .have e:=of_decide_eq_false e;refine EQ L hk hS B1 (by lia) (by lia) ⟨_,rfl,λ e2=>?_,λ e2=>?_⟩
   .exact h x q u B1 hax (by lia) dn1 hq he
   .have e2:=of_decide_eq_false e2;refine⟨q+1,rfl,B1,dn1.more (by lia) (by lia),by lia,λ i h1 h2=>?_⟩;rcases Nat.lt_or_ge i (lo+x) with hi|hi
    .rw[he i (by lia) hi,show lo+(x+1)-1=lo+x by lia];lia
    .rw[show i=lo+(x+1)-1 by lia]
 .rintro c u ⟨q,rfl,B1,dn1,hq,he⟩;rw[show max n nrem=nrem by lia]at dn1 hq he |-;exact h nrem q u B1 han (Nat.le_refl _) dn1 hq he
theorem HU(L:LtG M A E s kd κ S){st:SortSt}{lo nrem:Nat}{Q:Option Nat->SortSt->Prop}(hk:kindOf st=kd)(hS:∀x∈(arrOf st).toList,S x)(hn:lo+nrem<=(arrOf st).size)(h1:1<=nrem)
  (h:∀m u,Amid st lo nrem u->1<=m->m<=nrem->UpG κ (arrOf u) lo m->Q (some m) u):wpS M A E s (O7 lo nrem) Q st:=by
 have B:=Amid.refl st lo nrem;have sure:∀(f:Nat->Option (Option Nat)×Nat->StateT SortSt Sem (ForInStep (Option (Option Nat)×Nat))),(∀x n u (R:ForInStep (Option (Option Nat)×Nat)->SortSt->Prop),wpS M A E s (ltAt' (lo+n) (lo+n-1)) (λ r v=>∃b,r=some b/\(b=true->R (.done (none,n)) v)/\(b=false->R (.yield (none,n+1)) v)) u->wpS M A E s (f x (none,n)) R u)->SX M A E s lo f:=λ f h=>h;refine wpS_bind (Ud L hk hS hn B (λ x n u R g=>wpS_bind (wpS_mono g ?_)) (Nat.le_refl 1) h1 (λ i j hij hj=>by rw[show i=j by lia];exact Int.le_refl _) λ n hn1 hn2 up hor=>?_)
 .rintro r v ⟨b,rfl,g1,g2⟩;cases b with
  |true=>exact wpS_pure (g1 rfl)
  |false=>exact wpS_pure (g2 rfl)
 dsimp only;by_cases hnn:n=nrem
 .rw[if_pos (beq_iff_eq.mpr hnn)];exact wpS_pure (h n st B hn1 hn2 up)
 rw[if_neg (λ z=>hnn (beq_iff_eq.mp z))];have hlt:=hor.resolve_left hnn;have sz:lo+n<=(arrOf st).size:=by lia
 rcases Nat.lt_or_ge 1 n with hgt|hgt
 .rw[if_pos hgt];refine wpS_bind (EQ L hk hS B (by lia) (by lia) ?_);by_cases rose:KG κ (arrOf st) lo<KG κ (arrOf st) (lo+n-1)
  .rw[decide_eq_true rose];exact wpS_pure (h n st B hn1 hn2 up)
  rw[decide_eq_false rose];have all:∀k,lo<=k->k<lo+n->KG κ (arrOf st) k=KG κ (arrOf st) (lo+n-1):=λ k k1 k2=>by
   have a1:=up 0 (k-lo) (by lia) (by lia);have a2:=up (k-lo) (n-1) (by lia) (by lia);rw[Nat.add_zero]at a1;rw[show lo+(k-lo)=k by lia]at a1 a2;rw[show lo+(n-1)=lo+n-1 by lia]at a2;lia
  refine wpS_bind (Ed ?_);have lv:=Fn sz all;have B1:=B.mir (i:=lo) (j:=lo+n) (Nat.le_refl _) (by lia) hn;have dn:DownG κ (mirror (arrOf st) lo (lo+n) ((lo+n-lo) / 2)) lo (n+1):=by
   refine DownG.more (λ i j hij hj=>?_) hn1 (by rw[lv,lv];exact Int.le_of_lt hlt);rw[lv,lv,all _ (by lia) (by lia),all (lo+i) (by lia) (by lia)];exact Int.le_refl _
  replace dn:DownG κ (arrOf (setArr st (mirror (arrOf st) lo (lo+n) ((lo+n-lo) / 2)))) lo (n+1):=dn
  generalize setArr st (mirror (arrOf st) lo (lo+n) ((lo+n-lo) / 2))=w at B1 dn |-;clear rose all lv;refine wpS_bind (wpS_lift (wpAny_rule ⟨rfl,?_⟩));refine wpS_bind (RS L hk hS hn B1 (λ x n q u R g=>wpS_bind (wpS_mono g ?_)) (by lia) (by lia) dn λ m q u B2 m1 m2 dn2 q1 he=>?_)
  .rintro r v ⟨b,rfl,g1,g2,g3⟩;cases b with
   |true =>
    rcases Nat.eq_zero_or_pos q with q0|q0
    .subst q0;exact wpS_pure (g2 rfl rfl)
    .dsimp only;rw[if_pos rfl,if_pos q0];exact wpS_bind (Ed (wpS_pure (g1 rfl q0)))
   |false =>
    refine wpS_bind (wpS_mono (g3 rfl) ?_);rintro r v ⟨b,rfl,g1,g2⟩;cases b with
    |true=>exact wpS_pure (g1 rfl)
    |false=>exact wpS_pure (g2 rfl)
  dsimp only;have sz2:lo+m<=(arrOf u).size:=by rw[B2.sz];lia
  rcases Nat.eq_zero_or_pos q with q0|q0
  .rw[if_neg (by lia)];refine Na L hk hS hn B2 (λ x n u R g=>wpS_bind (wpS_mono g ?_)) (λ n=>rfl) (by lia) m2 dn2 h;rintro r v ⟨b,rfl,g1,g2⟩;cases b with
   |true=>exact wpS_pure (g1 rfl)
   |false=>exact wpS_pure (g2 rfl)
  .rw[if_pos q0];refine wpS_bind (Ed ?_);have lv:=Fn sz2 he;refine Na L hk hS hn (B2.mir (by lia) (by lia) hn) (λ x n u R g=>wpS_bind (wpS_mono g ?_)) (λ n=>rfl) (by lia) m2 (λ i j hij hj=>?_) h
   .rintro r v ⟨b,rfl,g1,g2⟩;cases b with
    |true=>exact wpS_pure (g1 rfl)
    |false=>exact wpS_pure (g2 rfl)
   .show KG κ (mirror _ _ _ _) _<=KG κ (mirror _ _ _ _) _;rw[lv,lv];exact dn2 i j hij hj
 .rw[if_neg (by lia)];have e1:n=1:=by lia
  have dn:DownG κ (arrOf st) lo (n+1):=DownG.more (λ i j hij hj=>by rw[show i=j by lia];exact Int.le_refl _) hn1 (Int.le_of_lt hlt);refine wpS_bind (wpS_lift (wpAny_rule ⟨rfl,?_⟩));refine wpS_bind (RS L hk hS hn B (λ x n q u R g=>wpS_bind (wpS_mono g ?_)) (by lia) (by lia) dn λ m q u B2 m1 m2 dn2 q1 he=>?_)
  .rintro r v ⟨b,rfl,g1,g2,g3⟩;cases b with
   |true =>
    rcases Nat.eq_zero_or_pos q with q0|q0
    .subst q0;exact wpS_pure (g2 rfl rfl)
    .dsimp only;rw[if_pos rfl,if_pos q0];exact wpS_bind (Ed (wpS_pure (g1 rfl q0)))
   |false =>
    refine wpS_bind (wpS_mono (g3 rfl) ?_);rintro r v ⟨b,rfl,g1,g2⟩;cases b with
    |true=>exact wpS_pure (g1 rfl)
    |false=>exact wpS_pure (g2 rfl)
  dsimp only;have sz2:lo+m<=(arrOf u).size:=by rw[B2.sz];lia
  rcases Nat.eq_zero_or_pos q with q0|q0
  .rw[if_neg (by lia)];refine Na L hk hS hn B2 (λ x n u R g=>wpS_bind (wpS_mono g ?_)) (λ n=>rfl) (by lia) m2 dn2 h;rintro r v ⟨b,rfl,g1,g2⟩;cases b with
   |true=>exact wpS_pure (g1 rfl)
   |false=>exact wpS_pure (g2 rfl)
  .rw[if_pos q0];refine wpS_bind (Ed ?_);have lv:=Fn sz2 he;refine Na L hk hS hn (B2.mir (by lia) (by lia) hn) (λ x n u R g=>wpS_bind (wpS_mono g ?_)) (λ n=>rfl) (by lia) m2 (λ i j hij hj=>?_) h
   .rintro r v ⟨b,rfl,g1,g2⟩;cases b with
    |true=>exact wpS_pure (g1 rfl)
    |false=>exact wpS_pure (g2 rfl)
   .show KG κ (mirror _ _ _ _) _<=KG κ (mirror _ _ _ _) _;rw[lv,lv];exact dn2 i j hij hj
def Tiles(κ:Keyed->Int)(xs:List Keyed):Nat->List (Nat×Nat×Nat)->Nat->Prop
 |a,[],b=>a=b
 |a,p::ps,b=>p.1=a/\0<p.2.1/\Rise κ ((xs.drop a).take p.2.1)/\Tiles κ xs (a+p.2.1) ps b
theorem Tiles.len{xs:List Keyed}:∀{ps:List (Nat×Nat×Nat)}{a b:Nat},Tiles κ xs a ps b->a+ps.length<=b
 |[],a,b,h=>Nat.le_of_eq h
 |p::ps,a,b,h=>by
  have:=Tiles.len h.2.2.2;have:=h.2.1;rw[List.length_cons];lia
theorem Tiles.app{xs:List Keyed}:∀{ps qs:List (Nat×Nat×Nat)}{a b:Nat},Tiles κ xs a (ps++qs) b↔∃c,Tiles κ xs a ps c/\Tiles κ xs c qs b
 |[],qs,a,b=>⟨λ h=>⟨a,rfl,h⟩,λ⟨c,h1,h2⟩=>by cases h1;exact h2⟩
 |p::ps,qs,a,b=>by
  constructor
  .rintro⟨h1,h2,h3,h4⟩;obtain⟨c,g1,g2⟩:=Tiles.app.mp h4;exact⟨c,⟨h1,h2,h3,g1⟩,g2⟩
  .rintro⟨c,⟨h1,h2,h3,g1⟩,g2⟩;exact⟨h1,h2,h3,Tiles.app.mpr ⟨c,g1,g2⟩⟩
theorem G7{α:Type}{xs ys:List α}{a n:Nat}(h:∀i,a<=i->i<a+n->ys[i]?=xs[i]?):(ys.drop a).take n=(xs.drop a).take n:=by
 apply List.ext_getElem?;intro i;rw[List.getElem?_take,List.getElem?_take];split
 .rw[List.getElem?_drop,List.getElem?_drop];exact h _ (by lia) (by lia)
 .rfl
theorem Tiles.same{xs ys:List Keyed}:∀{ps:List (Nat×Nat×Nat)}{a b:Nat},Tiles κ xs a ps b->(∀i,a<=i->i<b->ys[i]?=xs[i]?)->Tiles κ ys a ps b
 |[],a,b,h,_=>h
 |p::ps,a,b,h,g=>by
  have l:=Tiles.len h.2.2.2;refine⟨h.1,h.2.1,?_,Tiles.same h.2.2.2 λ i i1 i2=>g i (by lia) i2⟩;rw[G7 λ i i1 i2=>g i i1 (by lia)];exact h.2.2.1
theorem Tiles.words{xs:List Keyed}:∀{ps qs:List (Nat×Nat×Nat)}{a b:Nat},Tiles κ xs a ps b->qs.map (λ p=>(p.1,p.2.1))=ps.map (λ p=>(p.1,p.2.1))->Tiles κ xs a qs b
 |[],[],a,b,h,_=>h
 |[],_::_,a,b,h,e=>by simp at e
 |_::_,[],a,b,h,e=>by simp at e
 |p::ps,q::qs,a,b,h,e=>by
  obtain⟨e1,e2⟩:=List.cons.inj e;obtain⟨e3,e4⟩:=Prod.mk.inj e1;have t:=Tiles.words h.2.2.2 e2;rw[<-e4]at t;exact⟨e3.trans h.1,by rw[e4];exact h.2.1,by rw[e4];exact h.2.2.1,t⟩
theorem Sd{α:Type}{p:Array α}{i:Nat}(h:i+1<p.size):∃P a b R,p.toList=P++a::b::R/\P.length=i/\p[i]?=some a/\p[i+1]?=some b:=by
 obtain⟨a,e1,_,d1⟩:=CU (show i<p.size by lia);obtain⟨b,e2,_,d2⟩:=CU h;refine⟨p.toList.take i,a,b,p.toList.drop (i+1+1),?_,by rw[List.length_take,Array.length_toList];lia,e1,e2⟩;rw[<-d2,<-d1,List.take_append_drop]
theorem Q3{α:Type}{p:Array α}{P R:List α}{a b v:α}(h:p.toList=P++a::b::R):((p.setIfInBounds P.length v).eraseIdxIfInBounds (P.length+1)).toList=P++v::R:=by
 have hs:p.size=P.length+(R.length+2):=by rw[<-Array.length_toList,h];simp
 have h1:P.length+1<(p.setIfInBounds P.length v).size:=by rw[Array.size_setIfInBounds];lia
 rw[Array.eraseIdxIfInBounds,dif_pos h1,Array.toList_eraseIdx,Array.toList_setIfInBounds,h];rw[List.set_append_right _ _ (Nat.le_refl _),Nat.sub_self,List.set_cons_zero,List.eraseIdx_append_of_length_le (by lia),Nat.add_sub_cancel_left];rfl
structure RunI(κ:Keyed->Int)(kd:SortKind)(a0:Array Keyed)(b:Nat)(st:SortSt):Prop where
 kd:kindOf st=kd
 fa:failedOf st=none
 pm:(arrOf st).Perm a0
 tl:Tiles κ (arrOf st).toList 0 (pendingOf st).toList b
theorem M1(L:LtG M A E s kd κ S){a0:Array Keyed}{b i:Nat}{st:SortSt}{Q:Bool->SortSt->Prop}(hS:∀x∈a0.toList,S x)(hb:b<=a0.size)(I:RunI κ kd a0 b st)(hi:i+1<(pendingOf st).size)
  (h:∀u,RunI κ kd a0 b u->(pendingOf u).size+1=(pendingOf st).size->(∀i,b<=i->(arrOf u).toList[i]?=(arrOf st).toList[i]?)->Q true u):wpS M A E s (Li i) Q st:=by
 obtain⟨P,p,q,R,e,rfl,e1,e2⟩:=Sd hi;have tl:=I.tl;rw[e]at tl;obtain⟨c,t1,t2⟩:=Tiles.app.mp tl;obtain⟨sa,na,pw⟩:=p;obtain⟨sb,nb,pw'⟩:=q;obtain⟨x1,x2,x3,y1,y2,y3,t3⟩:=t2;simp only at x1 x2 x3 y1 y2 y3 t3;subst x1;subst y1;have l3:=Tiles.len t3;have szz:(arrOf st).size=a0.size:=I.pm.size_eq;refine Kw L I.kd I.fa e1 e2 (λ x hx=>hS x ((Array.perm_iff_toList_perm.mp I.pm).mem_iff.mp hx)) x2 y2 (by lia) x3 y3 λ arr' g seg ea r pm=>?_;have two:=Q3 (v:=(sa,na+nb,pw)) e;have sl:seg.length=na+nb:=by
  rw[pm.length_eq,List.length_append,List.length_take,List.length_take,List.length_drop,List.length_drop,Array.length_toList];lia
 have le:((arrOf st).toList.take sa).length=sa:=by rw[List.length_take,Array.length_toList];lia
 have all:(arrOf st).toList=(arrOf st).toList.take sa++(((arrOf st).toList.drop sa).take na++((arrOf st).toList.drop (sa+na)).take nb)++(arrOf st).toList.drop (sa+na+nb):=by
  rw[List.append_assoc,List.append_assoc,<-BE _ (sa+na) nb,<-BE _ sa na,List.take_append_drop]
 refine h _ ⟨rfl,rfl,?_,?_⟩ ?_ (λ i hi=>?_)
 .refine Array.Perm.trans ?_ I.pm;rw[Array.perm_iff_toList_perm];show arr'.toList.Perm _;rw[ea]
  conv=>rhs;rw[all]
  exact List.Perm.append_right _ (List.Perm.append_left _ pm)
 .show Tiles κ arr'.toList 0 (((pendingOf st).setIfInBounds P.length (sa,na+nb,pw)).eraseIdxIfInBounds (P.length+1)).toList b;rw[two];refine Tiles.app.mpr ⟨sa,t1.same λ i _ i2=>?_,rfl,by show 0<na+nb;lia,?_,?_⟩
  .rw[ea,List.append_assoc,List.getElem?_append_left (by lia),List.getElem?_take,if_pos i2]
  .show Rise κ ((arr'.toList.drop sa).take (na+nb));rw[ea,List.append_assoc,List.drop_append_of_le_length (by lia),List.drop_of_length_le (by lia),List.nil_append,List.take_append_of_le_length (by lia),List.take_of_length_le (by lia)];exact r
  .show Tiles κ arr'.toList (sa+(na+nb)) R b;rw[<-Nat.add_assoc];refine t3.same λ i i1 i2=>?_;rw[ea,List.getElem?_append_right (by rw[List.length_append];lia),List.getElem?_drop,List.length_append,le,sl];congr 1;lia
 .show(((pendingOf st).setIfInBounds P.length (sa,na+nb,pw)).eraseIdxIfInBounds (P.length+1)).size+1=(pendingOf st).size;rw[<-Array.length_toList,two,<-Array.length_toList,e];simp;lia
 .show arr'.toList[i]?=_;rw[ea,List.getElem?_append_right (by rw[List.length_append];lia),List.getElem?_drop,List.length_append,le,sl];congr 1;lia
theorem Nl{xs:Array Keyed}{lo n:Nat}(h:UpG κ xs lo n)(hn:lo+n<=xs.size):Rise κ ((xs.toList.drop lo).take n):=by
 refine List.pairwise_iff_getElem.mpr λ i j hi hj hij=>?_;rw[List.length_take,List.length_drop,Array.length_toList]at hi hj;rw[List.getElem_take,List.getElem_take,List.getElem_drop,List.getElem_drop];have:=h i j (by lia) (by lia);unfold KG at this;rw[Array.getD_eq_getD_getElem?,Array.getD_eq_getD_getElem?,getElem?_pos xs (lo+i) (by lia),getElem?_pos xs (lo+j) (by lia)]at this
 simpa using this
theorem RunI.amid{a0:Array Keyed}{lo n:Nat}{st u:SortSt}(I:RunI κ kd a0 lo st)(B:Amid st lo n u):RunI κ kd a0 lo u :=
 ⟨B.kd.trans I.kd,B.fa.trans I.fa,B.pm.trans I.pm,by
  rw[B.pe];exact I.tl.same λ i _ i2=>by rw[Array.getElem?_toList,Array.getElem?_toList];exact B.out i (.inl i2)⟩
def NX:StateT SortSt Sem Unit:=sortPriv% PySem.Builtin.sortRuns
def Er:Nat->Nat->Nat->Nat:=sortPriv% PySem.Builtin.minRun
theorem FU:∀f n r,1<=n->1<=Er f n r
 |0,n,r,h=>by show 1<=n+r;lia
 |f+1,n,r,h=>by
  show 1<=if n<64 then n+r else Er f (n / 2) (max r (n % 2));split
  .lia
  .exact FU f _ _ (by lia)
theorem RunI.add{a0:Array Keyed}{lo n pw:Nat}{st:SortSt}{p:Array (Nat×Nat×Nat)}{g:Nat}(I:RunI κ kd a0 lo st)(hp:p.toList.map (λ p=>(p.1,p.2.1))=(pendingOf st).toList.map (λ p=>(p.1,p.2.1)))(hn:0<n)(r:Rise κ (((arrOf st).toList.drop lo).take n)):RunI κ kd a0 (lo+n) (SortSt.mk' (kindOf st) (arrOf st) (p.push (lo,n,pw)) g (failedOf st)) :=
 ⟨I.kd,I.fa,I.pm,by
  show Tiles κ (arrOf st).toList 0 (p.push (lo,n,pw)).toList (lo+n);rw[Array.toList_push];exact Tiles.app.mpr ⟨lo,I.tl.words hp,rfl,hn,r,rfl⟩⟩
theorem I9{p:Array (Nat×Nat×Nat)}{i pw:Nat}:(p.modify i λ x=>(x.1,x.2.1,pw)).toList.map (λ p=>(p.1,p.2.1))=p.toList.map (λ p=>(p.1,p.2.1)):=by
 apply List.ext_getElem?;intro j;simp only[List.getElem?_map,Array.getElem?_toList,Array.getElem?_modify];split
 .next h=>subst h;cases p[i]?<;>rfl
 .rfl
theorem HS(L:LtG M A E s kd κ S){st:SortSt}{Q:Unit->SortSt->Prop}(hk:kindOf st=kd)(hfa:failedOf st=none)(hpe:pendingOf st=#[])(hS:∀x∈(arrOf st).toList,S x)
  (h:∀u,(arrOf u).Perm (arrOf st)->failedOf u=none->Rise κ (arrOf u).toList->Q () u):wpS M A E s NX Q st:=by
 have I0:RunI κ kd (arrOf st) 0 st:=⟨hk,hfa,Array.Perm.refl _,by rw[hpe];rfl⟩;refine wpS_bind (wpS_get ?_);dsimp only;generalize hsz:(arrOf st).size=N;refine wpS_bind (wpS_mono (wpS_forRange
  (I:=λ x (c:Option Unit×Nat) u=>c.1=none/\x<=c.2/\c.2<=N/\RunI κ kd (arrOf st) c.2 u)
  (Q:=λ(c:Option Unit×Nat) u=>c=(none,N)/\RunI κ kd (arrOf st) N u) ?step ?fin ⟨rfl,Nat.le_refl _,Nat.zero_le _,I0⟩) ?post)
 case fin =>
  rintro⟨r,lo⟩ u ⟨e,h1,h2,I⟩;have h1:max 0 N<=lo:=h1;have h2:lo<=N:=h2;have:lo=N:=by lia
  subst this;have e:r=none:=e;subst e;exact⟨rfl,I⟩
 case step =>
  rintro x ⟨r,lo⟩ u _ hx ⟨e,h1,h2,I⟩;have h1:x<=lo:=h1;have h2:lo<=N:=h2;have e:r=none:=e;subst e;dsimp only at I |-;have us:(arrOf u).size=N:=I.pm.size_eq.trans hsz;have uS:∀x∈(arrOf u).toList,S x:=λ x hx=>hS x ((Array.perm_iff_toList_perm.mp I.pm).mem_iff.mp hx);rcases Nat.lt_or_ge lo N with hlo|hlo
  .rw[if_neg (by lia)];refine wpS_bind (HU L I.kd uS (by lia) (by lia) λ m u1 B1 m1 m2 up1=>?_);dsimp only;have mr:1<=Er N N 0:=FU _ _ _ (by lia);have back:∀(n:Nat)(v:SortSt),RunI κ kd (arrOf st) lo v->0<n->lo+n<=N->Rise κ (((arrOf v).toList.drop lo).take n) ->
     RunI κ kd (arrOf st) lo v/\0<n/\lo+n<=N/\Rise κ (((arrOf v).toList.drop lo).take n):=λ n v a b c d=>⟨a,b,c,d⟩
   have I1:=I.amid B1;rcases Nat.lt_or_ge m (Er N N 0) with hm|hm
   .rw[if_pos (show m<(sortPriv% PySem.Builtin.minRun) N N 0 from hm)];refine wpS_bind (wpS_lift (wpAny_rule ⟨rfl,?_⟩));have hf1:min (N-lo) (Er N N 0)<=N-lo:=Nat.min_le_left _ _;have hf2:m<=min (N-lo) (Er N N 0):=Nat.le_min.mpr ⟨m2,Nat.le_of_lt hm⟩
    replace hf1:min (N-lo) ((sortPriv% PySem.Builtin.minRun) N N 0)<=N-lo:=hf1
    replace hf2:m<=min (N-lo) ((sortPriv% PySem.Builtin.minRun) N N 0):=hf2
    generalize min (N-lo) ((sortPriv% PySem.Builtin.minRun) N N 0)=n at hf1 hf2 |-;have u1S:∀x∈(arrOf u1).toList,S x:=λ x hx=>uS x (B1.mem hx);refine wpS_bind (Ga L I1.kd u1S (by rw[B1.sz];lia) hf2 (Amid.refl u1 lo n) up1 λ v B2 up2=>?_);have ff:∀{α:Type}(a b:α),(if (!true)=true then a else b)=b:=λ a b=>rfl;rw[ff];have Iv:=I1.amid B2;have rv:=Nl up2 (by rw[B2.sz,B1.sz];lia);refine wpS_bind (wpS_get ?_);cases hb:(pendingOf v).back? with
    |none =>
     dsimp only;exact wpS_bind (wpS_modify (wpS_pure ⟨rfl,by show x+1<=lo+n;lia,by show lo+n<=N;lia,Iv.add rfl (by lia) rv⟩))
    |some p =>
     obtain⟨s1,n1,q⟩:=p;dsimp only;refine wpS_bind (wpS_mono (wpS_forRange (I:=λ_ (c:Option Unit×Unit) w=>c=(none,())/\RunI κ kd (arrOf st) lo w/\Rise κ (((arrOf w).toList.drop lo).take n)) (Q:=λ(c:Option Unit×Unit) w=>c=(none,())/\RunI κ kd (arrOf st) lo w/\Rise κ (((arrOf w).toList.drop lo).take n)) ?_ (λ_ _ z=>z) ⟨rfl,Iv,rv⟩) ?_)
     .rintro y c w _ _ ⟨rfl,Iw,rw'⟩;refine wpS_bind (wpS_get ?_);split
      .next fst fst1 older hq =>
       split
       .exact wpS_pure ⟨rfl,Iw,rw'⟩
       .refine wpS_bind (M1 L hS (by lia) Iw ?_ λ v2 I2 _ ou=>?_)
        .split at hq
         .next h2 =>
          have h2:1<(pendingOf w).size:=h2;show(pendingOf w).size-2+1<(pendingOf w).size;lia
         .nomatch hq
        .refine wpS_pure ⟨rfl,I2,?_⟩;rw[G7 λ i i1 _=>ou i i1];exact rw'
      .exact wpS_pure ⟨rfl,Iw,rw'⟩
     .rintro c w ⟨rfl,Iw,rw'⟩;dsimp only;exact wpS_bind (wpS_modify (wpS_bind (wpS_modify (wpS_pure ⟨rfl,by show x+1<=lo+n;lia,by show lo+n<=N;lia,Iw.add I9 (by lia) rw'⟩))))
   .rw[if_neg (show ¬m<(sortPriv% PySem.Builtin.minRun) N N 0 from Nat.not_lt.mpr hm)];have Iv:=I1;have rv:=Nl up1 (by rw[B1.sz];lia);refine wpS_bind (wpS_get ?_);cases hb:(pendingOf u1).back? with
    |none =>
     dsimp only;exact wpS_bind (wpS_modify (wpS_pure ⟨rfl,by show x+1<=lo+m;lia,by show lo+m<=N;lia,Iv.add rfl (by lia) rv⟩))
    |some p =>
     obtain⟨s1,n1,q⟩:=p;dsimp only;refine wpS_bind (wpS_mono (wpS_forRange (I:=λ_ (c:Option Unit×Unit) w=>c=(none,())/\RunI κ kd (arrOf st) lo w/\Rise κ (((arrOf w).toList.drop lo).take m)) (Q:=λ(c:Option Unit×Unit) w=>c=(none,())/\RunI κ kd (arrOf st) lo w/\Rise κ (((arrOf w).toList.drop lo).take m)) ?_ (λ_ _ z=>z) ⟨rfl,Iv,rv⟩) ?_)
     .rintro y c w _ _ ⟨rfl,Iw,rw'⟩;refine wpS_bind (wpS_get ?_);split
      .next fst fst1 older hq =>
       split
       .exact wpS_pure ⟨rfl,Iw,rw'⟩
       .refine wpS_bind (M1 L hS (by lia) Iw ?_ λ v2 I2 _ ou=>?_)
        .split at hq
         .next h2 =>
          have h2:1<(pendingOf w).size:=h2;show(pendingOf w).size-2+1<(pendingOf w).size;lia
         .nomatch hq
        .refine wpS_pure ⟨rfl,I2,?_⟩;rw[G7 λ i i1 _=>ou i i1];exact rw'
      .exact wpS_pure ⟨rfl,Iw,rw'⟩
     .rintro c w ⟨rfl,Iw,rw'⟩;dsimp only;exact wpS_bind (wpS_modify (wpS_bind (wpS_modify (wpS_pure ⟨rfl,by show x+1<=lo+m;lia,by show lo+m<=N;lia,Iw.add I9 (by lia) rw'⟩))))
  .rw[if_pos hlo];have:lo=N:=by lia
   subst this;exact wpS_pure ⟨rfl,I⟩
 case post =>
  rintro c u ⟨rfl,I⟩;dsimp only;refine wpS_bind (wpS_mono (wpS_forRange (I:=λ x (c:Option Unit×Unit) v=>c=(none,())/\RunI κ kd (arrOf st) N v/\((pendingOf v).size+x<=N\/(pendingOf v).size<=1)) (Q:=λ(c:Option Unit×Unit) v=>c=(none,())/\RunI κ kd (arrOf st) N v/\(pendingOf v).size<=1) ?_ ?_ ⟨rfl,I,?_⟩) ?_)
  .rintro x c v _ hx ⟨rfl,Iv,hv⟩;refine wpS_bind (wpS_get ?_);rcases Nat.lt_or_ge 1 (pendingOf v).size with h1|h1
   .rw[if_neg (show ¬(pendingOf v).size<=1 by lia)];have ix:∀(b:Prop)[Decidable b],(if b then (pendingOf v).size-2-1 else (pendingOf v).size-2)+1<(pendingOf v).size:=λ b _=>by
     split<;>lia
    refine wpS_bind (M1 L hS (by lia) Iv (ix _) λ v2 I2 s2 _=>?_);exact wpS_pure ⟨rfl,I2,by rcases hv with hv|hv<;>lia⟩
   .rw[if_pos h1];exact wpS_pure ⟨rfl,Iv,h1⟩
  .rintro c v ⟨rfl,Iv,hv⟩;exact⟨rfl,Iv,by rcases hv with hv|hv<;>lia⟩
  .have:=Tiles.len I.tl;rw[Array.length_toList]at this;exact .inl (by lia)
  .rintro c v ⟨rfl,Iv,hv⟩;dsimp only;refine wpS_pure (h v Iv.pm Iv.fa ?_);have tl:=Iv.tl;have le:(pendingOf v).toList.length<=1:=by rw[Array.length_toList];exact hv
   have vs:(arrOf v).toList.length=N:=by rw[Array.length_toList];exact Iv.pm.size_eq.trans hsz
   generalize (pendingOf v).toList=ps at tl le
   match ps,tl,le with
   |[],tl,_ =>
    have e:0=N:=tl;rw[List.length_eq_zero_iff.mp (vs.trans e.symm)];exact List.Pairwise.nil
   |[p],tl,_ =>
    obtain⟨_,_,r,e⟩:=tl;have e:0+p.2.1=N:=e;rwa [List.drop_zero,List.take_of_length_le (by lia)]at r
end
def PJ:Option NameKind->Bool
 |some .cell=>true
 |some .free=>true
 |_=>false
theorem Ny{o:Option NameKind}(h:PJ o=true):o=some .cell\/o=some .free:=by
 match o,h with
 |some .cell,_=>exact .inl rfl
 |some .free,_=>exact .inr rfl
theorem EK(env:Env):∀(l:List (Str×NameKind))(acc:List (Str×Addr)),(∀y∈l,y.2=.free->∃c,env.cells.lookup y.1=some c) ->
  (∀x c,acc.lookup x=some c->env.cells.lookup x=some c) ->
  ∃cl,(forIn l acc (λ(x:Str×NameKind)(r:List (Str×Addr))=>if (x.2==.free)=true then (cellOf env x.1 >>= λ c=>pure (ForInStep.yield ((x.1,c)::r))) else pure (ForInStep.yield r)):Sem (List (Str×Addr)))=pure cl /\
   (∀x c,cl.lookup x=some c->env.cells.lookup x=some c)/\(∀x,((∃c,acc.lookup x=some c)\/(x,NameKind.free)∈l)->∃c,cl.lookup x=some c)
 |[],acc,_,ha=>⟨acc,by rfl,ha,λ x h=>h.elim id λ z=>nomatch z⟩
 | (n,k)::l,acc,hl,ha=>by
  have hl':∀y∈l,y.2=.free->∃c,env.cells.lookup y.1=some c:=λ y hy=>hl y (List.mem_cons_of_mem _ hy);by_cases hk:k=.free
  .subst hk;obtain⟨c,hc⟩:=hl (n,.free) List.mem_cons_self rfl;have hc':env.cells.lookup n=some c:=hc;have look:∀x,((n,c)::acc).lookup x=if x=n then some c else acc.lookup x:=λ x=>by
    rw[List.lookup_cons];by_cases e:x=n
    .subst e;simp
    .rw[if_neg e,show(x==n)=false by simpa using e]
   have ha':∀x d,((n,c)::acc).lookup x=some d->env.cells.lookup x=some d:=λ x d e=>by
    rw[look]at e;split at e
    .rename_i q;subst q;rw[hc'];exact e
    .exact ha x d e
   obtain⟨cl,e,h1,h2⟩:=EK env l ((n,c)::acc) hl' ha';refine⟨cl,?_,h1,λ x h=>h2 x ?_⟩
   .rw[<-e,List.forIn_cons];have ec:cellOf env n=pure c:=by unfold cellOf;rw[hc']
    show((cellOf env n >>= λ c=>pure (ForInStep.yield ((n,c)::acc))) >>= _:Sem (List (Str×Addr)))=_;rw[ec];rfl
   .rcases h with ⟨d,q⟩|h
    .left
     rw[look];by_cases z:x=n
     .exact⟨c,by rw[if_pos z]⟩
     .exact⟨d,by rw[if_neg z];exact q⟩
    .rcases List.mem_cons.mp h with z|z
     .left
      rw[look];exact⟨c,by rw[if_pos (congrArg Prod.fst z)]⟩
     .exact .inr z
  .obtain⟨cl,e,h1,h2⟩:=EK env l acc hl' ha;refine⟨cl,?_,h1,λ x h=>h2 x ?_⟩
   .rw[<-e,List.forIn_cons];have hb:(k==NameKind.free)=false:=by simpa using hk
    show((if (k==NameKind.free)=true then _ else pure (ForInStep.yield acc)) >>= _:Sem (List (Str×Addr)))=_;rw[hb];rfl
   .rcases h with h|h
    .exact .inl h
    .rcases List.mem_cons.mp h with z|z
     .exact absurd (congrArg Prod.snd z).symm hk
     .exact .inr z
theorem MN{scope:Scope}{env:Env}(h:∀y∈scope.names,y.2=.free->∃c,env.cells.lookup y.1=some c) :
  ∃cl,closureFor scope env=pure cl/\(∀x c,cl.lookup x=some c->env.cells.lookup x=some c)/\(∀x,(x,NameKind.free)∈scope.names->∃c,cl.lookup x=some c):=by
 obtain⟨cl,e,h1,h2⟩:=EK env scope.names [] h (λ x c e=>by simp at e);refine⟨cl,?_,h1,λ x hx=>h2 x (.inr hx)⟩;have e2:closureFor scope env=(forIn scope.names [] (λ(x:Str×NameKind)(r:List (Str×Addr))=>if (x.2==.free)=true then (cellOf env x.1 >>= λ c=>pure (ForInStep.yield ((x.1,c)::r))) else pure (ForInStep.yield r)) >>= λ r=>pure r:Sem (List (Str×Addr))):=by
  rfl
 rw[e2,e];rfl
abbrev AS(X:Cx)(scope:Scope)(cl:List (Str×Addr))(N:LSz)(C:Addr)(s:Shared)(H:Hp)(ex:List Addr):Cx :=
 { X with N:=N,s₀:=s,H₀:=H,env:=compEnvC scope cl C X.env,outer:=X.stack,ex:=ex,fn:=λ_=>false,pn:=[],xe:=λ_ _=>False }
def Fh(osc:Scope)(oN:LSz)(sc:Scope)(N:LSz)(fr:List (Option Nat)):Bool :=
 decide (sc.kind=.function)&&sc.names.all (λ y=>decide (y.2≠.cell))&&sc.names.all (λ y=>decide (y.2≠.free)||PJ (osc.names.lookup y.1)) &&
 sc.names.all (λ y=>decide (y.2≠.local)||decide (sc.names.lookup y.1=some .local)) &&
 (N.zip fr).all (λ y=>match y.2 with
  |none=>true
  |some i=>decide (oN[i]?=some y.1)&&PJ (osc.names.lookup y.1)&&decide (sc.names.lookup y.1=some .free))&&decide (N.length=fr.length)
structure Fp(osc:Scope)(oN:LSz)(sc:Scope)(N:LSz)(fr:List (Option Nat)):Prop where
 kind:sc.kind=.function
 nocell:∀y∈sc.names,y.2≠.cell
 free:∀y∈sc.names,y.2=.free->PJ (osc.names.lookup y.1)=true
 loc:∀y∈sc.names,y.2=.local->sc.names.lookup y.1=some .local
 slots:∀(j:Nat)(x:Str)(i:Nat),N[j]?=some x->fr[j]?=some (some i)->oN[i]?=some x/\PJ (osc.names.lookup x)=true/\sc.names.lookup x=some .free
 len:N.length=fr.length
theorem EJ{osc:Scope}{oN:LSz}{sc:Scope}{N:LSz}{fr:List (Option Nat)}(h:Fh osc oN sc N fr=true):Fp osc oN sc N fr:=by
 unfold Fh at h;simp only[Bool.and_eq_true,List.all_eq_true,decide_eq_true_eq,Bool.or_eq_true]at h;obtain⟨⟨⟨⟨⟨h1,h2⟩,h3⟩,h4⟩,h5⟩,h6⟩:=h;refine⟨h1,h2,λ y hy e=>(h3 y hy).resolve_left λ z=>z e,λ y hy e=>(h4 y hy).resolve_left λ z=>z e,λ j x i e1 e2=>?_,h6⟩;have hm:(x,some i)∈N.zip fr:=by
  have:(N.zip fr)[j]?=some (x,some i):=by rw[List.getElem?_zip_eq_some];exact⟨e1,e2⟩
  exact List.mem_of_getElem? this
 have:=h5 _ hm;simp only[Bool.and_eq_true,decide_eq_true_eq]at this;exact⟨this.1.1,this.1.2,this.2⟩
def stC(fr:List (Option Nat))(σ:St):St:=fr.map λ o=>o.bind λ i=>(σ[i]?).join
def OY(wi:TI)(g:TG)(te:TE)(fr:List (Option Nat)):TE:=λ σ H Q=>wi σ H λ J H1=>∀acc,H1 acc=none->∃W:Nat->Nat->St->Hp->Prop,(∃m,W 0 m (stC fr σ) (upd H1 acc (.lst [])))/\∀i m σ1 H2,W i m σ1 H2 ->
 (J.stop i H2/\Q (.ref acc) H2)\/(J.go i H2/\∀x H3,J.yld i H2 x H3->g x σ1 H3 λ σ4 H4=>te σ4 H4 λ v H5=>∃xs,H5 acc=some (.lst xs)/\xs.length<sizeLine/\∃m',m'<m/\W (i+1) m' σ4 (upd H5 acc (.lst (xs++[v]))))
section
variable{prog:Program}{w:World}{A:Around}{R:Result->Shared->Prop}{s:Shared}
theorem Kg{elt target iter:Expr}{scope:Scope}{pos:Pos}{it acc:Value}{env:Env}(I:Nat->Shared->Prop)
    (turn:∀n s,I n s->wpAny (model prog w) A (pyNext it) (λ r s₁=>match r with
      |none=>R (.ok .next) s₁
      |some v=>wpAny (model prog w) A (letOwnedTupleGo target it v) (λ_ s₁=>wpAny (model prog w) A (assign target env v) (λ_ s₂=>wpAny (model prog w) A (eval elt env) (λ x s₃ =>
          wpAny (model prog w) A (call (.builtin "list.append") [acc,x]) (λ_ s₄=>∃m,m<n/\I m s₄) (notedBy (model prog w) A env λ e s'=>R (.error e) s') s₃)
          (notedBy (model prog w) A env λ e s'=>R (.error e) s') s₂) (notedBy (model prog w) A env λ e s'=>R (.error e) s') s₁) (notedBy (model prog w) A env λ e s'=>R (.error e) s') s₁) (notedBy (model prog w) A env λ e s'=>R (.error e) s') s)
    (n:Nat) (h:I n s) :
    codeAny (model prog w) A (.compLoop (.ListComp elt [⟨target,iter,[],0⟩] scope pos) 0 it acc env) R s:=by
  refine codeAny_loop rfl I (λ n s hI=>?_) n h;show wpAny _ _ ((compTurn (.ListComp elt [⟨target,iter,[],0⟩] scope pos) 0 it acc env).onRaise (λ x=>do noteFrame x env;theTreesLotGoes x)) _ _ s;refine wpAny_noted ?_;rw[compTurn_list1];refine wpAny_bind (wpAny_standAt (wpAny_bind (wpAny_mono (turn n s hI) (λ r s₁ h₁=>?_) λ_ _ h'=>h')));cases r with
  |none=>exact wpAny_pure h₁
  |some v =>
    refine wpAny_bind (wpAny_mono h₁ (λ_ s₁ h₁=>?_) λ_ _ h'=>h');exact wpAny_bind (wpAny_mono h₁ (λ_ s₂ h₂=>wpAny_bind (wpAny_bind (wpAny_mono h₂ (λ x s₃ h₃=>wpAny_bind (wpAny_mono h₃
      (λ_ s₄ h₄=>wpAny_pure (wpAny_pure ⟨rfl,h₄⟩)) λ_ _ h'=>h')) λ_ _ h'=>h'))) λ_ _ h'=>h')
end
theorem Bz{α:Type}{M:Model}{A:Around}{t:Sem α}{Q:α->Shared->Prop}{E:VPz}{s:Shared}(h:wpAny M A t Q (λ_ _=>False) s):wpAny M A t Q E s :=
 wpAny_mono h (λ_ _ q=>q) λ_ _ z=>z.elim
theorem Mj{scope:Scope}{env:Env}(hc:∀y∈scope.names,y.2≠.cell){x:Str}(h:(relabel scope env).names.lookup x=some .cell\/(relabel scope env).names.lookup x=some .free):(x,NameKind.free)∈scope.names:=by
 have key:∀(l:List (Str×NameKind)),(∀y∈l,y.2≠.cell)->((l.map λ(n,k)=>if (k==NameKind.free&&env.scope.kind==.function&&env.kindOf n==some .cell) then (n,NameKind.cell) else (n,k)).lookup x=some .cell \/
   (l.map λ(n,k)=>if (k==NameKind.free&&env.scope.kind==.function&&env.kindOf n==some .cell) then (n,NameKind.cell) else (n,k)).lookup x=some .free)->(x,NameKind.free)∈l:=by
  intro l
  induction l with
  |nil=>intro _ h;simp at h
  |cons y r ih =>
   obtain⟨n,k⟩:=y;intro hc h;have hr:∀y∈r,y.2≠.cell:=λ y hy=>hc y (List.mem_cons_of_mem _ hy);have hk:k≠.cell:=hc (n,k) List.mem_cons_self;rw[List.map_cons]at h;by_cases hxn:x=n
   .subst hxn;have hkf:k=.free:=by
     by_cases hb:(k==NameKind.free&&env.scope.kind==.function&&env.kindOf x==some .cell)=true
     .simp only[Bool.and_eq_true,beq_iff_eq]at hb;exact hb.1.1
     .simp only[hb,if_neg,Bool.false_eq_true,if_false]at h;simp only[List.lookup_cons,beq_self_eq_true]at h;rcases h with h|h
      .exact absurd (Option.some.inj h) hk
      .exact Option.some.inj h
    rw[hkf];exact List.mem_cons_self
   .have hb:(x==n)=false:=by simpa using hxn
    refine List.mem_cons_of_mem _ (ih hr ?_);by_cases hq:(k==NameKind.free&&env.scope.kind==.function&&env.kindOf n==some .cell)=true
    .simp only[hq,if_true,List.lookup_cons,hb]at h;exact h
    .simp only[hq,Bool.false_eq_true,if_false,List.lookup_cons,hb]at h;exact h
 exact key scope.names hc h
theorem EX{env:Env}{x:Str}:∀{l:List (Str×NameKind)},l.lookup x=some .free ->
  ((l.map λ(n,k)=>if (k==NameKind.free&&env.scope.kind==.function&&env.kindOf n==some .cell) then (n,NameKind.cell) else (n,k)).lookup x=some .cell \/
   (l.map λ(n,k)=>if (k==NameKind.free&&env.scope.kind==.function&&env.kindOf n==some .cell) then (n,NameKind.cell) else (n,k)).lookup x=some .free)
 |[],h=>by simp at h
 | (n,k)::r,h=>by
  rw[List.map_cons];by_cases hxn:x=n
  .subst hxn;simp only[List.lookup_cons,beq_self_eq_true]at h;have hk:=Option.some.inj h;subst hk;by_cases hq:(NameKind.free==NameKind.free&&env.scope.kind==.function&&env.kindOf x==some .cell)=true
   .left
    show List.lookup x ((if (NameKind.free==NameKind.free&&env.scope.kind==.function&&env.kindOf x==some .cell)=true then (x,NameKind.cell) else (x,NameKind.free))::_)=_;rw[if_pos hq,List.lookup_cons,beq_self_eq_true]
   .right
    show List.lookup x ((if (NameKind.free==NameKind.free&&env.scope.kind==.function&&env.kindOf x==some .cell)=true then (x,NameKind.cell) else (x,NameKind.free))::_)=_;rw[if_neg hq,List.lookup_cons,beq_self_eq_true]
  .have hb:(x==n)=false:=by simpa using hxn
   simp only[List.lookup_cons,hb]at h;have ih:=EX (env:=env) h;by_cases hq:(k==NameKind.free&&env.scope.kind==.function&&env.kindOf n==some .cell)=true
   .simp only[hq,if_true,List.lookup_cons,hb];exact ih
   .simp only[hq,Bool.false_eq_true,if_false,List.lookup_cons,hb];exact ih
theorem Lj{x:Str}{k:NameKind}:∀{l:List (Str×NameKind)},l.lookup x=some k->(x,k)∈l
 |[],h=>by simp at h
 | (n,j)::r,h=>by
  by_cases e:x=n
  .subst e;simp only[List.lookup_cons,beq_self_eq_true]at h;rw[<-Option.some.inj h];exact List.mem_cons_self
  .have hb:(x==n)=false:=by simpa using e
   simp only[List.lookup_cons,hb]at h;exact List.mem_cons_of_mem _ (Lj h)
section
variable{X:Cx}{elt tg iter:Expr}{scope:Scope}{pos:Pos}{wi:TI}{g:TG}{te:TE}{N:LSz}{fr:List (Option Nat)}
theorem Hv{pins:PNz}{σ:St}{H:Hp}{s s1:Shared}{cl:List (Str×Addr)}{ex:List Addr}{C:Addr}{m:MGz}(I:Inv X pins σ H s)(ck:Fp X.env.scope X.N scope N fr)
    (c1:∀x c,cl.lookup x=some c->X.env.cells.lookup x=some c) (c2:∀x,(x,NameKind.free)∈scope.names->∃c,cl.lookup x=some c) (hex:∀b∈ex,EN X pins H b/\b<s.heap.objs.size) (hC:s.heap.objs.size<=C)
    (hn:s1.heap.Ns C m) (k:∀b o,s.heap.get? b=some o->s1.heap.get? b=some o) (ho:s1.os=s.os) (hg:s1.gens=s.gens) :
    Inv (AS X scope cl N C s H ex) [] (stC fr σ) H s1:=by
  have lt_ne:∀{b:Addr}{o:Obj},s.heap.get? b=some o->b≠C:=λ e=>Nat.ne_of_lt (Nat.lt_of_lt_of_le (Heap.lt_size e) hC);have ok:(AS X scope cl N C s H ex).Ok :=
    { mod:=I.ok.mod
      kind:=ck.kind
      glob:=I.ok.glob
      blt:=I.ok.blt
      above:=hC
      inj:=λ x y c e1 e2=>I.ok.inj x y c (c1 x c e1) (c1 y c e2)
      has:=λ x h=>c2 x (Mj ck.nocell h)
      cab:=λ x c z=>by cases z
      hd:=I.ok.hd
      frames:=I.ok.frames
      stk:=.inl rfl
      exf:=λ b hb=>⟨Nat.ne_of_lt (Nat.lt_of_lt_of_le (hex b hb).2 hC),λ x c e=>(hex b hb).1.2.2.2.2.1 x c (c1 x c e)⟩
      bs:=I.bs
      bsz:=Nat.le_trans I.ok.bsz I.sz
      noex:=λ b o e hb=>by
        rcases(hex b hb).1.2.2.2.1 with z|z
        · exact I.ok.noex b o e z
        · exact absurd (Nat.lt_of_lt_of_le (Heap.lt_size e) (Nat.le_trans I.ok.bsz z)) (Nat.lt_irrefl _)
      exfs:=λ b hb hz=>by
        rcases List.mem_cons.mp (I.stkSub b hz) with z|z
        · exact(hex b hb).1.2.1 z
        · exact(hex b hb).1.2.2.1 z
      funs:=I.stack
      frf:=I.stkFree }
  refine⟨ok,ho,by rw[hg];exact I.bare,Un.kept k,⟨m,hn,λ j x v e1 e2 e3=>?_⟩,λ x c e=>?_,I.hok.fresh hC,λ x c e=>I.freeC x c (c1 x c e),λ p hp=>by simp at hp,I.hok.kept k,?_⟩
  · have e1':N[j]?=some x:=e1
    unfold stC at e2;rw[List.getElem?_map]at e2;cases q:fr[j]? with
    |none=>rw[q]at e2;cases e2
    |some o =>
      rw[q]at e2;cases o with
      |none =>
        have:(none:Option V)=some v:=Option.some.inj e2;cases this
      |some i =>
        have e2':(σ[i]?).join=some v:=Option.some.inj e2;obtain⟨s1',s2',s3'⟩:=ck.slots j x i e1' q;have hσ:σ[i]?=some (some v):=by
          cases z:σ[i]? with
          |none=>rw[z]at e2';cases e2'
          |some y=>rw[z]at e2';exact congrArg some e2'
        have hcf:=Ny s2';obtain⟨m0,hn0,hl⟩:=I.loc;obtain⟨u,r,lk⟩:=hl i x v s1' hσ (Or.inr hcf);refine⟨u,r,Or.inr ⟨EX s3',?_⟩⟩;obtain⟨c,hc⟩:=c2 x (Lj s3');refine⟨c,hc,?_⟩;rcases lk with ⟨z,_⟩|⟨_,c',hc',hv⟩
        · rcases hcf with y|y
          · have z':X.env.scope.names.lookup x=some .local:=z
            rw[y]at z';cases z'
          · have z':X.env.scope.names.lookup x=some .local:=z
            rw[y]at z';cases z'
        · have:=c1 x c hc
          rw[hc']at this;cases this;exact hv.keeps k
  · obtain⟨v,z⟩:=I.cell x c (c1 x c e)
    exact⟨v,z.keeps k⟩
  · unfold stC
    rw[List.length_map];exact ck.len.symm
theorem Jd{pins:PNz}{σ:St}{H:Hp}{s:Shared}{Q:VK}{cl:List (Str×Addr)}{R:Value->Addr->Result->Shared->Prop}(hc:X.calm=true)(I:Inv X pins σ H s)(hi:PI X tg iter wi)
  (hg:∀cl C s H ex,PG (AS X scope cl N C s H ex) tg g) (he:∀cl C s H ex,PE (AS X scope cl N C s H ex) elt te) (ck:Fp X.env.scope X.N scope N fr)
  (c1:∀x c,cl.lookup x=some c->X.env.cells.lookup x=some c) (c2:∀x,(x,NameKind.free)∈scope.names->∃c,cl.lookup x=some c)
  (h:OY wi g te fr σ H Q)
  (hR:∀acc C s' H' m,s'.heap.Ns C m->EN X pins H' C->Inv X pins σ H' s'->Q (.ref acc) H'->R (.ref acc) C (.ok .next) s') :
  wpAny (model X.prog X.w) X.A (eval iter X.env) (λ x s₁=>wpAny (model X.prog X.w) X.A (pyIter x) (λ it s₂=>wpAny (model X.prog X.w) X.A (newList []) (λ acc s₃ =>
   wpAny (model X.prog X.w) X.A (newFunctionEnv scope X.env.globals cl [] X.env.qual none .none (some X.env)) (λ cenv s₄ =>
    codeAny (model X.prog X.w) X.A (.compStart (.ListComp elt [⟨tg,iter,[],0⟩] scope pos) 0 it acc { cenv with scope:=relabel scope X.env }) (R acc cenv.locals) s₄) X.xe s₃) X.xe s₂) X.xe s₁) X.xe s:=by
 refine thn (hi pins s σ H _ I h) λ v s1 h1=>thn h1 λ itv s2 h2=>?_;obtain⟨it,fp,tn,J,H2,e,I2,T,st2,f2,q2⟩:=h2;subst e;refine wpAny_newObj_type (wpAny_newFunctionEnv ck.nocell (by intro y hy;simp at hy) (λ h₁ hns₁ hsb₁=>?_) ck.kind);dsimp only at hns₁ hsb₁ |-;have I3:Inv X pins σ (upd H2 s2.heap.objs.size (.lst [])) { s2 with heap:=s2.heap.push { cls:=.type "list",dict:=none,data:=.seq ([]:LWz).toArray } }:=I2.lnew (t':=s2.toks) (its:=[]) .nil (Nat.zero_le _);have acc0:H2 s2.heap.objs.size=none:=I2.fresh;obtain⟨W,⟨m0,w0⟩,turn⟩:=q2 s2.heap.objs.size acc0;generalize hH3:s2.heap.push { cls:=.type "list",dict:=none,data:=.seq ([]:LWz).toArray }=h3 at hns₁ hsb₁ I3 |-;have hz3:h3.objs.size=s2.heap.objs.size+1:=by rw[<-hH3,Heap.size_push]
 have k23:∀b o,s2.heap.get? b=some o->h3.get? b=some o:=λ b o e=>by rw[<-hH3];exact Heap.get?_push_of_some _ e
 have k34:∀b o,h3.get? b=some o->h₁.get? b=some o:=λ b o e=>hsb₁.extBut b o (Nat.ne_of_lt (Heap.lt_size e)) (Heap.get?_push_of_some _ e);have fpo:∀b∈fp,∃o,s2.heap.get? b=some o/\∀v,o.data≠.cell v:=T.obj 0 _ st2;have hex:∀b∈fp,EN X pins (upd H2 s2.heap.objs.size (.lst [])) b/\b<h3.objs.size:=λ b hb=>by
  obtain⟨o,eo,_⟩:=fpo b hb;have lt:=Heap.lt_size eo;obtain⟨f0,fr'⟩:=f2 b hb;exact⟨⟨by rw[Ai (Nat.ne_of_lt lt)];exact f0,fr'⟩,by rw[hz3];exact Nat.lt_succ_of_lt lt⟩
 have I4:Inv (AS X scope cl N h3.objs.size { s2 with heap:=h3 } (upd H2 s2.heap.objs.size (.lst [])) fp) [] (stC fr σ) (upd H2 s2.heap.objs.size (.lst [])) { s2 with heap:=h₁,toks:=s2.toks+([]:List (Str×Value)).length } :=
  Hv I3 ck c1 c2 hex (Nat.le_refl _) hns₁ k34 rfl rfl
 have stat:∀{H':Hp},(∀b∈fp,H' b=none)->∀b∈fp,EN (AS X scope cl N h3.objs.size { s2 with heap:=h3 } (upd H2 s2.heap.objs.size (.lst [])) fp) [] H' b:=λ hn b hb =>
  ⟨hn b hb,(I4.ok.exf b hb).1,I4.ok.exfs b hb,.inl hb,(I4.ok.exf b hb).2,λ p hp=>by simp at hp⟩
 have stn:∀i h h',tn i h->(∀b o,h.get? b=some o->h'.get? b=some o)->tn i h':=λ i h h' st kk=>T.keep i h h' st λ b _ o e=>kk b o e;have loop:codeAny (model X.prog X.w) X.A (.compLoop (.ListComp elt [⟨tg,iter,[],0⟩] scope pos) 0 (.ref it) (.ref s2.heap.objs.size) (compEnvC scope cl h3.objs.size X.env)) (R (.ref s2.heap.objs.size) h3.objs.size)
   { s2 with heap:=h₁,toks:=s2.toks+([]:List (Str×Value)).length }:=by
  refine Kg (λ n s'=>∃i σ' H',Inv (AS X scope cl N h3.objs.size { s2 with heap:=h3 } (upd H2 s2.heap.objs.size (.lst [])) fp) [] σ' H' s'/\tn i s'.heap/\(∀b∈fp,H' b=none)/\W i n σ' H') ?_ m0
   ⟨0,_,_,I4,stn _ _ _ st2 λ b o e=>k34 b o (k23 b o e),λ b hb=>(hex b hb).1.1,w0⟩
  rintro n s3 ⟨i,σ3,H3,J3,st3,fr3,w3⟩;rcases turn i n σ3 H3 w3 with ⟨stop,qn⟩|⟨go,step⟩
  .refine Bz (thn (T.done (AS X scope cl N h3.objs.size { s2 with heap:=h3 } (upd H2 s2.heap.objs.size (.lst [])) fp) rfl rfl rfl hc i [] s3 σ3 H3 (λ_ _=>False) J3 (stat fr3) st3 stop) λ r s4 hz_=>?_);obtain⟨hr,J4⟩:=hz_;subst hr;obtain⟨mc,hmc,_⟩:=J4.loc;have I5:Inv X pins σ H3 s4:=I3.call' (ch:=fp) J4.os J4.base J4.hok J4.bare λ b hb=>⟨(hex b hb).1.2.2.2.1,(hex b hb).1.2.1,(hex b hb).1.2.2.2.2.1,(hex b hb).1.2.2.2.2.2⟩;exact hR _ _ s4 H3 mc hmc (I3.fpOk (Nat.le_refl _) J4.free) I5 qn
  .refine Bz (thn (T.item (AS X scope cl N h3.objs.size { s2 with heap:=h3 } (upd H2 s2.heap.objs.size (.lst [])) fp) rfl rfl rfl hc i [] s3 σ3 H3 (λ_ _=>False) J3 (stat fr3) st3 go) λ r s4 hz_=>?_);obtain⟨u,hr,h4⟩:=hz_;subst hr;refine Bz (thn h4 λ_ s5 hz_=>?_);obtain⟨x,H5,J5,r5,y5,st5,fr5⟩:=hz_;have J5':=J5.pinned (stat fr5) (T.obj _ _ st5);refine Bz (thn (hg _ _ _ _ _ _ s5 σ3 H5 x u _ J5' r5 (step x H5 y5)) λ_ s6 hz_=>?_);obtain⟨σ6,H6,J6,q6⟩:=hz_;refine Bz (thn (he _ _ _ _ _ _ s6 σ6 H6 _ J6 q6) λ y s7 hz_=>?_);obtain⟨v7,H7,J7,r7,xs,hx,hz,m',hm',w7⟩:=hz_;refine Bz (thn (AZ _ s7 σ6 H7 (.ref s2.heap.objs.size) [v7] (.ref s2.heap.objs.size) [y] (λ v H8=>H8=upd H7 s2.heap.objs.size (.lst (xs++[v7]))) J7 rfl (.cons r7 .nil) ⟨_,xs,v7,rfl,rfl,hx,hz,rfl⟩) λ_ s8 hz_=>?_);obtain⟨_,H8,J8,_,e8⟩:=hz_;subst e8;refine⟨m',hm',i+1,σ6,_,J8.unpinned,T.keep _ _ _ st5 λ b hb o e=>(J8.pin (b,o) (List.mem_append_right _ (List.mem_append_right _ (Bd hb e)))).1,λ b hb=>?_,w7⟩;obtain⟨o,e,d⟩:=T.obj _ _ st5 b hb;exact(J8.pin (b,o) (List.mem_append_right _ (List.mem_append_right _ (Bd hb e)))).2.1
 exact codeAny_compStart_list loop (T.self _ 0 _ _ _ (stn _ _ _ st2 λ b o e=>k34 b o (k23 b o e)) loop)
theorem Kf(I:X.Ok)(ck:Fp X.env.scope X.N scope N fr):∃cl,closureFor scope X.env=pure cl/\(∀x c,cl.lookup x=some c->X.env.cells.lookup x=some c)/\(∀x,(x,NameKind.free)∈scope.names->∃c,cl.lookup x=some c) :=
 MN λ y hy e=>I.has y.1 (Ny (ck.free y hy e))
theorem Em(hc:X.calm=true)(hi:PI X tg iter wi)(hg:∀cl C s H ex,PG (AS X scope cl N C s H ex) tg g)(he:∀cl C s H ex,PE (AS X scope cl N C s H ex) elt te)
  (hk:Fh X.env.scope X.N scope N fr=true:=by rfl) (hs:∀x,foldedSetIterable iter X.env x=pure x:=by intro _;rfl):PE X (.ListComp elt [⟨tg,iter,[],0⟩] scope pos) (OY wi g te fr):=by
 intro pins s σ H Q I h;have ck:=EJ hk;obtain⟨cl,e1,c1,c2⟩:=Kf I.ok ck;rw[eval_ListComp];refine wpAny_comprehension_free (use:=none) (Q:=EP X pins σ Q) rfl hs e1 ck.kind ck.loc (Jd (R:=λ acc C=>compPost (model X.prog X.w) X.A X.xe none (EP X pins σ Q) acc C) hc I hi hg he ck c1 c2 h λ acc C s' H' m hn f I' q=>?_);obtain⟨f0,f1,f2,f3,f4,f5⟩:=f;exact⟨m,hn,λ h' hs'=>⟨.ref acc,H',I'.turned (t':=s'.toks) (λ b o hb e=>hs'.extBut b o hb e) f0 f1 f3 f4 f5,rfl,q⟩⟩
theorem GF{y:Str}{py spos:Pos}{gy:TG}(hc:X.calm=true)(hy:PG X (.Name y py) gy)(hi:PI X tg iter wi)(hg:∀cl C s H ex,PG (AS X scope cl N C s H ex) tg g)(he:∀cl C s H ex,PE (AS X scope cl N C s H ex) elt te)
    (hk:Fh X.env.scope X.N scope N fr=true:=by rfl) (hsw:swapsWith (.ListComp elt [⟨tg,iter,[],0⟩] scope pos) (some (.Name y py)) spos.line X.env=pure true:=by rfl) (hs:∀x,foldedSetIterable iter X.env x=pure x:=by intro _;rfl) :
    PS X (.Assign [.Name y py] (.ListComp elt [⟨tg,iter,[],0⟩] scope pos) spos) (Q7 (OY wi g te fr) gy):=by
  intro pins s σ H D I h;have ck:=EJ hk;obtain⟨cl,e1,c1,c2⟩:=Kf I.ok ck;rw[exec_Assign_Name_used _ _ _ _ hsw];refine wpAny_bind (wpAny_standAt (wpAny_bind ?_));show wpAny _ X.A (do let _ <-comprehension (.ListComp elt [⟨tg,iter,[],0⟩] scope pos) scope X.env _ (newList []) false (eval iter X.env) (some (assign (.Name y py) X.env))) _ _ s;refine wpAny_bind (wpAny_mono (wpAny_comprehension_free (use:=some (assign (.Name y py) X.env)) (Q:=λ_ s'=>SP X pins D .next s') rfl hs e1 ck.kind ck.loc
    (Jd (R:=λ acc C=>compPost (model X.prog X.w) X.A X.xe (some (assign (.Name y py) X.env)) (λ_ s'=>SP X pins D .next s') acc C) hc I hi hg he ck c1 c2 h λ acc C s' H' m hn f I' q=>?_)) (λ_ s' hq=>wpAny_pure (wpAny_pure hq)) λ_ _ e=>e)
  show wpAny _ X.A (assign (.Name y py) X.env (.ref acc)) _ _ _;obtain⟨oC,es,ep,hoC,hdC,hrC⟩:=id hn;have IP:=I'.pinned (fp:=[C]) (λ b hb=>by rw[List.mem_singleton.mp hb];exact f) (λ b hb=>by rw[List.mem_singleton.mp hb];exact⟨oC,hoC,λ v z=>by rw[hdC]at z;cases z⟩);refine thn (hy _ s' σ H' (.ref acc) (.ref acc) _ IP rfl q) λ_ s'' ⟨σ6,H6,I6,q6⟩=>?_;have pC:=I6.pin (C,oC) (List.mem_append_right _ (List.mem_append_right _ (Bd (List.mem_singleton.mpr rfl) hoC)));obtain⟨f0,f1,f2,f3,f4,f5⟩:=f;exact⟨m,⟨oC,es,ep,pC.1,hdC,hrC⟩,λ h' hs'=>⟨σ6,H6,I6.unpinned.turned (t':=s''.toks) (λ b o hb e=>hs'.extBut b o hb e) pC.2.1 f1 f3 f4 f5,q6⟩⟩
end
section
variable{X:Cx}
def Sa(_ j:Int):Prop:=0<j/\j.natAbs.log2<9000
theorem DW:OpR X (binaryOp .FloorDiv) (rI Sa λ i j=>.int (i / j)):=opI λ i j _ _ _ _ _ hc q=>by
 have h1:(0:Int)<j:=hc.1;exact floordiv_int (by lia) (by rw[Int.fdiv_eq_ediv_of_nonneg i (by lia)];exact q) (.inl (PyProof.noPylong_of_log2 hc.2))
theorem CB:OpR X (binaryOp .Mult) (rI IntMulOk λ i j=>.int (i*j)):=opI λ_ _ _ _ _ _ _ hc q=>mul_int q hc
theorem Hd{n k:Nat}(hk:0<k)(h:n<2^k):n.log2<k:=by
 rcases Nat.eq_zero_or_pos n with h0|hp
 .rw[h0];simpa using hk
 .exact(Nat.log2_lt (Nat.ne_of_gt hp)).mpr h
theorem Hj{z:Int}{k:Nat}(hk:0<k)(h:z.natAbs<2^k):Builtin.Int.intBits z<=k:=by
 unfold Builtin.Int.intBits;split
 .exact Nat.zero_le _
 .exact Hd hk h
theorem P3{a b:Int}(h1:a.natAbs<2^128)(h2:b.natAbs<2^128):IntMulOk a b:=by
 have e1:=Hj (by decide) h1;have e2:=Hj (by decide) h2;unfold IntMulOk Builtin.Int.intTooBig;intro h;simp only[Bool.and_eq_true,decide_eq_true_eq]at h;have h3:=h.2;have hb:(256:Int)<=(bitsLine:Int):=by decide +kernel
 lia
def tyO:Option HO->Option String
 |some (.lst _)=>some "list"
 |some (.frz _ (.lst _))=>some "list"
 |some (.tup _)=>some "tuple"
 |some (.dK _)=>some "dict"
 |some (.dT _)=>some "dict"
 |_=>none
def tyS(H:Hp):V->Option String
 |.non=>some "NoneType"
 |.bl _=>some "bool"
 |.int _=>some "int"
 |.str _=>some "str"
 |.ref a=>tyO (H a)
 |_=>none
theorem Sc{K:Frag}{H:Hp}{x:V}{T:String}(h:tyS H x=some T):FP K H x (.type T)/\(T="NoneType"\/T="bool"\/T="int"\/T="str"\/T="list"\/T="tuple"\/T="dict"):=by
 unfold tyS at h;split at h
 .cases h;exact⟨.non,by simp⟩
 .cases h;exact⟨.bl _,by simp⟩
 .cases h;exact⟨.int _,by simp⟩
 .cases h;exact⟨.str _,by simp⟩
 .unfold tyO at h;split at h
  .rename_i e;cases h;exact⟨.lst e,by simp⟩
  .rename_i e;cases h;exact⟨.frz e,by simp⟩
  .rename_i e;cases h;exact⟨.tup e,by simp⟩
  .rename_i e;cases h;exact⟨.dK e,by simp⟩
  .rename_i e;cases h;exact⟨.dT e,by simp⟩
  .cases h
 .cases h
def isB(T c:String):Bool:=decide (T=c)||(decide (T="bool")&&decide (c="int"))
theorem PK:isB "tuple" "tuple"=true:=by decide
theorem Rb{K:Frag}{T c:String}(h:T="NoneType"\/T="bool"\/T="int"\/T="str"\/T="list"\/T="tuple"\/T="dict")(hc:c="int"\/c="bool"\/c="tuple"\/c="list"\/c="str") :
  kitOne K (.type T) (.type c)=some (isB T c):=by
 rcases h with rfl|rfl|rfl|rfl|rfl|rfl|rfl<;>rcases hc with rfl|rfl|rfl|rfl|rfl<;>rfl
inductive RY(xs:LUz)(H:Hp)(Q:VK):Prop
 |mk (x:V) (T c:String) (e:xs=[x,.ty c]) (t:tyS H x=some T) (h:c="int"\/c="bool"\/c="tuple"\/c="list"\/c="str") (q:Q (.bl (isB T c)) H):RY xs H Q
theorem B4:Ec X (.builtin "isinstance") (λ xs H Q=>RY xs H Q):=by
 intro pins s σ H xs us Q I r h;obtain⟨x,T,c,rfl,hT,hc,q⟩:=h;obtain⟨u,w',rfl,rx,ry⟩:=MZ r;cases(show w'=Value.type c from ry);obtain⟨ty,hl⟩:=Sc (K:=X.K) hT;exact IW I rx ty (Rb hl hc) λ tk=>⟨.bl (isB T c),H,I.tok tk,rfl,q⟩
theorem OC{bs:List Bool}{its:LWz}(r:Vals (bs.map V.bl) its){i:Nat}{v:Value}(h:its.toArray[i]?=some v):v=.bool (bs.getD i false):=by
 have hl:=r.length;have hi:i<its.length:=by
  have:=(Array.getElem?_eq_some_iff.mp h).1
  simpa using this
 have hb:bs[i]?=some (bs.getD i false):=by
  have:i<bs.length:=by rw[List.length_map]at hl;lia
  rw[List.getD_eq_getElem?_getD,List.getElem?_eq_getElem this];rfl
 obtain⟨u,hu,ru⟩:=r.get (i:=i) (x:=.bl (bs.getD i false)) (by rw[List.getElem?_map,hb];rfl);have h':its[i]?=some v:=by simpa using h
 rw[h']at hu;cases hu;exact ru
theorem Oa{α:Type}(bs:List Bool):(List.range bs.length).any (λ i=>bs.getD i false)=bs.any id:=by
 have e:(List.range bs.length).map (λ i=>bs.getD i false)=bs:=by
  apply List.ext_getElem?;intro i;rw[List.getElem?_map];by_cases h:i<bs.length
  .rw[List.getElem?_range h,List.getElem?_eq_getElem h,Option.map_some,List.getD_eq_getElem?_getD,List.getElem?_eq_getElem h];rfl
  .rw[List.getElem?_eq_none (by simpa using h),List.getElem?_eq_none (by lia)];rfl
 conv=>rhs;rw[<-e]
 rw[List.any_map];rfl
theorem K2{prog:Program}{w:World}{A:Around}{bs:List Bool}{its:LWz}(r:Vals (bs.map V.bl) its):TruthOf prog w A (λ i v=>its.toArray[i]?=some v) (λ i=>bs.getD i false):=by
 intro i v s Q E hv hq;have e:=OC r hv;subst e;exact wpAny_truthy_bool hq
theorem Qk:Ec X (.builtin "any") (λ xs H Q=>∃(p:Addr)(bs:List Bool),xs=[.ref p]/\SqL X.K H p (bs.map V.bl)/\X.calm=true/\Q (.bl (bs.any id)) H):=by
 intro pins s σ H xs us Q I r h;obtain⟨p,bs,rfl,hp,hc,q⟩:=h;obtain⟨u,rfl,ru⟩:=ER r;cases ru;obtain⟨its,rv,pl,hz⟩:=I.list hp;have hl:=rv.length;rw[List.length_map]at hl;refine call_any_walk (wpAny_pyIter_list pl.isList ?_);have hlt:p<s.heap.objs.size:=by obtain⟨o,ho,_⟩:=pl.isList;exact Heap.lt_size ho
 refine⟨s.heap.objs.size,_,_,_,_,_,_,rfl,Walks.list (show X.A.in1.handled=none from I.ok.hd hc) s.heap.objs.size p (Nat.ne_of_lt hlt) its.toArray,⟨⟨_,Heap.get?_push_size _ rfl,rfl,rfl⟩,let ⟨o,ho,r⟩:=pl.isList;⟨o,Heap.get?_push_of_some _ ho,r⟩⟩,K2 rv,λ h' tk k=>?_⟩;refine⟨.bl (bs.any id),H,I.kept (t':=tk) λ b o e=>k b o (λ z=>?_) (Heap.get?_push_of_some _ e),?_,q⟩
 .have:b=s.heap.objs.size:=by simpa using z
  exact absurd (this ▸ Heap.lt_size e) (Nat.lt_irrefl _)
 .show Value.bool _=Value.bool _;rw[List.size_toArray,<-hl,Oa (α:=Nat)]
end
structure DefOk(P:Program)(w:World)(K:Frag)(mg:MGz)(base:Heap)(k:Nat)(x:Str)(ps:LSz)(sp:Sp):Prop where
 ex:∃(f:Addr)(fd:FuncData),FnOk P w K mg base CX0 k f fd ps sp/\mg x=some (.ref f)/\keepIn K (.ref f)=true/\Binds K fd ps []
section
variable{X:Cx}{k j:Nat}{x:Str}{ps:LSz}{sp:Sp}{p pos:Pos}{e:Expr}{es:List Expr}{t:TA}
theorem Au(D:DefOk X.prog X.w X.K X.mg X.base k x ps sp)(hr:Room j X.A)(ha:PA X (e::es) t)(hj:k<=j:=by decide)(hg:Gl X x:=by rfl)(hdb:(x==("__debug__":Str))=false:=by decide)
  (he:starEach (e::es) X.env=(false,eval e X.env)::starEach es X.env:=by rfl) (hpl:(backTo pos (starEach es X.env)).any (·.1)=false:=by rfl):PE X (.Call (.Name x p) (e::es) [] pos) (K4 sp [] E0 t):=by
 obtain⟨f,fd,F,hm,hk,hb⟩:=D.ex;exact No F (hr.mono hj) hg hm hk hb .nil GH ha hdb he hpl
end
theorem As{xs:LUz}(n:Nat)(h:xs.length=n:=by rfl)(h2:n<=1000:=by decide):xs.length<=sizeLine:=by rw[h];exact Nat.le_of_lt (A0 h2)
theorem Cd{c:Bool}{A B:Prop}(h:c=true)(a:A):if c=true then A else B:=by rw[if_pos h];exact a
theorem BD{c:Bool}{A B:Prop}(h:c=false)(b:B):if c=true then A else B:=by rw[if_neg (by rw[h];exact Bool.false_ne_true)];exact b
theorem AG{c:Bool}{A B:Prop}(h1:c=true->A)(h2:c=false->B):if c=true then A else B:=by
 cases c with
 |true=>exact E2 (h1 rfl)
 |false=>exact Fe (h2 rfl)
theorem decI{i j:Int}:decide (V.int i=V.int j)=true↔i=j:=by
 rw[decide_eq_true_eq];exact⟨λ h=>by injection h,λ h=>by rw[h]⟩
theorem decIf{i j:Int}:decide (V.int i=V.int j)=false↔i≠j:=by
 rw[decide_eq_false_iff_not];exact⟨λ h z=>h (by rw[z]),λ h z=>h (by injection z)⟩
def SameX(p:Addr)(H H':Hp):Prop:=∀b o,b≠p->H b=some o->H' b=some o
theorem SameX.refl{p:Addr}{H:Hp}:SameX p H H:=λ_ _ _ h=>h
theorem SameX.trans{p:Addr}{H H1 H2:Hp}(a:SameX p H H1)(b:SameX p H1 H2):SameX p H H2:=λ c o n h=>b c o n (a c o n h)
theorem SameX.upd{p:Addr}{H:Hp}{o:HO}:SameX p H (upd H p o):=λ b u n h=>by rw[Ai n];exact h
theorem Same.new{l:Addr}{H:Hp}{o:HO}(h:H l=none):Same H (L2.upd H l o):=λ b u e=>by rw[Ai (Ah e h)];exact e
theorem SameX.same{p:Addr}{H H0 H':Hp}(a:SameX p H H')(s:Same H0 H)(h:H0 p=none):Same H0 H':=λ b o e=>a b o (Ah e h) (s b o e)
theorem Same.x{p:Addr}{H H':Hp}(a:Same H H'):SameX p H H':=λ b o _ e=>a b o e
def cW(acc:Addr)(n:Nat)(Pv:Nat->LUz->St->Hp->Prop)(i m:Nat)(σ:St)(H:Hp):Prop:=i<=n/\m=n-i/\∃xs,xs.length=i/\H acc=some (.lst xs)/\Pv i xs σ H
def cNx(acc:Addr)(n:Nat)(Pv:Nat->LUz->St->Hp->Prop)(i:Nat)(σ:St)(v:V)(H:Hp):Prop:=∃xs,H acc=some (.lst xs)/\xs.length<sizeLine/\∃m',m'<n-i/\cW acc n Pv (i+1) m' σ (upd H acc (.lst (xs++[v])))
theorem cNx.mk{acc:Addr}{n:Nat}{Pv:Nat->LUz->St->Hp->Prop}{i:Nat}{σ:St}{v:V}{H:Hp}{xs:LUz}(hn:n<=sizeLine)(hi:i<n)(hl:xs.length=i)(ha:H acc=some (.lst xs))(hp:Pv (i+1) (xs++[v]) σ (upd H acc (.lst (xs++[v])))) :
  cNx acc n Pv i σ v H:=⟨xs,ha,by lia,n-(i+1),by lia,hi,rfl,xs++[v],by rw[List.length_append,hl];rfl,Ac,hp⟩
theorem DA{lo:Int}{n:Nat}{g:TG}{te:TE}{σ:St}{H1:Hp}{acc:Addr}{Qr:Hp->Prop}(Pv:Nat->LUz->St->Hp->Prop)(h0:Pv 0 [] σ (upd H1 acc (.lst [])))
  (hs:∀i xs σ H,i<n->xs.length=i->H acc=some (.lst xs)->Pv i xs σ H->g (.int (lo+i)) σ H λ σ2 H2=>te σ2 H2 λ v H3=>cNx acc n Pv i σ2 v H3)
  (hd:∀xs σ H,xs.length=n->H acc=some (.lst xs)->Pv n xs σ H->Qr H) :
  ∃W:Nat->Nat->St->Hp->Prop,(∃m,W 0 m σ (upd H1 acc (.lst [])))/\∀i m σ1 H2,W i m σ1 H2 ->
   ((Itr lo n).stop i H2/\Qr H2)\/((Itr lo n).go i H2/\∀x H3,(Itr lo n).yld i H2 x H3->g x σ1 H3 λ σ4 H4=>te σ4 H4 λ v H5=>∃xs,H5 acc=some (.lst xs)/\xs.length<sizeLine/\∃m',m'<m/\W (i+1) m' σ4 (upd H5 acc (.lst (xs++[v])))):=by
 refine⟨cW acc n Pv,⟨n,Nat.zero_le _,rfl,[],rfl,Ac,h0⟩,?_⟩;rintro i m σ1 H2 ⟨hi,rfl,xs,hl,ha,hp⟩;rcases Nat.lt_or_ge i n with h|h
 .refine .inr ⟨h,?_⟩;rintro x H3 ⟨rfl,rfl⟩;exact hs i xs σ1 H3 h hl ha hp
 .have e:i=n:=Nat.le_antisymm hi h;subst e;exact .inl ⟨Nat.le_refl _,hd xs σ1 H2 hl ha hp⟩
theorem Jc{K:Frag}{a:Addr}{ys:LUz}{g:TG}{te:TE}{σ:St}{H1:Hp}{acc:Addr}{Qr:Hp->Prop}(Pv:Nat->LUz->St->Hp->Prop)(h0:Pv 0 [] σ (upd H1 acc (.lst [])))
  (hq:∀i xs σ H,i<=ys.length->H acc=some (.lst xs)->Pv i xs σ H->SqL K H a ys)
  (hs:∀i x xs σ H,ys[i]?=some x->i<ys.length->xs.length=i->H acc=some (.lst xs)->Pv i xs σ H->g x σ H λ σ2 H2=>te σ2 H2 λ v H3=>cNx acc ys.length Pv i σ2 v H3)
  (hd:∀xs σ H,xs.length=ys.length->H acc=some (.lst xs)->Pv ys.length xs σ H->Qr H) :
  ∃W:Nat->Nat->St->Hp->Prop,(∃m,W 0 m σ (upd H1 acc (.lst [])))/\∀i m σ1 H2,W i m σ1 H2 ->
   ((Itl K a).stop i H2/\Qr H2)\/((Itl K a).go i H2/\∀x H3,(Itl K a).yld i H2 x H3->g x σ1 H3 λ σ4 H4=>te σ4 H4 λ v H5=>∃xs,H5 acc=some (.lst xs)/\xs.length<sizeLine/\∃m',m'<m/\W (i+1) m' σ4 (upd H5 acc (.lst (xs++[v])))):=by
 refine⟨cW acc ys.length Pv,⟨ys.length,Nat.zero_le _,rfl,[],rfl,Ac,h0⟩,?_⟩;rintro i m σ1 H2 ⟨hi,rfl,xs,hl,ha,hp⟩;have hsq:=hq i xs σ1 H2 hi ha hp;rcases Nat.lt_or_ge i ys.length with h|h
 .refine .inr ⟨⟨ys,ys[i],hsq,List.getElem?_eq_getElem h⟩,?_⟩;rintro x H3 ⟨rfl,hx⟩;exact hs i x xs σ1 H3 (hx ys hsq) h hl ha hp
 .have e:i=ys.length:=Nat.le_antisymm hi h;subst e;exact .inl ⟨⟨ys,hsq,Nat.le_refl _⟩,hd xs σ1 H2 hl ha hp⟩
theorem Qh{K:Frag}{a:Addr}{ys:LUz}{g:TG}{te:TE}{σ:St}{H1:Hp}{acc:Addr}{Qr:Hp->Prop}(Pv:Nat->LUz->St->Hp->Prop)(h0:Pv 0 [] σ (upd H1 acc (.lst [])))
  (hq:∀i xs σ H,i<=ys.length->H acc=some (.lst xs)->Pv i xs σ H->SqT K H a ys)
  (hs:∀i x xs σ H,ys[i]?=some x->i<ys.length->xs.length=i->H acc=some (.lst xs)->Pv i xs σ H->g x σ H λ σ2 H2=>te σ2 H2 λ v H3=>cNx acc ys.length Pv i σ2 v H3)
  (hd:∀xs σ H,xs.length=ys.length->H acc=some (.lst xs)->Pv ys.length xs σ H->Qr H) :
  ∃W:Nat->Nat->St->Hp->Prop,(∃m,W 0 m σ (upd H1 acc (.lst [])))/\∀i m σ1 H2,W i m σ1 H2 ->
   ((Itt K a).stop i H2/\Qr H2)\/((Itt K a).go i H2/\∀x H3,(Itt K a).yld i H2 x H3->g x σ1 H3 λ σ4 H4=>te σ4 H4 λ v H5=>∃xs,H5 acc=some (.lst xs)/\xs.length<sizeLine/\∃m',m'<m/\W (i+1) m' σ4 (upd H5 acc (.lst (xs++[v])))):=by
 refine⟨cW acc ys.length Pv,⟨ys.length,Nat.zero_le _,rfl,[],rfl,Ac,h0⟩,?_⟩;rintro i m σ1 H2 ⟨hi,rfl,xs,hl,ha,hp⟩;have hsq:=hq i xs σ1 H2 hi ha hp;rcases Nat.lt_or_ge i ys.length with h|h
 .refine .inr ⟨⟨ys,ys[i],hsq,List.getElem?_eq_getElem h⟩,?_⟩;rintro x H3 ⟨rfl,hx⟩;exact hs i x xs σ1 H3 (hx ys hsq) h hl ha hp
 .have e:i=ys.length:=Nat.le_antisymm hi h;subst e;exact .inl ⟨⟨ys,hsq,Nat.le_refl _⟩,hd xs σ1 H2 hl ha hp⟩
section
variable{cmp:Nat->Nat->(Bool->Shared->Prop)->Shared->Prop}{key:Nat->Int}{N:Nat}{s:Shared}
variable(hcmp:∀i j (C:Bool->Shared->Prop),i<N->j<N->C (decide (key i<key j)) s->cmp i j C s)
include hcmp
end
section
variable{prog:Program}{w:World}{A:Around}{E:VPz}{s:Shared}
theorem FX{fin:Bool}{Q:Bool->Shared->Prop}(hf:fin=false):∀{vs ws:LWz}{ns ms:List Int}(i:Nat),IntsAre vs ns->IntsAre ws ms->ns.length=ms.length->Q (HT.lexLt ns ms) s->KatLex prog w A true fin Q (vs.zip ws) i s
 |_,_,_,_,i,.nil,.nil,_,hq=>by rw[HT.lexLt_nil_nil]at hq;rw[hf];exact hq
 |_,_,_,_,i,.cons n t hn,.cons m u hm,hl,hq=>by
  rw[List.zip_cons_cons];rw[HT.lexLt_cons]at hq;refine kat_cons (wpAny_eqBool_int (kat_go (λ e=>kat_yes ?_) λ e=>kat_no ?_))
  .have e':n=m:=by simpa using e
   rw[if_pos e']at hq;exact FX hf (i+1) hn hm (by simpa using hl) hq
  .have e':¬n=m:=by simpa using e
   rw[if_neg e']at hq;by_cases hi:i=0
   .subst hi;exact oneLt_int hq
   .have hb:(true&&i==0)=false:=by simp[hi]
    rw[hb];exact kat_one _ _ (lt_int hq)
end
section
variable{X:Cx}
theorem F2:∀{ts:List Addr}{its:LWz},Vals (ts.map V.ref) its->its=ts.map Value.ref
 |[],_,.nil=>rfl
 |a::r,_,.cons h t=>by
  cases(show _=Value.ref a from h);rw[List.map_cons,F2 t]
theorem GD:∀(ts:List Addr),Vals (ts.map V.ref) (ts.map Value.ref)
 |[]=>.nil
 |a::r=>.cons rfl (GD r)
theorem Hh{h:Heap}{m:Nat}:∀{ts:List (Addr×List Int)},(∀t∈ts,t.2.length=m+1/\∃items,IsTup h t.1 items/\IntsAre items.toList t.2)->∃fs,KatTups h (ts.map λ t=>Value.ref t.1) fs/\fs.length=ts.length/\∀v∈fs,∃n tk,v=Value.int n tk
 |[],_=>⟨[],KatTups.nil,rfl,λ v hv=>nomatch hv⟩
 |t::r,hh=>by
  obtain⟨fs,h1,h2,h3⟩:=Hh (ts:=r) λ u hu=>hh u (List.mem_cons_of_mem _ hu);obtain⟨hl,items,⟨o,ho,hc,n,hd⟩,hi⟩:=hh t List.mem_cons_self;obtain⟨x,tk,z,e⟩:∃(n:Int)(tk:Tok)(zs:LWz),items.toList=Value.int n tk::zs:=by
   generalize items.toList=vs at hi;generalize t.2=ns at hi hl;cases hi with
   |nil=>simp at hl
   |cons n tk hz=>exact⟨n,tk,_,rfl⟩
  have hf:items[0]?=some (Value.int x tk):=by
   rw[<-Array.getElem?_toList,e];rfl
  exact⟨_,KatTups.cons ho hc hd hf h1,by simp[h2],λ v hv=>by
   rcases List.mem_cons.mp hv with rfl|hv
   .exact⟨x,tk,rfl⟩
   .exact h3 v hv⟩
end
section
variable{κ:Type}[DecidableEq κ]
def Cg(kvs:List (κ×V))(k:κ):Option V:=(kvs.find? λ kv=>decide (kv.1=k)).map (·.2)
def D3(kvs:List (κ×V))(k:κ)(v:V):List (κ×V) :=
 if (kvs.any λ kv=>decide (kv.1=k))=true then kvs.map (λ kv=>if kv.1=k then (kv.1,v) else kv) else kvs++[(k,v)]
theorem Bq{p:κ×V}{r:List (κ×V)}{k:κ}(e:p.1=k):Cg (p::r) k=some p.2:=by simp[Cg,List.find?_cons,e]
theorem Br{p:κ×V}{r:List (κ×V)}{k:κ}(e:¬p.1=k):Cg (p::r) k=Cg r k:=by simp[Cg,List.find?_cons,e]
theorem ES(k:κ):∀kvs:List (κ×V),(kvs.any λ kv=>decide (kv.1=k))=(Cg kvs k).isSome
 |[]=>rfl
 |p::r=>by
  rw[List.any_cons];by_cases e:p.1=k
  .simp only[Bq e,decide_eq_true e,Bool.true_or,Option.isSome_some]
  .rw[Br e,decide_eq_false e,Bool.false_or];exact ES k r
theorem Ky(k j:κ)(y:V):∀kvs:List (κ×V),Cg (kvs.map λ kv=>if kv.1=k then (kv.1,y) else kv) j=(Cg kvs j).map λ x=>if j=k then y else x
 |[]=>rfl
 |p::r=>by
  have ih:=Ky k j y r;rw[List.map_cons];by_cases h:p.1=k
  .rw[if_pos h];by_cases e:p.1=j
   .rw[Bq (p:=(p.1,y)) e,Bq e,Option.map_some,if_pos (e.symm.trans h)]
   .rw[Br (p:=(p.1,y)) e,Br e,ih]
  .rw[if_neg h];by_cases e:p.1=j
   .rw[Bq (p:=p) e,Bq e,Option.map_some,if_neg (λ z=>h (e.trans z))]
   .rw[Br (p:=p) e,Br e,ih]
theorem IB(k j:κ)(y:V):∀kvs:List (κ×V),Cg kvs k=none->Cg (kvs++[(k,y)]) j=if j=k then some y else Cg kvs j
 |[],_=>by
  by_cases e:k=j
  .rw[if_pos e.symm];exact Bq (p:=(k,y)) e
  .rw[if_neg (λ z=>e z.symm)];exact Br (p:=(k,y)) e
 |p::r,hn=>by
  rw[List.cons_append];have hk:¬p.1=k:=λ z=>by rw[Bq z]at hn;cases hn
  rw[Br hk]at hn;have ih:=IB k j y r hn;by_cases e:p.1=j
  .rw[Bq e,Bq e,if_neg (λ z=>hk (e.trans z))]
  .rw[Br e,Br e,ih]
theorem OS(kvs:List (κ×V))(k j:κ)(y:V):Cg (D3 kvs k y) j=if j=k then some y else Cg kvs j:=by
 unfold D3;by_cases a:(kvs.any λ kv=>decide (kv.1=k))=true
 .rw[if_pos a,Ky];rw[ES]at a;by_cases e:j=k
  .obtain⟨x,hx⟩:=Option.isSome_iff_exists.mp a;rw[if_pos e,e,hx,Option.map_some,if_pos rfl]
  .rw[if_neg e];cases Cg kvs j with
   |none=>rfl
   |some x=>rw[Option.map_some,if_neg e]
 .rw[if_neg a];refine IB k j y kvs ?_;rw[ES]at a;cases q:Cg kvs k with
  |none=>rfl
  |some x=>rw[q]at a;exact(a rfl).elim
theorem FV(kvs:List (κ×V))(k:κ)(v:V):(D3 kvs k v).length<=kvs.length+1:=by
 unfold D3;split
 .rw[List.length_map];lia
 .rw[List.length_append,List.length_cons,List.length_nil];lia
theorem RelO.isSome_eq{o:Option V}{u:Option Value}(r:RelO o u):o.isSome=u.isSome:=by
 cases o with
 |none=>cases u with
  |none=>rfl
  |some _=>exact(show False from r).elim
 |some _=>cases u with
  |none=>exact(show False from r).elim
  |some _=>rfl
theorem KV.val{kvs:List (κ×V)}{vs:List (κ×Value)}(r:KV kvs vs)(k:κ):RelO (Cg kvs k) (valueAt vs k):=by
 unfold KV at r
 induction r with
 |nil=>exact True.intro
 |@cons p q ps qs h t ih =>
  obtain⟨h1,h2⟩:=h;by_cases e:p.1=k
  .have e':q.1=k:=h1.symm.trans e;have b:valueAt (q::qs) k=some q.2:=by simp[valueAt,List.find?_cons,e']
   rw[Bq e,b];exact h2
  .have e':¬q.1=k:=λ z=>e (h1.trans z);have b:valueAt (q::qs) k=valueAt qs k:=by simp[valueAt,List.find?_cons,e']
   rw[Br e,b];exact ih
theorem KV.any{kvs:List (κ×V)}{vs:List (κ×Value)}(r:KV kvs vs)(k:κ):(kvs.any λ kv=>decide (kv.1=k))=vs.any λ kv=>decide (kv.1=k):=by
 unfold KV at r
 induction r with
 |nil=>rfl
 |cons h t ih=>rw[List.any_cons,List.any_cons,ih,h.1]
theorem KV.repl{kvs:List (κ×V)}{vs:List (κ×Value)}(r:KV kvs vs)(k:κ){y:V}{u:Value}(ry:RelV y u) :
  KV (kvs.map λ kv=>if kv.1=k then (kv.1,y) else kv) (vs.map λ kv=>if kv.1=k then (kv.1,u) else kv):=by
 unfold KV at r |-
 induction r with
 |nil=>exact .nil
 |@cons p q ps qs h t ih =>
  rw[List.map_cons,List.map_cons];refine .cons ?_ ih;obtain⟨h1,h2⟩:=h;by_cases e:p.1=k
  .rw[if_pos e,if_pos (h1.symm.trans e)];exact⟨h1,ry⟩
  .rw[if_neg e,if_neg (λ z=>e (h1.trans z))];exact⟨h1,h2⟩
theorem KV.put{kvs:List (κ×V)}{vs:List (κ×Value)}(r:KV kvs vs)(k:κ){y:V}{u:Value}(ry:RelV y u):KV (D3 kvs k y) (stored vs k u):=by
 unfold D3 stored;rw[r.any k];by_cases e:(vs.any λ kv=>decide (kv.1=k))=true
 .rw[if_pos e,if_pos e];exact r.repl k ry
 .rw[if_neg e,if_neg e];exact Paired.snoc r ⟨rfl,ry⟩
theorem KV.length{kvs:List (κ×V)}{vs:List (κ×Value)}(r:KV kvs vs):kvs.length=vs.length:=Paired.length r
end
theorem PD{P:Program}{w:World}{k:Key}{u:Value}(r:RelV (kV k) u):(Bf P w).is k u=true:=by
 cases k with
 |inl i=>obtain⟨t,e⟩:=(show ∃t,u=Value.int i t from r);subst e;exact Lh P w i t
 |inr x=>obtain⟨t,e⟩:=(show ∃t,u=Value.str x t from r);subst e;exact Lg P w x t
theorem IV{P:Program}{w:World}:∀{ks:List Key}{us:LWz},Vals (ks.map kV) us->ItemsAre (Bf P w) ks us
 |[],_,r=>by rw[List.map_nil]at r;cases r;exact .nil
 |k::ks,_,r=>by
  rw[List.map_cons]at r;cases r with
  |cons h t=>exact .cons (PD h) (IV t)
abbrev KT(H:Hp):LKz->List (List Key×Addr×Value)->Prop:=Paired λ p q=>p.1=q.1/\H q.2.1=some (.tup (p.1.map kV))/\RelV p.2 q.2.2
theorem KT.val{H:Hp}{kvs:LKz}{xs:List (List Key×Addr×Value)}(r:KT H kvs xs)(k:List Key):RelO (Cg kvs k) ((atKey xs k).map (·.2)):=by
 induction r with
 |nil=>exact True.intro
 |@cons p q ps qs h t ih =>
  obtain⟨h1,_,h2⟩:=h;by_cases e:p.1=k
  .have e':q.1=k:=h1.symm.trans e;have b:atKey (q::qs) k=some q.2:=by simp[atKey,List.find?_cons,e']
   rw[Bq e,b];exact h2
  .have e':¬q.1=k:=λ z=>e (h1.trans z);have b:atKey (q::qs) k=atKey qs k:=by simp[atKey,List.find?_cons,e']
   rw[Br e,b];exact ih
theorem KT.repl{H:Hp}{kvs:LKz}{xs:List (List Key×Addr×Value)}(r:KT H kvs xs)(k:List Key){y:V}{u:Value}(ry:RelV y u) :
  KT H (kvs.map λ kv=>if kv.1=k then (kv.1,y) else kv) (xs.map (putAt k u)):=by
 induction r with
 |nil=>exact .nil
 |@cons p q ps qs h t ih =>
  rw[List.map_cons,List.map_cons];refine .cons ?_ ih;obtain⟨h1,h2,h3⟩:=h;unfold putAt;by_cases e:p.1=k
  .rw[if_pos e,if_pos (h1.symm.trans e)];exact⟨h1,h2,ry⟩
  .rw[if_neg e,if_neg (λ z=>e (h1.trans z))];exact⟨h1,h2,h3⟩
theorem KT.put{H:Hp}{kvs:LKz}{xs:List (List Key×Addr×Value)}(r:KT H kvs xs)(k:List Key){b:Addr}{y:V}{u:Value}(hb:H b=some (.tup (k.map kV)))(ry:RelV y u) :
  KT H (D3 kvs k y) (storedH xs k b u):=by
 have e:(kvs.any λ kv=>decide (kv.1=k))=(atKey xs k).isSome:=by
  rw[ES,(r.val k).isSome_eq,Option.isSome_map]
 unfold D3 storedH;rw[e];by_cases q:(atKey xs k).isSome=true
 .rw[if_pos q,if_pos q];exact r.repl k ry
 .rw[if_neg q,if_neg q];exact Paired.snoc r ⟨rfl,hb,ry⟩
theorem KT.keeps{H H':Hp}{kvs:LKz}{xs:List (List Key×Addr×Value)}(r:KT H kvs xs)(ht:∀b ys,H b=some (.tup ys)->H' b=some (.tup ys)):KT H' kvs xs :=
 Paired.mapP r λ_ _ z=>⟨z.1,ht _ _ z.2.1,z.2.2⟩
section
variable{P:Program}{w:World}{H:Hp}{h:Heap}{a:Addr}
theorem RH{u:HO}(ok:HOk P w H h)(e:Rd H a u):ObjOk P w H h a u:=e.ok ok
theorem N5{kvs:List (Key×V)}(ok:HOk P w H h)(e:Rd H a (.dK kvs)):kvs.length<=sizeLine/\(a==sysModules)=false/\∃vs,KV kvs vs/\h.DictOf (Bf P w) a vs :=
 show ObjOk P w H h a (.dK kvs) from RH ok e
theorem TW{kvs:List (Key×V)}(ok:HOk P w H h)(e:H a=some (.dK kvs)):kvs.length<=sizeLine/\(a==sysModules)=false/\∃vs,KV kvs vs/\h.DictOf (Bf P w) a vs:=N5 ok (.inl e)
theorem FD{ks:List Key}(ok:HOk P w H h)(e:H a=some (.tup (ks.map kV))):(tupleKind (Bf P w)).is h ks a:=by
 obtain⟨_,its,r,o,h1,h2,n,h3⟩:=(show ObjOk P w H h a (.tup (ks.map kV)) from ok a _ e);exact⟨o,its.toArray,n,h1,h2,h3,by simpa using IV r⟩
theorem N4{kvs:LKz}(ok:HOk P w H h)(e:Rd H a (.dT kvs)):kvs.length<=sizeLine/\(a==sysModules)=false /\
  ∃xs,KT H kvs xs/\h.DictOfH (tupleKind (Bf P w)) a xs:=by
 obtain⟨z,y,xs,r,o,es,ep,h1,h2,h3,h4,h5⟩:=(show ObjOk P w H h a (.dT kvs) from RH ok e);refine⟨z,y,xs,r,o,es,ep,h1,h2,h3,h4,λ x hx=>?_,h5⟩;have all:∀{l:LKz}{m:List (List Key×Addr×Value)},KT H l m->∀x∈m,(tupleKind (Bf P w)).is h x.1 x.2.1:=by
  intro l m q
  induction q with
  |nil=>intro x hx;exact nomatch hx
  |@cons p q ps qs hq t ih =>
   intro x hx;rcases List.mem_cons.mp hx with e|hx
   .subst e;exact FD ok (by rw[<-hq.1];exact hq.2.1)
   .exact ih x hx
 exact all r x hx
theorem TV{kvs:LKz}(ok:HOk P w H h)(e:H a=some (.dT kvs)):kvs.length<=sizeLine/\(a==sysModules)=false /\
  ∃xs,KT H kvs xs/\h.DictOfH (tupleKind (Bf P w)) a xs:=N4 ok (.inl e)
end
def DGet(H:Hp)(a:Addr)(y:V)(r:Option V):Prop :=
 (∃kvs k,Rd H a (.dK kvs)/\y=kV k/\r=Cg kvs k)\/∃kvs k b,Rd H a (.dT kvs)/\y=.ref b/\H b=some (.tup (k.map kV))/\r=Cg kvs k
def DPut(H:Hp)(a:Addr)(y v:V)(H':Hp):Prop :=
 (∃kvs k,H a=some (.dK kvs)/\y=kV k/\kvs.length<sizeLine/\H'=upd H a (.dK (D3 kvs k v))) \/
 ∃kvs k b,H a=some (.dT kvs)/\y=.ref b/\H b=some (.tup (k.map kV))/\kvs.length<sizeLine/\H'=upd H a (.dT (D3 kvs k v))
theorem DGet.t{H:Hp}{a b:Addr}{kvs:LKz}{k:List Key}(e:H a=some (.dT kvs))(eb:H b=some (.tup (k.map kV))):DGet H a (.ref b) (Cg kvs k):=.inr ⟨kvs,k,b,.inl e,rfl,eb,rfl⟩
theorem DPut.t{H:Hp}{a b:Addr}{kvs:LKz}{k:List Key}{v:V}(e:H a=some (.dT kvs))(eb:H b=some (.tup (k.map kV)))(hl:kvs.length<sizeLine) :
  DPut H a (.ref b) v (upd H a (.dT (D3 kvs k v))):=.inr ⟨kvs,k,b,e,rfl,eb,hl,rfl⟩
section
variable{X:Cx}{pins:PNz}{σ:St}{H:Hp}{s:Shared}{a:Addr}{y v:V}{u r:Value}{o:Option V}{A:Around}{E:VPz}
theorem Inv.big(I:Inv X pins σ H s):sysModules<s.heap.objs.size:=by
 have h:mainGlobals<s.heap.objs.size:=(I.mod.glob.keeps I.bk).lt;exact Nat.lt_trans (by decide) h
theorem O6{Q:VPz}(hu:A.units+1<cLine)(I:Inv X pins σ H s)(g:DGet H a y (some v))(ry:RelV y u)(h:∀w' s',Inv X pins σ H s'->RelV v w'->Q w' s') :
  wpAny (model X.prog X.w) A (getItem (.ref a) u) Q E s:=by
 rcases g with ⟨kvs,k,e,ey,l⟩|⟨kvs,k,b,e,ey,eb,l⟩
 .subst ey;obtain⟨z,hd,vs,rel,dd⟩:=N5 I.hok e;obtain⟨w',hw,rw'⟩:=RelO.some_of (v:=v) (o:=valueAt vs k) (by rw[l];exact rel.val k);exact wpAny_getItem_of (PD ry) dd.mapOf hw (h w' _ (I.tok _) rw')
 .subst ey;cases(show u=Value.ref b from ry);obtain⟨z,hd,xs,rel,dd⟩:=N4 I.hok e;obtain⟨w',hw,rw'⟩:=RelO.some_of (v:=v) (o:=(atKey xs k).map (·.2)) (by rw[l];exact rel.val k);obtain⟨p,hp,hp2⟩:=Option.map_eq_some_iff.mp hw;refine wpAny_getItem_heap (tupleKind_room_in1 hu) (FD I.hok eb) dd hp ?_;rw[hp2];exact h w' _ (I.tok _) rw'
theorem N9{h':Heap}{t':Nat}{ob:HO}(I:Inv X pins σ H s)(mu:Mut (H a))(hs:Heap.SameBut a s.heap h')(he:∃q,h'.get? a=some q)(new:ObjOk X.prog X.w (upd H a ob) h' a ob) :
  Inv X pins σ (upd H a ob) { s with heap:=h',toks:=t' } :=
 I.write (x:=a) (e:=a) mu (.inl rfl) (λ b q hb z=>(hs.2 b hb).trans z) he new
theorem SH{P:Program}{w:World}{H':Hp}{h':Heap}{kvs:List (Key×V)}{vs:List (Key×Value)}(z:kvs.length<=sizeLine)(hd:(a==sysModules)=false)(rel:KV kvs vs)(dd:h'.DictOf (Bf P w) a vs) :
  ObjOk P w H' h' a (.dK kvs):=⟨z,hd,vs,rel,dd⟩
theorem O5{H':Hp}{Q:Unit->Shared->Prop}(hu:A.units+1<cLine)(I:Inv X pins σ H s)(g:DPut H a y v H')(ry:RelV y u)(rv:RelV v r)(h:∀s',Inv X pins σ H' s'->Q () s') :
  wpAny (model X.prog X.w) A (setItem (.ref a) u r) Q E s:=by
 rcases g with ⟨kvs,k,e,ey,l,eH⟩|⟨kvs,k,b,e,ey,eb,l,eH⟩
 .subst ey eH;obtain⟨z,hd,vs,rel,dd⟩:=TW I.hok e;have hz:vs.length<=sizeLine:=by rw[<-rel.length];exact z
  have hl:(D3 kvs k v).length<=sizeLine:=by have:=FV kvs k v;lia
  refine wpAny_setItem_pairs (hsz:=hz) (PD ry) dd λ h' dd' hs=>h _ ?_;have he:∃q,h'.get? a=some q:=let ⟨q,_,_,hq,_⟩:=dd';⟨q,hq⟩;exact N9 I (by rw[e];exact True.intro) hs he (SH hl hd (rel.put k rv) dd')
 .subst ey eH;cases(show u=Value.ref b from ry);obtain⟨z,hd,xs,rel,dd⟩:=TV I.hok e;have hz:xs.length<=sizeLine:=by rw[<-Paired.length rel];exact z
  have hl:(D3 kvs k v).length<=sizeLine:=by have:=FV kvs k v;lia
  refine wpAny_setItem_heap (hsz:=hz) (tupleKind_room_in1 hu) (FD I.hok eb) dd λ h' dd' hs=>h _ ?_;obtain⟨q,es,ep,hq,h2,h3,h4,_,h5⟩:=dd';refine N9 I (by rw[e];exact True.intro) hs ⟨q,hq⟩ ⟨hl,hd,_,(rel.put k eb rv).keeps λ c ys ec=>?_,q,es,ep,hq,h2,h3,h4,h5⟩;rw[Ai (Nr ec e (λ z=>nomatch z))];exact ec
end
def Um(i:Expr):Prop:=∀ov iv,subscripted i false ov iv=operate [ov,iv] (getItem ov iv)
theorem Q8{prog:Program}{w:World}{A:Around}{E:VPz}{s:Shared}{env:Env}{value slice:Expr}{pos:Pos}{T id:String}{Q:VPz}
  (hl:typeLookup (.type T) "__getitem__"=pure (some (.builtin id))) (hs:Um slice)
  (h:wpAny (model prog w) A (eval value env) (λ o s₁=>wpAny (model prog w) A (eval slice env) (λ i s₂=>s₂.TypeIs o T/\wpAny (model prog w) A (getItem o i) Q E s₂) E s₁) E s) :
  wpAny (model prog w) A (eval (.Subscript value slice pos) env) Q E s:=by
 refine Subscript_ (wpAny_mono h (λ o s₁ h₁=>wpAny_mono h₁ (λ i s₂ h₂=>?_) λ_ _ x=>x) λ_ _ x=>x);obtain⟨hT,h₂⟩:=h₂;unfold subscriptTail;refine wpAny_bind ?_;rw[getitemInPython_of_ne hT.not_modules];refine wpAny_bind (wpAny_specialOf hT hl ?_);have fin:wpAny (model prog w) A (subscripted slice false o i) (λ r s₃=>wpAny (model prog w) A (letTemporaryGo value o r >>= λ_=>pure r) Q E s₃) E s₂:=by
  rw[hs o i];exact wpAny_operating (wpAny_mono h₂ (λ r s₃ h₃=>wpAny_bind (wpAny_letTemporaryGo (wpAny_pure h₃))) λ_ _ x=>x)
 first
  |exact wpAny_pure (wpAny_bind fin)
  |exact wpAny_bind (wpAny_pure (wpAny_bind fin))
  |exact wpAny_bind fin
theorem Lx{X:Cx}{pins:PNz}{σ:St}{H:Hp}{s:Shared}{a:Addr}{y:V}{o:Option V}(I:Inv X pins σ H s)(g:DGet H a y o):s.TypeIs (.ref a) "dict":=by
 rcases g with ⟨kvs,k,e,_,_⟩|⟨kvs,k,b,e,_,_,_⟩
 .obtain⟨_,_,vs,_,dd⟩:=N5 I.hok e;exact dd.typeIs
 .obtain⟨_,_,xs,_,dd⟩:=N4 I.hok e;exact dd.typeIs
def RC(td ty:TE):TE:=λ σ H Q=>td σ H λ x H1=>ty σ H1 λ y H2=>∃a v,x=.ref a/\DGet H2 a y (some v)/\Q v H2
def To(td ty tv:TE):TS:=λ D σ H=>tv σ H λ v H1=>td σ H1 λ x H2=>ty σ H2 λ y H3=>∃a H4,x=.ref a/\DPut H3 a y v H4/\D.nx σ H4
section
variable{X:Cx}{o i e value:Expr}{pos pos' tpos:Pos}{td ty tv:TE}
theorem JJ(hu:X.A.units+1<cLine)(ho:PE X o td)(hi:PE X i ty)(hs:Um i):PE X (.Subscript o i pos) (RC td ty):=by
 intro pins s σ H Q I h;refine Q8 PySem.F.slot_dict_getitem.lookup hs (thn (ho pins s σ H _ I h) λ u s1 hz_=>?_);obtain⟨x,H1,I1,rx,q1⟩:=hz_;refine thn (hi pins s1 σ H1 _ I1 q1) λ iv s2 hz_=>?_;obtain⟨y,H2,I2,ry,a,v,ex,g,q2⟩:=hz_;subst ex;obtain rfl:u=Value.ref a:=rx;exact⟨Lx I2 g,O6 hu I2 g ry λ w' s3 I3 rw'=>⟨v,H2,I3,rw',q2⟩⟩
theorem JD(hu:X.A.units+1<cLine)(ho:PE X o td)(hi:PE X i ty)(hv:PE X value tv)(hs:swapsWith value (some (.Subscript o i pos')) pos.line X.env=pure false) :
  PS X (.Assign [.Subscript o i pos'] value pos) (To td ty tv):=by
 intro pins s σ H D I h;refine wpAny_Assign_Subscript (thn (hv pins s σ H _ I h) λ r s1 hz_=>?_) hs;obtain⟨v,H1,I1,rv,q1⟩:=hz_;refine thn (ho pins s1 σ H1 _ I1 q1) λ u s2 hz_=>?_;obtain⟨x,H2,I2,rx,q2⟩:=hz_;refine thn (hi pins s2 σ H2 _ I2 q2) λ iv s3 hz_=>?_;obtain⟨y,H3,I3,ry,a,H4,ex,g,q3⟩:=hz_;subst ex;obtain rfl:u=Value.ref a:=rx;exact O5 hu I3 g ry rv λ s4 I4=>⟨σ,H4,I4,q3⟩
end
theorem Qc{P:Program}{w:World}{H:Hp}(h:Heap)(hb:sysModules<h.objs.size):ObjOk P w H (h.push { cls:=.type "dict",data:=.dict #[] }) h.objs.size (.dT []) :=
 ⟨Nat.zero_le _,beq_eq_false_iff_ne.mpr (Ne.symm (Nat.ne_of_lt hb)),[],.nil,_,#[],0,Heap.get?_push_size _ rfl,⟨rfl,rfl,rfl⟩,rfl,rfl,List.nodup_nil⟩
def Sl:TE:=λ_ H Q=>∀p,H p=none->Q (.ref p) (upd H p (.dT []))
section
variable{X:Cx}{pos:Pos}
theorem GG:PE X (.Dict [] [] pos) Sl:=λ pins s σ H Q I h =>
 wpAny_Dict_empty ⟨.ref s.heap.objs.size,_,I.laid (a:=s.heap.objs.size) (o:=.dT []) (t':=s.toks) (λ_ _ q=>Heap.get?_push_of_some _ q) (Nat.le_refl _) (Qc s.heap I.big),rfl,h _ (I.hok.fresh (Nat.le_refl _))⟩
end
def IsD(H:Hp)(a:Addr):Prop:=(∃kvs,Rd H a (.dK kvs))\/∃kvs,Rd H a (.dT kvs)
theorem SB{X:Cx}{pins:PNz}{σ:St}{H:Hp}{s:Shared}{a:Addr}(I:Inv X pins σ H s)(d:IsD H a) :
  s.TypeIs (.ref a) "dict"/\(∀b,Value.ref a=.ref b->∃ob,s.heap.get? b=some ob/\ob.dict=none)/\(a==sysModules)=false:=by
 rcases d with ⟨kvs,e⟩|⟨kvs,e⟩
 .obtain⟨_,hd,vs,_,dd⟩:=N5 I.hok e;refine⟨dd.typeIs,λ b q=>?_,hd⟩;cases q;obtain⟨ob,_,_,h1,h2,_⟩:=dd;exact⟨ob,h1,h2.2.1⟩
 .obtain⟨_,hd,xs,_,dd⟩:=N4 I.hok e;refine⟨dd.typeIs,λ b q=>?_,hd⟩;cases q;obtain⟨ob,_,_,h1,h2,_⟩:=dd;exact⟨ob,h1,h2.2.1⟩
def Ite(K:Frag)(a:Addr):It :=
 ⟨λ i H=>∃xs x,SqL K H a xs/\xs[i]?=some x,λ i H y H'=>∃t x,(∀xs,SqL K H a xs->xs[i]?=some x)/\y=.ref t/\H t=none/\H'=upd H t (.tup [.int i,x]),λ i H=>∃xs,SqL K H a xs/\xs.length<=i⟩
theorem IZ{X:Cx}{pins:PNz}{σ:St}{H:Hp}{s:Shared}{h':Heap}{e it:Addr}{t':Nat}{ys:LUz}(I:Inv X pins σ H s)(fe:EN X pins H e)(fi:EN X pins H it)
  (k:∀b o,b≠e->b≠it->s.heap.get? b=some o->h'.get? b=some o) (he:∃o,h'.get? e=some o) (hi:∃o,h'.get? it=some o)
  (new:ObjOk X.prog X.w (upd H s.heap.objs.size (.tup ys)) h' s.heap.objs.size (.tup ys)) :
  Inv X pins σ (upd H s.heap.objs.size (.tup ys)) { s with heap:=h',toks:=t' }:=by
 have hn:H s.heap.objs.size=none:=I.hok.fresh (Nat.le_refl _);obtain⟨e0,e1,e2,e3,e4,e5⟩:=fe;obtain⟨i0,i1,i2,i3,i4,i5⟩:=fi;have nt:∀b u,H b=some u->b≠e/\b≠it:=λ b u q=>⟨λ z=>(by rw[z,e0]at q;cases q),λ z=>(by rw[z,i0]at q;cases q)⟩;have nc:∀b,b∉[e,it]->b≠e/\b≠it:=λ b hb=>⟨λ z=>hb (by simp[z]),λ z=>hb (by simp[z])⟩;have ne:∀b u,H b=some u->b≠s.heap.objs.size:=λ b u q=>Ah q hn;refine I.step (g':=s.gens) (d':=s.drawn) (ch:=[e,it]) (λ b hb=>?_) (λ b o _ _ hc q _=>k b o (nc b hc).1 (nc b hc).2 q) (λ b o _ _ hc q _=>⟨o.slots,k b o (nc b hc).1 (nc b hc).2 q⟩)
  (λ b o _ q n=>by rw[Ai (Nat.ne_of_lt (Heap.lt_size q))];exact n) (λ b o hc q=>⟨o,k b o (nc b hc).1 (nc b hc).2 q⟩) (λ b xs q=>by rw[Ai (ne b _ q)];exact q) (λ b o u q=>by rw[Ai (ne b _ q)];exact q)
  (λ b ps q=>⟨#[],by rw[Ai (ne b _ q),q];simp⟩) (λ m hm=>?_) (λ b u q=>?_) I.bare
 .rcases List.mem_cons.mp hb with rfl|hb
  .exact⟨e3,e1,e4,e5⟩
  .rw[List.mem_singleton.mp hb];exact⟨i3,i1,i4,i5⟩
 .obtain⟨o,es,ep,ho,r⟩:=hm;exact⟨o,es,ep,k _ o (Ne.symm e1) (Ne.symm i1) ho,r⟩
 .by_cases hb:b=s.heap.objs.size
  .subst hb;rw[Ac]at q;cases q;exact new
  .rw[Ai hb]at q;refine(I.hok b u q).stay (λ c v hc z=>k c v ?_ ?_ z) (λ c z=>by rw[Ai (ne c _ z)];exact z) λ c xs z=>by rw[Ai (ne c _ z)];exact z
   .rcases hc with rfl|hc
    .exact(nt c u q).1
    .exact(nt c _ hc).1
   .rcases hc with rfl|hc
    .exact(nt c u q).2
    .exact(nt c _ hc).2
theorem NV{P:Program}{w:World}{K:Frag}{es:List Expr}{k:Nat}{pos:Pos}(a e it:Addr)(hei:e≠it) :
  MO P w K (.Tuple es k pos) (Ite K a) [e,it] e (λ i h=>(∃old,IsEnum h e it i old)/\h.IsListIter it a i) where
 mem:=by simp
 obj:=λ i h st b hb=>by
  obtain⟨⟨old,he⟩,⟨o,eo,c,d⟩⟩:=st;rcases List.mem_cons.mp hb with rfl|hb
  .exact⟨_,he,λ v z=>by
    have z':Data.fields _=Data.cell v:=z;cases z'⟩
  .rw[List.mem_singleton.mp hb];exact⟨o,eo,λ v z=>by rw[d]at z;cases z⟩
 keep:=λ i h h' st kk=>by
  obtain⟨⟨old,he⟩,st⟩:=st;exact⟨⟨old,kk e (by simp) _ he⟩,st.at λ o z=>kk it (by simp) o z⟩
 item:=by
  intro X hP hw hK hc i pins s σ H E I hf st hg;subst hP hw hK;obtain⟨⟨old,he⟩,st⟩:=st;obtain⟨xs,x,hq,hx⟩:=hg;obtain⟨its,rv,p,hz⟩:=I.list hq;obtain⟨u,hu,ru⟩:=rv.get hx;have fe:=hf e (by simp);have fi:=hf it (by simp);refine wpAny_pyNext_enum_item he st p.isList (x:=u) (by simpa using hu) hei λ h' he' st' ht hz' kk=>?_;refine⟨_,rfl,?_⟩;have ltE:e<s.heap.objs.size:=Heap.lt_size he;have hn:H s.heap.objs.size=none:=I.hok.fresh (Nat.le_refl _);have I1:Inv X pins σ (upd H s.heap.objs.size (.tup [.int i,x])) { s with heap:=h',toks:=s.toks+1 }:=by
   refine IZ I fe fi kk ⟨_,he'⟩ (let ⟨o,eo,_⟩:=st';⟨o,eo⟩) ⟨?_,[.int i s.toks,u],.cons ⟨_,rfl⟩ (.cons ru .nil),⟨_,ht,rfl,_,rfl⟩⟩;show 2<=sizeLine;decide
  refine wpAny_letOwnedTupleGo_enum (s:={ s with heap:=h',toks:=s.toks+1 }) he' λ h2 he2 sb=>?_;have neE:e≠s.heap.objs.size:=Nat.ne_of_lt ltE;have fe2:(upd H s.heap.objs.size (.tup [.int i,x])) e=none:=by rw[Ai neE];exact fe.1
  have I2:Inv X pins σ (upd H s.heap.objs.size (.tup [.int i,x])) { ({ s with heap:=h',toks:=s.toks+1 }:Shared) with heap:=h2,toks:=s.toks+1 } :=
   I1.turned (t':=s.toks+1) (it:=e) (λ b o hb z=>(sb.2 b hb).trans z) fe2 fe.2.1 fe.2.2.2.1 fe.2.2.2.2.1 fe.2.2.2.2.2
  obtain⟨oi,hoi,_⟩:=id st;have ltI:it<s.heap.objs.size:=Heap.lt_size hoi;refine⟨.ref s.heap.objs.size,_,I2,rfl,⟨_,x,λ ys hy=>by rw[I.list_inj hy hq];exact hx,rfl,hn,rfl⟩,⟨⟨u,?_⟩,?_⟩,λ b hb=>?_⟩
  .have e1:((i+1:Nat):Int)=(i:Int)+1:=by push_cast;rfl
   rw[e1];exact he2
  .exact st'.at λ o z=>(sb.2 it (Ne.symm hei)).trans z
  .rcases List.mem_cons.mp hb with rfl|hb
   .exact fe2
   .rw[List.mem_singleton.mp hb,Ai (Nat.ne_of_lt ltI)];exact fi.1
 done:=by
  intro X hP hw hK hc i pins s σ H E I hf st hg;subst hP hw hK;obtain⟨⟨old,he⟩,st⟩:=st;obtain⟨xs,hq,hx⟩:=hg;obtain⟨its,rv,p,hz⟩:=I.list hq;obtain⟨f0,f1,f2,f3,f4,f5⟩:=hf it (by simp);have hl:=rv.length;exact wpAny_pyNext_enum_end (I.ok.hd hc) he st p.isList (by simp;lia) λ h' eb=>⟨rfl,I.turned (t':=s.toks) (λ b o hb z=>eb b o hb z) f0 f1 f3 f4 f5⟩
 self:=λ_ _ _ _ _ st h=>by
  obtain⟨⟨old,he⟩,_⟩:=st;exact wpAny_pyIter_enum he h
def TM(K:Frag)(ta:TA):TI:=λ σ H R=>ta σ H λ vs H1=>∃a,vs=[.ref a]/\(∃xs,SqL K H1 a xs)/\R (Ite K a) H1
section
variable{X:Cx}
theorem JH{a:Expr}{es:List Expr}{k:Nat}{tpos:Pos}{ta:TA}{p pos:Pos}(hg:Gl X "enumerate")(hm:X.mg "enumerate"=none)(ha:PA X [a] ta)(hs:starEach [a] X.env=[(false,eval a X.env)]:=by rfl) :
  PI X (.Tuple es k tpos) (.Call (.Name "enumerate" p) [a] [] pos) (TM X.K ta):=by
 intro pins s σ H R I h;refine Call_ (D7 I hg hm boot_enumerate (PyProof.Rows.callWith_type1 (thn (ha pos pins s σ H _ I h) λ us s1 hz_=>?_) hs rfl));obtain⟨vs,H1,I1,r1,q1⟩:=hz_;obtain⟨b,e,⟨xs,hq⟩,q⟩:=q1;subst e;cases r1 with
 |cons r rr =>
  cases rr;cases r;obtain⟨its,rv,pl,hz⟩:=I1.list hq;refine call_enumerate_list pl.isList λ h' he hit hsz hk=>?_;have I2:Inv X pins σ H1 { s1 with heap:=h' }:=I1.kept (t':=s1.toks) hk;refine wpAny_pyIter_enum (s:={ s1 with heap:=h' }) he ?_;refine⟨s1.heap.objs.size+1,[s1.heap.objs.size+1,s1.heap.objs.size],_,_,H1,rfl,I2,NV b _ _ (Nat.succ_ne_self _),⟨⟨_,he⟩,hit⟩,λ c hc=>?_,q⟩;rcases List.mem_cons.mp hc with rfl|hc
  .exact I1.fpOk (Nat.le_succ _) (I1.hok.fresh (Nat.le_succ _))
  .rw[List.mem_singleton.mp hc];exact I1.fpOk (Nat.le_refl _) (I1.hok.fresh (Nat.le_refl _))
end
theorem Hk{K:Frag}{a:Addr}{xs:LUz}{g:TG}{tb:TS}{D:Eb}{σ:St}{H:Hp}(Pv:Nat->St->Hp->Prop)(h0:Pv 0 σ H)(hl:∀i σ H,i<=xs.length->Pv i σ H->SqL K H a xs)
  (hs:∀i x σ H t,xs[i]?=some x->Pv i σ H->H t=none->g (.ref t) σ (upd H t (.tup [.int i,x])) λ σ2 H2=>tb { D with nx:=Pv (i+1),ct:=Pv (i+1),bk:=D.nx } σ2 H2) (hd:∀σ H,Pv xs.length σ H->D.nx σ H) :
  ∃W:Nat->Nat->St->Hp->Prop,(∃m,W 0 m σ H)/\∀i m σ H,W i m σ H ->
   ((Ite K a).stop i H/\D.nx σ H)\/((Ite K a).go i H/\∃N:St->Hp->Prop,(∀σ' H',N σ' H'->∃m',m'<m/\W (i+1) m' σ' H')/\∀x H',(Ite K a).yld i H x H'->g x σ H' λ σ2 H2=>tb { D with nx:=N,ct:=N,bk:=D.nx } σ2 H2):=by
 refine⟨λ i m σ H=>m=xs.length-i/\i<=xs.length/\Pv i σ H,⟨xs.length,by simp,Nat.zero_le _,h0⟩,?_⟩;rintro i m σ H ⟨rfl,hi,p⟩;have q:=hl i σ H hi p;by_cases hlt:i<xs.length
 .refine .inr ⟨⟨xs,xs[i],q,by simp[hlt]⟩,Pv (i+1),λ σ' H' p'=>⟨xs.length-(i+1),by lia,rfl,hlt,p'⟩,λ x H' y=>?_⟩;obtain⟨t,z,hz,rfl,ht,rfl⟩:=y;exact hs i z σ H t (hz xs q) p ht
 .have e:i=xs.length:=by lia
  subst e;exact .inl ⟨⟨xs,q,Nat.le_refl _⟩,hd σ H p⟩
open PySem.SeqAt
mutual
inductive D where
 |at (v:V)
 |tup (xs:Ds)
 |lst (xs:Ds)
inductive Ds where
 |nil
 |cons (d:D) (r:Ds)
end
mutual
def DIs(K:Frag)(H:Hp):D->V->Prop
 |.at u,v=>v=u/\BH u=true
 |.tup ds,v=>∃a xs,v=.ref a/\SqT K H a xs/\DIss K H ds xs
 |.lst ds,v=>∃a xs,v=.ref a/\SqL K H a xs/\DIss K H ds xs
def DIss(K:Frag)(H:Hp):Ds->LUz->Prop
 |.nil,xs=>xs=[]
 |.cons d r,xs=>∃x ys,xs=x::ys/\DIs K H d x/\DIss K H r ys
end
mutual
def dep:D->Nat
 |.at _=>0
 |.tup ds=>Fg ds+1
 |.lst ds=>Fg ds+1
def Fg:Ds->Nat
 |.nil=>0
 |.cons d r=>max (dep d) (Fg r)
end
mutual
def deq:D->D->Bool
 |.at u,.at v=>eqV u v
 |.tup xs,.tup ys=>EI xs ys
 |.lst xs,.lst ys=>EI xs ys
 |_,_=>false
def EI:Ds->Ds->Bool
 |.nil,.nil=>true
 |.cons d r,.cons e q=>deq d e&&EI r q
 |_,_=>false
end
def Ds.len:Ds->Nat
 |.nil=>0
 |.cons _ r=>r.len+1
def Ds.get:Ds->Nat->D
 |.nil,_=>.at .non
 |.cons d _,0=>d
 |.cons _ r,i+1=>r.get i
theorem BL:∀(ds es:Ds),((List.range (min ds.len es.len)).all (λ j=>deq (ds.get j) (es.get j))&&ds.len==es.len)=EI ds es
 |.nil,.nil=>rfl
 |.nil,.cons e q=>by simp[Ds.len,EI]
 |.cons d r,.nil=>by simp[Ds.len,EI]
 |.cons d r,.cons e q=>by
  have ih:=BL r q;rw[show EI (.cons d r) (.cons e q)=(deq d e&&EI r q) from by rw[EI],<-ih];show((List.range (min (r.len+1) (q.len+1))).all _&&(r.len+1==q.len+1))=_;rw[show min (r.len+1) (q.len+1)=min r.len q.len+1 by lia,List.range_succ_eq_map,List.all_cons,List.all_map,Bool.and_assoc];congr 1;rw[show(r.len+1==q.len+1)=(r.len==q.len) by simp];rfl
mutual
theorem Ff:∀{K:Frag}{H:Hp}(d:D){v:V},DIs K H d v->deq d d=true
 |_,_,.at u,v,h=>by
  obtain⟨_,hf⟩:=(show v=u/\BH u=true by simpa [DIs] using h);rw[deq];cases u<;>simp_all [BH,eqV]
 |_,_,.tup ds,v,h=>by
  rw[DIs]at h;obtain⟨a,xs,_,_,q⟩:=h;rw[deq];exact FM ds q
 |_,_,.lst ds,v,h=>by
  rw[DIs]at h;obtain⟨a,xs,_,_,q⟩:=h;rw[deq];exact FM ds q
theorem FM:∀{K:Frag}{H:Hp}(ds:Ds){xs:LUz},DIss K H ds xs->EI ds ds=true
 |_,_,.nil,_,_=>by rw[EI]
 |_,_,.cons d r,xs,h=>by
  rw[DIss]at h;obtain⟨x,ys,_,h1,h2⟩:=h;rw[EI,Ff d h1,FM r h2];rfl
end
theorem DIss.len{K:Frag}{H:Hp}:∀{ds:Ds}{xs:LUz},DIss K H ds xs->ds.len=xs.length
 |.nil,xs,h=>by rw[DIss]at h;rw[h];rfl
 |.cons d r,xs,h=>by
  rw[DIss]at h;obtain⟨x,ys,rfl,_,h2⟩:=h;show r.len+1=ys.length+1;rw[DIss.len h2]
theorem DIss.get{K:Frag}{H:Hp}:∀{ds:Ds}{xs:LUz}{i:Nat}{x:V},DIss K H ds xs->xs[i]?=some x->DIs K H (ds.get i) x
 |.nil,xs,i,x,h,e=>by rw[DIss]at h;rw[h]at e;simp at e
 |.cons d r,xs,i,x,h,e=>by
  rw[DIss]at h;obtain⟨y,ys,rfl,h1,h2⟩:=h;cases i with
  |zero=>simp at e;subst e;exact h1
  |succ i =>
   show DIs K H (r.get i) x;exact DIss.get h2 (by simpa using e)
theorem Gu:∀(ds:Ds)(i:Nat),i<ds.len->dep (ds.get i)<=Fg ds
 |.nil,i,h=>absurd h (by simp[Ds.len])
 |.cons d r,0,_=>by show dep d<=_;rw[Fg];lia
 |.cons d r,i+1,h=>by
  have:=Gu r i (by simpa [Ds.len] using h);show dep (r.get i)<=_;rw[Fg];lia
section
variable{X:Cx}{pins:PNz}{σ:St}{H:Hp}{s:Shared}
mutual
theorem DIs.inj(I:Inv X pins σ H s):∀{d e:D}{v:V},DIs X.K H d v->DIs X.K H e v->d=e
 |.at u,.at w',v,h,h'=>by
  rw[DIs]at h;rw[DIs]at h';rw[<-h.1,<-h'.1]
 |.at u,.tup ds,v,h,h'=>by
  rw[DIs]at h;rw[DIs]at h';obtain⟨a,xs,e,_⟩:=h';have:=h.2;rw[<-h.1,e]at this;cases this
 |.at u,.lst ds,v,h,h'=>by
  rw[DIs]at h;rw[DIs]at h';obtain⟨a,xs,e,_⟩:=h';have:=h.2;rw[<-h.1,e]at this;cases this
 |.tup ds,.at u,v,h',h=>by
  rw[DIs]at h;rw[DIs]at h';obtain⟨a,xs,e,_⟩:=h';have:=h.2;rw[<-h.1,e]at this;cases this
 |.lst ds,.at u,v,h',h=>by
  rw[DIs]at h;rw[DIs]at h';obtain⟨a,xs,e,_⟩:=h';have:=h.2;rw[<-h.1,e]at this;cases this
 |.tup ds,.tup es,v,h,h'=>by
  rw[DIs]at h;rw[DIs]at h';obtain⟨a,xs,rfl,h1,h2⟩:=h;obtain⟨b,ys,e,k1,k2⟩:=h';cases e;have e:=I.tuple_inj h1 k1;subst e;rw[DIss.inj I h2 k2]
 |.lst ds,.lst es,v,h,h'=>by
  rw[DIs]at h;rw[DIs]at h';obtain⟨a,xs,rfl,h1,h2⟩:=h;obtain⟨b,ys,e,k1,k2⟩:=h';cases e;have e:=I.list_inj h1 k1;subst e;rw[DIss.inj I h2 k2]
 |.tup ds,.lst es,v,h,h'=>by
  rw[DIs]at h;rw[DIs]at h';obtain⟨a,xs,rfl,h1,h2⟩:=h;obtain⟨b,ys,e,k1,k2⟩:=h';cases e;obtain⟨_,_,t1,_⟩:=I.tuple h1;obtain⟨_,_,t2,_⟩:=I.list k1;exact absurd rfl (ne_of_list_tuple t2.isList (show s.heap.IsTuple a _ from t1))
 |.lst ds,.tup es,v,h,h'=>by
  rw[DIs]at h;rw[DIs]at h';obtain⟨a,xs,rfl,h1,h2⟩:=h;obtain⟨b,ys,e,k1,k2⟩:=h';cases e;obtain⟨_,_,t1,_⟩:=I.tuple k1;obtain⟨_,_,t2,_⟩:=I.list h1;exact absurd rfl (ne_of_list_tuple t2.isList (show s.heap.IsTuple a _ from t1))
theorem DIss.inj(I:Inv X pins σ H s):∀{ds es:Ds}{xs:LUz},DIss X.K H ds xs->DIss X.K H es xs->ds=es
 |.nil,.nil,xs,h,h'=>rfl
 |.nil,.cons d r,xs,h,h'=>by
  rw[DIss]at h;rw[DIss]at h';obtain⟨x,ys,e,_⟩:=h';rw[h]at e;cases e
 |.cons d r,.nil,xs,h',h=>by
  rw[DIss]at h;rw[DIss]at h';obtain⟨x,ys,e,_⟩:=h';rw[h]at e;cases e
 |.cons d r,.cons e q,xs,h,h'=>by
  rw[DIss]at h;rw[DIss]at h';obtain⟨x,ys,rfl,h1,h2⟩:=h;obtain⟨y,zs,e',k1,k2⟩:=h';cases e';rw[DIs.inj I h1 k1,DIss.inj I h2 k2]
end
theorem Hm{A:Around}{u:V}{x:Value}{l:Addr}{items:Array Value}(r:RelV u x)(f:BH u=true)(hl:s.heap.IsTuple l items)(hu:A.units<cLine):EqAt A s x (.ref l) false/\EqAt A s (.ref l) x false:=by
 cases u with
 |non=>cases r;exact⟨.none_tuple hl hu,.tuple_none hl hu⟩
 |bl b=>cases r;exact⟨.bool_tuple b hl hu,.tuple_bool b hl hu⟩
 |int b=>obtain⟨t,rfl⟩:=r;exact⟨.int_tuple b t hl hu,.tuple_int b t hl hu⟩
 |str b=>obtain⟨t,rfl⟩:=r;exact⟨.str_tuple b t hl hu,.tuple_str b t hl hu⟩
 |_=>exact absurd (show false=true from f) Bool.false_ne_true
theorem Hn{A:Around}{u:V}{x:Value}{l:Addr}{items:Array Value}(r:RelV u x)(f:BH u=true)(hl:s.heap.IsList l items)(hu:A.units<cLine):EqAt A s x (.ref l) false/\EqAt A s (.ref l) x false:=by
 cases u with
 |non=>cases r;exact⟨.none_list hl hu,.list_none hl hu⟩
 |bl b=>cases r;exact⟨.bool_list b hl hu,.list_bool b hl hu⟩
 |int b=>obtain⟨t,rfl⟩:=r;exact⟨.int_list b t hl hu,.list_int b t hl hu⟩
 |str b=>obtain⟨t,rfl⟩:=r;exact⟨.str_list b t hl hu,.list_str b t hl hu⟩
 |_=>exact absurd (show false=true from f) Bool.false_ne_true
theorem SE(I:Inv X pins σ H s):∀(n:Nat)(A:Around)(d e:D)(x y:V)(u v:Value),dep d<=n->DIs X.K H d x->DIs X.K H e y->RelV x u->RelV y v->A.units+n<cLine->EqAt A s u v (deq d e):=by
 intro n
 induction n with
 |zero =>
  intro A d e x y u v hn hd he rx ry hu;cases d with
  |tup ds=>rw[dep]at hn;lia
  |lst ds=>rw[dep]at hn;lia
  | «at» p =>
   rw[DIs]at hd;obtain⟨rfl,hf⟩:=hd;cases e with
   | «at» q =>
    rw[DIs]at he;obtain⟨rfl,hg⟩:=he;rw[deq];exact ME rx ry hf hg
   |tup es =>
    rw[DIs]at he;obtain⟨b,ys,rfl,h1,_⟩:=he;obtain⟨_,_,t,_⟩:=I.tuple h1;cases ry;rw[deq]
    .exact(Hm rx hf (show s.heap.IsTuple b _ from t) hu).1
    all_goals (intros;simp_all)
   |lst es =>
    rw[DIs]at he;obtain⟨b,ys,rfl,h1,_⟩:=he;obtain⟨_,_,t,_⟩:=I.list h1;cases ry;rw[deq]
    .exact(Hn rx hf t.isList hu).1
    all_goals (intros;simp_all)
 |succ n ih =>
  intro A d e x y u v hn hd he rx ry hu;have hu1:A.in1.units+n<cLine:=by show A.units+1+n<cLine;lia
  cases d with
  | «at» p =>
   rw[DIs]at hd;obtain⟨rfl,hf⟩:=hd;cases e with
   | «at» q =>
    rw[DIs]at he;obtain⟨rfl,hg⟩:=he;rw[deq];exact ME rx ry hf hg
   |tup es =>
    rw[DIs]at he;obtain⟨b,ys,rfl,h1,_⟩:=he;obtain⟨_,_,t,_⟩:=I.tuple h1;cases ry;rw[deq]
    .exact(Hm rx hf (show s.heap.IsTuple b _ from t) (by lia)).1
    all_goals (intros;simp_all)
   |lst es =>
    rw[DIs]at he;obtain⟨b,ys,rfl,h1,_⟩:=he;obtain⟨_,_,t,_⟩:=I.list h1;cases ry;rw[deq]
    .exact(Hn rx hf t.isList (by lia)).1
    all_goals (intros;simp_all)
  |tup ds =>
   have hd0:=hd;rw[dep]at hn;rw[DIs]at hd;obtain⟨a,xs,rfl,h1,h2⟩:=hd;obtain⟨i1,r1,t1,_⟩:=I.tuple h1;cases rx;cases e with
   | «at» q =>
    rw[DIs]at he;obtain⟨rfl,hg⟩:=he;rw[deq]
    .exact(Hm ry hg (show s.heap.IsTuple a _ from t1) (by lia)).2
    all_goals (intros;simp_all)
   |lst es =>
    rw[DIs]at he;obtain⟨b,ys,rfl,k1,_⟩:=he;obtain⟨_,_,t2,_⟩:=I.list k1;cases ry;rw[deq]
    .exact EqAt.tuple_list (show s.heap.IsTuple a _ from t1) t2.isList (by lia)
    all_goals (intros;simp_all)
   |tup es =>
    have he0:=he;rw[DIs]at he;obtain⟨b,ys,rfl,k1,k2⟩:=he;obtain⟨i2,r2,t2,_⟩:=I.tuple k1;cases ry;by_cases hab:a=b
    .subst hab;rw[DIs.inj I he0 hd0,Ff _ hd0];exact EqAt.same _
    .refine EqAt.of_refs hab ?_;have:=RcAt.tuples (A:=A) (e:=λ j=>deq (ds.get j) (es.get j)) (show s.heap.IsTuple a i1.toArray from t1) (show s.heap.IsTuple b i2.toArray from t2) (by lia) λ j g1 g2=>?_
     .have l1:=r1.length;have l2:=r2.length;have m1:=h2.len;have m2:=k2.len;rw[List.size_toArray,List.size_toArray,<-l1,<-l2,<-m1,<-m2,BL]at this;rw[deq];exact this
     .have l1:=r1.length;have l2:=r2.length;have m1:=h2.len;have g1':j<xs.length:=by simp at g1;lia
      have g2':j<ys.length:=by simp at g2;lia
      obtain⟨u1,e1,q1⟩:=r1.get (List.getElem?_eq_getElem g1');obtain⟨u2,e2,q2⟩:=r2.get (List.getElem?_eq_getElem g2');have d1:i1.toArray[j]=u1:=by
       have:i1[j]?=some i1.toArray[j]:=by simp
       rw[e1]at this;exact(Option.some.inj this).symm
      have d2:i2.toArray[j]=u2:=by
       have:i2[j]?=some i2.toArray[j]:=by simp
       rw[e2]at this;exact(Option.some.inj this).symm
      rw[d1,d2];exact ih _ _ _ _ _ _ _ (Nat.le_trans (Gu ds j (by lia)) (by lia)) (h2.get (List.getElem?_eq_getElem g1')) (k2.get (List.getElem?_eq_getElem g2')) q1 q2 hu1
  |lst ds =>
   have hd0:=hd;rw[dep]at hn;rw[DIs]at hd;obtain⟨a,xs,rfl,h1,h2⟩:=hd;obtain⟨i1,r1,t1,_⟩:=I.list h1;cases rx;cases e with
   | «at» q =>
    rw[DIs]at he;obtain⟨rfl,hg⟩:=he;rw[deq]
    .exact(Hn ry hg t1.isList (by lia)).2
    all_goals (intros;simp_all)
   |tup es =>
    rw[DIs]at he;obtain⟨b,ys,rfl,k1,_⟩:=he;obtain⟨_,_,t2,_⟩:=I.tuple k1;cases ry;rw[deq]
    .exact EqAt.list_tuple t1.isList (show s.heap.IsTuple b _ from t2) (by lia)
    all_goals (intros;simp_all)
   |lst es =>
    have he0:=he;rw[DIs]at he;obtain⟨b,ys,rfl,k1,k2⟩:=he;obtain⟨i2,r2,t2,_⟩:=I.list k1;cases ry;by_cases hab:a=b
    .subst hab;rw[DIs.inj I he0 hd0,Ff _ hd0];exact EqAt.same _
    .refine EqAt.of_refs hab ?_;have l1:=r1.length;have l2:=r2.length;have m1:=h2.len;have m2:=k2.len;rw[deq];rw[<-BL];by_cases hz:ds.len=es.len
     .have:=RcAt.lists (A:=A) (e:=λ j=>deq (ds.get j) (es.get j)) t1.isList t2.isList (by simp;lia) (by lia) λ j g1 g2=>?_
      .rw[List.size_toArray,<-l1,<-m1]at this;rw[hz,Nat.min_self,beq_self_eq_true,Bool.and_true,<-hz];exact this
      .have g1':j<xs.length:=by simp at g1;lia
       have g2':j<ys.length:=by simp at g2;lia
       obtain⟨u1,e1,q1⟩:=r1.get (List.getElem?_eq_getElem g1');obtain⟨u2,e2,q2⟩:=r2.get (List.getElem?_eq_getElem g2');have d1:i1.toArray[j]=u1:=by
        have:i1[j]?=some i1.toArray[j]:=by simp
        rw[e1]at this;exact(Option.some.inj this).symm
       have d2:i2.toArray[j]=u2:=by
        have:i2[j]?=some i2.toArray[j]:=by simp
        rw[e2]at this;exact(Option.some.inj this).symm
       rw[d1,d2];exact ih _ _ _ _ _ _ _ (Nat.le_trans (Gu ds j (by lia)) (by lia)) (h2.get (List.getElem?_eq_getElem g1')) (k2.get (List.getElem?_eq_getElem g2')) q1 q2 hu1
     .have e0:(ds.len==es.len)=false:=by simpa using hz
      rw[e0,Bool.and_false];exact RcAt.lists_lengths t1.isList t2.isList (by simp;lia) (by lia)
end
section
variable{X:Cx}
theorem Gr{pins:PNz}{σ:St}{H:Hp}{s:Shared}(I:Inv X pins σ H s){A:Around}{ds es:Ds}{xs ys:LUz}{i1 i2:LWz}(h2:DIss X.K H ds xs)(k2:DIss X.K H es ys)(r1:Vals xs i1)(r2:Vals ys i2)
  (hu:A.units+60<cLine) (hd:Fg ds<=50):∀j (g1:j<i1.toArray.size) (g2:j<i2.toArray.size),EqAt A.in1 s i1.toArray[j] i2.toArray[j] (deq (ds.get j) (es.get j)):=λ j g1 g2=>by
 have l1:=r1.length;have l2:=r2.length;have m1:=h2.len;have g1':j<xs.length:=by simp at g1;lia
 have g2':j<ys.length:=by simp at g2;lia
 obtain⟨u1,e1,q1⟩:=r1.get (List.getElem?_eq_getElem g1');obtain⟨u2,e2,q2⟩:=r2.get (List.getElem?_eq_getElem g2');have d1:i1.toArray[j]=u1:=by
  have:i1[j]?=some i1.toArray[j]:=by simp
  rw[e1]at this;exact(Option.some.inj this).symm
 have d2:i2.toArray[j]=u2:=by
  have:i2[j]?=some i2.toArray[j]:=by simp
  rw[e2]at this;exact(Option.some.inj this).symm
 rw[d1,d2];exact SE I 50 _ _ _ _ _ _ _ (Nat.le_trans (Gu ds j (by lia)) hd) (h2.get (List.getElem?_eq_getElem g1')) (k2.get (List.getElem?_eq_getElem g2')) q1 q2 (by show A.units+1+50<cLine;lia)
def Tx(K:Frag)(neg:Bool):R2:=λ x y H Q=>∃d e,DIs K H d x/\DIs K H e y/\(∃a,x=.ref a)/\(∃b,y=.ref b)/\dep d<=50/\Q (.bl (if neg then !deq d e else deq d e)) H
theorem P0{k:Nat}(hr:Room k X.A):OpR X (compareOp .Eq) (Tx X.K false):=by
 intro pins s σ H x y v u Q I rx ry h;obtain⟨d,e,hd,he,⟨a,rfl⟩,⟨b,rfl⟩,hn,q⟩:=h;cases rx;cases ry;have hu:=hr.units;cases d with
 | «at» p=>rw[DIs]at hd;obtain⟨rfl,hf⟩:=hd;cases hf
 |tup ds =>
  rw[dep]at hn;rw[DIs]at hd;obtain⟨a',xs,e',h1,h2⟩:=hd;cases e';obtain⟨i1,r1,t1,_⟩:=I.tuple h1;cases e with
  | «at» p=>rw[DIs]at he;obtain⟨rfl,hf⟩:=he;cases hf
  |tup es =>
   rw[DIs]at he;obtain⟨b',ys,e',k1,k2⟩:=he;cases e';obtain⟨i2,r2,t2,_⟩:=I.tuple k1;refine RcAt.tuples (show s.heap.IsTuple a i1.toArray from t1) (show s.heap.IsTuple b i2.toArray from t2) (by lia) (Gr I h2 k2 r1 r2 (by lia) (by lia)) _ _ _ _ ⟨.bl _,H,I,?_,q⟩;show Value.bool _=Value.bool _;rw[List.size_toArray,List.size_toArray,<-r1.length,<-r2.length,<-h2.len,<-k2.len,BL];simp only[Bool.false_eq_true,if_false];rw[deq]
  |lst es =>
   rw[DIs]at he;obtain⟨b',ys,e',k1,k2⟩:=he;cases e';obtain⟨i2,r2,t2,_⟩:=I.list k1;refine RcAt.tuple_list (show s.heap.IsTuple a _ from t1) t2.isList (by lia) _ _ _ _ ⟨.bl _,H,I,?_,q⟩;show Value.bool _=Value.bool _;simp only[Bool.false_eq_true,if_false];rw[deq]<;>(intros;simp_all)
 |lst ds =>
  rw[dep]at hn;rw[DIs]at hd;obtain⟨a',xs,e',h1,h2⟩:=hd;cases e';obtain⟨i1,r1,t1,_⟩:=I.list h1;cases e with
  | «at» p=>rw[DIs]at he;obtain⟨rfl,hf⟩:=he;cases hf
  |tup es =>
   rw[DIs]at he;obtain⟨b',ys,e',k1,k2⟩:=he;cases e';obtain⟨i2,r2,t2,_⟩:=I.tuple k1;refine RcAt.list_tuple t1.isList (show s.heap.IsTuple b _ from t2) (by lia) _ _ _ _ ⟨.bl _,H,I,?_,q⟩;show Value.bool _=Value.bool _;simp only[Bool.false_eq_true,if_false];rw[deq]<;>(intros;simp_all)
  |lst es =>
   rw[DIs]at he;obtain⟨b',ys,e',k1,k2⟩:=he;cases e';obtain⟨i2,r2,t2,_⟩:=I.list k1;have l1:=r1.length;have l2:=r2.length;have m1:=h2.len;have m2:=k2.len;by_cases hz:ds.len=es.len
   .refine RcAt.lists t1.isList t2.isList (by simp;lia) (by lia) (Gr I h2 k2 r1 r2 (by lia) (by lia)) _ _ _ _ ⟨.bl _,H,I,?_,q⟩;show Value.bool _=Value.bool _;simp only[Bool.false_eq_true,if_false];rw[deq,<-BL,List.size_toArray,<-l1,<-m1,hz,Nat.min_self,beq_self_eq_true,Bool.and_true]
   .refine RcAt.lists_lengths t1.isList t2.isList (by simp;lia) (by lia) _ _ _ _ ⟨.bl _,H,I,?_,q⟩;show Value.bool _=Value.bool _;have e0:(ds.len==es.len)=false:=by simpa using hz
    simp only[Bool.false_eq_true,if_false];rw[deq,<-BL,e0,Bool.and_false]
theorem Sw{k:Nat}(hr:Room k X.A):OpR X (compareOp .NotEq) (Tx X.K true):=by
 intro pins s σ H x y v u Q I rx ry h;obtain⟨d,e,hd,he,⟨a,rfl⟩,⟨b,rfl⟩,hn,q⟩:=h;cases rx;cases ry;have hu:=hr.units;cases d with
 | «at» p=>rw[DIs]at hd;obtain⟨rfl,hf⟩:=hd;cases hf
 |tup ds =>
  rw[dep]at hn;rw[DIs]at hd;obtain⟨a',xs,e',h1,h2⟩:=hd;cases e';obtain⟨i1,r1,t1,_⟩:=I.tuple h1;cases e with
  | «at» p=>rw[DIs]at he;obtain⟨rfl,hf⟩:=he;cases hf
  |tup es =>
   rw[DIs]at he;obtain⟨b',ys,e',k1,k2⟩:=he;cases e';obtain⟨i2,r2,t2,_⟩:=I.tuple k1;refine RcNeAt.tuples (show s.heap.IsTuple a i1.toArray from t1) (show s.heap.IsTuple b i2.toArray from t2) (by lia) (Gr I h2 k2 r1 r2 (by lia) (by lia)) _ _ _ _ ⟨.bl _,H,I,?_,q⟩;show Value.bool _=Value.bool _;rw[List.size_toArray,List.size_toArray,<-r1.length,<-r2.length,<-h2.len,<-k2.len,BL];simp only[if_true];rw[deq]
  |lst es =>
   rw[DIs]at he;obtain⟨b',ys,e',k1,k2⟩:=he;cases e';obtain⟨i2,r2,t2,_⟩:=I.list k1;refine RcNeAt.tuple_list (show s.heap.IsTuple a _ from t1) t2.isList (by lia) _ _ _ _ ⟨.bl _,H,I,?_,q⟩;show Value.bool _=Value.bool _;simp only[if_true];rw[deq]<;>first|rfl|(intros;simp_all)
 |lst ds =>
  rw[dep]at hn;rw[DIs]at hd;obtain⟨a',xs,e',h1,h2⟩:=hd;cases e';obtain⟨i1,r1,t1,_⟩:=I.list h1;cases e with
  | «at» p=>rw[DIs]at he;obtain⟨rfl,hf⟩:=he;cases hf
  |tup es =>
   rw[DIs]at he;obtain⟨b',ys,e',k1,k2⟩:=he;cases e';obtain⟨i2,r2,t2,_⟩:=I.tuple k1;refine RcNeAt.list_tuple t1.isList (show s.heap.IsTuple b _ from t2) (by lia) _ _ _ _ ⟨.bl _,H,I,?_,q⟩;show Value.bool _=Value.bool _;simp only[if_true];rw[deq]<;>first|rfl|(intros;simp_all)
  |lst es =>
   rw[DIs]at he;obtain⟨b',ys,e',k1,k2⟩:=he;cases e';obtain⟨i2,r2,t2,_⟩:=I.list k1;have l1:=r1.length;have l2:=r2.length;have m1:=h2.len;have m2:=k2.len;by_cases hz:ds.len=es.len
   .refine RcNeAt.lists t1.isList t2.isList (by simp;lia) (by lia) (Gr I h2 k2 r1 r2 (by lia) (by lia)) _ _ _ _ ⟨.bl _,H,I,?_,q⟩;show Value.bool _=Value.bool _;simp only[if_true];rw[deq,<-BL,List.size_toArray,<-l1,<-m1,hz,Nat.min_self,beq_self_eq_true,Bool.and_true]
   .refine RcNeAt.lists_lengths t1.isList t2.isList (by simp;lia) (by lia) _ _ _ _ ⟨.bl _,H,I,?_,q⟩;show Value.bool _=Value.bool _;have e0:(ds.len==es.len)=false:=by simpa using hz
    simp only[if_true];rw[deq,<-BL,e0,Bool.and_false];rfl
end
structure LK(P:Program)(w:World)(K:Frag)(mg:MGz)(base:Heap)(k:Nat)(x:Str)(C:Addr)(ps:LSz)(sp:Sp):Prop where
 ex:∃(f:Addr)(fd:FuncData),Mk K C f/\FnOk P w K mg base CX0 k f fd ps sp/\mg x=some (.ref C)/\Binds K fd ps []
section
variable{X:Cx}{k j:Nat}{x m:Str}{C:Addr}{ps:LSz}{sp:Sp}{p pos apos:Pos}{e o:Expr}{es:List Expr}{t:TA}{ta:TE}
theorem KP(D:LK X.prog X.w X.K X.mg X.base k x C ps sp)(hr:Room j X.A)(ha:PA X (e::es) t)(hj:k+1<=j:=by decide)(hg:Gl X x:=by rfl)(hdb:(x==("__debug__":Str))=false:=by decide)
  (he:starEach (e::es) X.env=(false,eval e X.env)::starEach es X.env:=by rfl) (hpl:(backTo pos (starEach es X.env)).any (·.1)=false:=by rfl):PE X (.Call (.Name x p) (e::es) [] pos) (Nb C sp [] E0 t):=by
 obtain⟨f,fd,M,F,hm,hb⟩:=D.ex;exact QO M F (hr.mono hj) hg hm hb .nil GH ha hdb he hpl
end
section
variable{X:Cx}{K:Frag}{pos:Pos}
theorem Nn{es:List Expr}{k:Nat}{t:TGs}{n:Nat}(hc:X.calm=true)(h:PGs X es t)(hK:X.K=K:=by rfl)
  (hn:(assignEach es X.env).length=n:=by rfl) (hst:(assignEach es X.env).findIdx? (·.1)=none:=by rfl):PG X (.Tuple es k pos) (TQ K n t):=by
 subst hK;exact Cb hc h hn hst
end
end L2
namespace GB
open PySem.W
open PySem L2
structure Rc where
 t:Int
 l:Int
 b:Int
 r:Int
 deriving DecidableEq
def Rc.ls(p:Rc):List Int:=[p.t,p.l,p.b,p.r]
def Rc.In(w h:Int)(p:Rc):Prop:=0<=p.t/\p.t<p.b/\p.b<=h/\0<=p.l/\p.l<p.r/\p.r<=w
def key:List Int->Int
 |[a,b,c,d]=>((a*13+b)*13+c)*13+d
 |_=>0
theorem PC(p:Rc):key p.ls=((p.t*13+p.l)*13+p.b)*13+p.r:=rfl
theorem key_lt{p q:Rc}{w h w' h':Int}(hp:p.In w h)(hq:q.In w' h')(b1:w<=12)(b2:h<=12)(b3:w'<=12)(b4:h'<=12):HT.lexLt p.ls q.ls=decide (key p.ls<key q.ls):=by
 obtain⟨a1,a2,a3,a4,a5,a6⟩:=hp;obtain⟨c1,c2,c3,c4,c5,c6⟩:=hq;rw[PC,PC];show(if p.t=q.t then (if p.l=q.l then (if p.b=q.b then (if p.r=q.r then false else decide (p.r<q.r)) else decide (p.b<q.b)) else decide (p.l<q.l)) else decide (p.t<q.t))=_
 repeat' split
 all_goals (first|(apply Eq.symm;rw[decide_eq_false_iff_not];lia)|(rw[decide_eq_decide];lia))
end GB
namespace L2
open PySem.W
open PySem PySem.Spec PyProof.Rows
section
variable{prog:Program}{w:World}{A:Around}{E:VPz}{h:Heap}{g:Array GenState}{d:Drawn}{t:Nat}{os:OsState}
 {nm qn:Str} {C N:Addr} {bs bm bmB:LWz} {hdct:Bool} {sn:LSz} {sub:LWz} {ab:Bool} {col:Option Bool} {dd:Option Addr} {k0 k1 k2 k3 k5:Option Value} {B newId initId:String}
def Ca(h:Heap)(C:Addr)(rest:LWz):Heap:=(h.push { cls:=.type "tuple",data:=.seq rest.toArray }).push { cls:=.ref C,data:=.fields #[.ref h.objs.size,.none,.none,.none,.bool false,.none] }
theorem BU{C:Addr}{rest:LWz}{b:Addr}{o:Obj}(e:h.get? b=some o):(Ca h C rest).get? b=some o:=Heap.get?_push_of_some _ (Heap.get?_push_of_some _ e)
theorem IM(C:Addr)(rest:LWz):(Ca h C rest).get? (h.objs.size+1)=some { cls:=.ref C,data:=.fields #[.ref h.objs.size,.none,.none,.none,.bool false,.none] }:=by
 unfold Ca;heap_get
theorem Gz(F:ExcBaseFacts B newId initId bmB)(T:OwnTail h bmB bm){mN:MGz}{rest:LWz}{fI:Addr}{oI:Obj}{Q:Fin->Shared->Prop}
  (hC:h.get? C=some (excClassObj nm qn C N bs bm hdct sn sub ab col dd k0 k1 k2 k3 k5 newId)) (hn:h.Ns N mN) (hi:mN "__init__"=some (.ref fI)) (hfI:h.get? fI=some oI) (hfc:oI.cls=.type "function") (hrest:rest.length<=sizeLine)
  (hq:wpAny (model prog w) A (call (.ref fI) (.ref (h.objs.size+1)::rest)) (λ r s'=>r=.none/\Q (.done (.ret (.ref (h.objs.size+1)))) s') E ⟨Ca h C rest,g,d,t,os⟩) :
  wpAny (model prog w) A (Builtin.«type.__call__» ⟨.ref C::rest,[]⟩) Q E ⟨h,g,d,t,os⟩:=by
 repeat (first|with_reducible refine wpAny_loadPart_at hC ?_|with_reducible refine wpAny_madeBy_exc hC ?_|wp_step)
 refine codeAny_call_builtin_code (Code.quiet_builtin _ F.quiet) (wpAny_check_new_subT F T hC (codeAny_exc_new_subT F T hC ?_ hrest));show wpAny _ _ _ _ _ ⟨Ca h C rest,g,d,t,os⟩;have c1:(Ca h C rest).get? C=_:=BU hC;have n1:(Ca h C rest).Ns N mN:=let ⟨o,es,ep,e,r⟩:=hn;⟨o,es,ep,BU e,r⟩;have e1:=IM (h:=h) C rest;have T1:OwnTail (Ca h C rest) bmB bm:=T.keeps λ_ _ e=>BU e;have cc:(Value.ref C::bm).contains (.ref C)=true:=by simp
 unfold isInstance
 repeat (first|with_reducible refine wpAny_loadPart_at e1 ?_|(with_reducible refine wpAny_isSubtype_exc c1 ?_;rw[cc])|wp_step)
 show wpAny _ _ (typeLookup (.ref C) _) _ _ _;refine wpAny_typeLookup_tail c1 n1 T1 F.mroIs F.init.lookup ?_;rw[hi];refine wpAny_holding (wpAny_bind ?_);unfold bindSpecial;refine wpAny_bind (wpAny_typeOf (T:="function") ⟨_,BU hfI,hfc⟩ ?_);rw[if_pos (by decide)];refine wpAny_pure (wpAny_bind (wpAny_mono hq (λ r s' hr=>?_) λ_ _ x=>x));obtain⟨rfl,hQ⟩:=hr
 wp_walk
 exact hQ
theorem OB(F:ExcBaseFacts B newId initId bmB)(T:OwnTail h bmB bm){mN:MGz}{rest:LWz}{fI:Addr}{oI:Obj}{Q:VPz}
  (hC:h.get? C=some (excClassObj nm qn C N bs bm hdct sn sub ab col dd k0 k1 k2 k3 k5 newId)) (hn:h.Ns N mN) (hi:mN "__init__"=some (.ref fI)) (hfI:h.get? fI=some oI) (hfc:oI.cls=.type "function") (hrest:rest.length<=sizeLine)
  (hq:wpAny (model prog w) (A.under (.builtin "type.__call__" ⟨.ref C::rest,[]⟩)) (call (.ref fI) (.ref (h.objs.size+1)::rest)) (λ r s'=>r=.none/\Q (.ref (h.objs.size+1)) s') E ⟨Ca h C rest,g,d,t,os⟩) :
  wpAny (model prog w) A (call (.ref C) rest) Q E ⟨h,g,d,t,os⟩:=by
 have l1:=tc_lookup;have l2:=tc_bind (.ref C);have ty:(⟨h,g,d,t,os⟩:Shared).TypeIs (.ref C) "type":=⟨_,hC,rfl⟩;refine wpAny_call (codeAny_of_tree ?_);show wpAny _ _ (callAny (.ref C) _) _ _ _
 repeat (any_goals (first|assumption|with_reducible refine wpAny_loadPart_at hC ?_|wp_step))
 exact⟨rfl,codeAny_call_builtin_at (Code.quiet_builtin _ (by decide +kernel)) entry_typeCall (wpAny_check_type_call_sub hC (Gz F T hC hn hi hfI hfc hrest hq))⟩
end
open PySem.Builtin PySem.Builtin.ObjectAttr
def vErr:LWz:=[.type "ValueError",.type "Exception",.type "BaseException",.type "object"]
def FJ:LWz->Bool
 |[]=>false
 |x::r=>(match x with|.ref _=>FJ r|_=>false)||(x::r==vErr)
theorem GC(self:Value):∀{l:LWz},FJ l=true->refuseLoop self "__setattr__" l=pure ()
 |[],e=>by cases e
 |x::r,e=>by
  unfold FJ at e;rw[Bool.or_eq_true]at e;rcases e with e|e
  .cases x<;>first|(rw[refuseLoop_ref];exact GC self e)|cases e
  .rw[show x::r=vErr from beq_iff_eq.mp e];exact PySem.F.store_ValueError.passes self
theorem Kb{T:String}(hT:vErr.contains (.type T)=true):∀{l:LWz},FJ l=true->l.contains (.type T)=true
 |[],e=>by cases e
 |x::r,e=>by
  unfold FJ at e;rw[Bool.or_eq_true]at e;rcases e with e|e
  .cases x<;>first|(rw[List.contains_cons,Kb hT e,Bool.or_true])|cases e
  .rw[show x::r=vErr from beq_iff_eq.mp e];exact hT
def excIn(K:Frag)(C:Addr):Bool:=(clsIn K C).any λ cd=>FJ cd.mro
section
variable{prog:Program}{w:World}{A:Around}{E:VPz}{R:Result->Shared->Prop}{s:Shared}{K:Frag}{x C:Addr}{ox:Obj}{od:Option Obj}{name:Str}{tk:Tok}{v:Value}
theorem Np(X:K.In s.heap)(I:InstAt s.heap x ox C od)(hp:excIn K C=true)(ht:findIn K (.ref C) name=some none)
  (h:wpAny (model prog w) A.in1 (storeInOwnDict (.ref x) (.ref C) (.str name tk) name v false)
   (λ fin s'=>match fin with|.done f=>R (.ok f) s'|.again c'=>c'.quiet=true/\codeAny (model prog w) A c' R s') (λ e s'=>R (.error e) s') s) :
  codeAny (model prog w) A (.call (.builtin "object.__setattr__") ⟨[.ref x,.str name tk,v],[]⟩) R s:=by
 have SF:=PySem.F.store_object;obtain⟨cd,hc,ho⟩:=any_some hp;have ne:cd.mro.isEmpty=false:=by cases q:cd.mro with|nil=>rw[q]at ho;cases ho|cons _ _=>rfl
 have tO:Looks (model prog w) s.heap (isInstance (.ref x) (.type "object")) true:=I.type.andThen (looks_mroIn X (by
  unfold mroIn;rw[hc,Option.bind_some,ne];show some (cd.mro.contains (.type "object"))=some true;rw[Kb (by decide +kernel) ho]))
 have tM:Looks (model prog w) s.heap (mroOf (.ref C)) cd.mro:=(looks_clsIn X hc).andThen .now;refine codeAny_call_builtin SF.slot.plain SF.entry (@check_slot (model prog w) _ _ s "object.__setattr__" "object" "__setattr__" (.ref x) [.str name tk,v] [] _ SF.kind SF.split tO (SF.args (.ref x) (.str name tk) v) ?_);rw[osa_eq,refuse_eq];refine wpAny_bind (wpAny_bind (I.type.here (wpAny_bind (tM.here ?_))));rw[GC _ ho];exact wpAny_pure (wpAny_bind (I.type.here (wpAny_bind ((looks_findIn X ht).here (wpAny_bind (wpAny_pure h))))))
theorem Po{vs:Array Value}{sl:AOz}{Q:Unit->Shared->Prop}(X:K.In s.heap)(hx:s.heap.get? x=some ⟨.ref C,none,.fields vs,sl⟩)(hs:findIn K (.ref C) "__setattr__"=some (some (.builtin "object.__setattr__")))
  (hp:excIn K C=true) (hh:hasDictIn K C=true) (ht:findIn K (.ref C) name=some none)
  (h:∀h',h'.get? x=some ⟨.ref C,some s.heap.objs.size,.fields vs,sl⟩->h'.Ns1 s.heap.objs.size (λ y=>if y=name then some v else none)->(∀b o,b≠x->s.heap.get? b=some o->h'.get? b=some o)->Q () { s with heap:=h',toks:=s.toks+2 }) :
  wpAny (model prog w) A (setAttr (.ref x) name v) Q E s:=by
 have I:InstAt s.heap x ⟨.ref C,none,.fields vs,sl⟩ C none:=⟨hx,rfl,rfl,trivial⟩;obtain⟨cd,hc,hd'⟩:=any_some hh;have nx:x≠s.heap.objs.size:=Nat.ne_of_lt (Heap.lt_size hx);refine set_plain X I hs (Np (s:={ s with toks:=s.toks+1 }) X I hp ht ?_);refine wpAny_bind (wpAny_pure (wpAny_bind (wpAny_bind (wpAny_loadPart hx (wpAny_bind (Looks.here (s:={ s with toks:=s.toks+1 }) (looks_clsIn X hc) ?_))))));rw[hd'];refine wpAny_bind (wpAny_alloc (wpAny_bind (wpAny_update (Heap.get?_push_of_some _ hx) (wpAny_pure ?_))));generalize hH:(s.heap.push { cls:=.type "dict",data:=.dict #[] }).update x (λ o=>{ o with dict:=some s.heap.objs.size })=H1;have hx1:H1.get? x=some ⟨.ref C,some s.heap.objs.size,.fields vs,sl⟩:=by
  rw[<-hH];exact Heap.get?_update_self _ (Heap.get?_push_of_some _ hx) rfl
 have hd1:H1.get? s.heap.objs.size=some { cls:=.type "dict",data:=.dict #[] }:=by
  rw[<-hH,Heap.get?_update_ne _ _ _ _ (Ne.symm nx)];exact Heap.get?_push_size _ rfl
 have hk1:∀b o,b≠x->s.heap.get? b=some o->H1.get? b=some o:=λ b o hb e=>by
  rw[<-hH,Heap.get?_update_ne _ _ _ _ hb];exact Heap.get?_push_of_some _ e
 have hn1:H1.Ns1 s.heap.objs.size (λ_=>none):=Heap.Ns1.of_empty ⟨_,#[],_,hd1,rfl,λ e he=>absurd he (by simp),λ_=>rfl⟩;refine wpAny_bind (wpAny_pure (wpAny_bind (wpAny_nsSet1 (s:={ s with heap:=H1,toks:=s.toks+1 }) hn1 λ h' hn2 hs2=>?_)));obtain⟨oD,esD,epD,hoD,hdD,hcD⟩:=hn2.count (Within.cons name v Within.nil);refine wpAny_bind (wpAny_lookBehind hoD (by rw[hdD];exact pastItsLine_dict (Nat.le_trans hcD (by rw[List.length_cons,List.length_nil,sizeLine_eq];lia))) ?_);exact wpAny_pure (h _ ((hs2.2 _ nx).trans hx1) hn2 λ b o hb e=>(hs2.2 _ (Nat.ne_of_lt (Heap.lt_size e))).trans (hk1 b o hb e))
theorem QB{vs:Array Value}{sl:AOz}{dx:Addr}{mA:MGz}{ns:LSz}{Q:Unit->Shared->Prop}(X:K.In s.heap)(hx:s.heap.get? x=some ⟨.ref C,some dx,.fields vs,sl⟩)(hn:s.heap.Ns1 dx mA)(hne:dx≠x)
  (hs:findIn K (.ref C) "__setattr__"=some (some (.builtin "object.__setattr__"))) (hp:excIn K C=true) (hh:hasDictIn K C=true) (ht:findIn K (.ref C) name=some none) (hw:PySem.Within mA ns) (hsz:ns.length<=sizeLine)
  (h:∀h',h'.get? x=some ⟨.ref C,some dx,.fields vs,sl⟩->h'.Ns1 dx (λ y=>if y=name then some v else mA y)->Heap.SameBut dx s.heap h'->Q () { s with heap:=h',toks:=s.toks+2 }) :
  wpAny (model prog w) A (setAttr (.ref x) name v) Q E s:=by
 obtain⟨od,ho⟩:∃o,s.heap.get? dx=some o:=let ⟨o,_,_,e,_⟩:=hn;⟨o,e⟩;have I:InstAt s.heap x ⟨.ref C,some dx,.fields vs,sl⟩ C (some od):=⟨hx,rfl,rfl,ho⟩;obtain⟨cd,hc,hd'⟩:=any_some hh;refine set_plain X I hs (Np (s:={ s with toks:=s.toks+1 }) X I hp ht ?_);refine wpAny_bind (wpAny_pure (wpAny_bind (wpAny_bind (wpAny_loadPart hx (wpAny_bind (Looks.here (s:={ s with toks:=s.toks+1 }) (looks_clsIn X hc) ?_))))));rw[hd'];refine wpAny_pure (a:=some dx) (wpAny_bind (wpAny_pure (wpAny_bind (wpAny_nsSet1 (s:={ s with toks:=s.toks+1 }) hn λ h' hn2 hs2=>?_))));obtain⟨oD,esD,epD,hoD,hdD,hcD⟩:=hn2.count (Within.cons name v hw);refine wpAny_bind (wpAny_lookBehind hoD (by rw[hdD];exact pastItsLine_dict (Nat.le_trans hcD (by rw[List.length_cons];lia))) ?_);exact wpAny_pure (h _ ((hs2.2 _ (Ne.symm hne)).trans hx) hn2 hs2)
end
section
variable{prog:Program}{w:World}{A:Around}{E:VPz}{R:Result->Shared->Prop}{s:Shared}{K:Frag}{x C:Addr}{ox:Obj}{od:Option Obj}{name:Str}{tk:Tok}{v:Value}{expr:Bool}
theorem Rp(X:K.In s.heap)(I:InstAt s.heap x ox C od)(hp:L2.excIn K C=true)
  (h:wpAny (model prog w) A.in1 (Builtin.«object.__getattribute__» ⟨[.ref x,.str name tk],[]⟩)
   (λ fin s'=>match fin with|.done f=>R (.ok f) s'|.again c'=>c'.quiet=true/\codeAny (model prog w) A c' R s') (λ e s'=>R (.error e) s') s) :
  codeAny (model prog w) A (.call (.builtin "BaseException.__getattribute__") ⟨[.ref x,.str name tk],[]⟩) R s:=by
 obtain⟨cd,hc,ho⟩:=any_some hp;have ne:cd.mro.isEmpty=false:=by cases q:cd.mro with|nil=>rw[q]at ho;cases ho|cons _ _=>rfl
 have tB:Looks (model prog w) s.heap (isInstance (.ref x) (.type "BaseException")) true:=I.type.andThen (looks_mroIn X (by
  unfold mroIn;rw[hc,Option.bind_some,ne];show some (cd.mro.contains (.type "BaseException"))=some true;rw[Kb (by decide +kernel) ho]))
 exact codeAny_call_builtin PySem.F.attrBase_ValueError.ga.plain PySem.F.entry_bexc_ga (@check_slot (model prog w) _ _ s "BaseException.__getattribute__" "BaseException" "__getattribute__" (.ref x) [.str name tk] [] _ (by decide +kernel) (by decide +kernel) tB (PySem.F.args_bexc_ga (.ref x) (.str name tk)) h)
theorem RP(X:K.In s.heap)(I:InstAt s.heap x ox C od)(hp:L2.excIn K C=true)(hga:findIn K (.ref C) "__getattribute__"=some (some (.builtin "BaseException.__getattribute__")))(hk:findIn K (.ref C) "__getattr__"=some none){fill:Bool}{Q:VPz}
  (h:wpAny (model prog w) A.in1 (Builtin.«object.__getattribute__» ⟨[.ref x,.str name tk],[]⟩)
   (λ fin s'=>match fin with|.done (.ret v)=>wpAny (model prog w) A (handedOut v) Q E s'|_=>False) (λ_ _=>False) s) :
  wpAny (model prog w) A (getAttrBy (.ref x) (.str name tk) fill expr) Q E s:=by
 have L0:=I.type (M:=model prog w);have L1:=looks_findIn (M:=model prog w) X hga;have L2:=looks_findIn (M:=model prog w) X hk;unfold getAttrBy;refine wpAny_holding (wpAny_bind (L0.here (wpAny_bind (L1.here ?_))));show wpAny _ _ (getAttrByItsOwn (.ref x) (.str name tk) (.ref C) (.builtin "BaseException.__getattribute__") fill expr) _ _ _;unfold getAttrByItsOwn hookBefore callGetattribute boundAndCalled;refine wpAny_bind (L2.here ?_);refine wpAny_bind (wpAny_attempt (wpAny_holding ?_));rw[show(expr&&onTheHeap (Value.builtin "BaseException.__getattribute__"))=false from by cases expr<;>rfl,if_neg Bool.false_ne_true];refine wpAny_bind (wpAny_of_eq (PySem.F.attrBase_ValueError.ga.bind _) ?_);refine wpAny_call (Rp X I hp (wpAny_mono h (λ fin s' z=>?_) λ_ _ z=>z.elim));rcases fin with (_|_|_|_)|_<;>first|exact z.elim|exact z
theorem Rn{Q:VPz}(X:K.In s.heap)(I:InstAt s.heap x ox C od)(hp:L2.excIn K C=true)(hga:findIn K (.ref C) "__getattribute__"=some (some (.builtin "BaseException.__getattribute__")))(hk:findIn K (.ref C) "__getattr__"=some none)
  (hf:findObj K C od name=some (.value v)) (hh:handedIn v=true) (h:Q v { s with toks:=s.toks+1 }):wpAny (model prog w) A (getAttr (.ref x) name expr) Q E s:=by
 unfold getAttr;refine wpAny_bind (wpAny_mkText (RP (s:={ s with toks:=s.toks+1 }) X I hp hga hk ?_));have L0:=I.type (M:=model prog w);have L1:=looks_find (M:=model prog w) X I hf;refine wpAny_bind (wpAny_of_eq (show slotArgs "__getattribute__" 1 ⟨[.ref x,.str name s.toks],[]⟩=pure (.ref x,[.str name s.toks]) from rfl) ?_);refine wpAny_bind (wpAny_pure (wpAny_bind (Looks.here (s:={ s with toks:=s.toks+1 }) L0 (wpAny_bind (Looks.here (s:={ s with toks:=s.toks+1 }) L1 ?_)))));refine wpAny_pure ?_;show wpAny _ _ (handedOut v) _ _ _;rw[handedOut_of hh];exact wpAny_pure h
theorem O9{Q:Option Value->Shared->Prop}(X:K.In s.heap)(I:InstAt s.heap x ox C od)(hp:L2.excIn K C=true)(hga:findIn K (.ref C) "__getattribute__"=some (some (.builtin "BaseException.__getattribute__")))(hk:findIn K (.ref C) "__getattr__"=some none)
  (hf:findObj K C od "__class__"=some (.bind (.builtin "getset_descriptor.__get__") (.builtin "object.__class__"))) (hm:mroIn K C (.type "object")=some true) (h:Q (some (.ref C)) { s with toks:=s.toks+1 }):wpAny (model prog w) A (getAttr? (.ref x) "__class__") Q E s:=by
 unfold getAttr? getAttrBy?;refine wpAny_bind (wpAny_mkText (wpAny_bind (wpAny_attempt (RP (s:={ s with toks:=s.toks+1 }) X I hp hga hk ?_))));have L0:=I.type (M:=model prog w);have L1:=looks_find (M:=model prog w) X I hf;refine wpAny_bind (wpAny_of_eq (show slotArgs "__getattribute__" 1 ⟨[.ref x,.str "__class__" s.toks],[]⟩=pure (.ref x,[.str "__class__" s.toks]) from rfl) ?_);refine wpAny_bind (wpAny_pure (wpAny_bind (Looks.here (s:={ s with toks:=s.toks+1 }) L0 (wpAny_bind (Looks.here (s:={ s with toks:=s.toks+1 }) L1 ?_)))));show wpAny _ _ (holding [.builtin "object.__class__"] (call (.builtin "getset_descriptor.__get__") [.builtin "object.__class__",.ref x,.ref C]) >>= ret) _ _ _;refine wpAny_bind (wpAny_holding (wpAny_call (class_get (s:={ s with toks:=s.toks+1 }) (ox:=ox) (od:=od) X I hm ?_)));exact wpAny_pure (handed_on rfl (wpAny_pure h))
end
def Gj(C x:Addr):HO:=.ext λ h=>∃vs sl,h.get? x=some ⟨.ref C,none,.fields vs,sl⟩/\vs[1]?=some Value.none
def C7(C dx x:Addr):HO:=.ext λ h=>∃vs sl,h.get? x=some ⟨.ref C,some dx,.fields vs,sl⟩/\vs[1]?=some Value.none
def Fo(C:Addr)(d:Option Addr)(x T:Addr):HO:=.ext λ h=>∃vs sl,h.get? x=some ⟨.ref C,d,.fields vs,sl⟩/\vs[1]?=some (.ref T)
def Ce(dx:Addr)(fs:LFz):HO:=.ext λ h=>∃mA,h.Ns1 dx mA/\(∀f,RelO (fs.lookup f) (mA f))/\PySem.Within mA (fs.map (·.1))
section
variable{P:Program}{w:World}{H:Hp}{h:Heap}{x C dx:Addr}{fs:LFz}
theorem Rv{vs:Array Value}{sl:AOz}(e:h.get? x=some ⟨.ref C,none,.fields vs,sl⟩)(f:vs[1]?=some Value.none):ObjOk P w H h x (Gj C x) :=
 ⟨⟨vs,sl,e,f⟩,⟨_,e⟩,λ_ _ ⟨vs,sl,e,f⟩ k=>⟨vs,sl,k _ e,f⟩⟩
theorem Ru{vs:Array Value}{sl:AOz}(e:h.get? x=some ⟨.ref C,some dx,.fields vs,sl⟩)(f:vs[1]?=some Value.none):ObjOk P w H h x (C7 C dx x) :=
 ⟨⟨vs,sl,e,f⟩,⟨_,e⟩,λ_ _ ⟨vs,sl,e,f⟩ k=>⟨vs,sl,k _ e,f⟩⟩
theorem Rt{d:Option Addr}{T:Addr}{vs:Array Value}{sl:AOz}(e:h.get? x=some ⟨.ref C,d,.fields vs,sl⟩)(f:vs[1]?=some (.ref T)):ObjOk P w H h x (Fo C d x T) :=
 ⟨⟨vs,sl,e,f⟩,⟨_,e⟩,λ_ _ ⟨vs,sl,e,f⟩ k=>⟨vs,sl,k _ e,f⟩⟩
theorem N3{mA:MGz}(n:h.Ns1 dx mA)(r:∀f,RelO (fs.lookup f) (mA f))(wi:PySem.Within mA (fs.map (·.1))):ObjOk P w H h dx (Ce dx fs) :=
 ⟨⟨mA,n,r,wi⟩,let ⟨o,_,_,e,_⟩:=n;⟨o,e⟩,λ_ _ ⟨mA,n,r,wi⟩ k=>⟨mA,n.at k,r,wi⟩⟩
end
structure XCls(K:Frag)(C:Addr):Prop where
 ga:findIn K (.ref C) "__getattribute__"=some (some (.builtin "BaseException.__getattribute__"))
 gh:findIn K (.ref C) "__getattr__"=some none
 hd:hasDictIn K C=true
 sa:findIn K (.ref C) "__setattr__"=some (some (.builtin "object.__setattr__"))
 ex:L2.excIn K C=true
 ca:findIn K (.ref C) "__class__"=some (some (.builtin "object.__class__"))
 gn:specialIn K (.builtin "object.__class__") "__get__"=some (some (.builtin "getset_descriptor.__get__"))
 tk:takesIn K (.builtin "object.__class__")=some true
 mo:mroIn K C (.type "object")=some true
def EO(K:Frag)(C:Addr):Bool:=(findIn K (.ref C) "__getattribute__"==some (some (.builtin "BaseException.__getattribute__")))&&(findIn K (.ref C) "__getattr__"==some none)&&hasDictIn K C&&(findIn K (.ref C) "__setattr__"==some (some (.builtin "object.__setattr__")))&&L2.excIn K C &&
 (findIn K (.ref C) "__class__"==some (some (.builtin "object.__class__")))&&(specialIn K (.builtin "object.__class__") "__get__"==some (some (.builtin "getset_descriptor.__get__"))) &&
 (takesIn K (.builtin "object.__class__")==some true)&&(mroIn K C (.type "object")==some true)
theorem XCls.of{K:Frag}{C:Addr}(h:EO K C=true):XCls K C:=by
 unfold EO at h;simp only[Bool.and_eq_true,beq_iff_eq]at h;obtain⟨⟨⟨⟨⟨⟨⟨⟨a,a'⟩,b⟩,c⟩,d⟩,e⟩,f⟩,g⟩,i⟩:=h;exact⟨a,a',b,c,d,e,f,g,i⟩
section
variable{X:Cx}{pins:PNz}{σ:St}{H:Hp}{s:Shared}{a C dx:Addr}{fs:LFz}{f:Str}{v:V}{A:Around}{E:VPz}
theorem Hq{φ:Heap->Prop}{b c:Addr}(h:H b=some (.ext φ)):H b≠some (.own c):=λ e=>by rw[h]at e;cases e
theorem Mg{y:V}{u:Value}{Q:Unit->Shared->Prop}(I:Inv X pins σ H s)(e:H a=some (Gj C a))(c:XCls X.K C)(n:NoAttr X.K C f)(ry:RelV y u)
  (h:∀s' d,H d=none->Inv X pins σ (upd (upd H d (Ce d [(f,y)])) a (C7 C d a)) s'->Q () s'):wpAny (model X.prog X.w) A (setAttr (.ref a) f u) Q E s:=by
 obtain⟨⟨vs,sl,hx,hv1⟩,_⟩:=(show ObjOk X.prog X.w H s.heap a (Gj C a) from I.hok a _ e);refine Po I.kIn hx c.sa c.ex c.hd n λ h' h1 h2 k=>?_;have hn:H s.heap.objs.size=none:=I.hok.fresh (Nat.le_refl _);have nea:s.heap.objs.size≠a:=Ne.symm (Ah e hn);refine h _ s.heap.objs.size hn ?_;have e':∀b o,H b=some o->b≠s.heap.objs.size:=λ b o q=>Ah q hn;have lt:∀b o,s.heap.get? b=some o->b≠s.heap.objs.size:=λ b o q=>Nat.ne_of_lt (Heap.lt_size q);have na:∀b o,H b=some o->(∀φ,o≠.ext φ)->b≠a:=λ b o q z t=>by subst t;rw[e]at q;cases q;exact z _ rfl
 refine I.un (h':=h') (t':=s.toks+2) ⟨λ b o q m _ _=>k b o (λ z=>by rw[z,e]at m;cases m) q,λ b o q m _ _=>⟨o.slots,k b o (λ z=>by rw[z,e]at m;cases m) q⟩,
  λ b o q m _=>by rw[Ai (λ z=>by rw[z,e]at m;cases m),Ai (lt b o q)];exact m,λ b o q _=>?_,λ b xs q=>by rw[Ai (na b _ q (λ φ z=>by cases z)),Ai (e' b _ q)];exact q,
  λ b o u q=>by rw[Ai (na b _ q (λ φ z=>by cases z)),Ai (e' b _ q)];exact q,λ b ps q=>⟨#[],by rw[Ai (na b _ q (λ φ z=>by cases z)),Ai (e' b _ q),q];simp⟩⟩ λ b o q=>?_
 .by_cases hb:b=a
  .subst hb;exact⟨_,h1⟩
  .exact⟨o,k b o hb q⟩
 .by_cases hb:b=a
  .subst hb;rw[Ac]at q;cases q;exact Ru h1 hv1
  .rw[Ai hb]at q;by_cases hd:b=s.heap.objs.size
   .subst hd;rw[Ac]at q;cases q;refine N3 h2 (λ g=>?_) λ g hg=>?_
    .show RelO (List.lookup g [(f,y)]) (if g=f then some u else none);by_cases q:g=f
     .have hb:(g==f)=true:=beq_iff_eq.mpr q;rw[if_pos q];simp only[List.lookup,hb];exact ry
     .have hb:(g==f)=false:=beq_eq_false_iff_ne.mpr q;rw[if_neg q];simp only[List.lookup,hb];exact True.intro
    .by_cases q:g=f
     .rw[q];simp
     .exact absurd (if_neg q) hg
   .rw[Ai hd]at q;refine(I.hok b o q).stay (λ cc w' hc z=>k cc w' ?_ z) (λ cc z=>?_) λ cc xs z=>?_
    .rcases hc with rfl|hc
     .exact hb
     .exact λ t=>Hq e (t ▸ hc)
    .rw[Ai (λ t=>Hq e (t ▸ z)),Ai (e' cc _ z)];exact z
    .rw[Ai (na cc _ z (λ φ t=>by cases t)),Ai (e' cc _ z)];exact z
theorem NY{y:V}{u:Value}{Q:Unit->Shared->Prop}(I:Inv X pins σ H s)(e:H a=some (C7 C dx a))(ed:H dx=some (Ce dx fs))(c:XCls X.K C)(n:NoAttr X.K C f)(hl:fs.length<1000)(ry:RelV y u)
  (h:∀s',Inv X pins σ (upd H dx (Ce dx (Cy f y fs))) s'->Q () s'):wpAny (model X.prog X.w) A (setAttr (.ref a) f u) Q E s:=by
 obtain⟨⟨vs,sl,hx,_⟩,_⟩:=(show ObjOk X.prog X.w H s.heap a (C7 C dx a) from I.hok a _ e);obtain⟨⟨mA,hn,r,wi⟩,_⟩:=(show ObjOk X.prog X.w H s.heap dx (Ce dx fs) from I.hok dx _ ed);have hne:dx≠a:=λ z=>by
  subst z;obtain⟨o,es,ep,ho,hd,_⟩:=hn;rw[hx]at ho;cases ho;cases hd
 have hz:(fs.map (·.1)).length<=sizeLine:=by rw[List.length_map,sizeLine_eq];lia
 refine QB I.kIn hx hn hne c.sa c.ex c.hd n wi hz λ h' h1 h2 sb=>h _ ?_;have hd:∃o,h'.get? dx=some o:=let ⟨o,_,_,e',_⟩:=h2;⟨o,e'⟩;refine I.write (x:=dx) (e:=dx) (t':=s.toks+2) (by rw[ed];exact True.intro) (.inl rfl) (λ b q hb z=>(sb.2 b hb).trans z) hd (N3 h2 (λ g=>?_) λ g hg=>?_)
 .show RelO ((Cy f y fs).lookup g) (if g=f then some u else mA g);rw[AU];by_cases q:g=f
  .rw[if_pos q,if_pos q];exact ry
  .rw[if_neg q,if_neg q];exact r g
 .by_cases q:g=f
  .rw[q];exact(Do f y fs).1
  .refine(Do f y fs).2 g (wi g λ z=>hg ?_);show(if g=f then some u else mA g)=none;rw[if_neg q];exact z
def XAt(H:Hp)(C dx a:Addr):Prop:=H a=some (C7 C dx a)\/∃T,H a=some (Fo C (some dx) a T)
theorem XAt.same{H':Hp}(h:XAt H C dx a)(s:Same H H'):XAt H' C dx a:=h.imp (λ z=>s _ _ z) λ⟨T,z⟩=>⟨T,s _ _ z⟩
theorem XAt.obj(I:Inv X pins σ H s)(h:XAt H C dx a):∃vs sl,s.heap.get? a=some ⟨.ref C,some dx,.fields vs,sl⟩:=by
 rcases h with h|⟨T,h⟩
 .obtain⟨⟨vs,sl,hx,_⟩,_⟩:=(show ObjOk X.prog X.w H s.heap a (C7 C dx a) from I.hok a _ h);exact⟨vs,sl,hx⟩
 .obtain⟨⟨vs,sl,hx,_⟩,_⟩:=(show ObjOk X.prog X.w H s.heap a (Fo C (some dx) a T) from I.hok a _ h);exact⟨vs,sl,hx⟩
theorem O2{b:Bool}{Q:VPz}(I:Inv X pins σ H s)(e:XAt H C dx a)(ed:H dx=some (Ce dx fs))(c:XCls X.K C)(n:NoAttr X.K C f)(l:fs.lookup f=some v)
  (h:∀u s',Inv X pins σ H s'->RelV v u->Q u s'):wpAny (model X.prog X.w) A (getAttr (.ref a) f b) Q E s:=by
 obtain⟨vs,sl,hx⟩:=e.obj I;obtain⟨⟨mA,hn,r,wi⟩,_⟩:=(show ObjOk X.prog X.w H s.heap dx (Ce dx fs) from I.hok dx _ ed);obtain⟨u,hu,ru⟩:=RelO.some_of (v:=v) (o:=mA f) (by rw[<-l];exact r f);obtain⟨od,ho,hl⟩:=IS hn;have J:InstAt s.heap a ⟨.ref C,some dx,.fields vs,sl⟩ C (some od):=⟨hx,rfl,rfl,ho⟩;exact Rn I.kIn J c.ex c.ga c.gh (findObj_own c.hd n rfl (by rw[hl,hu])) (IY ru) (h u _ (I.tok _) ru)
end
theorem PB{K:Frag}{x D:Addr}(c:XCls K D):KitX K (.ref x) (.ref D) (λ h=>∃(ox:Obj)(od:Option Obj),InstAt h x ox D od) where
 ty:=λ_ _ _ ⟨_,_,I⟩=>I.type
 it:=λ_ _ X _=>by
  obtain⟨cdD,hcD,_⟩:=any_some c.hd;unfold clsIn at hcD;split at hcD
  .rename_i c' d' cd' sl' ho;intro A' Q' E' s' k q;unfold isType loadHead;exact wpAny_bind (wpAny_loadPart (k _ _ (X _ _ ho)) (wpAny_pure q))
  .cases hcD
 ne:=λ h tp dd its n sl X htp=>by
  obtain⟨cdD,hcD,_⟩:=any_some c.hd;refine Bool.eq_false_iff.mpr λ q=>?_;have e:D=tp:=Value.ref.inj (beq_iff_eq.mp q);subst e;unfold clsIn at hcD;split at hcD
  .rename_i c' d' cd' sl' ho;have z:=(X _ _ ho).symm.trans htp;cases z
  .cases hcD
 ca:=λ{prog w A E Q s} X ⟨ox,od,I⟩ h=>by
  have hf:findObj K D od "__class__"=some (.bind (.builtin "getset_descriptor.__get__") (.builtin "object.__class__")):=by
   obtain⟨cd,hc,_⟩:=any_some c.hd;unfold findObj;rw[hc,Option.bind_some,c.ca,Option.bind_some];simp[c.gn,c.tk]
  exact O9 X I c.ex c.ga c.gh hf c.mo h
def IsExc(H:Hp)(a C:Addr):Prop:=(∃dx fs,XAt H C dx a/\H dx=some (Ce dx fs))\/H a=some (Gj C a)\/∃T,H a=some (Fo C none a T)
theorem IsExc.same{H H':Hp}{a C:Addr}(h:IsExc H a C)(s:Same H H'):IsExc H' a C:=by
 rcases h with ⟨dx,fs,h1,h2⟩|h|⟨T,h⟩
 .exact .inl ⟨dx,fs,h1.same s,s _ _ h2⟩
 .exact .inr (.inl (s _ _ h))
 .exact .inr (.inr ⟨T,s _ _ h⟩)
section
variable{X:Cx}
theorem M8{pins:PNz}{σ:St}{H:Hp}{s:Shared}{a C:Addr}(I:Inv X pins σ H s)(h:IsExc H a C):∃(ox:Obj)(od:Option Obj),InstAt s.heap a ox C od:=by
 rcases h with ⟨dx,fs,h1,h2⟩|h|⟨T,h⟩
 .obtain⟨vs,sl,hx⟩:=h1.obj I;obtain⟨⟨mA,hn,_⟩,_⟩:=(show ObjOk X.prog X.w H s.heap dx (Ce dx fs) from I.hok dx _ h2);obtain⟨o,_,_,ho,_⟩:=hn;exact⟨_,some o,⟨hx,rfl,rfl,ho⟩⟩
 .obtain⟨⟨vs,sl,hx,_⟩,_⟩:=(show ObjOk X.prog X.w H s.heap a (Gj C a) from I.hok a _ h);exact⟨_,none,⟨hx,rfl,rfl,trivial⟩⟩
 .obtain⟨⟨vs,sl,hx,_⟩,_⟩:=(show ObjOk X.prog X.w H s.heap a (Fo C none a T) from I.hok a _ h);exact⟨_,none,⟨hx,rfl,rfl,trivial⟩⟩
end
def R9(K:Frag)(ta:TE)(f:Str):TE:=λ σ H Q=>ta σ H λ x H1=>∃a C dx fs v,x=.ref a/\XAt H1 C dx a/\H1 dx=some (Ce dx fs)/\XCls K C/\NoAttr K C f/\fs.lookup f=some v/\Q v H1
def Tm(K:Frag)(ta tv:TE)(f:Str):TS:=λ D σ H=>tv σ H λ y H1=>ta σ H1 λ x H2=>∃a C,x=.ref a/\XCls K C/\NoAttr K C f /\
 ((H2 a=some (Gj C a)/\∀d,H2 d=none->D.nx σ (upd (upd H2 d (Ce d [(f,y)])) a (C7 C d a)))\/∃dx fs,H2 a=some (C7 C dx a)/\H2 dx=some (Ce dx fs)/\fs.length<1000/\D.nx σ (upd H2 dx (Ce dx (Cy f y fs))))
section
variable{X:Cx}{o e value:Expr}{f:Str}{pos pos':Pos}{ta tv:TE}
theorem QN(he:PE X e ta)(hb:attributeBase e f X.env (eval e X.env)=eval e X.env):PE X (.Attribute e f pos) (R9 X.K ta f):=by
 intro pins s σ H Q I h;refine NC hb (thn (he pins s σ H _ I h) λ u s1 hz_=>?_);obtain⟨x,H1,I1,rx,a,C,dx,fs,v,ex,ea,ed,c,n,l,q⟩:=hz_;subst ex;obtain rfl:u=Value.ref a:=rx;exact O2 I1 ea ed c n l λ u' s2 I2 ru=>⟨v,H1,I2,ru,q⟩
theorem Ek(ha:PE X o ta)(hv:PE X value tv)(hs:swapsWith value (some (.Attribute o f pos')) pos.line X.env=pure false):PS X (.Assign [.Attribute o f pos'] value pos) (Tm X.K ta tv f):=by
 intro pins s σ H D I h;refine plainObj_wpAny_Assign_Attribute (thn (hv pins s σ H _ I h) λ u s1 hz_=>?_) hs;obtain⟨y,H1,I1,ry,q⟩:=hz_;refine thn (ha pins s1 σ H1 _ I1 q) λ ov s2 hz_=>?_;obtain⟨x,H2,I2,rx,a,C,ex,c,n,q2⟩:=hz_;subst ex;obtain rfl:ov=Value.ref a:=rx;rcases q2 with ⟨e0,q2⟩|⟨dx,fs,e1,e2,l,q2⟩
 .exact Mg I2 e0 c n ry λ s3 d hd I3=>⟨σ,_,I3,q2 d hd⟩
 .exact NY I2 e1 e2 c n l ry λ s3 I3=>⟨σ,_,I3,q2⟩
end
def Bj(K:Frag)(C:Addr)(fI:Addr):Bool:=match K.lookup C with
 |some ⟨.type "type",_,.cls cd,sl⟩=>(match cd.mro,sl.toList with
  |.ref C'::bm,[_,_,_,_,some (.builtin n),_]=>C'==C&&n=="ValueError.__new__"&&!cd.hasDel&&tailIn K vErr bm&&nsOkIn K cd.ns&&nsIn K cd.ns "__init__"==some (some (.ref fI))
  |_,_=>false)
 |_=>false
theorem Mz{K:Frag}{h:Heap}{N:Addr}{mg:MGz}{n:Str}{v:Value}(X:K.In h)(G:h.Ns N mg)(e:nsIn K N n=some (some v)):mg n=some v:=by
 obtain⟨o,es,ep,ho,hd,_,hf⟩:=G;unfold nsIn at e;split at e
 .rename_i c d es' n' sl q;have:=X _ _ q;rw[ho]at this;cases this;cases hd;split at e
  .rename_i e' he;cases e;rw[<-hf];unfold nsFind findBy;rw[<-Array.find?_toList,he];rfl
  .split at e<;>cases e
 .cases e
structure XMk(K:Frag)(C fI:Addr):Prop where
 cl:XCls K C
 ei:Bj K C fI=true
 kp:keepIn K (.ref C)=true
 fn:isFn K (.ref fI)=true
theorem XMk.call{K:Frag}{C fI:Addr}(M:XMk K C fI){prog:Program}{w:World}{A:Around}{E:VPz}{s:Shared}{rest:LWz}{Q:VPz}(X:K.In s.heap)(hrest:rest.length<=sizeLine)
  (hq:wpAny (model prog w) (A.under (.builtin "type.__call__" ⟨.ref C::rest,[]⟩)) (call (.ref fI) (.ref (s.heap.objs.size+1)::rest)) (λ r s'=>r=.none/\Q (.ref (s.heap.objs.size+1)) s') E { s with heap:=Ca s.heap C rest }) :
  wpAny (model prog w) A (call (.ref C) rest) Q E s:=by
 obtain⟨hh,g,d,t,os⟩:=s;have q:=M.ei;have fnt:typeIn K (.ref fI)=some (.type "function"):=beq_iff_eq.mp M.fn;have hfI:∃oI:Obj,hh.get? fI=some oI/\oI.cls=.type "function":=by
  cases z:K.lookup fI with
  |none=>simp[typeIn,z]at fnt
  |some o=>exact⟨o,X _ _ z,by simpa [typeIn,z] using fnt⟩
 obtain⟨oI,hoI,hcI⟩:=hfI;unfold Bj at q;split at q
 .rename_i dd cd sl ho;split at q
  .rename_i C' bm k0 k1 k2 k3 n k5 hm hs;simp only[Bool.and_eq_true,beq_iff_eq,Bool.not_eq_true']at q;obtain⟨⟨⟨⟨⟨rfl,rfl⟩,hdel⟩,ht⟩,hok⟩,hni⟩:=q;obtain⟨nm,bs,mro,ns,qn,hd,sn,sub,ab,col,del⟩:=cd;dsimp only at hm hdel hok hni;subst hm hdel;have hsl:sl=#[k0,k1,k2,k3,some (.builtin "ValueError.__new__"),k5]:=by
    obtain⟨l⟩:=sl;simp only at hs;rw[hs]
   subst hsl;have G:hh.Ns ns (hh.nsMap ns):=.of_isNs (isNs_of_in X hok);exact OB PySem.F.excBase_ValueError (tail_of_in X ht) (X _ _ ho) G (Mz X G hni) hoI hcI hrest hq
  .cases q
 .cases q
theorem ObjOk.there{P:Program}{w:World}{H:Hp}{h:Heap}{a:Addr}{o:HO}(x:ObjOk P w H h a o):∃u,h.get? a=some u:=by
 cases o with
 |lst xs=>obtain⟨_,_,_,_,e⟩:=x;exact⟨_,e⟩
 |tup xs=>obtain⟨_,_,_,p⟩:=x;obtain⟨_,e,_⟩:=p;exact⟨_,e⟩
 |dK kvs=>obtain⟨_,_,_,_,o,_,_,e,_⟩:=x;exact⟨_,e⟩
 |dT kvs=>obtain⟨_,_,_,_,o,_,_,e,_⟩:=x;exact⟨_,e⟩
 |set S n=>obtain⟨o,_,_,_,e,_⟩:=x;exact⟨_,e⟩
 |ins C dx fs=>obtain⟨_,_,_,e,_⟩:=x;exact⟨_,e⟩
 |own y=>obtain⟨_,e⟩:=x;exact⟨_,e⟩
 |xd fs=>obtain⟨_,⟨_,_,_,e,_⟩,_⟩:=x;exact⟨_,e⟩
 |rng lo hi=>obtain⟨_,_,_,e⟩:=x;exact⟨_,e⟩
 |frz ob u=>obtain⟨e,_⟩:=x;exact⟨_,e⟩
 |tbl ps=>exact⟨_,(show h.get? a=some _ from x)⟩
 |met f y=>exact⟨_,(show h.get? a=some _ from x)⟩
 |ext φ=>obtain⟨_,⟨_,e⟩,_⟩:=x;exact⟨_,e⟩
def K5(C:Addr)(names:LSz):Sp:=λ vs H Q _=>∃x ws,vs=.ref x::ws/\ws.length=names.length/\H x=some (Gj C x) /\
 ∀d H',H d=none->H' x=some (C7 C d x)->H' d=some (Ce d (names.zip ws))->(∀a o,a≠x->H a=some o->H' a=some o)->Q .non H'
structure Cf(P:Program)(w:World)(K:Frag)(mg:MGz)(base:Heap)(k:Nat)(x:Str)(C:Addr)(ps names:LSz):Prop where
 few:names.length<=1000
 ex:∃(f:Addr)(fd:FuncData),XMk K C f/\FnOk P w K mg base CX0 k f fd ps (K5 C names)/\mg x=some (.ref C)/\Binds K fd ps []
section
variable{X:Cx}{CX:CXT}{k j:Nat}{f C:Addr}{fd:FuncData}{ps names:LSz}{sp:Sp}{E:XK}{x m:Str}{p pos apos:Pos}{e o:Expr}{es:List Expr}{ta:TE}{t:TA}
theorem QC{pins:PNz}{σ:St}{H:Hp}{s:Shared}{Q:VK}{us:LWz}{vs:LUz}(M:XMk X.K C f)(F:FnOk X.prog X.w X.K X.mg X.base CX k f fd ps sp)(hr:Room (k+1) X.A)(hb:Binds X.K fd ps [])
  (hx:DC CX X E) (I:Inv X pins σ H s) (r:Vals vs us) (hz:vs.length<=1000)
  (h:∀x,H x=none->sp (.ref x::vs) (upd H x (Gj C x)) (λ v H2=>v=.non/\Q (.ref x) H2) E) :
  wpAny (model X.prog X.w) X.A (call (.ref C) us) (EP X pins σ Q) X.xe s:=by
 have hq:=h (s.heap.objs.size+1) (I.hok.fresh (Nat.le_succ _));have hus:us.length<=sizeLine:=by rw[<-r.length,sizeLine_eq];lia
 have I2:Inv X pins σ (upd H (s.heap.objs.size+1) (Gj C (s.heap.objs.size+1))) { s with heap:=Ca s.heap C us } :=
  I.laid (t':=s.toks) (λ b u z=>BU z) (Nat.le_succ _) (Rv (IM C us) rfl)
 have r2:Vals (V.ref (s.heap.objs.size+1)::vs) (Value.ref (s.heap.objs.size+1)::us):=.cons rfl r;have hl:(Value.ref (s.heap.objs.size+1)::us++[]).length=ps.length:=by
  have e:=r2.length;rw[F.len _ _ _ _ hq]at e;rw[List.append_nil];exact e.symm
 have hb2:=hb { s with heap:=Ca s.heap C us } (Value.ref (s.heap.objs.size+1)::us) I2.kIn hl;rw[List.append_nil]at hb2;refine M.call I.kIn hus (wpAny_call (codeAny_mono (F.run _ X.stack _ _ ⟨Value.ref (s.heap.objs.size+1)::us,[]⟩ (Value.ref (s.heap.objs.size+1)::us) _ _ E (hr.make C us [])
  (I2.env0.make C us []) hb2 r2 hq) λ r s' hq'=>?_))
 cases r with
 |error e=>exact hx pins σ _ _ e s' I2 hq'
 |ok fl =>
  cases fl with
  |ret u =>
   obtain⟨v,H',I3,rv,ev,q3⟩:=I2.after hq';subst ev;exact⟨rv,⟨V.ref (s.heap.objs.size+1),H',I3,rfl,q3⟩⟩
  |next=>exact False.elim hq'
  |brk=>exact False.elim hq'
  |cont=>exact False.elim hq'
end
structure HI(fr tt:List Addr)(e T:Addr)(fl cls:Value)(d:Option Addr)(h h':Heap):Prop where
 nT:h.get? T=none
 keep:∀b o,b≠e->b∉fr->b∉tt->h.get? b=some o->h'.get? b=some o
 slot:∀b o,b∈fr->h.get? b=some o->∃sl,h'.get? b=some { o with slots:=sl }
 exc:∃vs sl,h'.get? e=some ⟨cls,d,.fields vs,sl⟩/\vs[1]?=some (.ref T)
 tb:∃o ts,h'.get? T=some o/\o.data=.fields ts/\ts[3]?=some fl
 old:∀t o ts,t∈tt->t≠e->h.get? t=some o->o.data=.fields ts->3<ts.size->∃o' ts',h'.get? t=some o'/\o'.data=.fields ts'/\ts'[3]?=some Value.none
section
variable{M:Model}{A:Around}{E:VPz}{s:Shared}{base:Heap}{env:Env}{outer:List Env}{L e:Addr}{cls:Value}{d:Option Addr}{vs:Array Value}{sl:AOz}{Q:Unit->Shared->Prop}
theorem GZ{head:Value}{hadNext:Bool}(hfr:A.frames=some (env::outer))(hl:s.heap.FunFrames base (env::outer))(hf:env.frame=some L)(he:s.heap.get? e=some ⟨cls,d,.fields vs,sl⟩)(hsz:1<vs.size)
    (h:∀h' T,HI (frs (env::outer)) [] e T (rawInt L) cls d s.heap h'->Q () { s with heap:=h' }) :
    wpAny M A (do
      let a <-frameOf env
      let pl <-entryPlaceOf L hadNext
      let b <-EntryCells.newEntry head a .none (rawInt L) .none pl
      setField (.ref e) 1 b) Q E s:=by
  have hne:e∉frs (env::outer):=λ hm=>by
    obtain⟨_,o,ho,hnf⟩:=hl.mem hm;rw[he]at ho;cases ho;exact hnf vs rfl
  refine wpAny_bind (wpAny_frameOf_fun hfr hl hf λ h₁ hs=>wpAny_bind (wpAny_entryPlaceOf λ pl hpl=>?_));unfold EntryCells.newEntry newFields;refine wpAny_bind (wpAny_newObj_type ?_ (hpl.sizeOk5 _ _ _ _ _));have e1:h₁.get? e=some ⟨cls,d,.fields vs,sl⟩:=(hs.2.1 e hne).trans he;generalize hob:({ cls:=.type "traceback",dict:=none,data:=.fields ([head,.ref L,.none,rawInt L,.none]++(if pl.isEmpty then List.replicate 6 Value.none else pl)).toArray }:Obj)=ob;have hfb:ob.isFreed=false:=by rw[<-hob];rfl
  have e2:=Heap.get?_push_of_some (h:=h₁) ob e1;refine wpAny_setField e2 rfl hsz (h _ h₁.objs.size ?_);have nTe:h₁.objs.size≠e:=Nat.ne_of_gt (Heap.lt_size e1);have kp:∀b o,b≠e->h₁.get? b=some o->((h₁.push ob).update e (Obj.mapFields (·.setIfInBounds 1 (Value.ref h₁.objs.size)))).get? b=some o:=λ b o nb hb=>by
    rw[Heap.get?_update_other _ _ (Ne.symm nb)];exact Heap.get?_push_of_some _ hb
  refine⟨Heap.get?_none_of_le (Nat.le_of_eq hs.1.symm),λ b o nb nf _ hb=>kp b o nb ((hs.2.1 b nf).trans hb),λ b o bf hb=>?_,⟨vs.setIfInBounds 1 (.ref h₁.objs.size),sl,?_,by simp[hsz]⟩,⟨ob,([head,.ref L,.none,rawInt L,.none]++(if pl.isEmpty then List.replicate 6 Value.none else pl)).toArray,?_,by rw[<-hob],?_⟩,λ_ _ _ z=>nomatch z⟩
  · obtain⟨sl',z⟩:=hs.2.2 b o hb
    exact⟨sl',kp b _ (λ q=>hne (q ▸ bf)) z⟩
  · exact Heap.get?_update_self _ e2 rfl
  · rw[Heap.get?_update_other _ _ (Ne.symm nTe)];exact Heap.get?_push_size _ hfb
  · simp
theorem Lf(hfr:A.frames=some (env::outer))(hl:s.heap.FunFrames base (env::outer))(hf:env.frame=some L)(he:s.heap.get? e=some ⟨cls,d,.fields vs,sl⟩)(h1:vs[1]?=some Value.none)
  (h:∀h' T,HI (frs (env::outer)) [] e T (rawInt L) cls d s.heap h'->Q () { s with heap:=h' }):wpAny M A (noteFrame (.ref e) env) Q E s:=by
 unfold noteFrame;simp only[hf];refine wpAny_bind (wpAny_field he rfl h1 ?_);rw[if_neg (by decide)];exact GZ hfr hl hf he (Array.getElem?_eq_some_iff.mp h1).1 h
theorem Ol{T1:Addr}{oT:Obj}{ts:Array Value}(hfr:A.frames=some (env::outer))(hl:s.heap.FunFrames base (env::outer))(hf:env.frame=some L)(he:s.heap.get? e=some ⟨cls,d,.fields vs,sl⟩)(h1:vs[1]?=some (.ref T1))
  (hT:s.heap.get? T1=some oT) (hd:oT.data=.fields ts) (h3:ts[3]?=some Value.none) (ne:T1≠e)
  (h:∀h' T,HI (frs (env::outer)) [T1] e T (rawInt L) cls d s.heap h'->Q () { s with heap:=h' }):wpAny M A (noteFrame (.ref e) env) Q E s:=by
 unfold noteFrame;simp only[hf];refine wpAny_bind (wpAny_field he rfl h1 ?_);rw[if_pos (show(Value.ref T1 != Value.none)=true from by simp)];refine wpAny_bind (wpAny_field hT hd h3 ?_);rw[if_neg (show ¬((Value.none==rawInt L)=true) from by simp[rawInt])];have hs3:3<ts.size:=(Array.getElem?_eq_some_iff.mp h3).1;refine wpAny_bind (wpAny_setField hT hd hs3 ?_);have oth:∀b,b≠T1->(s.heap.update T1 (Obj.mapFields (·.setIfInBounds 3 Value.none))).get? b=s.heap.get? b:=λ b hb=>Heap.get?_update_other _ _ (Ne.symm hb);have nT1:T1∉frs (env::outer):=λ hm=>by
  obtain⟨_,o,ho,hnf⟩:=hl.mem hm;rw[hT]at ho;cases ho;exact hnf ts hd
 have self:(s.heap.update T1 (Obj.mapFields (·.setIfInBounds 3 Value.none))).get? T1=some (Obj.mapFields (·.setIfInBounds 3 Value.none) oT):=Heap.get?_update_self _ hT (Obj.isFreed_of_fields (Obj.data_mapFields hd _));refine GZ (s:={ s with heap:=s.heap.update T1 (Obj.mapFields (·.setIfInBounds 3 Value.none)) }) hfr (hl.of_keeps λ b o hb hnf=>⟨o,(oth b λ q=>?_).trans hb,rfl⟩) hf ((oth e (Ne.symm ne)).trans he) (Array.getElem?_eq_some_iff.mp h1).1 λ h' T n=>h h' T ?_
 .rw[q,hT]at hb;cases hb;exact hnf ts hd
 .have nT':s.heap.get? T=none:=by
   by_cases q:T=T1
   .have:=n.nT;rw[q]at this;rw[self]at this;cases this
   .rw[<-oth T q];exact n.nT
  refine⟨nT',λ b o nb nf nt hb=>n.keep b o nb nf (by simp) ((oth b (by simpa using nt)).trans hb),λ b o bf hb=>n.slot b o bf ((oth b λ q=>nT1 (q ▸ bf)).trans hb),n.exc,n.tb,λ t o us ht hte hb hdo hsz=>?_⟩;obtain rfl:t=T1:=by simpa using ht
  rw[hT]at hb;cases hb;rw[hd]at hdo;cases hdo;exact⟨_,_,n.keep t _ hte nT1 (by simp) self,Obj.data_mapFields hd _,by simp[hs3]⟩
theorem Hl{T:Addr}{oT:Obj}{ts:Array Value}(he:s.heap.get? e=some ⟨cls,d,.fields vs,sl⟩)(h1:vs[1]?=some (.ref T))(hT:s.heap.get? T=some oT)(hd:oT.data=.fields ts)(hs3:3<ts.size)
  (h:∀h',(∀b,b≠T->h'.get? b=s.heap.get? b)->(∃o' ts',h'.get? T=some o'/\o'.data=.fields ts'/\ts'[3]?=some Value.none)->Q () { s with heap:=h' }):wpAny M A (setFlight (.ref e) none) Q E s:=by
 unfold setFlight;refine wpAny_bind (wpAny_field he rfl h1 ?_);rw[if_pos (show(Value.ref T != Value.none)=true from by simp)];refine wpAny_setField hT hd hs3 (h _ (λ b hb=>Heap.get?_update_other _ _ (Ne.symm hb)) ⟨_,_,Heap.get?_update_self _ hT (Obj.isFreed_of_fields (Obj.data_mapFields hd _)),Obj.data_mapFields hd _,by simp[hs3]⟩)
end
section
variable{prog:Program}{w:World}{A:Around}{E:VPz}{s:Shared}{K:Frag}{C fI e:Addr}{d:Option Addr}{env:Env}
theorem Ml{x:Sem Value}{Q:Flow->Shared->Prop}(M:XMk K C fI)(hh:A.handled=none)
  (h:wpAny (model prog w) A x (λ v s₁=>∃e d vs sl,v=.ref e/\K.In s₁.heap/\s₁.heap.get? e=some ⟨.ref C,d,.fields vs,sl⟩/\vs[1]?=some Value.none/\E (.ref e) s₁) E s) :
  wpAny (model prog w) A (raiseStmt env (some x) none) Q E s:=by
 unfold raiseStmt;refine wpAny_bind (wpAny_mono h (λ v s₁ h₁=>?_) λ_ _ x=>x);obtain⟨e,d,vs,sl',rfl,X,he,h1,hE⟩:=h₁;obtain⟨hp,g,dr,tk,os⟩:=s₁;have q:=M.ei;unfold Bj at q;split at q
 .rename_i dd cd sl ho;split at q
  .rename_i C' bm k0 k1 k2 k3 n k5 hm hs;simp only[Bool.and_eq_true,beq_iff_eq,Bool.not_eq_true']at q;obtain⟨⟨⟨⟨⟨rfl,rfl⟩,hdel⟩,ht⟩,hok⟩,hni⟩:=q;obtain⟨nm,bs,mro,ns,qn,hd,sn,sub,ab,col,del⟩:=cd;dsimp only at hm hdel hok hni;subst hm hdel;have hsl:sl=#[k0,k1,k2,k3,some (.builtin "ValueError.__new__"),k5]:=by
    obtain⟨l⟩:=sl;simp only at hs;rw[hs]
   subst hsl;have hC:hp.get? C'=some (excClassObj nm qn C' ns bs bm hd sn sub ab col dd k0 k1 k2 k3 k5 "ValueError.__new__"):=X _ _ ho;have hcB:(Value.ref C'::bm).contains (.type "BaseException")=true:=by
    rw[List.contains_cons,(tail_of_in X ht).hasType (show vErr.contains (.type "BaseException")=true by decide +kernel)];exact Bool.or_true _
   repeat (first|with_reducible refine wpAny_field he rfl h1 ?_|with_reducible refine wpAny_loadPart_at he ?_|with_reducible refine wpAny_loadPart_at hC ?_|(with_reducible refine wpAny_isSubtype_exc hC ?_;rw[hcB])|wp_step)
   exact wpAny_raiseNew_none hh hE
  .cases q
 .cases q
end
def TbO(T:Addr):HO:=.ext λ h=>∃o ts,h.get? T=some o/\o.data=.fields ts/\ts[3]?=some Value.none
theorem Mb{P:Program}{w:World}{H:Hp}{h:Heap}{T:Addr}(t:∃o ts,h.get? T=some o/\o.data=.fields ts/\ts[3]?=some Value.none):ObjOk P w H h T (TbO T) :=
 ⟨t,let ⟨o,_,e,_⟩:=t;⟨o,e⟩,λ_ _ ⟨o,ts,e,r⟩ k=>⟨o,ts,k _ e,r⟩⟩
def NP(H:Hp)(x C:Addr)(d:Option Addr):Prop:=(d=none/\H x=some (Gj C x))\/∃dx,d=some dx/\H x=some (C7 C dx x)
def CD(H:Hp)(x C:Addr)(d:Option Addr)(T:Addr):Prop:=H x=some (Fo C d x T)/\H T=some (TbO T)/\T≠x
def thrown(H:Hp)(x C:Addr)(d:Option Addr)(T:Addr):Hp:=upd (upd H T (TbO T)) x (Fo C d x T)
theorem Da{H:Hp}{x C T:Addr}{d:Option Addr}:thrown H x C d T x=some (Fo C d x T):=Ac
theorem EU{H:Hp}{x C T:Addr}{d:Option Addr}(n:T≠x):thrown H x C d T T=some (TbO T):=by unfold thrown;rw[Ai n,Ac]
theorem AB{H:Hp}{x C T b:Addr}{d:Option Addr}(n:b≠x)(m:b≠T):thrown H x C d T b=H b:=by unfold thrown;rw[Ai n,Ai m]
section
variable{X:Cx}{pins:PNz}{σ:St}{H:Hp}{s:Shared}{x C T:Addr}{d:Option Addr}{h1 h2:Heap}{fl:Value}{tt:List Addr}
theorem QR(I:Inv X pins σ H s){φ:Heap->Prop}(hx:H x=some (.ext φ))(htt:∀t∈tt,H t=some (TbO t)/\t≠x)(n:HI (frs X.stack) tt x T fl (.ref C) d s.heap h1)(k2:∀b,b≠T->h2.get? b=h1.get? b)
  (t2:∃o ts,h2.get? T=some o/\o.data=.fields ts/\ts[3]?=some Value.none):H T=none/\T≠x/\Un (frs X.stack) [] H (thrown H x C d T) s.heap h2/\HOk X.prog X.w (thrown H x C d T) h2:=by
 have hT:H T=none:=by
  cases q:H T with
  |none=>rfl
  |some u =>
   obtain⟨o,ho⟩:=(I.hok T u q).there;rw[n.nT]at ho;cases ho
 have nTx:T≠x:=λ z=>by rw[z,hx]at hT;cases hT
 have tn:∀b o,s.heap.get? b=some o->b≠T:=λ b o e z=>by rw[z,n.nT]at e;cases e
 have un:∀b,H b=none->b≠x:=λ b e z=>by rw[z,hx]at e;cases e
 have ut:∀b,H b=none->b∉tt:=λ b e z=>by rw[(htt b z).1]at e;cases e
 have hb:∀b u,H b=some u->b≠T:=λ b u e z=>by rw[z,hT]at e;cases e
 have old:∀t∈tt,∃o' ts',h2.get? t=some o'/\o'.data=.fields ts'/\ts'[3]?=some Value.none:=λ t ht=>by
  obtain⟨e,ne⟩:=htt t ht;obtain⟨⟨o,ts,e1,e2,e3⟩,_⟩:=(show ObjOk X.prog X.w H s.heap t (TbO t) from I.hok t _ e);obtain⟨o',ts',f1,f2,f3⟩:=n.old t o ts ht ne e1 e2 (Array.getElem?_eq_some_iff.mp e3).1;exact⟨o',ts',(k2 t (hb t _ e)).trans f1,f2,f3⟩
 have exc:∃vs sl,h2.get? x=some ⟨.ref C,d,.fields vs,sl⟩/\vs[1]?=some (.ref T):=by
  obtain⟨vs,sl,e1,e2⟩:=n.exc;exact⟨vs,sl,(k2 x (Ne.symm nTx)).trans e1,e2⟩
 have ne_ext:∀b u,H b=some u->(∀ψ,u≠.ext ψ)->b≠x:=λ b u e z q=>by rw[q,hx]at e;cases e;exact z _ rfl
 refine⟨hT,nTx,⟨λ b o q e nf _=>?_,λ b o q e bf _=>?_,λ b o q e _=>?_,λ b o q _=>?_,λ b xs e=>?_,λ b o u e=>?_,λ b ps e=>⟨#[],?_⟩⟩,λ b u e=>?_⟩
 .exact(k2 b (tn b o q)).trans (n.keep b o (un b e) nf (ut b e) q)
 .obtain⟨sl,z⟩:=n.slot b o bf q;exact⟨sl,(k2 b (tn b o q)).trans z⟩
 .rw[AB (un b e) (tn b o q)];exact e
 .by_cases z:b=x
  .obtain⟨vs,sl,e1,_⟩:=exc;exact⟨_,z ▸ e1⟩
  .by_cases zf:b∈frs X.stack
   .obtain⟨sl,z⟩:=n.slot b o zf q;exact⟨_,(k2 b (tn b o q)).trans z⟩
   .by_cases zt:b∈tt
    .obtain⟨o',_,e1,_⟩:=old b zt;exact⟨o',e1⟩
    .exact⟨o,(k2 b (tn b o q)).trans (n.keep b o z zf zt q)⟩
 .rw[AB (ne_ext b _ e λ ψ z=>by cases z) (hb b _ e)];exact e
 .rw[AB (ne_ext b _ e λ ψ z=>by cases z) (hb b _ e)];exact e
 .rw[AB (ne_ext b _ e λ ψ z=>by cases z) (hb b _ e),e];simp
 .by_cases z:b=x
  .subst z;rw[Da]at e;cases e;obtain⟨vs,sl,e1,e2⟩:=exc;exact Rt e1 e2
  .by_cases zT:b=T
   .subst zT;rw[EU nTx]at e;cases e;exact Mb t2
   .rw[AB z zT]at e;by_cases zt:b∈tt
    .rw[(htt b zt).1]at e;cases e;exact Mb (old b zt)
    .have own_ne:∀c,H c=some (.own b)->c≠x/\c≠T:=λ c hc=>⟨ne_ext c _ hc (λ ψ z=>by cases z),hb c _ hc⟩;refine(I.hok b u e).stay (λ c v hc q=>?_) (λ c q=>?_) λ c xs q=>?_
     .have hcH:∃y,H c=some y:=by
       rcases hc with rfl|hc
       .exact⟨u,e⟩
       .exact⟨_,hc⟩
      obtain⟨y,hy⟩:=hcH;refine(k2 c (hb c y hy)).trans (n.keep c v ?_ (λ zf=>by rw[I.stkFree c zf]at hy;cases hy) (λ zt'=>?_) q)
      .rcases hc with rfl|hc
       .exact z
       .exact(own_ne c hc).1
      .rcases hc with rfl|hc
       .exact zt zt'
       .rw[(htt c zt').1]at hc;cases hc
     .rw[AB (own_ne c q).1 (own_ne c q).2];exact q
     .rw[AB (ne_ext c _ q λ ψ z=>by cases z) (hb c _ q)];exact q
theorem FS{E:VPz}{Q:Unit->Shared->Prop}(I:Inv X pins σ H s)(hst:X.stack=X.env::X.outer)(hfr:X.env.frame=some X.env.locals)(hf:NP H x C d\/∃T,CD H x C d T)
  (h:∀h' T,H T=none->T≠x->Inv X pins σ (thrown H x C d T) { s with heap:=h' }->Q () { s with heap:=h' }) :
  wpAny (model X.prog X.w) X.A (noteFrame (.ref x) X.env) (λ_ s₂=>wpAny (model X.prog X.w) X.A (setFlight (.ref x) none) Q E s₂) E s:=by
 have fr:X.A.frames=some (X.env::X.outer):=hst ▸ I.ok.frames;have ff:s.heap.FunFrames X.base (X.env::X.outer):=hst ▸ I.stack;have rest:∀{φ:Heap->Prop}{tt:List Addr}(hx:H x=some (.ext φ))(htt:∀t∈tt,H t=some (TbO t)/\t≠x)(h1:Heap)(T:Addr),HI (frs (X.env::X.outer)) tt x T (rawInt X.env.locals) (.ref C) d s.heap h1 ->
   wpAny (model X.prog X.w) X.A (setFlight (.ref x) none) Q E { s with heap:=h1 }:=λ{φ tt} hx htt h1 T n=>by
  obtain⟨vs,sl,e1,e2⟩:=n.exc;obtain⟨o,ts,f1,f2,f3⟩:=n.tb;refine Hl (s:={ s with heap:=h1 }) e1 e2 f1 f2 (Array.getElem?_eq_some_iff.mp f3).1 λ h2 k2 t2=>?_;obtain⟨hT,nT,un,ok⟩:=QR I hx htt (hst ▸ n) k2 t2;exact h h2 T hT nT (I.call (g':=s.gens) (d':=s.drawn) (t':=s.toks) (ch:=[]) un ok I.bare (λ b z=>absurd z (by simp)))
 rcases hf with (⟨rfl,hx⟩|⟨dx,rfl,hx⟩)|⟨T,hx,hT,ne⟩
 .obtain⟨⟨vs,sl,e1,e2⟩,_⟩:=(show ObjOk X.prog X.w H s.heap x (Gj C x) from I.hok x _ hx);exact Lf fr ff hfr e1 e2 λ h1 T n=>rest (tt:=[]) hx (λ t z=>absurd z (by simp)) h1 T n
 .obtain⟨⟨vs,sl,e1,e2⟩,_⟩:=(show ObjOk X.prog X.w H s.heap x (C7 C dx x) from I.hok x _ hx);exact Lf fr ff hfr e1 e2 λ h1 T n=>rest (tt:=[]) hx (λ t z=>absurd z (by simp)) h1 T n
 .obtain⟨⟨vs,sl,e1,e2⟩,_⟩:=(show ObjOk X.prog X.w H s.heap x (Fo C d x T) from I.hok x _ hx);obtain⟨⟨o,ts,f1,f2,f3⟩,_⟩:=(show ObjOk X.prog X.w H s.heap T (TbO T) from I.hok T _ hT);exact Ol fr ff hfr e1 e2 f1 f2 f3 ne λ h1 T' n=>rest (tt:=[T]) hx (λ t z=>by rw[List.mem_singleton.mp z];exact⟨hT,ne⟩) h1 T' n
theorem Ot{E:VPz}{Q:Unit->Shared->Prop}(I:Inv X pins σ H s)(hst:X.stack=X.env::X.outer)(hfr:X.env.frame=some X.env.locals)(hf:NP H x C d\/∃T,CD H x C d T)
  (h:∀h' T,H T=none->T≠x->Inv X pins σ (thrown H x C d T) { s with heap:=h' }->Q () { s with heap:=h' }):wpAny (model X.prog X.w) X.A (leaving X.env (.ref x)) Q E s:=by
 unfold leaving;exact wpAny_bind (FS I hst hfr hf h)
end
def CX1(P:Program)(w:World):CXT:=λ outer H s E e s'=>∃x T C d H',e=Value.ref x/\s'.os=s.os/\AllBare s'.gens/\Un (frs outer) [] H H' s.heap s'.heap/\HOk P w H' s'.heap/\CD H' x C d T/\E (.ref x) d H'
def SO(X:Cx)(E:XK):Prop:=∀(pins:PNz)(σ:St)(H:Hp)(s:Shared)(x C:Addr)(d:Option Addr),Inv X pins σ H s->(NP H x C d\/∃T,CD H x C d T) ->
 (∀T,H T=none->T≠x->E (.ref x) d (thrown H x C d T))->X.xe (.ref x) s
section
variable{P:Program}{w:World}{K:Frag}{mg:MGz}{base:Heap}{N:LSz}{qual:Str}{scope:Scope}{f:Addr}{cd:Value}{A:Around}{outer:List Env}{s:Shared}{H:Hp}{E E₁:XK}
theorem AE:SO (BF (CX1 P w) P w K mg base N qual scope f cd A outer s H E) E:=by
 intro pins σ H1 s1 x C d I hf hE;exact Ot I rfl rfl hf λ h' T hT nT I'=>⟨x,T,C,d,_,rfl,I'.os,I'.bare,I'.base,I'.hok,⟨Da,EU nT,nT⟩,hE T hT nT⟩
theorem D6:PassesOwn (model (BF (CX1 P w) P w K mg base N qual scope f cd A outer s H E).prog (BF (CX1 P w) P w K mg base N qual scope f cd A outer s H E).w) (BF (CX1 P w) P w K mg base N qual scope f cd A outer s H E).A (BF (CX1 P w) P w K mg base N qual scope f cd A outer s H E).env (BF (CX1 P w) P w K mg base N qual scope f cd A outer s H E).xe:=PassesOwn.leaving
end
section
variable{X:Cx}{E E₁:XK}
theorem BC(hX:SO X E)(h:∀x C d T T2 H',E₁ (.ref x) d H'->CD H' x C d T->H' T2=none->T2≠x->E (.ref x) d (thrown H' x C d T2)):DC (CX1 X.prog X.w) X E₁:=by
 rintro pins σ H s e s' I ⟨x,T,C,d,H',rfl,os,bare,un,hok,fl,q⟩;obtain⟨hh,g,dr,t,os'⟩:=s';obtain rfl:os'=s.os:=os;exact hX pins σ H' _ x C d (I.call (h':=hh) (g':=g) (d':=dr) (t':=t) (ch:=[]) un hok bare (λ b z=>absurd z (by simp))) (.inr ⟨T,fl⟩) λ T2 h2 n2=>h x C d T T2 H' q fl h2 n2
end
theorem Fun.okx{P:Program}{w:World}{K:Frag}{mg:MGz}{base:Heap}{x qual:Str}{st:Stmt}{f:Addr}{fd:FuncData}{N ps:LSz}{k:Nat}{sp:Sp}(F:Fun K x qual st f fd)(S:Ak N ps (Ag st))(len:∀vs H Q E,sp vs H Q E->vs.length=ps.length)
  (hbody:∀(cdv:Value)(A:Around)(outer:List Env)(s:Shared)(H:Hp)(vs:LUz)(Q:VK)(E:XK),Room k (A.deeper (envOfC qual (Ag st) s.heap.objs.size f cdv))->sp vs H Q E ->
   ∃t,PSs (BF (CX1 P w) P w K mg base N qual (Ag st) f cdv A outer s H E) (Ar st) t/\t { nx:=λ_ H'=>Q .non H',rt:=Q } (start N vs) H):FnOk P w K mg base (CX1 P w) (k+1) f fd ps sp:=by
 obtain⟨oc,od,kV,doc,pm,an,cdv,ct,osl,rfl,lk,hcd⟩:=F.ex;exact Lv lk hcd S len λ A outer s H vs Q E hr hsp=>hbody cdv A outer s H vs Q E hr hsp
structure AT(P:Program)(w:World)(K:Frag)(mg:MGz)(base:Heap)(k:Nat)(x:Str)(ps:LSz)(sp:Sp):Prop where
 ex:∃(f:Addr)(fd:FuncData),FnOk P w K mg base (CX1 P w) k f fd ps sp/\mg x=some (.ref f)/\keepIn K (.ref f)=true/\Binds K fd ps []
def Sn(C:Addr)(names:LSz)(E:XK)(t:TA):TS:=λ_ σ H=>t σ H λ vs H1=>vs.length=names.length /\
 ∀y dx T H2,H1 y=none->Same H1 H2->H2 y=some (C7 C dx y)->H2 dx=some (Ce dx (names.zip vs))->dx≠y->H2 T=none->T≠y->E (.ref y) (some dx) (thrown H2 y C (some dx) T)
section
variable{X:Cx}{k j:Nat}{x:Str}{C:Addr}{ps names:LSz}{sp:Sp}{p pos cpos:Pos}{e:Expr}{es:List Expr}{t:TA}{E E₁:XK}
theorem BB(D:AT X.prog X.w X.K X.mg X.base k x ps sp)(hr:Room j X.A)(hx:DC (CX1 X.prog X.w) X E₁)(ha:PA X (e::es) t)(hj:k<=j:=by decide)(hg:Gl X x:=by rfl)(hdb:(x==("__debug__":Str))=false:=by decide)
  (he:starEach (e::es) X.env=(false,eval e X.env)::starEach es X.env:=by rfl) (hpl:(backTo pos (starEach es X.env)).any (·.1)=false:=by rfl):PE X (.Call (.Name x p) (e::es) [] pos) (K4 sp [] E₁ t):=by
 obtain⟨f,fd,F,hm,hk,hb⟩:=D.ex;exact No F (hr.mono hj) hg hm hk hb .nil hx ha hdb he hpl
theorem BV(hX:SO X E)(D:Cf X.prog X.w X.K X.mg X.base k x C ps names)(hr:Room j X.A)(ha:PA X (e::es) t)(hc:X.calm=true:=by rfl)(hj:k+1<=j:=by decide)(hg:Gl X x:=by rfl)(hdb:(x==("__debug__":Str))=false:=by decide)
  (he:starEach (e::es) X.env=(false,eval e X.env)::starEach es X.env:=by rfl) (hpl:(backTo cpos (starEach es X.env)).any (·.1)=false:=by rfl):PS X (.Raise (some (.Call (.Name x p) (e::es) [] cpos)) none pos) (Sn C names E t):=by
 intro pins s σ H Dd I h;obtain⟨f,fd,M,F,hm,hb⟩:=D.ex;have pe:wpAny (model X.prog X.w) X.A (eval (.Call (.Name x p) (e::es) [] cpos) X.env) (EP X pins σ λ v H2=>∃y d,v=V.ref y/\NP H2 y C d/\∀T,H2 T=none->T≠y->E (.ref y) d (thrown H2 y C d T)) X.xe s:=by
  refine wpAny_Call_Name_kw (Cj I hg hm ?_ hdb);refine callWith_K (h₀:=X.base) I.ok.mod.kin M.kp (thn (ha cpos pins s σ H _ I h) λ us s1 ⟨vs,H1,I1,r,hl,q⟩=>⟨I1.kIn,?_⟩) he hpl;refine QC M F (hr.mono hj) hb GH I1 r (hl ▸ D.few) λ y hy=>⟨y,vs,rfl,hl,Ac,λ d H' hd h1 h2 hs=>⟨rfl,y,some d,rfl,.inr ⟨d,rfl,h1⟩,λ T hT nT=>?_⟩⟩;refine q y d T H' hy (λ a o ho=>hs a o (Ah ho hy) ?_) h1 h2 (λ z=>by rw[z,Ac]at hd;cases hd) hT nT;rw[Ai (Ah ho hy)];exact ho
 rw[arm_exec_Raise];simp only[evalOpt,Option.map];refine wpAny_bind (wpAny_standAt (Ml M (I.ok.hd hc) ?_));refine wpAny_bind (thn pe λ v s1 ⟨u,H2,I2,r,y,d,ey,fr,hE⟩=>wpAny_bind (wpAny_standAt (wpAny_pure ?_)));subst ey;obtain rfl:v=Value.ref y:=r;have ob:∃vs sl,s1.heap.get? y=some ⟨.ref C,d,.fields vs,sl⟩/\vs[1]?=some Value.none:=by
  rcases fr with ⟨rfl,hx⟩|⟨dx,rfl,hx⟩
  .exact(show ObjOk X.prog X.w H2 s1.heap y (Gj C y) from I2.hok y _ hx).1
  .exact(show ObjOk X.prog X.w H2 s1.heap y (C7 C dx y) from I2.hok y _ hx).1
 obtain⟨vs,sl,e1,e2⟩:=ob;exact⟨y,d,vs,sl,rfl,I2.kIn,e1,e2,hX pins σ H2 s1 y C d I2 (.inl fr) hE⟩
end
def D9:Nat->Heap
 |0=>{}
 |n+1=>(D9 n).push { cls:=.type "dict",data:=.dict #[] }
theorem D8:∀n,(D9 n).objs.size=n
 |0=>rfl
 |n+1=>by rw[D9,Heap.size_push,D8 n]
theorem Lw{C C' x T T':Addr}{d d':Option Addr}(h:Fo C d x T=Fo C' d' x T'):C=C'/\d=d'/\T=T':=by
 have h:(HO.ext λ h=>∃vs sl,h.get? x=some ⟨.ref C,d,.fields vs,sl⟩/\vs[1]?=some (.ref T))=HO.ext λ h=>∃vs sl,h.get? x=some ⟨.ref C',d',.fields vs,sl⟩/\vs[1]?=some (.ref T'):=h;injection h with h;have e:=congrFun h ((D9 x).push ⟨.ref C,d,.fields #[.none,.ref T],#[]⟩);have g:((D9 x).push ⟨.ref C,d,.fields #[.none,.ref T],#[]⟩).get? x=some ⟨.ref C,d,.fields #[.none,.ref T],#[]⟩:=Heap.get?_push_at (D8 x).symm rfl;have q:=e.mp ⟨_,_,g,rfl⟩;obtain⟨vs,sl,e1,e2⟩:=q;rw[g]at e1;cases e1;cases e2;exact⟨rfl,rfl,rfl⟩
def XR(H:Hp)(x C:Addr)(d:Option Addr)(fs:LFz):Prop:=(∃dx,d=some dx/\dx≠x/\H dx=some (Ce dx fs))/\∃T,H x=some (Fo C d x T)
theorem OQ{H1 H2:Hp}{y C dx T:Addr}{fs:LFz}(hy:H1 y=none)(s:Same H1 H2)(e:H2 y=some (C7 C dx y))(ed:H2 dx=some (Ce dx fs))(hT:H2 T=none)(nd:dx≠y) :
  XR (thrown H2 y C (some dx) T) y C (some dx) fs/\Same H1 (thrown H2 y C (some dx) T) :=
 ⟨⟨⟨dx,rfl,nd,by rw[AB nd (Ah ed hT)];exact ed⟩,T,Da⟩,λ a o ho=>by rw[AB (Ah ho hy) (Ah (s a o ho) hT)];exact s a o ho⟩
theorem SY{H H1:Hp}{x C C':Addr}{d:Option Addr}{T T2:Addr}{fs:LFz}(hx:H1 x=none)(s:Same H1 H)(r:XR H x C d fs)(fl:CD H x C' d T)(hT:H T2=none) :
  C=C'/\XR (thrown H x C' d T2) x C d fs/\Same H1 (thrown H x C' d T2):=by
 obtain⟨⟨dx,rfl,nd,ed⟩,T',e⟩:=r;have q:C=C':=by
  have:=fl.1;rw[e]at this;exact(Lw (Option.some.inj this)).1
 subst q;exact⟨rfl,⟨⟨dx,rfl,nd,by rw[AB nd (Ah ed hT)];exact ed⟩,T2,Da⟩,λ a o ho=>by rw[AB (Ah ho hx) (Ah (s a o ho) hT)];exact s a o ho⟩
def Rf(H:Hp)(E:XK)(C:Addr)(P:LFz->Hp->Prop):Prop:=∀x d fs H',H x=none->Same H H'->XR H' x C (some d) fs->P fs H'->E (.ref x) (some d) H'
theorem Rf.raise{H H1 H2:Hp}{E:XK}{C y dx T:Addr}{P:LFz->Hp->Prop}{fs:LFz}(r:Rf H E C P)(s1:Same H H1)(hy:H1 y=none)(s:Same H1 H2)(e:H2 y=some (C7 C dx y))(ed:H2 dx=some (Ce dx fs))(nd:dx≠y)
  (hT:H2 T=none) (p:P fs (thrown H2 y C (some dx) T)):E (.ref y) (some dx) (thrown H2 y C (some dx) T):=by
 obtain⟨a,b⟩:=OQ hy s e ed hT nd;have hy0:H y=none:=by
  cases q:H y with
  |none=>rfl
  |some o=>rw[s1 y o q]at hy;cases hy
 exact r y dx fs _ hy0 (s1.trans b) a p
def XE(H:Hp)(R:Addr->LFz->Hp->Prop):XK:=λ v d H'=>∃x C dx fs,v=.ref x/\d=some dx/\H x=none/\Same H H'/\XR H' x C (some dx) fs/\R C fs H'
theorem XE.on{H H0:Hp}{R:Addr->LFz->Hp->Prop}{E:XK}(s0:Same H0 H)(st:∀C fs H' x C' d T2,R C fs H'->(∃φ,H' x=some (.ext φ))->H' T2=none->R C fs (thrown H' x C' d T2))(hE:∀C,Rf H0 E C (R C)) :
  ∀x C d T T2 H',XE H R (.ref x) d H'->CD H' x C d T->H' T2=none->T2≠x->E (.ref x) d (thrown H' x C d T2):=by
 rintro x C d T T2 H' ⟨x',C',dx,fs,ev,rfl,hx,s,r,p⟩ fl hT2 nT2;obtain rfl:x=x':=Value.ref.inj ev;have hx0:H0 x=none:=by
  cases q:H0 x with
  |none=>rfl
  |some o=>rw[s0 x o q]at hx;cases hx
 obtain⟨rfl,r2,s2⟩:=SY hx s r fl hT2;exact hE C' x dx fs _ hx0 (s0.trans s2) r2 (st C' fs H' x C' (some dx) T2 p ⟨_,fl.1⟩ hT2)
def Stb(P:LFz->Hp->Prop):Prop:=∀fs H' x C' d T2,P fs H'->(∃φ,H' x=some (.ext φ))->H' T2=none->P fs (thrown H' x C' d T2)
theorem Pb{l:LFz}:Stb λ fs _=>fs=l:=λ_ _ _ _ _ _ p _ _=>p
def RU(H:Hp)(E:XK):Addr->LFz->Hp->Prop:=λ C fs H'=>∃P,Rf H E C P/\P fs H'/\Stb P
theorem DT{H:Hp}{E:XK}:∀x C d T T2 H',XE H (RU H E) (.ref x) d H'->CD H' x C d T->H' T2=none->T2≠x->E (.ref x) d (thrown H' x C d T2) :=
 XE.on (Same.refl H) (λ C fs H' x C' d T2 ⟨P,r,p,st⟩ hx hT=>⟨P,r,st fs H' x C' d T2 p hx hT,st⟩) λ C x d fs H' hx s r ⟨P,rf,p,_⟩=>rf x d fs H' hx s r p
theorem Tq{H H2:Hp}{E:XK}{C:Addr}{P:LFz->Hp->Prop}(s:Same H H2)(r:Rf H E C P)(st:Stb P):Rf H2 (XE H (RU H E)) C P:=λ x d fs H' hx s2 xr p=>by
 have hx0:H x=none:=by
  cases q:H x with
  |none=>rfl
  |some o=>rw[s x o q]at hx;cases hx
 exact⟨x,C,d,fs,rfl,rfl,hx0,s.trans s2,xr,P,r,p,st⟩
section
variable{X:Cx}{pins:PNz}{σ:St}{H:Hp}{s:Shared}
theorem Go{M:Model}{A:Around}{E:VPz}{i:Nat}{n:Str}{pos:Pos}{Q:Unit->Shared->Prop}(I:Inv X pins σ H s)(hN:X.N.Nodup)(hi:X.N[i]?=some n)(hk:X.env.scope.names.lookup n=some .local)
    (h:∀s',Inv X pins (σ.set i none) H s'->Q () s'):wpAny M A (do bindName X.env n .none;unbindBehindTheSuite X.env n pos) Q E s:=by
  obtain⟨m,hn,hl⟩:=id I.loc;have hcls:(X.env.scope.kind==.class||(X.env.scope.kind==.module&&X.env.locals != X.env.globals))=false:=by rw[I.ok.kind];rfl
  have hiσ:i<σ.length:=by rw[I.len];exact(List.getElem?_eq_some_iff.mp hi).1
  refine wpAny_nameGoes_keeps hk hn hcls λ h' v hn' hs=>h _ ?_;have nl:∀b o,X.s₀.heap.get? b=some o->b≠X.env.locals:=λ b o e=>Nat.ne_of_lt (Nat.lt_of_lt_of_le (Heap.lt_size e) I.ok.above);refine⟨I.ok,I.os,I.bare,⟨λ b o e z hb hx=>(hs.2 b (nl b o e)).trans (I.base.keep b o e z hb hx),λ b o e z hb hx=>?_,I.base.free,λ b o e hx=>?_,I.base.tups,I.base.frzs,I.base.tbls⟩,⟨_,hn',λ j y v' e1 e2 e3=>?_⟩,λ y c e=>?_,I.free,I.freeC,λ p hp=>?_,λ b ob e=>?_,by simpa using I.len⟩
  · obtain⟨sl,e1⟩:=I.base.slot b o e z hb hx
    exact⟨sl,(hs.2 b (nl b o e)).trans e1⟩
  · obtain⟨o',e1⟩:=I.base.there b o e hx
    exact⟨o',(hs.2 b (nl b o e)).trans e1⟩
  · by_cases hj:j=i
    · subst hj
      rw[List.getElem?_set_self hiσ]at e2;cases e2
    · rw[List.getElem?_set_ne (Ne.symm hj)]at e2
      obtain⟨u',r',q⟩:=hl j y v' e1 e2 e3;refine⟨u',r',?_⟩;rcases q with ⟨k,e⟩|⟨k,c,e,z⟩
      · have ny:y≠n:=λ e=>hj (Ha hN e1 (e ▸ hi))
        exact .inl ⟨k,by simp[ny,e]⟩
      · exact .inr ⟨k,c,e,z.sameBut hs (I.cne y c e)⟩
  · obtain⟨w',z⟩:=I.cell y c e
    exact⟨w',z.sameBut hs (I.cne y c e)⟩
  · obtain⟨e,z,ne,nf,d⟩:=I.pin p hp
    exact⟨(hs.2 p.1 ne).trans e,z,ne,nf,d⟩
  · refine(I.hok b ob e).stay (λ c w' hc q=>(hs.2 c ?_).trans q) (λ_ q=>q) λ_ _ q=>q
    rintro rfl;rcases hc with hc|hc
    · rw[<-hc,I.free]at e;cases e
    · rw[I.free]at hc;cases hc
abbrev Cx.suite(X:Cx)(x:Addr):Cx:={ X with A:=X.A.mark (some (.ref x)),calm:=false,xe:=λ_ _=>False }
theorem Inv.suite(I:Inv X pins σ H s)(x:Addr):Inv (X.suite x) pins σ H s :=
 ⟨⟨I.ok.mod,I.ok.kind,I.ok.glob,I.ok.blt,I.ok.above,I.ok.inj,I.ok.has,I.ok.cab,(λ z=>nomatch z),I.ok.frames,I.ok.stk,I.ok.exf,I.ok.bs,I.ok.bsz,I.ok.noex,I.ok.exfs,I.ok.funs,I.ok.frf⟩,I.os,I.bare,I.base,I.loc,I.cell,I.free,I.freeC,I.pin,I.hok,I.len⟩
theorem Inv.unsuite{ok:X.Ok}{x:Addr}(I:Inv (X.suite x) pins σ H s):Inv X pins σ H s :=
 ⟨ok,I.os,I.bare,I.base,I.loc,I.cell,I.free,I.freeC,I.pin,I.hok,I.len⟩
end
def PX(X:Cx)(e:Expr)(t:TE)(E:XK):Prop:=∀(pins:PNz)(s:Shared)(σ:St)(H:Hp)(Q:VK)(Ex:VPz),Inv X pins σ H s->t σ H Q ->
 (∀x T C d H' s',Inv X pins σ H' s'->CD H' x C d T->E (.ref x) d H'->Ex (.ref x) s')->wpAny (model X.prog X.w) X.A (eval e X.env) (EP X pins σ Q) Ex s
section
variable{X:Cx}{k j:Nat}{x:Str}{C:Addr}{ps:LSz}{sp:Sp}{p pos:Pos}{e:Expr}{es:List Expr}{t:TA}{E:XK}
theorem KJ(D:AT X.prog X.w X.K X.mg X.base k x ps sp)(hr:Room j X.A)(ha:PA X.nox (e::es) t)(hj:k<=j:=by decide)(hg:Gl X x:=by rfl)(hdb:(x==("__debug__":Str))=false:=by decide)
  (he:starEach (e::es) X.env=(false,eval e X.env)::starEach es X.env:=by rfl) (hpl:(backTo pos (starEach es X.env)).any (·.1)=false:=by rfl):PX X (.Call (.Name x p) (e::es) [] pos) (K4 sp [] E t) E:=by
 obtain⟨f,fd,F,hm,hk,hb⟩:=D.ex;intro pins s σ H Q Ex I h hx;refine wpAny_Call_Name_kw (Cj I hg hm ?_ hdb);refine callWith_K (h₀:=X.base) I.ok.mod.kin hk (wpAny_mono (ha pos pins s σ H _ (I.wish _) h) (λ us s1 ⟨vs,H1,I1',r,q⟩=>⟨I1'.unwish.kIn,?_⟩) λ_ _ z=>False.elim z) he hpl;have I1:Inv X pins σ H1 s1:=I1'.unwish;have q:sp (vs++[]) H1 Q E:=q;rw[List.append_nil]at q;have hl:us.length=ps.length:=by rw[<-r.length];exact F.len _ _ _ _ q
 have hb2:=hb s1 us I1.kIn (by rw[List.append_nil];exact hl);rw[List.append_nil]at hb2;refine wpAny_call (codeAny_mono (F.run X.A X.stack s1 H1 ⟨us,[]⟩ us vs Q E (hr.mono hj) I1.env0 hb2 r q) λ r s' hq=>?_);cases r with
 |error e =>
  obtain⟨x,T,C,d,H',rfl,os,bare,un,hok,fl,q'⟩:=hq;exact hx x T C d H' s' (I1.call' (ch:=[]) os un hok bare (λ b z=>absurd z (by simp))) fl q'
 |ok fl =>
  cases fl with
  |ret u=>exact I1.after hq
  |next=>exact False.elim hq
  |brk=>exact False.elim hq
  |cont=>exact False.elim hq
end
def RN(im:Nat)(D:Eb):Eb:={ nx:=λ σ H=>D.nx (σ.set im none) H,rt:=D.rt,bk:=λ σ H=>D.bk (σ.set im none) H,ct:=λ σ H=>D.ct (σ.set im none) H }
def OX(wi:TI)(g:TG)(tc:TT)(te:TE)(fr:List (Option Nat)):TE:=λ σ H Q=>wi σ H λ J H1=>∀acc,H1 acc=none->∃W:Nat->Nat->St->Hp->Prop,(∃m,W 0 m (stC fr σ) (upd H1 acc (.lst [])))/\∀i m σ1 H2,W i m σ1 H2 ->
 (J.stop i H2/\Q (.ref acc) H2)\/(J.go i H2/\∀x H3,J.yld i H2 x H3->g x σ1 H3 λ σ4 H4=>tc σ4 H4 λ b Hb=>match b with
  |true=>te σ4 Hb λ v H5=>∃xs,H5 acc=some (.lst xs)/\xs.length<sizeLine/\∃m',m'<m/\W (i+1) m' σ4 (upd H5 acc (.lst (xs++[v])))
  |false=>∃m',m'<m/\W (i+1) m' σ4 Hb)
section
variable{prog:Program}{w:World}{A:Around}{R:Result->Shared->Prop}{s:Shared}
theorem Ih{elt target iter cnd:Expr}{scope:Scope}{pos:Pos}{it acc:Value}{env:Env}(I:Nat->Shared->Prop)
    (turn:∀n s,I n s->wpAny (model prog w) A (pyNext it) (λ r s₁=>match r with
      |none=>R (.ok .next) s₁
      |some v=>wpAny (model prog w) A (letOwnedTupleGo target it v) (λ_ s₁=>wpAny (model prog w) A (assign target env v) (λ_ s₂ =>
          wpAny (model prog w) A (forIn [cnd] true λ c r=>if r=true then do let ok <-isTrue c env (eval c env);pure (ForInStep.yield ok) else pure (ForInStep.yield r)) (λ ok s₃ =>
            if ok=true then wpAny (model prog w) A (eval elt env) (λ x s₄=>wpAny (model prog w) A (call (.builtin "list.append") [acc,x]) (λ_ s₅=>∃m,m<n/\I m s₅) (notedBy (model prog w) A env λ e s'=>R (.error e) s') s₄)
              (notedBy (model prog w) A env λ e s'=>R (.error e) s') s₃
            else ∃m,m<n/\I m s₃) (notedBy (model prog w) A env λ e s'=>R (.error e) s') s₂)
          (notedBy (model prog w) A env λ e s'=>R (.error e) s') s₁) (notedBy (model prog w) A env λ e s'=>R (.error e) s') s₁) (notedBy (model prog w) A env λ e s'=>R (.error e) s') s)
    (n:Nat) (h:I n s) :
    codeAny (model prog w) A (.compLoop (.ListComp elt [⟨target,iter,[cnd],0⟩] scope pos) 0 it acc env) R s:=by
  refine codeAny_loop rfl I (λ n s hI=>?_) n h;show wpAny _ _ ((compTurn (.ListComp elt [⟨target,iter,[cnd],0⟩] scope pos) 0 it acc env).onRaise (λ x=>do noteFrame x env;theTreesLotGoes x)) _ _ s;refine wpAny_noted ?_;rw[compTurn_list];refine wpAny_bind (wpAny_standAt (wpAny_bind (wpAny_mono (turn n s hI) (λ r s₁ h₁=>?_) λ_ _ h'=>h')));cases r with
  |none=>exact wpAny_pure h₁
  |some v =>
    refine wpAny_bind (wpAny_mono h₁ (λ_ s₁ h₁=>?_) λ_ _ h'=>h');refine wpAny_bind (wpAny_mono h₁ (λ_ s₂ h₂=>wpAny_bind (wpAny_mono h₂ (λ ok s₃ h₃=>?_) λ_ _ h'=>h')) λ_ _ h'=>h');cases ok with
    |false=>exact wpAny_pure ⟨rfl,h₃⟩
    |true=>exact wpAny_bind (wpAny_bind (wpAny_mono h₃ (λ x s₄ h₄=>wpAny_bind (wpAny_mono h₄ (λ_ s₅ h₅=>wpAny_pure (wpAny_pure ⟨rfl,h₅⟩)) λ_ _ h'=>h')) λ_ _ h'=>h'))
end
section
variable{X:Cx}{elt tg iter:Expr}{scope:Scope}{pos:Pos}{wi:TI}{g:TG}{te:TE}{N:LSz}{fr:List (Option Nat)}
variable{cnd:Expr}{tc:TT}
theorem MM{pins:PNz}{σ:St}{H:Hp}{s:Shared}{Q:VK}{cl:List (Str×Addr)}{R:Value->Addr->Result->Shared->Prop}(hc:X.calm=true)(I:Inv X pins σ H s)(hi:PI X tg iter wi)
  (hg:∀cl C s H ex,PG (AS X scope cl N C s H ex) tg g) (hcn:∀cl C s H ex,PT (AS X scope cl N C s H ex) cnd tc) (he:∀cl C s H ex,PE (AS X scope cl N C s H ex) elt te) (ck:Fp X.env.scope X.N scope N fr)
  (c1:∀x c,cl.lookup x=some c->X.env.cells.lookup x=some c) (c2:∀x,(x,NameKind.free)∈scope.names->∃c,cl.lookup x=some c)
  (h:OX wi g tc te fr σ H Q)
  (hR:∀acc C s' H' m,s'.heap.Ns C m->EN X pins H' C->Inv X pins σ H' s'->Q (.ref acc) H'->R (.ref acc) C (.ok .next) s') :
  wpAny (model X.prog X.w) X.A (eval iter X.env) (λ x s₁=>wpAny (model X.prog X.w) X.A (pyIter x) (λ it s₂=>wpAny (model X.prog X.w) X.A (newList []) (λ acc s₃ =>
   wpAny (model X.prog X.w) X.A (newFunctionEnv scope X.env.globals cl [] X.env.qual none .none (some X.env)) (λ cenv s₄ =>
    codeAny (model X.prog X.w) X.A (.compStart (.ListComp elt [⟨tg,iter,[cnd],0⟩] scope pos) 0 it acc { cenv with scope:=relabel scope X.env }) (R acc cenv.locals) s₄) X.xe s₃) X.xe s₂) X.xe s₁) X.xe s:=by
 refine thn (hi pins s σ H _ I h) λ v s1 h1=>thn h1 λ itv s2 h2=>?_;obtain⟨it,fp,tn,J,H2,e,I2,T,st2,f2,q2⟩:=h2;subst e;refine wpAny_newObj_type (wpAny_newFunctionEnv ck.nocell (by intro y hy;simp at hy) (λ h₁ hns₁ hsb₁=>?_) ck.kind);dsimp only at hns₁ hsb₁ |-;have I3:Inv X pins σ (upd H2 s2.heap.objs.size (.lst [])) { s2 with heap:=s2.heap.push { cls:=.type "list",dict:=none,data:=.seq ([]:LWz).toArray } }:=I2.lnew (t':=s2.toks) (its:=[]) .nil (Nat.zero_le _);have acc0:H2 s2.heap.objs.size=none:=I2.fresh;obtain⟨W,⟨m0,w0⟩,turn⟩:=q2 s2.heap.objs.size acc0;generalize hH3:s2.heap.push { cls:=.type "list",dict:=none,data:=.seq ([]:LWz).toArray }=h3 at hns₁ hsb₁ I3 |-;have hz3:h3.objs.size=s2.heap.objs.size+1:=by rw[<-hH3,Heap.size_push]
 have k23:∀b o,s2.heap.get? b=some o->h3.get? b=some o:=λ b o e=>by rw[<-hH3];exact Heap.get?_push_of_some _ e
 have k34:∀b o,h3.get? b=some o->h₁.get? b=some o:=λ b o e=>hsb₁.extBut b o (Nat.ne_of_lt (Heap.lt_size e)) (Heap.get?_push_of_some _ e);have fpo:∀b∈fp,∃o,s2.heap.get? b=some o/\∀v,o.data≠.cell v:=T.obj 0 _ st2;have hex:∀b∈fp,EN X pins (upd H2 s2.heap.objs.size (.lst [])) b/\b<h3.objs.size:=λ b hb=>by
  obtain⟨o,eo,_⟩:=fpo b hb;have lt:=Heap.lt_size eo;obtain⟨f0,fr'⟩:=f2 b hb;exact⟨⟨by rw[Ai (Nat.ne_of_lt lt)];exact f0,fr'⟩,by rw[hz3];exact Nat.lt_succ_of_lt lt⟩
 have I4:Inv (AS X scope cl N h3.objs.size { s2 with heap:=h3 } (upd H2 s2.heap.objs.size (.lst [])) fp) [] (stC fr σ) (upd H2 s2.heap.objs.size (.lst [])) { s2 with heap:=h₁,toks:=s2.toks+([]:List (Str×Value)).length } :=
  Hv I3 ck c1 c2 hex (Nat.le_refl _) hns₁ k34 rfl rfl
 have stat:∀{H':Hp},(∀b∈fp,H' b=none)->∀b∈fp,EN (AS X scope cl N h3.objs.size { s2 with heap:=h3 } (upd H2 s2.heap.objs.size (.lst [])) fp) [] H' b:=λ hn b hb =>
  ⟨hn b hb,(I4.ok.exf b hb).1,I4.ok.exfs b hb,.inl hb,(I4.ok.exf b hb).2,λ p hp=>by simp at hp⟩
 have stn:∀i h h',tn i h->(∀b o,h.get? b=some o->h'.get? b=some o)->tn i h':=λ i h h' st kk=>T.keep i h h' st λ b _ o e=>kk b o e;have loop:codeAny (model X.prog X.w) X.A (.compLoop (.ListComp elt [⟨tg,iter,[cnd],0⟩] scope pos) 0 (.ref it) (.ref s2.heap.objs.size) (compEnvC scope cl h3.objs.size X.env)) (R (.ref s2.heap.objs.size) h3.objs.size)
   { s2 with heap:=h₁,toks:=s2.toks+([]:List (Str×Value)).length }:=by
  refine Ih (λ n s'=>∃i σ' H',Inv (AS X scope cl N h3.objs.size { s2 with heap:=h3 } (upd H2 s2.heap.objs.size (.lst [])) fp) [] σ' H' s'/\tn i s'.heap/\(∀b∈fp,H' b=none)/\W i n σ' H') ?_ m0
   ⟨0,_,_,I4,stn _ _ _ st2 λ b o e=>k34 b o (k23 b o e),λ b hb=>(hex b hb).1.1,w0⟩
  rintro n s3 ⟨i,σ3,H3,J3,st3,fr3,w3⟩;rcases turn i n σ3 H3 w3 with ⟨stop,qn⟩|⟨go,step⟩
  .refine Bz (thn (T.done (AS X scope cl N h3.objs.size { s2 with heap:=h3 } (upd H2 s2.heap.objs.size (.lst [])) fp) rfl rfl rfl hc i [] s3 σ3 H3 (λ_ _=>False) J3 (stat fr3) st3 stop) λ r s4 hz_=>?_);obtain⟨hr,J4⟩:=hz_;subst hr;obtain⟨mc,hmc,_⟩:=J4.loc;have I5:Inv X pins σ H3 s4:=I3.call' (ch:=fp) J4.os J4.base J4.hok J4.bare λ b hb=>⟨(hex b hb).1.2.2.2.1,(hex b hb).1.2.1,(hex b hb).1.2.2.2.2.1,(hex b hb).1.2.2.2.2.2⟩;exact hR _ _ s4 H3 mc hmc (I3.fpOk (Nat.le_refl _) J4.free) I5 qn
  .refine Bz (thn (T.item (AS X scope cl N h3.objs.size { s2 with heap:=h3 } (upd H2 s2.heap.objs.size (.lst [])) fp) rfl rfl rfl hc i [] s3 σ3 H3 (λ_ _=>False) J3 (stat fr3) st3 go) λ r s4 hz_=>?_);obtain⟨u,hr,h4⟩:=hz_;subst hr;refine Bz (thn h4 λ_ s5 hz_=>?_);obtain⟨x,H5,J5,r5,y5,st5,fr5⟩:=hz_;have J5':=J5.pinned (stat fr5) (T.obj _ _ st5);refine Bz (thn (hg _ _ _ _ _ _ s5 σ3 H5 x u _ J5' r5 (step x H5 y5)) λ_ s6 hz_=>?_);obtain⟨σ6,H6,J6,q6⟩:=hz_;refine wpAny_tests_one (Bz (thn (hcn _ _ _ _ _ _ s6 σ6 H6 _ J6 q6) λ b sb hz_=>?_));obtain⟨Hb,Jb,qb⟩:=hz_;cases b with
   |false =>
    obtain⟨m',hm',w7⟩:=qb;refine ite_ff ⟨m',hm',i+1,σ6,_,Jb.unpinned,T.keep _ _ _ st5 λ b hb o e=>(Jb.pin (b,o) (List.mem_append_right _ (List.mem_append_right _ (Bd hb e)))).1,λ b hb=>?_,w7⟩;obtain⟨o,e,d⟩:=T.obj _ _ st5 b hb;exact(Jb.pin (b,o) (List.mem_append_right _ (List.mem_append_right _ (Bd hb e)))).2.1
   |true =>
    refine ite_tt ?_;refine Bz (thn (he _ _ _ _ _ _ sb σ6 Hb _ Jb qb) λ y s7 hz_=>?_);obtain⟨v7,H7,J7,r7,xs,hx,hz,m',hm',w7⟩:=hz_;refine Bz (thn (AZ _ s7 σ6 H7 (.ref s2.heap.objs.size) [v7] (.ref s2.heap.objs.size) [y] (λ v H8=>H8=upd H7 s2.heap.objs.size (.lst (xs++[v7]))) J7 rfl (.cons r7 .nil) ⟨_,xs,v7,rfl,rfl,hx,hz,rfl⟩) λ_ s8 hz_=>?_);obtain⟨_,H8,J8,_,e8⟩:=hz_;subst e8;refine⟨m',hm',i+1,σ6,_,J8.unpinned,T.keep _ _ _ st5 λ b hb o e=>(J8.pin (b,o) (List.mem_append_right _ (List.mem_append_right _ (Bd hb e)))).1,λ b hb=>?_,w7⟩;obtain⟨o,e,d⟩:=T.obj _ _ st5 b hb;exact(J8.pin (b,o) (List.mem_append_right _ (List.mem_append_right _ (Bd hb e)))).2.1
 exact codeAny_compStart_list loop (T.self _ 0 _ _ _ (stn _ _ _ st2 λ b o e=>k34 b o (k23 b o e)) loop)
theorem KO{y:Str}{py spos:Pos}{gy:TG}(hc:X.calm=true)(hy:PG X (.Name y py) gy)(hi:PI X tg iter wi)(hg:∀cl C s H ex,PG (AS X scope cl N C s H ex) tg g)(hcn:∀cl C s H ex,PT (AS X scope cl N C s H ex) cnd tc)(he:∀cl C s H ex,PE (AS X scope cl N C s H ex) elt te)
    (hk:Fh X.env.scope X.N scope N fr=true:=by rfl) (hsw:swapsWith (.ListComp elt [⟨tg,iter,[cnd],0⟩] scope pos) (some (.Name y py)) spos.line X.env=pure true:=by rfl) (hs:∀x,foldedSetIterable iter X.env x=pure x:=by intro _;rfl) :
    PS X (.Assign [.Name y py] (.ListComp elt [⟨tg,iter,[cnd],0⟩] scope pos) spos) (Q7 (OX wi g tc te fr) gy):=by
  intro pins s σ H D I h;have ck:=EJ hk;obtain⟨cl,e1,c1,c2⟩:=Kf I.ok ck;rw[exec_Assign_Name_used _ _ _ _ hsw];refine wpAny_bind (wpAny_standAt (wpAny_bind ?_));show wpAny _ X.A (do let _ <-comprehension (.ListComp elt [⟨tg,iter,[cnd],0⟩] scope pos) scope X.env _ (newList []) false (eval iter X.env) (some (assign (.Name y py) X.env))) _ _ s;refine wpAny_bind (wpAny_mono (wpAny_comprehension_free (use:=some (assign (.Name y py) X.env)) (Q:=λ_ s'=>SP X pins D .next s') rfl hs e1 ck.kind ck.loc
    (MM (R:=λ acc C=>compPost (model X.prog X.w) X.A X.xe (some (assign (.Name y py) X.env)) (λ_ s'=>SP X pins D .next s') acc C) hc I hi hg hcn he ck c1 c2 h λ acc C s' H' m hn f I' q=>?_)) (λ_ s' hq=>wpAny_pure (wpAny_pure hq)) λ_ _ e=>e)
  show wpAny _ X.A (assign (.Name y py) X.env (.ref acc)) _ _ _;obtain⟨oC,es,ep,hoC,hdC,hrC⟩:=id hn;have IP:=I'.pinned (fp:=[C]) (λ b hb=>by rw[List.mem_singleton.mp hb];exact f) (λ b hb=>by rw[List.mem_singleton.mp hb];exact⟨oC,hoC,λ v z=>by rw[hdC]at z;cases z⟩);refine thn (hy _ s' σ H' (.ref acc) (.ref acc) _ IP rfl q) λ_ s'' ⟨σ6,H6,I6,q6⟩=>?_;have pC:=I6.pin (C,oC) (List.mem_append_right _ (List.mem_append_right _ (Bd (List.mem_singleton.mpr rfl) hoC)));obtain⟨f0,f1,f2,f3,f4,f5⟩:=f;exact⟨m,⟨oC,es,ep,pC.1,hdC,hrC⟩,λ h' hs'=>⟨σ6,H6,I6.unpinned.turned (t':=s''.toks) (λ b o hb e=>hs'.extBut b o hb e) pC.2.1 f1 f3 f4 f5,q6⟩⟩
end
section
variable{X:Cx}{a b c d:Expr}{ta tb tc td:TE}{pos:Pos}
theorem JU{K:Frag}(hK:X.K=K:=by rfl):IxR X (QF K):=by subst hK;exact An
theorem PF{K:Frag}(hK:X.K=K:=by rfl):IxR X (Tw K):=by subst hK;exact Bb
end
def fW(acc:Addr)(n:Nat)(Pv:Nat->LUz->St->Hp->Prop)(i m:Nat)(σ:St)(H:Hp):Prop:=i<=n/\m=n-i/\∃xs,xs.length<=i/\H acc=some (.lst xs)/\Pv i xs σ H
def fNx(acc:Addr)(n:Nat)(Pv:Nat->LUz->St->Hp->Prop)(i:Nat)(σ:St)(v:V)(H:Hp):Prop:=∃xs,H acc=some (.lst xs)/\xs.length<sizeLine/\∃m',m'<n-i/\fW acc n Pv (i+1) m' σ (upd H acc (.lst (xs++[v])))
def fSk(acc:Addr)(n:Nat)(Pv:Nat->LUz->St->Hp->Prop)(i:Nat)(σ:St)(H:Hp):Prop:=∃m',m'<n-i/\fW acc n Pv (i+1) m' σ H
theorem fNx.mk{acc:Addr}{n:Nat}{Pv:Nat->LUz->St->Hp->Prop}{i:Nat}{σ:St}{v:V}{H:Hp}{xs:LUz}(hn:n<=sizeLine)(hi:i<n)(hl:xs.length<=i)(ha:H acc=some (.lst xs))(hp:Pv (i+1) (xs++[v]) σ (upd H acc (.lst (xs++[v])))) :
  fNx acc n Pv i σ v H:=⟨xs,ha,by lia,n-(i+1),by lia,hi,rfl,xs++[v],by rw[List.length_append,List.length_singleton];lia,Ac,hp⟩
theorem fSk.mk{acc:Addr}{n:Nat}{Pv:Nat->LUz->St->Hp->Prop}{i:Nat}{σ:St}{H:Hp}{xs:LUz}(hi:i<n)(hl:xs.length<=i)(ha:H acc=some (.lst xs))(hp:Pv (i+1) xs σ H):fSk acc n Pv i σ H:=⟨n-(i+1),by lia,hi,rfl,xs,by lia,ha,hp⟩
theorem ML{K:Frag}{a:Addr}{ys:LUz}{g:TG}{tc:TT}{te:TE}{σ:St}{H1:Hp}{acc:Addr}{Qr:Hp->Prop}(Pv:Nat->LUz->St->Hp->Prop)(h0:Pv 0 [] σ (upd H1 acc (.lst [])))
  (hq:∀i xs σ H,i<=ys.length->H acc=some (.lst xs)->Pv i xs σ H->SqL K H a ys)
  (hs:∀i x xs σ H,ys[i]?=some x->i<ys.length->xs.length<=i->H acc=some (.lst xs)->Pv i xs σ H->g x σ H λ σ2 H2=>tc σ2 H2 λ b Hb=>match b with
   |true=>te σ2 Hb λ v H3=>fNx acc ys.length Pv i σ2 v H3
   |false=>fSk acc ys.length Pv i σ2 Hb)
  (hd:∀xs σ H,xs.length<=ys.length->H acc=some (.lst xs)->Pv ys.length xs σ H->Qr H) :
  ∃W:Nat->Nat->St->Hp->Prop,(∃m,W 0 m σ (upd H1 acc (.lst [])))/\∀i m σ1 H2,W i m σ1 H2 ->
   ((Itl K a).stop i H2/\Qr H2)\/((Itl K a).go i H2/\∀x H3,(Itl K a).yld i H2 x H3->g x σ1 H3 λ σ4 H4=>tc σ4 H4 λ b Hb=>match b with
    |true=>te σ4 Hb λ v H5=>∃xs,H5 acc=some (.lst xs)/\xs.length<sizeLine/\∃m',m'<m/\W (i+1) m' σ4 (upd H5 acc (.lst (xs++[v])))
    |false=>∃m',m'<m/\W (i+1) m' σ4 Hb):=by
 refine⟨fW acc ys.length Pv,⟨ys.length,Nat.zero_le _,rfl,[],Nat.le_refl _,Ac,h0⟩,?_⟩;rintro i m σ1 H2 ⟨hi,rfl,xs,hl,ha,hp⟩;have hsq:=hq i xs σ1 H2 hi ha hp;rcases Nat.lt_or_ge i ys.length with h|h
 .refine .inr ⟨⟨ys,ys[i],hsq,List.getElem?_eq_getElem h⟩,?_⟩;rintro x H3 ⟨rfl,hx⟩;exact hs i x xs σ1 H3 (hx ys hsq) h hl ha hp
 .have e:i=ys.length:=Nat.le_antisymm hi h;subst e;exact .inl ⟨⟨ys,hsq,Nat.le_refl _⟩,hd xs σ1 H2 hl ha hp⟩
theorem Paired.get{α β:Type}{F:α->β->Prop}:∀{l₁:List α}{l₂:List β},Paired F l₁ l₂->∀{i:Nat}{a:α},l₁[i]?=some a->∃b,l₂[i]?=some b/\F a b
 |_,_,.nil,i,a,h=>by simp at h
 |_,_,.cons f t,0,a,h=>by
  simp only[List.getElem?_cons_zero,Option.some.injEq]at h;subst h;exact⟨_,rfl,f⟩
 |_,_,.cons f t,i+1,a,h=>by
  simp only[List.getElem?_cons_succ]at h |-;exact Paired.get t h
def Th(mg:MGz)(x:Str)(tv:TE)(sp:Sp)(t:TA):TE:=λ σ H Q=>tv σ H λ v H1=>(∃f,v=.ref f/\mg x=some (.ref f))/\K4 sp [] E0 t σ H1 Q
section
variable{X:Cx}{k j:Nat}{x y:Str}{ps:LSz}{sp:Sp}{p pos:Pos}{e:Expr}{es:List Expr}{tv:TE}{t:TA}
theorem Mm(D:DefOk X.prog X.w X.K X.mg X.base k x ps sp)(hr:Room j X.A)(hv:PE X (.Name y p) tv)(ha:PA X (e::es) t)(hj:k<=j:=by decide)
  (he:starEach (e::es) X.env=(false,eval e X.env)::starEach es X.env:=by rfl) (hpl:(backTo pos (starEach es X.env)).any (·.1)=false:=by rfl):PE X (.Call (.Name y p) (e::es) [] pos) (Th X.mg x tv sp t):=by
 intro pins s σ H Q I h;obtain⟨f,fd,F,hm,hk,hb⟩:=D.ex;refine wpAny_Call_Name_kw (thn (hv pins s σ H _ I h) λ u s1 ⟨v,H1,I1,r1,⟨f',e1,e2⟩,q1⟩=>?_);subst e1;cases r1;rw[hm]at e2;cases e2;refine callWith_K (h₀:=X.base) I1.ok.mod.kin hk (thn (ha pos pins s1 σ H1 _ I1 q1) λ us s2 ⟨vs,H2,I2,r,q⟩=>⟨I2.kIn,?_⟩) he hpl;exact Pq F (hr.mono hj) hb .nil GH I2 r q
end
section
variable{prog:Program}{w:World}{A:Around}{E:VPz}{s:Shared}{it d v:Addr}{i n ep:Nat}{od:Obj}{es:Array DictEntry}{k0 v0:Value}
theorem M7{Q:VPz}(hs:(d==sysModules)=false)(hT:s.TypeIs (.ref d) "dict")
  (fin:Q (.ref s.heap.objs.size) { s with heap:=s.heap.push { cls:=.type "dict_items",data:=.fields #[.ref d] } }):wpAny (model prog w) A (call (.builtin "dict.items") [.ref d]) Q E s:=by
 refine wpAny_call_entry PySem.F.slot_dict_items hT PySem.F.entry_dict_items ?_ (PySem.F.args_dict_items_1 _);unfold Builtin.«dict.items» Builtin.Dict.noArgs;refine wpAny_bind (wpAny_bind (wpAny_notOrdered_dict hT ?_));show wpAny (model prog w) _ (pure d) _ _ s;refine wpAny_pure ?_;unfold Builtin.Dict.showsAll;have no:¬(d==sysModules)=true:=by rw[hs];exact Bool.false_ne_true
 rw[if_neg no];exact wpAny_bind (wpAny_pure (wpAny_bind (wpAny_newObj_type (wpAny_pure ⟨_,rfl,fin⟩))))
theorem Lo{Q:VPz}(hv:s.heap.IsItemsView v d)(hd:s.heap.get? d=some od)(dd:od.data=.dict es ep)(hn:es.size=n)
  (fin:Q (.ref s.heap.objs.size) { s with heap:=s.heap.push { cls:=.type "dict_itemiterator",data:=.fields #[.none,.bool false,.ref d,.int 0 0,.int n 0,.int ep 0,.none,.none] } }) :
  wpAny (model prog w) A (pyIter (.ref v)) Q E s:=by
 obtain⟨ov,g1,g2,g3⟩:=id hv;refine wpAny_pyIter_slot hv.typeIs PySem.F.slot_dict_items_iter (wpAny_call_entry PySem.F.slot_dict_items_iter hv.typeIs PySem.F.entry_dict_items_iter ?_ (PySem.F.args_dict_items_iter_1 _));unfold Builtin.«dict_items.__iter__» Builtin.Dict_items.dictOf Builtin.Dict_items.newIterator;refine wpAny_bind (wpAny_pure (wpAny_bind (wpAny_bind (wpAny_field g1 g3 (x:=.ref d) rfl (wpAny_pure ?_)))));refine wpAny_bind (wpAny_bind (wpAny_dictEntries hd dd (wpAny_bind (wpAny_dictEpoch hd dd ?_))));have own:Builtin.Dict_items.ownsTuple "dict_itemiterator"=true:=by decide
 simp only[own,if_true];refine wpAny_newObj_type (wpAny_pure ⟨_,rfl,"dict_itemiterator",_,⟨_,Heap.get?_push_size _ rfl,rfl⟩,PySem.F.slot_dict_itemiterator_next.lookup,?_⟩) ?_
 .subst hn
  simpa [rawInt,Builtin.Dict_items.ownedTupleFields] using fin
 .simp only[sizeOk,Builtin.Dict_items.ownedTupleFields,List.size_toArray,List.length_append,List.length_cons,List.length_nil,sizeLine_eq];lia
theorem Om{e:DictEntry}{Q:Option Value->Shared->Prop}(g:IsItemIter s.heap it d i n ep k0 v0)(hd:s.heap.get? d=some od)(dd:od.data=.dict es ep)(hn:es.size=n)(he:es[i]?=some e)
  (fin:∀h',IsItemIterOut h' it d (i+1) n ep e.key e.val s.heap.objs.size->h'.get? s.heap.objs.size=some { cls:=.type "tuple",data:=.seq #[e.key,e.val] } ->
   (∀b o,b≠it->s.heap.get? b=some o->h'.get? b=some o)->Q (some (.ref s.heap.objs.size)) { s with heap:=h' }):wpAny (model prog w) A (pyNext (.ref it)) Q E s:=by
 obtain⟨hp,gs,dr,tk,os⟩:=s;have ty:Shared.TypeIs ⟨hp,gs,dr,tk,os⟩ (.ref it) "dict_itemiterator":=⟨_,g,rfl⟩;have lt:=(Array.getElem?_eq_some_iff.mp he).1;unfold pyNext;refine wpAny_bind (wpAny_attempt (wpAny_callSpecial?_slot (name:=Str.ofString "__next__") ty PySem.F.slot_dict_itemiterator_next (wpAny_call_entry PySem.F.slot_dict_itemiterator_next ty PySem.F.entry_dict_itemiterator_next ?_ (PySem.F.args_dict_itemiterator_next_1 _))));refine wpAny_bind (wpAny_pure (wpAny_bind (wpAny_bind ?_)))
 first|refine wpAny_bind (wpAny_typeNameOfWhole_itemiter ty (wpAny_pure ?_))|refine wpAny_bind (wpAny_typeNameOf_itemiter ty (wpAny_pure ?_))
 refine wpAny_bind (wpAny_fieldsOf g rfl ?_);have own:Builtin.Dict_items.ownsTuple "dict_itemiterator"=true:=by decide
 have nn:¬((Value.ref d==Value.none)=true):=Bool.false_ne_true;simp only[own,if_true];show wpAny (model prog w) _ (if (Value.ref d==Value.none)=true then _ else _) _ _ _;rw[if_neg nn];refine wpAny_bind (wpAny_pure (wpAny_bind (wpAny_dictEntries hd dd ?_)));rw[if_neg (by rw[hn];simp)];refine wpAny_bind (wpAny_pure (wpAny_bind (wpAny_dictEpoch hd dd ?_)));rw[if_neg (by simp)];refine wpAny_pure ?_;simp only[show ¬((i:Int)<0) from by lia,if_false,Int.toNat_natCast,he];refine wpAny_bind ?_
 first|refine wpAny_bind (wpAny_typeNameOfWhole_itemiter ty (wpAny_pure ?_))|refine wpAny_bind (wpAny_typeNameOf_itemiter ty (wpAny_pure ?_))
 refine wpAny_bind (wpAny_isOneOf_itemiter ty ?_);show wpAny (model prog w) _ (setField (.ref it) 3 (rawInt ((i:Int)+1)) >>= _) _ _ ⟨hp,gs,dr,tk,os⟩;refine wpAny_bind (wpAny_setField_rec g (by simp) λ h1 g1 b1=>?_)
 replace b1:Heap.SameBut it hp h1:=b1
 replace g1:IsItemIter h1 it d (i+1) n ep k0 v0:=by
  have z:((i+1:Nat):Int)=(i:Int)+1:=by lia
  unfold IsItemIter;rw[z];simpa [rawInt] using g1
 have ty1:Shared.TypeIs ⟨h1,gs,dr,tk,os⟩ (.ref it) "dict_itemiterator":=⟨_,g1,rfl⟩;refine wpAny_bind (wpAny_holding (wpAny_bind (wpAny_isOneOf_itemiter ty1 (wpAny_bind (wpAny_isOneOf_itemiter ty1 ?_)))));show wpAny (model prog w) _ (Builtin.Dict_items.pairFromOwner (.ref it) 6 e.key e.val) _ _ ⟨h1,gs,dr,tk,os⟩;unfold Builtin.Dict_items.pairFromOwner Builtin.Dict_items.ownedTupleIsFree;refine wpAny_bind (wpAny_newTuple ?_);have z1:h1.objs.size=hp.objs.size:=b1.1;have il:it<hp.objs.size:=Heap.lt_size g;obtain⟨h2,e2⟩:∃h2,h2=h1.push { cls:=.type "tuple",data:=.seq #[e.key,e.val] }:=⟨_,rfl⟩;have g2:IsItemIter h2 it d (i+1) n ep k0 v0:=by rw[e2];exact Heap.get?_push_of_some _ g1
 have t2:h2.get? hp.objs.size=some { cls:=.type "tuple",data:=.seq #[e.key,e.val] }:=by rw[e2,<-z1];exact Heap.get?_push_size _ rfl
 have k2:∀b o,b≠it->hp.get? b=some o->h2.get? b=some o:=λ b o nb q=>by rw[e2];exact Heap.get?_push_of_some _ (b1.extBut b o nb q)
 show wpAny (model prog w) _ _ _ _ ⟨h1.push { cls:=.type "tuple",data:=.seq #[e.key,e.val] },gs,dr,tk,os⟩;rw[z1,<-e2];clear e2 g1 b1 ty1 z1;refine wpAny_bind (wpAny_bind (wpAny_field g2 rfl (x:=.none) rfl (wpAny_pure ?_)));simp only[if_true];refine wpAny_bind (wpAny_field g2 rfl (x:=k0) rfl (wpAny_bind (wpAny_field g2 rfl (x:=v0) rfl ?_)));refine wpAny_bind (wpAny_setField_rec g2 (by simp) λ h3 g3 b3=>?_)
 replace b3:Heap.SameBut it h2 h3:=b3
 replace g3:IsItemIter h3 it d (i+1) n ep e.key v0:=g3
 refine wpAny_bind (wpAny_setField_rec g3 (by simp) λ h4 g4 b4=>?_)
 replace b4:Heap.SameBut it h3 h4:=b4
 replace g4:IsItemIter h4 it d (i+1) n ep e.key e.val:=g4
 refine wpAny_bind (wpAny_setField_rec g4 (by simp) λ h5 g5 b5=>?_)
 replace b5:Heap.SameBut it h4 h5:=b5
 replace g5:IsItemIterOut h5 it d (i+1) n ep e.key e.val hp.objs.size:=g5
 refine wpAny_bind (wpAny_setField_rec g5 (by simp) λ h6 g6 b6=>?_)
 replace b6:Heap.SameBut it h5 h6:=b6
 have far:∀b o,b≠it->h2.get? b=some o->h6.get? b=some o:=λ b o nb q=>b6.extBut b o nb (b5.extBut b o nb (b4.extBut b o nb (b3.extBut b o nb q)));exact wpAny_bind (wpAny_letGo (wpAny_pure (wpAny_pure ⟨_,rfl,wpAny_pure (fin h6 g6 (far _ _ (Nat.ne_of_gt il) t2) λ b o nb q=>far b o nb (k2 b o nb q))⟩)))
theorem On{Q:Option Value->Shared->Prop}(hh:A.handled=none)(g:IsItemIter s.heap it d i n ep k0 v0)(hd:s.heap.get? d=some od)(dd:od.data=.dict es ep)(hn:es.size=n)(he:n<=i)
  (fin:∀h',Heap.ExtBut it s.heap h'->Q none { s with heap:=h' }):wpAny (model prog w) A (pyNext (.ref it)) Q E s:=by
 have ty:s.TypeIs (.ref it) "dict_itemiterator":=⟨_,g,rfl⟩;unfold pyNext;refine wpAny_bind (wpAny_attempt (wpAny_callSpecial?_slot (name:=Str.ofString "__next__") ty PySem.F.slot_dict_itemiterator_next (wpAny_call_entry PySem.F.slot_dict_itemiterator_next ty PySem.F.entry_dict_itemiterator_next ?_ (PySem.F.args_dict_itemiterator_next_1 _))));refine wpAny_bind (wpAny_pure (wpAny_bind (wpAny_bind ?_)))
 first|refine wpAny_bind (wpAny_typeNameOfWhole_itemiter ty (wpAny_pure ?_))|refine wpAny_bind (wpAny_typeNameOf_itemiter ty (wpAny_pure ?_))
 refine wpAny_bind (wpAny_fieldsOf g rfl ?_);have own:Builtin.Dict_items.ownsTuple "dict_itemiterator"=true:=by decide
 have nn:¬((Value.ref d==Value.none)=true):=Bool.false_ne_true;simp only[own,if_true];show wpAny (model prog w) _ (if (Value.ref d==Value.none)=true then _ else _) _ _ s;rw[if_neg nn];refine wpAny_bind (wpAny_pure (wpAny_bind (wpAny_dictEntries hd dd ?_)));rw[if_neg (by rw[hn];simp)];refine wpAny_bind (wpAny_pure (wpAny_bind (wpAny_dictEpoch hd dd ?_)));rw[if_neg (by simp)];refine wpAny_pure ?_;have off:es[i]?=none:=Array.getElem?_eq_none (by lia);simp only[show ¬((i:Int)<0) from by lia,if_false,Int.toNat_natCast,off];refine wpAny_bind ?_
 first|refine wpAny_bind (wpAny_typeNameOfWhole_itemiter ty (wpAny_pure ?_))|refine wpAny_bind (wpAny_typeNameOf_itemiter ty (wpAny_pure ?_))
 show wpAny (model prog w) _ (setField (.ref it) 2 .none >>= _) _ _ s;refine wpAny_bind (wpAny_setField g rfl (by simp) ?_);show wpAny (model prog w) _ (newExc (.type "StopIteration") [] >>= _) _ _ _;refine wpAny_bind ?_;simp only[newExc,newTuple];refine wpAny_bind (wpAny_newObj_type (wpAny_bind (m:=firstArgMember _ _) (wpAny_of_eq (a:=Value.none) (by first|rfl|(simp only[firstArgMember];rfl)) (wpAny_newObj_type ?_ (by size_fits)))) (by size_fits));simp only[raiseNew];refine wpAny_bind (wpAny_handled ?_);have hh1:A.in1.handled=none:=hh;rw[hh1];refine wpAny_bind (wpAny_pure (wpAny_throw ?_));refine wpAny_bind (wpAny_isInstance (T:="StopIteration") (b:=true) ⟨_,Heap.get?_push_size _ rfl,rfl⟩ isSubtype_stop ?_);exact wpAny_pure (fin _ (((Heap.SameBut.update ..).extBut.push _).push _))
end
def Itn(a:Addr)(ob:Obj):It :=
 ⟨λ i H=>∃kvs p,H a=some (.frz ob (.dT kvs))/\kvs[i]?=some p,
  λ i H y H'=>∃t b p,(∀kvs,H a=some (.frz ob (.dT kvs))->kvs[i]?=some p)/\H b=some (.tup (p.1.map kV))/\y=.ref t/\H t=none/\H'=upd H t (.tup [.ref b,p.2]),
  λ i H=>∃kvs,H a=some (.frz ob (.dT kvs))/\kvs.length<=i⟩
theorem N2{P:Program}{w:World}{H:Hp}{h:Heap}{a:Addr}{ob:Obj}{kvs:LKz}{ents:Array DictEntry}{ep:Nat}(ok:HOk P w H h)(e:H a=some (.frz ob (.dT kvs)))(hd:ob.data=.dict ents ep) :
  h.get? a=some ob/\∃xs,KT H kvs xs/\ents.toList=xs.map (entryOfKey (tupleKind (Bf P w)))/\ents.size=kvs.length:=by
 obtain⟨ho,_,_,xs,rel,o,es,ep',h1,h2,h3,h4,h5⟩:=(show ObjOk P w H h a (.frz ob (.dT kvs)) from ok a _ e);rw[ho]at h1;cases h1;rw[hd]at h3;cases h3;refine⟨ho,xs,rel,h4,?_⟩;rw[size_of_entries h4];exact(Paired.length rel).symm
theorem K1{P:Program}{w:World}{K:Frag}{es:List Expr}{k:Nat}{pos:Pos}(a it:Addr){ob:Obj}{ents:Array DictEntry}{n ep:Nat}(hd:ob.data=.dict ents ep)(hn:ents.size=n) :
  MO P w K (.Tuple es k pos) (Itn a ob) [it] it (λ i h=>∃ok ov,IsItemIter h it a i n ep ok ov) where
 mem:=by simp
 obj:=λ i h st b hb=>by
  obtain⟨ok,ov,he⟩:=st;rw[List.mem_singleton.mp hb];exact⟨_,he,λ v z=>by
   have z':Data.fields _=Data.cell v:=z;cases z'⟩
 keep:=λ i h h' st kk=>by
  obtain⟨ok,ov,he⟩:=st;exact⟨ok,ov,kk it (by simp) _ he⟩
 item:=by
  intro X hP hw hK hc i pins s σ H E I hf st hg;subst hP hw hK;obtain⟨ok,ov,he⟩:=st;obtain⟨kvs,p,hq,hx⟩:=hg;obtain⟨ho,xs,rel,hes,hl⟩:=N2 I.hok hq hd;obtain⟨⟨k',b,u⟩,hu,hk',hb,ru⟩:=Paired.get rel hx;have fi:=hf it (by simp);have hei:ents[i]?=some ⟨(tupleKind (Bf X.prog X.w)).hash k',.ref b,u⟩:=by rw[entry_at hes i,hu];rfl
  refine Om he ho hd hn hei λ h' ho' hT kk=>?_;refine⟨_,rfl,?_⟩;have hfr:H s.heap.objs.size=none:=I.hok.fresh (Nat.le_refl _);have ltI:it<s.heap.objs.size:=Heap.lt_size he;have I1:Inv X pins σ (upd H s.heap.objs.size (.tup [.ref b,p.2])) { s with heap:=h',toks:=s.toks }:=by
   refine IZ I fi fi (λ b o nb _ z=>kk b o nb z) ⟨_,ho'⟩ ⟨_,ho'⟩ ⟨?_,[.ref b,u],.cons rfl (.cons ru .nil),⟨_,hT,rfl,_,rfl⟩⟩;show 2<=sizeLine;decide
  refine wpAny_letOwnedTupleGo_items (s:={ s with heap:=h' }) ho' λ h2 he2 sb=>?_;have nI:it≠s.heap.objs.size:=Nat.ne_of_lt ltI;have fi2:(upd H s.heap.objs.size (.tup [.ref b,p.2])) it=none:=by rw[Ai nI];exact fi.1
  have I2:Inv X pins σ (upd H s.heap.objs.size (.tup [.ref b,p.2])) { ({ s with heap:=h',toks:=s.toks }:Shared) with heap:=h2,toks:=s.toks } :=
   I1.turned (t':=s.toks) (it:=it) (λ b o hb z=>(sb.2 b hb).trans z) fi2 fi.2.1 fi.2.2.2.1 fi.2.2.2.2.1 fi.2.2.2.2.2
  refine⟨.ref s.heap.objs.size,_,I2,rfl,⟨_,b,p,λ ys hy=>?_,hb,rfl,hfr,rfl⟩,⟨_,_,he2⟩,λ b hb=>?_⟩
  .rw[hq]at hy;cases hy;exact hx
  .rw[List.mem_singleton.mp hb];exact fi2
 done:=by
  intro X hP hw hK hc i pins s σ H E I hf st hg;subst hP hw hK;obtain⟨ok,ov,he⟩:=st;obtain⟨kvs,hq,hx⟩:=hg;obtain⟨ho,xs,rel,hes,hl⟩:=N2 I.hok hq hd;obtain⟨f0,f1,f2,f3,f4,f5⟩:=hf it (by simp);exact On (I.ok.hd hc) he ho hd hn (by lia) λ h' eb=>⟨rfl,I.turned (t':=s.toks) (λ b o hb z=>eb b o hb z) f0 f1 f3 f4 f5⟩
 self:=λ_ _ _ _ _ st h=>by
  obtain⟨ok,ov,he⟩:=st;exact kcp_self he h
def Ri(td:TE):TI:=λ σ H R=>td σ H λ x H1=>∃a kvs,x=.ref a/\H1 a=some (.dT kvs)/\∀ob,R (Itn a ob) (upd H1 a (.frz ob (.dT kvs)))
section
variable{X:Cx}
theorem Oc{o:Expr}{es:List Expr}{k:Nat}{tpos apos cpos:Pos}{td:TE}(hp:PE X o td)
  (hb:attributeBase o "items" X.env (eval o X.env)=eval o X.env:=by rfl) (hline:(apos.endLine==cpos.line)=true:=by rfl) :
  PI X (.Tuple es k tpos) (.Call (.Attribute o "items" apos) [] [] cpos) (Ri td):=by
 intro pins s σ H R I h;refine wpAny_Call_method0_late hb hline (thn (hp pins s σ H _ I h) λ v s1 hz_=>?_);obtain⟨x,H1,I1,r1,q1⟩:=hz_;obtain⟨a,kvs,e,ea,q⟩:=q1;subst e;cases r1;obtain⟨hty,hnd,hsys⟩:=SB I1 (.inr ⟨kvs,.inl ea⟩);refine⟨"dict","dict.items",PySem.F.plainAttrs_dict,PySem.F.slot_dict_items,PySem.F.type_dict_items,hty,hnd,Calls.callWith_builtin rfl (PySem.evalArgs_none ?_)⟩;refine M7 hsys hty ?_;obtain⟨_,_,xs,rel,ob,ents,ep,g1,g2,g3,g4,g5⟩:=(show ObjOk X.prog X.w H1 s1.heap a (.dT kvs) from I1.hok a _ ea);refine Lo (n:=ents.size) ⟨_,Heap.get?_push_size _ rfl,rfl,rfl⟩ (Heap.get?_push_of_some _ g1) g3 rfl ?_;have I2:Inv X pins σ H1 { s1 with heap:=s1.heap.push { cls:=.type "dict_items",data:=.fields #[.ref a] },toks:=s1.toks }:=I1.kept λ b u z=>Heap.get?_push_of_some _ z;have I3:=I2.kept (h':=(s1.heap.push { cls:=.type "dict_items",data:=.fields #[.ref a] }).push { cls:=.type "dict_itemiterator",data:=.fields #[.none,.bool false,.ref a,.int 0 0,.int ents.size 0,.int ep 0,.none,.none] }) (t':=s1.toks) λ b u z=>Heap.get?_push_of_some _ z;have g1':((s1.heap.push { cls:=.type "dict_items",data:=.fields #[.ref a] }).push { cls:=.type "dict_itemiterator",data:=.fields #[.none,.bool false,.ref a,.int 0 0,.int ents.size 0,.int ep 0,.none,.none] }).get? a=some ob:=Heap.get?_push_of_some _ (Heap.get?_push_of_some _ g1);have new:ObjOk X.prog X.w (upd H1 a (.frz ob (.dT kvs))) ((s1.heap.push { cls:=.type "dict_items",data:=.fields #[.ref a] }).push { cls:=.type "dict_itemiterator",data:=.fields #[.none,.bool false,.ref a,.int 0 0,.int ents.size 0,.int ep 0,.none,.none] }) a (.frz ob (.dT kvs)):=by
  obtain⟨y1,y2,ys,yr,y3⟩:=(show ObjOk X.prog X.w H1 _ a (.dT kvs) from I3.hok a _ ea);refine⟨g1',y1,y2,ys,KT.keeps yr λ c zs ec=>?_,y3⟩;rw[Ai (Nr ec ea (λ z=>nomatch z))];exact ec
 have I4:=I3.write (x:=a) (e:=a) (o:=.frz ob (.dT kvs)) (h':=(s1.heap.push { cls:=.type "dict_items",data:=.fields #[.ref a] }).push { cls:=.type "dict_itemiterator",data:=.fields #[.none,.bool false,.ref a,.int 0 0,.int ents.size 0,.int ep 0,.none,.none] }) (t':=s1.toks)
  (by rw[ea];exact True.intro) (.inl rfl) (λ b u _ z=>z) ⟨ob,g1'⟩ new
 have na:s1.heap.objs.size+1≠a:=Nat.ne_of_gt (Nat.lt_succ_of_lt (Heap.lt_size g1));refine⟨(s1.heap.push { cls:=.type "dict_items",data:=.fields #[.ref a] }).objs.size,[(s1.heap.push { cls:=.type "dict_items",data:=.fields #[.ref a] }).objs.size],_,_,_,rfl,I4,K1 a _ g3 rfl,⟨_,_,Heap.get?_push_size _ rfl⟩,λ b hb'=>?_,q ob⟩;rw[List.mem_singleton.mp hb'];refine I2.fpOk (Nat.le_refl _) ?_;rw[Ai (by rw[Heap.size_push];exact na)];exact I2.hok.fresh (Nat.le_refl _)
end
theorem MC{a:Addr}{ob:Obj}{kvs:LKz}{g:TG}{tb:TS}{D:Eb}{σ:St}{H:Hp}(Pv:Nat->St->Hp->Prop)(h0:Pv 0 σ H)(hl:∀i σ H,i<=kvs.length->Pv i σ H->H a=some (.frz ob (.dT kvs)))
  (hs:∀i p σ H t b,kvs[i]?=some p->Pv i σ H->H b=some (.tup (p.1.map kV))->H t=none->g (.ref t) σ (upd H t (.tup [.ref b,p.2])) λ σ2 H2=>tb { D with nx:=Pv (i+1),ct:=Pv (i+1),bk:=D.nx } σ2 H2) (hd:∀σ H,Pv kvs.length σ H->D.nx σ H) :
  ∃W:Nat->Nat->St->Hp->Prop,(∃m,W 0 m σ H)/\∀i m σ H,W i m σ H ->
   ((Itn a ob).stop i H/\D.nx σ H)\/((Itn a ob).go i H/\∃N:St->Hp->Prop,(∀σ' H',N σ' H'->∃m',m'<m/\W (i+1) m' σ' H')/\∀x H',(Itn a ob).yld i H x H'->g x σ H' λ σ2 H2=>tb { D with nx:=N,ct:=N,bk:=D.nx } σ2 H2):=by
 refine⟨λ i m σ H=>m=kvs.length-i/\i<=kvs.length/\Pv i σ H,⟨kvs.length,by simp,Nat.zero_le _,h0⟩,?_⟩;rintro i m σ H ⟨rfl,hi,p⟩;have q:=hl i σ H hi p;by_cases hlt:i<kvs.length
 .refine .inr ⟨⟨kvs,kvs[i],q,by simp[hlt]⟩,Pv (i+1),λ σ' H' p'=>⟨kvs.length-(i+1),by lia,rfl,hlt,p'⟩,λ x H' y=>?_⟩;obtain⟨t,b,z,hz,hb,rfl,ht,rfl⟩:=y;exact hs i z σ H t b (hz kvs q) p hb ht
 .have e:i=kvs.length:=by lia
  subst e;exact .inl ⟨⟨kvs,q,Nat.le_refl _⟩,hd σ H p⟩
structure MX(K:Frag)(C:Addr):Prop where
 cl:Cls K C
 ha:findIn K (.ref C) "__class__"=some (some (.builtin "object.__class__"))
 hn:specialIn K (.builtin "object.__class__") "__get__"=some (some (.builtin "getset_descriptor.__get__"))
 htk:takesIn K (.builtin "object.__class__")=some true
 hm:mroIn K C (.type "object")=some true
section
variable{X:Cx}
theorem EL:Ec X (.builtin "isinstance") (λ xs H Q=>∃a C dx fs c u b,xs=[.ref a,c]/\H a=some (.ins C dx fs)/\MX X.K C/\RelV c u/\(∀u',RelV c u'->u'=u)/\kitOne X.K (.ref C) u=some b/\Q (.bl b) H):=by
 intro pins s σ H xs us Q I r h;obtain⟨a,C,dx,fs,c,u,b,rfl,he,hc,ru,uq,hk,q⟩:=h;obtain⟨v1,v2,rfl,r1,r2⟩:=MZ r;have:=uq v2 r2;subst this;exact IW I r1 (.ins he hc.cl hc.ha hc.hn hc.htk hc.hm) hk λ tk=>⟨.bl b,H,I.tok tk,rfl,q⟩
end
def Itv(K:Frag)(a:Addr)(n:Nat):It :=
 ⟨λ i H=>∃xs,SqL K H a xs/\xs.length=n/\i<n,λ i H x H'=>H'=H/\∀xs,SqL K H a xs->xs[n-1-i]?=some x,λ i H=>n<=i⟩
theorem OV{P:Program}{w:World}{K:Frag}{tg:Expr}(a it:Addr)(n:Nat):MO P w K tg (Itv K a n) [it] it (λ i h=>i<=n/\h.IsRevIter it a ((n:Int)-1-i)) where
 mem:=by simp
 obj:=λ i h st b hb=>by
  have e:b=it:=by simpa using hb
  subst e;obtain⟨_,o,e,c,d⟩:=st;exact⟨o,e,λ v z=>by rw[d]at z;cases z⟩
 keep:=λ i h h' st k=>⟨st.1,st.2.at λ o e=>k it (by simp) o e⟩
 item:=by
  intro X hP hw hK hc i pins s σ H E I hf st hg;subst hP hw hK;obtain⟨xs,hq,hn,hi⟩:=hg;obtain⟨hin,st⟩:=st;obtain⟨its,rv,p,hz⟩:=I.list hq;have hx:xs[n-1-i]?=some (xs[n-1-i]'(by lia)):=List.getElem?_eq_getElem (by lia);obtain⟨u,hu,ru⟩:=rv.get hx;obtain⟨f0,f1,f2,f3,f4,f5⟩:=hf it (by simp);have st':s.heap.IsRevIter it a (((n-1-i:Nat):Int)):=by
   rw[show(((n-1-i:Nat):Int))=(n:Int)-1-i by lia];exact st
  refine wpAny_pyNext_rev_item st' p.isList (x:=u) (by simpa using hu) λ h' st' sb=>?_;have I1:Inv X pins σ H { s with heap:=h' }:=I.turned (t':=s.toks) (λ b o hb e=>(sb.2 b hb).trans e) f0 f1 f3 f4 f5;obtain⟨o,e,c,d⟩:=id st';refine⟨u,rfl,N0 (s:={ s with heap:=h' }) e c d (by decide) ⟨_,H,I1,ru,⟨rfl,λ ys hy=>by rw[I.list_inj hy hq];exact hx⟩,⟨by lia,?_⟩,λ b hb=>(hf b hb).1⟩⟩;rw[show(n:Int)-1-((i+1:Nat):Int)=((n-1-i:Nat):Int)-1 by lia];exact st'
 done:=by
  intro X hP hw hK hc i pins s σ H E I hf st hg;subst hP hw hK;obtain⟨hin,st⟩:=st;obtain⟨f0,f1,f2,f3,f4,f5⟩:=hf it (by simp);have e:i=n:=Nat.le_antisymm hin hg;subst e;rw[show(i:Int)-1-(i:Int)=-1 by lia]at st;exact wpAny_pyNext_rev_end (I.ok.hd hc) st λ h' eb=>⟨rfl,I.turned (t':=s.toks) (λ b o hb e=>eb b o hb e) f0 f1 f3 f4 f5⟩
 self:=λ_ _ _ _ _ st h=>wpAny_pyIter_revIter st.2 h
def UQ(K:Frag)(ta:TA):TI:=λ σ H R=>ta σ H λ vs H1=>∃a xs,vs=[.ref a]/\SqL K H1 a xs/\R (Itv K a xs.length) H1
theorem Ii:bootBuiltins "reversed"=some (.type "reversed"):=rfl
section
variable{X:Cx}{tg:Expr}
theorem QL{a:Expr}{ta:TA}{p pos:Pos}(hg:Gl X "reversed")(hm:X.mg "reversed"=none)(ha:PA X [a] ta)(hs:starEach [a] X.env=[(false,eval a X.env)]:=by rfl) :
  PI X tg (.Call (.Name "reversed" p) [a] [] pos) (UQ X.K ta):=by
 intro pins s σ H R I h;refine Call_ (D7 I hg hm Ii (PyProof.Rows.callWith_type1 (thn (ha pos pins s σ H _ I h) λ us s1 hz_=>?_) hs rfl));obtain⟨vs,H1,I1,r1,q1⟩:=hz_;obtain⟨b,xs,e,hq,q⟩:=q1;subst e;cases r1 with
 |cons r rr =>
  cases rr;cases r;obtain⟨its,rv,pl,hz⟩:=I1.list hq;have hl:=rv.length;refine call_reversed_list pl.isList ?_;have I2:Inv X pins σ H1 { s1 with heap:=s1.heap.push (revObj b ((its.toArray.size:Int)-1)) }:=I1.kept (t':=s1.toks) λ c o e=>Heap.get?_push_of_some _ e;refine wpAny_pyIter_revIter (s:={ s1 with heap:=s1.heap.push (revObj b ((its.toArray.size:Int)-1)) }) ⟨_,Heap.get?_push_size _ rfl,rfl,rfl⟩ ?_;refine⟨s1.heap.objs.size,[s1.heap.objs.size],_,_,H1,rfl,I2,OV b _ xs.length,⟨Nat.zero_le _,⟨_,Heap.get?_push_size _ rfl,rfl,?_⟩⟩,λ c hc=>?_,q⟩
  .show Data.fields _=Data.fields _;rw[show((its.toArray.size:Int)-1)=(xs.length:Int)-1-((0:Nat):Int) by rw[List.size_toArray,<-hl];lia]
  .have e:c=s1.heap.objs.size:=by simpa using hc
   subst e;exact I1.fpOk (Nat.le_refl _) (I1.hok.fresh (Nat.le_refl _))
end
theorem Rr{K:Frag}{a:Addr}{xs:LUz}{g:TG}{tb:TS}{D:Eb}{σ:St}{H:Hp}(Pv:Nat->St->Hp->Prop)(h0:Pv 0 σ H)(hl:∀i σ H,i<=xs.length->Pv i σ H->SqL K H a xs)
  (hs:∀i x σ H,xs[xs.length-1-i]?=some x->i<xs.length->Pv i σ H->g x σ H λ σ2 H2=>tb { D with nx:=Pv (i+1),ct:=Pv (i+1),bk:=D.nx } σ2 H2) (hd:∀σ H,Pv xs.length σ H->D.nx σ H) :
  ∃W:Nat->Nat->St->Hp->Prop,(∃m,W 0 m σ H)/\∀i m σ H,W i m σ H ->
   ((Itv K a xs.length).stop i H/\D.nx σ H)\/((Itv K a xs.length).go i H/\∃N:St->Hp->Prop,(∀σ' H',N σ' H'->∃m',m'<m/\W (i+1) m' σ' H')/\∀x H',(Itv K a xs.length).yld i H x H'->g x σ H' λ σ2 H2=>tb { D with nx:=N,ct:=N,bk:=D.nx } σ2 H2):=by
 refine⟨λ i m σ H=>m=xs.length-i/\i<=xs.length/\Pv i σ H,⟨xs.length,by simp,Nat.zero_le _,h0⟩,?_⟩;rintro i m σ H ⟨rfl,hi,p⟩;have q:=hl i σ H hi p;by_cases hlt:i<xs.length
 .refine .inr ⟨⟨xs,q,rfl,hlt⟩,Pv (i+1),λ σ' H' p'=>⟨xs.length-(i+1),by lia,rfl,hlt,p'⟩,λ x H' y=>?_⟩;obtain⟨e,y⟩:=y;subst e;exact hs i x σ _ (y xs q) hlt p
 .have e:i=xs.length:=by lia
  subst e;exact .inl ⟨Nat.le_refl _,hd σ H p⟩
structure FunD(K:Frag)(x qual:Str)(st:Stmt)(f:Addr)(fd:FuncData):Prop where
 ex:∃(oc:Value)(od:Option Addr)(T:Addr)(kV doc pm:Value)(an:Option Addr)(cdv ct:Value)(osl:AOz)(o:Obj)(n:Nat),
  fd=fnOf x qual (Bk st) (Ar st) (Ag st) (.ref T) kV doc pm an cdv ct/\K.lookup f=some ⟨oc,od,.func fd,osl⟩/\codeIn K cdv qual=true/\K.lookup T=some o/\o.data=.seq #[.none] n
 kp:keepIn K (.ref f)=true
section
variable{P:Program}{w:World}{K:Frag}{mg:MGz}{base:Heap}
theorem FunD.ok{x qual:Str}{st:Stmt}{f:Addr}{fd:FuncData}{N ps:LSz}{k:Nat}{sp:Sp}(F:FunD K x qual st f fd)(S:Ak N ps (Ag st))(len:∀vs H Q E,sp vs H Q E->vs.length=ps.length)
  (hbody:∀(cdv:Value)(A:Around)(outer:List Env)(s:Shared)(H:Hp)(vs:LUz)(Q:VK)(E:XK),Room k (A.deeper (envOfC qual (Ag st) s.heap.objs.size f cdv))->sp vs H Q E ->
   ∃t,PSs (BF CX0 P w K mg base N qual (Ag st) f cdv A outer s H E).nox (Ar st) t/\t { nx:=λ_ H'=>Q .non H',rt:=Q } (start N vs) H):FnOk P w K mg base CX0 (k+1) f fd ps sp:=by
 obtain⟨oc,od,T,kV,doc,pm,an,cdv,ct,osl,o,n,rfl,lk,hcd,lT,dT⟩:=F.ex;refine Lv lk hcd S len λ A outer s H vs Q E hr hsp=>?_;obtain⟨t,h,q⟩:=hbody cdv A outer s H vs Q E hr hsp;exact⟨t,h.nox,q⟩
theorem FunD.binds{x qual:Str}{st:Stmt}{f:Addr}{fd:FuncData}{ps:LSz}{ds:LWz}(F:FunD K x qual st f fd)
  (h:∀(T:Addr)(kV doc pm:Value)(an:Option Addr)(cdv ct:Value)(us:LWz),(us++ds).length=ps.length->∃k:Option (Array Value)->Sem (List (Str×Value)),
   bindArgs (fnOf x qual (Bk st) (Ar st) (Ag st) (.ref T) kV doc pm an cdv ct) ⟨us,[]⟩=seqItems? (.ref T) >>= k/\k (some #[.none])=pure (ps.zip (us++ds))):Binds K fd ps ds:=by
 obtain⟨oc,od,T,kV,doc,pm,an,cdv,ct,osl,o,n,rfl,lk,hcd,lT,dT⟩:=F.ex;intro s us X hl;obtain⟨k,h1,h2⟩:=h T kV doc pm an cdv ct us hl;exact .of_defaults rfl (X _ _ lT) dT h1 h2
end
structure Qt(P:Program)(w:World)(K:Frag)(mg:MGz)(base:Heap)(k:Nat)(x:Str)(C:Addr)(ps:LSz)(sp:Sp)(dvs:LUz):Prop where
 ex:∃(f:Addr)(fd:FuncData)(ds:LWz),Mk K C f/\FnOk P w K mg base CX0 k f fd ps sp/\mg x=some (.ref C)/\Binds K fd ps ds/\Vals dvs ds
theorem Ss{X:Cx}{k j:Nat}{x:Str}{C:Addr}{ps:LSz}{sp:Sp}{p pos:Pos}{dvs:LUz}(D:Qt X.prog X.w X.K X.mg X.base k x C ps sp dvs)(hr:Room j X.A)(hj:k+1<=j:=by decide)(hg:Gl X x:=by rfl)(hdb:(x==("__debug__":Str))=false:=by decide) :
  PE X (.Call (.Name x p) [] [] pos) (Nb C sp dvs E0 K3):=by
 obtain⟨f,fd,ds,M,F,hm,hb,hv⟩:=D.ex;exact Py M F (hr.mono hj) hg hm hb hv GH hdb
def PXS(X:Cx)(st:Stmt)(t:XK->TS):Prop:=∀(E:XK)(pins:PNz)(s:Shared)(σ:St)(H:Hp)(D:Eb)(Ex:VPz),Inv X pins σ H s->t E D σ H ->
 (∀x T C d H' s',Inv X pins σ H' s'->CD H' x C d T->E (.ref x) d H'->Ex (.ref x) s')->wpAny (model X.prog X.w) X.A (exec st X.env) (SP X pins D) Ex s
def U5(te:XK->TE):XK->TS:=λ E D σ H=>te E σ H (λ_ H1=>D.nx σ H1)
def U2(tc:TT)(t u:XK->TS):XK->TS:=λ E=>Tg tc (t E) (u E)
section
variable{X:Cx}{i im:Nat}{n m g:Str}{G:Addr}{value c:Expr}{b₀ st su:Stmt}{suite:List Stmt}{np apos gp hpos pos:Pos}{te:XK->TE}{ts:TS}{t u:XK->TS}{tc:TT}
theorem DP(he:∀E,PX X value (te E) E)(hsw:swapsWith value none apos.line X.env=pure false:=by rfl):PXS X (.Expr value apos) (U5 te):=by
 intro E pins s σ H D Ex I h hx;exact wpAny_Expr_any (thn (he E pins s σ H _ _ I h hx) λ v s1 ⟨y,H1,I1,r1,q1⟩=>⟨σ,H1,I1,q1⟩) I.quiet hsw
theorem JC(hc:PT X.nox c tc)(ha:PXS X st t)(hb:PXS X su u):PXS X (.If c [st] [su] pos) (U2 tc t u):=by
 intro E pins s σ H D Ex I h hx;refine wpAny_If (wpAny_mono (hc pins s σ H _ (I.wish _) h) (λ d s1 ⟨H1,I1,q1⟩=>?_) λ_ _ z=>False.elim z);have I1':Inv X pins σ H1 s1:=I1.unwish;cases d with
 |true =>
  refine wpAny_execs_cons (thn (ha E pins s1 σ H1 D Ex I1' q1 hx) λ f s2 q=>?_);cases f with
  |next=>exact wpAny_execs_nil q
  |ret v=>exact q
  |brk=>exact q
  |cont=>exact q
 |false =>
  refine wpAny_execs_cons (thn (hb E pins s1 σ H1 D Ex I1' q1 hx) λ f s2 q=>?_);cases f with
  |next=>exact wpAny_execs_nil q
  |ret v=>exact q
  |brk=>exact q
  |cont=>exact q
end
theorem T8{H H':Hp}(s:Same H H'){a:Addr}(h:H' a=none):H a=none:=by
 cases e:H a with
 |none=>rfl
 |some o=>rw[s _ _ e]at h;cases h
mutual
def DAt(H:Hp):D->V->Prop
 |.at u,v=>v=u/\BH u=true
 |.tup ds,v=>∃a xs,v=.ref a/\H a=some (.tup xs)/\Be H ds xs
 |.lst ds,v=>∃a xs,v=.ref a/\H a=some (.lst xs)/\Be H ds xs
def Be(H:Hp):Ds->LUz->Prop
 |.nil,xs=>xs=[]
 |.cons d r,xs=>∃x ys,xs=x::ys/\DAt H d x/\Be H r ys
end
mutual
theorem AM{H H':Hp}(s:Same H H'):∀(d:D){v:V},DAt H d v->DAt H' d v
 |.at u,v,h=>by rw[DAt]at h |-;exact h
 |.tup ds,v,h=>by
  rw[DAt]at h |-;obtain⟨a,xs,e,q,r⟩:=h;exact⟨a,xs,e,s _ _ q,Cp s ds r⟩
 |.lst ds,v,h=>by
  rw[DAt]at h |-;obtain⟨a,xs,e,q,r⟩:=h;exact⟨a,xs,e,s _ _ q,Cp s ds r⟩
theorem Cp{H H':Hp}(s:Same H H'):∀(ds:Ds){xs:LUz},Be H ds xs->Be H' ds xs
 |.nil,xs,h=>by rw[Be]at h |-;exact h
 |.cons d r,xs,h=>by
  rw[Be]at h |-;obtain⟨x,ys,e,p,q⟩:=h;exact⟨x,ys,e,AM s d p,Cp s r q⟩
end
mutual
theorem Qf{K:Frag}{H:Hp}:∀(d:D){v:V},DAt H d v->DIs K H d v
 |.at u,v,h=>by rw[DAt]at h;rw[DIs];exact h
 |.tup ds,v,h=>by
  rw[DAt]at h;rw[DIs];obtain⟨a,xs,e,q,r⟩:=h;exact⟨a,xs,e,SqT.of q,Ke ds r⟩
 |.lst ds,v,h=>by
  rw[DAt]at h;rw[DIs];obtain⟨a,xs,e,q,r⟩:=h;exact⟨a,xs,e,SqL.of q,Ke ds r⟩
theorem Ke{K:Frag}{H:Hp}:∀(ds:Ds){xs:LUz},Be H ds xs->DIss K H ds xs
 |.nil,xs,h=>by rw[Be]at h;rw[DIss];exact h
 |.cons d r,xs,h=>by
  rw[Be]at h;rw[DIss];obtain⟨x,ys,e,p,q⟩:=h;exact⟨x,ys,e,Qf d p,Ke r q⟩
end
theorem By{H:Hp}:∀(ds:Ds){xs:LUz},Be H ds xs->xs.length=ds.len
 |.nil,xs,h=>by rw[Be]at h;rw[h];rfl
 |.cons d r,xs,h=>by
  rw[Be]at h;obtain⟨x,ys,rfl,p,q⟩:=h;rw[List.length_cons,By r q];rfl
theorem Lz{H:Hp}:∀(ds:Ds){xs:LUz},Be H ds xs->∀{i:Nat}{v:V},xs[i]?=some v->DAt H (ds.get i) v
 |.nil,xs,h,i,v,e=>by rw[Be]at h;rw[h]at e;cases e
 |.cons d r,xs,h,i,v,e=>by
  rw[Be]at h;obtain⟨x,ys,rfl,p,q⟩:=h;cases i with
  |zero=>cases e;exact p
  |succ i=>exact Lz r q e
theorem Ly{H:Hp}:∀(ds:Ds){xs:LUz},Be H ds xs->∀v∈xs,∃i,i<ds.len/\DAt H (ds.get i) v:=λ ds xs h v hv=>by
 obtain⟨i,hi,rfl⟩:=List.getElem_of_mem hv;exact⟨i,by rw[<-By ds h];exact hi,Lz ds h (List.getElem?_eq_getElem hi)⟩
def UL:Const->Option V
 |.none=>some .non
 |.bool b=>some (.bl b)
 |.int i=>some (.int i)
 |.str s=>some (.str s)
 |_=>none
def DE(f:Expr->Option D):List Expr->Option Ds
 |[]=>some .nil
 |e::es=>(f e).bind λ d=>(DE f es).map (.cons d)
theorem Eu{f:Expr->Option D}:∀{es:List Expr}{ds:Ds},DE f es=some ds->ds.len=es.length
 |[],ds,h=>by cases h;rfl
 |e::es,ds,h=>by
  rw[DE]at h;obtain⟨d,h1,h2⟩:=Option.bind_eq_some_iff.mp h;obtain⟨r,h3,rfl⟩:=Option.map_eq_some_iff.mp h2;show r.len+1=_;rw[Eu h3];rfl
def C4(c:Addr)(q:Str):HO:=.ext λ h=>∃o vs t,h.get? c=some o/\o.data=.fields vs/\vs[1]?=some (.str q t)
def B6(f:Addr)(o:Obj):HO:=.ext λ h=>h.get? f=some o
theorem Je{P:Program}{w:World}{H:Hp}{h:Heap}{c:Addr}{q:Str}(x:ObjOk P w H h c (C4 c q)):h.CodeRec (.ref c) q:=by
 obtain⟨⟨o,vs,t,e,d,v⟩,_⟩:=x;exact⟨c,o,vs,t,rfl,e,d,v⟩
theorem Qi{P:Program}{w:World}{H:Hp}{h:Heap}{c:Addr}{q:Str}(x:h.CodeRec (.ref c) q):ObjOk P w H h c (C4 c q):=by
 obtain⟨c',o,vs,t,e,g,d,v⟩:=x;cases e;exact⟨⟨o,vs,t,g,d,v⟩,⟨o,g⟩,λ h1 h2 ⟨o,vs,t,e,d,v⟩ k=>⟨o,vs,t,k o e,d,v⟩⟩
theorem JR{P:Program}{w:World}{H:Hp}{h:Heap}{f:Addr}{o:Obj}(x:h.get? f=some o):ObjOk P w H h f (B6 f o):=⟨x,⟨o,x⟩,λ h1 h2 e k=>k o e⟩
section
variable{X:Cx}{pins:PNz}{σ:St}{H:Hp}{s:Shared}{h1:Heap}
theorem Inv.grow{T c':Addr}{ps more:Array Value}{o:HO}{t':Nat}(I:Inv X pins σ H s)(hT:H T=some (.tbl ps))(k:∀b u,b≠T->s.heap.get? b=some u->h1.get? b=some u)(eT:h1.get? T=some (tabObj (ps++more)))
  (hc:s.heap.objs.size<=c') (new:ObjOk X.prog X.w (upd (upd H T (.tbl (ps++more))) c' o) h1 c' o):Inv X pins σ (upd (upd H T (.tbl (ps++more))) c' o) { s with heap:=h1,toks:=t' }:=by
 have hn:H c'=none:=I.hok.fresh hc;have nT:T≠c':=Ah hT hn;have ne:∀{b:Addr}{u:HO},H b=some u->(∀ps,u≠.tbl ps)->b≠T:=λ{b u} e nu z=>by rw[z,hT]at e;cases e;exact nu _ rfl
 have to:∀{b:Addr}{u:HO},H b=some u->(∀ps,u≠.tbl ps)->(upd (upd H T (.tbl (ps++more))) c' o) b=some u:=λ{b u} e nu=>by rw[Ai (Ah e hn),Ai (ne e nu)];exact e
 refine I.un ⟨λ b u q n _ _=>k b u (λ z=>by rw[z,hT]at n;cases n) q,λ b u q n _ _=>⟨u.slots,k b u (λ z=>by rw[z,hT]at n;cases n) q⟩,λ b u q n _=>?_,λ b u q _=>?_,
  λ b xs q=>to q (λ_ z=>nomatch z),λ b u xs q=>to q (λ_ z=>nomatch z),λ b ps' q=>?_⟩ λ b u e=>?_
 .rw[Ai (Nat.ne_of_lt (Nat.lt_of_lt_of_le (Heap.lt_size q) hc)),Ai (λ z=>by rw[z,hT]at n;cases n)];exact n
 .by_cases z:b=T
  .exact⟨_,by rw[z];exact eT⟩
  .exact⟨u,k b u z q⟩
 .by_cases z:b=T
  .subst z;rw[hT]at q;cases q;exact⟨more,by rw[Ai nT,Ac]⟩
  .exact⟨#[],by rw[Ai (Ah q hn),Ai z,q];simp⟩
 .by_cases z:b=c'
  .subst z;rw[Ac]at e;cases e;exact new
  .rw[Ai z]at e;by_cases zT:b=T
   .subst zT;rw[Ac]at e;cases e;exact eT
   .rw[Ai zT]at e;refine(I.hok b u e).stay (λ c v hcb r=>k c v ?_ r) (λ c r=>to r (λ_ z=>nomatch z)) λ c xs r=>to r (λ_ z=>nomatch z);rcases hcb with rfl|hcb
    .exact zT
    .exact ne hcb (λ_ z=>nomatch z)
end
structure R8(K:Frag)(mg:MGz):Prop where
 ex:∃bm sl,mg "__builtins__"=some (.ref bm)/\bm≠builtinsNs/\bm≠mainGlobals/\K.lookup bm=some ⟨.type "module",some builtinsNs,.plain,sl⟩
abbrev B5(mg:MGz)(qual:Str)(params:Arguments)(body:Expr)(scope:Scope)(clos:List (Str×Addr))(c':Addr)(ctv:Value):Obj:=kla_obj "<lambda>" qual params body scope clos ((mg "__name__").getD .none) c' ctv
def Tf(mg:MGz)(T:Addr)(pos:Pos)(params:Arguments)(body:Expr)(scope:Scope)(clos:List (Str×Addr))(qual:Str):TE:=λ σ H Q=>∃ps,H T=some (.tbl ps)/\TriplesOk ps.toList /\
 ((codeAmong pos ps.toList=none/\∀c' f ctv,H c'=none->H f=none->c'≠f->c'≠T->f≠T->Q (.ref f) (upd (upd (upd H T (.tbl (ps++#[rawInt pos.line,rawInt pos.col,.ref c']))) c' (C4 c' qual)) f (B6 f (B5 mg qual params body scope clos c' ctv)))) \/
  ∃c',codeAmong pos ps.toList=some (.ref c')/\H c'=some (C4 c' qual)/\∀f ctv,H f=none->Q (.ref f) (upd H f (B6 f (B5 mg qual params body scope clos c' ctv))))
section
variable{X:Cx}
theorem Pz{params:Arguments}{body:Expr}{scope:Scope}{pos:Pos}{c T:Addr}{clos:List (Str×Addr)}{qual:Str}(hcode:X.env.code=.ref c)(hC:∀h,X.K.In h->CodeHd h c T)(hB:R8 X.K X.mg)(hdef:defaultsOf params X.env=([],[]))
  (hcl:closureFor scope X.env=pure clos) (hq:X.env.qual++"<lambda>"=qual):PE X (.Lambda params body scope pos) (Tf X.mg T pos params body scope clos qual):=by
 intro pins s σ H Q I h;obtain⟨ps,hT,ht,alt⟩:=h;have hP:s.heap.get? T=some (tabObj ps):=I.hok T _ hT;have hg:s.heap.Ns mainGlobals X.mg:=I.mod.glob.keeps I.bk;obtain⟨bm,sl,b1,b2,b3,b4⟩:=hB.ex;have hbm:X.base.get? bm=some ⟨.type "module",some builtinsNs,.plain,sl⟩:=I.mod.kin bm _ b4;have hbT:bm≠T:=λ z=>by
  have:=(I.bs bm _ hbm).2;rw[z,hT]at this;cases this
 have hgT:mainGlobals≠T:=λ z=>by
  obtain⟨o,es,ep,e,_⟩:=I.mod.glob;have:=(I.bs _ _ e).2;rw[z,hT]at this;cases this
 have hb:s.heap.BuiltinsAt X.mg T:=⟨bm,_,b1,b2,b3,hbT,I.bk bm _ hbm,rfl,rfl,rfl⟩;refine kla_eval hdef ?_;rw[hq];rcases alt with ⟨hnf,q⟩|⟨c',hf,hc',q⟩
 .refine kla_makeFunction hcl I.ok.glob hg hcode (hC _ I.kIn) hP ht hnf hgT hb λ c' ctv h' tk hx hge hlt hrec htb=>?_;have I1:=I.grow (t':=tk) (h1:=h') (c':=c') (o:=C4 c' qual) (more:=#[rawInt pos.line,rawInt pos.col,.ref c']) hT (λ b u nb e=>hx b u nb e) htb hge (Qi hrec);have hn:H c'=none:=I.hok.fresh hge;have hnf':H h'.objs.size=none:=I.hok.fresh (Nat.le_trans hge (Nat.le_of_lt hlt));have I2:=I1.laid (a:=h'.objs.size) (o:=B6 h'.objs.size (B5 X.mg qual params body scope clos c' ctv)) (t':=tk) (h':=h'.push (B5 X.mg qual params body scope clos c' ctv)) (λ b u e=>Heap.get?_push_of_some _ e) (Nat.le_refl _) (JR (Heap.get?_push_size _ rfl));exact⟨.ref h'.objs.size,_,I2,rfl,q c' h'.objs.size ctv hn hnf' (Nat.ne_of_lt hlt) (Ne.symm (Ah hT hn)) (Ne.symm (Ah hT hnf'))⟩
 .refine kla_makeFunctionHit hcl I.ok.glob hg hcode (hC _ I.kIn) hP ht hf hb λ ctv h' tk hk hsz=>?_;have hnf':H h'.objs.size=none:=I.hok.fresh hsz;have I1:=I.kept (t':=tk) hk;have I2:=I1.laid (a:=h'.objs.size) (o:=B6 h'.objs.size (B5 X.mg qual params body scope clos c' ctv)) (t':=tk) (h':=h'.push (B5 X.mg qual params body scope clos c' ctv)) (λ b u e=>Heap.get?_push_of_some _ e) (Nat.le_refl _) (JR (Heap.get?_push_size _ rfl));exact⟨.ref h'.objs.size,_,I2,rfl,q h'.objs.size ctv hnf'⟩
end
theorem P7{P:Program}{w:World}{K:Frag}{mg:MGz}{base:Heap}{A:Around}{outer:List Env}{s:Shared}{H:Hp}{f c':Addr}{params:Arguments}{body:Expr}{scope:Scope}{qual:Str}{ctv:Value}{N ps:LSz}{vs:LUz}{us:LWz}{Q:VK}{E:XK}{k:Nat}{te:TE}{CX:CXT}
  (hf:H f=some (B6 f (B5 mg qual params body scope [] c' ctv))) (hc:H c'=some (C4 c' qual)) (S:Ak N ps scope) (hr:Room (k+1) A) (e0:Env0 P w K mg base A outer s H) (hl:vs.length=ps.length) (r:Vals vs us)
  (hb:BindsTo s (kla_fn "<lambda>" qual params body scope [] ((mg "__name__").getD .none) (.ref c') ctv) ⟨us,[]⟩ (ps.zip us)) (hbody:PE (BF CX P w K mg base N qual scope f (.ref c') A outer s H E) body te) (hq:te (start N vs) H Q) :
  codeAny (model P w) A (.call (.ref f) ⟨us,[]⟩) (CR CX outer P w H s Q E) s:=by
 have lim:s.heap.NoLimit:=e0.mod.nolimit.keeps λ b o e=>(e0.bs b o e).1;have hkind:∀y∈ps.zip us,scope.names.lookup y.1=some .local\/(scope.names.lookup y.1=some .cell/\((cellsFrom (s.heap.objs.size+1) scope.names []).lookup y.1).isSome=true):=λ⟨n,v⟩ hy=>by
  rcases S.par n (List.of_mem_zip hy).1 with q|q
  .exact .inl q
  .exact .inr ⟨q,cellsFrom_some _ _ _ (.inl q)⟩
 have ho:s.heap.get? f=some (B5 mg qual params body scope [] c' ctv):=(show ObjOk P w H s.heap f (B6 f _) from e0.hok f _ hf).1;refine kla_callFunE hr.depth ho rfl S.co S.gen rfl (Je (e0.hok c' _ hc)) (hb _ _ _ _ ?_);refine wpAny_newFunctionEnv_cells S.kind hkind λ env he s1 x=>?_;subst he;refine⟨lim.keeps x.toInCall.keep,kla_codeExpr ?_⟩;have I:Inv (BF CX P w K mg base N qual scope f (.ref c') A outer s H E) [] (start N vs) H s1:=IX S hr.hd e0 hl r x;exact wpAny_mono (hbody [] s1 (start N vs) H Q I hq) (λ u s' ⟨v,H',J,rv,q⟩=>⟨v,H',J.os,J.bare,J.base,J.hok,rv,q⟩) λ e s' h=>h
section
variable{X:Cx}{pins:PNz}{σ:St}{H:Hp}{s:Shared}
theorem Inv.track{D:Addr}{o:HO}(I:Inv X pins σ H s)(hn:H D=none)(h1:X.s₀.heap.objs.size<=D)(hL:D≠X.env.locals)(h2:∀x c,X.env.cells.lookup x=some c->c≠D)(h3:∀p∈X.pn++pins,p.1≠D)
  (new:ObjOk X.prog X.w (upd H D o) s.heap D o):Inv X pins σ (upd H D o) s:=by
 have to:∀{b:Addr}{u:HO},H b=some u->(upd H D o) b=some u:=λ{b u} e=>by rw[Ai (Ah e hn)];exact e
 have J:=I.step (h':=s.heap) (H':=upd H D o) (g':=s.gens) (d':=s.drawn) (t':=s.toks) (ch:=[D]) (λ b hb=>?_) (λ b u _ _ _ e _=>e) (λ b u _ _ _ e _=>⟨u.slots,e⟩) (λ b u hc e n=>?_) (λ b u _ e=>⟨u,e⟩)
  (λ b xs e=>to e) (λ b u xs e=>to e) (λ b ps e=>⟨#[],by rw[to e];simp⟩) (λ m hm=>hm) (λ b u e=>?_) I.bare
 .exact J
 .have e:b=D:=by simpa using hb
  subst e;exact⟨.inr h1,hL,h2,h3⟩
 .rw[Ai (λ z=>hc (by simp[z]))];exact n
 .by_cases hb:b=D
  .subst hb;rw[Ac]at e;cases e;exact new
  .rw[Ai hb]at e;exact(I.hok b u e).stay (λ c v _ r=>r) (λ c r=>to r) λ c xs r=>to r
theorem Inv.apart(I:Inv X pins σ H s){D:Addr}(h:s.heap.objs.size<=D):H D=none/\X.s₀.heap.objs.size<=D/\D≠X.env.locals/\D∉X.fs/\(∀x c,X.env.cells.lookup x=some c->c≠D)/\∀p∈X.pn++pins,p.1≠D:=by
 have no:¬D<s.heap.objs.size:=Nat.not_lt.mpr h;refine⟨I.hok.fresh h,Nat.le_trans I.sz h,λ z=>no (by rw[z];exact I.lt),λ hb=>?_,λ x c e z=>?_,λ p hp z=>?_⟩
 .obtain⟨_,o,ho,_⟩:=I.ok.funs.mem hb;exact no (Nat.lt_of_lt_of_le (Heap.lt_size ho) I.sz)
 .obtain⟨v,o,ho,_⟩:=I.cell x c e;exact no (by rw[<-z];exact Heap.lt_size ho)
 .exact no (by rw[<-z];exact Heap.lt_size (I.pin p hp).1)
theorem Inv.unpin{p:Addr×Obj}(I:Inv X (p::pins) σ H s):Inv X pins σ H s:=I.pins_of λ q hq=>I.pin q (List.mem_append_right _ (List.mem_cons_of_mem _ hq))
end
section
variable{X:Cx}{pins:PNz}{σ:St}{H:Hp}{s:Shared}{A:Around}{D kS:Addr}{vs ks:LWz}{e e1:Nat}
theorem EY{p:Addr×Obj}(I:Inv X pins σ H s)(hp:p∈pins):s.heap.get? p.1=some p.2:=(I.pin p (List.mem_append_right _ hp)).1
theorem Inv.repin{D:Addr}{n:Nat}{items:Array Value}{g:Array Value->Array Value}{pins:PNz}(I:Inv X ((D,seqObj "list" items n)::pins) σ H s)(h1:X.s₀.heap.objs.size<=D)(h2:∀x c,X.env.cells.lookup x=some c->c≠D)(h3:∀p∈X.pn++pins,p.1≠D) :
  ∃c,Inv X ((D,seqObj "list" (g items) c)::pins) σ H { s with heap:=s.heap.update D (Obj.mapSeq g) }:=by
 obtain⟨e,hn,hL,hf,_⟩:=I.pin (D,seqObj "list" items n) (List.mem_append_right _ List.mem_cons_self);obtain⟨c,hc⟩:∃c,(s.heap.update D (Obj.mapSeq g)).get? D=some (seqObj "list" (g items) c):=⟨_,get?_update_seq e g⟩;have J:Inv X pins σ H { s with heap:=s.heap.update D (Obj.mapSeq g),toks:=s.toks }:=I.unpin.turned (it:=D) (t':=s.toks) (λ b o nb q=>by rw[Heap.get?_update_ne _ _ _ _ nb];exact q) hn hL (.inr h1) h2 h3;refine⟨c,J.pins_of λ p hp=>?_⟩;rcases List.mem_cons.mp hp with rfl|hp
 .exact⟨hc,hn,hL,hf,λ v z=>nomatch z⟩
 .exact J.pin p (List.mem_append_right _ hp)
end
theorem JT{X:Cx}{pins:PNz}{σ:St}{H:Hp}{s:Shared}{A:Around}{kts:List (Addr×List Int)}{m:Nat}(I:Inv X pins σ H s)(ht:∀t∈kts,t.2.length=m+1/\H t.1=some (.tup (t.2.map V.int))) :
  ∀t∈kts,t.2.length=m+1/\∃items,IsTup s.heap t.1 items/\IntsAre items.toList t.2:=λ t htm=>by
 obtain⟨h1,h2⟩:=ht t htm;obtain⟨_,zs,rz,tz⟩:=(show ObjOk X.prog X.w H s.heap t.1 (.tup (t.2.map V.int)) from I.hok _ _ h2);exact⟨h1,_,tz,by simpa using EG rz⟩
theorem S2{X:Cx}{pins:PNz}{σ:St}{H:Hp}{s:Shared}{A:Around}{f c' a:Addr}{params:Arguments}{body:Expr}{scope:Scope}{qual:Str}{ctv u:Value}{v:V}{N ps:LSz}{k:Nat}{te:TE}(I:Inv X pins σ H s)(e0:Env0 X.prog X.w X.K X.mg X.base A X.stack s H)
  (hf:H f=some (B6 f (B5 X.mg qual params body scope [] c' ctv))) (hc:H c'=some (C4 c' qual)) (S:Ak N ps scope) (hr:Room (k+1) A) (hl:ps.length=1) (r:RelV v u)
  (hb:BindsTo s (kla_fn "<lambda>" qual params body scope [] ((X.mg "__name__").getD .none) (.ref c') ctv) ⟨[u],[]⟩ (ps.zip [u]))
  (hbody:PE (BF CX0 X.prog X.w X.K X.mg X.base N qual scope f (.ref c') A X.stack s H E0) body te) (hq:te (start N [v]) H λ y H'=>y=.ref a/\H'=H) :
  wpAny (model X.prog X.w) A (call (.ref f) [u]) (λ y s'=>y=.ref a/\Inv X pins σ H s') (λ_ _=>False) s:=by
 refine wpAny_call (codeAny_mono (P7 (Q:=λ y H'=>y=.ref a/\H'=H) hf hc S hr e0 (by rw[hl];rfl) (.cons r .nil) hb hbody hq) λ r s' hq'=>?_);cases r with
 |error e=>exact False.elim hq'
 |ok fl =>
  cases fl with
  |ret y =>
   obtain⟨z,H',J,rz,ez,eH⟩:=I.after hq';subst ez eH;cases rz;exact⟨rfl,J⟩
  |next=>exact False.elim hq'
  |brk=>exact False.elim hq'
  |cont=>exact False.elim hq'
theorem S0{M:Model}{A:Around}{E:VPz}{s:Shared}{kd:SortKind}{κ:Value->Int}{S:Keyed->Prop}(h:∀x y,S x->S y->∀C:Bool->Shared->Prop,C (decide (κ x.1<κ y.1)) s->wpAny M A (keyLt' kd x.1 y.1) C (λ_ _=>False) s):LtG M A E s kd (λ p=>κ p.1) S:=λ x y hx hy st Q hk hq=>by
 rw[lt'_eq];refine wpS_bind (wpS_get ?_);rw[hk];refine wpS_bind (wpS_lift (wpAny_attempt (wpAny_mono (h x y hx hy (λ b s'=>b=decide (κ x.1<κ y.1)/\s'=s) ⟨rfl,rfl⟩) (λ b s' hb=>?_) λ_ _ z=>z.elim)));obtain⟨rfl,rfl⟩:=hb;exact⟨rfl,wpS_pure hq⟩
theorem Pt{α β:Type}{f:α->β}{l m:List β}(h:l.Perm m):∀ts:List α,m=ts.map f->∃ts':List α,ts'.Perm ts/\l=ts'.map f:=by
 induction h with
 |nil =>
  intro ts e;rw[List.map_eq_nil_iff.mp e.symm];exact⟨[],.nil,rfl⟩
 |cons x p ih =>
  intro ts e;obtain⟨t,r,rfl,e1,e2⟩:=List.map_eq_cons_iff.mp e.symm;obtain⟨r',p',e'⟩:=ih r e2.symm;exact⟨t::r',p'.cons t,by rw[e',List.map_cons,e1]⟩
 |swap x y l =>
  intro ts e;obtain⟨t,r,rfl,e1,e2⟩:=List.map_eq_cons_iff.mp e.symm;obtain⟨u,q,rfl,e3,e4⟩:=List.map_eq_cons_iff.mp e2;exact⟨u::t::q,List.Perm.swap _ _ _,by rw[List.map_cons,List.map_cons,e1,e3,e4]⟩
 |trans p q ih1 ih2 =>
  intro ts e;obtain⟨t2,p2,e2⟩:=ih2 ts e;obtain⟨t1,p1,e1⟩:=ih1 t2 e2;exact⟨t1,p1.trans p2,e1⟩
def Jk(X:Cx)(σ:St)(H:Hp)(kvs:LUz)(kd:SortKind)(κ:Value->Int):Prop:=∀(A:Around)(ks:LWz)(pins:PNz)(s:Shared),Vals kvs ks->Inv X pins σ H s ->
 (∀(C:SortKind->Shared->Prop)(E:VPz),2<=ks.length->C kd s->wpAny (model X.prog X.w) A (keyKind' ks.toArray) C E s) /\
 ∀x∈ks,∀y∈ks,∀C:Bool->Shared->Prop,C (decide (κ x<κ y)) s->wpAny (model X.prog X.w) A (keyLt' kd x y) C (λ_ _=>False) s
section
variable{X:Cx}{pins:PNz}{σ:St}{H:Hp}{s:Shared}{A:Around}{D kS f:Addr}{vs:LWz}{e1:Nat}{kvs:LUz}{kd:SortKind}{κ:Value->Int}{P:PySem.Fin->Shared->Prop}{E:VPz}
theorem Lr{e:Nat}{st:SortSt}{ks out:LWz}(I:Inv X ((kS,seqObj "list" ks.toArray e)::(D,seqObj "list" #[] e1)::pins) σ H s)(hk1:X.s₀.heap.objs.size<=kS)(hkc:∀x c,X.env.cells.lookup x=some c->c≠kS)(hkp:∀p∈X.pn++((D,seqObj "list" #[] e1)::pins),p.1≠kS)
  (hD1:X.s₀.heap.objs.size<=D) (hDc:∀x c,X.env.cells.lookup x=some c->c≠D) (hDp:∀p∈X.pn++pins,p.1≠D) (hout:(arrOf st).map (·.2)=List.toArray out) (hz:out.length<=sizeLine) (hkz:ks.length<=sizeLine) (hf:failedOf st=none)
  (h:∀(c:Nat)(s':Shared),Inv X pins σ H s'->s'.heap.get? D=some (seqObj "list" (List.toArray out) c)->P (.done (.ret .none)) s'):wpAny (model X.prog X.w) A (ksk_tail D false e1 (.ref kS) st) P E s:=by
 have ek:=EY I List.mem_cons_self;obtain⟨ck,I1⟩:=I.repin (g:=λ_=>(#[]:Array Value)) hk1 hkc hkp;have eD:=EY I1 (List.mem_cons_of_mem _ List.mem_cons_self);obtain⟨cD,I2⟩:=(I1.unpin).repin (g:=λ_=>List.toArray out) hD1 hDc hDp;unfold ksk_tail
 try dsimp only
 rw[hout];refine wpAny_bind (listUpdate_at ek rfl ?_ (by rw[List.size_toArray];exact hkz) (Nat.zero_le _));refine wpAny_bind (wpAny_letGo ?_);refine wpAny_bind (seqEpoch_at eD rfl ?_);refine wpAny_bind (listUpdate_at eD rfl ?_ (Nat.zero_le _) (by show out.toArray.size<=_;rw[List.size_toArray];lia));rw[hf];simp only[bne_self_eq_false,Bool.false_eq_true,if_false];exact wpAny_pure (h cD _ I2.unpin (EY I2 List.mem_cons_self))
theorem Rj{e:Nat}{ks:LWz}(G:Jk X σ H kvs kd κ)(hks:Vals kvs ks)(I:Inv X ((kS,seqObj "list" ks.toArray e)::(D,seqObj "list" #[] e1)::pins) σ H s)(hk1:X.s₀.heap.objs.size<=kS)(hkc:∀x c,X.env.cells.lookup x=some c->c≠kS)(hkp:∀p∈X.pn++((D,seqObj "list" #[] e1)::pins),p.1≠kS)
  (hD1:X.s₀.heap.objs.size<=D) (hDc:∀x c,X.env.cells.lookup x=some c->c≠D) (hDp:∀p∈X.pn++pins,p.1≠D) (hl:ks.length=vs.length) (hz:vs.length<=sizeLine)
  (h:∀(zs:List Keyed)(c:Nat)(s':Shared),zs.Perm (ks.zip vs)->(zs.map λ p=>κ p.1).Pairwise (·<=·)->Inv X pins σ H s'->s'.heap.get? D=some (seqObj "list" (List.toArray (zs.map (·.2))) c)->P (.done (.ret .none)) s') :
  wpAny (model X.prog X.w) A (ksk_end D false vs.toArray e1 (.ref kS) ks.toArray) P E s:=by
 obtain⟨g1,g2⟩:=G A ks _ s hks I;unfold ksk_end
 try dsimp only
 simp only[Bool.false_eq_true,if_false];have hsz:vs.toArray.size=vs.length:=by simp
 have zl:((ks.toArray.zip vs.toArray).toList:List Keyed)=ks.zip vs:=by simp
 by_cases h2:vs.toArray.size<2
 .rw[if_pos h2,if_pos h2];refine wpAny_bind (wpAny_pure ?_);rw[StateT.run_pure];refine wpAny_bind (wpAny_pure ?_);dsimp only;have e2:(arrOf (SortSt.mk' general' (ks.toArray.zip vs.toArray) #[] 7 none)).map (·.2)=List.toArray ((ks.zip vs).map (·.2)):=by
   show(ks.toArray.zip vs.toArray).map (·.2)=_;apply Array.ext';rw[Array.toList_map,zl]
  refine Lr I hk1 hkc hkp hD1 hDc hDp e2 (by rw[List.length_map,List.length_zip,hl,Nat.min_self];exact hz) (by lia) rfl λ c s' I' e'=>h _ c s' (List.Perm.refl _) ?_ I' e';rw[hsz]at h2;have l1:((ks.zip vs).map λ p=>κ p.1).length<=1:=by rw[List.length_map,List.length_zip];lia
  generalize (ks.zip vs).map (λ p=>κ p.1)=l at l1
  match l,l1 with
  |[],_=>exact List.Pairwise.nil
  |[x],_=>exact List.pairwise_singleton _ _
 .rw[if_neg h2,if_neg h2];refine wpAny_bind (g1 _ _ (by lia) ?_);refine wpAny_bind (wpAny_mono (HS (A:=A) (E:=E) (s:=s) (M:=model X.prog X.w) (kd:=kd) (κ:=λ p=>κ p.1) (S:=λ p=>p∈ks.zip vs) (st:=SortSt.mk' kd (ks.toArray.zip vs.toArray) #[] 7 none)
   (Q:=λ_ st'=>(arrOf st').toList.Perm (ks.zip vs)/\failedOf st'=none/\Rise (λ p:Keyed=>κ p.1) (arrOf st').toList) (S0 λ x y hx hy C hc=>g2 _ (List.of_mem_zip hx).1 _ (List.of_mem_zip hy).1 C hc) rfl rfl rfl
   (λ x hx=>by rw[<-zl];exact hx) λ u p f r=>⟨by rw[<-zl];exact Array.perm_iff_toList_perm.mp p,f,r⟩) ?_ λ_ _ e=>e)
  rintro⟨⟨⟩,st'⟩ s' ⟨rfl,hp,hf,hr⟩;dsimp only;have e2:(arrOf st').map (·.2)=List.toArray ((arrOf st').toList.map (·.2)):=by
   apply Array.ext';rw[Array.toList_map]
  refine Lr I hk1 hkc hkp hD1 hDc hDp e2 (by rw[List.length_map,hp.length_eq,List.length_zip,hl,Nat.min_self];exact hz) (by lia) hf λ c s' I' e'=>h _ c s' hp ?_ I' e';exact List.pairwise_map.mpr hr
theorem PM(G:Jk X σ H kvs kd κ)(I:Inv X ((kS,seqObj "list" #[] 0)::(D,seqObj "list" #[] e1)::pins) σ H s)(hk1:X.s₀.heap.objs.size<=kS)(hkc:∀x c,X.env.cells.lookup x=some c->c≠kS)(hkp:∀p∈X.pn++((D,seqObj "list" #[] e1)::pins),p.1≠kS)
  (hD1:X.s₀.heap.objs.size<=D) (hDc:∀x c,X.env.cells.lookup x=some c->c≠D) (hDp:∀p∈X.pn++pins,p.1≠D) (hl:kvs.length=vs.length) (hz:vs.length<=sizeLine)
  (hcall:∀(i:Nat)(v:Value)(k:V)(pins':PNz)(s':Shared),vs[i]?=some v->kvs[i]?=some k->Inv X pins' σ H s'->wpAny (model X.prog X.w) A (call (.ref f) [v]) (λ u s''=>RelV k u/\Inv X pins' σ H s'') (λ_ _=>False) s')
  (h:∀(ks:LWz)(zs:List Keyed)(c:Nat)(s':Shared),Vals kvs ks->zs.Perm (ks.zip vs)->(zs.map λ p=>κ p.1).Pairwise (·<=·)->Inv X pins σ H s'->s'.heap.get? D=some (seqObj "list" (List.toArray (zs.map (·.2))) c)->P (.done (.ret .none)) s') :
  wpAny (model X.prog X.w) A (ksk_rest D (.ref f) false vs.toArray e1 (.ref kS)) P E s:=by
 unfold ksk_rest;refine wpAny_bind (wpAny_rule ?_)
 first
  |rw[List.forIn_toArray]
  | (rw[<-Array.forIn_toList];simp only[List.toList_toArray])
  |rw[<-Array.forIn_toList]
 refine wpAny_bind (ksk_fold (λ i s'=>∃(ks:LWz)(e:Nat),Vals (kvs.take i) ks/\Inv X ((kS,seqObj "list" ks.toArray e)::(D,seqObj "list" #[] e1)::pins) σ H s') vs 0 s ⟨[],0,by rw[List.take_zero];exact .nil,I⟩ (λ j x s' hx hJ=>?_) λ s' hJ=>?_)
 .obtain⟨ks,e,hv,J⟩:=hJ;rw[Nat.zero_add]at hv |-;have hj:j<kvs.length:=by rw[hl];exact(List.getElem?_eq_some_iff.mp hx).1
  have htj:kvs[j]?=some kvs[j]:=List.getElem?_eq_getElem hj;refine wpAny_bind (wpAny_attempt (wpAny_mono (hcall j x kvs[j] _ s' hx htj J) (λ u s'' hu=>?_) λ_ _ hF=>hF.elim));obtain⟨ru,J'⟩:=hu;have ek:=EY J' List.mem_cons_self;obtain⟨c,J2⟩:=J'.repin (g:=(·.push u)) hk1 hkc hkp;have ea:(ks.toArray).push u=(ks++[u]).toArray:=by simp
  rw[ea]at J2;have lk:ks.length=j:=by rw[<-hv.length,List.length_take];lia
  try dsimp only
  refine wpAny_bind (listUpdate_at ek rfl ?_ (by rw[List.size_toArray];lia) (Nat.le_trans (Nat.le_of_eq (Array.size_push ..)) (by rw[List.size_toArray];lia)));exact wpAny_pure ⟨rfl,ks++[u],c,by rw[List.take_succ,htj];exact hv.append (.cons ru .nil),J2⟩
 .obtain⟨ks,e,hv,J⟩:=hJ;rw[Nat.zero_add,<-hl,List.take_length]at hv
  try dsimp only
  refine wpAny_bind (listItems_at (EY J List.mem_cons_self) rfl ?_);exact Rj G hv J hk1 hkc hkp hD1 hDc hDp (by rw[<-hv.length];exact hl) hz λ zs c s'=>h ks zs c s' hv
end
theorem M6{X:Cx}{pins:PNz}{σ:St}{H:Hp}{s:Shared}{A:Around}{D f:Addr}{vs:LWz}{n:Nat}{kvs:LUz}{kd:SortKind}{κ:Value->Int}{P:PySem.Fin->Shared->Prop}{E:VPz}(G:Jk X σ H kvs kd κ)
  (I:Inv X pins σ H s) (ho:s.heap.get? D=some (seqObj "list" vs.toArray n)) (hD:H D=none) (hD1:X.s₀.heap.objs.size<=D) (hDL:D≠X.env.locals) (hDf:D∉X.fs) (hDc:∀x c,X.env.cells.lookup x=some c->c≠D) (hDp:∀p∈X.pn++pins,p.1≠D)
  (hl:kvs.length=vs.length) (hz:vs.length<=sizeLine)
  (hcall:∀(i:Nat)(v:Value)(k:V)(pins':PNz)(s':Shared),vs[i]?=some v->kvs[i]?=some k->Inv X pins' σ H s'->wpAny (model X.prog X.w) A (call (.ref f) [v]) (λ u s''=>RelV k u/\Inv X pins' σ H s'') (λ_ _=>False) s')
  (h:∀(ks:LWz)(zs:List Keyed)(c:Nat)(s':Shared),Vals kvs ks->zs.Perm (ks.zip vs)->(zs.map λ p=>κ p.1).Pairwise (·<=·)->Inv X pins σ H s'->s'.heap.get? D=some (seqObj "list" (List.toArray (zs.map (·.2))) c)->P (.done (.ret .none)) s') :
  wpAny (model X.prog X.w) A (Builtin.«list.sort» ⟨[.ref D],[(Str.ofString "key",.ref f)]⟩) P E s:=by
 rw[ksk_t1];unfold ksk_tree;refine wpAny_bind (listItems_at ho rfl ?_);refine wpAny_bind (listUpdate_at ho rfl ?_ (by rw[List.size_toArray];exact hz) (Nat.zero_le _));obtain⟨e1,ho1⟩:∃e1,(s.heap.update D (Obj.mapSeq λ_=>(#[]:Array Value))).get? D=some (seqObj "list" #[] e1):=⟨_,get?_update_seq ho λ_=>#[]⟩;have I1:Inv X pins σ H { s with heap:=s.heap.update D (Obj.mapSeq λ_=>(#[]:Array Value)),toks:=s.toks }:=I.turned (it:=D) (λ b o nb q=>by rw[Heap.get?_update_ne _ _ _ _ nb];exact q) hD hDL (.inr hD1) hDc hDp;have I1:Inv X ((D,seqObj "list" #[] e1)::pins) σ H { s with heap:=s.heap.update D (Obj.mapSeq λ_=>(#[]:Array Value)) }:=I1.pins_of λ p hp=>by
  rcases List.mem_cons.mp hp with rfl|hp
  .exact⟨ho1,hD,hDL,hDf,λ v z=>nomatch z⟩
  .exact I1.pin p (List.mem_append_right _ hp)
 refine wpAny_bind (seqEpoch_at ho1 rfl ?_);refine wpAny_bind (wpAny_newTuple ?_ hz);refine wpAny_bind (wpAny_newList ?_ (Nat.zero_le _));refine wpAny_holding ?_;have I2:=(I1.kept (t':=s.toks) (h':=(s.heap.update D (Obj.mapSeq λ_=>(#[]:Array Value))).push (seqObj "tuple" vs.toArray 0)) λ b u q=>Heap.get?_push_of_some _ q);have ap:=I2.apart (D:=((s.heap.update D (Obj.mapSeq λ_=>(#[]:Array Value))).push (seqObj "tuple" vs.toArray 0)).objs.size) (Nat.le_refl _);have I3:=I2.kept (t':=s.toks) (h':=((s.heap.update D (Obj.mapSeq λ_=>(#[]:Array Value))).push (seqObj "tuple" vs.toArray 0)).push (seqObj "list" #[] 0)) λ b u q=>Heap.get?_push_of_some _ q;have hk0:(((s.heap.update D (Obj.mapSeq λ_=>(#[]:Array Value))).push (seqObj "tuple" vs.toArray 0)).push (seqObj "list" #[] 0)).get? ((s.heap.update D (Obj.mapSeq λ_=>(#[]:Array Value))).push (seqObj "tuple" vs.toArray 0)).objs.size=some (seqObj "list" #[] 0):=Heap.get?_push_size _ rfl;show wpAny (model X.prog X.w) A (ksk_rest D (.ref f) false vs.toArray e1 (.ref ((s.heap.update D (Obj.mapSeq λ_=>(#[]:Array Value))).push (seqObj "tuple" vs.toArray 0)).objs.size)) P E { s with heap:=((s.heap.update D (Obj.mapSeq λ_=>(#[]:Array Value))).push (seqObj "tuple" vs.toArray 0)).push (seqObj "list" #[] 0) };obtain⟨a1,a2,a3,a4,a5,a6⟩:=ap;refine PM G (I3.pins_of λ p hp=>?_) a2 a5 a6 hD1 hDc hDp hl hz hcall h;rcases List.mem_cons.mp hp with rfl|hp
 .exact⟨hk0,a1,a3,a4,λ v z=>nomatch z⟩
 .exact I3.pin p (List.mem_append_right _ hp)
theorem FR{X:Cx}{pins:PNz}{σ:St}{H:Hp}{s:Shared}{f p:Addr}{β:Type}{ts:List (Addr×β)}{kv:Addr×β->V}{K:Addr×β->Int}{kd:SortKind}{κ:Value->Int}{Q:VK}(I:Inv X pins σ H s)(hp:SqL X.K H p (ts.map λ t=>V.ref t.1))(G:Jk X σ H (ts.map kv) kd κ)
  (hκ:∀t∈ts,∀u,RelV (kv t) u->κ u=K t)
  (hcall:∀t∈ts,∀(pins':PNz)(s':Shared),Inv X pins' σ H s'->wpAny (model X.prog X.w) X.A.in1.in1 (call (.ref f) [.ref t.1]) (λ u s''=>RelV (kv t) u/\Inv X pins' σ H s'') (λ_ _=>False) s')
  (h:∀l (ts':List (Addr×β)),H l=none->ts'.Perm ts->(ts'.map K).Pairwise (·<=·)->Q (.ref l) (upd H l (.lst (ts'.map λ t=>V.ref t.1)))) :
  wpAny (model X.prog X.w) X.A (call (.builtin "sorted") [.ref p] [(Str.ofString "key",.ref f)]) (EP X pins σ Q) X.xe s:=by
 obtain⟨its,rv,pl,hz⟩:=I.list hp;have hits:its=ts.map λ t=>Value.ref t.1:=by
  have:=F2 (ts:=ts.map (·.1)) (its:=its) (by rw[List.map_map];exact rv);rw[this,List.map_map];rfl
 have hlen:its.length=ts.length:=by rw[hits,List.length_map]
 rw[List.length_map]at hz;refine call_function_entry_kw kind_sorted plain_sorted entry_sorted (ksk_s1 _ _) ?_;unfold Builtin.«sorted»;refine wpAny_bind (m:=checkCount "sorted" 1 1 _) (wpAny_pure ?_);refine wpAny_bind (collect_list pl.isList ?_ (by rw[hlen];exact hz));refine wpAny_bind (wpAny_newList ?_ (by rw[hlen];exact hz));have hsz:((s.heap.push (seqObj "list" #[] 0)).update s.heap.objs.size (Obj.mapSeq (·++its.toArray))).objs.size=s.heap.objs.size+1:=by
  rw[Heap.size_update,size_push']
 have hoL:(((s.heap.push (seqObj "list" #[] 0)).update s.heap.objs.size (Obj.mapSeq (·++its.toArray))).push (seqObj "list" its.toArray 0)).get? (s.heap.objs.size+1)=some (seqObj "list" its.toArray 0):=by
  rw[<-hsz];exact Heap.get?_push_size _ rfl
 have keep:∀b o,s.heap.get? b=some o->(((s.heap.push (seqObj "list" #[] 0)).update s.heap.objs.size (Obj.mapSeq (·++its.toArray))).push (seqObj "list" its.toArray 0)).get? b=some o:=λ b o q=>by
  have hlt:b<s.heap.objs.size:=Heap.lt_size q;rw[Heap.get?_push_ne _ _ _ (by rw[hsz];exact Nat.ne_of_lt (Nat.lt_succ_of_lt hlt)),Heap.get?_update_ne _ _ _ _ (Nat.ne_of_lt hlt),Heap.get?_push_ne _ _ _ (Nat.ne_of_lt hlt)];exact q
 obtain⟨a1,a2,a3,a4,a5,a6⟩:=I.apart (D:=s.heap.objs.size+1) (Nat.le_succ _);have I3:Inv X pins σ H { s with heap:=((s.heap.push (seqObj "list" #[] 0)).update s.heap.objs.size (Obj.mapSeq (·++its.toArray))).push (seqObj "list" its.toArray 0) }:=I.kept (t':=s.toks) keep;show wpAny _ _ _ _ _ { s with heap:=((s.heap.push (seqObj "list" #[] 0)).update s.heap.objs.size (Obj.mapSeq (·++its.toArray))).push (seqObj "list" its.toArray 0) };rw[hsz];refine wpAny_bind (wpAny_holding (wpAny_call_entry_kw slot_list_sort ⟨_,hoL,rfl⟩ entry_list_sort ?body (ksk_l1 _ _)))
 case body =>
  refine M6 G I3 hoL a1 a2 a3 a4 a5 a6 (by rw[List.length_map,hlen]) (by rw[hlen];exact hz) (λ i v k pins' s' hv hk J=>?_) λ ks zs c s' rk pz sz J eD=>?_
  .rw[List.getElem?_map]at hk;obtain⟨t0,ht0,rfl⟩:=Option.map_eq_some_iff.mp hk;rw[hits,List.getElem?_map,ht0]at hv;cases hv;exact hcall t0 (List.mem_of_getElem? ht0) pins' s' J
  .refine⟨_,rfl,wpAny_pure ⟨_,rfl,?_⟩⟩;have lk:ks.length=ts.length:=by rw[<-rk.length,List.length_map]
   have ez:ks.zip its=(ts.zip ks).map λ p=>(p.2,Value.ref p.1.1):=by
    rw[hits];clear rk sz pz hp G hκ hcall h hits rv pl hlen hz I3 hoL keep hsz J
    induction ts generalizing ks with
    |nil=>simp
    |cons t r ih =>
     match ks,lk with
     |k::ks,lk =>
      have:=ih ks (by simpa using lk)
      simpa using this
   obtain⟨ys,py,ey⟩:=Pt pz (ts.zip ks) ez;have memK:∀y∈ts.zip ks,κ y.2=K y.1:=λ y hy=>by
    refine hκ y.1 (List.of_mem_zip hy).1 y.2 ?_;clear ez py ey pz sz hits rv pl hlen hz I3 hoL keep hsz J hp G hκ hcall h
    induction ts generalizing ks with
    |nil=>simp at hy
    |cons t r ih =>
     match ks,rk,lk with
     |k::ks,.cons r1 r2,lk =>
      rw[List.zip_cons_cons]at hy;rcases List.mem_cons.mp hy with rfl|hy
      .exact r1
      .exact ih ks r2 (by simpa using lk) hy
   have eO:zs.map (·.2)=(ys.map (·.1)).map λ t=>Value.ref t.1:=by
    rw[ey,List.map_map,List.map_map];rfl
   have pT:(ys.map (·.1)).Perm ts:=by
    have:=py.map (·.1);rwa [List.map_fst_zip (by lia)]at this
   rw[eO]at eD;refine⟨.ref (s.heap.objs.size+1),_,J.track (o:=.lst ((ys.map (·.1)).map λ t=>V.ref t.1)) a1 a2 a3 a5 a6 ⟨?_,_,c,?_,eD⟩,rfl,h _ _ a1 pT ?_⟩
   .rw[List.length_map,pT.length_eq];exact hz
   .have:=GD ((ys.map (·.1)).map (·.1));rw[List.map_map,List.map_map (l:=ys.map (·.1))]at this;exact this
   .rw[ey,List.map_map]at sz;rw[List.map_map];have:ys.map (K∘λ y=>y.1)=ys.map ((λ p:Keyed=>κ p.1)∘λ p=>(p.2,Value.ref p.1.1)):=List.map_congr_left λ y hy=>(memK y (py.mem_iff.mp hy)).symm;rw[this];exact sz
theorem Ow{X:Cx}{σ:St}{H:Hp}{ns:List Int}:Jk X σ H (ns.map V.int) oneType' numOf:=λ A ks pins s rk I=>by
 have ia:IntsAre ks ns:=by simpa using EG rk
 refine⟨λ C E h2 hc=>?_,λ x hx y hy C hc=>?_⟩
 .rw[ksk_kind (keys:=ks.toArray) (by simpa using ia) (by simpa using h2)];exact wpAny_pure hc
 .obtain⟨n,t,rfl⟩:=ia.all x hx;obtain⟨m,u,rfl⟩:=ia.all y hy;exact kat_lt_int hc
theorem SI{X:Cx}{pins:PNz}{σ:St}{H:Hp}{s:Shared}{A:Around}{f a:Addr}{fd:FuncData}{ps:LSz}{sp:Sp}{k:Nat}{kv:V}(F:FnOk X.prog X.w X.K X.mg X.base CX0 k f fd ps sp)(hb:Binds X.K fd ps [])(hr:Room k A)(e0:Env0 X.prog X.w X.K X.mg X.base A X.stack s H)(I:Inv X pins σ H s)
  (h:sp [.ref a] H (λ y H'=>y=kv/\H'=H) E0):wpAny (model X.prog X.w) A (call (.ref f) [.ref a]) (λ u s'=>RelV kv u/\Inv X pins σ H s') (λ_ _=>False) s:=by
 have r2:Vals [V.ref a] [Value.ref a]:=.cons rfl .nil;have hl:([Value.ref a]++([]:LWz)).length=ps.length:=F.len _ _ _ _ h;refine wpAny_call (codeAny_mono (F.run A X.stack s H ⟨[.ref a],[]⟩ [.ref a] [.ref a] _ E0 hr e0 (hb s [.ref a] I.kIn hl) r2 h) λ r s' hq=>?_);cases r with
 |error e=>exact hq.elim
 |ok fl =>
  cases fl with
  |ret y =>
   obtain⟨z,H',J,rz,ez,eH⟩:=I.after hq;subst ez eH;exact⟨rz,J⟩
  |next=>exact False.elim hq
  |brk=>exact False.elim hq
  |cont=>exact False.elim hq
def RK(H:Hp)(key:List Int->Int):Value->Int
 |.ref a=>match H a with
  |some (.tup l)=>key (l.map λ v=>match v with|.int i=>i|_=>0)
  |_=>0
 |_=>0
theorem FE{H:Hp}{key:List Int->Int}{a:Addr}{ns:List Int}(h:H a=some (.tup (ns.map V.int))):RK H key (.ref a)=key ns:=by
 show(match H a with|some (.tup l)=>key (l.map λ v=>match v with|.int i=>i|_=>0)|_=>0)=key ns;rw[h];show key ((ns.map V.int).map _)=key ns;rw[List.map_map];congr 1;exact List.map_id _
theorem Ov{X:Cx}{σ:St}{H:Hp}{kts:List (Addr×List Int)}{m:Nat}{key:List Int->Int}(ht:∀t∈kts,t.2.length=m+1/\H t.1=some (.tup (t.2.map V.int)))(hkey:∀t∈kts,∀u∈kts,HT.lexLt t.2 u.2=decide (key t.2<key u.2)) :
  Jk X σ H (kts.map λ t=>V.ref t.1) (tuples' true) (RK H key):=λ A ks pins s rk I=>by
 have hks:ks=kts.map λ t=>Value.ref t.1:=by
  have:=F2 (ts:=kts.map (·.1)) (its:=ks) (by rw[List.map_map];exact rk);rw[this,List.map_map];rfl
 subst hks;have tup:=JT (A:=A) I ht;refine⟨λ C E h2 hc=>?_,λ x hx y hy C hc=>?_⟩
 .obtain⟨fs,f1,f2,f3⟩:=Hh tup;rw[List.length_map]at h2;exact kat_kind (T:=Value.type "int") f1 (by lia) (λ v hv=>by obtain⟨n,tk,rfl⟩:=f3 v hv;exact .now) (by decide) hc
 .obtain⟨t,mt,rfl⟩:=List.mem_map.mp hx;obtain⟨u,mu,rfl⟩:=List.mem_map.mp hy;obtain⟨l1,x1,⟨o1,g1,c1,n1,d1⟩,z1⟩:=tup t mt;obtain⟨l2,x2,⟨o2,g2,c2,n2,d2⟩,z2⟩:=tup u mu;rw[FE (ht t mt).2,FE (ht u mu).2,<-hkey t mt u mu]at hc;have s1:=z1.length;have s2:=z2.length;exact kat_lt g1 d1 g2 d2 (FX (by rw[decide_eq_false];simp at s1 s2;lia) 0 z1 z2 (by lia) hc)
def Q5(K:Frag)(sp:Sp)(ta:TA):TE:=λ σ H Q=>ta σ H λ xs H1=>∃(p:Addr)(β:Type)(ts:List (Addr×β))(key:Addr×β->Int),xs=[.ref p]/\SqL K H1 p (ts.map λ t=>V.ref t.1)/\(∀t∈ts,sp [.ref t.1] H1 (λ y H'=>y=.int (key t)/\H'=H1) E0) /\
 ∀l (ts':List (Addr×β)),H1 l=none->ts'.Perm ts->(ts'.map key).Pairwise (·<=·)->Q (.ref l) (upd H1 l (.lst (ts'.map λ t=>V.ref t.1)))
def Q4(K:Frag)(mg:MGz)(N:LSz)(qual:Str)(params:Arguments)(body:Expr)(scope:Scope)(te:TE)(ta:TA)(tl:TE):TE:=λ σ H Q=>ta σ H λ xs H1=>tl σ H1 λ fv H2=>∃(f c' p:Addr)(ctv:Value)(β:Type)(ts:List (Addr×β))(kt:Addr×β->Addr×List Int)(m:Nat)(key:List Int->Int),
 fv=.ref f/\H2 f=some (B6 f (B5 mg qual params body scope [] c' ctv))/\H2 c'=some (C4 c' qual)/\xs=[.ref p]/\SqL K H2 p (ts.map λ t=>V.ref t.1)/\(∀t∈ts,(kt t).2.length=m+1/\H2 (kt t).1=some (.tup ((kt t).2.map V.int))) /\
 (∀t∈ts,te (start N [.ref t.1]) H2 λ y H'=>y=.ref (kt t).1/\H'=H2)/\(∀t∈ts,∀u∈ts,HT.lexLt (kt t).2 (kt u).2=decide (key (kt t).2<key (kt u).2)) /\
 ∀l (ts':List (Addr×β)),H2 l=none->ts'.Perm ts->(ts'.map λ t=>key (kt t).2).Pairwise (·<=·)->Q (.ref l) (upd H2 l (.lst (ts'.map λ t=>V.ref t.1)))
section
variable{X:Cx}{k j:Nat}{y:Str}{ps:LSz}{sp:Sp}{e:Expr}{p q kp pos:Pos}{ta:TA}
theorem Oe(D:DefOk X.prog X.w X.K X.mg X.base k y ps sp)(hr:Room j X.A)(hg:Gl X "sorted")(hm:X.mg "sorted"=none)(ha:PA X [e] ta)(hj:k+2<=j:=by decide)(hy:Gl X y:=by rfl)(hdb:(y==("__debug__":Str))=false:=by decide)
  (he:backTo pos (starEach [e] X.env)=(false,eval e X.env)::backTo pos (starEach [] X.env):=by rfl) (hn:(backTo pos (starEach [e] X.env)).any (·.1)=false:=by rfl):PE X (.Call (.Name "sorted" p) [e] [⟨some "key",.Name y q,kp⟩] pos) (Q5 X.K sp ta):=by
 intro pins s σ H Q I h;obtain⟨f,fd,F,hmf,hk,hb⟩:=D.ex;refine wpAny_Call_Name_kw (D7 I hg hm (by rfl) ?_);refine PyProof.Rows.callWith_kw (thn (ha pos pins s σ H _ I h) λ us s1 ⟨vs,H1,I1,r1,q1⟩=>?_) he hn;refine PyProof.Rows.kws_cons (Cj I1 hy hmf (PyProof.Rows.kws_nil ?_) hdb);obtain⟨l,β,ts,key,rfl,hp,hsp,q⟩:=q1;obtain⟨u,rfl,ru⟩:=ER r1;cases ru;have hr2:=(hr.mono hj).in1.in1;have G:=Ow (X:=X) (σ:=σ) (H:=H1) (ns:=ts.map key);rw[List.map_map]at G;exact FR (K:=key) (kv:=λ t=>V.int (key t)) I1 hp G (λ t _ u hu=>by obtain⟨tk,rfl⟩:=hu;rfl) (λ t ht pins' s' J=>SI F hb hr2 (J.env0.in1.in1) J (hsp t ht)) q
theorem Od{params:Arguments}{body:Expr}{scope:Scope}{qual:Str}{lp:Pos}{N ps:LSz}{te tl:TE}(hg:Gl X "sorted")(hm:X.mg "sorted"=none)(ha:PA X [e] ta)(hl:PE X (.Lambda params body scope lp) tl)(S:Ak N ps scope)(hps:ps.length=1)(hr:Room (k+3) X.A)
  (hb:∀(s:Shared)(pm ctv u:Value)(c':Addr),BindsTo s (kla_fn "<lambda>" qual params body scope [] pm (.ref c') ctv) ⟨[u],[]⟩ (ps.zip [u]))
  (hbody:∀(A:Around)(outer:List Env)(s:Shared)(H:Hp)(f c':Addr),PE (BF CX0 X.prog X.w X.K X.mg X.base N qual scope f (.ref c') A outer s H E0) body te)
  (he:backTo pos (starEach [e] X.env)=(false,eval e X.env)::backTo pos (starEach [] X.env):=by rfl) (hn:(backTo pos (starEach [e] X.env)).any (·.1)=false:=by rfl) :
  PE X (.Call (.Name "sorted" p) [e] [⟨some "key",.Lambda params body scope lp,kp⟩] pos) (Q4 X.K X.mg N qual params body scope te ta tl):=by
 intro pins s σ H Q I h;refine wpAny_Call_Name_kw (D7 I hg hm (by rfl) ?_);refine PyProof.Rows.callWith_kw (thn (ha pos pins s σ H _ I h) λ us s1 ⟨vs,H1,I1,r1,q1⟩=>?_) he hn;refine PyProof.Rows.kws_cons (thn (hl pins s1 σ H1 _ I1 q1) λ fv s2 ⟨y,H2,I2,ry,q2⟩=>PyProof.Rows.kws_nil ?_);obtain⟨f,c',l,ctv,β,ts,kt,m,key,rfl,hf,hc,rfl,hp,hk,hte,hkey,q⟩:=q2;obtain⟨u,rfl,ru⟩:=ER r1;cases ru;cases ry;have G:=Ov (X:=X) (σ:=σ) (H:=H2) (kts:=ts.map kt) (m:=m) (key:=key) (λ t ht=>by obtain⟨t0,m0,rfl⟩:=List.mem_map.mp ht;exact hk t0 m0) λ t ht u hu=>by
  obtain⟨t0,m0,rfl⟩:=List.mem_map.mp ht;obtain⟨u0,m1,rfl⟩:=List.mem_map.mp hu;exact hkey t0 m0 u0 m1
 rw[List.map_map]at G;refine FR (K:=λ t=>key (kt t).2) (kv:=λ t=>V.ref (kt t).1) I2 hp G (λ t ht u hu=>by cases hu;exact FE (hk t ht).2) (λ t ht pins' s' J=>?_) q;exact wpAny_mono (S2 (te:=te) (v:=.ref t.1) (u:=.ref t.1) J (J.env0.in1.in1) hf hc S ((hr.in1).in1) hps rfl (hb _ _ _ _ _) (hbody _ _ _ _ _ _) (hte t ht)) (λ u s'' ⟨e,J'⟩=>⟨by rw[e];rfl,J'⟩) λ_ _ z=>z
end
def Qq(Ts:List Addr)(H:Hp):Prop:=(∀b,H b=none\/(∃o xs,H b=some (.frz o (.lst xs)))\/(b∈Ts/\H b=some (.tbl #[])))/\∀T∈Ts,H T=some (.tbl #[])
theorem Kh{h:Heap}{c T:Addr}(x:CodeHd h c T):isCodeTable h T:=by
 obtain⟨o,vs,file,tf,flags,tg,inF,text,tt,e1,e2,e3,e4,_⟩:=x;exact⟨c,o,vs,e1,e2,e3,e4⟩
theorem law_callT{P:Program}{w:World}{K:Frag}{mg mb:MGz}{CX:CXT}{k:Nat}{fa a:Addr}{fd:FuncData}{x:Str}{sp:Sp}{s₁:Shared}{vs:LWz}{ns:List Int}{Ts:List Addr}
  (KX:K.In s₁.heap) (hns:s₁.heap.Ns mainGlobals mg) (hb:s₁.heap.Ns builtinsNs mb) (hbb:∀x:Str,x≠"__name__"->mb x=bootBuiltins x) (hlim:s₁.heap.NoLimit) (hg:s₁.gens=#[])
  (ha:s₁.heap.get? a=some { cls:=.type "list",data:=.seq vs.toArray }) (hi:IntsAre vs ns) (hl:ns.length<=sizeLine) (hr:Room k callerA)
  (hT:∀T∈Ts,s₁.heap.get? T=some (tabObj #[])/\K.lookup T=none/\∃c,CodeHd s₁.heap c T)
  (F:∀base:Heap,K.In base->base.Ns mainGlobals mg->FnOk P w K mg base CX k fa fd [x] sp) (hbind:∀(s:Shared)(u:Value),BindsTo s fd ⟨[u],[]⟩ [(x,u)])
  (hsp:∀H:Hp,Qq Ts H->SqL K H a (ns.map V.int)->sp [.ref a] H (λ v _=>v=.bl true) λ_ _ _=>False)
  (hCX:∀H e s',CX [] H s₁ (λ_ _ _=>False) e s'->False) :
  codeAny (model P w) callerA (.call (.ref fa) ⟨[.ref a],[]⟩) (λ r s'=>r=.ok (.ret (.bool true))/\OldK s₁.heap s'.heap/\s'.os=s₁.os/\AllBare s'.gens) s₁:=by
 have rv:=IA hi;have lenV:=hi.length;have core:∀H:Hp,Qq Ts H->SqL K H a (ns.map V.int)->HOk P w H s₁.heap->(∀b,H b≠none->b=a\/b∈Ts)->(H a≠none->K.lookup a=none) ->
   codeAny (model P w) callerA (.call (.ref fa) ⟨[.ref a],[]⟩) (λ r s'=>r=.ok (.ret (.bool true))/\OldK s₁.heap s'.heap/\s'.os=s₁.os/\AllBare s'.gens) s₁:=by
  intro H hO hS hok hA hK;have base_of:∀{b:Addr}{o:Obj},s₁.heap.get? b=some o->H b=none->(JW s₁.heap H).get? b=some o:=λ e n=>PL e n;have noA:∀{b:Addr}{o:Obj}{es:Array DictEntry}{ep:Nat},s₁.heap.get? b=some o->o.data=.dict es ep->H b=none:=λ{b o es ep} e d=>by
   cases q:H b with
   |none=>rfl
   |some u =>
    rcases hA b (by rw[q];simp) with e'|e'
    .subst e';rw[ha]at e;cases e;have d':Data.seq vs.toArray _=Data.dict es ep:=d;cases d'
    .rw[(hT b e').1]at e;cases e;cases d
  have nsK:∀{b:Addr}{m:MGz},s₁.heap.Ns b m->(JW s₁.heap H).Ns b m:=λ{b m} ⟨o,es,ep,e,d,r⟩=>⟨o,es,ep,base_of e (noA e d),d,r⟩;have hKb:K.In (JW s₁.heap H):=λ b o e=>base_of (KX b o e) (by
   cases q:H b with
   |none=>rfl
   |some u =>
    rcases hA b (by rw[q];simp) with e'|e'
    .subst e';rw[hK (by rw[q];simp)]at e;cases e
    .rw[(hT b e').2.1]at e;cases e)
  have hM:Mod K mg (JW s₁.heap H):=⟨hKb,nsK hns,⟨mb,nsK hb,hbb⟩,let ⟨mc,h1,h2⟩:=hlim;⟨mc,nsK h1,h2⟩⟩;have e0:Env0 P w K mg (JW s₁.heap H) callerA [] s₁ H:=⟨rfl,hM,λ b o e=>QQ e,Nat.le_of_eq (O0 _ _),trivial,λ b hb=>absurd (show b∈([]:List Addr) from hb) (by simp),hok,.of_eq hg⟩;refine codeAny_mono ((F _ hKb (nsK hns)).run callerA [] s₁ H ⟨[.ref a],[]⟩ [.ref a] [.ref a] _ _ hr e0 (hbind s₁ (.ref a)) (.cons rfl .nil) (hsp H hO hS)) λ r s' h=>?_;cases r with
  |error e=>exact(hCX H e s' h).elim
  |ok fl =>
   cases fl with
   |next=>exact False.elim h
   |brk=>exact False.elim h
   |cont=>exact False.elim h
   |ret u =>
    obtain⟨v,H',os,bare,un,hok',r',q⟩:=h;have q':v=.bl true:=q;subst q';obtain rfl:u=Value.bool true:=r';have old:∀b o,s₁.heap.get? b=some o->asItWas s₁.heap s'.heap b o/\∃o',s'.heap.get? b=some o':=λ b o e=>by
     cases q:H b with
     |none =>
      have:=un.keep b o e q (by intro z;exact absurd (show b∈([]:List Addr) from z) (by simp)) (by simp);exact⟨.inl this,_,this⟩
     |some u =>
      rcases hO.1 b with z|⟨ob,xs,z⟩|⟨hb',z⟩
      .rw[q]at z;cases z
      .have z2:=un.frzs b ob _ z;obtain⟨e1,_⟩:=hok b _ z;obtain⟨e2,_⟩:=hok' b _ z2;rw[e]at e1;cases e1;exact⟨.inl e2,_,e2⟩
      .obtain⟨more,z2⟩:=un.tbls b #[] z;have e2:s'.heap.get? b=some (tabObj (#[]++more)):=hok' b _ z2;obtain⟨e1,_,c,hc⟩:=hT b hb';rw[e]at e1;cases e1;exact⟨.inr (.inl ⟨Kh hc,rfl,#[],more,rfl,e2⟩),_,e2⟩
    exact⟨rfl,⟨λ b o e=>(old b o e).1,λ b o e=>(old b o e).2⟩,os,bare⟩
 have aT:a∉Ts:=λ z=>by
  have e:=(hT a z).1;rw[ha]at e;cases e
 have tblT:∀T∈Ts,∀H:Hp,ObjOk P w H s₁.heap T (.tbl #[]):=λ T z H=>(hT T z).1;cases hk:K.lookup a with
 |some o =>
  have e:=KX a o hk;rw[ha]at e;cases e;refine core (λ b=>if b∈Ts then some (.tbl #[]) else none) ⟨λ b=>?_,λ T z=>if_pos z⟩ (.inr ⟨_,vs.toArray,_,hk,rfl,rfl,rfl,by rw[List.size_toArray,lenV];exact hl,by simpa using rv⟩) (λ b u z=>?_) (λ b z=>?_) λ z=>absurd (if_neg aT) z
  .by_cases hb:b∈Ts
   .exact .inr (.inr ⟨hb,if_pos hb⟩)
   .exact .inl (if_neg hb)
  .by_cases hb:b∈Ts
   .have z':=(if_pos hb).symm.trans z;cases z';exact tblT b hb _
   .have z':=(if_neg hb).symm.trans z;cases z'
  .by_cases hb:b∈Ts
   .exact .inr hb
   .exact absurd (if_neg hb) z
 |none =>
  refine core (λ b=>if b=a then some (.frz { cls:=.type "list",data:=.seq vs.toArray } (.lst (ns.map V.int))) else if b∈Ts then some (.tbl #[]) else none) ⟨λ b=>?_,λ T z=>?_⟩ (.inl (.inr ⟨{ cls:=.type "list",data:=.seq vs.toArray },if_pos rfl⟩)) (λ b u z=>?_) (λ b z=>?_) λ_=>hk
  .by_cases hb:b=a
   .exact .inr (.inl ⟨_,_,if_pos hb⟩)
   .by_cases hb2:b∈Ts
    .exact .inr (.inr ⟨hb2,(if_neg hb).trans (if_pos hb2)⟩)
    .exact .inl ((if_neg hb).trans (if_neg hb2))
  .have ne:¬T=a:=λ e=>aT (by rw[<-e];exact z);exact(if_neg ne).trans (if_pos z)
  .by_cases hb:b=a
   .have z':=(if_pos hb).symm.trans z;cases z';subst hb;exact⟨ha,by rw[List.length_map];exact hl,vs,_,rv,ha⟩
   .by_cases hb2:b∈Ts
    .have z':=((if_neg hb).trans (if_pos hb2)).symm.trans z;cases z';exact tblT b hb2 _
    .have z':=((if_neg hb).trans (if_neg hb2)).symm.trans z;cases z'
  .by_cases hb:b=a
   .exact .inl hb
   .by_cases hb2:b∈Ts
    .exact .inr hb2
    .exact absurd ((if_neg hb).trans (if_neg hb2)) z
theorem walk_ofT{l:OpenLaw}{n k:Nat}{q:Program}{loose:LSz}{XP:(MGz)->Heap->Prop}{YP:World->Heap->Prop}{d:DefRec}{K:Params->Frag}{CX:World->CXT}{sp:World->Sp}{x:Str}{Ts:List Addr}
  (hn:l.most=some n) (hn2:n<=sizeLine) (hdf:d.params.defaults=[]) (hr:Room k callerA)
  (hY:∀(w:World)(h:Heap),YP w h->(K w.params).In h) (hT:∀(w:World)(h:Heap),YP w h->∀T∈Ts,h.get? T=some (tabObj #[])/\(K w.params).lookup T=none/\∃c,CodeHd h c T)
  (F:∀(w:World)(mg:MGz)(fa:Addr)(h:Heap),(K w.params).In h->h.Ns mainGlobals mg->mg d.name=some (.ref fa) ->
   ∃fd:FuncData,(∀(s:Shared)(u:Value),BindsTo s fd ⟨[u],[]⟩ [(x,u)]) /\
    ∀base:Heap,(K w.params).In base->base.Ns mainGlobals mg->FnOk l.prog w (K w.params) mg base (CX w) k fa fd [x] (sp w))
  (hsp:∀(w:World)(H:Hp)(a:Addr)(ns:List Int),ns.length<=n->Qq Ts H->SqL (K w.params) H a (ns.map V.int)->sp w [.ref a] H (λ v _=>v=.bl true) λ_ _ _=>False)
  (hCX:∀(w:World)(H:Hp)(s:Shared)(e:Value)(s':Shared),CX w [] H s (λ_ _ _=>False) e s'->False) :
  WalkO q loose XP YP l.row.toRowW d [] (λ f vs=>PySem.call f vs):=by
 refine Att.attach_call hn hdf λ w s₀ s₁ mg mb fa o pm cd doc a vs ns G Y ho hd hcd hmg hobj hints hlen hg=>?_;have KX:=hY w _ Y;obtain⟨fd,hb,hF⟩:=F w mg fa _ KX G.T.g hmg;exact law_callT KX G.T.g G.T.b G.T.builtins G.T.nolimit hg hobj hints (Nat.le_trans hlen hn2) hr (hT w _ Y) hF hb (λ H hO hS=>hsp w H a ns hlen hO hS) λ H e s'=>hCX w H s₁ e s'
structure FunC(K:Frag)(x qual:Str)(st:Stmt)(f:Addr)(fd:FuncData)(c:Addr):Prop where
 ex:∃(oc:Value)(od:Option Addr)(kV doc pm:Value)(an:Option Addr)(ct:Value)(osl:AOz),
  fd=fnOf x qual (Bk st) (Ar st) (Ag st) .none kV doc pm an (.ref c) ct/\K.lookup f=some ⟨oc,od,.func fd,osl⟩/\codeIn K (.ref c) qual=true
 kp:keepIn K (.ref f)=true
section
variable{P:Program}{w:World}{K:Frag}{mg:MGz}{base:Heap}{x qual:Str}{st:Stmt}{f c:Addr}{fd:FuncData}{N ps:LSz}{k:Nat}{sp:Sp}
theorem FunC.fn(F:FunC K x qual st f fd c):Fun K x qual st f fd:=by
 obtain⟨oc,od,kV,doc,pm,an,ct,osl,e,lk,hcd⟩:=F.ex;exact⟨⟨oc,od,kV,doc,pm,an,.ref c,ct,osl,e,lk,hcd⟩,F.kp⟩
theorem FunC.okx(F:FunC K x qual st f fd c)(S:Ak N ps (Ag st))(len:∀vs H Q E,sp vs H Q E->vs.length=ps.length)
  (hbody:∀(A:Around)(outer:List Env)(s:Shared)(H:Hp)(vs:LUz)(Q:VK)(E:XK),Room k (A.deeper (envOfC qual (Ag st) s.heap.objs.size f (.ref c)))->sp vs H Q E ->
   ∃t,PSs (BF (CX1 P w) P w K mg base N qual (Ag st) f (.ref c) A outer s H E) (Ar st) t/\t { nx:=λ_ H'=>Q .non H',rt:=Q } (start N vs) H):FnOk P w K mg base (CX1 P w) (k+1) f fd ps sp:=by
 obtain⟨oc,od,kV,doc,pm,an,ct,osl,rfl,lk,hcd⟩:=F.ex;exact Lv lk hcd S len λ A outer s H vs Q E hr hsp=>hbody A outer s H vs Q E hr hsp
theorem N1{oc:Value}{od an:Option Addr}{osl:AOz}{kV doc pm cdv ct:Value}(l:K.lookup f=some ⟨oc,od,.func (fnOf x qual (Bk st) (Ar st) (Ag st) .none kV doc pm an cdv ct),osl⟩)
  (cc:codeIn K cdv qual=true) (kp:keepIn K (.ref f)=true) (e:cdv=.ref c):FunC K x qual st f (fnOf x qual (Bk st) (Ar st) (Ag st) .none kV doc pm an cdv ct) c:=by
 subst e;exact⟨⟨oc,od,kV,doc,pm,an,ct,osl,rfl,l,cc⟩,kp⟩
end
def FO(K:Frag)(c T:Addr):Bool:=match K.lookup c with
 |some o=>match o.data with
  |.fields vs=>(o.cls==.type "code")&&(vs[11]?==some (.ref T))&&(match vs.getD 18 .none with|.str _ _=>true|_=>false)&&(match vs.getD 7 .none with|.int _ _=>true|_=>false)&&(match vs.getD 9 .none with|.bool _=>true|_=>false)&&(match vs.getD 10 .none with|.int _ _=>true|_=>false)&&(c != T)
  |_=>false
 |none=>false
theorem codeTB_of{K:Frag}{c T:Addr}(h:FO K c T=true):∀hp:Heap,K.In hp->CodeHd hp c T:=λ hp KX=>by
 unfold FO at h;cases e:K.lookup c with
 |none=>rw[e]at h;cases h
 |some o =>
  rw[e]at h;cases d:o.data with
  |fields vs =>
   simp only[d,Bool.and_eq_true]at h;obtain⟨⟨⟨⟨⟨⟨h1,h2⟩,h3⟩,h4⟩,h5⟩,h6⟩,h7⟩:=h;have h2:vs[11]?=some (.ref T):=eq_of_beq h2;have e18:∃a b,vs.getD 18 .none=.str a b:=by
    generalize vs.getD 18 .none=v at h3;cases v with
    |str a b=>exact⟨a,b,rfl⟩
    |_=>cases h3
   have e7:∃a b,vs.getD 7 .none=.int a b:=by
    generalize vs.getD 7 .none=v at h4;cases v with
    |int a b=>exact⟨a,b,rfl⟩
    |_=>cases h4
   have e9:∃a,vs.getD 9 .none=.bool a:=by
    generalize vs.getD 9 .none=v at h5;cases v with
    |bool a=>exact⟨a,rfl⟩
    |_=>cases h5
   have e10:∃a b,vs.getD 10 .none=.int a b:=by
    generalize vs.getD 10 .none=v at h6;cases v with
    |int a b=>exact⟨a,b,rfl⟩
    |_=>cases h6
   obtain⟨f1,f2,e18⟩:=e18;obtain⟨g1,g2,e7⟩:=e7;obtain⟨i1,e9⟩:=e9;obtain⟨t1,t2,e10⟩:=e10;refine⟨o,vs,f1,f2,g1,g2,i1,t1,t2,KX c o e,eq_of_beq h1,d,h2,?_,e18,e7,e9,e10,?_⟩
   .rw[Array.getD_eq_getD_getElem?,h2];rfl
   .intro z;rw[z]at h7;simp at h7
  |_=>simp only[d]at h;cases h
def SameN(H H':Hp):Prop:=∀a o,H a=some o->(∀ps,o≠.tbl ps)->H' a=some o
theorem SameN.refl(H:Hp):SameN H H:=λ_ _ e _=>e
theorem SameN.trans{H H1 H2:Hp}(a:SameN H H1)(b:SameN H1 H2):SameN H H2:=λ x o e n=>b x o (a x o e n) n
theorem Same.n{H H':Hp}(s:Same H H'):SameN H H':=λ a o e _=>s a o e
theorem SameN.tup{H H':Hp}(s:SameN H H'){a:Addr}{xs:LUz}(e:H a=some (.tup xs)):H' a=some (.tup xs):=s a _ e λ_ z=>nomatch z
theorem SameN.lst{H H':Hp}(s:SameN H H'){a:Addr}{xs:LUz}(e:H a=some (.lst xs)):H' a=some (.lst xs):=s a _ e λ_ z=>nomatch z
def TabOk(pos:Pos)(qual:Str)(T:Addr)(H:Hp):Prop:=∃ps,H T=some (.tbl ps)/\TriplesOk ps.toList/\(codeAmong pos ps.toList=none\/∃c',codeAmong pos ps.toList=some (.ref c')/\H c'=some (C4 c' qual))
theorem TabOk.same{pos:Pos}{qual:Str}{T:Addr}{H H':Hp}(h:TabOk pos qual T H)(s:Same H H'):TabOk pos qual T H':=by
 obtain⟨ps,e,t,c⟩:=h;refine⟨ps,s _ _ e,t,?_⟩;rcases c with c|⟨c',c1,c2⟩
 .exact .inl c
 .exact .inr ⟨c',c1,s _ _ c2⟩
theorem TabOk.new{pos:Pos}{qual:Str}{T:Addr}{H:Hp}(h:H T=some (.tbl #[])):TabOk pos qual T H:=⟨#[],h,trivial,.inl rfl⟩
theorem ET{a b c:Int}{t u:Tok}{v:Value}:∀(l:LWz),TriplesOk l->TriplesOk (l++[.int a t,.int b u,v])
 |[],_=>trivial
 |.int _ _::.int _ _::_::rest,h=>ET (c:=c) rest h
abbrev PR:=Addr×Addr×List Int×V
section
variable{X:Cx}
theorem Qj:Ec X (.builtin "sum") (λ xs H Q=>∃(p:Addr)(ns:List Int),xs=[.ref p]/\SqL X.K H p (ns.map V.int)/\X.calm=true/\Q (.int ns.sum) H):=by
 intro pins s σ H xs us Q I r h;obtain⟨p,ns,rfl,hp,hc,q⟩:=h;obtain⟨u,rfl,ru⟩:=ER r;cases ru;obtain⟨its,rv,pl,hz⟩:=I.list hp;have hi:=EG rv;obtain⟨xs,hx⟩:=hi.allInts.items;have hl':s.heap.IsList p (intItems xs):=hx ▸ pl.isList;refine sum_intListG (I.ok.hd hc) hl' λ h' tk t' hk=>?_;have e1:ns=xs.toList.map (·.1):=by
  rw[<-nums_intItems,<-hx];exact(show numsOf its.toArray.toList=ns from hi.numsOf).symm
 have e2:preSum (numAt xs) xs.size=ns.sum:=by
  rw[preSum_eq,List.take_of_length_le (by simp),e1]
 rw[e2];exact⟨.int ns.sum,H,I.kept (t':=tk) hk,⟨t',rfl⟩,q⟩
end
end L2
namespace HT
open PySem.W
open PySem PySem.Spec PyProof.Rows
end HT
namespace L2
open PySem.W
open PySem PySem.Spec PyProof.Rows
section
variable{P:Program}{w:World}{K:Frag}{mg:MGz}{base:Heap}{x qual:Str}{st:Stmt}{f c:Addr}{fd:FuncData}{N ps:LSz}{k:Nat}{sp:Sp}
theorem FunC.ok(F:FunC K x qual st f fd c)(S:Ak N ps (Ag st))(len:∀vs H Q E,sp vs H Q E->vs.length=ps.length)
  (hbody:∀(A:Around)(outer:List Env)(s:Shared)(H:Hp)(vs:LUz)(Q:VK)(E:XK),Room k (A.deeper (envOfC qual (Ag st) s.heap.objs.size f (.ref c)))->sp vs H Q E ->
   ∃t,PSs (BF CX0 P w K mg base N qual (Ag st) f (.ref c) A outer s H E).nox (Ar st) t/\t { nx:=λ_ H'=>Q .non H',rt:=Q } (start N vs) H):FnOk P w K mg base CX0 (k+1) f fd ps sp:=by
 obtain⟨oc,od,kV,doc,pm,an,ct,osl,rfl,lk,hcd⟩:=F.ex;refine Lv lk hcd S len λ A outer s H vs Q E hr hsp=>?_;obtain⟨t,h,q⟩:=hbody A outer s H vs Q E hr hsp;exact⟨t,h.nox,q⟩
end
def tkd(H:Hp)(L:PNz):Hp:=λ a=>match L.lookup a with|some o=>some (B6 a o)|none=>H a
def utk(H:Hp)(L:PNz):Hp:=λ a=>match L.lookup a with|some _=>none|none=>H a
section
variable{P:Program}{w:World}{H H':Hp}{h h':Heap}{a:Addr}{o:Obj}{L:PNz}{fs:List Addr}
theorem G2(e:L.lookup a=some o):tkd H L a=some (B6 a o):=by unfold tkd;rw[e]
theorem AR(e:L.lookup a=none):tkd H L a=H a:=by unfold tkd;rw[e]
theorem Fq(e:L.lookup a=some o):utk H L a=none:=by unfold utk;rw[e]
theorem Bn(e:L.lookup a=none):utk H L a=H a:=by unfold utk;rw[e]
theorem CZ(e:H a=none):utk H L a=none:=by
 cases q:L.lookup a with
 |none=>rw[Bn q];exact e
 |some o=>exact Fq q
theorem DU{u:HO}(hL:∀a o,L.lookup a=some o->H a=none)(e:H a=some u):L.lookup a=none:=by
 cases q:L.lookup a with
 |none=>rfl
 |some o=>rw[hL a o q]at e;cases e
theorem Ep{u:HO}(hL:∀a o,L.lookup a=some o->H a=some (B6 a o))(e:H a=some u)(n:∀o,u≠B6 a o):L.lookup a=none:=by
 cases q:L.lookup a with
 |none=>rfl
 |some o=>rw[hL a o q]at e;cases e;exact absurd rfl (n o)
theorem HOk.tkd(hok:HOk P w H h)(hL:∀a o,L.lookup a=some o->H a=none)(hc:∀a o,L.lookup a=some o->h.get? a=some o):HOk P w (tkd H L) h:=λ a u e=>by
 cases q:L.lookup a with
 |some o =>
  rw[G2 q]at e;cases e;exact JR (hc a o q)
 |none =>
  rw[AR q]at e;exact(hok a u e).stay (λ_ _ _ z=>z) (λ b z=>by rw[AR (DU hL z)];exact z) (λ b xs z=>by rw[AR (DU hL z)];exact z)
theorem HOk.utk(hok:HOk P w H h)(hL:∀a o,L.lookup a=some o->H a=some (B6 a o)):HOk P w (utk H L) h:=λ a u e=>by
 cases q:L.lookup a with
 |some o=>rw[Fq q]at e;cases e
 |none =>
  rw[Bn q]at e;exact(hok a u e).stay (λ_ _ _ z=>z) (λ b z=>by rw[Bn (Ep hL z (λ_ z=>nomatch z))];exact z) (λ b xs z=>by rw[Bn (Ep hL z (λ_ z=>nomatch z))];exact z)
theorem Un.utk(u:Un fs [] (L2.tkd H L) H' h h')(hok:HOk P w H' h')(hL:∀a o,L.lookup a=some o->H a=none)(hc:∀a o,L.lookup a=some o->h.get? a=some o)(hf:∀a o,L.lookup a=some o->a∉fs)(hk:∀a o,L.lookup a=some o->H' a=some (B6 a o)):Un fs [] H (L2.utk H' L) h h' where
 keep b o q n nf nx:=by
  cases e:L.lookup b with
  |some o' =>
   rw[hc b o' e]at q;cases q;exact(hok b _ (hk b o e)).1
  |none=>exact u.keep b o q (by rw[AR e];exact n) nf nx
 slot b o q n hb nx:=by
  cases e:L.lookup b with
  |some o'=>exact absurd hb (hf b o' e)
  |none=>exact u.slot b o q (by rw[AR e];exact n) hb nx
 free b o q n nx:=by
  cases e:L.lookup b with
  |some o'=>exact Fq e
  |none=>rw[Bn e];exact u.free b o q (by rw[AR e];exact n) nx
 there b o q nx:=u.there b o q nx
 tups b xs e:=by
  have n:=DU hL e;rw[Bn n];exact u.tups b xs (by rw[AR n];exact e)
 frzs b o v e:=by
  have n:=DU hL e;rw[Bn n];exact u.frzs b o v (by rw[AR n];exact e)
 tbls b ps e:=by
  have n:=DU hL e;rw[Bn n];exact u.tbls b ps (by rw[AR n];exact e)
theorem Un.tkd(u:Un fs [] (L2.utk H L) H' h h')(hL:∀a o,L.lookup a=some o->H a=some (B6 a o)):Un fs [] H (L2.tkd H' L) h h':=by
 have out:∀{b},H b=none->L.lookup b=none:=λ{b} n=>by
  cases e:L.lookup b with
  |none=>rfl
  |some o=>rw[hL b o e]at n;cases n
 exact {
  keep:=λ b o q n nf nx=>u.keep b o q (CZ n) nf nx
  slot:=λ b o q n hb nx=>u.slot b o q (CZ n) hb nx
  free:=λ b o q n nx=>by rw[AR (out n)];exact u.free b o q (CZ n) nx
  there:=λ b o q nx=>u.there b o q nx
  tups:=λ b xs e=>by
   have n:=Ep hL e (λ_ z=>nomatch z);rw[AR n];exact u.tups b xs (by rw[Bn n];exact e)
  frzs:=λ b o v e=>by
   have n:=Ep hL e (λ_ z=>nomatch z);rw[AR n];exact u.frzs b o v (by rw[Bn n];exact e)
  tbls:=λ b ps e=>by
   have n:=Ep hL e (λ_ z=>nomatch z);rw[AR n];exact u.tbls b ps (by rw[Bn n];exact e) }
end
def FvOk(P:Program)(w:World)(K:Frag)(mg:MGz)(base:Heap)(k:Nat)(H:Hp)(f:Addr)(sp:Sp):Prop :=
 (∃o fd,H f=some (B6 f o)/\o.data=.func fd)/\∀(A:Around)(outer:List Env)(s:Shared)(H':Hp)(us:LWz)(vs:LUz)(Q:VK)(E:XK),Same H H'->Room k A->Env0 P w K mg base A outer s H'->Vals vs us->sp vs H' Q E ->
  codeAny (model P w) A (.call (.ref f) ⟨us,[]⟩) (CR CX0 outer P w H' s Q E) s
theorem FvOk.same{P:Program}{w:World}{K:Frag}{mg:MGz}{base:Heap}{k:Nat}{H H':Hp}{f:Addr}{sp:Sp}(h:FvOk P w K mg base k H f sp)(s:Same H H'):FvOk P w K mg base k H' f sp :=
 ⟨let ⟨o,fd,e,d⟩:=h.1;⟨o,fd,s _ _ e,d⟩,λ A outer sh H2 us vs Q E s2=>h.2 A outer sh H2 us vs Q E (s.trans s2)⟩
theorem FvOk.imp{P:Program}{w:World}{K:Frag}{mg:MGz}{base:Heap}{k:Nat}{H:Hp}{f:Addr}{sp sp':Sp}(h:FvOk P w K mg base k H f sp)(i:∀vs H' Q E,Same H H'->sp' vs H' Q E->sp vs H' Q E):FvOk P w K mg base k H f sp' :=
 ⟨h.1,λ A outer sh H2 us vs Q E s2 hr e0 r q=>h.2 A outer sh H2 us vs Q E s2 hr e0 r (i vs H2 Q E s2 q)⟩
def tFv(P:Program)(w:World)(K:Frag)(mg:MGz)(base:Heap)(k:Nat)(tv:TE)(t:TA):TE:=λ σ H Q=>tv σ H λ v H1=>∃f sp,v=.ref f/\FvOk P w K mg base k H1 f sp/\t σ H1 λ vs H2=>Same H1 H2/\sp vs H2 Q E0
section
variable{X:Cx}{k j:Nat}{y:Str}{p pos:Pos}{e:Expr}{es:List Expr}{tv:TE}{t:TA}
theorem T5(hr:Room j X.A)(hv:PE X (.Name y p) tv)(ha:PA X (e::es) t)(hj:k<=j:=by decide)
  (he:starEach (e::es) X.env=(false,eval e X.env)::starEach es X.env:=by rfl) (hpl:(backTo pos (starEach es X.env)).any (·.1)=false:=by rfl):PE X (.Call (.Name y p) (e::es) [] pos) (tFv X.prog X.w X.K X.mg X.base k tv t):=by
 intro pins s σ H Q I h;refine wpAny_Call_Name_kw (thn (hv pins s σ H _ I h) λ u s1 hz_=>?_);obtain⟨v,H1,I1,r1,f,sp,e1,F,q1⟩:=hz_;subst e1;cases r1;have fnat:∀{H2:Hp}{s2:Shared},Same H1 H2->Inv X pins σ H2 s2->FnAt f s2.heap:=λ{H2 s2} sm I2=>by
  obtain⟨o,fd,e,d⟩:=F.1;have:=(show ObjOk X.prog X.w H2 s2.heap f (B6 f o) from I2.hok f _ (sm _ _ e)).1;obtain⟨oc,od,dt,sl⟩:=o;cases d;exact⟨_,_,_,_,this⟩
 refine callWith_F (fnat (Same.refl _) I1) (thn (ha pos pins s1 σ H1 _ I1 q1) λ us s2 ⟨vs,H2,I2,r,sm,q⟩=>⟨fnat sm I2,?_⟩) he hpl;refine wpAny_call (codeAny_mono (F.2 X.A X.stack s2 H2 us vs Q E0 sm (hr.mono hj) I2.env0 r q) λ r s' hq=>?_);cases r with
 |error e=>exact GH pins σ H2 s2 e s' I2 hq
 |ok fl =>
  cases fl with
  |ret u=>exact I2.after hq
  |next=>exact False.elim hq
  |brk=>exact False.elim hq
  |cont=>exact False.elim hq
end
theorem IQ{g:Addr->Obj}:∀{l:List Addr}{a:Addr},(l.map λ c=>(c,g c)).lookup a=if a∈l then some (g a) else none
 |[],a=>by simp
 |c::r,a=>by
  rw[List.map_cons,List.lookup_cons];by_cases e:a=c
  .subst e;simp
  .have:(a==c)=false:=by simpa using e
   rw[this];show List.lookup a (r.map λ c=>(c,g c))=_;rw[IQ];simp[e]
structure NQ(N:LSz)(clos:List (Str×Addr))(σ:St)(H:Hp)(L:PNz):Prop where
 new:∀a o,L.lookup a=some o->H a=none
 has:∀p∈clos,∃o v,L.lookup p.2=some o/\o.data=.cell v
 val:∀p∈clos,∀(i:Nat)(v:V),N[i]?=some p.1->σ[i]?=some (some v)->∃o u,L.lookup p.2=some o/\o.data=.cell (some u)/\RelV v u
def Sm(N:LSz)(clos:List (Str×Addr))(sp:Sp)(t:TA):TE:=λ σ H Q=>t σ H λ vs H1=>∀L,NQ N clos σ H1 L->sp vs (tkd H1 L) (λ v H2=>(∀a o,L.lookup a=some o->H2 a=some (B6 a o))/\Q v (utk H2 L)) E0
section
variable{X:Cx}{k j:Nat}{x:Str}{ps:LSz}{sp:Sp}{p pos:Pos}{e:Expr}{es:List Expr}{t:TA}{clos:List (Str×Addr)}
theorem Su(D:DefOk X.prog X.w X.K X.mg X.base k x ps sp)(hr:Room j X.A)(ha:PA X (e::es) t)(hcl:∀p∈clos,X.env.cells.lookup p.1=some p.2/\X.env.kindOf p.1=some .cell)(hfn:∀y,X.fn y=true)(hex:X.ex=[])(hj:k<=j:=by decide)(hg:Gl X x:=by rfl)(hdb:(x==("__debug__":Str))=false:=by decide)
  (he:starEach (e::es) X.env=(false,eval e X.env)::starEach es X.env:=by rfl) (hpl:(backTo pos (starEach es X.env)).any (·.1)=false:=by rfl):PE X (.Call (.Name x p) (e::es) [] pos) (Sm X.N clos sp t):=by
 obtain⟨f,fd,F,hm,hk,hb⟩:=D.ex;intro pins s σ H Q I h;refine wpAny_Call_Name_kw (Cj I hg hm ?_ hdb);refine callWith_K (h₀:=X.base) I.ok.mod.kin hk (thn (ha pos pins s σ H _ I h) λ us s1 ⟨vs,H1,I1,r,q⟩=>⟨I1.kIn,?_⟩) he hpl
 let g:Addr->Obj:=λ c=>(s1.heap.get? c).getD ⟨.none,none,.plain,#[]⟩
 let L:PNz:=(clos.map (·.2)).map λ c=>(c,g c)
 have hLk:∀a,L.lookup a=if a∈clos.map (·.2) then some (g a) else none:=λ a=>IQ;have hcell:∀p∈clos,∃v,s1.heap.IsCell p.2 v:=λ p hp=>I1.cell p.1 p.2 (hcl p hp).1;have hin:∀a o,L.lookup a=some o->∃p∈clos,p.2=a/\s1.heap.get? a=some o:=λ a o e=>by
  rw[hLk]at e;split at e
  .rename_i hm;obtain⟨p,hp,rfl⟩:=List.mem_map.mp hm;refine⟨p,hp,rfl,?_⟩;obtain⟨v,o',ho',_⟩:=hcell p hp;cases e;show _=some ((s1.heap.get? p.2).getD _);rw[ho'];rfl
  .cases e
 have hof:∀p∈clos,∀o,s1.heap.get? p.2=some o->L.lookup p.2=some o:=λ p hp o e=>by
  rw[hLk,if_pos (List.mem_map.mpr ⟨p,hp,rfl⟩)];show some ((s1.heap.get? p.2).getD _)=_;rw[e];rfl
 have hnew:∀a o,L.lookup a=some o->H1 a=none:=λ a o e=>by
  obtain⟨p,hp,rfl,_⟩:=hin a o e;exact I1.freeC p.1 p.2 (hcl p hp).1
 have hget:∀a o,L.lookup a=some o->s1.heap.get? a=some o:=λ a o e=>let ⟨_,_,_,z⟩:=hin a o e;z;have habove:∀a o,L.lookup a=some o->X.s₀.heap.objs.size<=a:=λ a o e=>by
  obtain⟨p,hp,rfl,_⟩:=hin a o e;exact I1.ok.cab p.1 p.2 (hfn _) (hcl p hp).1
 have hnf:∀a o,L.lookup a=some o->a∉frs X.stack:=λ a o e hb=>by
  have ab:=habove a o e;obtain⟨p,hp,rfl,_⟩:=hin a o e;rcases List.mem_cons.mp (I1.stkSub _ hb) with z|z
  .exact I1.cne p.1 p.2 (hcl p hp).1 z
  .obtain⟨_,o',ho',_⟩:=I1.ok.funs.mem z;exact absurd (Nat.lt_of_lt_of_le (Heap.lt_size ho') ab) (Nat.lt_irrefl _)
 have CA:NQ X.N clos σ H1 L:=by
  refine⟨hnew,λ p hp=>?_,λ p hp i v hi hv=>?_⟩
  .obtain⟨v,o,ho,hd⟩:=hcell p hp;exact⟨o,v,hof p hp o ho,hd⟩
  .obtain⟨m,hns,hloc⟩:=I1.loc;obtain⟨u,ru,hlook⟩:=hloc i p.1 v hi hv (.inr (.inl (hcl p hp).2));rcases hlook with ⟨k1,_⟩|⟨_,c,hc,o,ho,hd⟩
   .rw[(hcl p hp).2]at k1;cases k1
   .rw[(hcl p hp).1]at hc;cases hc;exact⟨o,u,hof p hp o ho,hd,ru⟩
 have hsp:=q L CA;have e0:Env0 X.prog X.w X.K X.mg X.base X.A X.stack s1 (tkd H1 L):=by
  have z:=I1.env0;refine⟨z.frames,z.mod,λ b o e=>?_,z.bsz,z.funs,λ b hb=>?_,z.hok.tkd hnew hget,z.bare⟩
  .refine⟨(z.bs b o e).1,?_⟩;cases q:L.lookup b with
   |none=>rw[AR q];exact(z.bs b o e).2
   |some o'=>exact absurd (Nat.lt_of_lt_of_le (Heap.lt_size e) (Nat.le_trans I1.ok.bsz (habove b o' q))) (Nat.lt_irrefl _)
  .cases q:L.lookup b with
   |none=>rw[AR q];exact z.frf b hb
   |some o'=>exact absurd hb (hnf b o' q)
 have hl:us.length=ps.length:=by rw[<-r.length];exact F.len _ _ _ _ hsp
 have hbd:=hb s1 us I1.kIn (by rw[List.append_nil];exact hl);rw[List.append_nil]at hbd;refine wpAny_call (codeAny_mono (F.run X.A X.stack s1 (tkd H1 L) ⟨us,[]⟩ us vs _ E0 (hr.mono hj) e0 hbd r hsp) λ rs s' hq=>?_);cases rs with
 |error e=>exact GH pins σ H1 s1 e s' I1 (by exact hq)
 |ok fl =>
  cases fl with
  |ret u =>
   obtain⟨v,H2,os,bare,un,hok,rv,hkp,q2⟩:=hq;exact I1.after ⟨v,utk H2 L,os,bare,un.utk hok hnew hget hnf hkp,hok.utk hkp,rv,q2⟩
  |next=>exact False.elim hq
  |brk=>exact False.elim hq
  |cont=>exact False.elim hq
end
def Rx(P:Program)(w:World)(K:Frag)(mg:MGz)(base:Heap)(N:LSz)(qual:Str)(scope:Scope)(f:Addr)(cd:Value)(clos:List (Str×Addr))(A:Around)(outer:List Env)(s:Shared)(H Hx:Hp)(E:XK):Cx where
 prog:=P
 w:=w
 K:=K
 mg:=mg
 base:=base
 A:=A.deeper (envX qual scope s.heap.objs.size f cd clos)
 N:=N
 s₀:=s
 H₀:=H
 env:=envX qual scope s.heap.objs.size f cd clos
 outer:=outer
 stack:=envX qual scope s.heap.objs.size f cd clos::outer
 ex:=[]
 calm:=true
 fn:=λ_=>false
 pn:=[]
 xe:=λ e s'=>wpAny (model P w) (A.deeper (envX qual scope s.heap.objs.size f cd clos)) (leaving (envX qual scope s.heap.objs.size f cd clos) e) (λ_ s''=>CX0 outer Hx s E e s'') (λ e' s''=>CX0 outer Hx s E e' s'') s'
structure LL(pn:Str)(fs:LSz)(sc:Scope):Prop where
 kind:sc.kind=.function
 co:sc.isCoroutine=false
 gen:sc.isGenerator=false
 par:sc.names.lookup pn=some .local
 nocell:∀y∈sc.names,y.2≠.cell
 free:∀y,sc.names.lookup y=some .free->y∈fs
 isfree:∀y∈fs,sc.names.lookup y=some .free
theorem SD{P:Program}{w:World}{K:Frag}{mg:MGz}{base:Heap}{k:Nat}{H:Hp}{f c':Addr}{params:Arguments}{body:Expr}{scope:Scope}{qual pn:Str}{ctv:Value}{fs:LSz}{clos:List (Str×Addr)}{cv:LUz}{L:PNz}{te:TE}
  (hf:H f=some (B6 f (B5 mg qual params body scope clos c' ctv))) (hc:H c'=some (C4 c' qual)) (S:LL pn fs scope) (hlen:cv.length=fs.length) (hkeys:∀y,(∃c,clos.lookup y=some c)↔y∈fs) (hinj:∀x y c,clos.lookup x=some c->clos.lookup y=some c->x=y)
  (hL:∀a o,L.lookup a=some o->H a=some (B6 a o)) (hcell:∀p∈clos,∃o v,L.lookup p.2=some o/\o.data=.cell v) (hval:∀p∈clos,∀(i:Nat)(v:V),fs[i]?=some p.1->cv[i]?=some v->∃o u,L.lookup p.2=some o/\o.data=.cell (some u)/\RelV v u)
  (hb:∀(s:Shared)(u:Value),BindsTo s (kla_fn "<lambda>" qual params body scope clos ((mg "__name__").getD .none) (.ref c') ctv) ⟨[u],[]⟩ ([pn].zip [u]))
  (hbody:∀(A:Around)(outer:List Env)(s:Shared)(H Hx:Hp)(E:XK),Room k (A.deeper (envX qual scope s.heap.objs.size f (.ref c') clos))->PE (Rx P w K mg base (pn::fs) qual scope f (.ref c') clos A outer s H Hx E) body te) :
  FvOk P w K mg base (k+1) H f (λ vs H' Q _=>∃v,vs=[v]/\te (some v::cv.map some) (utk H' L) (λ v' H2=>Q v' (tkd H2 L))):=by
 refine⟨⟨_,_,hf,rfl⟩,λ A outer s H' us vs Q E sm hr e0 r h=>?_⟩;obtain⟨v,rfl,h⟩:=h;obtain⟨u,rfl,ru⟩:=ER r;have hL':∀a o,L.lookup a=some o->H' a=some (B6 a o):=λ a o e=>sm _ _ (hL a o e);have hget:∀a o,L.lookup a=some o->s.heap.get? a=some o:=λ a o e=>(show ObjOk P w H' s.heap a (B6 a o) from e0.hok a _ (hL' a o e)).1;have lim:s.heap.NoLimit:=e0.mod.nolimit.keeps λ b o e=>(e0.bs b o e).1;have ho:s.heap.get? f=some (B5 mg qual params body scope clos c' ctv):=(show ObjOk P w H' s.heap f (B6 f _) from e0.hok f _ (sm _ _ hf)).1;refine kla_callFunE hr.depth ho rfl S.co S.gen rfl (Je (e0.hok c' _ (sm _ _ hc))) (hb s u _ _ _ _ ?_);refine wpAny_newFunctionEnv S.nocell (λ y hy=>?_) (λ h1 hns hsb=>?_) S.kind
 .rw[List.mem_singleton.mp (show y∈[(pn,u)] from hy)];exact S.par
 have hk:∀b o,s.heap.get? b=some o->h1.get? b=some o:=λ b o e=>hsb.extBut b o (Nat.ne_of_lt (Heap.lt_size e)) (Heap.get?_push_of_some _ e);refine⟨lim.keeps hk,?_⟩;show codeAny _ _ (.expr body (envX qual scope s.heap.objs.size f (.ref c') clos)) _ _;refine kla_codeExpr ?_;have noA:∀b:Addr,b∉(Rx P w K mg base (pn::fs) qual scope f (.ref c') clos A outer s (utk H' L) H' E).ex:=λ b z=>absurd (show b∈([]:List Addr) from z) (by simp);have mem:∀y c,clos.lookup y=some c->(y,c)∈clos:=λ y c e=>PySem.mem_of_lookup e;have I:Inv (Rx P w K mg base (pn::fs) qual scope f (.ref c') clos A outer s (utk H' L) H' E) [] (some v::cv.map some) (utk H' L) { s with heap:=h1,toks:=s.toks+([pn].zip [u]).length }:=by
  refine⟨⟨e0.mod,S.kind,rfl,rfl,Nat.le_refl _,hinj,λ y hy=>?_,λ y c z=>absurd z (by simp[Rx]),λ_=>hr.hd,Around.frames_deeper e0.frames,.inr ⟨rfl,rfl⟩,λ b z=>absurd z (noA b),λ b o e=>⟨(e0.bs b o e).1,CZ (e0.bs b o e).2⟩,e0.bsz,λ b _ _=>noA b,λ b z=>absurd z (noA b),e0.funs,λ b hb=>CZ (e0.frf b hb)⟩,
   rfl,e0.bare,Un.kept hk,⟨_,hns,λ i y vv h1' h2 h3=>?_⟩,λ y c e=>?_,CZ (e0.hok.fresh (Nat.le_refl _)),λ y c e=>?_,λ p hp=>absurd (show p∈([]:PNz) from hp) (by simp),(e0.hok.utk hL').kept hk,?_⟩
  .have hy:scope.names.lookup y=some .cell\/scope.names.lookup y=some .free:=hy;rcases hy with hy|hy
   .exact absurd rfl (S.nocell _ (PySem.mem_of_lookup hy))
   .exact(hkeys y).mpr (S.free y hy)
  .have h1':(pn::fs)[i]?=some y:=h1';cases i with
   |zero =>
    cases h1';cases h2;exact⟨u,ru,.inl ⟨S.par,by simp⟩⟩
   |succ i =>
    have h1':fs[i]?=some y:=h1';have h2:(cv.map some)[i]?=some (some vv):=h2;rw[List.getElem?_map]at h2;obtain⟨z,hz,e⟩:=Option.map_eq_some_iff.mp h2;cases e;obtain⟨c,hc'⟩:=(hkeys y).mpr (List.mem_of_getElem? h1');obtain⟨o,u',ho',hd,rv⟩:=hval (y,c) (mem y c hc') i vv h1' hz;exact⟨u',rv,.inr ⟨.inr (S.isfree y (List.mem_of_getElem? h1')),c,hc',o,hk _ _ (hget _ _ ho'),hd⟩⟩
  .obtain⟨o,vv,ho',hd⟩:=hcell (y,c) (mem y c e);exact⟨vv,o,hk _ _ (hget _ _ ho'),hd⟩
  .obtain⟨o,vv,ho',hd⟩:=hcell (y,c) (mem y c e);exact Fq ho'
  .show(some v::cv.map some).length=(pn::fs).length;rw[List.length_cons,List.length_cons,List.length_map,hlen]
 refine wpAny_mono (hbody A outer s (utk H' L) H' E (hr.deeper _) [] _ _ _ _ I h) (λ u2 s' ⟨v2,H2,J,rv,q⟩=>?_) λ e s' z=>z;have un:Un (frs outer) [] (utk H' L) H2 s.heap s'.heap:=J.base;have hnf:∀a o,L.lookup a=some o->a∉frs outer:=λ a o e hb=>by
  have:=e0.frf a hb;rw[hL' a o e]at this;cases this
 exact⟨v2,tkd H2 L,J.os,J.bare,un.tkd hL',J.hok.tkd (λ a o e=>un.free a o (hget a o e) (Fq e) (by simp)) (λ a o e=>un.keep a o (hget a o e) (Fq e) (hnf a o e) (by simp)),rv,q⟩
theorem TabOk.lamC{clos:List (Str×Addr)}{mg:MGz}{pos:Pos}{qual:Str}{T:Addr}{params:Arguments}{body:Expr}{scope:Scope}{σ:St}{H:Hp}{Q:VK}(h:TabOk pos qual T H)
  (q:∀c' f ctv H',SameX T H H'->TabOk pos qual T H'->H' f=some (B6 f (B5 mg qual params body scope clos c' ctv))->H' c'=some (C4 c' qual)->(∀b,H b=none->H' b=none\/b=c'\/b=f)->Q (.ref f) H'):Tf mg T pos params body scope clos qual σ H Q:=by
 obtain⟨ps,e,t,c⟩:=h;refine⟨ps,e,t,?_⟩;rcases c with c|⟨c',c1,c2⟩
 .refine .inl ⟨c,λ c' f ctv hc hf n1 n2 n3=>?_⟩;have eT:(upd (upd (upd H T (.tbl (ps++#[rawInt pos.line,rawInt pos.col,.ref c']))) c' (C4 c' qual)) f (B6 f (B5 mg qual params body scope clos c' ctv))) T=some (.tbl (ps++#[rawInt pos.line,rawInt pos.col,.ref c'])):=by
   rw[Ai (Ne.symm n3),Ai (Ne.symm n2),Ac]
  have eC:(upd (upd (upd H T (.tbl (ps++#[rawInt pos.line,rawInt pos.col,.ref c']))) c' (C4 c' qual)) f (B6 f (B5 mg qual params body scope clos c' ctv))) c'=some (C4 c' qual):=by
   rw[Ai n1,Ac]
  refine q c' f ctv _ (λ a o ea no=>?_) ⟨_,eT,?_,.inr ⟨c',?_,eC⟩⟩ Ac eC λ b hb=>?_
  .rw[Ai (Ah no hf),Ai (Ah no hc),Ai ea];exact no
  .rw[Array.toList_append];exact ET (c:=0) _ t
  .rw[Array.toList_append];exact codeAmong_snoc _ t c
  .by_cases h1:b=f
   .exact .inr (.inr h1)
   .by_cases h2:b=c'
    .exact .inr (.inl h2)
    .refine .inl ?_;rw[Ai h1,Ai h2,Ai (λ z=>by rw[z,e]at hb;cases hb)];exact hb
 .refine .inr ⟨c',c1,c2,λ f ctv hf=>?_⟩;have s:Same H (upd H f (B6 f (B5 mg qual params body scope clos c' ctv))):=Same.new hf;refine q c' f ctv _ s.x (TabOk.same ⟨ps,e,t,.inr ⟨c',c1,c2⟩⟩ s) Ac (s _ _ c2) λ b hb=>?_;by_cases h1:b=f
  .exact .inr (.inr h1)
  .exact .inl (by rw[Ai h1];exact hb)
theorem TabOk.tb{pos:Pos}{qual:Str}{T T':Addr}{H H':Hp}(h:TabOk pos qual T H)(s:SameX T' H H')(n:T≠T')(hT:∃ps,H T'=some (.tbl ps)):TabOk pos qual T H':=by
 obtain⟨ps,e,t,c⟩:=h;refine⟨ps,s _ _ n e,t,?_⟩;rcases c with c|⟨c',c1,c2⟩
 .exact .inl c
 .refine .inr ⟨c',c1,s _ _ (λ z=>?_) c2⟩;obtain⟨ps',e'⟩:=hT;rw[z,e']at c2;cases c2
theorem TabOk.tbl{pos:Pos}{qual:Str}{T:Addr}{H:Hp}(h:TabOk pos qual T H):∃ps,H T=some (.tbl ps):=let ⟨ps,e,_⟩:=h;⟨ps,e⟩
theorem SameX.toN{T:Addr}{H H':Hp}(s:SameX T H H')(hT:∃ps,H T=some (.tbl ps)):SameN H H':=λ a o e n=>s a o (λ z=>by obtain⟨ps,e'⟩:=hT;rw[z,e']at e;cases e;exact n _ rfl) e
theorem Pp{H H':Hp}{L:PNz}(hL:∀a o,L.lookup a=some o->H a=none)(s:Same (tkd H L) H'):Same H (utk H' L)/\∀a o,L.lookup a=some o->H' a=some (B6 a o) :=
 ⟨λ a o e=>by
  have n:=DU hL e;rw[Bn n];exact s _ _ (by rw[AR n];exact e),λ a o e=>s _ _ (G2 e)⟩
theorem Jx{H:Hp}{L:PNz}{a:Addr}{u:HO}(hL:∀a o,L.lookup a=some o->H a=some (B6 a o))(e:H a=some u)(n:∀o,u≠B6 a o):utk H L a=some u:=by rw[Bn (Ep hL e n)];exact e
theorem DefOk.imp{P:Program}{w:World}{K:Frag}{mg:MGz}{base:Heap}{k:Nat}{x:Str}{ps:LSz}{sp sp':Sp}(D:DefOk P w K mg base k x ps sp)(h:∀vs H Q E,sp' vs H Q E->sp vs H Q E):DefOk P w K mg base k x ps sp' :=
 let ⟨f,fd,F,a,b,c⟩:=D.ex;⟨f,fd,F.imp h,a,b,c⟩
section
variable{X:Cx}
theorem Sx:OpR X (compareOp .Is) (λ x y H Q=>∃b c,x=.bl b/\y=.bl c/\Q (.bl (b==c)) H):=by
 intro pins s σ H x y v u Q I rx ry h;obtain⟨b,c,rfl,rfl,q⟩:=h;cases rx;cases ry;exact is_bool (A8 I q rfl)
end
theorem M2{M:Model}{A:Around}{E:VPz}{s:Shared}{K:Frag}{G C e:Addr}{d:Option Addr}{dt:Data}{sl':AOz}{Q:Bool->Shared->Prop}{b:Bool}(X:K.In s.heap){fI:Addr}(hG:Bj K G fI=true)
  (he:s.heap.get? e=some ⟨.ref C,d,dt,sl'⟩) (hs:mroIn K C (.ref G)=some b) (h:Q b s):wpAny M A (excMatches (.ref e) (.ref G)) Q E s:=by
 have LS:=looks_mroIn (M:=M) X hs;obtain⟨hp,g,dr,tk,os⟩:=s;have q:=hG;unfold Bj at q;split at q
 .rename_i dd cd sl ho;split at q
  .rename_i C' bm k0 k1 k2 k3 n k5 hm hs;simp only[Bool.and_eq_true,beq_iff_eq,Bool.not_eq_true']at q;obtain⟨⟨⟨⟨⟨rfl,rfl⟩,hdel⟩,ht⟩,hok⟩,hni⟩:=q;obtain⟨nm,bs,mro,ns,qn,hd,sn,sub,ab,col,del⟩:=cd;dsimp only at hm hdel hok hni;subst hm hdel;have hsl:sl=#[k0,k1,k2,k3,some (.builtin "ValueError.__new__"),k5]:=by
    obtain⟨l⟩:=sl;simp only at hs;rw[hs]
   subst hsl;have hC:hp.get? C'=some (excClassObj nm qn C' ns bs bm hd sn sub ab col dd k0 k1 k2 k3 k5 "ValueError.__new__"):=X _ _ ho;have hcB:(Value.ref C'::bm).contains (.type "BaseException")=true:=by
    rw[List.contains_cons,(tail_of_in X ht).hasType (show vErr.contains (.type "BaseException")=true by decide +kernel)];exact Bool.or_true _
   have f:=tc_notTuple;unfold excMatches;cases b<;>(repeat (first|with_reducible refine wpAny_loadPart_at he ?_|with_reducible refine wpAny_loadPart_at hC ?_|(with_reducible refine wpAny_isSubtype_exc hC ?_;rw[hcB])|(with_reducible refine LS.at ?_)|wp_step))<;>exact h
  .cases q
 .cases q
abbrev TH:=Eb->St->Hp->Addr->Addr->Option Addr->Addr->Prop
def PHs(X:Cx)(hs:List ExceptHandler)(t:TH):Prop:=∀(pins:PNz)(s:Shared)(σ:St)(H':Hp)(D:Eb)(x C:Addr)(d:Option Addr)(T2:Addr),T2≠x->Inv X pins σ (thrown H' x C d T2) s->t D σ H' x C d T2 ->
 wpAny (model X.prog X.w) X.A (handleBy (.ref x) X.env hs) (SP X pins D) X.xe s
inductive RZ(K:Frag)(im:Nat)(G:Addr)(ts:TS)(tr:TH)(D:Eb)(σ:St)(H':Hp)(x C:Addr)(d:Option Addr)(T2:Addr):Prop
 |mk (b:Bool) (m:mroIn K C (.ref G)=some b) (y:b=true->ts (RN im D) (σ.set im (some (.ref x))) (thrown H' x C d T2)) (n:b=false->tr D σ H' x C d T2):RZ K im G ts tr D σ H' x C d T2
def UR:TH:=λ_ _ _ _ _ _ _=>False
def Tn(t:XK->TS)(th:TH):TS:=λ D σ H=>∃E₁:XK,t E₁ { nx:=D.nx,rt:=λ_ _=>False } σ H /\
 ∀x C d T T2 H',E₁ (.ref x) d H'->CD H' x C d T->H' T2=none->T2≠x->th D σ H' x C d T2
section
variable{X:Cx}{im:Nat}{m g:Str}{G:Addr}{b₀ st:Stmt}{suite:List Stmt}{gp hpos pos:Pos}{ts:TS}{t:XK->TS}{hs:List ExceptHandler}{th:TH}
theorem QM:PHs X [] UR:=λ_ _ _ _ _ _ _ _ _ _ _ z=>z.elim
theorem Di(hN:X.N.Nodup)(him:X.N[im]?=some m)(hm:X.env.scope.names.lookup m=some .local)(hgl:Gl X g)(hg:X.mg g=some (.ref G))(hG:∃fI,Bj X.K G fI=true)(hsu:∀x,PSs (X.suite x) (b₀::suite) ts)(hr:PHs X hs th)
    (hdb:(g==("__debug__":Str))=false:=by decide):PHs X (.ExceptHandler (some (.Name g gp)) (some m) (b₀::suite) hpos::hs) (RZ X.K im G ts th):=by
  intro pins s' σ H' D x C d T2 nT2 I2 hh;obtain⟨fI,hG⟩:=hG;obtain⟨b,hsub,hy,hn⟩:=hh;have fl2:CD (thrown H' x C d T2) x C d T2:=⟨Da,EU nT2,nT2⟩;obtain⟨⟨vs,sl,e1,e2⟩,_⟩:=(show ObjOk X.prog X.w (thrown H' x C d T2) s'.heap x (Fo C d x T2) from I2.hok x _ fl2.1);obtain⟨⟨o,tv,f1,f2,f3⟩,_⟩:=(show ObjOk X.prog X.w (thrown H' x C d T2) s'.heap T2 (TbO T2) from I2.hok T2 _ fl2.2.1);refine wpAny_handleBy_cons (codeAny_handlers_test (Cj (X:=X.suite x) (I2.suite x) hgl hg (M2 I2.kIn hG e1 hsub ?_) hdb)) (by intro z;cases z);cases b with
  |false=>exact hr pins s' σ H' D x C d T2 nT2 I2 (hn rfl)
  |true =>
    have hts:=hy rfl;show codeAny _ _ _ _ _;refine codeAny_handlers_suite_as (Hl e1 e2 f1 f2 (Array.getElem?_eq_some_iff.mp f3).1 λ h3 k3 t3=>?_);have same:upd (thrown H' x C d T2) T2 (TbO T2)=thrown H' x C d T2:=funext λ b=>by
      by_cases z:b=T2
      · rw[z,Ac,EU nT2]
      · rw[Ai z]
    have I3:Inv X pins σ (thrown H' x C d T2) { s' with heap:=h3 }:=by
      have:=I2.write (x:=T2) (e:=T2) (h':=h3) (o:=TbO T2) (t':=s'.toks) (by rw[fl2.2.1];exact True.intro) (.inl rfl) (λ b u nb z=>(k3 b nb).trans z) (let ⟨o,_,e,_⟩:=t3;⟨o,e⟩) (Mb t3);rw[same]at this;exact this
    refine G3 (X:=X.suite x) (I3.suite x) hN him (.inl hm) (v:=.ref x) rfl (λ s4 I4=>?_) (.inr hm);refine wpAny_mono (hsu x pins s4 _ _ (RN im D) I4 hts) (λ fl s5 q5=>?_) λ_ _ z=>False.elim z;show wpAny (model X.prog X.w) X.A (do bindName X.env m .none;unbindBehindTheSuite X.env m hpos) (λ_ s₃=>SP X pins D fl s₃) X.xe s5;cases fl with
    |next=>obtain⟨σ',H5,I5,q⟩:=q5;exact Go (I5.unsuite (ok:=I2.ok)) hN him hm λ s6 I6=>⟨_,H5,I6,q⟩
    |brk=>obtain⟨σ',H5,I5,q⟩:=q5;exact Go (I5.unsuite (ok:=I2.ok)) hN him hm λ s6 I6=>⟨_,H5,I6,q⟩
    |cont=>obtain⟨σ',H5,I5,q⟩:=q5;exact Go (I5.unsuite (ok:=I2.ok)) hN him hm λ s6 I6=>⟨_,H5,I6,q⟩
    |ret u=>obtain⟨v,σ',H5,I5,r,q⟩:=q5;exact Go (I5.unsuite (ok:=I2.ok)) hN him hm λ s6 I6=>⟨v,_,H5,I6,r,q⟩
theorem QI(he:PXS X st t)(hh:PHs X hs th)(hst:X.stack=X.env::X.outer)(hfr:X.env.frame=some X.env.locals)(hne:hs≠[]):PS X (.Try [st] hs [] [] pos) (Tn t th):=by
 intro pins s σ H D I ⟨E₁,h,hk⟩;rw[arm_exec_Try];cases hs with
 |nil=>exact absurd rfl hne
 |cons h0 hs =>
 refine wpAny_bind (wpAny_standAt (wpAny_tryStmt_except ?_));refine wpAny_execs_cons (thn (he E₁ pins s σ H _ _ I h λ x T C d H' s' I' fl q=>?_) λ f s1 q=>?_)
 .refine FS I' hst hfr (.inr ⟨T,fl⟩) λ h' T2 hT2 nT2 I2=>?_;exact hh pins _ σ H' D x C d T2 nT2 I2 (hk x C d T T2 H' q fl hT2 nT2)
 .cases f with
  |next=>obtain⟨σ',H',I',q⟩:=q;exact wpAny_execs_nil (wpAny_execs_nil ⟨σ',H',I',q⟩)
  |ret v=>obtain⟨_,_,_,_,_,q⟩:=q;exact q.elim
  |brk=>obtain⟨_,_,_,q⟩:=q;exact q.elim
  |cont=>obtain⟨_,_,_,q⟩:=q;exact q.elim
theorem Bm{K:Frag}(hK:X.K=K:=by rfl):Ec X (.builtin "isinstance") (λ xs H Q=>∃a C t c1 c2 c3 c4 c5,xs=[.ref a,.ref t]/\IsExc H a C/\XCls K C/\H t=some (.tup [.ref c1,.ref c2,.ref c3,.ref c4,.ref c5])/\kitOne K (.ref C) (.ref c1)=some false/\kitOne K (.ref C) (.ref c2)=some false /\
  kitOne K (.ref C) (.ref c3)=some false/\kitOne K (.ref C) (.ref c4)=some false/\kitOne K (.ref C) (.ref c5)=some false/\Q (.bl false) H):=by
 subst hK;intro pins s σ H xs us Q I r h;obtain⟨a,C,t,c1,c2,c3,c4,c5,rfl,he,hc,ht,k1,k2,k3,k4,k5,q⟩:=h;obtain⟨v1,v2,rfl,r1,r2⟩:=MZ r;cases r1;cases r2;obtain⟨its,rt,hp,_⟩:=I.tuple (SqT.of (K:=X.K) ht);cases rt with
 |cons q1 rt=>cases rt with
  |cons q2 rt=>cases rt with
   |cons q3 rt=>cases rt with
    |cons q4 rt=>cases rt with
     |cons q5 rt =>
     cases rt;cases q1;cases q2;cases q3;cases q4;cases q5;obtain⟨⟨cls,dd,data,sl⟩,ho,ec,n,ed⟩:=hp;simp only at ec ed;subst ec ed;exact kia_tup (PB hc) I.kIn (M8 I he) ho (by simp[kitAny,k1,k2,k3,k4,k5]) (λ z=>nomatch z) λ tk=>⟨.bl false,H,I.tok tk,rfl,q⟩
end
def Dm(ρ:Str->Option V):Nat->Expr->Option D
 |0,_=>none
 |_+1,.Constant c _ _=>(UL c).map .at
 |_+1,.Name x _=>(ρ x).map .at
 |_+1,.UnaryOp .USub (.Constant (.int i) _ _) _=>some (.at (.int (-i)))
 |_+1,.BinOp (.Constant (.int i) _ _) .Pow (.Constant (.int j) _ _) _=>if 0<=j/\j<=1000000/\i.natAbs<2^64 then some (.at (.int (i^j.toNat))) else none
 |n+1,.BinOp a .Add b _=>(Dm ρ n a).bind λ x=>(Dm ρ n b).bind λ y=>match x,y with
  |.at (.int i),.at (.int j)=>some (.at (.int (i+j)))
  |_,_=>none
 |n+1,.Tuple es _ _=>if es.length<=64 then (DE (Dm ρ n) es).map .tup else none
 |n+1,.List es _=>if es.length<=64 then (DE (Dm ρ n) es).map .lst else none
 |_+1,_=>none
def R5(N:LSz)(ρ:Str->Option V)(σ:St):Prop:=∀x v,ρ x=some v->BH v=true/\∃i:Nat,N[i]?=some x/\σ[i]?=some (some v)
def RB(N:LSz)(ρ:Str->Option V)(d:D):TE:=λ σ H Q=>R5 N ρ σ/\∀v H',Same H H'->DAt H' d v->Q v H'
def Sj(N:LSz)(ρ:Str->Option V)(ds:Ds):TA:=λ σ H Q=>R5 N ρ σ/\∀xs H',Same H H'->Be H' ds xs->Q xs H'
def R4(X:Cx)(ρ:Str->Option V):Prop:=∀x v,ρ x=some v->Vis X.env.scope x/\(x==("__debug__":Str))=false/\(x==("__classdict__":Str))=false
section
variable{X:Cx}{ρ:Str->Option V}
theorem FA{n:Nat}{e:Expr}{d:D}(h:Dm ρ n e=some d)(es:List Expr)(env:Env):starEach (e::es) env=(false,eval e env)::starEach es env:=by
 unfold Dm at h;split at h<;>first|rfl|cases h
theorem Fd{f:Expr->Option D}(hf:∀e d,f e=some d->PE X e (RB X.N ρ d)/\∀(es:List Expr)(env:Env),starEach (e::es) env=(false,eval e env)::starEach es env):∀{es:List Expr}{ds:Ds},DE f es=some ds->PA X es (Sj X.N ρ ds)
 |[],ds,h=>by
  cases h;intro pos pins s σ H Q I q;exact Ab (X:=X) pos pins s σ H Q I (q.2 [] H (Same.refl H) (by rw[Be]))
 |e::es,ds,h=>by
  rw[DE]at h;obtain⟨d,h1,h2⟩:=Option.bind_eq_some_iff.mp h;obtain⟨r,h3,rfl⟩:=Option.map_eq_some_iff.mp h2;obtain⟨p,st⟩:=hf e d h1;intro pos pins s σ H Q I q;refine Aa p (Fd hf h3) (st es X.env) pos pins s σ H Q I ⟨q.1,?_⟩;intro v H1 s1 d1;refine⟨q.1,λ xs H2 s2 d2=>?_⟩;exact q.2 (v::xs) H2 (s1.trans s2) (by rw[Be];exact⟨v,xs,rfl,AM s2 d d1,d2⟩)
theorem Fa(hρ:R4 X ρ):∀(n:Nat)(e:Expr)(d:D),Dm ρ n e=some d->PE X e (RB X.N ρ d)
 |0,e,d,h=>by cases h
 |n+1,e,d,h=>by
  unfold Dm at h;split at h
  .rename_i z;cases z
  .rename_i c k p _;obtain⟨v,hv,rfl⟩:=Option.map_eq_some_iff.mp h;intro pins s σ H Q I q;have key:∀u:V,BH u=true->v=u->tC u σ H Q:=λ u fu e=>by
    subst e;exact q.2 v H (Same.refl H) (by rw[DAt];exact⟨rfl,fu⟩)
   cases c with
   |none=>cases hv;exact BA pins s σ H Q I (key _ rfl rfl)
   |bool b=>cases hv;exact DS pins s σ H Q I (key _ rfl rfl)
   |int i=>cases hv;exact Ad pins s σ H Q I (key _ rfl rfl)
   |str x=>cases hv;exact BK pins s σ H Q I (key _ rfl rfl)
   |_=>cases hv
  .rename_i x p _;obtain⟨v,hv,rfl⟩:=Option.map_eq_some_iff.mp h;intro pins s σ H Q I q;obtain⟨fl,i,hN,hs⟩:=q.1 x v hv;obtain⟨v1,v2,v3⟩:=hρ x v hv;exact Pu hN v1 v2 v3 pins s σ H Q I ⟨v,hs,q.2 v H (Same.refl H) (by rw[DAt];exact⟨rfl,fl⟩)⟩
  .rename_i i k p p' _;cases h;intro pins s σ H Q I q;refine Tz Sb Ad pins s σ H Q I ?_;exact⟨i,rfl,q.2 _ H (Same.refl H) (by rw[DAt];exact⟨rfl,rfl⟩)⟩
  .rename_i i k1 p1 j k2 p2 p3 _;split at h
   .rename_i hc;cases h;intro pins s σ H Q I q;refine Az Mn Ad Ad pins s σ H Q I ?_;exact⟨i,j,rfl,rfl,hc,q.2 _ H (Same.refl H) (by rw[DAt];exact⟨rfl,rfl⟩)⟩
   .cases h
  .rename_i m a b p z;cases z;obtain⟨x,hx,h⟩:=Option.bind_eq_some_iff.mp h;obtain⟨y,hy,h⟩:=Option.bind_eq_some_iff.mp h;split at h
   .cases h;intro pins s σ H Q I q;refine Az AW (Fa hρ n a _ hx) (Fa hρ n b _ hy) pins s σ H Q I ⟨q.1,λ v H1 s1 d1=>⟨q.1,λ u H2 s2 d2=>?_⟩⟩;rw[DAt]at d1 d2;rw[d1.1,d2.1];exact⟨_,_,rfl,rfl,q.2 _ H2 (s1.trans s2) (by rw[DAt];exact⟨rfl,rfl⟩)⟩
   .cases h
  .rename_i m es x p z;cases z;split at h
   .rename_i hl;obtain⟨ds,hd,rfl⟩:=Option.map_eq_some_iff.mp h;intro pins s σ H Q I q;refine A3 (Fd (λ e d h=>⟨Fa hρ n e d h,FA h⟩) hd) pins s σ H Q I ⟨q.1,?_⟩;intro xs H1 s1 d1;refine⟨Nat.le_trans (by rw[By ds d1,Eu hd];exact hl) (by rw[sizeLine_eq];decide),λ t nt=>q.2 _ _ (s1.trans (Same.new nt)) ?_⟩;rw[DAt];exact⟨t,xs,rfl,Ac,Cp (Same.new nt) ds d1⟩
   .cases h
  .rename_i m es p z;cases z;split at h
   .rename_i hl;obtain⟨ds,hd,rfl⟩:=Option.map_eq_some_iff.mp h;intro pins s σ H Q I q;refine A9 (Fd (λ e d h=>⟨Fa hρ n e d h,FA h⟩) hd) pins s σ H Q I ⟨q.1,?_⟩;intro xs H1 s1 d1;refine⟨Nat.le_trans (by rw[By ds d1,Eu hd];exact hl) (by rw[sizeLine_eq];decide),λ t nt=>q.2 _ _ (s1.trans (Same.new nt)) ?_⟩;rw[DAt];exact⟨t,xs,rfl,Ac,Cp (Same.new nt) ds d1⟩
   .cases h
  .cases h
def Sk(N:LSz)(ρ:Str->Option V)(ds:Ds):TE:=λ σ H Q=>R5 N ρ σ/\∀l xs H',Same H H'->H l=none->H' l=some (.lst xs)->Be H' ds xs->Q (.ref l) H'
theorem EZ(hρ:R4 X ρ){n:Nat}{es:List Expr}{ds:Ds}{pos:Pos}(h:DE (Dm ρ n) es=some ds)(hl:es.length<=64):PE X (.List es pos) (Sk X.N ρ ds):=by
 intro pins s σ H Q I q;refine A9 (Fd (λ e d h=>⟨Fa hρ n e d h,FA h⟩) h) pins s σ H Q I ⟨q.1,?_⟩;intro xs H1 s1 d1;refine⟨Nat.le_trans (by rw[By ds d1,Eu h];exact hl) (by rw[sizeLine_eq];decide),λ t nt=>q.2 t xs _ (s1.trans (Same.new nt)) (T8 s1 nt) Ac (Cp (Same.new nt) ds d1)⟩
theorem JS:R4 X λ_=>none:=λ_ _ z=>nomatch z
theorem F7{N:LSz}{σ:St}:R5 N (λ_=>none) σ:=λ_ _ z=>nomatch z
end
end L2
namespace K56
open PySem.W
open PySem L2
def top(i:Nat):Stmt:=PySem.Challenge.pw_glazebench_k56_worths_refused.main.body.getD i (.Pass ⟨0,0,0,0⟩)
abbrev CP:Stmt:=AH (top 3) 0
abbrev Cw:Stmt:=AH (top 4) 0
abbrev D1:Stmt:=AH (top 5) 0
abbrev CQ:Stmt:=AH (top 6) 0
abbrev D0:Stmt:=AH (top 7) 0
abbrev CS:Stmt:=AH (top 8) 0
abbrev E8:Stmt:=top 11
abbrev Fx:Stmt:=top 12
abbrev Fu:Stmt:=top 13
abbrev F1:Stmt:=top 14
abbrev CL:Stmt:=top 15
abbrev B0:Stmt:=AH (top 21) 0
abbrev Cv:Stmt:=AH (top 22) 0
abbrev D2:Stmt:=AH (top 23) 0
abbrev Fw:Stmt:=top 24
abbrev EA:Stmt:=top 25
abbrev Dw:Stmt:=top 26
abbrev EB:Stmt:=top 27
abbrev DL:Stmt:=top 28
abbrev Dx:Stmt:=top 29
abbrev BR:Stmt:=top 30
abbrev CJ:Stmt:=top 31
abbrev CH:Stmt:=top 32
abbrev F0:Stmt:=top 33
abbrev Bu:Stmt:=top 34
abbrev Fz:Stmt:=top 38
abbrev CM:Stmt:=top 39
abbrev E9:Stmt:=top 40
abbrev Dv:Stmt:=top 41
abbrev Ct:Stmt:=top 42
abbrev CK:Stmt:=top 43
abbrev CO:Stmt:=top 44
abbrev AY:Stmt:=top 45
abbrev DK:Stmt:=top 46
abbrev BJ:Stmt:=top 47
abbrev G8:Stmt:=top 48
abbrev Mi:Stmt:=top 49
abbrev Fy:Stmt:=top 50
abbrev E7:Stmt:=top 51
abbrev Bv:Stmt:=top 55
abbrev Cr:Stmt:=top 56
abbrev CN:Stmt:=top 57
abbrev G9:Stmt:=top 58
abbrev CG:Stmt:=top 59
abbrev BY:Stmt:=top 60
abbrev Fv:Stmt:=top 61
abbrev Cs:Stmt:=top 62
abbrev B8:Stmt:=top 63
abbrev BZ:Stmt:=top 64
abbrev CI:Stmt:=top 65
abbrev DN:Stmt:=top 67
abbrev DM:Stmt:=top 68
abbrev BS:Stmt:=top 69
abbrev Cu:Stmt:=top 70
abbrev A6:Stmt:=top 71
abbrev A7:Stmt:=top 72
abbrev Dz:Stmt:=top 73
abbrev EC:Stmt:=top 74
abbrev Dy:Stmt:=top 75
abbrev Bo:Stmt:=top 76
theorem nw{H:Hp}{c:Addr}(o:HO)(n:H c=none):∃G,upd H c o=G/\Same H G/\G c=some o:=⟨_,rfl,Same.new n,Ac⟩
def Kz(n:Nat):List Int:=(List.range n).map λ k:Nat=>1+(k:Int)
theorem NT(n:Nat):Kz (n+1)=Kz n++[1+(n:Int)]:=by unfold Kz;rw[List.range_succ,List.map_append];rfl
theorem mem_upto{n:Nat}{z:Int}:z∈Kz n↔1<=z/\z<=n:=by
 unfold Kz;rw[List.mem_map]
 constructor
 .rintro⟨k,hk,rfl⟩;have:=List.mem_range.mp hk;lia
 .rintro⟨a,b⟩;exact⟨(z-1).toNat,List.mem_range.mpr (by lia),by lia⟩
abbrev Bp:=Int×Int×Int×Bool
def O1(w h W T:Int)(t:Bool):Bool:=(decide (w=W)&&decide (h=T))||(t&&(decide (w=T)&&decide (h=W)))
def ofK(k:Bp)(w h:Int):Bool:=O1 w h k.1 k.2.1 k.2.2.2
def Hu(w h:Int):List (Bool×Int):=(Kz (w-1).toNat).map (λ a=>(true,a))++(Kz (h-1).toNat).map (λ a=>(false,a))
theorem Lk{w h:Int}{c:Bool×Int}(hc:c∈Hu w h):(c.1=true/\1<=c.2/\c.2<w)\/(c.1=false/\1<=c.2/\c.2<h):=by
 unfold Hu at hc;rcases List.mem_append.mp hc with hc|hc
 .obtain⟨a,ha,rfl⟩:=List.mem_map.mp hc;have:=mem_upto.mp ha;exact .inl ⟨rfl,by show 1<=a;lia,by show a<w;lia⟩
 .obtain⟨a,ha,rfl⟩:=List.mem_map.mp hc;have:=mem_upto.mp ha;exact .inr ⟨rfl,by show 1<=a;lia,by show a<h;lia⟩
def B9{α:Type}(ts:List (Addr×α)):LUz:=ts.map λ t=>V.ref t.1
theorem Dg{α:Type}{ts:List (Addr×α)}{i:Nat}{x:V}(h:(B9 ts)[i]?=some x):∃u,ts[i]?=some u/\x=.ref u.1:=by
 rw[B9,List.getElem?_map]at h;cases e:ts[i]? with
 |none=>rw[e]at h;cases h
 |some u=>rw[e]at h;exact⟨u,rfl,(Option.some.inj h).symm⟩
theorem AQ{α:Type}(ts:List (Addr×α)):(B9 ts).length=ts.length:=List.length_map ..
theorem Jw{H H':Hp}(s:Same H H'){a:Addr}(h:H' a=none):H a=none:=by
 cases q:H a with
 |none=>rfl
 |some o=>rw[s a o q]at h;cases h
def KindsAt(H:Hp)(a:Addr)(ks:List Bp):Prop:=∃ts:List (Addr×Bp),H a=some (.lst (B9 ts))/\(∀t∈ts,H t.1=some (.tup [.int t.2.1,.int t.2.2.1,.int t.2.2.2.1,.bl t.2.2.2.2]))/\ts.map (·.2)=ks
theorem KindsAt.same{H H':Hp}{a:Addr}{ks:List Bp}(h:KindsAt H a ks)(s:Same H H'):KindsAt H' a ks :=
 let ⟨ts,a,b,c⟩:=h;⟨ts,s _ _ a,λ t ht=>s _ _ (b t ht),c⟩
def wd(u:Bool):Str:=if u=true then "upright" else "level"
theorem DI(u v:Bool):decide (V.str (wd u)=V.str (wd v))=(u==v):=by cases u<;>cases v<;>decide +kernel
theorem Gy(u:Bool):decide (V.str (wd u)=V.str "whole")=false:=by cases u<;>decide +kernel
inductive Tr where
 |whole (m:Option Int)
 |cut (u:Bool) (k:Int) (x y:Tr)
def Tr.sz:Tr->Nat
 |.whole _=>1
 |.cut _ _ x y=>x.sz+y.sz
def C0:Option Int->V
 |none=>.non
 |some i=>.int i
def Fit:Tr->Int->Int->Prop
 |.whole _,_,_=>True
 |.cut u k x y,w,h=>if u=true then (1<=k/\k<w/\Fit x k h/\Fit y (w-k) h) else (1<=k/\k<h/\Fit x w k/\Fit y w (h-k))
theorem FG:∀{t:Tr}{w h:Int},1<=w->1<=h->Fit t w h->(t.sz:Int)<=w*h
 |.whole _,w,h,hw,hh,_=>by
  show((1:Nat):Int)<=_;have:=Int.mul_le_mul hw hh (by lia) (by lia);lia
 |.cut u k x y,w,h,hw,hh,f=>by
  rw[Fit]at f;show((x.sz+y.sz:Nat):Int)<=_;cases u with
  |true =>
   obtain⟨a,b,c,d⟩:=f;have h1:=FG a hh c;have h2:=FG (by lia) hh d;rw[Int.sub_mul]at h2;lia
  |false =>
   obtain⟨a,b,c,d⟩:=f;have h1:=FG hw a c;have h2:=FG hw (by lia) d;rw[Int.mul_sub]at h2;lia
theorem L9{x0 x1 x2 x3:V}:atI [x0,x1,x2,x3] 0=some x0:=rfl
theorem L8{x0 x1 x2 x3:V}:atI [x0,x1,x2,x3] 1=some x1:=rfl
theorem Hw{x0 x1 x2 x3:V}:atI [x0,x1,x2,x3] 2=some x2:=rfl
theorem L7{x0 x1 x2 x3:V}:atI [x0,x1,x2,x3] 3=some x3:=rfl
theorem BM{x0 x1:V}:atI [x0,x1] 0=some x0:=rfl
theorem DZ{x0 x1:V}:atI [x0,x1] 1=some x1:=rfl
theorem UK:Uw 10 9:=⟨by decide,by decide,by decide⟩
theorem Qd{j:Int}(z:Int)(h:0<j)(h2:j<18446744073709551616):Sa z j:=⟨h,Nat.lt_trans (Hd (k:=64) (by decide) (by lia)) (by decide)⟩
theorem FT{a b:Int}(h1:-18446744073709551616<a)(h2:a<18446744073709551616)(h3:-18446744073709551616<b)(h4:b<18446744073709551616):IntMulOk a b:=by
 have c:(2:Nat)^128=340282366920938463463374607431768211456:=by decide +kernel
 refine P3 ?_ ?_<;>rw[c]<;>lia
theorem Ki{L:LUz}{i:Int}(h0:0<=i)(h1:i<L.length):∃v,atI L i=some v/\v∈L:=by
 have h:i.toNat<L.length:=by lia
 have e:=Fj (List.getElem?_eq_getElem h);rw[Int.toNat_of_nonneg h0]at e;exact⟨_,e,List.getElem_mem h⟩
theorem R1{ns:List Int}{k:Int}(h0:0<=k)(h1:k<(ns.length:Int)):∃z,atI (ns.map V.int) k=some (.int z):=by
 have hk:k.toNat<ns.length:=by lia
 have hz:(ns.map V.int)[k.toNat]?=some (.int ns[k.toNat]):=by rw[List.getElem?_map,List.getElem?_eq_getElem hk];rfl
 have e:=Fj hz;rw[Int.toNat_of_nonneg h0]at e;exact⟨_,e⟩
inductive En where
 |w (m:Option Int)
 |c (u:Bool) (k:Int)
def enV:En->LUz
 |.w m=>[.str "whole",C0 m]
 |.c u k=>[.str (wd u),.int k]
def GJ(x y:Int):D:=.tup (.cons (.at (.int x)) (.cons (.at (.int y)) .nil))
theorem Fc{K:Frag}{H:Hp}{a:Addr}{x y:Int}(h:SqT K H a [.int x,.int y]):DIs K H (GJ x y) (.ref a):=by
 unfold GJ;rw[DIs];refine⟨_,_,rfl,h,?_⟩;rw[DIss];refine⟨_,_,rfl,by rw[DIs];exact⟨rfl,rfl⟩,?_⟩;rw[DIss];exact⟨_,_,rfl,by rw[DIs];exact⟨rfl,rfl⟩,by rw[DIss]⟩
theorem IN(x y:Int):dep (GJ x y)<=50:=by unfold GJ;rw[dep,Fg,dep,Fg,dep,Fg];lia
theorem GI(x y x' y':Int):deq (GJ x y) (GJ x' y')=(decide (x=x')&&decide (y=y')):=by
 unfold GJ;rw[deq,EI,deq,EI,deq,EI];have e:∀a b:Int,eqV (.int a) (.int b)=decide (a=b):=λ a b=>by
  by_cases q:a=b
  .subst q;simp[eqV]
  .simp[eqV,q]
 rw[e,e,Bool.and_true]
theorem at0{x0 x1 x2 x3:V}:atI [x0,x1,x2,x3] 0=some x0:=rfl
theorem at1{x0 x1 x2 x3:V}:atI [x0,x1,x2,x3] 1=some x1:=rfl
theorem at2{x0 x1 x2 x3:V}:atI [x0,x1,x2,x3] 2=some x2:=rfl
theorem at3{x0 x1 x2 x3:V}:atI [x0,x1,x2,x3] 3=some x3:=rfl
abbrev Rk:=GB.Rc
abbrev Rk.vs(p:Rk):LUz:=[.int p.t,.int p.l,.int p.b,.int p.r]
def Rk.len(p:Rk)(u:Bool):Int:=if u then p.r-p.l else p.b-p.t
def Rk.fst(p:Rk)(u:Bool)(k:Int):Rk:=if u then ⟨p.t,p.l,p.b,p.l+k⟩ else ⟨p.t,p.l,p.t+k,p.r⟩
def Rk.oth(p:Rk)(u:Bool)(k:Int):Rk:=if u then ⟨p.t,p.l+k,p.b,p.r⟩ else ⟨p.t+k,p.l,p.b,p.r⟩
def Q1(p:Rk)(t:Tr):Prop:=Fit t (p.r-p.l) (p.b-p.t)
theorem fitR_cut{p:Rk}{u:Bool}{k:Int}{x y:Tr}:Q1 p (.cut u k x y)↔(1<=k/\k<p.len u)/\Q1 (p.fst u k) x/\Q1 (p.oth u k) y:=by
 unfold Q1 Rk.len Rk.fst Rk.oth;rw[Fit];cases u with
 |true =>
  show(1<=k/\k<p.r-p.l/\Fit x k (p.b-p.t)/\Fit y (p.r-p.l-k) (p.b-p.t))↔((1<=k/\k<p.r-p.l)/\Fit x (p.l+k-p.l) (p.b-p.t)/\Fit y (p.r-(p.l+k)) (p.b-p.t));rw[show p.l+k-p.l=k by lia,show p.r-(p.l+k)=p.r-p.l-k by lia];exact⟨λ⟨a,b,c,d⟩=>⟨⟨a,b⟩,c,d⟩,λ⟨⟨a,b⟩,c,d⟩=>⟨a,b,c,d⟩⟩
 |false =>
  show(1<=k/\k<p.b-p.t/\Fit x (p.r-p.l) k/\Fit y (p.r-p.l) (p.b-p.t-k))↔((1<=k/\k<p.b-p.t)/\Fit x (p.r-p.l) (p.t+k-p.t)/\Fit y (p.r-p.l) (p.b-(p.t+k)));rw[show p.t+k-p.t=k by lia,show p.b-(p.t+k)=p.b-p.t-k by lia];exact⟨λ⟨a,b,c,d⟩=>⟨⟨a,b⟩,c,d⟩,λ⟨⟨a,b⟩,c,d⟩=>⟨a,b,c,d⟩⟩
def SizesAt(H:Hp)(l:Addr)(zs:List (Int×Int)):Prop:=∃ts:List (Addr×Int×Int),H l=some (.lst (B9 ts))/\(∀t∈ts,H t.1=some (.tup [.int t.2.1,.int t.2.2]))/\ts.map (·.2)=zs
theorem SizesAt.same{H H':Hp}{a:Addr}{ks:List (Int×Int)}(h:SizesAt H a ks)(s:Same H H'):SizesAt H' a ks :=
 let ⟨ts,a,b,c⟩:=h;⟨ts,s _ _ a,λ t ht=>s _ _ (b t ht),c⟩
def DH:V->Bool
 |.int _=>true
 |_=>false
def Ay:V->Bool
 |.int i=>decide (1<=i)&&decide (i<=12)
 |_=>false
def Ty(H:Hp)(v:V):Prop:=∃T,tyS H v=some T
theorem K0{H H':Hp}(s:Same H H'){v:V}{T:String}(h:tyS H v=some T):tyS H' v=some T:=by
 cases v with
 |ref a =>
  have h:tyO (H a)=some T:=h;show tyO (H' a)=some T;cases e:H a with
  |none=>rw[e]at h;cases h
  |some o=>rw[e]at h;rw[s a o e];exact h
 |_=>exact h
theorem Ty.same{H H':Hp}(s:Same H H'){v:V}(h:Ty H v):Ty H' v:=let ⟨T,e⟩:=h;⟨T,K0 s e⟩
theorem Gx{H:Hp}{v:V}{T:String}(h:tyS H v=some T):(isB T "int"=true->(!isB T "bool")=DH v)/\(isB T "int"=false->false=DH v):=by
 cases v with
 |non=>cases h;exact⟨λ z=>absurd z (by decide),λ_=>rfl⟩
 |bl b=>cases h;exact⟨λ_=>by show(!isB "bool" "bool")=false;decide,λ z=>absurd z (by decide)⟩
 |int i=>cases h;exact⟨λ_=>by show(!isB "int" "bool")=true;decide,λ z=>absurd z (by decide)⟩
 |str x=>cases h;exact⟨λ z=>absurd z (by decide),λ_=>rfl⟩
 |byt b=>cases h
 |flt b=>cases h
 |ty n=>cases h
 |ref a =>
  have key:T="list"\/T="tuple"\/T="dict":=by
   have h:tyO (H a)=some T:=h;unfold tyO at h;split at h<;>first|(cases h;simp)|cases h
  rcases key with rfl|rfl|rfl<;>exact⟨λ z=>absurd z (by decide),λ_=>rfl⟩
theorem G0{H:Hp}{a:Addr}{xs:LUz}(h:H a=some (.tup xs)):tyS H (.ref a)=some "tuple":=by
 show tyO (H a)=some "tuple";rw[h];rfl
theorem CF{H:Hp}{a:Addr}{xs:LUz}(h:H a=some (.lst xs)):tyS H (.ref a)=some "list":=by
 show tyO (H a)=some "list";rw[h];rfl
theorem Ll{α:Type}{us:List α}(h:us.length=1):∃a,us=[a]:=List.length_eq_one_iff.mp h
theorem S1{α:Type}{us:List α}(h:us.length=2):∃a b,us=[a,b]:=by
 cases us with
 |nil=>cases h
 |cons a r=>obtain⟨b,rfl⟩:=Ll (Nat.succ.inj h);exact⟨a,b,rfl⟩
theorem UN{α:Type}{us:List α}(h:us.length=3):∃a b c,us=[a,b,c]:=by
 cases us with
 |nil=>cases h
 |cons a r=>obtain⟨b,c,rfl⟩:=S1 (Nat.succ.inj h);exact⟨a,b,c,rfl⟩
theorem UM{α:Type}{us:List α}(h:us.length=4):∃a b c d,us=[a,b,c,d]:=by
 cases us with
 |nil=>cases h
 |cons a r=>obtain⟨b,c,d,rfl⟩:=UN (Nat.succ.inj h);exact⟨a,b,c,d,rfl⟩
inductive Cl
 |I
 |M
 |K
 |F
 |C
 |U
deriving DecidableEq
def nmC:Cl->Str
 |.I=>"side"
 |.M=>"many"
 |.K=>"place"
 |.F=>"place"
 |.C=>"at"
 |.U=>"piece"
def woC:Cl->Str
 |.I=>"side"
 |.M=>"many"
 |.K=>"kind"
 |.F=>"flaw"
 |.C=>"cut"
 |.U=>"unfit"
abbrev Cc:=Cl->Addr
def RfC(cc:Cc)(H:Hp)(E:XK)(r:Cl×V):Prop:=Rf H E (cc r.1) λ fs _=>fs=[(nmC r.1,r.2)]
theorem IK{cc:Cc}{H H2:Hp}{E:XK}{r:Cl×V}(s:Same H H2)(h:RfC cc H E r):RfC cc H2 (XE H (RU H E)) r:=Tq s h Pb
inductive Ths{α:Type}(R:Hp->V->α->Prop)(H:Hp):LUz->List α->Prop
 |nil:Ths R H [] []
 |cons {v:V} {g:α} {xs:LUz} {gs:List α}:R H v g->Ths R H xs gs->Ths R H (v::xs) (g::gs)
theorem Ths.len{α:Type}{R:Hp->V->α->Prop}{H:Hp}{xs:LUz}{gs:List α}(h:Ths R H xs gs):xs.length=gs.length:=by
 induction h with
 |nil=>rfl
 |cons _ _ ih=>rw[List.length_cons,List.length_cons,ih]
theorem Ths.mono{α:Type}{R R':Hp->V->α->Prop}{H H':Hp}(m:∀v g,R H v g->R' H' v g){xs:LUz}{gs:List α}(h:Ths R H xs gs):Ths R' H' xs gs:=by
 induction h with
 |nil=>exact .nil
 |cons a _ ih=>exact .cons (m _ _ a) ih
theorem Ths.get{α:Type}{R:Hp->V->α->Prop}{H:Hp}{xs:LUz}{gs:List α}(h:Ths R H xs gs):∀{i:Nat}{v:V},xs[i]?=some v->∃g,gs[i]?=some g/\R H v g:=by
 induction h with
 |nil=>intro i v e;cases e
 |@cons v g xs gs a _ ih =>
  intro i u e;cases i with
  |zero=>cases e;exact⟨g,rfl,a⟩
  |succ i=>exact ih e
theorem Ths.snoc{α:Type}{R:Hp->V->α->Prop}{H:Hp}{xs:LUz}{gs:List α}(h:Ths R H xs gs){v:V}{g:α}(a:R H v g):Ths R H (xs++[v]) (gs++[g]):=by
 induction h with
 |nil=>exact .cons a .nil
 |cons b _ ih=>exact .cons b ih
theorem Ths.put{α:Type}{R:Hp->V->α->Prop}{H:Hp}{xs:LUz}{gs:List α}(h:Ths R H xs gs){v:V}{g:α}(a:R H v g):∀i:Nat,Ths R H (xs.set i v) (gs.set i g):=by
 induction h with
 |nil=>intro i;exact .nil
 |cons b h ih =>
  intro i;cases i with
  |zero=>exact .cons a h
  |succ i=>exact .cons b (ih i)
theorem Jz{H:Hp}{v:V}(h:BH v=true):Ty H v:=by cases v<;>first|exact⟨_,rfl⟩|cases h
def Bad(B:LUz->Bool)(H:Hp)(v:V):Prop:=(∃a xs,v=.ref a/\H a=some (.tup xs)/\xs.length<=100/\(∀x∈xs,Ty H x)/\B xs=false)\/∃T,tyS H v=some T/\T≠"tuple"
def Thg{α:Type}(B:LUz->Bool)(f:α->LUz)(H:Hp)(v:V):Option α->Prop
 |some t=>∃b,v=.ref b/\H b=some (.tup (f t))/\B (f t)=true/\(f t).length<=100/\∀x∈f t,BH x=true
 |none=>Bad B H v
def Kx(H H':Hp):Prop:=(∀a xs,H a=some (.tup xs)->H' a=some (.tup xs))/\∀a xs,H a=some (.lst xs)->H' a=some (.lst xs)
theorem P8{H H':Hp}(s:SameN H H'):Kx H H':=⟨λ_ _ e=>s.tup e,λ_ _ e=>s.lst e⟩
def Kt(H H':Hp):Prop:=(∀a xs,H a=some (.tup xs)->H' a=some (.tup xs))/\∀v T,tyS H v=some T->tyS H' v=some T
theorem P9{H H':Hp}(s:Same H H'):Kt H H':=⟨λ_ _ e=>s _ _ e,λ_ _ e=>K0 s e⟩
theorem Kt.put{H:Hp}{l:Addr}{xs ys:LUz}(h:H l=some (.lst xs)):Kt H (upd H l (.lst ys)):=by
 refine⟨λ a zs e=>by rw[Ai (Nr e h (by intro z;cases z))];exact e,λ v T e=>?_⟩;cases v with
 |ref a =>
  by_cases c:a=l
  .subst c;rw[CF Ac];rw[CF h]at e;exact e
  .show tyO ((upd H l (.lst ys)) a)=_;rw[Ai c];exact e
 |_=>exact e
theorem Bad.kt{B:LUz->Bool}{H H':Hp}{v:V}(s:Kt H H')(h:Bad B H v):Bad B H' v:=by
 rcases h with ⟨a,xs,e,h1,hz,h2,h3⟩|⟨T,h1,h2⟩
 .exact .inl ⟨a,xs,e,s.1 _ _ h1,hz,λ x hx=>let ⟨T,e⟩:=h2 x hx;⟨T,s.2 _ _ e⟩,h3⟩
 .exact .inr ⟨T,s.2 _ _ h1,h2⟩
theorem Thg.kt{α:Type}{B:LUz->Bool}{f:α->LUz}{H H':Hp}(s:Kt H H'){v:V}:∀{g:Option α},Thg B f H v g->Thg B f H' v g
 |some t,⟨b,e,h,k⟩=>⟨b,e,s.1 _ _ h,k⟩
 |none,h=>Bad.kt s h
theorem Thg.same{α:Type}{B:LUz->Bool}{f:α->LUz}{H H':Hp}(s:Same H H'){v:V}{g:Option α}(h:Thg B f H v g):Thg B f H' v g:=h.kt (P9 s)
theorem Thg.two{α:Type}{B:LUz->Bool}{f:α->LUz}{H:Hp}{v:V}:∀{g:Option α},Thg B f H v g->(∃a xs,v=.ref a/\H a=some (.tup xs)/\xs.length<=100/\(∀x∈xs,Ty H x)/\B xs=g.isSome)\/∃T,tyS H v=some T/\T≠"tuple"/\false=g.isSome
 |some t,⟨b,e,h,k,l,fl⟩=>.inl ⟨b,_,e,h,l,λ x hx=>Jz (fl x hx),k⟩
 |none,.inl ⟨a,xs,e,h,hz,ht,hb⟩=>.inl ⟨a,xs,e,h,hz,ht,hb⟩
 |none,.inr ⟨T,h,n⟩=>.inr ⟨T,h,n,rfl⟩
theorem RM{α:Type}:∀gs:List (Option α),gs.findIdx? (·.isNone)=none->∃ws:List α,gs=ws.map some
 |[],_=>⟨[],rfl⟩
 |none::gs,h=>by rw[List.findIdx?_cons]at h;cases h
 |some t::gs,h=>by
  rw[List.findIdx?_cons]at h;obtain⟨ws,rfl⟩:=RM gs (by simpa using h);exact⟨t::ws,rfl⟩
theorem IC{α:Type}{B:LUz->Bool}{f:α->LUz}{H:Hp}{xs:LUz}{ws:List α}(h:Ths (Thg B f) H xs (ws.map some)):∃ts:List (Addr×α),xs=B9 ts/\(∀t∈ts,H t.1=some (.tup (f t.2)))/\ts.map (·.2)=ws:=by
 generalize hg:ws.map some=gs at h
 induction h generalizing ws with
 |nil =>
  cases ws with
  |nil=>exact⟨[],rfl,(λ t ht=>nomatch ht),rfl⟩
  |cons w ws=>cases hg
 |@cons v g xs gs a h ih =>
  cases ws with
  |nil=>cases hg
  |cons w ws =>
   rw[List.map_cons]at hg;obtain⟨e1,e2⟩:=List.cons.inj hg;subst e1;obtain⟨ts,e,p,q⟩:=ih e2;obtain⟨b,rfl,hb,wo⟩:=a;refine⟨(b,w)::ts,by rw[e];rfl,λ t ht=>?_,by rw[List.map_cons,q]⟩;rcases List.mem_cons.mp ht with rfl|ht
   .exact hb
   .exact p t ht
def AX{α:Type}(gs:List (Option α)):Option Nat:=gs.findIdx? (·.isNone)
theorem Dp{α:Type}{gs:List (Option α)}{i:Nat}(h:gs[i]?=some none)(hl:∀j,j<i->∃t,gs[j]?=some (some t)):AX gs=some i:=by
 unfold AX;obtain⟨hi,e⟩:=List.getElem?_eq_some_iff.mp h;refine List.findIdx?_eq_some_iff_getElem.mpr ⟨hi,by rw[e];rfl,λ j hj=>?_⟩;obtain⟨t,ht⟩:=hl j hj;obtain⟨hj',e'⟩:=List.getElem?_eq_some_iff.mp ht;rw[e'];exact Bool.false_ne_true
theorem FF{α:Type}{gs:List (Option α)}(hl:∀j,j<gs.length->∃t,gs[j]?=some (some t)):AX gs=none:=by
 unfold AX;refine List.findIdx?_eq_none_iff.mpr λ x hx=>?_;obtain⟨j,hj,rfl⟩:=List.getElem_of_mem hx;obtain⟨t,ht⟩:=hl j hj;obtain⟨hj',e'⟩:=List.getElem?_eq_some_iff.mp ht;rw[e'];rfl
def Bi{α:Type}(n:Nat)(c:Cl)(gs:List (Option α)):Option (Cl×V):=if n<gs.length then some (.M,.int gs.length) else (AX gs).map λ k:Nat=>(c,.int k)
theorem Gs{α:Type}{n:Nat}{c:Cl}{gs:List (Option α)}(h:Bi n c gs=none):∃ws:List α,gs=ws.map some/\ws.length<=n:=by
 unfold Bi at h;by_cases c:n<gs.length
 .rw[if_pos c]at h;cases h
 .rw[if_neg c]at h;obtain⟨ws,e⟩:=RM gs (Option.map_eq_none_iff.mp h);refine⟨ws,e,?_⟩;rw[e,List.length_map]at c;lia
def AO:V->Bool
 |.int i=>decide (1<=i)&&decide (i<=12)&&decide (i<=7)
 |_=>false
def DG(f:V->Bool)(a b:V):Option V:=if f a then (if f b then none else some b) else some a
def C6(f:V->Bool)(a b:V)(gs:List (Option Bp)):Option (Cl×V):=((DG f a b).map λ v=>(Cl.I,v)).or (Bi 8 .K gs)
theorem Kc{f:V->Bool}{a b:V}(h:DG f a b=none):f a=true/\f b=true:=by
 unfold DG at h;cases c1:f a with
 |false=>rw[c1]at h;cases h
 |true =>
  cases c2:f b with
  |false=>rw[c1,c2]at h;cases h
  |true=>exact⟨rfl,rfl⟩
theorem MF{f:V->Bool}{a b v:V}{gs:List (Option Bp)}(h:DG f a b=some v):C6 f a b gs=some (.I,v):=by unfold C6;rw[h];rfl
theorem FK{f:V->Bool}{a b:V}{gs:List (Option Bp)}(h:DG f a b=none):C6 f a b gs=Bi 8 .K gs:=by unfold C6;rw[h];rfl
theorem Bt{v:V}(h:Ay v=true):∃x:Int,v=.int x/\1<=x/\x<=12:=by
 cases v with
 |int x =>
  have h:(decide (1<=x)&&decide (x<=12))=true:=h;rw[Bool.and_eq_true]at h;exact⟨x,rfl,of_decide_eq_true h.1,of_decide_eq_true h.2⟩
 |_=>cases h
theorem II{v:V}(h:AO v=true):∃x:Int,v=.int x/\1<=x/\x<=7:=by
 cases v with
 |int x =>
  have h:(decide (1<=x)&&decide (x<=12)&&decide (x<=7))=true:=h;rw[Bool.and_eq_true,Bool.and_eq_true]at h;exact⟨x,rfl,of_decide_eq_true h.1.1,of_decide_eq_true h.2⟩
 |_=>cases h
def Oz:V->Bool
 |.bl _=>true
 |_=>false
def Gw:V->Bool
 |.int m=>decide (0<=m)&&decide (m<=1000000000)
 |_=>false
def Hg:LUz->Bool
 |[a,b,m,u]=>(Ay a&&Ay b)&&(Gw m&&Oz u)
 |_=>false
def kvs(k:Bp):LUz:=[.int k.1,.int k.2.1,.int k.2.2.1,.bl k.2.2.2]
abbrev KTh:Hp->V->Option Bp->Prop:=Thg Hg kvs
def inB(n:Int):V->Bool
 |.int i=>decide (0<=i)&&decide (i<n)
 |_=>false
def sqB(W T:Int):LUz->Bool
 |[r,c]=>inB T r&&inB W c
 |_=>false
def sqv(z:Int×Int):LUz:=[.int z.1,.int z.2]
abbrev FTh(W T:Int):Hp->V->Option (Int×Int)->Prop:=Thg (sqB W T) sqv
theorem Ln{H:Hp}{a:Addr}{xs:LUz}{ks:List Bp}(h:H a=some (.lst xs))(t:Ths KTh H xs (ks.map some)):KindsAt H a ks:=by
 obtain⟨ts,rfl,p,q⟩:=IC t;exact⟨ts,h,p,q⟩
theorem PQ{W T:Int}{H:Hp}{a:Addr}{xs:LUz}{fl:List (Int×Int)}(h:H a=some (.lst xs))(t:Ths (FTh W T) H xs (fl.map some)):SizesAt H a fl:=by
 obtain⟨ts,rfl,p,q⟩:=IC t;exact⟨ts,h,p,q⟩
def EnOk(p:Rk):En->Prop
 |.w _=>True
 |.c u k=>1<=k/\k<p.len u
def ChW(H:Hp)(c:Addr)(p:Rk):Prop:=∃(m:Int)(ea:Addr)(en:En),H c=some (.tup [.int m,.ref ea])/\H ea=some (.tup (enV en))/\EnOk p en
theorem ChW.mono{H H':Hp}{c:Addr}{p:Rk}(h:ChW H c p)(s:∀a xs,H a=some (.tup xs)->H' a=some (.tup xs)):ChW H' c p:=let ⟨m,ea,en,a,b,g⟩:=h;⟨m,ea,en,s _ _ a,s _ _ b,g⟩
theorem ChW.same{H H':Hp}{c:Addr}{p:Rk}(h:ChW H c p)(s:Same H H'):ChW H' c p:=h.mono λ_ _ e=>s _ _ e
def kn(b:Bool):Str:=if b then "size_of" else "itself"
def kv(b:Bool)(p:Rk):List Key:=if b then [Sum.inl (p.r-p.l),Sum.inl (p.b-p.t)] else [Sum.inl p.t,Sum.inl p.l,Sum.inl p.b,Sum.inl p.r]
theorem S4{b:Bool}{p q:Rk}(h:kv b p=kv b q)(u:Bool):p.len u=q.len u:=by
 cases b with
 |true =>
  have h:[Sum.inl (p.r-p.l),Sum.inl (p.b-p.t)]=([Sum.inl (q.r-q.l),Sum.inl (q.b-q.t)]:List Key):=h;injection h with h1 h2;injection h2 with h2 h3;cases u
  .exact Sum.inl.inj h2
  .exact Sum.inl.inj h1
 |false =>
  have h:[Sum.inl p.t,Sum.inl p.l,Sum.inl p.b,Sum.inl p.r]=([Sum.inl q.t,Sum.inl q.l,Sum.inl q.b,Sum.inl q.r]:List Key):=h;injection h with h1 h;injection h with h2 h;injection h with h3 h;injection h with h4 h;have h1:=Sum.inl.inj h1;have h2:=Sum.inl.inj h2;have h3:=Sum.inl.inj h3;have h4:=Sum.inl.inj h4;cases u
  .show p.b-p.t=q.b-q.t;rw[h1,h3]
  .show p.r-p.l=q.r-q.l;rw[h2,h4]
theorem EnOk.of{p q:Rk}(h:∀u,p.len u=q.len u):∀{e:En},EnOk p e->EnOk q e
 |.w _,_=>trivial
 |.c u k,z=>⟨z.1,(h u) ▸ z.2⟩
theorem ChW.of{H:Hp}{c:Addr}{p q:Rk}(h:∀u,p.len u=q.len u)(z:ChW H c p):ChW H c q:=let ⟨m,ea,en,a,b,g⟩:=z;⟨m,ea,en,a,b,g.of h⟩
def TabV(b:Bool)(H:Hp)(d:Addr)(n:Nat)(D:Rk->Prop):Prop:=∃tab:LKz,H d=some (.dT tab)/\tab.length<=n/\(∀e∈tab,∃(c:Addr)(m:Int)(x:V),e.2=.ref c/\H c=some (.tup [.int m,x]))/\∀q,D q->∃c,Cg tab (kv b q)=some (.ref c)/\ChW H c q
theorem TabV.mono{b:Bool}{H H':Hp}{d:Addr}{n:Nat}{D:Rk->Prop}(h:TabV b H d n D)(s:∀a xs,H a=some (.tup xs)->H' a=some (.tup xs))(hd:∀kvs,H d=some (.dT kvs)->H' d=some (.dT kvs)):TabV b H' d n D:=by
 obtain⟨tab,e,l,al,q⟩:=h;refine⟨tab,hd _ e,l,λ x hx=>?_,λ p hp=>?_⟩
 .obtain⟨c,m,y,e1,e2⟩:=al x hx;exact⟨c,m,y,e1,s _ _ e2⟩
 .obtain⟨c,e1,e2⟩:=q p hp;exact⟨c,e1,e2.mono s⟩
theorem TabV.same{b:Bool}{H H':Hp}{d:Addr}{n:Nat}{D:Rk->Prop}(h:TabV b H d n D)(s:Same H H'):TabV b H' d n D:=h.mono (λ_ _ e=>s _ _ e) λ_ e=>s _ _ e
theorem QT{k:List Key}{v:V}{e:List Key×V}{tab:LKz}(h:e∈D3 tab k v):e∈tab\/e.2=v:=by
 unfold D3 at h;split at h
 .obtain⟨x,hx,rfl⟩:=List.mem_map.mp h;split
  .exact .inr rfl
  .exact .inl hx
 .rcases List.mem_append.mp h with h|h
  .exact .inl h
  .rw[List.mem_singleton.mp h];exact .inr rfl
theorem Nm(k:List Key)(v:V)(tab:LKz):(D3 tab k v).length<=tab.length+1:=by
 unfold D3;split
 .rw[List.length_map];lia
 .rw[List.length_append];exact Nat.le_refl _
theorem TabV.put{b:Bool}{H:Hp}{d c:Addr}{n:Nat}{D D':Rk->Prop}{p:Rk}{tab:LKz}(e:H d=some (.dT tab))(l:tab.length<=n)(al:∀e∈tab,∃(c:Addr) (m:Int) (x:V),e.2=.ref c/\H c=some (.tup [.int m,x]))(q:∀q,D q->∃c,Cg tab (kv b q)=some (.ref c)/\ChW H c q)(hc:ChW H c p)
  (hD:∀q,D' q->kv b q=kv b p\/D q):TabV b (upd H d (.dT (D3 tab (kv b p) (.ref c)))) d (n+1) D':=by
 have s:∀a xs,H a=some (.tup xs)->(upd H d (.dT (D3 tab (kv b p) (.ref c)))) a=some (.tup xs):=λ a xs h=>by rw[Ai (λ z=>by rw[z,e]at h;cases h)];exact h
 refine⟨_,Ac,Nat.le_trans (Nm _ _ _) (by lia),λ x hx=>?_,λ r hr=>?_⟩
 .rcases QT hx with hx|hx
  .obtain⟨c,m,y,e1,e2⟩:=al x hx;exact⟨c,m,y,e1,s _ _ e2⟩
  .obtain⟨m,ea,en,a,_⟩:=hc;exact⟨c,m,_,hx,s _ _ a⟩
 .rw[OS];by_cases z:kv b r=kv b p
  .rw[if_pos z];exact⟨c,rfl,(hc.mono s).of λ u=>(S4 z u).symm⟩
  .rw[if_neg z];obtain⟨c',e1,e2⟩:=q r ((hD r hr).resolve_left z);exact⟨c',e1,e2.mono s⟩
def Pc(H:Hp)(a:Addr)(t l b r:Int):Prop:=H a=some (.tup [.int t,.int l,.int b,.int r])
inductive LM(vs:LUz)(H:Hp)(Q:VK)(E:XK):Prop
 |mk (a:Addr) (t l b r:Int) (h0:vs=[.ref a]) (h1:Pc H a t l b r) (h2:∀c H',Same H H'->H' c=some (.tup [.int (r-l),.int (b-t)])->Q (.ref c) H'):LM vs H Q E
def Eg:Sp:=λ vs H Q E=>LM vs H Q E
inductive NJ(vs:LUz)(H:Hp)(Q:VK)(E:XK):Prop
 |mk (a:Addr) (w h W T:Int) (u:Bool) (h0:vs=[.ref a,.int W,.int T,.bl u]) (h1:H a=some (.tup [.int w,.int h])) (h2:∀H',Same H H'->Q (.bl (O1 w h W T u)) H'):NJ vs H Q E
def Pj:Sp:=λ vs H Q E=>NJ vs H Q E
inductive Qv(vs:LUz)(H:Hp)(Q:VK)(E:XK):Prop
 |mk (a b:Addr) (t l o r:Int) (k:Bp) (h0:vs=[.ref a,.ref b]) (h1:Pc H a t l o r) (h2:H b=some (.tup [.int k.1,.int k.2.1,.int k.2.2.1,.bl k.2.2.2])) (h3:∀H',Same H H'->Q (.bl (ofK k (r-l) (o-t))) H'):Qv vs H Q E
def Pf:Sp:=λ vs H Q E=>Qv vs H Q E
def SV(H:Hp)(l:Addr)(cs:List (Bool×Int)):Prop:=∃ts:List (Addr×Bool×Int),H l=some (.lst (B9 ts))/\(∀t∈ts,H t.1=some (.tup [.str (wd t.2.1),.int t.2.2]))/\ts.map (·.2)=cs
inductive LU(vs:LUz)(H:Hp)(Q:VK)(E:XK):Prop
 |mk (a:Addr) (t l o r:Int) (h0:vs=[.ref a]) (h1:Pc H a t l o r) (h2:1<=r-l) (h3:r-l<=12) (h4:1<=o-t) (h5:o-t<=12) (h6:∀c H',Same H H'->SV H' c (Hu (r-l) (o-t))->Q (.ref c) H'):LU vs H Q E
def Nh:Sp:=λ vs H Q E=>LU vs H Q E
inductive LV(K:Frag)(vs:LUz)(H:Hp)(Q:VK)(E:XK):Prop
 |mk (a:Addr) (ns:List Int) (k:Int) (h0:vs=[.ref a,.int k]) (h1:SqL K H a (ns.map V.int)) (h2:0<=k) (h3:∀z,Q (.int z) H):LV K vs H Q E
def Ni(K:Frag) :Sp:=λ vs H Q E=>LV K vs H Q E
inductive LR(vs:LUz)(H:Hp)(Q:VK)(E:XK):Prop
 |mk (c n m:Int) (h0:vs=[.int c,.int n,.int m]) (h1:0<=n) (h2:n<=1000) (h3:0<m) (h4:∀r,0<=r->r<m->Q (.int r) H):LR vs H Q E
def Gk:Sp:=λ vs H Q E=>LR vs H Q E
inductive NK(vs:LUz)(H:Hp)(Q:VK)(E:XK):Prop
 |mk (a:Addr) (p:Rk) (u:Bool) (k:Int) (h0:vs=[.ref a,.str (wd u),.int k]) (h1:H a=some (.tup p.vs)) (h2:∀x,H x=none->Q (.ref x) (upd H x (.tup (p.fst u k).vs))):NK vs H Q E
def J1:Sp:=λ vs H Q E=>NK vs H Q E
inductive NG(vs:LUz)(H:Hp)(Q:VK)(E:XK):Prop
 |mk (a:Addr) (p:Rk) (u:Bool) (k:Int) (h0:vs=[.ref a,.str (wd u),.int k]) (h1:H a=some (.tup p.vs)) (h2:∀x,H x=none->Q (.ref x) (upd H x (.tup (p.oth u k).vs))):NG vs H Q E
def J0:Sp:=λ vs H Q E=>NG vs H Q E
abbrev Rc:=Int×Int×Int×Int
abbrev wR(p:Rc):Int:=p.2.2.2-p.2.1
abbrev hR(p:Rc):Int:=p.2.2.1-p.1
def InS(W T:Int)(p:Rc):Prop:=0<=p.1/\p.1<p.2.2.1/\p.2.2.1<=T/\0<=p.2.1/\p.2.1<p.2.2.2/\p.2.2.2<=W
def pA(p:Rc)(c:Bool×Int):Rc:=(p.1,p.2.1,if c.1=true then p.2.2.1 else p.1+c.2,if c.1=true then p.2.1+c.2 else p.2.2.2)
def pB(p:Rc)(c:Bool×Int):Rc:=(if c.1=true then p.1 else p.1+c.2,if c.1=true then p.2.1+c.2 else p.2.1,p.2.2.1,p.2.2.2)
structure Va(W T:Int)(p:Rc)(c:Bool×Int):Prop where
 a:InS W T (pA p c)
 b:InS W T (pB p c)
 la:wR (pA p c)+hR (pA p c)<wR p+hR p
 lb:wR (pB p c)+hR (pB p c)<wR p+hR p
 ma:hR (pA p c)*wR (pA p c)<hR p*wR p
 mb:hR (pB p c)*wR (pB p c)<hR p*wR p
theorem SJ{W T:Int}{p:Rc}{c:Bool×Int}(h:InS W T p)(hc:c∈Hu (wR p) (hR p)):Va W T p c:=by
 obtain⟨t,l,b,r⟩:=p;obtain⟨u,k⟩:=c;obtain⟨h1,h2,h3,h4,h5,h6⟩:=h;simp only at h1 h2 h3 h4 h5 h6;rcases Lk hc with ⟨e,a1,a2⟩|⟨e,a1,a2⟩
 .have e:u=true:=e;subst e;have a1:1<=k:=a1;have a2:k<r-l:=a2;have m1:(b-t)*k<(b-t)*(r-l):=Int.mul_lt_mul_of_pos_left a2 (by lia);have m2:(b-t)*(r-l-k)<(b-t)*(r-l):=Int.mul_lt_mul_of_pos_left (by lia) (by lia);refine⟨⟨h1,h2,h3,h4,by show l<l+k;lia,by show l+k<=W;lia⟩,⟨h1,h2,h3,by show 0<=l+k;lia,by show l+k<r;lia,h6⟩,by show l+k-l+(b-t)<r-l+(b-t);lia,by show r-(l+k)+(b-t)<r-l+(b-t);lia,?_,?_⟩
  .show(b-t)*(l+k-l)<(b-t)*(r-l);rw[show l+k-l=k from by lia];exact m1
  .show(b-t)*(r-(l+k))<(b-t)*(r-l);rw[show r-(l+k)=r-l-k from by lia];exact m2
 .have e:u=false:=e;subst e;have a1:1<=k:=a1;have a2:k<b-t:=a2;have m1:k*(r-l)<(b-t)*(r-l):=Int.mul_lt_mul_of_pos_right a2 (by lia);have m2:(b-t-k)*(r-l)<(b-t)*(r-l):=Int.mul_lt_mul_of_pos_right (by lia) (by lia);refine⟨⟨h1,by show t<t+k;lia,by show t+k<=T;lia,h4,h5,h6⟩,⟨by show 0<=t+k;lia,by show t+k<b;lia,h3,h4,h5,h6⟩,by show r-l+(t+k-t)<r-l+(b-t);lia,by show r-l+(b-(t+k))<r-l+(b-t);lia,?_,?_⟩
  .show(t+k-t)*(r-l)<(b-t)*(r-l);rw[show t+k-t=k from by lia];exact m1
  .show(b-(t+k))*(r-l)<(b-t)*(r-l);rw[show b-(t+k)=b-t-k from by lia];exact m2
def TN(s:Int×Int)(p:Rc):Bool:=(decide (p.1<=s.1)&&decide (s.1<p.2.2.1))&&(decide (p.2.1<=s.2)&&decide (s.2<p.2.2.2))
def Bw(n:Nat):List (Int×Int):=(List.range n).flatMap λ b:Nat=>(List.range (n-b)).map λ e:Nat=>((b:Int),(b:Int)+1+(e:Int))
theorem mem_runs{n:Nat}{p:Int×Int}:p∈Bw n↔0<=p.1/\p.1<p.2/\p.2<=n:=by
 unfold Bw;rw[List.mem_flatMap]
 constructor
 .rintro⟨b,hb,hp⟩;obtain⟨e,he,rfl⟩:=List.mem_map.mp hp;have:=List.mem_range.mp hb;have:=List.mem_range.mp he;exact⟨by show(0:Int)<=(b:Int);lia,by show(b:Int)<(b:Int)+1+(e:Int);lia,by show(b:Int)+1+(e:Int)<=n;lia⟩
 .obtain⟨x,y⟩:=p;rintro⟨a,b,c⟩;have a:0<=x:=a;have b:x<y:=b;have c:y<=n:=c;refine⟨x.toNat,List.mem_range.mpr (by lia),List.mem_map.mpr ⟨(y-x-1).toNat,List.mem_range.mpr (by lia),?_⟩⟩;exact Prod.ext (by show((x.toNat:Nat):Int)=x;lia) (by show((x.toNat:Nat):Int)+1+(((y-x-1).toNat:Nat):Int)=y;lia)
def DO(W T:Nat):List Rc:=(Bw T).flatMap λ v=>(Bw W).map λ h=>(v.1,h.1,v.2,h.2)
theorem Oo{W T:Nat}{p:Rc}:p∈DO W T↔InS W T p:=by
 unfold DO;rw[List.mem_flatMap]
 constructor
 .rintro⟨v,hv,hp⟩;obtain⟨h,hh,rfl⟩:=List.mem_map.mp hp;obtain⟨a1,a2,a3⟩:=mem_runs.mp hv;obtain⟨b1,b2,b3⟩:=mem_runs.mp hh;exact⟨a1,a2,a3,b1,b2,b3⟩
 .rintro⟨a1,a2,a3,b1,b2,b3⟩;exact⟨(p.1,p.2.2.1),mem_runs.mpr ⟨a1,a2,a3⟩,List.mem_map.mpr ⟨(p.2.1,p.2.2.2),mem_runs.mpr ⟨b1,b2,b3⟩,rfl⟩⟩
theorem KC{n:Nat}(h:n<=7):(Bw n).length<=28:=by
 have:∀n:Fin 8,(Bw n.1).length<=28:=by decide +kernel
 exact this ⟨n,by lia⟩
theorem IL{W T:Nat}(h1:W<=7)(h2:T<=7):(DO W T).length<=784:=by
 have:∀W:Fin 8,∀T:Fin 8,(DO W.1 T.1).length<=784:=by decide +kernel
 exact this ⟨W,by lia⟩ ⟨T,by lia⟩
def Uk(H:Hp)(a:Addr)(ps:List Rc):Prop:=∃ts:List (Addr×Rc),H a=some (.lst (B9 ts))/\(∀t∈ts,Pc H t.1 t.2.1 t.2.2.1 t.2.2.2.1 t.2.2.2.2)/\ts.map (·.2)=ps
inductive LY(vs:LUz)(H:Hp)(Q:VK)(E:XK):Prop
 |mk (a:Addr) (p:Rc) (h0:vs=[.ref a]) (h1:Pc H a p.1 p.2.1 p.2.2.1 p.2.2.2) (h2:0<=hR p) (h3:hR p<=100) (h4:0<=wR p) (h5:wR p<=100) (h6:Q (.int (hR p*wR p)) H):LY vs H Q E
def Nj:Sp:=λ vs H Q E=>LY vs H Q E
inductive LN(vs:LUz)(H:Hp)(Q:VK)(E:XK):Prop
 |mk (n:Int) (h0:vs=[.int n]) (h1:0<=n) (h2:n<=7) (h3:∀c H',Same H H'->H c=none->SizesAt H' c (Bw n.toNat)->Q (.ref c) H'):LN vs H Q E
def Nc:Sp:=λ vs H Q E=>LN vs H Q E
inductive NE(vs:LUz)(H:Hp)(Q:VK)(E:XK):Prop
 |mk (W T:Int) (h0:vs=[.int W,.int T]) (h1:0<=W) (h2:W<=7) (h3:0<=T) (h4:T<=7) (h5:∀c H',Same H H'->Uk H' c (DO W.toNat T.toNat)->Q (.ref c) H'):NE vs H Q E
def Pe:Sp:=λ vs H Q E=>NE vs H Q E
inductive LO(vs:LUz)(H:Hp)(Q:VK)(E:XK):Prop
 |mk (a b:Addr) (s:Int×Int) (p:Rc) (h0:vs=[.ref a,.ref b]) (h1:H a=some (.tup [.int s.1,.int s.2])) (h2:Pc H b p.1 p.2.1 p.2.2.1 p.2.2.2) (h3:Q (.bl (TN s p)) H):LO vs H Q E
def Nd:Sp:=λ vs H Q E=>LO vs H Q E
inductive HQ(vs:LUz)(H:Hp)(Q:VK)(E:XK):Prop
 |mk (v:V) (h0:vs=[v]) (h1:Q v H):HQ vs H Q E
def Eh:Sp:=λ vs H Q E=>HQ vs H Q E
theorem C8{H:Hp}{x acc:Addr}{xs ys zs:LUz}(e:H x=some (.tup xs))(ha:H acc=some (.lst ys)):(upd H acc (.lst zs)) x=some (.tup xs):=by
 rw[Ai (λ z=>by rw[z,ha]at e;cases e)];exact e
theorem Rh{w h:Int}{b:Bool}{k:Int}(h1:1<=k)(h2:k<if b=true then w else h):(b,k)∈Hu w h:=by
 unfold Hu;cases b with
 |true =>
  rw[if_pos rfl]at h2;exact List.mem_append_left _ (List.mem_map.mpr ⟨k,mem_upto.mpr ⟨h1,by lia⟩,rfl⟩)
 |false =>
  rw[if_neg Bool.false_ne_true]at h2;exact List.mem_append_right _ (List.mem_map.mpr ⟨k,mem_upto.mpr ⟨h1,by lia⟩,rfl⟩)
def Db:Sp:=λ vs H Q _=>∃v,vs=[v]/\Ty H v/\Q (.bl (DH v)) H
def Du:Sp:=λ vs H Q _=>∃v,vs=[v]/\Ty H v/\Q (.bl (Ay v)) H
def Ng:Sp:=λ vs H Q _=>∃v g,vs=[v]/\KTh H v g/\Q (.bl g.isSome) H
inductive Qu(vs:LUz)(H:Hp)(Q:VK)(E:XK):Prop
 |mk (v:V) (W T:Int) (g:Option (Int×Int)) (h0:vs=[v,.int W,.int T]) (h1:FTh W T H v g) (h2:Q (.bl g.isSome) H):Qu vs H Q E
def RD:Sp:=λ vs H Q E=>Qu vs H Q E
inductive Jn(cc:Cc)(f:V->Bool)(vs:LUz)(H:Hp)(Q:VK)(E:XK):Prop
 |mk (a b:V) (h0:vs=[a,b]) (h1:Ty H a) (h2:Ty H b) (h3:(∀v,DG f a b=some v->RfC cc H E (.I,v))) (h4:(DG f a b=none->∀H',Same H H'->Q .non H')):Jn cc f vs H Q E
def Dc(cc:Cc)(f:V->Bool) :Sp:=λ vs H Q E=>Jn cc f vs H Q E
inductive Js(cc:Cc)(vs:LUz)(H:Hp)(Q:VK)(E:XK):Prop
 |mk (a:Addr) (xs:LUz) (gs:List (Option Bp)) (h0:vs=[.ref a]) (h1:H a=some (.lst xs)) (h2:Ths KTh H xs gs) (h3:gs.length<=100) (h4:(∀r,Bi 8 .K gs=some r->RfC cc H E r)) (h5:(Bi 8 .K gs=none->∀H',Same H H'->Q .non H')):Js cc vs H Q E
def EV(cc:Cc) :Sp:=λ vs H Q E=>Js cc vs H Q E
inductive NO(cc:Cc)(vs:LUz)(H:Hp)(Q:VK)(E:XK):Prop
 |mk (a:Addr) (W T:Int) (xs:LUz) (gs:List (Option (Int×Int))) (h0:vs=[.ref a,.int W,.int T]) (h1:H a=some (.lst xs)) (h2:Ths (FTh W T) H xs gs) (h3:gs.length<=100) (h4:(∀r,Bi 49 .F gs=some r->RfC cc H E r)) (h5:(Bi 49 .F gs=none->∀H',Same H H'->Q .non H')):NO cc vs H Q E
def Pl(cc:Cc) :Sp:=λ vs H Q E=>NO cc vs H Q E
inductive Jm(vs:LUz)(H:Hp)(Q:VK)(E:XK):Prop
 |mk (a b:Addr) (p:Rk) (ks:List Bp) (h0:vs=[.ref a,.ref b]) (h1:H a=some (.tup p.vs)) (h2:KindsAt H b ks) (h3:ks.length<=8) (h4:∀c H',Same H H'->ChW H' c p->Q (.ref c) H'):Jm vs H Q E
def G4:Sp:=λ vs H Q E=>Jm vs H Q E
inductive HR(vs:LUz)(H:Hp)(Q:VK)(E:XK):Prop
 |mk (a b d:Addr) (p:Rk) (ks:List Bp) (fl:List (Int×Int)) (h0:vs=[.ref a,.ref b,.ref d]) (h1:H a=some (.tup p.vs)) (h2:KindsAt H b ks) (h3:ks.length<=8) (h4:SizesAt H d fl) (h5:fl.length<=49) (h6:∀c H',Same H H'->ChW H' c p->Q (.ref c) H'):HR vs H Q E
def IH:Sp:=λ vs H Q E=>HR vs H Q E
inductive Q0(mg:MGz)(vs:LUz)(H:Hp)(Q:VK)(E:XK):Prop
 |mk (b:Bool) (a u d fk:Addr) (p:Rk) (n:Nat) (D:Rk->Prop) (h0:vs=[.ref a,.ref u,.ref d,.ref fk]) (h1:mg (kn b)=some (.ref fk)) (h2:H a=some (.tup p.vs)) (h3:ChW H u p) (h4:TabV b H d n D) (h5:(1<=p.len true/\p.len true<=12)) (h6:(1<=p.len false/\p.len false<=12)) (h7:(∀c k,1<=k->k<p.len c->D (p.fst c k)/\D (p.oth c k))) (h8:∀c H',Same H H'->ChW H' c p->Q (.ref c) H'):Q0 mg vs H Q E
def Pm(mg:MGz) :Sp:=λ vs H Q E=>Q0 mg vs H Q E
inductive NI(b:Bool)(vs:LUz)(H:Hp)(Q:VK)(E:XK):Prop
 |mk (a:Addr) (p:Rk) (h0:vs=[.ref a]) (h1:H a=some (.tup p.vs)) (h2:∀c H',Same H H'->H' c=some (.tup ((kv b p).map kV))->Q (.ref c) H'):NI b vs H Q E
def Pg(b:Bool) :Sp:=λ vs H Q E=>NI b vs H Q E
inductive Qw(vs:LUz)(H:Hp)(Q:VK)(E:XK):Prop
 |mk (b:Bool) (d:Addr) (n:Nat) (D:Rk->Prop) (h0:vs=[.ref d]) (h1:TabV b H d n D) (h2:n<=784) (h3:∀v H',SameX d H H'->Q v H'):Qw vs H Q E
def Ph:Sp:=λ vs H Q E=>Qw vs H Q E
inductive NM(cc:Cc)(vs:LUz)(H:Hp)(Q:VK)(E:XK):Prop
 |mk (v1 v2:V) (b:Addr) (xs:LUz) (gs:List (Option Bp)) (h0:vs=[v1,v2,.ref b]) (h1:Ty H v1) (h2:Ty H v2) (h3:H b=some (.lst xs)) (h4:Ths KTh H xs gs) (h5:gs.length<=100) (h6:(∀r,C6 Ay v1 v2 gs=some r->RfC cc H E r)) (h7:∀w h:Int,v1=.int w->v2=.int h->1<=w->w<=12->1<=h->h<=12->C6 Ay v1 v2 gs=none->∀d H',Same H H'->H d=none->TabV true H' d 144 (λ q=>(1<=q.len true/\q.len true<=w)/\1<=q.len false/\q.len false<=h)->Q (.ref d) H'):NM cc vs H Q E
def Me(cc:Cc) :Sp:=λ vs H Q E=>NM cc vs H Q E
def Ie(v1 v2:V)(gs:List (Option Bp))(hs:List (Option (Int×Int))):Option (Cl×V):=(C6 AO v1 v2 gs).or (Bi 49 .F hs)
def InR(W T:Int)(p:Rk):Prop:=0<=p.t/\p.t<p.b/\p.b<=T/\0<=p.l/\p.l<p.r/\p.r<=W
inductive NN(cc:Cc)(vs:LUz)(H:Hp)(Q:VK)(E:XK):Prop
 |mk (v1 v2:V) (b e:Addr) (xs ys:LUz) (gs:List (Option Bp)) (hs:List (Option (Int×Int))) (W T:Int) (h0:vs=[v1,v2,.ref b,.ref e]) (h1:Ty H v1) (h2:Ty H v2) (h3:H b=some (.lst xs)) (h4:Ths KTh H xs gs) (h5:gs.length<=100) (h6:H e=some (.lst ys)) (h7:Ths (FTh W T) H ys hs) (h8:hs.length<=100) (h9:(AO v1=true->v1=.int W)) (h10:(AO v2=true->v2=.int T)) (h11:(∀r,Ie v1 v2 gs hs=some r->RfC cc H E r)) (h12:(v1=.int W->v2=.int T->1<=W->W<=7->1<=T->T<=7->Ie v1 v2 gs hs=none->∀d H',Same H H'->H d=none->TabV false H' d 784 (InR W T)->Q (.ref d) H')):NN cc vs H Q E
def Mf(cc:Cc) :Sp:=λ vs H Q E=>NN cc vs H Q E
structure Txt(mg:MGz)(tk:Tok×Tok×Tok×Tok×Tok×Tok×Tok×Tok×Addr×Addr):Prop where
 z_isinstance:mg "isinstance"=none
 z_int:mg "int"=none
 z_bool:mg "bool"=none
 z_tuple:mg "tuple"=none
 z_list:mg "list"=none
 z_len:mg "len"=none
 z_enumerate:mg "enumerate"=none
 z_range:mg "range"=none
 z_any:mg "any"=none
 z_sorted:mg "sorted"=none
 z_sum:mg "sum"=none
 z_reversed:mg "reversed"=none
 z_min:mg "min"=none
 g_LONGEST_SIDE:mg "LONGEST_SIDE"=some (.int 12 tk.1)
 g_MOST_KINDS:mg "MOST_KINDS"=some (.int 8 tk.2.1)
 g_GREATEST_WORTH:mg "GREATEST_WORTH"=some (.int 1000000000 tk.2.2.1)
 g_WHOLE:mg "WHOLE"=some (.str "whole" tk.2.2.2.1)
 g_UPRIGHT:mg "UPRIGHT"=some (.str "upright" tk.2.2.2.2.1)
 g_LEVEL:mg "LEVEL"=some (.str "level" tk.2.2.2.2.2.1)
 g_LONGEST_FLAWED:mg "LONGEST_FLAWED"=some (.int 7 tk.2.2.2.2.2.2.1)
 g_MOST_FLAWS:mg "MOST_FLAWS"=some (.int 49 tk.2.2.2.2.2.2.2.1)
 g_itself:mg "itself"=some (.ref tk.2.2.2.2.2.2.2.2.1)
 g_size_of:mg "size_of"=some (.ref tk.2.2.2.2.2.2.2.2.2)
section
variable{P:Program}{w:World}{K:Frag}{mg:MGz}{base:Heap}{tk:Tok×Tok×Tok×Tok×Tok×Tok×Tok×Tok×Addr×Addr}{cT cW cU cL:Addr}{cc:Cc}
theorem Nz{T:String}(h:T≠"tuple"):isB T "tuple"=false:=by
 unfold isB;rw[decide_eq_false h];simp
theorem TX{n m:Nat}:(!decide (V.int (n:Int)=V.int (m:Int)))=true->n≠m:=λ h e=>by
 subst e;have:decide (V.int (n:Int)=V.int (n:Int))=true:=decI.mpr rfl;rw[this]at h;cases h
theorem RV{n m:Nat}:(!decide (V.int (n:Int)=V.int (m:Int)))=false->n=m:=λ h=>by
 have e:decide (V.int (n:Int)=V.int (m:Int))=true:=by
  cases z:decide (V.int (n:Int)=V.int (m:Int)) with
  |true=>rfl
  |false=>rw[z]at h;cases h
 have:=decI.mp e;lia
theorem Rg{H:Hp}{v:V}{T:String}(h:tyS H v=some T):isB T "bool"=Oz v:=by
 cases v with
 |bl c=>cases h;exact(by decide:isB "bool" "bool"=true)
 |ref x =>
  have key:T="list"\/T="tuple"\/T="dict":=by
   have h:tyO (H x)=some T:=h;unfold tyO at h;split at h<;>first|(cases h;simp)|cases h
  rcases key with rfl|rfl|rfl
  .exact(by decide:isB "list" "bool"=false)
  .exact(by decide:isB "tuple" "bool"=false)
  .exact(by decide:isB "dict" "bool"=false)
 |non=>cases h;exact(by decide:isB "NoneType" "bool"=false)
 |int i=>cases h;exact(by decide:isB "int" "bool"=false)
 |str x=>cases h;exact(by decide:isB "str" "bool"=false)
 |byt b=>cases h
 |flt b=>cases h
 |ty n=>cases h
theorem MT:Ak ["thing"] ["thing"] (Ag E8):=fsc
theorem La{f:Addr}{fd:FuncData}(F:Fun K "is_whole" "is_whole" E8 f fd)(T:Txt mg tk):FnOk P w K mg base CX0 1 f fd ["thing"] Db:=by
 have S:=MT;refine F.ok S (λ vs H Q E h=>?_) (λ cdv A outer s H vs Q E hr h=>?_)
 .obtain⟨v,rfl,_⟩:=h;rfl
 .obtain⟨v,rfl,⟨T',hT⟩,q⟩:=h;refine⟨_,(Ae (Am (Cz (Aw B4 rfl T.z_isinstance rfl (Aa (pv 0) (Aa (Ci (v:=.ty "int") rfl T.z_int rfl rfl) Ab))) (D4 (Px (Aw B4 rfl T.z_isinstance rfl (Aa (pv 0) (Aa (Ci (v:=.ty "bool") rfl T.z_bool rfl rfl) Ab)))))))),?_⟩;refine⟨v,rfl,v,T',"int",rfl,hT,.inl rfl,_,rfl,AG (λ h=>?_) (λ h=>?_)⟩
  .refine⟨v,rfl,v,T',"bool",rfl,hT,.inr (.inl rfl),_,rfl,?_⟩;rw[(Gx hT).1 h];exact q
  .show Q (.bl false) H;rw[(Gx hT).2 h];exact q
theorem OJ:Ak ["thing"] ["thing"] (Ag Fx):=fsc
theorem Mt{f:Addr}{fd:FuncData}(F:Fun K "is_side" "is_side" Fx f fd)(T:Txt mg tk)(D_is_whole:DefOk P w K mg base 1 "is_whole" ["thing"] Db):FnOk P w K mg base CX0 2 f fd ["thing"] Du:=by
 have S:=OJ;refine F.ok S (λ vs H Q E h=>?_) (λ cdv A outer s H vs Q E hr h=>?_)
 .obtain⟨v,rfl,_⟩:=h;rfl
 .obtain⟨v,rfl,hv,q⟩:=h;refine⟨_,(Ae (Am (Cz (Au D_is_whole hr (Aa (pv 0) Ab)) (D4 (BW DD DD Ad (pv 0) (Al (v:=.int 12) rfl T.g_LONGEST_SIDE ⟨_,rfl⟩)))))),?_⟩;refine⟨v,rfl,v,rfl,hv,_,rfl,AG (λ h=>?_) (λ h=>?_)⟩
  .obtain⟨i,rfl⟩:∃i,v=.int i:=by cases v<;>first|exact⟨_,rfl⟩|cases h
   refine⟨_,rfl,_,_,rfl,rfl,_,rfl,AG (λ h1=>?_) (λ h1=>?_)⟩
   .refine⟨_,_,rfl,rfl,?_⟩;have e:Ay (.int i)=decide (i<=12):=by
     show(decide (1<=i)&&decide (i<=12))=_;rw[h1];rfl
    show Q (.bl (decide (i<=12))) H;rw[<-e];exact q
   .have e:Ay (.int i)=false:=by
     show(decide (1<=i)&&decide (i<=12))=_;rw[h1];rfl
    show Q (.bl false) H;rw[<-e];exact q
  .have e:Ay v=false:=by cases v<;>first|rfl|cases h
   show Q (.bl false) H;rw[<-e];exact q
theorem Iq:Ak ["width","height","side"] ["width","height"] (Ag CL):=fsc
theorem GR{f:Addr}{fd:FuncData}(F:Fun K "check_sides" "check_sides" CL f fd)(X_NoSide:Cf P w K mg base 1 "NoSide" (cc .I) ["self","side"] ["side"])(D_is_side:DefOk P w K mg base 2 "is_side" ["thing"] Du) :
  FnOk P w K mg base (CX1 P w) 3 f fd ["width","height"] (Dc cc Ay):=by
 have S:=Iq;refine F.okx S (λ vs H Q E h=>?_) (λ cdv A outer s H vs Q E hr h=>?_)
 .obtain⟨a,p,rfl,_⟩:=h;rfl
 .obtain⟨a,b,rfl,ta,tb,r,q⟩:=h;have r1:Ay a=false->RfC cc H E (.I,a):=λ c=>r _ (by unfold DG;rw[c];rfl);have r2:Ay a=true->Ay b=false->RfC cc H E (.I,b):=λ c d=>r _ (by unfold DG;rw[c,d];rfl);refine⟨_,(Ae (Bh D6 rfl (JG (A3 (Aa (pv 0) (Aa (pv 1) Ab)))) (Aq (i:=2) S.nd rfl (Or.inl rfl)) (Ae (AC (Bx (Bg (Au D_is_side hr (Aa (pv 2) Ab)))) (Ae (BV AE X_NoSide hr (Aa (pv 2) Ab))) Ax)))),?_⟩;refine⟨_,rfl,_,rfl,As 2,λ t ht=>⟨t,rfl,⟨_,SqT.of Ac⟩,JZ (K:=K) (a:=t) (xs:=[a,b]) (λ i σ H'=>(∃y,σ=[some a,some b,y])/\H'=upd H t (.tup [a,b])/\(0<i->Ay a=true)/\(1<i->Ay b=true)) ⟨⟨none,rfl⟩,rfl,(λ z=>absurd z (by decide)),λ z=>absurd z (by decide)⟩ (λ i σ H' _ hp=>by rw[hp.2.1];exact SqT.of Ac) ?_ ?_⟩⟩
  .rintro i x σ H' hx ⟨⟨y,rfl⟩,rfl,h0,h1⟩;have s1:Same H (upd H t (.tup [a,b])):=Same.new ht
   match i,hx with
   |0,hx =>
    cases hx;refine⟨_,rfl,a,rfl,ta.same s1,_,rfl,AG (λ hb=>?_) λ hb=>?_⟩
    .have hb:Ay a=false:=by simpa using hb
     exact⟨_,rfl,rfl,λ y dx T H2 hy s2 e ed nd hT nT=>(r1 hb).raise s1 hy s2 e ed nd hT rfl⟩
    .exact⟨⟨_,rfl⟩,rfl,λ_=>by simpa using hb,λ z=>absurd z (by lia)⟩
   |1,hx =>
    cases hx;refine⟨_,rfl,b,rfl,tb.same s1,_,rfl,AG (λ hb=>?_) λ hb=>?_⟩
    .have hb:Ay b=false:=by simpa using hb
     exact⟨_,rfl,rfl,λ y dx T H2 hy s2 e ed nd hT nT=>(r2 (h0 (by lia)) hb).raise s1 hy s2 e ed nd hT rfl⟩
    .exact⟨⟨_,rfl⟩,rfl,λ_=>h0 (by lia),λ_=>by simpa using hb⟩
   |i+2,hx=>cases hx
  .rintro σ H' ⟨⟨y,rfl⟩,rfl,h0,h1⟩;exact q (by unfold DG;rw[h0 (by show 0<2;decide),h1 (by show 1<2;decide)];rfl) _ (Same.new ht)
theorem OF:Ak ["rectangle"] ["rectangle"] (Ag Fu):=fsc
theorem Mp{f:Addr}{fd:FuncData}(F:Fun K "size_of" "size_of" Fu f fd):FnOk P w K mg base CX0 1 f fd ["rectangle"] Eg:=by
 have S:=OF;refine F.ok S (λ vs H Q E h=>?_) (λ cdv A outer s H vs Q E hr h=>?_)
 .obtain⟨a,t,l,b,r,rfl,_⟩:=h;rfl
 .obtain⟨a,t,l,b,r,rfl,ha,q⟩:=h;refine⟨_,(Ae (Am (A3 (Aa (Az EE (Ao An (pv 0) Ad (λ_ _=>rfl)) (Ao An (pv 0) Ad (λ_ _=>rfl))) (Aa (Az EE (Ao An (pv 0) Ad (λ_ _=>rfl)) (Ao An (pv 0) Ad (λ_ _=>rfl))) Ab))))),?_⟩;exact⟨_,rfl,a,_,_,_,rfl,rfl,SqT.of ha,L7,_,rfl,a,_,_,_,rfl,rfl,SqT.of ha,L8,_,_,rfl,rfl,_,rfl,a,_,_,_,rfl,rfl,SqT.of ha,Hw,_,rfl,a,_,_,_,rfl,rfl,SqT.of ha,L9,_,_,rfl,rfl,As 2,λ p np=>q p _ (Same.new np) Ac⟩
theorem ON:Ak ["rectangle"] ["rectangle"] (Ag F1):=fsc
theorem Mx{f:Addr}{fd:FuncData}(F:Fun K "area_of" "area_of" F1 f fd):FnOk P w K mg base CX0 1 f fd ["rectangle"] Nj:=by
 have S:=ON;refine F.ok S (λ vs H Q E h=>?_) (λ cdv A outer s H vs Q E hr h=>?_)
 .obtain⟨a,p,rfl,_⟩:=h;rfl
 .obtain⟨a,p,rfl,ha,h1,h2,h3,h4,q⟩:=h
  replace h1:0<=p.2.2.1-p.1:=h1
  replace h2:p.2.2.1-p.1<=100:=h2
  replace h3:0<=p.2.2.2-p.2.1:=h3
  replace h4:p.2.2.2-p.2.1<=100:=h4
  refine⟨_,(Ae (Am (Az CB (Az EE (Ao An (pv 0) Ad (λ_ _=>rfl)) (Ao An (pv 0) Ad (λ_ _=>rfl))) (Az EE (Ao An (pv 0) Ad (λ_ _=>rfl)) (Ao An (pv 0) Ad (λ_ _=>rfl)))))),?_⟩;exact⟨_,rfl,a,_,_,_,rfl,rfl,SqT.of ha,Hw,_,rfl,a,_,_,_,rfl,rfl,SqT.of ha,L9,_,_,rfl,rfl,_,rfl,a,_,_,_,rfl,rfl,SqT.of ha,L7,_,rfl,a,_,_,_,rfl,rfl,SqT.of ha,L8,_,_,rfl,rfl,_,_,rfl,rfl,FT (by lia) (by lia) (by lia) (by lia),q⟩
theorem OL:Ak ["thing"] ["thing"] (Ag Fz):=fsc
theorem Re{xs:LUz}(h:xs.length≠4):Hg xs=false:=by
 unfold Hg;split
 .exact absurd rfl h
 .rfl
theorem Tk{W T:Int}{xs:LUz}(h:xs.length≠2):sqB W T xs=false:=by
 unfold sqB;split
 .exact absurd rfl h
 .rfl
theorem EW{v:V}(h:Ay v=false):AO v=false:=by
 cases v with
 |int i =>
  have h:(decide (1<=i)&&decide (i<=12))=false:=h;show(decide (1<=i)&&decide (i<=12)&&decide (i<=7))=false;rw[h];rfl
 |_=>rfl
theorem G6{i:Int}(h:7<i):AO (.int i)=false:=by
 show(decide (1<=i)&&decide (i<=12)&&decide (i<=7))=false;rw[decide_eq_false (p:=i<=7) (by lia),Bool.and_false]
theorem DJ{i:Int}(h:1<=i)(h2:¬7<i):AO (.int i)=true:=by
 show(decide (1<=i)&&decide (i<=12)&&decide (i<=7))=true;rw[decide_eq_true h,decide_eq_true (p:=i<=12) (by lia),decide_eq_true (p:=i<=7) (by lia)];rfl
theorem Ee{v:V}(h:DH v=true):∃i,v=.int i:=by cases v<;>first|exact⟨_,rfl⟩|cases h
theorem Mv{f:Addr}{fd:FuncData}(F:Fun K "is_kind" "is_kind" Fz f fd)(T:Txt mg tk)(D_is_whole:DefOk P w K mg base 1 "is_whole" ["thing"] Db)(D_is_side:DefOk P w K mg base 2 "is_side" ["thing"] Du):FnOk P w K mg base CX0 3 f fd ["thing"] Ng:=by
 have S:=OL;refine F.ok S (λ vs H Q E h=>?_) (λ cdv A outer s H vs Q E hr h=>?_)
 .obtain⟨v,g,rfl,_⟩:=h;rfl
 .obtain⟨v,g,rfl,hv,q⟩:=h;refine⟨_,(Af (AC (PW.pt (DQ (Bx (Bg (Aw B4 rfl T.z_isinstance rfl (Aa (pv 0) (Aa (Ci (v:=.ty "tuple") rfl T.z_tuple rfl rfl) Ab))))) (CT (Ap Nq (Aw AA rfl T.z_len rfl (Aa (pv 0) Ab)) Ad (Av _))))) (Ae (Am DS)) Ax)
   (Af (AC (PW.pt (DQ (Bx (Bg (Au D_is_side hr (Aa (Ao An (pv 0) Ad (λ_ _=>rfl)) Ab)))) (CT (Bx (Bg (Au D_is_side hr (Aa (Ao An (pv 0) Ad (λ_ _=>rfl)) Ab))))))) (Ae (Am DS)) Ax)
   (Ae (Am (Cz (Au D_is_whole hr (Aa (Ao An (pv 0) Ad (λ_ _=>rfl)) Ab)) (Cz (BW DD DD Ad (Ao An (pv 0) Ad (λ_ _=>rfl)) (Al (v:=.int 1000000000) rfl T.g_GREATEST_WORTH ⟨_,rfl⟩)) (D4 (Aw B4 rfl T.z_isinstance rfl (Aa (Ao An (pv 0) Ad (λ_ _=>rfl)) (Aa (Ci (v:=.ty "bool") rfl T.z_bool rfl rfl) Ab)))))))))),?_⟩
  rcases hv.two with ⟨a,xs,rfl,ha,hz,ht,hb⟩|⟨T',hT,hne,hb⟩
  .rw[<-hb]at q;refine⟨_,rfl,.ref a,"tuple","tuple",rfl,G0 ha,.inr (.inr (.inl rfl)),_,rfl,BD (by rw[PK];rfl) ?_⟩;refine⟨_,rfl,a,_,rfl,.inr (SqT.of ha),rfl,_,rfl,AG (λ h=>?_) (λ h=>?_)⟩
   .show Q (.bl false) H;rw[Re (TX (m:=4) h)]at q;exact q
   .obtain⟨x,y,z,u,rfl⟩:=UM (RV (m:=4) h);simp only[List.mem_cons,List.not_mem_nil,or_false,forall_eq_or_imp,forall_eq]at ht;obtain⟨tx,ty,tz,tu⟩:=ht;have q:Q (.bl ((Ay x&&Ay y)&&(Gw z&&Oz u))) H:=q;refine⟨_,rfl,a,_,_,_,rfl,rfl,SqT.of ha,L9,x,rfl,tx,_,rfl,AG (λ h1=>?_) (λ h1=>?_)⟩
    .have h1:Ay x=false:=by simpa using h1
     refine E2 ?_;show Q (.bl false) H;rw[h1]at q;exact q
    have h1:Ay x=true:=by simpa using h1
    rw[h1]at q;refine⟨_,rfl,a,_,_,_,rfl,rfl,SqT.of ha,L8,y,rfl,ty,_,rfl,AG (λ h2=>?_) (λ h2=>?_)⟩
    .have h2:Ay y=false:=by simpa using h2
     show Q (.bl false) H;rw[h2]at q;exact q
    have h2:Ay y=true:=by simpa using h2
    rw[h2]at q;have q:Q (.bl (Gw z&&Oz u)) H:=q;refine⟨_,rfl,a,_,_,_,rfl,rfl,SqT.of ha,Hw,z,rfl,tz,_,rfl,AG (λ h3=>?_) (λ h3=>?_)⟩
    .obtain⟨m,rfl⟩:=Ee h3;have q:Q (.bl ((decide (0<=m)&&decide (m<=1000000000))&&Oz u)) H:=q;refine⟨_,rfl,a,_,_,_,rfl,rfl,SqT.of ha,Hw,_,_,rfl,rfl,_,rfl,AG (λ h4=>?_) (λ h4=>?_)⟩
     .replace h4:decide (0<=m)=true:=h4
      rw[h4]at q;refine⟨_,_,rfl,rfl,_,rfl,AG (λ h5=>?_) (λ h5=>?_)⟩
      .replace h5:decide (m<=1000000000)=true:=h5
       rw[h5]at q;obtain⟨Tu,hTu⟩:=tu;refine⟨_,rfl,a,_,_,_,rfl,rfl,SqT.of ha,L7,u,Tu,"bool",rfl,hTu,.inr (.inl rfl),?_⟩;rw[Rg hTu];exact q
      .replace h5:decide (m<=1000000000)=false:=h5
       rw[h5]at q;exact q
     .replace h4:decide (0<=m)=false:=h4
      rw[h4]at q;exact⟨_,rfl,Fe q⟩
    .have e:Gw z=false:=by cases z<;>first|rfl|cases h3
     show Q (.bl false) H;rw[e]at q;exact q
  .rw[<-hb]at q;exact⟨_,rfl,_,T',"tuple",rfl,hT,.inr (.inr (.inl rfl)),_,rfl,Cd (by rw[Nz hne];rfl) (E2 q)⟩
theorem Ir:Ak ["kinds","place","kind"] ["kinds"] (Ag CM):=fsc
theorem GS{f:Addr}{fd:FuncData}(F:Fun K "check_kinds" "check_kinds" CM f fd)(T:Txt mg tk)(X_TooMany:Cf P w K mg base 1 "TooMany" (cc .M) ["self","many"] ["many"])(X_NoKind:Cf P w K mg base 1 "NoKind" (cc .K) ["self","place"] ["place"])(D_is_kind:DefOk P w K mg base 3 "is_kind" ["thing"] Ng) :
  FnOk P w K mg base (CX1 P w) 4 f fd ["kinds"] (EV cc):=by
 have S:=Ir;refine F.okx S (λ vs H Q E h=>?_) (λ cdv A outer s H vs Q E hr h=>?_)
 .obtain⟨a,xs,gs,rfl,_⟩:=h;rfl
 .obtain⟨a,xs,gs,rfl,ha,th,few,r,q⟩:=h;have hl:=th.len;refine⟨_,(Af (AC (Ap CC (Aw AA rfl T.z_len rfl (Aa (pv 0) Ab)) (Al (v:=.int 8) rfl T.g_MOST_KINDS ⟨_,rfl⟩) (Av _)) (Ae (BV AE X_TooMany hr (Aa (Aw AA rfl T.z_len rfl (Aa (pv 0) Ab)) Ab))) Ax)
   (Ae (Bh D6 rfl (JH rfl T.z_enumerate (Aa (pv 0) Ab)) (Cb rfl (A5 (Aq (i:=1) S.nd rfl (Or.inl rfl)) (A5 (Aq (i:=2) S.nd rfl (Or.inl rfl)) B3))) (Ae (AC (Bx (Bg (Au D_is_kind hr (Aa (pv 2) Ab)))) (Ae (BV AE X_NoKind hr (Aa (pv 1) Ab))) Ax))))),?_⟩
  refine⟨_,rfl,a,_,rfl,.inl (SqL.of ha),_,_,rfl,rfl,_,rfl,AG (λ c=>?_) (λ c=>?_)⟩
  .have c:(8:Int)<(xs.length:Int):=of_decide_eq_true c;have c2:8<gs.length:=by lia
   have rr:RfC cc H E (.M,.int gs.length):=r _ (by unfold Bi;rw[if_pos c2]);exact⟨_,rfl,a,_,rfl,.inl (SqL.of ha),rfl,λ y dx T H2 hy s2 e ed nd hT nT=>rr.raise (Same.refl H) hy s2 e ed nd hT (by rw[hl];rfl)⟩
  .have c:¬(8:Int)<(xs.length:Int):=of_decide_eq_false c;have c2:¬8<gs.length:=by lia
   have ed:Bi 8 .K gs=(AX gs).map λ k:Nat=>(Cl.K,V.int k):=by unfold Bi;rw[if_neg c2]
   refine⟨_,rfl,a,rfl,⟨_,SqL.of ha⟩,Hk (K:=K) (a:=a) (xs:=xs) (λ i σ H'=>(∃x y,σ=[some (.ref a),x,y])/\Same H H'/\∀j,j<i->∃t,gs[j]?=some (some t)) ⟨⟨none,none,rfl⟩,Same.refl H,λ j hj=>absurd hj (Nat.not_lt_zero _)⟩ (λ i σ H' _ hp=>SqL.of (hp.2.1 _ _ ha)) ?_ ?_⟩
   .rintro i x σ H1 t hx ⟨⟨x0,y0,rfl⟩,s1,all⟩ nt;obtain⟨g,hg,wt⟩:=th.get hx;have s2:Same H1 (upd H1 t (.tup [.int i,x])):=Same.new nt;refine⟨t,_,rfl,SqT.of Ac,rfl,_,_,rfl,_,_,rfl,rfl,_,rfl,x,g,rfl,wt.same (s1.trans s2),_,rfl,?_⟩;cases g with
    |some t =>
     refine Fe ⟨⟨_,_,rfl⟩,s1.trans s2,λ j hj=>?_⟩;rcases Nat.lt_or_ge j i with z|z
     .exact all j z
     .obtain rfl:j=i:=by lia
      exact⟨t,hg⟩
    |none =>
     have rr:RfC cc H E (.K,.int i):=r _ (by rw[ed,Dp hg all];rfl);exact E2 ⟨_,rfl,rfl,λ y dx T H2 hy s3 e ed nd hT nT=>rr.raise (s1.trans s2) hy s3 e ed nd hT rfl⟩
   .rintro σ H1 ⟨_,s1,all⟩;exact q (by rw[ed,FF (λ j hj=>all j (by lia))];rfl) H1 s1
theorem MU:Ak ["size","width","height","turns"] ["size","width","height","turns"] (Ag E9):=fsc
theorem Lb{f:Addr}{fd:FuncData}(F:Fun K "has_size" "has_size" E9 f fd):FnOk P w K mg base CX0 1 f fd ["size","width","height","turns"] Pj:=by
 have S:=MU;refine F.ok S (λ vs H Q E h=>?_) (λ cdv A outer s H vs Q E hr h=>?_)
 .obtain⟨a,w,h,W,T',u,rfl,_⟩:=h;rfl
 .obtain⟨a,w,h,W,T',u,rfl,ha,q⟩:=h;refine⟨_,(Ae (Am (T4 (Eo (P0 hr) (pv 0) (A3 (Aa (pv 1) (Aa (pv 2) Ab))) (Av _)) (D4 (Cz (pv 3) (D4 (Eo (P0 hr) (pv 0) (A3 (Aa (pv 2) (Aa (pv 1) Ab))) (Av _)))))))),?_⟩;refine⟨_,rfl,_,rfl,_,rfl,As 2,λ p np=>?_⟩;have s1:Same H (upd H p (.tup [.int W,.int T'])):=Same.new np;refine⟨_,_,Fc (SqT.of (s1 _ _ ha)),Fc (SqT.of Ac),⟨_,rfl⟩,⟨_,rfl⟩,IN _ _,_,rfl,AG (λ c=>?_) (λ c=>?_)⟩
  .rw[if_neg Bool.false_ne_true,GI]at c;have e:O1 w h W T' u=true:=by unfold O1;rw[c];rfl
   have:=q _ s1;rw[e]at this;exact this
  .rw[if_neg Bool.false_ne_true,GI]at c;have e:O1 w h W T' u=(u&&(decide (w=T')&&decide (h=W))):=by unfold O1;rw[c];rfl
   refine⟨_,rfl,_,rfl,AG (λ c1=>?_) (λ c1=>?_)⟩
   .refine⟨_,rfl,_,rfl,_,rfl,As 2,λ p2 np2=>?_⟩;have s2:Same (upd H p (.tup [.int W,.int T'])) (upd (upd H p (.tup [.int W,.int T'])) p2 (.tup [.int T',.int W])):=Same.new np2;refine⟨_,_,Fc (SqT.of (s2 _ _ (s1 _ _ ha))),Fc (SqT.of Ac),⟨_,rfl⟩,⟨_,rfl⟩,IN _ _,?_⟩;rw[if_neg Bool.false_ne_true,GI];have:=q _ (s1.trans s2);rw[e,c1]at this;exact this
   .have:=q _ s1;rw[e,c1]at this;exact this
theorem Kk:Ak ["piece","kind"] ["piece","kind"] (Ag Dv):=fsc
theorem HX{f:Addr}{fd:FuncData}(F:Fun K "is_of_kind" "is_of_kind" Dv f fd)(D_size_of:DefOk P w K mg base 1 "size_of" ["rectangle"] Eg)(D_has_size:DefOk P w K mg base 1 "has_size" ["size","width","height","turns"] Pj):FnOk P w K mg base CX0 2 f fd ["piece","kind"] Pf:=by
 have S:=Kk;refine F.ok S (λ vs H Q E h=>?_) (λ cdv A outer s H vs Q E hr h=>?_)
 .obtain⟨a,b,t,l,o,r,k,rfl,_⟩:=h;rfl
 .obtain⟨a,b,t,l,o,r,k,rfl,ha,hb,q⟩:=h;refine⟨_,(Ae (Am (Au D_has_size hr (Aa (Au D_size_of hr (Aa (pv 0) Ab)) (Aa (Ao An (pv 1) Ad (λ_ _=>rfl)) (Aa (Ao An (pv 1) Ad (λ_ _=>rfl)) (Aa (Ao An (pv 1) Ad (λ_ _=>rfl)) Ab))))))),?_⟩;refine⟨_,rfl,a,t,l,o,r,rfl,ha,λ c H1 s1 hc=>?_⟩;exact⟨_,rfl,b,_,_,_,rfl,rfl,SqT.of (s1 _ _ hb),L9,_,rfl,b,_,_,_,rfl,rfl,SqT.of (s1 _ _ hb),L8,_,rfl,b,_,_,_,rfl,rfl,SqT.of (s1 _ _ hb),L7,c,_,_,_,_,_,rfl,hc,λ H2 s2=>q H2 (s1.trans s2)⟩
theorem Ea:Ak ["width","height","side"] ["width","height"] (Ag Bv):=fsc
theorem DF{f:Addr}{fd:FuncData}(F:Fun K "check_flawed_sides" "check_flawed_sides" Bv f fd)(X_NoSide:Cf P w K mg base 1 "NoSide" (cc .I) ["self","side"] ["side"])(T:Txt mg tk)(D_is_side:DefOk P w K mg base 2 "is_side" ["thing"] Du) :
  FnOk P w K mg base (CX1 P w) 3 f fd ["width","height"] (Dc cc AO):=by
 have S:=Ea;refine F.okx S (λ vs H Q E h=>?_) (λ cdv A outer s H vs Q E hr h=>?_)
 .obtain⟨a,p,rfl,_⟩:=h;rfl
 .obtain⟨a,b,rfl,ta,tb,r,q⟩:=h;have r1:AO a=false->RfC cc H E (.I,a):=λ c=>r _ (by unfold DG;rw[c];rfl);have r2:AO a=true->AO b=false->RfC cc H E (.I,b):=λ c d=>r _ (by unfold DG;rw[c,d];rfl);refine⟨_,(Ae (Bh D6 rfl (JG (A3 (Aa (pv 0) (Aa (pv 1) Ab)))) (Aq (i:=2) S.nd rfl (Or.inl rfl)) (Ae (AC (PW.pt (DQ (Bx (Bg (Au D_is_side hr (Aa (pv 2) Ab)))) (CT (Ap CC (pv 2) (Al (v:=.int 7) rfl T.g_LONGEST_FLAWED ⟨_,rfl⟩) (Av _))))) (Ae (BV AE X_NoSide hr (Aa (pv 2) Ab))) Ax)))),?_⟩;refine⟨_,rfl,_,rfl,As 2,λ t ht=>⟨t,rfl,⟨_,SqT.of Ac⟩,JZ (K:=K) (a:=t) (xs:=[a,b]) (λ i σ H'=>(∃y,σ=[some a,some b,y])/\H'=upd H t (.tup [a,b])/\(0<i->AO a=true)/\(1<i->AO b=true)) ⟨⟨none,rfl⟩,rfl,(λ z=>absurd z (by decide)),λ z=>absurd z (by decide)⟩ (λ i σ H' _ hp=>by rw[hp.2.1];exact SqT.of Ac) ?_ ?_⟩⟩
  .rintro i x σ H' hx ⟨⟨y,rfl⟩,rfl,h0,h1⟩;have s1:Same H (upd H t (.tup [a,b])):=Same.new ht
   match i,hx with
   |0,hx =>
    cases hx;refine⟨_,rfl,a,rfl,ta.same s1,_,rfl,AG (λ hb=>?_) λ hb=>?_⟩
    .have hb:Ay a=false:=by simpa using hb
     exact E2 ⟨_,rfl,rfl,λ y dx T H2 hy s2 e ed nd hT nT=>(r1 (EW hb)).raise s1 hy s2 e ed nd hT rfl⟩
    .have hb:Ay a=true:=by simpa using hb
     obtain⟨x,rfl,x1,x2⟩:=Bt hb;refine⟨_,rfl,_,_,rfl,rfl,_,rfl,AG (λ hc=>?_) λ hc=>?_⟩
     .exact⟨_,rfl,rfl,λ y dx T H2 hy s2 e ed nd hT nT=>(r1 (G6 (of_decide_eq_true hc))).raise s1 hy s2 e ed nd hT rfl⟩
     .exact⟨⟨_,rfl⟩,rfl,λ_=>DJ x1 (of_decide_eq_false hc),λ z=>absurd z (by lia)⟩
   |1,hx =>
    cases hx;refine⟨_,rfl,b,rfl,tb.same s1,_,rfl,AG (λ hb=>?_) λ hb=>?_⟩
    .have hb:Ay b=false:=by simpa using hb
     exact E2 ⟨_,rfl,rfl,λ y dx T H2 hy s2 e ed nd hT nT=>(r2 (h0 (by lia)) (EW hb)).raise s1 hy s2 e ed nd hT rfl⟩
    .have hb:Ay b=true:=by simpa using hb
     obtain⟨x,rfl,x1,x2⟩:=Bt hb;refine⟨_,rfl,_,_,rfl,rfl,_,rfl,AG (λ hc=>?_) λ hc=>?_⟩
     .exact⟨_,rfl,rfl,λ y dx T H2 hy s2 e ed nd hT nT=>(r2 (h0 (by lia)) (G6 (of_decide_eq_true hc))).raise s1 hy s2 e ed nd hT rfl⟩
     .exact⟨⟨_,rfl⟩,rfl,λ_=>h0 (by lia),λ_=>DJ x1 (of_decide_eq_false hc)⟩
   |i+2,hx=>cases hx
  .rintro σ H' ⟨⟨y,rfl⟩,rfl,h0,h1⟩;exact q (by unfold DG;rw[h0 (by show 0<2;decide),h1 (by show 1<2;decide)];rfl) _ (Same.new ht)
theorem Hz:Ak ["thing","width","height"] ["thing","width","height"] (Ag Cr):=fsc
theorem Gb{f:Addr}{fd:FuncData}(F:Fun K "is_square_of" "is_square_of" Cr f fd)(T:Txt mg tk)(D_is_whole:DefOk P w K mg base 1 "is_whole" ["thing"] Db):FnOk P w K mg base CX0 2 f fd ["thing","width","height"] RD:=by
 have S:=Hz;refine F.ok S (λ vs H Q E h=>?_) (λ cdv A outer s H vs Q E hr h=>?_)
 .obtain⟨v,ww,hh,g,rfl,_⟩:=h;rfl
 .obtain⟨v,ww,hh,g,rfl,hv,q⟩:=h;refine⟨_,(Af (AC (PW.pt (DQ (Bx (Bg (Aw B4 rfl T.z_isinstance rfl (Aa (pv 0) (Aa (Ci (v:=.ty "tuple") rfl T.z_tuple rfl rfl) Ab))))) (CT (Ap Nq (Aw AA rfl T.z_len rfl (Aa (pv 0) Ab)) Ad (Av _))))) (Ae (Am DS)) Ax)
   (Af (AC (PW.pt (DQ (Bx (Bg (Au D_is_whole hr (Aa (Ao An (pv 0) Ad (λ_ _=>rfl)) Ab)))) (CT (Bx (Bg (Au D_is_whole hr (Aa (Ao An (pv 0) Ad (λ_ _=>rfl)) Ab))))))) (Ae (Am DS)) Ax)
   (Ae (Am (Cz (BW DD DV Ad (Ao An (pv 0) Ad (λ_ _=>rfl)) (pv 2)) (D4 (BW DD DV Ad (Ao An (pv 0) Ad (λ_ _=>rfl)) (pv 1)))))))),?_⟩
  rcases hv.two with ⟨a,xs,rfl,ha,hz,ht,hb⟩|⟨T',hT,hne,hb⟩
  .rw[<-hb]at q;refine⟨_,rfl,.ref a,"tuple","tuple",rfl,G0 ha,.inr (.inr (.inl rfl)),_,rfl,BD (by rw[PK];rfl) ?_⟩;refine⟨_,rfl,a,_,rfl,.inr (SqT.of ha),rfl,_,rfl,AG (λ h=>?_) (λ h=>?_)⟩
   .show Q (.bl false) H;rw[Tk (TX (m:=2) h)]at q;exact q
   .obtain⟨x,y,rfl⟩:=S1 (RV (m:=2) h);simp only[List.mem_cons,List.not_mem_nil,or_false,forall_eq_or_imp,forall_eq]at ht;obtain⟨tx,ty⟩:=ht;have q:Q (.bl (inB hh x&&inB ww y)) H:=q;refine⟨_,rfl,a,_,_,_,rfl,rfl,SqT.of ha,BM,x,rfl,tx,_,rfl,AG (λ h1=>?_) (λ h1=>?_)⟩
    .have h1:DH x=false:=by simpa using h1
     have e:inB hh x=false:=by cases x<;>first|rfl|cases h1
     refine E2 ?_;show Q (.bl false) H;rw[e]at q;exact q
    obtain⟨i,rfl⟩:=Ee (show DH x=true by simpa using h1);refine⟨_,rfl,a,_,_,_,rfl,rfl,SqT.of ha,DZ,y,rfl,ty,_,rfl,AG (λ h2=>?_) (λ h2=>?_)⟩
    .have h2:DH y=false:=by simpa using h2
     have e:inB ww y=false:=by cases y<;>first|rfl|cases h2
     show Q (.bl false) H;rw[e,Bool.and_false]at q;exact q
    obtain⟨j,rfl⟩:=Ee (show DH y=true by simpa using h2);have q:Q (.bl ((decide (0<=i)&&decide (i<hh))&&(decide (0<=j)&&decide (j<ww)))) H:=q;refine⟨_,rfl,a,_,_,_,rfl,rfl,SqT.of ha,BM,_,_,rfl,rfl,_,rfl,AG (λ h3=>?_) (λ h3=>?_)⟩
    .replace h3:decide (0<=i)=true:=h3
     rw[h3]at q;refine⟨_,rfl,_,_,rfl,rfl,_,rfl,AG (λ h4=>?_) (λ h4=>?_)⟩
     .replace h4:decide (i<hh)=true:=h4
      rw[h4]at q;refine⟨_,rfl,a,_,_,_,rfl,rfl,SqT.of ha,DZ,_,_,rfl,rfl,_,rfl,AG (λ h5=>?_) (λ h5=>?_)⟩
      .replace h5:decide (0<=j)=true:=h5
       rw[h5]at q;exact⟨_,rfl,_,_,rfl,rfl,q⟩
      .replace h5:decide (0<=j)=false:=h5
       rw[h5]at q;exact q
     .replace h4:decide (i<hh)=false:=h4
      rw[h4]at q;exact q
    .replace h3:decide (0<=i)=false:=h3
     rw[h3]at q;exact⟨_,rfl,Fe q⟩
  .rw[<-hb]at q;exact⟨_,rfl,_,T',"tuple",rfl,hT,.inr (.inr (.inl rfl)),_,rfl,Cd (by rw[Nz hne];rfl) (E2 q)⟩
theorem Iu:Ak ["flaws","width","height","place","flaw"] ["flaws","width","height"] (Ag CN):=fsc
theorem GU{f:Addr}{fd:FuncData}(F:Fun K "check_flaws" "check_flaws" CN f fd)(T:Txt mg tk)(X_TooMany:Cf P w K mg base 1 "TooMany" (cc .M) ["self","many"] ["many"])(X_NoFlaw:Cf P w K mg base 1 "NoFlaw" (cc .F) ["self","place"] ["place"])(D_is_square_of:DefOk P w K mg base 2 "is_square_of" ["thing","width","height"] RD) :
  FnOk P w K mg base (CX1 P w) 3 f fd ["flaws","width","height"] (Pl cc):=by
 have S:=Iu;refine F.okx S (λ vs H Q E h=>?_) (λ cdv A outer s H vs Q E hr h=>?_)
 .obtain⟨a,ww,hh,xs,gs,rfl,_⟩:=h;rfl
 .obtain⟨a,ww,hh,xs,gs,rfl,ha,th,few,r,q⟩:=h;have hl:=th.len;refine⟨_,(Af (AC (Ap CC (Aw AA rfl T.z_len rfl (Aa (pv 0) Ab)) (Al (v:=.int 49) rfl T.g_MOST_FLAWS ⟨_,rfl⟩) (Av _)) (Ae (BV AE X_TooMany hr (Aa (Aw AA rfl T.z_len rfl (Aa (pv 0) Ab)) Ab))) Ax)
   (Ae (Bh D6 rfl (JH rfl T.z_enumerate (Aa (pv 0) Ab)) (Cb rfl (A5 (Aq (i:=3) S.nd rfl (Or.inl rfl)) (A5 (Aq (i:=4) S.nd rfl (Or.inl rfl)) B3))) (Ae (AC (Bx (Bg (Au D_is_square_of hr (Aa (pv 4) (Aa (pv 1) (Aa (pv 2) Ab)))))) (Ae (BV AE X_NoFlaw hr (Aa (pv 3) Ab))) Ax))))),?_⟩
  refine⟨_,rfl,a,_,rfl,.inl (SqL.of ha),_,_,rfl,rfl,_,rfl,AG (λ c=>?_) (λ c=>?_)⟩
  .have c:(49:Int)<(xs.length:Int):=of_decide_eq_true c;have c2:49<gs.length:=by lia
   have rr:RfC cc H E (.M,.int gs.length):=r _ (by unfold Bi;rw[if_pos c2]);exact⟨_,rfl,a,_,rfl,.inl (SqL.of ha),rfl,λ y dx T H2 hy s2 e ed nd hT nT=>rr.raise (Same.refl H) hy s2 e ed nd hT (by rw[hl];rfl)⟩
  .have c:¬(49:Int)<(xs.length:Int):=of_decide_eq_false c;have c2:¬49<gs.length:=by lia
   have ed:Bi 49 .F gs=(AX gs).map λ k:Nat=>(Cl.F,V.int k):=by unfold Bi;rw[if_neg c2]
   refine⟨_,rfl,a,rfl,⟨_,SqL.of ha⟩,Hk (K:=K) (a:=a) (xs:=xs) (λ i σ H'=>(∃x y,σ=[some (.ref a),some (.int ww),some (.int hh),x,y])/\Same H H'/\∀j,j<i->∃t,gs[j]?=some (some t)) ⟨⟨none,none,rfl⟩,Same.refl H,λ j hj=>absurd hj (Nat.not_lt_zero _)⟩ (λ i σ H' _ hp=>SqL.of (hp.2.1 _ _ ha)) ?_ ?_⟩
   .rintro i x σ H1 t hx ⟨⟨x0,y0,rfl⟩,s1,all⟩ nt;obtain⟨g,hg,wt⟩:=th.get hx;have s2:Same H1 (upd H1 t (.tup [.int i,x])):=Same.new nt;refine⟨t,_,rfl,SqT.of Ac,rfl,_,_,rfl,_,_,rfl,rfl,_,rfl,_,rfl,_,rfl,x,ww,hh,g,rfl,wt.same (s1.trans s2),_,rfl,?_⟩;cases g with
    |some t =>
     refine Fe ⟨⟨_,_,rfl⟩,s1.trans s2,λ j hj=>?_⟩;rcases Nat.lt_or_ge j i with z|z
     .exact all j z
     .obtain rfl:j=i:=by lia
      exact⟨t,hg⟩
    |none =>
     have rr:RfC cc H E (.F,.int i):=r _ (by rw[ed,Dp hg all];rfl);exact E2 ⟨_,rfl,rfl,λ y dx T H2 hy s3 e ed nd hT nT=>rr.raise (s1.trans s2) hy s3 e ed nd hT rfl⟩
   .rintro σ H1 ⟨_,s1,all⟩;exact q (by rw[ed,FF (λ j hj=>all j (by lia))];rfl) H1 s1
theorem Qp:Ak ["piece"] ["piece"] (Ag G9):=fsc
theorem Oi{f:Addr}{fd:FuncData}(F:Fun K "itself" "itself" G9 f fd):FnOk P w K mg base CX0 1 f fd ["piece"] Eh:=by
 have S:=Qp;refine F.ok S (λ vs H Q E h=>?_) (λ cdv A outer s H vs Q E hr h=>?_)
 .obtain⟨v,rfl,_⟩:=h;rfl
 .obtain⟨v,rfl,q⟩:=h;refine⟨_,(Ae (Am (pv 0))),?_⟩;exact⟨_,rfl,q⟩
theorem Ij:Ak ["length","runs","begin"] ["length"] (Ag CG):=fsc
def KD(n i:Nat):List (Int×Int):=(List.range i).flatMap λ b:Nat=>(List.range (n-b)).map λ e:Nat=>((b:Int),(b:Int)+1+(e:Int))
theorem GA(n i:Nat):KD n (i+1)=KD n i++(List.range (n-i)).map λ e:Nat=>((i:Int),(i:Int)+1+(e:Int)):=by
 unfold KD;rw[List.range_succ,List.flatMap_append,List.flatMap_cons,List.flatMap_nil,List.append_nil]
theorem IJ:∀(n i:Nat),(KD n i).length<=i*n
 |n,0=>by rw[Nat.zero_mul];exact Nat.le_refl _
 |n,i+1=>by
  have:=IJ n i;rw[GA,List.length_append,List.length_map,List.length_range,Nat.succ_mul];lia
theorem GL{f:Addr}{fd:FuncData}(F:Fun K "runs_within" "runs_within" CG f fd)(T:Txt mg tk):FnOk P w K mg base CX0 1 f fd ["length"] Nc:=by
 have S:=Ij;refine F.ok S (λ vs H Q E h=>?_) (λ cdv A outer s H vs Q E hr h=>?_)
 .obtain⟨n,rfl,_⟩:=h;rfl
 .obtain⟨n,rfl,n0,n5,q⟩:=h;refine⟨_,(Af (At (i:=1) S.nd rfl (Or.inl rfl) (A9 Ab))
   (Af (Bh PassesOwn.never rfl (Ck rfl T.z_range (Aa (pv 0) Ab)) (Aq (i:=2) S.nd rfl (Or.inr rfl)) (Ae (AL (Dk PySem.F.plainAttrs_list PySem.F.slot_list_extend PySem.F.type_list_extend F9 (pv 1) (Aa (Em rfl (Dh rfl T.z_range (Aa (Az AW (pv 2) Ad) (Aa (Az AW (pv 0) Ad) Ab))) (λ_ _ _ _ _=>(Aq (i:=0) (show List.Nodup (["end","begin"]:LSz) from by decide +kernel) rfl (Or.inl rfl))) (λ_ _ _ _ _=>(A3 (Aa (pv 1) (Aa (pv 0) Ab)))) (N:=["end","begin"]) (fr:=[none,some 2])) Ab)))))
   (Ae (Am (pv 1))))),?_⟩
  refine⟨As 0,λ l nl=>?_⟩;obtain⟨H1,g,s1,e1⟩:=nw (.lst []) nl;rw[g];refine⟨_,rfl,_,rfl,by lia,by lia,BP (lo:=0) (n:=n.toNat) (λ i σ H'=>(∃y,σ=[some (.int n),some (.ref l),y])/\SameX l H1 H'/\∃ts:List (Addr×Int×Int),H' l=some (.lst (B9 ts))/\(∀t∈ts,H' t.1=some (.tup [.int t.2.1,.int t.2.2]))/\ts.map (·.2)=KD n.toNat i) ⟨⟨none,rfl⟩,SameX.refl,[],e1,(λ t ht=>nomatch ht),rfl⟩ ?_ ?_⟩
  .rintro i σ H2 hi ⟨⟨y,rfl⟩,s2,ts,e2,h2,m2⟩;refine⟨_,rfl,.inl ⟨rfl,_,SqL.of e2⟩,_,rfl,_,_,rfl,rfl,_,rfl,_,_,rfl,rfl,_,_,rfl,⟨by lia,by lia,by lia,by lia⟩,λ acc na=>DA (lo:=0+(i:Int)+1) (n:=(n+1-(0+(i:Int)+1)).toNat) (λ j zs σ H'=>(∃y,σ=[y,some (.int (0+(i:Int)))])/\Same H2 H'/\∃us:List (Addr×Int×Int),zs=B9 us/\(∀t∈us,H' t.1=some (.tup [.int t.2.1,.int t.2.2]))/\us.map (·.2)=(List.range j).map λ e:Nat=>((i:Int),(i:Int)+1+(e:Int))) ⟨⟨none,rfl⟩,Same.new na,[],rfl,(λ t ht=>nomatch ht),rfl⟩ ?_ ?_⟩
   .rintro j zs σ H3 hj hz ha ⟨⟨y,rfl⟩,s3,us,rfl,hus,mus⟩;refine⟨_,rfl,_,rfl,As 2,λ p np=>?_⟩;obtain⟨H4,g,s4,e4⟩:=nw (.tup [.int (0+(i:Int)),.int (0+(i:Int)+1+(j:Int))]) np;rw[g];rw[Int.zero_add]at e4;refine cNx.mk (Nat.le_of_lt (A0 (by lia))) hj hz (s4 _ _ ha) ⟨⟨_,rfl⟩,λ b o e=>?_,us++[(p,(i:Int),(i:Int)+1+(j:Int))],by simp[B9],λ t ht=>?_,?_⟩
    .rw[Ai (Ah e na)];exact s4 _ _ (s3 b o e)
    .rcases List.mem_append.mp ht with ht|ht
     .exact C8 (s4 _ _ (hus t ht)) (s4 _ _ ha)
     .rw[List.mem_singleton.mp ht];exact C8 e4 (s4 _ _ ha)
    .rw[List.map_append,mus,List.range_succ,List.map_append];rfl
   .rintro zs σ H3 hz ha ⟨_,s3,us,rfl,hus,mus⟩;have e3:=s3 _ _ e2;have lt:ts.length<=49:=by
     have h1:=IJ n.toNat i;rw[<-m2,List.length_map]at h1;have:i*n.toNat<=7*7:=Nat.mul_le_mul (by lia) (by lia);lia
    rw[AQ]at hz;refine⟨l,acc,_,_,rfl,rfl,e3,ha,Nat.le_of_lt (A0 (by rw[AQ,AQ];lia)),⟨_,rfl⟩,λ x o nx ex=>?_,ts++us,by rw[Ac];simp[B9],λ t ht=>?_,?_⟩
    .rw[Ai nx];exact s3 _ _ (s2 x o nx ex)
    .rcases List.mem_append.mp ht with ht|ht
     .exact C8 (s3 _ _ (h2 t ht)) e3
     .exact C8 (hus t ht) e3
    .rw[List.map_append,m2,mus,GA];congr 3;lia
  .rintro σ H2 ⟨⟨y,rfl⟩,s2,ts,e2,h2,m2⟩;exact⟨_,rfl,q l H2 (s2.same s1 nl) nl ⟨ts,e2,h2,m2⟩⟩
theorem Gh:Ak ["width","height","found","top","bottom"] ["width","height"] (Ag BY):=fsc
theorem F5{f:Addr}{fd:FuncData}(F:Fun K "pieces_within" "pieces_within" BY f fd)(D_runs_within:DefOk P w K mg base 1 "runs_within" ["length"] Nc):FnOk P w K mg base CX0 2 f fd ["width","height"] Pe:=by
 have S:=Gh;refine F.ok S (λ vs H Q E h=>?_) (λ cdv A outer s H vs Q E hr h=>?_)
 .obtain⟨W,T,rfl,_⟩:=h;rfl
 .obtain⟨W,T',rfl,w0,w5,h0,h5,q⟩:=h;refine⟨_,(Af (At (i:=2) S.nd rfl (Or.inl rfl) (A9 Ab))
   (Af (Bh PassesOwn.never rfl (Ch (Au D_runs_within hr (Aa (pv 1) Ab))) (Cb rfl (A5 (Aq (i:=3) S.nd rfl (Or.inr rfl)) (A5 (Aq (i:=4) S.nd rfl (Or.inr rfl)) B3))) (Ae (AL (Dk PySem.F.plainAttrs_list PySem.F.slot_list_extend PySem.F.type_list_extend F9 (pv 2) (Aa (Em rfl (Ch (Au D_runs_within hr (Aa (pv 0) Ab))) (λ_ _ _ _ _=>(Nn (K:=K) (n:=2) rfl (A5 (Aq (i:=0) (show List.Nodup (["left","right","top","bottom"]:LSz) from by decide +kernel) rfl (Or.inl rfl)) (A5 (Aq (i:=1) (show List.Nodup (["left","right","top","bottom"]:LSz) from by decide +kernel) rfl (Or.inl rfl)) B3)))) (λ_ _ _ _ _=>(A3 (Aa (pv 2) (Aa (pv 0) (Aa (pv 3) (Aa (pv 1) Ab)))))) (N:=["left","right","top","bottom"]) (fr:=[none,none,some 3,some 4])) Ab)))))
   (Ae (Am (pv 2))))),?_⟩
  refine⟨As 0,λ l nl=>?_⟩;obtain⟨H1,g,s1,e1⟩:=nw (.lst []) nl;rw[g];refine⟨_,rfl,T',rfl,h0,h5,λ c H2 s2 nc hc=>?_⟩;obtain⟨vs,ev,hv,mv⟩:=hc;have lv:vs.length<=28:=by rw[<-List.length_map (f:=λ x:Addr×Int×Int=>x.2),mv];exact KC (by lia)
  have cl:c≠l:=λ z=>by rw[z,e1]at nc;cases nc
  have e2:=s2 _ _ e1;have s12:=s1.trans s2;refine⟨c,rfl,⟨_,SqL.of ev⟩,DX (K:=K) (a:=c) (xs:=B9 vs) (λ i σ H'=>(∃y z,σ=[some (.int W),some (.int T'),some (.ref l),y,z])/\SameX l H2 H'/\∃ts:List (Addr×Rc),H' l=some (.lst (B9 ts))/\(∀t∈ts,Pc H' t.1 t.2.1 t.2.2.1 t.2.2.2.1 t.2.2.2.2)/\ts.map (·.2)=((Bw T'.toNat).take i).flatMap λ v=>(Bw W.toNat).map λ h=>(v.1,h.1,v.2,h.2)) ⟨⟨none,none,rfl⟩,SameX.refl,[],e2,(λ t ht=>nomatch ht),rfl⟩ (λ i σ H' _ hp=>SqL.of (hp.2.1 _ _ cl ev)) ?_ ?_⟩
  .rintro i x σ H3 hx ⟨⟨y,z,rfl⟩,s3,ts,e3,h3,m3⟩;obtain⟨v,hvi,rfl⟩:=Dg hx;have vm:=List.mem_of_getElem? hvi;have li:i<vs.length:=(List.getElem?_eq_some_iff.mp hvi).1;have hv3:=s3 _ _ (λ z=>by have:=hv v vm;rw[z,e2]at this;cases this) (hv v vm);have tk1:(Bw T'.toNat).take (i+1)=(Bw T'.toNat).take i++[v.2]:=by rw[<-mv,List.take_succ,List.getElem?_map,hvi];rfl
   refine⟨v.1,_,rfl,SqT.of hv3,rfl,_,_,rfl,_,_,rfl,rfl,?_⟩;refine⟨_,rfl,.inl ⟨rfl,_,SqL.of e3⟩,_,rfl,W,rfl,w0,w5,λ c2 H4 s4 _ hc2=>?_⟩;obtain⟨us,eu,hu,mu⟩:=hc2;have lu:us.length<=28:=by rw[<-List.length_map (f:=λ x:Addr×Int×Int=>x.2),mu];exact KC (by lia)
   refine⟨c2,rfl,⟨_,SqL.of eu⟩,λ acc na=>Jc (K:=K) (a:=c2) (ys:=B9 us) (λ j zs σ H'=>(∃y z,σ=[y,z,some (.int v.2.1),some (.int v.2.2)])/\Same H4 H'/\∃rs:List (Addr×Rc),zs=B9 rs/\(∀t∈rs,Pc H' t.1 t.2.1 t.2.2.1 t.2.2.2.1 t.2.2.2.2)/\rs.map (·.2)=((Bw W.toNat).take j).map λ h=>(v.2.1,h.1,v.2.2,h.2)) ⟨⟨none,none,rfl⟩,Same.new na,[],rfl,(λ t ht=>nomatch ht),rfl⟩ (λ j zs σ H' _ _ hp=>SqL.of (hp.2.1 _ _ eu)) ?_ ?_⟩
   .rintro j x zs σ H5 hx hj hz ha ⟨⟨y,z,rfl⟩,s5,rs,rfl,hrs,mrs⟩;obtain⟨u,hui,rfl⟩:=Dg hx;have um:=List.mem_of_getElem? hui;have tj:(Bw W.toNat).take (j+1)=(Bw W.toNat).take j++[u.2]:=by rw[<-mu,List.take_succ,List.getElem?_map,hui];rfl
    refine⟨u.1,_,rfl,SqT.of (s5 _ _ (hu u um)),rfl,_,_,rfl,_,_,rfl,rfl,?_⟩;refine⟨_,rfl,_,rfl,_,rfl,_,rfl,As 4,λ p np=>?_⟩;obtain⟨H6,g,s6,e6⟩:=nw (.tup [.int v.2.1,.int u.2.1,.int v.2.2,.int u.2.2]) np;rw[g];refine cNx.mk (Nat.le_of_lt (A0 (by rw[AQ];lia))) hj hz (s6 _ _ ha) ⟨⟨_,_,rfl⟩,λ b o e=>?_,rs++[(p,v.2.1,u.2.1,v.2.2,u.2.2)],by simp[B9],λ t ht=>?_,?_⟩
    .rw[Ai (Ah e na)];exact s6 _ _ (s5 b o e)
    .rcases List.mem_append.mp ht with ht|ht
     .exact C8 (s6 _ _ (hrs t ht)) (s6 _ _ ha)
     .rw[List.mem_singleton.mp ht];exact C8 e6 (s6 _ _ ha)
    .rw[List.map_append,mrs,tj,List.map_append];rfl
   .rintro zs σ H5 hz ha ⟨_,s5,rs,rfl,hrs,mrs⟩;rw[AQ,AQ]at hz;have e5:=s5 _ _ (s4 _ _ e3);have lt:ts.length<=784:=by
     have h1:ts.length=(((Bw T'.toNat).take i).flatMap λ v=>(Bw W.toNat).map λ h=>((v.1,h.1,v.2,h.2):Rc)).length:=by rw[<-m3,List.length_map]
     have h2:=IL (W:=W.toNat) (T:=T'.toNat) (by lia) (by lia);have h3:(((Bw T'.toNat).take i).flatMap λ v=>(Bw W.toNat).map λ h=>((v.1,h.1,v.2,h.2):Rc)).length<=(DO W.toNat T'.toNat).length:=by
      unfold DO
      conv=>rhs;rw[<-List.take_append_drop i (Bw T'.toNat),List.flatMap_append,List.length_append]
      lia
     lia
    have e:(Bw W.toNat).take (B9 us).length=Bw W.toNat:=by rw[AQ,<-List.length_map (f:=λ x:Addr×Int×Int=>x.2) (as:=us),mu,List.take_length]
    rw[e]at mrs;refine⟨l,acc,_,_,rfl,rfl,e5,ha,Nat.le_of_lt (A0 (by rw[AQ,AQ];lia)),⟨_,_,rfl⟩,λ x o nx ex=>?_,ts++rs,by rw[Ac];simp[B9],λ t ht=>?_,?_⟩
    .rw[Ai nx];exact s5 _ _ (s4 _ _ (s3 x o nx ex))
    .rcases List.mem_append.mp ht with ht|ht
     .exact C8 (s5 _ _ (s4 _ _ (h3 t ht))) e5
     .exact C8 (hrs t ht) e5
    .rw[List.map_append,m3,mrs,tk1,List.flatMap_append,List.flatMap_cons,List.flatMap_nil,List.append_nil]
  .rintro σ H3 ⟨⟨y,z,rfl⟩,s3,ts,e3,h3,m3⟩;have e:(Bw T'.toNat).take (B9 vs).length=Bw T'.toNat:=by rw[AQ,<-List.length_map (f:=λ x:Addr×Int×Int=>x.2) (as:=vs),mv,List.take_length]
   rw[e]at m3;exact⟨_,rfl,q l H3 (s3.same s12 nl) ⟨ts,e3,h3,m3⟩⟩
theorem OG:Ak ["square","piece"] ["square","piece"] (Ag Fv):=fsc
theorem Mq{f:Addr}{fd:FuncData}(F:Fun K "lies_in" "lies_in" Fv f fd):FnOk P w K mg base CX0 1 f fd ["square","piece"] Nd:=by
 have S:=OG;refine F.ok S (λ vs H Q E h=>?_) (λ cdv A outer s H vs Q E hr h=>?_)
 .obtain⟨a,b,s,p,rfl,_⟩:=h;rfl
 .obtain⟨a,b,s,p,rfl,ha,hb,q⟩:=h;unfold TN at q;refine⟨_,(Ae (Am (Cz (BW DD DV (Ao An (pv 1) Ad (λ_ _=>rfl)) (Ao An (pv 0) Ad (λ_ _=>rfl)) (Ao An (pv 1) Ad (λ_ _=>rfl))) (D4 (BW DD DV (Ao An (pv 1) Ad (λ_ _=>rfl)) (Ao An (pv 0) Ad (λ_ _=>rfl)) (Ao An (pv 1) Ad (λ_ _=>rfl))))))),?_⟩;refine⟨_,rfl,b,_,_,_,rfl,rfl,SqT.of hb,L9,_,rfl,a,_,_,_,rfl,rfl,SqT.of ha,BM,_,_,rfl,rfl,_,rfl,AG (λ c1=>?_) (λ c1=>?_)⟩
  .replace c1:decide (p.1<=s.1)=true:=c1
   rw[c1]at q;refine⟨_,rfl,b,_,_,_,rfl,rfl,SqT.of hb,Hw,_,_,rfl,rfl,_,rfl,AG (λ c2=>?_) (λ c2=>?_)⟩
   .replace c2:decide (s.1<p.2.2.1)=true:=c2
    rw[c2]at q;refine⟨_,rfl,b,_,_,_,rfl,rfl,SqT.of hb,L8,_,rfl,a,_,_,_,rfl,rfl,SqT.of ha,DZ,_,_,rfl,rfl,_,rfl,AG (λ c3=>?_) (λ c3=>?_)⟩
    .replace c3:decide (p.2.1<=s.2)=true:=c3
     rw[c3]at q;exact⟨_,rfl,b,_,_,_,rfl,rfl,SqT.of hb,L7,_,_,rfl,rfl,q⟩
    .replace c3:decide (p.2.1<=s.2)=false:=c3
     rw[c3]at q;exact q
   .replace c2:decide (s.1<p.2.2.1)=false:=c2
    rw[c2]at q;exact q
  .replace c1:decide (p.1<=s.1)=false:=c1
   rw[c1]at q;exact⟨_,rfl,Fe q⟩
theorem Ip:Ak ["piece","size"] ["piece"] (Ag CK):=fsc
def cI(H1:Hp)(acc:Addr)(g:Bool)(j:Nat)(zs:LUz)(σ:St)(H':Hp):Prop :=
 (∃y,σ=[y])/\Same H1 H'/\∃us:List (Addr×Bool×Int),zs=B9 us/\(∀t∈us,H' t.1=some (.tup [.str (wd t.2.1),.int t.2.2])/\t.1≠acc)/\us.map (·.2)=(Kz j).map λ a=>(g,a)
theorem cI.next{H1 H2:Hp}{acc t:Addr}{g:Bool}{j n:Nat}{zs:LUz}{σ:St}{y:Option V}(c:cI H1 acc g j zs σ H2)(na:H1 acc=none)(ha:H2 acc=some (.lst zs))(hn:n<=12)(hj:j<n)(hz:zs.length=j)(nt:H2 t=none) :
  cNx acc n (cI H1 acc g) j [y] (.ref t) (upd H2 t (.tup [.str (wd g),.int (1+(j:Int))])):=by
 obtain⟨_,s1,us,rfl,h1,h2⟩:=c;have nt':t≠acc:=λ z=>by rw[z,ha]at nt;cases nt
 have s2:Same H2 (upd H2 t (.tup [.str (wd g),.int (1+(j:Int))])):=Same.new nt;refine cNx.mk (Nat.le_of_lt (A0 (by lia))) hj hz (s2 _ _ ha) ⟨⟨_,rfl⟩,λ b o e=>?_,us++[(t,g,1+(j:Int))],?_,λ u hu=>?_,?_⟩
 .rw[Ai (Ah e na)];exact s2 _ _ (s1 b o e)
 .simp[B9]
 .rcases List.mem_append.mp hu with hu|hu
  .obtain⟨e,n⟩:=h1 u hu;exact⟨by rw[Ai n];exact s2 _ _ e,n⟩
  .rw[List.mem_singleton.mp hu];exact⟨by rw[Ai nt'];exact Ac,nt'⟩
 .rw[List.map_append,h2,NT,List.map_append];rfl
theorem GQ{f:Addr}{fd:FuncData}(F:Fun K "cuts_within" "cuts_within" CK f fd)(T:Txt mg tk)(D_size_of:DefOk P w K mg base 1 "size_of" ["rectangle"] Eg):FnOk P w K mg base CX0 2 f fd ["piece"] Nh:=by
 have S:=Ip;refine F.ok S (λ vs H Q E h=>?_) (λ cdv A outer s H vs Q E hr h=>?_)
 .obtain⟨a,t,l,o,r,rfl,_⟩:=h;rfl
 .obtain⟨a,t,l,o,r,rfl,ha,w1,w2,h1,h2,q⟩:=h;refine⟨_,(Af (At (i:=1) S.nd rfl (Or.inl rfl) (Au D_size_of hr (Aa (pv 0) Ab)))
   (Ae (Am (Az P1 (Em rfl (Dh rfl T.z_range (Aa Ad (Aa (Ao An (pv 1) Ad (λ_ _=>rfl)) Ab))) (λ_ _ _ _ _=>(Aq (i:=0) (show List.Nodup (["at"]:LSz) from by decide +kernel) rfl (Or.inl rfl))) (λ_ _ _ _ _=>(A3 (Aa (Al (v:=.str "upright") rfl T.g_UPRIGHT ⟨_,rfl⟩) (Aa (pv 0) Ab)))) (N:=["at"]) (fr:=[none])) (Em rfl (Dh rfl T.z_range (Aa Ad (Aa (Ao An (pv 1) Ad (λ_ _=>rfl)) Ab))) (λ_ _ _ _ _=>(Aq (i:=0) (show List.Nodup (["at"]:LSz) from by decide +kernel) rfl (Or.inl rfl))) (λ_ _ _ _ _=>(A3 (Aa (Al (v:=.str "level") rfl T.g_LEVEL ⟨_,rfl⟩) (Aa (pv 0) Ab)))) (N:=["at"]) (fr:=[none])))))),?_⟩
  refine⟨_,rfl,a,t,l,o,r,rfl,ha,λ z H1 s1 hz=>?_⟩;refine⟨_,rfl,z,_,_,_,rfl,rfl,SqT.of hz,BM,1,_,rfl,⟨by lia,by lia,by lia,by lia⟩,λ acc na=>DA (lo:=1) (n:=(r-l-1).toNat) (cI H1 acc true) ⟨⟨none,rfl⟩,Same.new na,[],rfl,(λ t ht=>nomatch ht),rfl⟩ ?_ ?_⟩
  .rintro j zs σ H2 hj hzl ha2 c;obtain⟨⟨y,rfl⟩,s2,_⟩:=id c;exact⟨_,rfl,As 2,λ p np=>c.next na ha2 (by lia) hj hzl np⟩
  .rintro zs σ H2 hzl ha2 ⟨_,s2,us,rfl,hus,hm⟩;refine⟨_,rfl,z,_,_,_,rfl,rfl,SqT.of (s2 _ _ hz),DZ,1,_,rfl,⟨by lia,by lia,by lia,by lia⟩,λ acc' na'=>DA (lo:=1) (n:=(o-t-1).toNat) (cI H2 acc' false) ⟨⟨none,rfl⟩,Same.new na',[],rfl,(λ t ht=>nomatch ht),rfl⟩ ?_ ?_⟩
   .rintro j zs σ H3 hj hzl' ha3 c;obtain⟨⟨y,rfl⟩,s3,_⟩:=id c;exact⟨_,rfl,As 2,λ p np=>c.next na' ha3 (by lia) hj hzl' np⟩
   .rintro zs σ H3 hzl' ha3 ⟨_,s3,vs,rfl,hvs,hm'⟩;rw[AQ]at hzl hzl';refine⟨acc,acc',_,_,rfl,rfl,s3 _ _ ha2,ha3,Nat.le_of_lt (A0 (by rw[AQ,AQ];lia)),λ p np=>?_⟩;have s4:Same H3 (upd H3 p (.lst (B9 us++B9 vs))):=Same.new np;refine q p _ (s1.trans (s2.trans (s3.trans s4))) ⟨us++vs,by rw[Ac];simp[B9],λ u hu=>?_,?_⟩
    .rcases List.mem_append.mp hu with hu|hu
     .exact s4 _ _ (s3 _ _ (hus u hu).1)
     .exact s4 _ _ (hvs u hu).1
    .rw[List.map_append,hm,hm'];rfl
theorem HF:Ak ["piece","kinds","choice","mark","kind"] ["piece","kinds"] (Ag Ct):=fsc
theorem Gd{f:Addr}{fd:FuncData}(F:Fun K "choice_uncut" "choice_uncut" Ct f fd)(T:Txt mg tk)(D_is_of_kind:DefOk P w K mg base 2 "is_of_kind" ["piece","kind"] Pf):FnOk P w K mg base CX0 3 f fd ["piece","kinds"] G4:=by
 have S:=HF;refine F.ok S (λ vs H Q E h=>?_) (λ cdv A outer s H vs Q E hr h=>?_)
 .obtain⟨a,b,p,ks,rfl,_⟩:=h;rfl
 .obtain⟨a,b,p,ks,rfl,ha,⟨ts,hb,ht,rfl⟩,few,q⟩:=h;refine⟨_,(Af (At (i:=2) S.nd rfl (Or.inl rfl) (A3 (Aa Ad (Aa (A3 (Aa (Al (v:=.str "whole") rfl T.g_WHOLE ⟨_,rfl⟩) (Aa BA Ab))) Ab))))
   (Af (Bh PassesOwn.never rfl (JH rfl T.z_enumerate (Aa (pv 1) Ab)) (Cb rfl (A5 (Aq (i:=3) S.nd rfl (Or.inl rfl)) (A5 (Aq (i:=4) S.nd rfl (Or.inl rfl)) B3))) (Ae (AC (PW.pt (DR (Bg (Au D_is_of_kind hr (Aa (pv 0) (Aa (pv 4) Ab)))) (C9 (Ap CC (Ao An (pv 4) Ad (λ_ _=>rfl)) (Ao An (pv 2) Ad (λ_ _=>rfl)) (Av _))))) (Ae (At (i:=2) S.nd rfl (Or.inl rfl) (A3 (Aa (Ao An (pv 4) Ad (λ_ _=>rfl)) (Aa (A3 (Aa (Al (v:=.str "whole") rfl T.g_WHOLE ⟨_,rfl⟩) (Aa (pv 3) Ab))) Ab))))) Ax)))
   (Ae (Am (pv 2))))),?_⟩
  refine⟨As 2,λ p1 n1=>⟨As 2,λ p2 n2=>?_⟩⟩;have z1:Same H (upd H p1 (.tup [.str "whole",.non])):=Same.new n1;have z2:Same (upd H p1 (.tup [.str "whole",.non])) (upd (upd H p1 (.tup [.str "whole",.non])) p2 (.tup [.int 0,.ref p1])):=Same.new n2;have e2:ChW (upd (upd H p1 (.tup [.str "whole",.non])) p2 (.tup [.int 0,.ref p1])) p2 p:=⟨0,p1,.w none,Ac,z2 _ _ Ac,trivial⟩;have s2:=z1.trans z2;generalize upd (upd H p1 (.tup [.str "whole",.non])) p2 (.tup [.int 0,.ref p1])=H2 at e2 s2 |-;clear z1 z2;refine⟨_,rfl,b,rfl,⟨_,SqL.of (s2 _ _ hb)⟩,Hk (K:=K) (a:=b) (xs:=B9 ts) (λ i σ H'=>Same H H'/\∃c,(∃x y,σ=[some (.ref a),some (.ref b),some (.ref c),x,y])/\ChW H' c p) ⟨s2,p2,⟨none,none,rfl⟩,e2⟩ (λ i σ H' _ hp=>SqL.of (hp.1 _ _ hb)) ?_ ?_⟩
  .rintro i x σ H3 tt hx ⟨s3,c,⟨x0,y0,rfl⟩,hc⟩ nt;obtain⟨u,hu,rfl⟩:=Dg hx;have um:=List.mem_of_getElem? hu;have s4:Same H3 (upd H3 tt (.tup [.int i,.ref u.1])):=Same.new nt;have hu4:=s4 _ _ (s3 _ _ (ht u um));have ha4:=s4 _ _ (s3 _ _ ha);have hc4:=hc.same s4;refine⟨tt,_,rfl,SqT.of Ac,rfl,_,_,rfl,_,_,rfl,rfl,?_⟩;generalize upd H3 tt (.tup [.int i,.ref u.1])=H4 at s4 hu4 ha4 hc4 |-;refine⟨_,rfl,_,rfl,a,u.1,_,_,_,_,u.2,rfl,ha4,hu4,λ H5 s5=>⟨_,rfl,AG (λ c1=>?_) (λ c1=>?_)⟩⟩
   .obtain⟨m,ea,en,he,he2,ge⟩:=hc4.same s5;have hu5:=s5 _ _ hu4;refine⟨_,rfl,u.1,_,_,_,rfl,rfl,SqT.of hu5,Hw,_,rfl,c,_,_,_,rfl,rfl,SqT.of he,BM,_,_,rfl,rfl,_,rfl,AG (λ c2=>?_) (λ c2=>?_)⟩
    .refine⟨_,rfl,u.1,_,_,_,rfl,rfl,SqT.of hu5,Hw,_,rfl,As 2,λ q1 m1=>⟨As 2,λ q2 m2=>?_⟩⟩;have y1:Same H5 (upd H5 q1 (.tup [.str "whole",.int i])):=Same.new m1;have y2:Same (upd H5 q1 (.tup [.str "whole",.int i])) (upd (upd H5 q1 (.tup [.str "whole",.int i])) q2 (.tup [.int u.2.2.2.1,.ref q1])):=Same.new m2;exact⟨s3.trans (s4.trans (s5.trans (y1.trans y2))),q2,⟨_,_,rfl⟩,_,q1,.w (some (i:Int)),Ac,y2 _ _ Ac,trivial⟩
    .exact⟨s3.trans (s4.trans s5),c,⟨_,_,rfl⟩,m,ea,en,he,he2,ge⟩
   .exact Fe ⟨s3.trans (s4.trans s5),c,⟨_,_,rfl⟩,hc4.same s5⟩
  .rintro σ H3 ⟨s3,c,⟨x0,y0,rfl⟩,hc⟩;exact⟨_,rfl,q c H3 s3 hc⟩
theorem HE:Ak ["piece","kinds","flaws"] ["piece","kinds","flaws"] (Ag Cs):=fsc
theorem Gc{f:Addr}{fd:FuncData}(F:Fun K "flawed_uncut" "flawed_uncut" Cs f fd)(T:Txt mg tk)(D_lies_in:DefOk P w K mg base 1 "lies_in" ["square","piece"] Nd)(D_choice_uncut:DefOk P w K mg base 3 "choice_uncut" ["piece","kinds"] G4):FnOk P w K mg base CX0 4 f fd ["piece","kinds","flaws"] IH:=by
 have S:=HE;refine F.ok S (λ vs H Q E h=>?_) (λ cdv A outer s H vs Q E hr h=>?_)
 .obtain⟨a,b,d,p,ks,fl,rfl,_⟩:=h;rfl
 .obtain⟨a,b,d,p,ks,fl,rfl,ha,hb,few,⟨ts,ed,hd,md⟩,fewf,q⟩:=h;have lt:ts.length=fl.length:=by rw[<-md,List.length_map]
  refine⟨_,(Af (AC (Bg (Aw Qk rfl T.z_any rfl (Aa (Em rfl (Ch (pv 2)) (λ_ _ _ _ _=>(Aq (i:=0) (show List.Nodup (["flaw","piece"]:LSz) from by decide +kernel) rfl (Or.inl rfl))) (λ_ _ _ _ _=>(Au D_lies_in hr (Aa (pv 0) (Aa (pv 1) Ab)))) (N:=["flaw","piece"]) (fr:=[none,some 0])) Ab))) (Ae (Am (Au D_choice_uncut hr (Aa (pv 0) (Aa (A9 Ab) Ab))))) Ax)
   (Ae (Am (Au D_choice_uncut hr (Aa (pv 0) (Aa (pv 1) Ab)))))),?_⟩
  refine⟨_,rfl,d,rfl,⟨_,SqL.of ed⟩,λ acc na=>Jc (K:=K) (a:=d) (ys:=B9 ts) (λ j zs σ H'=>(∃y,σ=[y,some (.ref a)])/\Same H H'/\∃bs:List Bool,zs=bs.map V.bl) ⟨⟨none,rfl⟩,Same.new na,[],rfl⟩ (λ j zs σ H' _ _ hp=>SqL.of (hp.2.1 _ _ ed)) ?_ ?_⟩
  .rintro j x zs σ H1 hx hj hz hacc ⟨⟨y,rfl⟩,s1,bs,rfl⟩;obtain⟨u,hui,rfl⟩:=Dg hx;have um:=List.mem_of_getElem? hui;refine⟨_,rfl,_,rfl,u.1,a,u.2,(p.t,p.l,p.b,p.r),rfl,s1 _ _ (hd u um),s1 _ _ ha,cNx.mk (Nat.le_of_lt (A0 (by rw[AQ];lia))) hj hz hacc ⟨⟨_,rfl⟩,λ b o e=>?_,bs++[_],by rw[List.map_append];rfl⟩⟩;rw[Ai (Ah e na)];exact s1 b o e
  .rintro zs σ H1 hz hacc ⟨_,s1,bs,rfl⟩;refine⟨acc,_,rfl,SqL.of hacc,rfl,_,rfl,AG (λ c=>?_) (λ c=>?_)⟩
   .exact⟨_,rfl,As 0,λ z nz=>⟨a,z,p,[],rfl,(s1.trans (Same.new nz)) _ _ ha,⟨[],Ac,(λ t ht=>nomatch ht),rfl⟩,by decide,λ c2 H2 s2 hc2=>q c2 H2 (s1.trans ((Same.new nz).trans s2)) hc2⟩⟩
   .exact⟨_,rfl,_,rfl,a,b,p,ks,rfl,s1 _ _ ha,hb.same s1,few,λ c2 H2 s2 hc2=>q c2 H2 (s1.trans s2) hc2⟩
theorem FD{k:Nat}(D_size_of:DefOk P w K mg base k "size_of" ["rectangle"] Eg)(D_itself:DefOk P w K mg base k "itself" ["piece"] Eh)(b:Bool):DefOk P w K mg base k (kn b) (if b then ["rectangle"] else ["piece"]) (Pg b):=by
 cases b with
 |true=>exact D_size_of.imp λ vs H Q E h=>let ⟨a,p,e,ha,q⟩:=h;⟨a,_,_,_,_,e,ha,q⟩
 |false=>exact D_itself.imp λ vs H Q E h=>let ⟨a,p,e,ha,q⟩:=h;⟨.ref a,e,q a H (Same.refl H) ha⟩
theorem Ix:Ak ["piece","uncut","choices","key","choice","word","at","first","other"] ["piece","uncut","choices","key"] (Ag CO):=fsc
theorem GV{f:Addr}{fd:FuncData}(F:Fun K "best_choice" "best_choice" CO f fd)(T:Txt mg tk)(D_size_of:DefOk P w K mg base 1 "size_of" ["rectangle"] Eg)(D_itself:DefOk P w K mg base 1 "itself" ["piece"] Eh)(D_first_piece:DefOk P w K mg base 1 "first_piece" ["piece","word","at"] J1)(D_other_piece:DefOk P w K mg base 1 "other_piece" ["piece","word","at"] J0)(D_cuts_within:DefOk P w K mg base 2 "cuts_within" ["piece"] Nh):FnOk P w K mg base CX0 3 f fd ["piece","uncut","choices","key"] (Pm mg):=by
 have S:=Ix;refine F.ok S (λ vs H Q E h=>?_) (λ cdv A outer s H vs Q E hr h=>?_)
 .obtain⟨b,a,u,d,fk,p,n,D,rfl,_⟩:=h;rfl
 .obtain⟨kb,a,u,d,fk,p,n,D,rfl,hfk,ha,hu0,⟨tab,hd,_,_,look⟩,⟨w1,w2⟩,⟨h1,h2⟩,need,q⟩:=h;have hu:=Lq hr;have D_k:=FD D_size_of D_itself kb;refine⟨_,(Af (At (i:=4) S.nd rfl (Or.inl rfl) (pv 1))
   (Af (Bh PassesOwn.never rfl (Ch (Au D_cuts_within hr (Aa (pv 0) Ab))) (Cb rfl (A5 (Aq (i:=5) S.nd rfl (Or.inl rfl)) (A5 (Aq (i:=6) S.nd rfl (Or.inl rfl)) B3))) (Af (At (i:=7) S.nd rfl (Or.inl rfl) (JJ hu (pv 2) (Mm D_k hr (pv 3) (Aa (Au D_first_piece hr (Aa (pv 0) (Aa (pv 5) (Aa (pv 6) Ab)))) Ab)) (λ_ _=>rfl)))
   (Af (At (i:=8) S.nd rfl (Or.inl rfl) (JJ hu (pv 2) (Mm D_k hr (pv 3) (Aa (Au D_other_piece hr (Aa (pv 0) (Aa (pv 5) (Aa (pv 6) Ab)))) Ab)) (λ_ _=>rfl)))
   (Ae (AC (Ap CC (Az AW (Ao An (pv 7) Ad (λ_ _=>rfl)) (Ao An (pv 8) Ad (λ_ _=>rfl))) (Ao An (pv 4) Ad (λ_ _=>rfl)) (Av _)) (Ae (At (i:=4) S.nd rfl (Or.inl rfl) (A3 (Aa (Az AW (Ao An (pv 7) Ad (λ_ _=>rfl)) (Ao An (pv 8) Ad (λ_ _=>rfl))) (Aa (A3 (Aa (pv 5) (Aa (pv 6) Ab))) Ab))))) Ax)))))
   (Ae (Am (pv 4))))),?_⟩
  refine⟨_,rfl,_,rfl,a,p.t,p.l,p.b,p.r,rfl,ha,w1,w2,h1,h2,λ c H1 s1 hc=>?_⟩;obtain⟨ts,e1,e2,e3⟩:=hc;refine⟨c,rfl,⟨_,SqL.of e1⟩,DX (K:=K) (a:=c) (xs:=B9 ts) (λ i σ H'=>Same H1 H'/\∃c x5 x6 x7 x8,σ=[some (.ref a),some (.ref u),some (.ref d),some (.ref fk),some (.ref c),x5,x6,x7,x8]/\ChW H' c p) ⟨Same.refl H1,u,none,none,none,none,rfl,hu0.same s1⟩ (λ i σ H' _ hp=>SqL.of (hp.1 _ _ e1)) ?_ ?_⟩
  .rintro i x σ H2 hx ⟨s2,c,x5,x6,x7,x8,rfl,hc⟩;obtain⟨⟨ta,b,k⟩,hv,rfl⟩:=Dg hx;have tm:=List.mem_of_getElem? hv;have hta:H2 ta=some (.tup [.str (wd b),.int k]):=s2 _ _ (e2 _ tm);have cin:1<=k/\k<p.len b:=by
    have:(b,k)∈ts.map (·.2):=List.mem_map.mpr ⟨_,tm,rfl⟩;rw[e3]at this;rcases Lk this with ⟨z,k1,k2⟩|⟨z,k1,k2⟩
    .have z:b=true:=z;subst z;exact⟨k1,k2⟩
    .have z:b=false:=z;subst z;exact⟨k1,k2⟩
   obtain⟨m1,m2⟩:=need b k cin.1 cin.2;obtain⟨cA,eA,chA⟩:=look _ m1;obtain⟨cB,eB,chB⟩:=look _ m2;have s02:=s1.trans s2;refine⟨ta,_,rfl,SqT.of hta,rfl,_,_,rfl,_,_,rfl,rfl,?_⟩;refine⟨_,rfl,_,rfl,⟨fk,rfl,hfk⟩,_,rfl,_,rfl,_,rfl,a,p,b,k,rfl,s02 _ _ ha,λ x1 n1=>⟨x1,_,rfl,Ac,λ k1 H3 s3 hk1=>?_⟩⟩;have s03:=s02.trans ((Same.new n1).trans s3);have dg1:=DGet.t (k:=kv kb (p.fst b k)) (s03 _ _ hd) hk1;rw[eA]at dg1;refine⟨d,_,rfl,dg1,_,rfl,_,rfl,⟨fk,rfl,hfk⟩,_,rfl,_,rfl,_,rfl,a,p,b,k,rfl,s03 _ _ ha,λ x2 n2=>⟨x2,_,rfl,Ac,λ k2 H4 s4 hk2=>?_⟩⟩;have s34:=(Same.new (o:=.tup (p.oth b k).vs) n2).trans s4;have s04:=s03.trans s34;have dg2:=DGet.t (k:=kv kb (p.oth b k)) (s04 _ _ hd) hk2;rw[eB]at dg2;have s24:=((Same.new (o:=.tup (p.fst b k).vs) n1).trans s3).trans s34;obtain⟨mA,eaA,enA,hA,_,_⟩:=chA.same s04;obtain⟨mB,eaB,enB,hB,_,_⟩:=chB.same s04;obtain⟨m5,e5,n5,hc6,hc7,ge5⟩:=hc.same s24;refine⟨d,_,rfl,dg2,_,rfl,cA,_,_,_,rfl,rfl,SqT.of hA,BM,_,rfl,cB,_,_,_,rfl,rfl,SqT.of hB,BM,_,_,rfl,rfl,_,rfl,c,_,_,_,rfl,rfl,SqT.of hc6,BM,_,_,rfl,rfl,_,rfl,AG (λ cc=>?_) (λ cc=>?_)⟩
   .refine⟨_,rfl,cA,_,_,_,rfl,rfl,SqT.of hA,BM,_,rfl,cB,_,_,_,rfl,rfl,SqT.of hB,BM,_,_,rfl,rfl,_,rfl,_,rfl,As 2,λ q1 n1=>⟨As 2,λ q2 n2=>?_⟩⟩;have y1:Same H4 (upd H4 q1 (.tup [.str (wd b),.int k])):=Same.new n1;have y2:Same (upd H4 q1 (.tup [.str (wd b),.int k])) (upd (upd H4 q1 (.tup [.str (wd b),.int k])) q2 (.tup [.int (mA+mB),.ref q1])):=Same.new n2;exact⟨s2.trans (s24.trans (y1.trans y2)),q2,_,_,_,_,rfl,_,q1,.c b k,Ac,y2 _ _ Ac,cin⟩
   .exact⟨s2.trans s24,c,_,_,_,_,rfl,m5,e5,n5,hc6,hc7,ge5⟩
  .rintro σ H2 ⟨s2,c,x5,x6,x7,x8,rfl,hc⟩;exact⟨_,rfl,q c H2 (s1.trans s2) hc⟩
theorem LB:Ak ["choices","found","key","choice"] ["choices"] (Ag DK):=fsc
theorem JK{f:Addr}{fd:FuncData}(F:Fun K "worths_in" "worths_in" DK f fd):FnOk P w K mg base CX0 1 f fd ["choices"] Ph:=by
 have S:=LB;refine F.ok S (λ vs H Q E h=>?_) (λ cdv A outer s H vs Q E hr h=>?_)
 .obtain⟨b,d,n,D,rfl,_⟩:=h;rfl
 .obtain⟨b,d,n,D,rfl,⟨tab,hd,len,al,_⟩,few,q⟩:=h;have hu:=Lq hr;refine⟨_,(Af (At (i:=1) S.nd rfl (Or.inl rfl) GG)
   (Af (Bh PassesOwn.never rfl (Oc (pv 0)) (Cb rfl (A5 (Aq (i:=2) S.nd rfl (Or.inl rfl)) (A5 (Aq (i:=3) S.nd rfl (Or.inl rfl)) B3))) (Ae (JD hu (pv 1) (pv 2) (Ao An (pv 3) Ad (λ_ _=>rfl)) rfl)))
   (Ae (Am (pv 1))))),?_⟩
  refine λ c nc=>?_;have s1:Same H (upd H c (.dT [])):=Same.new nc;have cd:c≠d:=λ z=>by rw[z,hd]at nc;cases nc
  refine⟨_,rfl,d,_,rfl,s1 _ _ hd,λ ob=>MC (a:=d) (ob:=ob) (kvs:=tab) (λ i σ H'=>(∃x y,σ=[some (.ref d),some (.ref c),x,y])/\SameX c (upd (upd H c (.dT [])) d (.frz ob (.dT tab))) H'/\∃kk,H' c=some (.dT kk)/\kk.length<=i)
   ⟨⟨none,none,rfl⟩,SameX.refl,[],by rw[Ai cd];exact Ac,Nat.le_refl _⟩ (λ i σ H' _ hp=>hp.2.1 _ _ (Ne.symm cd) Ac) ?_ ?_⟩
  .rintro i p σ H2 t b hp ⟨⟨x0,y0,rfl⟩,s2,kk,hc,kl⟩ hb nt;have hi:i<tab.length:=(List.getElem?_eq_some_iff.mp hp).1;obtain⟨pk,pv⟩:=p;obtain⟨ch,m,x,e1,e2⟩:=al _ (List.mem_of_getElem? hp);have e1:pv=.ref ch:=e1;subst e1;have hcho:(upd (upd H c (.dT [])) d (.frz ob (.dT tab))) ch=some (.tup [.int m,x]):=by
    rw[Ai (λ z=>by rw[z,hd]at e2;cases e2),Ai (Ah e2 nc)];exact e2
   have hc2:=s2 _ _ (λ z=>by rw[z,Ai cd,Ac]at hcho;cases hcho) hcho;have s3:Same H2 (upd H2 t (.tup [.ref b,.ref ch])):=Same.new nt;refine⟨t,_,rfl,SqT.of Ac,rfl,_,_,rfl,_,_,rfl,rfl,?_⟩;refine⟨_,rfl,ch,_,_,_,rfl,rfl,SqT.of (s3 _ _ hc2),BM,_,rfl,_,rfl,c,_,rfl,DPut.t (k:=pk) (s3 _ _ hc) (s3 _ _ hb) (A0 (by lia)),⟨_,_,rfl⟩,λ x o nx ex=>?_,_,Ac,Nat.le_trans (Nm _ _ _) (by lia)⟩;rw[Ai nx];exact s3 _ _ (s2 x o nx ex)
  .rintro σ H2 ⟨⟨x0,y0,rfl⟩,s2,_⟩;refine⟨_,rfl,q _ H2 (λ x o nx ex=>?_)⟩;exact s2 x o (Ah ex nc) (by rw[Ai nx,Ai (Ah ex nc)];exact ex)
theorem Fl:Ak ["width","height","kinds","choices","wide","high","piece"] ["width","height","kinds"] (Ag BJ):=fsc
theorem EF{f:Addr}{fd:FuncData}(F:Fun K "choices_by_size" "choices_by_size" BJ f fd)(T:Txt mg tk)(D_check_sides:AT P w K mg base 3 "check_sides" ["width","height"] (Dc cc Ay))(D_check_kinds:AT P w K mg base 4 "check_kinds" ["kinds"] (EV cc))(D_choice_uncut:DefOk P w K mg base 3 "choice_uncut" ["piece","kinds"] G4)(D_best_choice:DefOk P w K mg base 3 "best_choice" ["piece","uncut","choices","key"] (Pm mg)):FnOk P w K mg base (CX1 P w) 5 f fd ["width","height","kinds"] (Me cc):=by
 have S:=Fl;have R:=T;refine F.okx S (λ vs H Q E h=>?_) (λ cdv A outer s H vs Q E hr h=>?_)
 .obtain⟨v1,v2,b,xs,gs,rfl,_⟩:=h;rfl
 .obtain⟨v1,v2,b,xs,gs,rfl,t1,t2,hxs,th,lg,rr,q⟩:=h;have hu:=Lq hr;refine⟨_,(Af (AL (BB D_check_sides hr (BC AE (DT (H:=H) (E:=E))) (Aa (pv 0) (Aa (pv 1) Ab))))
   (Af (AL (BB D_check_kinds hr (BC AE (DT (H:=H) (E:=E))) (Aa (pv 2) Ab)))
   (Af (At (i:=3) S.nd rfl (Or.inl rfl) GG)
   (Af (Bh D6 rfl (Dh rfl T.z_range (Aa Ad (Aa (Az AW (pv 0) Ad) Ab))) (Aq (i:=4) S.nd rfl (Or.inl rfl)) (Ae (Bh D6 rfl (Dh rfl T.z_range (Aa Ad (Aa (Az AW (pv 1) Ad) Ab))) (Aq (i:=5) S.nd rfl (Or.inl rfl)) (Af (At (i:=6) S.nd rfl (Or.inl rfl) (A3 (Aa Ad (Aa Ad (Aa (pv 5) (Aa (pv 4) Ab))))))
   (Ae (JD hu (pv 3) (A3 (Aa (pv 4) (Aa (pv 5) Ab))) (Au D_best_choice hr (Aa (pv 6) (Aa (Au D_choice_uncut hr (Aa (pv 6) (Aa (pv 2) Ab))) (Aa (pv 3) (Aa (Al (v:=.ref (tk.2.2.2.2.2.2.2.2.2)) rfl R.g_size_of rfl) Ab))))) rfl))))))
   (Ae (Am (pv 3))))))),?_⟩
  refine⟨_,rfl,_,rfl,v1,v2,rfl,t1,t2,λ v e=>IK (Same.refl H) (rr _ (MF e)),λ ds H1 s1=>?_⟩;refine⟨_,rfl,b,xs,gs,rfl,s1 _ _ hxs,th.mono (λ v g k=>k.same s1),lg,λ r e=>IK s1 (rr r (by rw[FK ds];exact e)),λ dk H2 s2=>λ d nd=>?_⟩;have dz:C6 Ay v1 v2 gs=none:=by rw[FK ds];exact dk
  obtain⟨f1,f2⟩:=Kc ds;obtain⟨ww,rfl,w1,w2⟩:=Bt f1;obtain⟨hh,rfl,h1,h2⟩:=Bt f2;obtain⟨ks,rfl,few⟩:=Gs dk;have hk:KindsAt H b ks:=Ln hxs th;have q:=q ww hh rfl rfl w1 w2 h1 h2 dz;have s02:=s1.trans s2;have s03:Same H (upd H2 d (.dT [])):=s02.trans (Same.new nd);have hd3:(upd H2 d (.dT [])) d=some (.dT []):=Ac;have nd0:H d=none:=Jw s02 nd;generalize upd H2 d (.dT [])=H3 at s03 hd3 |-;have eW:(ww+1-1).toNat=ww.toNat:=by rw[show ww+1-1=ww from by lia]
  have eT:(hh+1-1).toNat=hh.toNat:=by rw[show hh+1-1=hh from by lia]
  refine⟨_,rfl,_,_,rfl,rfl,1,ww+1,rfl,⟨by lia,by lia,by lia,by lia⟩,BP (lo:=1) (n:=(ww+1-1).toNat) (λ i σ H'=>(∃x4 x5 x6,σ=[some (.int ww),some (.int hh),some (.ref b),some (.ref d),x4,x5,x6])/\SameX d H3 H'/\TabV true H' d (i*hh.toNat) λ q=>(1<=q.len true/\q.len true<=(i:Int))/\1<=q.len false/\q.len false<=hh)
   ⟨⟨none,none,none,rfl⟩,SameX.refl,[],hd3,Nat.zero_le _,(λ e he=>nomatch he),λ q hq=>absurd hq.1 (by lia)⟩ ?_ ?_⟩
  .rintro i σ H4 hi ⟨⟨x4,x5,x6,rfl⟩,s4,tab⟩;rw[eW]at hi;refine⟨_,rfl,_,_,rfl,rfl,1,hh+1,rfl,⟨by lia,by lia,by lia,by lia⟩,BP (lo:=1) (n:=(hh+1-1).toNat) (λ j σ H'=>(∃x5 x6,σ=[some (.int ww),some (.int hh),some (.ref b),some (.ref d),some (.int (1+(i:Int))),x5,x6])/\SameX d H3 H'/\TabV true H' d (i*hh.toNat+j) λ q=>1<=q.len true/\(1<=q.len false/\q.len false<=hh)/\(q.len true<=(i:Int)\/(q.len true=1+(i:Int)/\q.len false<=(j:Int))))
    ⟨⟨_,_,rfl⟩,s4,?_⟩ ?_ ?_⟩
   .obtain⟨tb,a1,a2,a3,a4⟩:=tab;exact⟨tb,a1,a2,a3,λ q hq=>a4 q ⟨⟨hq.1,by lia⟩,hq.2.1⟩⟩
   .rintro j σ H5 hj ⟨⟨x5,x6,rfl⟩,s5,tab⟩;rw[eT]at hj;have s05:Same H H5:=s5.same s03 nd0;refine⟨_,rfl,_,rfl,As 4,λ p np=>?_⟩;obtain⟨H6,g,z6,hp6⟩:=nw (.tup [.int 0,.int 0,.int (1+(j:Int)),.int (1+(i:Int))]) np;rw[g];have hp6:H6 p=some (.tup (Rk.vs ⟨0,0,1+(j:Int),1+(i:Int)⟩)):=hp6;refine⟨_,rfl,_,rfl,_,rfl,p,b,⟨0,0,1+(j:Int),1+(i:Int)⟩,ks,rfl,hp6,hk.same (s05.trans z6),few,λ c H7 s7 hc=>?_⟩;have lt:Rk.len ⟨0,0,1+(j:Int),1+(i:Int)⟩ true=1+(i:Int):=Int.sub_zero _;have lf:Rk.len ⟨0,0,1+(j:Int),1+(i:Int)⟩ false=1+(j:Int):=Int.sub_zero _;refine⟨_,rfl,true,p,c,d,tk.2.2.2.2.2.2.2.2.2,⟨0,0,1+(j:Int),1+(i:Int)⟩,_,_,rfl,T.g_size_of,s7 _ _ hp6,hc,tab.same (z6.trans s7),⟨by rw[lt];lia,by rw[lt];lia⟩,⟨by rw[lf];lia,by rw[lf];lia⟩,λ u k k1 k2=>?_,λ c2 H8 s8 hc2=>?_⟩
    .cases u with
     |true =>
      rw[lt]at k2;refine⟨⟨by show 1<=0+k-0;lia,⟨by show 1<=1+(j:Int)-0;lia,by show 1+(j:Int)-0<=hh;lia⟩,.inl (by show 0+k-0<=(i:Int);lia)⟩,⟨by show 1<=1+(i:Int)-(0+k);lia,⟨by show 1<=1+(j:Int)-0;lia,by show 1+(j:Int)-0<=hh;lia⟩,.inl (by show 1+(i:Int)-(0+k)<=(i:Int);lia)⟩⟩
     |false =>
      rw[lf]at k2;refine⟨⟨by show 1<=1+(i:Int)-0;lia,⟨by show 1<=0+k-0;lia,by show 0+k-0<=hh;lia⟩,.inr ⟨Int.sub_zero _,by show 0+k-0<=(j:Int);lia⟩⟩,⟨by show 1<=1+(i:Int)-0;lia,⟨by show 1<=1+(j:Int)-(0+k);lia,by show 1+(j:Int)-(0+k)<=hh;lia⟩,.inr ⟨Int.sub_zero _,by show 1+(j:Int)-(0+k)<=(j:Int);lia⟩⟩⟩
    have s58:=z6.trans (s7.trans s8);refine⟨_,rfl,_,rfl,_,rfl,As 2,λ kt nk=>?_⟩;have s9:Same H8 (upd H8 kt (.tup [.int (1+(i:Int)),.int (1+(j:Int))])):=Same.new nk;have ekt:(upd H8 kt (.tup [.int (1+(i:Int)),.int (1+(j:Int))])) kt=some (.tup ((kv true ⟨0,0,1+(j:Int),1+(i:Int)⟩).map kV)):=by
     rw[Ac];show _=some (HO.tup [.int (1+(i:Int)-0),.int (1+(j:Int)-0)]);rw[Int.sub_zero,Int.sub_zero]
    have s59:=s58.trans s9;have hc9:=hc2.same s9;generalize upd H8 kt (.tup [.int (1+(i:Int)),.int (1+(j:Int))])=H9 at ekt s59 hc9 |-;clear s9;obtain⟨tb,a1,a2,a3,a4⟩:=tab.same s59;have ih:i*hh.toNat<=12*12:=Nat.mul_le_mul (by lia) (by lia);refine⟨d,_,rfl,DPut.t a1 ekt (A0 (by lia)),⟨_,_,rfl⟩,λ x o nx ex=>?_,TabV.put a1 a2 a3 a4 hc9 λ q hq=>?_⟩
    .rw[Ai nx];exact s59 _ _ (s5 x o nx ex)
    .by_cases z:q.len true=1+(i:Int)/\q.len false=1+(j:Int)
     .refine .inl ?_;have z1:q.r-q.l=1+(i:Int):=z.1;have z2:q.b-q.t=1+(j:Int):=z.2;show([Sum.inl (q.r-q.l),Sum.inl (q.b-q.t)]:List Key)=[Sum.inl (1+(i:Int)-0),Sum.inl (1+(j:Int)-0)];rw[z1,z2,Int.sub_zero,Int.sub_zero]
     .exact .inr ⟨hq.1,hq.2.1,by lia⟩
   .rintro σ H5 ⟨⟨x5,x6,rfl⟩,s5,tab⟩;rw[eT]at tab;obtain⟨tb,a1,a2,a3,a4⟩:=tab;refine⟨⟨_,_,_,rfl⟩,s5,tb,a1,by rw[Nat.succ_mul];exact a2,a3,λ q hq=>a4 q ⟨hq.1.1,hq.2,?_⟩⟩;by_cases e:q.len true<=(i:Int)
    .exact .inl e
    .exact .inr ⟨by lia,by lia⟩
  .rintro σ H4 ⟨⟨x4,x5,x6,rfl⟩,s4,tab⟩;rw[eW]at tab;obtain⟨tb,a1,a2,a3,a4⟩:=tab;have ih:ww.toNat*hh.toNat<=12*12:=Nat.mul_le_mul (by lia) (by lia);exact⟨_,rfl,q d H4 (s4.same s03 nd0) nd0 ⟨tb,a1,by lia,a3,λ q hq=>a4 q ⟨⟨hq.1.1,by lia⟩,hq.2⟩⟩⟩
abbrev rcK(p:Rk):Rc:=(p.t,p.l,p.b,p.r)
theorem Sq(p:Rk)(u:Bool)(k:Int):rcK (p.fst u k)=pA (rcK p) (u,k):=by cases u<;>rfl
theorem So(p:Rk)(u:Bool)(k:Int):rcK (p.oth u k)=pB (rcK p) (u,k):=by cases u<;>rfl
theorem MJ{v1 v2:V}{gs:List (Option Bp)}{hs:List (Option (Int×Int))}{r:Cl×V}(h:C6 AO v1 v2 gs=some r):Ie v1 v2 gs hs=some r:=by unfold Ie;rw[h];rfl
theorem MK{v1 v2:V}{gs:List (Option Bp)}{hs:List (Option (Int×Int))}(h:C6 AO v1 v2 gs=none):Ie v1 v2 gs hs=Bi 49 .F hs:=by unfold Ie;rw[h];rfl
theorem EM:Ak ["width","height","kinds","flaws","choices","piece"] ["width","height","kinds","flaws"] (Ag B8):=fsc
theorem Ez{f:Addr}{fd:FuncData}(F:Fun K "choices_by_piece" "choices_by_piece" B8 f fd)(T:Txt mg tk)(D_area_of:DefOk P w K mg base 1 "area_of" ["rectangle"] Nj)(D_check_flawed_sides:AT P w K mg base 3 "check_flawed_sides" ["width","height"] (Dc cc AO))(D_check_kinds:AT P w K mg base 4 "check_kinds" ["kinds"] (EV cc))(D_check_flaws:AT P w K mg base 3 "check_flaws" ["flaws","width","height"] (Pl cc))(D_pieces_within:DefOk P w K mg base 2 "pieces_within" ["width","height"] Pe)
  (D_flawed_uncut:DefOk P w K mg base 4 "flawed_uncut" ["piece","kinds","flaws"] IH) (D_best_choice:DefOk P w K mg base 3 "best_choice" ["piece","uncut","choices","key"] (Pm mg)):FnOk P w K mg base (CX1 P w) 5 f fd ["width","height","kinds","flaws"] (Mf cc):=by
 have S:=EM;have R:=T;refine F.okx S (λ vs H Q E h=>?_) (λ cdv A outer s H vs Q E hr h=>?_)
 .obtain⟨v1,v2,b,e,xs,ys,gs,hs,W,T',rfl,_⟩:=h;rfl
 .obtain⟨v1,v2,b,e,xs,ys,gs,hs,w,h,rfl,t1,t2,hxs,th,lg,hys,tf,lh,i1,i2,rr,q⟩:=h;have hu:=Lq hr;refine⟨_,(Af (AL (BB D_check_flawed_sides hr (BC AE (DT (H:=H) (E:=E))) (Aa (pv 0) (Aa (pv 1) Ab))))
   (Af (AL (BB D_check_kinds hr (BC AE (DT (H:=H) (E:=E))) (Aa (pv 2) Ab)))
   (Af (AL (BB D_check_flaws hr (BC AE (DT (H:=H) (E:=E))) (Aa (pv 3) (Aa (pv 0) (Aa (pv 1) Ab)))))
   (Af (At (i:=4) S.nd rfl (Or.inl rfl) GG)
   (Af (Bh D6 rfl (Ch (Oe D_area_of hr rfl T.z_sorted (Aa (Au D_pieces_within hr (Aa (pv 0) (Aa (pv 1) Ab))) Ab))) (Aq (i:=5) S.nd rfl (Or.inl rfl)) (Ae (JD hu (pv 4) (pv 5) (Au D_best_choice hr (Aa (pv 5) (Aa (Au D_flawed_uncut hr (Aa (pv 5) (Aa (pv 2) (Aa (pv 3) Ab)))) (Aa (pv 4) (Aa (Al (v:=.ref (tk.2.2.2.2.2.2.2.2.1)) rfl R.g_itself rfl) Ab))))) rfl)))
   (Ae (Am (pv 4)))))))),?_⟩
  refine⟨_,rfl,_,rfl,v1,v2,rfl,t1,t2,λ v e=>IK (Same.refl H) (rr _ (MJ (MF e))),λ ds H1 s1=>?_⟩;refine⟨_,rfl,b,xs,gs,rfl,s1 _ _ hxs,th.mono (λ v g k=>k.same s1),lg,λ r e=>IK s1 (rr r (MJ (by rw[FK ds];exact e))),λ dk H2 s2=>?_⟩;have dz:C6 AO v1 v2 gs=none:=by rw[FK ds];exact dk
  obtain⟨f1,f2⟩:=Kc ds;have j1:=i1 f1;have j2:=i2 f2;subst j1 j2;obtain⟨_,ew,w1,w2⟩:=II f1;cases ew;obtain⟨_,eh,h1,h2⟩:=II f2;cases eh;have s12:=s1.trans s2;refine⟨_,rfl,_,rfl,_,rfl,e,w,h,ys,hs,rfl,s12 _ _ hys,tf.mono (λ v g k=>k.same s12),lh,λ r e=>IK s12 (rr r (by rw[MK dz];exact e)),λ df H3 s3=>λ d nd=>?_⟩;have q2:=q rfl rfl w1 w2 h1 h2 (by rw[MK dz];exact df);obtain⟨ks,rfl,few⟩:=Gs dk;have hk:KindsAt H b ks:=Ln hxs th;obtain⟨fl,rfl,fewf⟩:=Gs df;have hfl:SizesAt H e fl:=PQ hys tf;have s03:=s12.trans s3;have nd0:H d=none:=Jw s03 nd;have s04:Same H (upd H3 d (.dT [])):=s03.trans (Same.new nd);have hd4:(upd H3 d (.dT [])) d=some (.dT []):=Ac;generalize upd H3 d (.dT [])=H4 at s04 hd4 |-;refine⟨_,rfl,_,rfl,w,h,rfl,by lia,w2,by lia,h2,λ c H5 s5 hc=>?_⟩;obtain⟨ts,e1,ht,mt⟩:=hc;have mem:∀p:Rc,(∃t∈ts,t.2=p)↔InS w h p:=λ p=>by
   have e:InS w h p↔p∈DO w.toNat h.toNat:=by
    rw[Oo];have ew:((w.toNat:Nat):Int)=w:=by lia
    have eh:((h.toNat:Nat):Int)=h:=by lia
    rw[ew,eh]
   rw[e,<-mt];exact⟨λ⟨t,a,b⟩=>List.mem_map.mpr ⟨t,a,b⟩,λ z=>List.mem_map.mp z⟩
  refine⟨c,Rc,ts,λ t=>hR t.2*wR t.2,rfl,SqL.of e1,λ t htm=>?_,λ l ts' nl pm srt=>?_⟩
  .have i:=(mem t.2).mp ⟨t,htm,rfl⟩;unfold InS at i;exact⟨t.1,t.2,rfl,ht t htm,by show 0<=t.2.2.2.1-t.2.1;lia,by show t.2.2.2.1-t.2.1<=100;lia,by show 0<=t.2.2.2.2-t.2.2.1;lia,by show t.2.2.2.2-t.2.2.1<=100;lia,rfl,rfl⟩
  have len':ts'.length<=784:=by
   rw[pm.length_eq,<-List.length_map (f:=λ t:Addr×Rc=>t.2),mt];exact IL (by lia) (by lia)
  have mem':∀p:Rc,p∈ts'.map (·.2)↔InS w h p:=λ p=>by
   rw[<-mem p]
   constructor
   .intro z;obtain⟨t,a,b⟩:=List.mem_map.mp z;exact⟨t,pm.mem_iff.mp a,b⟩
   .rintro⟨t,a,b⟩;exact List.mem_map.mpr ⟨t,pm.mem_iff.mpr a,b⟩
  have s6:Same H5 (upd H5 l (.lst (ts'.map λ t=>V.ref t.1))):=Same.new nl;have e6:(upd H5 l (.lst (ts'.map λ t=>V.ref t.1))) l=some (.lst (B9 ts')):=Ac;have hd6:=s6 _ _ (s5 _ _ hd4);have s06:=s04.trans (s5.trans s6);have ht6:∀t∈ts',Pc (upd H5 l (.lst (ts'.map λ t=>V.ref t.1))) t.1 t.2.1 t.2.2.1 t.2.2.2.1 t.2.2.2.2:=λ t htm=>s6 _ _ (ht t (pm.mem_iff.mp htm));generalize upd H5 l (.lst (ts'.map λ t=>V.ref t.1))=H6 at s6 e6 hd6 s06 ht6 |-;have dl:d≠l:=λ z=>by rw[z,e6]at hd6;cases hd6
  refine⟨l,rfl,⟨_,SqL.of e6⟩,DX (K:=K) (a:=l) (xs:=B9 ts') (λ i σ H'=>(∃y,σ=[some (.int w),some (.int h),some (.ref b),some (.ref e),some (.ref d),y])/\SameX d H6 H'/\TabV false H' d i λ q=>rcK q∈(ts'.map (·.2)).take i)
   ⟨⟨none,rfl⟩,SameX.refl,[],hd6,Nat.le_refl _,(λ p hp=>nomatch hp),λ p hp=>nomatch hp⟩ (λ i σ H' _ hp=>SqL.of (hp.2.1 _ _ (Ne.symm dl) e6)) ?_ ?_⟩
  .rintro i x σ H7 hx ⟨⟨y,rfl⟩,s7,tab⟩;obtain⟨t,hti,rfl⟩:=Dg hx;have tm:=List.mem_of_getElem? hti;have hi:i<ts'.length:=(List.getElem?_eq_some_iff.mp hti).1;have gi:(ts'.map (·.2))[i]?=some t.2:=by rw[List.getElem?_map,hti];rfl
   have ins:=(mem' t.2).mp (List.mem_of_getElem? gi);have tk1:(ts'.map (·.2)).take (i+1)=(ts'.map (·.2)).take i++[t.2]:=by rw[List.take_succ,gi];rfl
   have s07:Same H H7:=s7.same s06 nd0;obtain⟨pk,epk⟩:∃pk:Rk,rcK pk=t.2:=⟨⟨t.2.1,t.2.2.1,t.2.2.2.1,t.2.2.2.2⟩,rfl⟩;have hp7:H7 t.1=some (.tup pk.vs):=by
    have:=s7 _ _ (λ z=>by have:=ht6 t tm;unfold Pc at this;rw[z,hd6]at this;cases this) (ht6 t tm);rw[<-epk]at this;exact this
   have early:∀r:Rc,InS w h r->hR r*wR r<hR t.2*wR t.2->r∈(ts'.map (·.2)).take i:=λ r hr lt=>by
    obtain⟨j,hj,ej⟩:=List.getElem_of_mem ((mem' r).mpr hr);have hj':j<ts'.length:=by simpa using hj
    rcases Nat.lt_or_ge j i with ji|ji
    .exact List.mem_iff_getElem.mpr ⟨j,by rw[List.length_take,List.length_map];lia,by rw[List.getElem_take];exact ej⟩
    .exfalso;have e1:ts'[i].2=t.2:=by rw[(List.getElem?_eq_some_iff.mp hti).2]
     have e2:ts'[j].2=r:=by simpa using ej
     rcases Nat.lt_or_ge i j with ij|ij
     .have:=List.pairwise_iff_getElem.mp srt i j (by simpa using hi) (by simpa using hj') ij;rw[List.getElem_map,List.getElem_map,e1,e2]at this;lia
     .have:i=j:=by lia
      subst this;rw[e1]at e2;rw[e2]at lt;lia
   have parts:∀c k,1<=k->k<pk.len c->rcK (pk.fst c k)∈(ts'.map (·.2)).take i/\rcK (pk.oth c k)∈(ts'.map (·.2)).take i:=λ c k k1 k2=>by
    have cin:(c,k)∈Hu (wR t.2) (hR t.2):=by
     rw[<-epk];exact Rh k1 (by cases c<;>exact k2)
    obtain⟨ia,ib,_,_,ma,mb⟩:=SJ ins cin;rw[Sq,So,epk];exact⟨early _ ia ma,early _ ib mb⟩
   have inn:InR w h pk:=by rw[<-epk]at ins;exact ins
   unfold InR at inn;refine⟨_,rfl,_,rfl,_,rfl,_,rfl,t.1,b,e,pk,ks,fl,rfl,hp7,hk.same s07,few,hfl.same s07,fewf,λ c2 H8 s8 hc2=>?_⟩;refine⟨_,rfl,false,t.1,c2,d,tk.2.2.2.2.2.2.2.2.1,pk,_,_,rfl,T.g_itself,s8 _ _ hp7,hc2,tab.same s8,⟨by show 1<=pk.r-pk.l;lia,by show pk.r-pk.l<=12;lia⟩,⟨by show 1<=pk.b-pk.t;lia,by show pk.b-pk.t<=12;lia⟩,parts,λ c3 H9 s9 hc3=>?_⟩;have s79:=s8.trans s9;obtain⟨tb,a1,a2,a3,a4⟩:=tab.same s79;refine⟨_,rfl,_,rfl,d,_,rfl,DPut.t (k:=kv false pk) a1 (s79 _ _ hp7) (A0 (by lia)),⟨_,rfl⟩,λ x o nx ex=>?_,TabV.put a1 a2 a3 a4 hc3 λ q hq=>?_⟩
   .rw[Ai nx];exact s79 _ _ (s7 x o nx ex)
   .rw[tk1]at hq;rcases List.mem_append.mp hq with hq|hq
    .exact .inr hq
    .have z:=List.mem_singleton.mp hq;rw[<-epk]at z;refine .inl ?_;have z1:=(Prod.mk.inj z).1;have z2:=(Prod.mk.inj (Prod.mk.inj z).2).1;have z3:=(Prod.mk.inj (Prod.mk.inj (Prod.mk.inj z).2).2).1;have z4:=(Prod.mk.inj (Prod.mk.inj (Prod.mk.inj z).2).2).2;show([Sum.inl q.t,Sum.inl q.l,Sum.inl q.b,Sum.inl q.r]:List Key)=[Sum.inl pk.t,Sum.inl pk.l,Sum.inl pk.b,Sum.inl pk.r];rw[z1,z2,z3,z4]
  .rintro σ H7 ⟨⟨y,rfl⟩,s7,tab⟩;have e:(ts'.map (·.2)).take (B9 ts').length=ts'.map (·.2):=by rw[AQ,<-List.length_map (f:=λ x:Addr×Rc=>x.2) (as:=ts'),List.take_length]
   rw[e]at tab;obtain⟨tb,a1,a2,a3,a4⟩:=tab;exact⟨_,rfl,q2 d H7 (s7.same s06 nd0) nd0 ⟨tb,a1,by rw[AQ]at a2;lia,a3,λ q hq=>a4 q ((mem' _).mpr hq)⟩⟩
def Ig(cU cL:Addr)(u:Bool):Addr:=if u then cU else cL
abbrev wF(m:V):LFz:=Cy "mark" m []
abbrev cF(k:Int)(vx vy:V):LFz:=Cy "other" vy (Cy "first" vx (Cy "at" (.int k) []))
def Obj(cW cU cL:Addr)(H:Hp):Tr->V->Prop
 |.whole m,v=>∃a dx,v=.ref a/\H a=some (.ins cW dx (wF (C0 m)))
 |.cut u k x y,v=>∃a dx vx vy,v=.ref a/\H a=some (.ins (Ig cU cL u) dx (cF k vx vy))/\Obj cW cU cL H x vx/\Obj cW cU cL H y vy
theorem Obj.same{H H':Hp}(s:Same H H'):∀{t:Tr}{v:V},Obj cW cU cL H t v->Obj cW cU cL H' t v
 |.whole m,v,h=>by
  rw[Obj]at h |-;obtain⟨a,dx,e,h⟩:=h;exact⟨a,dx,e,s _ _ h⟩
 |.cut u k x y,v,h=>by
  rw[Obj]at h |-;obtain⟨a,dx,vx,vy,e,h,h1,h2⟩:=h;exact⟨a,dx,vx,vy,e,s _ _ h,Obj.same s h1,Obj.same s h2⟩
structure RT(mg:MGz)(K:Frag)(cT cW cU cL:Addr):Prop where
 g_Tree:mg "Tree"=some (.ref cT)
 g_Whole:mg "Whole"=some (.ref cW)
 g_Upright:mg "Upright"=some (.ref cU)
 g_Level:mg "Level"=some (.ref cL)
 iW:MX K cW
 iC:∀u,MX K (Ig cU cL u)
 n_mark:NoAttr K cW "mark"
 n_at:∀u,NoAttr K (Ig cU cL u) "at"
 n_first:∀u,NoAttr K (Ig cU cL u) "first"
 n_other:∀u,NoAttr K (Ig cU cL u) "other"
 kWW:kitOne K (.ref cW) (.ref cW)=some true
 kWC:∀u,kitOne K (.ref cW) (.ref (Ig cU cL u))=some false
 kCW:∀u,kitOne K (.ref (Ig cU cL u)) (.ref cW)=some false
 kCC:∀u v,kitOne K (.ref (Ig cU cL u)) (.ref (Ig cU cL v))=some (u==v)
 kWT:kitOne K (.ref cW) (.ref cT)=some true
 kCT:∀u,kitOne K (.ref (Ig cU cL u)) (.ref cT)=some true
inductive Qx(C:Addr)(vs:LUz)(H:Hp)(Q:VK)(E:XK):Prop
 |mk (a dx:Addr) (m:V) (h0:vs=[.ref a,m]) (h1:H a=some (.ins C dx [])) (h2:Q .non (upd H a (.ins C dx (wF m)))):Qx C vs H Q E
def IG(C:Addr) :Sp:=λ vs H Q E=>Qx C vs H Q E
inductive Qy(C:Addr)(vs:LUz)(H:Hp)(Q:VK)(E:XK):Prop
 |mk (a dx:Addr) (k:Int) (vx vy:V) (h0:vs=[.ref a,.int k,vx,vy]) (h1:H a=some (.ins C dx [])) (h2:∀H',SameX a H H'->H' a=some (.ins C dx (cF k vx vy))->Q .non H'):Qy C vs H Q E
def K8(C:Addr) :Sp:=λ vs H Q E=>Qy C vs H Q E
theorem Kn:Ak ["self","mark"] ["self","mark"] (Ag B0):=fsc
theorem E3{f:Addr}{fd:FuncData}(F:FunD K "__init__" "Whole.__init__" B0 f fd)(R:RT mg K cT cW cU cL):FnOk P w K mg base CX0 1 f fd ["self","mark"] (IG cW):=by
 have S:=Kn;refine F.ok S (λ vs H Q E h=>?_) (λ cdv A outer s H vs Q E hr h=>?_)
 .obtain⟨a,dx,m,rfl,_⟩:=h;rfl
 .obtain⟨a,dx,m,rfl,ha,q⟩:=h;refine⟨_,(Ae (ED (pv 0) (pv 1) rfl)),?_⟩;exact⟨_,rfl,_,rfl,a,cW,dx,_,rfl,ha,R.iW.cl,R.n_mark,(by show 0<1000;decide),q⟩
theorem HG:Ak ["self","at","first","other"] ["self","at","first","other"] (Ag Cv):=fsc
theorem Ge{f:Addr}{fd:FuncData}(F:Fun K "__init__" "Upright.__init__" Cv f fd)(R:RT mg K cT cW cU cL):FnOk P w K mg base CX0 1 f fd ["self","at","first","other"] (K8 cU):=by
 have S:=HG;refine F.ok S (λ vs H Q E h=>?_) (λ cdv A outer s H vs Q E hr h=>?_)
 .obtain⟨a,dx,k,vx,vy,rfl,_⟩:=h;rfl
 .obtain⟨a,dx,k,vx,vy,rfl,ha,q⟩:=h;refine⟨_,(Af (ED (pv 0) (pv 1) rfl)
   (Af (ED (pv 0) (pv 2) rfl)
   (Ae (ED (pv 0) (pv 3) rfl)))),?_⟩
  refine⟨_,rfl,_,rfl,a,cU,dx,_,rfl,ha,(R.iC true).cl,R.n_at true,(by show 0<1000;decide),?_⟩;refine⟨_,rfl,_,rfl,a,cU,dx,_,rfl,Ac,(R.iC true).cl,R.n_first true,(by show 1<1000;decide),?_⟩;refine⟨_,rfl,_,rfl,a,cU,dx,_,rfl,Ac,(R.iC true).cl,R.n_other true,(by show 2<1000;decide),?_⟩;exact q _ ((SameX.upd.trans SameX.upd).trans SameX.upd) Ac
theorem Kr:Ak ["self","at","first","other"] ["self","at","first","other"] (Ag D2):=fsc
theorem Ic{f:Addr}{fd:FuncData}(F:Fun K "__init__" "Level.__init__" D2 f fd)(R:RT mg K cT cW cU cL):FnOk P w K mg base CX0 1 f fd ["self","at","first","other"] (K8 cL):=by
 have S:=Kr;refine F.ok S (λ vs H Q E h=>?_) (λ cdv A outer s H vs Q E hr h=>?_)
 .obtain⟨a,dx,k,vx,vy,rfl,_⟩:=h;rfl
 .obtain⟨a,dx,k,vx,vy,rfl,ha,q⟩:=h;refine⟨_,(Af (ED (pv 0) (pv 1) rfl)
   (Af (ED (pv 0) (pv 2) rfl)
   (Ae (ED (pv 0) (pv 3) rfl)))),?_⟩
  refine⟨_,rfl,_,rfl,a,cL,dx,_,rfl,ha,(R.iC false).cl,R.n_at false,(by show 0<1000;decide),?_⟩;refine⟨_,rfl,_,rfl,a,cL,dx,_,rfl,Ac,(R.iC false).cl,R.n_first false,(by show 1<1000;decide),?_⟩;refine⟨_,rfl,_,rfl,a,cL,dx,_,rfl,Ac,(R.iC false).cl,R.n_other false,(by show 2<1000;decide),?_⟩;exact q _ ((SameX.upd.trans SameX.upd).trans SameX.upd) Ac
theorem Co{H:Hp}{x dx:Addr}{o1 o2:HO}(hx:H x=none)(hd:H dx=none):Same H (upd (upd H dx o1) x o2):=λ b o e=>by
 rw[Ai (Ah e hx),Ai (Ah e hd)];exact e
theorem fW(m:V):(wF m).lookup ("mark":Str)=some m:=by rw[AU,if_pos rfl]
theorem TU(k:Int)(vx vy:V):(cF k vx vy).lookup ("at":Str)=some (.int k):=by rw[AU,if_neg (by decide +kernel),AU,if_neg (by decide +kernel),AU,if_pos rfl]
theorem PY(k:Int)(vx vy:V):(cF k vx vy).lookup ("first":Str)=some vx:=by rw[AU,if_neg (by decide +kernel),AU,if_pos rfl]
theorem PV(k:Int)(vx vy:V):(cF k vx vy).lookup ("other":Str)=some vy:=by rw[AU,if_pos rfl]
theorem Pr{C:Addr}:∀u',RelV (.ref C) u'->u'=.ref C:=λ_ z=>z
def ents:Tr->List En
 |.whole m=>[.w m]
 |.cut u k x y=>.c u k::(ents x++ents y)
def Tr.nd:Tr->Nat
 |.whole _=>1
 |.cut _ _ x y=>x.nd+y.nd+1
theorem C1:∀t:Tr,(ents t).length=t.nd
 |.whole _=>rfl
 |.cut _ _ x y=>by rw[ents,List.length_cons,List.length_append,C1 x,C1 y];rfl
theorem M0:∀t:Tr,0<t.nd
 |.whole _=>Nat.one_pos
 |.cut _ _ x y=>Nat.succ_pos _
def hdE:Tr->En
 |.whole m=>.w m
 |.cut u k _ _=>.c u k
def Kp(H H':Hp):Prop:=∀b o,H b=some o->(∀xs,o≠.lst xs)->H' b=some o
theorem Dn{H H':Hp}(s:Same H H'):Kp H H':=λ b o e _=>s b o e
theorem Kp.trans{H H1 H2:Hp}(a:Kp H H1)(b:Kp H1 H2):Kp H H2:=λ c o e n=>b c o (a c o e n) n
theorem Kp.put{H:Hp}{l:Addr}{xs ys:LUz}(h:H l=some (.lst xs)):Kp H (upd H l (.lst ys)):=λ b o e n=>by
 rw[Ai (Nr e h (n xs))];exact e
theorem Obj.kp{H H':Hp}(s:Kp H H'):∀{t:Tr}{v:V},Obj cW cU cL H t v->Obj cW cU cL H' t v
 |.whole m,v,h=>by
  rw[Obj]at h |-;obtain⟨a,dx,e,h⟩:=h;exact⟨a,dx,e,s _ _ h (by intro xs z;cases z)⟩
 |.cut u k x y,v,h=>by
  rw[Obj]at h |-;obtain⟨a,dx,vx,vy,e,h,h1,h2⟩:=h;exact⟨a,dx,vx,vy,e,s _ _ h (by intro xs z;cases z),Obj.kp s h1,Obj.kp s h2⟩
def EnsAt(H:Hp):LUz->List En->Prop
 |[],[]=>True
 |v::r,e::q=>(∃a,v=.ref a/\H a=some (.tup (enV e)))/\EnsAt H r q
 |_,_=>False
theorem EnsAt.kp{H H':Hp}(s:Kp H H'):∀{vs:LUz}{es:List En},EnsAt H vs es->EnsAt H' vs es
 |[],[],_=>trivial
 |v::r,e::q,h=>⟨let ⟨a,b,c⟩:=h.1;⟨a,b,s _ _ c (by intro xs z;cases z)⟩,EnsAt.kp s h.2⟩
 |[],_::_,h=>h
 |_::_,[],h=>h
theorem EnsAt.snoc{H:Hp}{a:Addr}{e:En}(ha:H a=some (.tup (enV e))):∀{vs:LUz}{es:List En},EnsAt H vs es->EnsAt H (vs++[.ref a]) (es++[e])
 |[],[],_=>⟨⟨a,rfl,ha⟩,trivial⟩
 |v::r,e'::q,h=>⟨h.1,EnsAt.snoc ha h.2⟩
 |[],_::_,h=>h.elim
 |_::_,[],h=>h.elim
theorem EnsAt.len{H:Hp}:∀{vs:LUz}{es:List En},EnsAt H vs es->vs.length=es.length
 |[],[],_=>rfl
 |v::r,e'::q,h=>by rw[List.length_cons,List.length_cons,EnsAt.len h.2]
 |[],_::_,h=>h.elim
 |_::_,[],h=>h.elim
theorem EnsAt.get{H:Hp}:∀{vs:LUz}{es:List En}{i:Nat}{v:V},EnsAt H vs es->vs[i]?=some v->∃e a,es[i]?=some e/\v=.ref a/\H a=some (.tup (enV e))
 |v::r,e::q,0,_,h,hv=>by
  cases hv;obtain⟨a,b,c⟩:=h.1;exact⟨e,a,rfl,b,c⟩
 |v::r,e::q,i+1,_,h,hv=>EnsAt.get (i:=i) h.2 hv
 |[],[],_,_,_,hv=>by cases hv
 |[],_::_,_,_,h,_=>h.elim
 |_::_,[],_,_,h,_=>h.elim
inductive Jq(cW cU cL:Addr)(vs:LUz)(H:Hp)(Q:VK)(E:XK):Prop
 |mk (v:V) (t:Tr) (h0:vs=[v]) (h1:Obj cW cU cL H t v) (h2:∀a,H a=none->Q (.ref a) (upd H a (.tup (enV (hdE t))))):Jq cW cU cL vs H Q E
def G5(cW cU cL:Addr) :Sp:=λ vs H Q E=>Jq cW cU cL vs H Q E
inductive HP(cW cU cL:Addr)(vs:LUz)(H:Hp)(Q:VK)(E:XK):Prop
 |mk (v:V) (t:Tr) (h0:vs=[v]) (h1:Obj cW cU cL H t v) (h2:Q ((enV (hdE t)).headD .non) H):HP cW cU cL vs H Q E
def Fs(cW cU cL:Addr) :Sp:=λ vs H Q E=>HP cW cU cL vs H Q E
theorem OI:Ak ["tree"] ["tree"] (Ag Fw):=fsc
theorem Ms{f:Addr}{fd:FuncData}(F:Fun K "kind_of" "kind_of" Fw f fd)(T:Txt mg tk)(R:RT mg K cT cW cU cL):FnOk P w K mg base CX0 1 f fd ["tree"] (Fs cW cU cL):=by
 have S:=OI;refine F.ok S (λ vs H Q E h=>?_) (λ cdv A outer s H vs Q E hr h=>?_)
 .obtain⟨v,t,rfl,_⟩:=h;rfl
 .obtain⟨v,t,rfl,ho,q⟩:=h;refine⟨_,(Af (AC (Bg (Aw EL rfl T.z_isinstance rfl (Aa (pv 0) (Aa (Al (v:=.ref (cW)) rfl R.g_Whole rfl) Ab)))) (Ae (Am (Al (v:=.str "whole") rfl T.g_WHOLE ⟨_,rfl⟩))) Ax)
   (Ae (Am (Fb (Bg (Aw EL rfl T.z_isinstance rfl (Aa (pv 0) (Aa (Al (v:=.ref (cU)) rfl R.g_Upright rfl) Ab)))) (Al (v:=.str "upright") rfl T.g_UPRIGHT ⟨_,rfl⟩) (Al (v:=.str "level") rfl T.g_LEVEL ⟨_,rfl⟩))))),?_⟩
  cases t with
  |whole m =>
   rw[Obj]at ho;obtain⟨x,dx,rfl,hx⟩:=ho;exact⟨_,rfl,x,cW,dx,_,_,.ref cW,true,rfl,hx,R.iW,rfl,Pr,R.kWW,_,rfl,Cd rfl q⟩
  |cut u k y1 y2 =>
   rw[Obj]at ho;obtain⟨x,dx,w1,w2,rfl,hx,o1,o2⟩:=ho;refine⟨_,rfl,x,_,dx,_,_,.ref cW,false,rfl,hx,R.iC u,rfl,Pr,R.kCW u,_,rfl,BD rfl ?_⟩;refine⟨_,rfl,x,_,dx,_,_,.ref cU,_,rfl,hx,R.iC u,rfl,Pr,R.kCC u true,_,rfl,?_⟩;cases u with
   |true=>exact Cd rfl q
   |false=>exact BD rfl q
theorem MV:Ak ["tree","kind"] ["tree"] (Ag EA):=fsc
theorem Ld{f:Addr}{fd:FuncData}(F:Fun K "entry_of" "entry_of" EA f fd)(T:Txt mg tk)(R:RT mg K cT cW cU cL)(D_kind_of:DefOk P w K mg base 1 "kind_of" ["tree"] (Fs cW cU cL)):FnOk P w K mg base CX0 2 f fd ["tree"] (G5 cW cU cL):=by
 have S:=MV;refine F.ok S (λ vs H Q E h=>?_) (λ cdv A outer s H vs Q E hr h=>?_)
 .obtain⟨v,t,rfl,_⟩:=h;rfl
 .obtain⟨v,t,rfl,ho,q⟩:=h;refine⟨_,(Af (At (i:=1) S.nd rfl (Or.inl rfl) (Au D_kind_of hr (Aa (pv 0) Ab)))
   (Ae (Am (A3 (Aa (pv 1) (Aa (Fb (Ap BN (pv 1) (Al (v:=.str "whole") rfl T.g_WHOLE ⟨_,rfl⟩) (Av _)) (JI (pv 0) rfl) (JI (pv 0) rfl)) Ab)))))),?_⟩
  refine⟨_,rfl,_,t,rfl,ho,?_⟩;cases t with
  |whole m =>
   rw[Obj]at ho;obtain⟨x,dx,rfl,hx⟩:=ho;exact⟨_,rfl,_,rfl,rfl,_,rfl,Cd (decide_eq_true rfl) ⟨_,rfl,x,cW,dx,_,_,rfl,hx,R.iW.cl,R.n_mark,fW _,As 2,λ a ha=>q a ha⟩⟩
  |cut u k y1 y2 =>
   rw[Obj]at ho;obtain⟨x,dx,w1,w2,rfl,hx,o1,o2⟩:=ho;exact⟨_,rfl,_,rfl,rfl,_,rfl,BD (Gy u) ⟨_,rfl,x,_,dx,_,_,rfl,hx,(R.iC u).cl,R.n_at u,TU _ _ _,As 2,λ a ha=>q a ha⟩⟩
def C5(ws:List (V×Tr)):List En:=ws.reverse.flatMap λ p=>ents p.2
theorem AV(ws:List (V×Tr))(p:V×Tr):C5 (ws++[p])=ents p.2++C5 ws:=by
 unfold C5;rw[List.reverse_append,List.reverse_singleton,List.singleton_append,List.flatMap_cons]
def cnt(ws:List (V×Tr)):Nat:=(ws.map λ p=>p.2.nd).sum
theorem B7(ws:List (V×Tr))(p:V×Tr):cnt (ws++[p])=cnt ws+p.2.nd:=by
 unfold cnt;rw[List.map_append,List.sum_append,List.map_singleton,List.sum_singleton]
theorem Ey:∀ws:List (V×Tr),ws.length<=cnt ws
 |[]=>Nat.le_refl 0
 |p::r=>by
  have:=Ey r;have:=M0 p.2;show r.length+1<=p.2.nd+cnt r;lia
theorem Ew(p:V×Tr)(r:List (V×Tr)):C5 (p::r)=C5 r++ents p.2:=by
 unfold C5;rw[List.reverse_cons,List.flatMap_append,List.flatMap_cons,List.flatMap_nil,List.append_nil]
theorem Dq:∀ws:List (V×Tr),(C5 ws).length=cnt ws
 |[]=>rfl
 |p::r=>by
  rw[Ew,List.length_append,C1,Dq r];show _=p.2.nd+cnt r;lia
theorem Cq{α:Type}(ws:List α):ws=[]\/∃ws0 p,ws=ws0++[p]:=by
 by_cases h:ws=[]
 .exact .inl h
 .exact .inr ⟨ws.dropLast,ws.getLast h,(List.dropLast_concat_getLast h).symm⟩
theorem Hf{ws0:List (V×Tr)}{p:V×Tr}:((ws0++[p]).map (·.1))[((ws0++[p]).map (·.1)).length-1]?=some p.1:=by
 rw[List.length_map,List.length_append,List.length_singleton,Nat.add_sub_cancel,List.getElem?_map,List.getElem?_append_right (Nat.le_refl _),Nat.sub_self];rfl
theorem Ht{ws0:List (V×Tr)}{p:V×Tr}:((ws0++[p]).map (·.1)).dropLast=ws0.map (·.1):=by rw[List.map_append,List.map_singleton,List.dropLast_concat]
inductive FY(cW cU cL:Addr)(vs:LUz)(H:Hp)(Q:VK)(E:XK):Prop
 |mk (v:V) (t:Tr) (h0:vs=[v]) (h1:Obj cW cU cL H t v) (h2:t.nd<=400) (h3:∀l xs H',Same H H'->H l=none->H' l=some (.lst xs)->EnsAt H' xs (ents t)->Q (.ref l) H'):FY cW cU cL vs H Q E
def E5(cW cU cL:Addr) :Sp:=λ vs H Q E=>FY cW cU cL vs H Q E
abbrev Uu(cW cU cL:Addr)(H:Hp)(v:V)(t:Tr)(le lw:Addr)(m:Nat)(σ:St)(H':Hp):Prop:=∃(xs:LUz)(es:List En)(ws:List (V×Tr))(x3:Option V),σ=[some v,some (.ref le),some (.ref lw),x3]/\Same H H'/\H' le=some (.lst xs)/\EnsAt H' xs es/\H' lw=some (.lst (ws.map (·.1)))/\(∀p∈ws,Obj cW cU cL H' p.2 p.1)/\es++C5 ws=ents t/\m=cnt ws
theorem Kl:Ak ["tree","entries","waiting","part"] ["tree"] (Ag Dw):=fsc
theorem HY{f:Addr}{fd:FuncData}(F:Fun K "entries_of" "entries_of" Dw f fd)(T:Txt mg tk)(R:RT mg K cT cW cU cL)(D_entry_of:DefOk P w K mg base 2 "entry_of" ["tree"] (G5 cW cU cL)):FnOk P w K mg base CX0 3 f fd ["tree"] (E5 cW cU cL):=by
 have S:=Kl;refine F.ok S (λ vs H Q E h=>?_) (λ cdv A outer s H vs Q E hr h=>?_)
 .obtain⟨v,t,rfl,_⟩:=h;rfl
 .obtain⟨v,t,rfl,ho,hn,q⟩:=h;refine⟨_,(Af (At (i:=1) S.nd rfl (Or.inl rfl) (A9 Ab))
   (Af (At (i:=2) S.nd rfl (Or.inl rfl) (A9 (Aa (pv 0) Ab)))
   (Af (KN PassesOwn.never (KL (pv 2) (λ_=>rfl)) (Af (At (i:=3) S.nd rfl (Or.inl rfl) (F4 PySem.F.plainAttrs_list PySem.F.slot_list_pop PySem.F.type_list_pop F8 (pv 2)))
   (Af (AL (Dk PySem.F.plainAttrs_list PySem.F.slot_list_append PySem.F.type_list_append AZ (pv 1) (Aa (Au D_entry_of hr (Aa (pv 3) Ab)) Ab)))
   (Ae (AC (Bx (Bg (Aw EL rfl T.z_isinstance rfl (Aa (pv 3) (Aa (Al (v:=.ref (cW)) rfl R.g_Whole rfl) Ab))))) (Ae (AL (Dk PySem.F.plainAttrs_list PySem.F.slot_list_extend PySem.F.type_list_extend F9 (pv 2) (Aa (A9 (Aa (JI (pv 3) rfl) (Aa (JI (pv 3) rfl) Ab))) Ab)))) Ax)))))
   (Ae (Am (pv 1)))))),?_⟩
  refine⟨As 0,λ le hle=>⟨_,rfl,As 1,λ lw hlw=>?_⟩⟩;have nel:le≠lw:=Ah Ac hlw;have s0:Same H (upd (upd H le (.lst [])) lw (.lst [v])):=(Same.new hle).trans (Same.new hlw);have hlw0:H lw=none:=by
   cases e:H lw with
   |none=>rfl
   |some o=>rw[Same.new hle _ _ e]at hlw;cases hlw
  refine⟨Uu cW cU cL H v t le lw,
   ⟨_,[],[],[(v,t)],none,rfl,s0,by rw[Ai nel];exact Ac,trivial,Ac,λ p hp=>?_,?_,rfl⟩,?_⟩
  .rw[List.mem_singleton.mp hp];exact ho.same s0
  .show ents t++[]=ents t;exact List.append_nil _
  rintro m σ H' ⟨xs,es,ws,x3,rfl,s1,hl,hen,hw,hob,heq,rfl⟩;have tot:es.length+cnt ws=t.nd:=by rw[<-C1,<-heq,List.length_append,Dq]
  rcases Cq ws with rfl|⟨ws0,p,rfl⟩
  .refine⟨_,rfl,_,.inl ⟨_,SqL.of hw,rfl⟩,BD rfl ⟨_,rfl,q le xs H' s1 hle hl ?_⟩⟩;rw[<-heq];show EnsAt H' xs (es++[]);rw[List.append_nil];exact hen
  .refine⟨_,rfl,_,.inl ⟨_,SqL.of hw,rfl⟩,Cd (by simp) ⟨λ σ' H''=>∃m',m'<cnt (ws0++[p])/\Uu cW cU cL H v t le lw m' σ' H'',λ σ' H'' z=>z,?_⟩⟩;refine⟨_,rfl,.inl ⟨rfl,_,SqL.of hw⟩,lw,_,p.1,rfl,rfl,hw,Hf,?_⟩;rw[Ht];have k2:Kp H' (upd H' lw (.lst (ws0.map (·.1)))):=Kp.put hw;have s2:Same H (upd H' lw (.lst (ws0.map (·.1)))):=λ b o e=>by rw[Ai (Ah e hlw0)];exact s1 b o e
   have l2:(upd H' lw (.lst (ws0.map (·.1)))) le=some (.lst xs):=by rw[Ai nel];exact hl
   have w2:(upd H' lw (.lst (ws0.map (·.1)))) lw=some (.lst (ws0.map (·.1))):=Ac;generalize upd H' lw (.lst (ws0.map (·.1)))=H2 at k2 s2 l2 w2 |-;have op:=(hob p (by simp)).kp k2;have ob0:∀r∈ws0,Obj cW cU cL H2 r.2 r.1:=λ r hr=>(hob r (List.mem_append_left _ hr)).kp k2;have hen2:=hen.kp k2;rw[AV]at heq;rw[B7]at tot;have hxl:=hen.len;have np:=M0 p.2;refine⟨_,rfl,.inl ⟨rfl,_,SqL.of l2⟩,_,rfl,p.1,p.2,rfl,op,λ a ha=>?_⟩;obtain⟨H3,g,s3,a3⟩:=nw (.tup (enV (hdE p.2))) ha;rw[g];have l3:=s3 _ _ l2;refine⟨le,xs,.ref a,rfl,rfl,l3,A0 (by lia),?_⟩;have k4:Kp H3 (upd H3 le (.lst (xs++[.ref a]))):=Kp.put l3;have s4:Same H (upd H3 le (.lst (xs++[.ref a]))):=λ b o e=>by rw[Ai (Ah e hle)];exact s3 b o (s2 b o e)
   have l4:(upd H3 le (.lst (xs++[.ref a]))) le=some (.lst (xs++[.ref a])):=Ac;have w4:(upd H3 le (.lst (xs++[.ref a]))) lw=some (.lst (ws0.map (·.1))):=by rw[Ai (Ne.symm nel)];exact s3 _ _ w2
   have en4:EnsAt (upd H3 le (.lst (xs++[.ref a]))) (xs++[.ref a]) (es++[hdE p.2]):=((hen2.kp (Dn s3)).kp k4).snoc (k4 _ _ a3 (by intro xs z;cases z));have kk:=(Dn s3).trans k4;generalize upd H3 le (.lst (xs++[.ref a]))=H4 at k4 s4 l4 w4 en4 kk |-;have op4:=op.kp kk;have ob4:∀r∈ws0,Obj cW cU cL H4 r.2 r.1:=λ r hr=>(ob0 r hr).kp kk;obtain⟨pv,pt⟩:=p;cases pt with
   |whole m =>
    rw[Obj]at op4;obtain⟨x,dx,rfl,hx⟩:=op4;refine⟨_,rfl,x,cW,dx,_,_,.ref cW,true,rfl,hx,R.iW,rfl,Pr,R.kWW,_,rfl,BD rfl ?_⟩;refine⟨cnt ws0,by rw[B7];exact Nat.lt_succ_self _,_,_,ws0,_,rfl,s4,l4,en4,w4,ob4,?_,rfl⟩;rw[<-heq,List.append_assoc];rfl
   |cut u k y1 y2 =>
    rw[Obj]at op4;obtain⟨x,dx,v1,v2,rfl,hx,o1,o2⟩:=op4;refine⟨_,rfl,x,_,dx,_,_,.ref cW,false,rfl,hx,R.iC u,rfl,Pr,R.kCW u,_,rfl,Cd rfl ?_⟩;refine⟨_,rfl,.inl ⟨rfl,_,SqL.of w4⟩,_,rfl,x,_,dx,_,_,rfl,hx,(R.iC u).cl,R.n_other u,PV _ _ _,_,rfl,x,_,dx,_,_,rfl,hx,(R.iC u).cl,R.n_first u,PY _ _ _,As 2,λ l5 hl5=>?_⟩;obtain⟨H5,g,s5,e5⟩:=nw (.lst [v2,v1]) hl5;rw[g];have cl:=Ey ws0;have ndp:(Tr.cut u k y1 y2).nd=y1.nd+y2.nd+1:=rfl;refine⟨lw,l5,_,_,rfl,rfl,s5 _ _ w4,e5,Nat.le_of_lt (A0 (by show(ws0.map (·.1)).length+2<=1000;rw[List.length_map];lia)),?_⟩;have k6:Kp H5 (upd H5 lw (.lst (ws0.map (·.1)++[v2,v1]))):=Kp.put (s5 _ _ w4);have kk6:=(Dn s5).trans k6;refine⟨cnt (ws0++[(v2,y2)]++[(v1,y1)]),?_,xs++[.ref a],es++[.c u k],ws0++[(v2,y2)]++[(v1,y1)],_,rfl,λ b o e=>?_,?_,en4.kp kk6,?_,λ r hr=>?_,?_,rfl⟩
    .rw[B7,B7,B7];show cnt ws0+y2.nd+y1.nd<cnt ws0+(y1.nd+y2.nd+1);lia
    .rw[Ai (Ah e hlw0)];exact s5 b o (s4 b o e)
    .rw[Ai nel];exact s5 _ _ l4
    .rw[Ac,List.map_append,List.map_append,List.append_assoc];rfl
    .rcases List.mem_append.mp hr with hr|hr
     .rcases List.mem_append.mp hr with hr|hr
      .exact(ob4 r hr).kp kk6
      .rw[List.mem_singleton.mp hr];exact o2.kp kk6
     .rw[List.mem_singleton.mp hr];exact o1.kp kk6
    .rw[AV,AV,<-heq];show es++[.c u k]++(ents y1++(ents y2++C5 ws0))=es++(.c u k::(ents y1++ents y2)++C5 ws0);simp[List.append_assoc]
def Dr:Tr->Int->Int->Option Int
 |.whole _,_,_=>none
 |.cut u k x y,w,h=>if u then (if 1<=k/\k<w then (Dr x k h).or (Dr y (w-k) h) else some k) else (if 1<=k/\k<h then (Dr x w k).or (Dr y w (h-k)) else some k)
def OD(p:Rk)(t:Tr):Option Int:=Dr t (p.r-p.l) (p.b-p.t)
theorem Qm{p:Rk}{u:Bool}{k:Int}{x y:Tr}:OD p (.cut u k x y)=if 1<=k/\k<p.len u then (OD (p.fst u k) x).or (OD (p.oth u k) y) else some k:=by
 unfold OD Rk.len Rk.fst Rk.oth;rw[Dr];cases u with
 |true =>
  show(if 1<=k/\k<p.r-p.l then (Dr x k (p.b-p.t)).or (Dr y (p.r-p.l-k) (p.b-p.t)) else some k)=(if 1<=k/\k<p.r-p.l then (Dr x (p.l+k-p.l) (p.b-p.t)).or (Dr y (p.r-(p.l+k)) (p.b-p.t)) else some k);rw[show p.l+k-p.l=k by lia,show p.r-(p.l+k)=p.r-p.l-k by lia]
 |false =>
  show(if 1<=k/\k<p.b-p.t then (Dr x (p.r-p.l) k).or (Dr y (p.r-p.l) (p.b-p.t-k)) else some k)=(if 1<=k/\k<p.b-p.t then (Dr x (p.r-p.l) (p.t+k-p.t)).or (Dr y (p.r-p.l) (p.b-(p.t+k))) else some k);rw[show p.t+k-p.t=k by lia,show p.b-(p.t+k)=p.b-p.t-k by lia]
def JY:Tr->Rk->List (Rk×Option Int)
 |.whole m,p=>[(p,m)]
 |.cut u k x y,p=>JY x (p.fst u k)++JY y (p.oth u k)
abbrev PT:=Addr×Addr×Rk×Option Int
abbrev pcs(ts:List PT):LUz:=ts.map λ t=>V.ref t.1
abbrev cons(ts:List PT):List (Rk×Option Int):=ts.map λ t=>t.2.2
def PcO(H:Hp)(ts:List PT):Prop:=∀t∈ts,H t.1=some (.tup [.ref t.2.1,C0 t.2.2.2])/\H t.2.1=some (.tup t.2.2.1.vs)
theorem PcO.same{H H':Hp}{ts:List PT}(s:Same H H')(h:PcO H ts):PcO H' ts:=λ t ht=>⟨s _ _ (h t ht).1,s _ _ (h t ht).2⟩
theorem PcO.n{H H':Hp}{ts:List PT}(s:SameN H H')(h:PcO H ts):PcO H' ts:=λ t ht=>⟨s.tup (h t ht).1,s.tup (h t ht).2⟩
theorem PcO.perm{H:Hp}{ts us:List PT}(h:PcO H ts)(e:us.Perm ts):PcO H us:=λ t ht=>h t (e.mem_iff.mp ht)
def wt:En->Int
 |.w _=>1
 |.c _ _=>-1
def wts(es:List En):Int:=(es.map wt).sum
theorem Jv(a b:List En):wts (a++b)=wts a+wts b:=by
 unfold wts;rw[List.map_append,List.sum_append]
theorem Ks(e:En)(b:List En):wts (e::b)=wt e+wts b:=by
 unfold wts;rw[List.map_cons,List.sum_cons]
theorem CY:∀t:Tr,wts (ents t)=1
 |.whole _=>rfl
 |.cut u k x y=>by
  rw[ents,Ks,Jv,CY x,CY y];rfl
theorem Gv:∀ws:List (V×Tr),wts (C5 ws)=ws.length
 |[]=>rfl
 |p::r=>by rw[Ew,Jv,CY,Gv r,List.length_cons];lia
theorem Ju:∀(t:Tr)(a b:List En),ents t=a++b->b≠[]->1<=wts b
 |.whole m,a,b,h,hb=>by
  have h:[En.w m]=a++b:=h;cases a with
  |nil=>rw[List.nil_append]at h;rw[<-h];exact Int.le_refl 1
  |cons e r =>
   have:=congrArg List.length h;simp only[List.length_append,List.length_cons,List.length_nil]at this;exact absurd (List.length_eq_zero_iff.mp (by lia)) hb
 |.cut u k x y,a,b,h,hb=>by
  cases a with
  |nil =>
   rw[List.nil_append]at h;rw[<-h,CY];decide
  |cons e r =>
   rw[ents,List.cons_append]at h;have h2:=List.cons.inj h |>.2;rcases List.append_eq_append_iff.mp h2 with ⟨c,hc,hd⟩|⟨c,hc,hd⟩
   .exact Ju y c b hd hb
   .rw[hd,Jv,CY];by_cases e:c=[]
    .rw[e];decide
    .have:=Ju x r c hc e;lia
theorem Hr:∀(t t':Tr)(r r':List En),ents t++r=ents t'++r'->t=t'/\r=r'
 |.whole m,.whole m',r,r',h=>by
  have h:En.w m::r=En.w m'::r':=h;injection h with h1 h2;injection h1 with h1;exact⟨by rw[h1],h2⟩
 |.whole m,.cut u k x y,r,r',h=>by
  have h:En.w m::r=En.c u k::(ents x++ents y++r'):=h;injection h with h1 _;cases h1
 |.cut u k x y,.whole m,r,r',h=>by
  have h:En.c u k::(ents x++ents y++r)=En.w m::r':=h;injection h with h1 _;cases h1
 |.cut u k x y,.cut u' k' x' y',r,r',h=>by
  have h:En.c u k::(ents x++ents y++r)=En.c u' k'::(ents x'++ents y'++r'):=h;injection h with h1 h2;injection h1 with h3 h4;rw[List.append_assoc,List.append_assoc]at h2;obtain⟨e1,h5⟩:=Hr x x' _ _ h2;obtain⟨e2,h6⟩:=Hr y y' _ _ h5;exact⟨by rw[h3,h4,e1,e2],h6⟩
inductive FZ(cW cU cL:Addr)(vs:LUz)(H:Hp)(Q:VK)(E:XK):Prop
 |mk (u:Bool) (k:Int) (v1 v2:V) (y1 y2:Tr) (h0:vs=[.str (wd u),.int k,v1,v2]) (h1:Obj cW cU cL H y1 v1) (h2:Obj cW cU cL H y2 v2) (h3:∀v' H',Same H H'->Obj cW cU cL H' (.cut u k y1 y2) v'->Q v' H'):FZ cW cU cL vs H Q E
def E6(cW cU cL:Addr) :Sp:=λ vs H Q E=>FZ cW cU cL vs H Q E
theorem MW:Ak ["word","at","first","other"] ["word","at","first","other"] (Ag EB):=fsc
theorem Le{f:Addr}{fd:FuncData}(F:Fun K "cut_from" "cut_from" EB f fd)(T:Txt mg tk)(K_Upright:LK P w K mg base 1 "Upright" cU ["self","at","first","other"] (K8 cU))(K_Level:LK P w K mg base 1 "Level" cL ["self","at","first","other"] (K8 cL)) :
  FnOk P w K mg base CX0 3 f fd ["word","at","first","other"] (E6 cW cU cL):=by
 have S:=MW;refine F.ok S (λ vs H Q E h=>?_) (λ cdv A outer s H vs Q E hr h=>?_)
 .obtain⟨u,k,v1,v2,y1,y2,rfl,_⟩:=h;rfl
 .obtain⟨u,k,v1,v2,y1,y2,rfl,o1,o2,q⟩:=h;refine⟨_,(Af (AC (Ap BN (pv 0) (Al (v:=.str "upright") rfl T.g_UPRIGHT ⟨_,rfl⟩) (Av _)) (Ae (Am (KP K_Upright hr (Aa (pv 1) (Aa (pv 2) (Aa (pv 3) Ab)))))) Ax)
   (Ae (Am (KP K_Level hr (Aa (pv 1) (Aa (pv 2) (Aa (pv 3) Ab))))))),?_⟩
  cases u with
  |true =>
   refine⟨_,rfl,rfl,_,rfl,Cd (DI true true) ⟨_,rfl,_,rfl,_,rfl,λ x dx nx ndx nex=>⟨x,dx,k,v1,v2,rfl,Ac,λ H3 s3 e3=>⟨rfl,?_⟩⟩⟩⟩;have s4:Same H H3:=λ b o e=>s3 b o (Ah e nx) (Co nx ndx b o e);exact q _ _ s4 (by rw[Obj];exact⟨x,dx,v1,v2,rfl,e3,o1.same s4,o2.same s4⟩)
  |false =>
   refine⟨_,rfl,rfl,_,rfl,BD (DI false true) ⟨_,rfl,_,rfl,_,rfl,λ x dx nx ndx nex=>⟨x,dx,k,v1,v2,rfl,Ac,λ H3 s3 e3=>⟨rfl,?_⟩⟩⟩⟩;have s4:Same H H3:=λ b o e=>s3 b o (Ah e nx) (Co nx ndx b o e);exact q _ _ s4 (by rw[Obj];exact⟨x,dx,v1,v2,rfl,e3,o1.same s4,o2.same s4⟩)
inductive LQ(K:Frag)(cW cU cL:Addr)(vs:LUz)(H:Hp)(Q:VK)(E:XK):Prop
 |mk (l:Addr) (xs:LUz) (t:Tr) (h0:vs=[.ref l]) (h1:SqL K H l xs) (h2:EnsAt H xs (ents t)) (h3:t.nd<=400) (h4:∀v' H',Same H H'->Obj cW cU cL H' t v'->Q v' H'):LQ K cW cU cL vs H Q E
def J9(K:Frag)(cW cU cL:Addr) :Sp:=λ vs H Q E=>LQ K cW cU cL vs H Q E
theorem LC:Ak ["entries","done","word","number","first","other"] ["entries"] (Ag DL):=fsc
theorem O4{es:List En}{i:Nat}{e:En}(hi:i<es.length)(h:es[es.length-1-i]?=some e):es.drop (es.length-(i+1))=e::es.drop (es.length-i):=by
 have hk:es.length-1-i<es.length:=by lia
 rw[show es.length-(i+1)=es.length-1-i by lia,List.drop_eq_getElem_cons hk];rw[List.getElem?_eq_getElem hk]at h;rw[Option.some.inj h,show es.length-1-i+1=es.length-i by lia]
theorem JL{f:Addr}{fd:FuncData}(F:Fun K "tree_from" "tree_from" DL f fd)(T:Txt mg tk)(R:RT mg K cT cW cU cL)(K_Whole:LK P w K mg base 1 "Whole" cW ["self","mark"] (IG cW))(D_cut_from:DefOk P w K mg base 3 "cut_from" ["word","at","first","other"] (E6 cW cU cL)) :
  FnOk P w K mg base CX0 4 f fd ["entries"] (J9 K cW cU cL):=by
 have S:=LC;refine F.ok S (λ vs H Q E h=>?_) (λ cdv A outer s H vs Q E hr h=>?_)
 .obtain⟨l,xs,t,rfl,_⟩:=h;rfl
 .obtain⟨l,xs,t,rfl,hl,hen,hn,q⟩:=h;refine⟨_,(Af (At (i:=1) S.nd rfl (Or.inl rfl) (A9 Ab))
   (Af (Bh PassesOwn.never rfl (QL rfl T.z_reversed (Aa (pv 0) Ab)) (Cb rfl (A5 (Aq (i:=2) S.nd rfl (Or.inl rfl)) (A5 (Aq (i:=3) S.nd rfl (Or.inl rfl)) B3))) (Ae (AC (Ap BN (pv 2) (Al (v:=.str "whole") rfl T.g_WHOLE ⟨_,rfl⟩) (Av _)) (Ae (AL (Dk PySem.F.plainAttrs_list PySem.F.slot_list_append PySem.F.type_list_append AZ (pv 1) (Aa (KP K_Whole hr (Aa (pv 3) Ab)) Ab)))) (Af (At (i:=4) S.nd rfl (Or.inl rfl) (F4 PySem.F.plainAttrs_list PySem.F.slot_list_pop PySem.F.type_list_pop F8 (pv 1)))
   (Af (At (i:=5) S.nd rfl (Or.inl rfl) (F4 PySem.F.plainAttrs_list PySem.F.slot_list_pop PySem.F.type_list_pop F8 (pv 1)))
   (Ae (AL (Dk PySem.F.plainAttrs_list PySem.F.slot_list_append PySem.F.type_list_append AZ (pv 1) (Aa (Au D_cut_from hr (Aa (pv 2) (Aa (pv 3) (Aa (pv 4) (Aa (pv 5) Ab))))) Ab)))))))))
   (Ae (Am (F4 PySem.F.plainAttrs_list PySem.F.slot_list_pop PySem.F.type_list_pop F8 (pv 1)))))),?_⟩
  refine⟨As 0,λ ld hld=>⟨_,rfl,l,xs,rfl,(Same.new hld).seq hl,?_⟩⟩;have hxl:=hen.len;have hel:=C1 t;refine Rr (K:=K) (a:=l) (xs:=xs) (λ i σ H'=>∃(ws:List (V×Tr))(x2 x3 x4 x5:Option V),σ=[some (.ref l),some (.ref ld),x2,x3,x4,x5]/\Same H H'/\H' ld=some (.lst (ws.map (·.1)))/\(∀p∈ws,Obj cW cU cL H' p.2 p.1)/\(ents t).drop ((ents t).length-i)=C5 ws)
   ⟨[],_,_,_,_,rfl,Same.new hld,Ac,(λ p hp=>(nomatch hp)),by rw[Nat.sub_zero,List.drop_length];rfl⟩ (λ i σ H' _ hp=>let ⟨_,_,_,_,_,_,s,_⟩:=hp;s.seq hl) ?_ ?_
  .rintro i v σ H' hv hi ⟨ws,x2,x3,x4,x5,rfl,s1,hd,hob,heq⟩;obtain⟨e,a,he,rfl,ha⟩:=hen.get hv;have ha':=s1 _ _ ha;rw[hxl]at he hi;have hdr:=O4 hi he;have wl:ws.length<=400:=by
    have h1:=Ey ws;have h2:=Dq ws;rw[<-heq,List.length_drop]at h2;lia
   cases e with
   |w m =>
    refine⟨a,_,rfl,SqT.of ha',rfl,_,_,rfl,_,_,rfl,rfl,?_⟩;refine⟨_,rfl,rfl,_,rfl,Cd (decide_eq_true rfl) ?_⟩;refine⟨_,rfl,.inl ⟨rfl,_,SqL.of hd⟩,_,rfl,λ x dx nx ndx nex=>⟨x,dx,_,rfl,Ac,rfl,?_⟩⟩;have s2:Same H' (upd (upd (upd H' dx (.own x)) x (.ins cW dx [])) x (.ins cW dx (wF (C0 m)))):=λ b o e=>by
     rw[Ai (Ah e nx)];exact Co nx ndx b o e
    have e2:(upd (upd (upd H' dx (.own x)) x (.ins cW dx [])) x (.ins cW dx (wF (C0 m)))) x=some (.ins cW dx (wF (C0 m))):=Ac;generalize upd (upd (upd H' dx (.own x)) x (.ins cW dx [])) x (.ins cW dx (wF (C0 m)))=H2 at s2 e2 |-;have d2:=s2 _ _ hd;refine⟨ld,_,.ref x,rfl,rfl,d2,A0 (by rw[List.length_map];lia),?_⟩;have k3:Kp H2 (upd H2 ld (.lst (ws.map (·.1)++[.ref x]))):=Kp.put d2;refine⟨ws++[(.ref x,.whole m)],_,_,_,_,rfl,λ b o e=>?_,?_,λ p hp=>?_,?_⟩
    .rw[Ai (Ah e hld)];exact s2 b o (s1 b o e)
    .rw[Ac,List.map_append];rfl
    .rcases List.mem_append.mp hp with hp|hp
     .exact((hob p hp).same s2).kp k3
     .rw[List.mem_singleton.mp hp,Obj];exact⟨x,dx,rfl,k3 _ _ e2 (by intro xs z;cases z)⟩
    .rw[hdr,heq,AV];rfl
   |c u k =>
    have big:2<=ws.length:=by
     have h1:=Ju t ((ents t).take ((ents t).length-(i+1))) ((ents t).drop ((ents t).length-(i+1))) (List.take_append_drop _ _).symm (by rw[hdr];intro z;cases z);rw[hdr,heq,Ks,Gv]at h1;have:wt (.c u k)=-1:=rfl;lia
    obtain rfl|⟨ws1,p1,rfl⟩:=Cq ws
    .exact absurd big (by decide)
    obtain rfl|⟨ws2,p2,rfl⟩:=Cq ws1
    .exact absurd big (by simp)
    refine⟨a,_,rfl,SqT.of ha',rfl,_,_,rfl,_,_,rfl,rfl,?_⟩;refine⟨_,rfl,rfl,_,rfl,BD (Gy u) ?_⟩;refine⟨_,rfl,.inl ⟨rfl,_,SqL.of hd⟩,ld,_,p1.1,rfl,rfl,hd,Hf,?_⟩;rw[Ht];have k2:Kp H' (upd H' ld (.lst ((ws2++[p2]).map (·.1)))):=Kp.put hd;have s2:Same H (upd H' ld (.lst ((ws2++[p2]).map (·.1)))):=λ b o e=>by rw[Ai (Ah e hld)];exact s1 b o e
    have d2:(upd H' ld (.lst ((ws2++[p2]).map (·.1)))) ld=some (.lst ((ws2++[p2]).map (·.1))):=Ac;generalize upd H' ld (.lst ((ws2++[p2]).map (·.1)))=H2 at k2 s2 d2 |-;refine⟨_,rfl,.inl ⟨rfl,_,SqL.of d2⟩,ld,_,p2.1,rfl,rfl,d2,Hf,?_⟩;rw[Ht];have k3:Kp H2 (upd H2 ld (.lst (ws2.map (·.1)))):=Kp.put d2;have s3:Same H (upd H2 ld (.lst (ws2.map (·.1)))):=λ b o e=>by rw[Ai (Ah e hld)];exact s2 b o e
    have d3:(upd H2 ld (.lst (ws2.map (·.1)))) ld=some (.lst (ws2.map (·.1))):=Ac;generalize upd H2 ld (.lst (ws2.map (·.1)))=H3 at k3 s3 d3 |-;have kk:=k2.trans k3;refine⟨_,rfl,.inl ⟨rfl,_,SqL.of d3⟩,_,rfl,_,rfl,_,rfl,_,rfl,u,k,p1.1,p2.1,p1.2,p2.2,rfl,(hob p1 (by simp)).kp kk,(hob p2 (by simp)).kp kk,λ v' H4 s4 o4=>?_⟩;have d4:=s4 _ _ d3;rw[List.length_append,List.length_append]at wl;refine⟨ld,_,v',rfl,rfl,d4,A0 (by rw[List.length_map];lia),?_⟩;have k5:Kp H4 (upd H4 ld (.lst (ws2.map (·.1)++[v']))):=Kp.put d4;refine⟨ws2++[(v',.cut u k p1.2 p2.2)],_,_,_,_,rfl,λ b o e=>?_,?_,λ p hp=>?_,?_⟩
    .rw[Ai (Ah e hld)];exact s4 b o (s3 b o e)
    .rw[Ac,List.map_append];rfl
    .rcases List.mem_append.mp hp with hp|hp
     .exact((((hob p (by simp[hp])).kp kk).same s4)).kp k5
     .rw[List.mem_singleton.mp hp];exact o4.kp k5
    .rw[hdr,heq,AV,AV,AV];show .c u k::(ents p1.2++(ents p2.2++C5 ws2))=.c u k::(ents p1.2++ents p2.2)++C5 ws2;rw[List.cons_append,List.append_assoc]
  .rintro σ H' ⟨ws,x2,x3,x4,x5,rfl,s1,hd,hob,heq⟩;rw[hxl,Nat.sub_self,List.drop_zero]at heq;have one:ws.length=1:=by
    have h1:=CY t;rw[heq,Gv]at h1;lia
   obtain⟨p,rfl⟩:∃p,ws=[p]:=by
    match ws,one with
    |[p],_=>exact⟨p,rfl⟩
   have hp:=hob p (by simp);have et:p.2=t:=by
    have h1:ents t++[]=ents p.2++[]:=by
     rw[List.append_nil,heq];rfl
    exact(Hr _ _ _ _ h1).1.symm
   refine⟨_,rfl,.inl ⟨rfl,_,SqL.of hd⟩,ld,_,p.1,rfl,rfl,hd,rfl,?_⟩;rw[et]at hp;exact q _ _ (λ b o e=>by rw[Ai (Ah e hld)];exact s1 b o e) (hp.kp (Kp.put hd))
theorem Io:Ak ["piece","word","at"] ["piece","word","at"] (Ag CJ):=fsc
theorem GP{f:Addr}{fd:FuncData}(F:Fun K "first_piece" "first_piece" CJ f fd)(T:Txt mg tk):FnOk P w K mg base CX0 1 f fd ["piece","word","at"] J1:=by
 have S:=Io;refine F.ok S (λ vs H Q E h=>?_) (λ cdv A outer s H vs Q E hr h=>?_)
 .obtain⟨a,p,u,k,rfl,_⟩:=h;rfl
 .obtain⟨a,p,u,k,rfl,ha,q⟩:=h;refine⟨_,(Af (AC (Ap BN (pv 1) (Al (v:=.str "upright") rfl T.g_UPRIGHT ⟨_,rfl⟩) (Av _)) (Ae (Am (A3 (Aa (Ao An (pv 0) Ad (λ_ _=>rfl)) (Aa (Ao An (pv 0) Ad (λ_ _=>rfl)) (Aa (Ao An (pv 0) Ad (λ_ _=>rfl)) (Aa (Az AW (Ao An (pv 0) Ad (λ_ _=>rfl)) (pv 2)) Ab))))))) Ax)
   (Ae (Am (A3 (Aa (Ao An (pv 0) Ad (λ_ _=>rfl)) (Aa (Ao An (pv 0) Ad (λ_ _=>rfl)) (Aa (Az AW (Ao An (pv 0) Ad (λ_ _=>rfl)) (pv 2)) (Aa (Ao An (pv 0) Ad (λ_ _=>rfl)) Ab)))))))),?_⟩
  cases u with
  |true=>exact⟨_,rfl,rfl,_,rfl,Cd (DI true true) ⟨_,rfl,a,_,_,_,rfl,rfl,SqT.of ha,at0,_,rfl,a,_,_,_,rfl,rfl,SqT.of ha,at1,_,rfl,a,_,_,_,rfl,rfl,SqT.of ha,at2,_,rfl,a,_,_,_,rfl,rfl,SqT.of ha,at1,_,rfl,_,_,rfl,rfl,As 4,q⟩⟩
  |false=>exact⟨_,rfl,rfl,_,rfl,BD (DI false true) ⟨_,rfl,a,_,_,_,rfl,rfl,SqT.of ha,at0,_,rfl,a,_,_,_,rfl,rfl,SqT.of ha,at1,_,rfl,a,_,_,_,rfl,rfl,SqT.of ha,at0,_,rfl,_,_,rfl,rfl,_,rfl,a,_,_,_,rfl,rfl,SqT.of ha,at3,As 4,q⟩⟩
theorem Ik:Ak ["piece","word","at"] ["piece","word","at"] (Ag CH):=fsc
theorem GM{f:Addr}{fd:FuncData}(F:Fun K "other_piece" "other_piece" CH f fd)(T:Txt mg tk):FnOk P w K mg base CX0 1 f fd ["piece","word","at"] J0:=by
 have S:=Ik;refine F.ok S (λ vs H Q E h=>?_) (λ cdv A outer s H vs Q E hr h=>?_)
 .obtain⟨a,p,u,k,rfl,_⟩:=h;rfl
 .obtain⟨a,p,u,k,rfl,ha,q⟩:=h;refine⟨_,(Af (AC (Ap BN (pv 1) (Al (v:=.str "upright") rfl T.g_UPRIGHT ⟨_,rfl⟩) (Av _)) (Ae (Am (A3 (Aa (Ao An (pv 0) Ad (λ_ _=>rfl)) (Aa (Az AW (Ao An (pv 0) Ad (λ_ _=>rfl)) (pv 2)) (Aa (Ao An (pv 0) Ad (λ_ _=>rfl)) (Aa (Ao An (pv 0) Ad (λ_ _=>rfl)) Ab))))))) Ax)
   (Ae (Am (A3 (Aa (Az AW (Ao An (pv 0) Ad (λ_ _=>rfl)) (pv 2)) (Aa (Ao An (pv 0) Ad (λ_ _=>rfl)) (Aa (Ao An (pv 0) Ad (λ_ _=>rfl)) (Aa (Ao An (pv 0) Ad (λ_ _=>rfl)) Ab)))))))),?_⟩
  cases u with
  |true=>exact⟨_,rfl,rfl,_,rfl,Cd (DI true true) ⟨_,rfl,a,_,_,_,rfl,rfl,SqT.of ha,at0,_,rfl,a,_,_,_,rfl,rfl,SqT.of ha,at1,_,rfl,_,_,rfl,rfl,_,rfl,a,_,_,_,rfl,rfl,SqT.of ha,at2,_,rfl,a,_,_,_,rfl,rfl,SqT.of ha,at3,As 4,q⟩⟩
  |false=>exact⟨_,rfl,rfl,_,rfl,BD (DI false true) ⟨_,rfl,a,_,_,_,rfl,rfl,SqT.of ha,at0,_,rfl,_,_,rfl,rfl,_,rfl,a,_,_,_,rfl,rfl,SqT.of ha,at1,_,rfl,a,_,_,_,rfl,rfl,SqT.of ha,at2,_,rfl,a,_,_,_,rfl,rfl,SqT.of ha,at3,As 4,q⟩⟩
inductive Jr(cN:Addr)(vs:LUz)(H:Hp)(Q:VK)(E:XK):Prop
 |mk (a:Addr) (p:Rk) (u:Bool) (k:Int) (h0:vs=[.ref a,.str (wd u),.int k]) (h1:H a=some (.tup p.vs)) (h2:((1<=k/\k<p.len u)->Q .non H)) (h3:(¬(1<=k/\k<p.len u)->Rf H E cN λ fs _=>fs=[(("at":Str),.int k)])):Jr cN vs H Q E
def K9(cN:Addr) :Sp:=λ vs H Q E=>Jr cN vs H Q E
theorem LI:Ak ["piece","word","at","length"] ["piece","word","at"] (Ag BR):=fsc
theorem JQ{f:Addr}{fd:FuncData}{cN:Addr}(F:Fun K "check_cut" "check_cut" BR f fd)(T:Txt mg tk)(X_NoCut:Cf P w K mg base 1 "NoCut" cN ["self","at"] ["at"])(D_is_whole:DefOk P w K mg base 1 "is_whole" ["thing"] Db):FnOk P w K mg base (CX1 P w) 3 f fd ["piece","word","at"] (K9 cN):=by
 have S:=LI;refine F.okx S (λ vs H Q E h=>?_) (λ cdv A outer s H vs Q E hr h=>?_)
 .obtain⟨a,p,u,k,rfl,_⟩:=h;rfl
 .obtain⟨a,p,u,k,rfl,ha,q,r⟩:=h;obtain⟨tt,htt,fin⟩:∃rd,PSs (BF (CX1 P w) P w K mg base ["piece","word","at","length"] "check_cut" (Ag BR) f cdv A outer s H E) ((Ar BR).drop 1) rd /\
    rd { nx:=λ_ H'=>Q .non H',rt:=Q } [some (.ref a),some (.str (wd u)),some (.int k),some (.int (p.len u))] H:=by
   refine⟨_,(Ae (AC (PW.pt (DQ (Bx (Bg (Au D_is_whole hr (Aa (pv 2) Ab)))) (CT (Bx (KM DD DV Ad (pv 2) (pv 3)))))) (Ae (BV AE X_NoCut hr (Aa (pv 2) Ab))) Ax)),?_⟩;refine⟨_,rfl,.int k,rfl,⟨_,rfl⟩,_,rfl,BD rfl ?_⟩;refine⟨_,rfl,_,_,rfl,rfl,_,rfl,AG (λ h1=>?_) (λ h1=>?_)⟩
   .refine⟨_,rfl,_,_,rfl,rfl,_,rfl,?_⟩;have h1':=of_decide_eq_true h1;by_cases h2:k<p.len u
    .exact BD (by rw[decide_eq_true h2];rfl) (q ⟨h1',h2⟩)
    .exact Cd (by rw[decide_eq_false h2];rfl) ⟨_,rfl,rfl,λ y dx T H2 hy s2 e ed nd hT nT=>(r λ z=>h2 z.2).raise (Same.refl H) hy s2 e ed nd hT rfl⟩
   .have h1':=of_decide_eq_false h1;exact⟨_,rfl,Cd rfl ⟨_,rfl,rfl,λ y dx T H2 hy s2 e ed nd hT nT=>(r λ z=>h1' z.1).raise (Same.refl H) hy s2 e ed nd hT rfl⟩⟩
  refine⟨_,(Af (At (i:=3) S.nd rfl (Or.inl rfl) (Fb (Ap BN (pv 1) (Al (v:=.str "upright") rfl T.g_UPRIGHT ⟨_,rfl⟩) (Av _)) (Az EE (Ao An (pv 0) Ad (λ_ _=>rfl)) (Ao An (pv 0) Ad (λ_ _=>rfl))) (Az EE (Ao An (pv 0) Ad (λ_ _=>rfl)) (Ao An (pv 0) Ad (λ_ _=>rfl)))))
   htt),?_⟩
  cases u with
  |true=>exact⟨_,rfl,rfl,_,rfl,Cd (DI true true) ⟨_,rfl,a,_,_,_,rfl,rfl,SqT.of ha,at3,_,rfl,a,_,_,_,rfl,rfl,SqT.of ha,at1,_,_,rfl,rfl,fin⟩⟩
  |false=>exact⟨_,rfl,rfl,_,rfl,BD (DI false true) ⟨_,rfl,a,_,_,_,rfl,rfl,SqT.of ha,at2,_,rfl,a,_,_,_,rfl,rfl,SqT.of ha,at0,_,_,rfl,rfl,fin⟩⟩
def PsAt(H:Hp)(ws:List (Addr×Rk×Tr)):Prop:=∀p∈ws,H p.1=some (.tup p.2.1.vs)
abbrev trs(ws:List (Addr×Rk×Tr)):List (V×Tr):=ws.map λ p=>(V.ref p.1,p.2.2)
abbrev AI(ws:List (Addr×Rk×Tr)):LUz:=ws.map λ p=>V.ref p.1
theorem PsAt.kp{H H':Hp}{ws:List (Addr×Rk×Tr)}(h:PsAt H ws)(k:Kp H H'):PsAt H' ws:=λ p hp=>k _ _ (h p hp) (by intro xs z;cases z)
theorem FC{ws0:List (Addr×Rk×Tr)}{p:Addr×Rk×Tr}:(AI (ws0++[p]))[(AI (ws0++[p])).length-1]?=some (.ref p.1):=by
 rw[List.length_map,List.length_append,List.length_singleton,Nat.add_sub_cancel,List.getElem?_map,List.getElem?_append_right (Nat.le_refl _),Nat.sub_self];rfl
theorem FL{ws0:List (Addr×Rk×Tr)}{p:Addr×Rk×Tr}:(AI (ws0++[p])).dropLast=AI ws0:=by
 show(List.map (λ p=>V.ref p.1) (ws0++[p])).dropLast=_;rw[List.map_append,List.map_singleton,List.dropLast_concat]
theorem Bs(ws:List (Addr×Rk×Tr))(p:Addr×Rk×Tr):trs (ws++[p])=trs ws++[(V.ref p.1,p.2.2)]:=by
 show List.map (λ p=>(V.ref p.1,p.2.2)) (ws++[p])=_;rw[List.map_append];rfl
theorem El(ws:List (Addr×Rk×Tr))(p:Addr×Rk×Tr):AI (ws++[p])=AI ws++[V.ref p.1]:=by
 show List.map (λ p=>V.ref p.1) (ws++[p])=_;rw[List.map_append];rfl
theorem PcO.kp{H H':Hp}{ts:List PT}(h:PcO H ts)(k:Kp H H'):PcO H' ts:=λ t ht=>⟨k _ _ (h t ht).1 (by intro xs z;cases z),k _ _ (h t ht).2 (by intro xs z;cases z)⟩
theorem KQ(ts:List PT)(t:PT):pcs (ts++[t])=pcs ts++[V.ref t.1]:=by
 show List.map (λ p=>V.ref p.1) (ts++[t])=_;rw[List.map_append];rfl
theorem O8(ts:List PT)(t:PT):cons (ts++[t])=cons ts++[t.2.2]:=by
 show List.map (λ p=>p.2.2) (ts++[t])=_;rw[List.map_append];rfl
def PN(ws:List (Addr×Rk×Tr)):List (Rk×Option Int):=ws.reverse.flatMap λ p=>JY p.2.2 p.2.1
theorem Ev(ws:List (Addr×Rk×Tr))(p:Addr×Rk×Tr):PN (ws++[p])=JY p.2.2 p.2.1++PN ws:=by
 unfold PN;rw[List.reverse_append,List.reverse_singleton,List.singleton_append,List.flatMap_cons]
def Rs(ws:List (Addr×Rk×Tr)):Option Int:=ws.foldl (λ b p=>(OD p.2.1 p.2.2).or b) none
theorem FH(ws:List (Addr×Rk×Tr))(p:Addr×Rk×Tr):Rs (ws++[p])=(OD p.2.1 p.2.2).or (Rs ws):=by
 unfold Rs;rw[List.foldl_append];rfl
inductive NF(cW cU cL cN:Addr)(vs:LUz)(H:Hp)(Q:VK)(E:XK):Prop
 |mk (v:V) (t:Tr) (ww hh:Int) (h0:vs=[v,.int ww,.int hh]) (h1:Obj cW cU cL H t v) (h2:t.nd<=400) (h3:(Dr t ww hh=none->∀l ts H',Same H H'->H l=none->H' l=some (.lst (pcs ts))->PcO H' ts->cons ts=JY t ⟨0,0,hh,ww⟩->Q (.ref l) H')) (h4:(∀k,Dr t ww hh=some k->Rf H E cN λ fs _=>fs=[(("at":Str),.int k)])):NF cW cU cL cN vs H Q E
def Md(cW cU cL cN:Addr) :Sp:=λ vs H Q E=>NF cW cU cL cN vs H Q E
theorem OM:Ak ["tree","width","height","found","waiting","word","number","piece"] ["tree","width","height"] (Ag F0):=fsc
theorem Mw{f:Addr}{fd:FuncData}{cN:Addr}(F:Fun K "cut_out" "cut_out" F0 f fd)(T:Txt mg tk)(D_entries_of:DefOk P w K mg base 3 "entries_of" ["tree"] (E5 cW cU cL))(D_check_cut:AT P w K mg base 3 "check_cut" ["piece","word","at"] (K9 cN))
  (D_first_piece:DefOk P w K mg base 1 "first_piece" ["piece","word","at"] J1) (D_other_piece:DefOk P w K mg base 1 "other_piece" ["piece","word","at"] J0):FnOk P w K mg base (CX1 P w) 4 f fd ["tree","width","height"] (Md cW cU cL cN):=by
 have S:=OM;refine F.okx S (λ vs H Q E h=>?_) (λ cdv A outer s H vs Q E hr h=>?_)
 .obtain⟨v,t,ww,hh,rfl,_⟩:=h;rfl
 .obtain⟨v,t,ww,hh,rfl,ho,hn,q,r⟩:=h;refine⟨_,(Af (At (i:=3) S.nd rfl (Or.inl rfl) (A9 Ab))
   (Af (At (i:=4) S.nd rfl (Or.inl rfl) (A9 (Aa (A3 (Aa Ad (Aa Ad (Aa (pv 2) (Aa (pv 1) Ab))))) Ab)))
   (Af (Bh D6 rfl (Ch (Au D_entries_of hr (Aa (pv 0) Ab))) (Cb rfl (A5 (Aq (i:=5) S.nd rfl (Or.inl rfl)) (A5 (Aq (i:=6) S.nd rfl (Or.inl rfl)) B3))) (Af (At (i:=7) S.nd rfl (Or.inl rfl) (F4 PySem.F.plainAttrs_list PySem.F.slot_list_pop PySem.F.type_list_pop F8 (pv 4)))
   (Ae (AC (Ap BN (pv 5) (Al (v:=.str "whole") rfl T.g_WHOLE ⟨_,rfl⟩) (Av _)) (Ae (AL (Dk PySem.F.plainAttrs_list PySem.F.slot_list_append PySem.F.type_list_append AZ (pv 3) (Aa (A3 (Aa (pv 7) (Aa (pv 6) Ab))) Ab)))) (Af (AL (BB D_check_cut hr (BC AE (DT (H:=H) (E:=E))) (Aa (pv 7) (Aa (pv 5) (Aa (pv 6) Ab)))))
   (Af (AL (Dk PySem.F.plainAttrs_list PySem.F.slot_list_append PySem.F.type_list_append AZ (pv 4) (Aa (Au D_other_piece hr (Aa (pv 7) (Aa (pv 5) (Aa (pv 6) Ab)))) Ab)))
   (Ae (AL (Dk PySem.F.plainAttrs_list PySem.F.slot_list_append PySem.F.type_list_append AZ (pv 4) (Aa (Au D_first_piece hr (Aa (pv 7) (Aa (pv 5) (Aa (pv 6) Ab)))) Ab))))))))))
   (Ae (Am (pv 3)))))),?_⟩
  refine⟨As 0,λ lf hlf=>⟨_,rfl,_,rfl,As 4,λ t0 ht0=>⟨As 1,λ lw hlw=>?_⟩⟩⟩;obtain⟨HA,g,sA,eA⟩:=nw (.lst []) hlf;rw[g] at ht0 hlw |-;obtain⟨HB,g,sB,eB⟩:=nw (.tup [.int 0,.int 0,.int hh,.int ww]) ht0;rw[g] at hlw |-;have sC:Same HB (upd HB lw (.lst [.ref t0])):=Same.new hlw;have eC:(upd HB lw (.lst [.ref t0])) lw=some (.lst [.ref t0]):=Ac;have nfw:lf≠lw:=Ah (sB _ _ eA) hlw;have hlw0:H lw=none:=by
   cases e:H lw with
   |none=>rfl
   |some o=>rw[sB _ _ (sA _ _ e)]at hlw;cases hlw
  generalize upd HB lw (.lst [.ref t0])=HC at sC eC |-;have SC:=(sA.trans sB).trans sC;refine⟨_,rfl,v,t,rfl,ho.same SC,hn,λ le xs HD sD nle hle hen=>?_⟩;have hxl:=hen.len;have hel:=C1 t;have nlf:le≠lf:=Ne.symm (Ah ((sB.trans sC) _ _ eA) nle);have nlw:le≠lw:=Ne.symm (Ah eC nle);refine⟨le,rfl,⟨_,SqL.of hle⟩,DX (K:=K) (a:=le) (xs:=xs) (λ i σ H'=>∃(ts:List PT)(ws:List (Addr×Rk×Tr))(x5 x6 x7:Option V),σ=[some v,some (.int ww),some (.int hh),some (.ref lf),some (.ref lw),x5,x6,x7]/\Same H H'/\H' le=some (.lst xs)/\EnsAt H' xs (ents t) /\
    H' lf=some (.lst (pcs ts))/\PcO H' ts/\ts.length<=i/\H' lw=some (.lst (AI ws))/\PsAt H' ws/\(ents t).drop i=C5 (trs ws)/\Dr t ww hh=Rs ws/\JY t ⟨0,0,hh,ww⟩=cons ts++PN ws)
   ⟨[],[(t0,⟨0,0,hh,ww⟩,t)],_,_,_,rfl,SC.trans sD,hle,hen,(sD _ _ ((sB.trans sC) _ _ eA)),(λ t ht=>(nomatch ht)),Nat.le_refl _,sD _ _ eC,(λ p hp=>by rw[List.mem_singleton.mp hp];exact sD _ _ (sC _ _ eB)),?_,?_,?_⟩ (λ i σ H' _ hp=>by obtain⟨_,_,_,_,_,_,_,h,_⟩:=hp;exact SqL.of h) ?_ ?_⟩
  .show ents t=C5 [(V.ref t0,t)];rw[Ew];rfl
  .show Dr t ww hh=(Dr t (ww-0) (hh-0)).or none;rw[Option.or_none,Int.sub_zero,Int.sub_zero]
  .have:=Ev [] (t0,(⟨0,0,hh,ww⟩:Rk),t);show JY t ⟨0,0,hh,ww⟩=PN ([]++[(t0,(⟨0,0,hh,ww⟩:Rk),t)]);rw[this];exact(List.append_nil _).symm
  .rintro i x σ H' hx ⟨ts,ws,x5,x6,x7,rfl,s1,l1,en1,f1,pc,fl1,w1,p1,heq,hbad,hg⟩;obtain⟨e,a,he,rfl,ha⟩:=en1.get hx;obtain⟨hi,hei⟩:=List.getElem?_eq_some_iff.mp he;have hdr:(ents t).drop i=e::(ents t).drop (i+1):=by rw[List.drop_eq_getElem_cons hi,hei]
   rw[hdr]at heq;have wl:ws.length<=400:=by
    have h1:=Ey (trs ws);have h2:=Dq (trs ws);rw[<-heq,<-hdr,List.length_drop]at h2;rw[List.length_map]at h1;lia
   obtain rfl|⟨ws0,p,rfl⟩:=Cq ws
   .cases heq
   have hp0:=p1 p (by simp);rw[Bs,AV]at heq;rw[FH]at hbad;rw[Ev]at hg;obtain⟨pa,pk,pt⟩:=p;have body:∀w0:V,(enV e)=[w0,(enV e).getD 1 .non]->True:=λ_ _=>trivial;have k2:Kp H' (upd H' lw (.lst (AI ws0))):=Kp.put w1;have s2:Same H (upd H' lw (.lst (AI ws0))):=λ b o e=>by rw[Ai (Ah e hlw0)];exact s1 b o e
   have l2:(upd H' lw (.lst (AI ws0))) le=some (.lst xs):=by rw[Ai nlw];exact l1
   have f2:(upd H' lw (.lst (AI ws0))) lf=some (.lst (pcs ts)):=by rw[Ai nfw];exact f1
   have w2:(upd H' lw (.lst (AI ws0))) lw=some (.lst (AI ws0)):=Ac;have ps0:PsAt H' ws0:=λ r hr=>p1 r (List.mem_append_left _ hr);cases pt with
   |whole m =>
    have heq:e::(ents t).drop (i+1)=.w m::C5 (trs ws0):=heq;injection heq with he1 he2;subst he1;refine⟨a,_,rfl,SqT.of ha,rfl,_,_,rfl,_,_,rfl,rfl,?_⟩;refine⟨_,rfl,.inl ⟨rfl,_,SqL.of w1⟩,lw,_,_,rfl,rfl,w1,FC,?_⟩;rw[FL];generalize upd H' lw (.lst (AI ws0))=H2 at k2 s2 l2 f2 w2 |-;refine⟨_,rfl,rfl,_,rfl,Cd (decide_eq_true rfl) ?_⟩;refine⟨_,rfl,.inl ⟨rfl,_,SqL.of f2⟩,_,rfl,_,rfl,As 2,λ t3 ht3=>?_⟩;obtain⟨H3,g,s3,e3⟩:=nw (.tup [.ref pa,C0 m]) ht3;rw[g];have f3:=s3 _ _ f2;refine⟨lf,pcs ts,_,rfl,rfl,f3,A0 (by rw[List.length_map];lia),?_⟩;have k4:Kp H3 (upd H3 lf (.lst (pcs ts++[.ref t3]))):=Kp.put f3;have kk:=(k2.trans (Dn s3)).trans k4;have hpa:=kk _ _ hp0 (by intro xs z;cases z);refine⟨ts++[(t3,pa,pk,m)],ws0,_,_,_,rfl,λ b o e=>?_,?_,en1.kp kk,by rw[Ac,KQ],?_,by rw[List.length_append,List.length_singleton];lia,?_,ps0.kp kk,he2,?_,?_⟩
    .rw[Ai (Ah e hlf)];exact s3 b o (s2 b o e)
    .rw[Ai nlf];exact s3 _ _ l2
    .intro t ht;rcases List.mem_append.mp ht with ht|ht
     .exact pc.kp kk t ht
     .rw[List.mem_singleton.mp ht];exact⟨k4 _ _ e3 (by intro xs z;cases z),hpa⟩
    .rw[Ai (Ne.symm nfw)];exact s3 _ _ w2
    .exact hbad
    .rw[hg,O8,List.append_assoc];rfl
   |cut u k y1 y2 =>
    have heq:e::(ents t).drop (i+1)=.c u k::(ents y1++ents y2)++C5 (trs ws0):=heq;rw[List.cons_append]at heq;injection heq with he1 he2;subst he1;refine⟨a,_,rfl,SqT.of ha,rfl,_,_,rfl,_,_,rfl,rfl,?_⟩;refine⟨_,rfl,.inl ⟨rfl,_,SqL.of w1⟩,lw,_,_,rfl,rfl,w1,FC,?_⟩;rw[FL];have hp2:=k2 _ _ hp0 (by intro xs z;cases z);generalize upd H' lw (.lst (AI ws0))=H2 at k2 s2 l2 f2 w2 hp2 |-;refine⟨_,rfl,rfl,_,rfl,BD (Gy u) ?_⟩;have fc:=Qm (p:=pk) (u:=u) (k:=k) (x:=y1) (y:=y2);rw[fc]at hbad;refine⟨_,rfl,_,rfl,_,rfl,pa,pk,u,k,rfl,hp2,λ ok=>?_,λ bad=>Tq s2 (r k (by rw[hbad,if_neg bad];rfl)) Pb⟩;rw[if_pos ok,Option.or_assoc]at hbad;refine⟨_,rfl,.inl ⟨rfl,_,SqL.of w2⟩,_,rfl,_,rfl,_,rfl,pa,pk,u,k,rfl,hp2,λ t3 ht3=>?_⟩;obtain⟨H3,g,s3,e3⟩:=nw (.tup (pk.oth u k).vs) ht3;rw[g];have w3:=s3 _ _ w2;rw[List.length_append,List.length_singleton]at wl;refine⟨lw,_,_,rfl,rfl,w3,A0 (by rw[List.length_map];lia),?_⟩;have k4:Kp H3 (upd H3 lw (.lst (AI ws0++[.ref t3]))):=Kp.put w3;have s4:Same H (upd H3 lw (.lst (AI ws0++[.ref t3]))):=λ b o e=>by rw[Ai (Ah e hlw0)];exact s3 b o (s2 b o e)
    have l4:(upd H3 lw (.lst (AI ws0++[.ref t3]))) le=some (.lst xs):=by rw[Ai nlw];exact s3 _ _ l2
    have f4:(upd H3 lw (.lst (AI ws0++[.ref t3]))) lf=some (.lst (pcs ts)):=by rw[Ai nfw];exact s3 _ _ f2
    have w4:(upd H3 lw (.lst (AI ws0++[.ref t3]))) lw=some (.lst (AI ws0++[.ref t3])):=Ac;have kk4:=(Dn s3).trans k4;generalize upd H3 lw (.lst (AI ws0++[.ref t3]))=H4 at k4 s4 l4 f4 w4 kk4 |-;have hp4:=kk4 _ _ hp2 (by intro xs z;cases z);have e4:=k4 _ _ e3 (by intro xs z;cases z);refine⟨_,rfl,.inl ⟨rfl,_,SqL.of w4⟩,_,rfl,_,rfl,_,rfl,pa,pk,u,k,rfl,hp4,λ t5 ht5=>?_⟩;obtain⟨H5,g,s5,e5⟩:=nw (.tup (pk.fst u k).vs) ht5;rw[g];have w5:=s5 _ _ w4;refine⟨lw,_,_,rfl,rfl,w5,A0 (by rw[List.length_append,List.length_map,List.length_singleton];lia),?_⟩;have k6:Kp H5 (upd H5 lw (.lst (AI ws0++[.ref t3]++[.ref t5]))):=Kp.put w5;have kk6:=(Dn s5).trans k6;have kall:=(k2.trans kk4).trans kk6;refine⟨ts,ws0++[(t3,pk.oth u k,y2)]++[(t5,pk.fst u k,y1)],_,_,_,rfl,λ b o e=>?_,?_,en1.kp kall,?_,pc.kp kall,by lia,?_,λ r hr=>?_,?_,?_,?_⟩
    .rw[Ai (Ah e hlw0)];exact s5 b o (s4 b o e)
    .rw[Ai nlw];exact s5 _ _ l4
    .rw[Ai nfw];exact s5 _ _ f4
    .rw[Ac,El,El]
    .rcases List.mem_append.mp hr with hr|hr
     .rcases List.mem_append.mp hr with hr|hr
      .exact kall _ _ (ps0 r hr) (by intro xs z;cases z)
      .rw[List.mem_singleton.mp hr];exact kk6 _ _ e4 (by intro xs z;cases z)
     .rw[List.mem_singleton.mp hr];exact k6 _ _ e5 (by intro xs z;cases z)
    .rw[he2,Bs,Bs,AV,AV,List.append_assoc]
    .rw[hbad,FH,FH]
    .rw[hg,JY,Ev,Ev,List.append_assoc]
  .rintro σ H' ⟨ts,ws,x5,x6,x7,rfl,s1,l1,en1,f1,pc,fl1,w1,p1,heq,hbad,hg⟩;rw[hxl,List.drop_length]at heq;have wn:ws=[]:=by
    have h1:=Ey (trs ws);have h2:=Dq (trs ws);rw[<-heq]at h2;rw[List.length_map]at h1;exact List.length_eq_zero_iff.mp (by simp at h2;lia)
   subst wn;exact⟨_,rfl,q hbad lf ts H' s1 hlf f1 pc (by rw[hg];exact(List.append_nil _).symm)⟩
def Ra:Expr:=match (Ar Bu).getD 1 (.Pass ⟨0,0,0,0⟩) with
 |.Return (some (.Call _ _ [k] _)) _=>k.value
 |_=>.Constant .none 0 ⟨0,0,0,0⟩
def TD:Arguments:=match Ra with|.Lambda p _ _ _=>p|_=>Bk Bu
def S3:Expr:=match Ra with|.Lambda _ b _ _=>b|e=>e
def QY:Scope:=match Ra with|.Lambda _ _ s _=>s|_=>Ag Bu
def QZ:Pos:=match Ra with|.Lambda _ _ _ q=>q|_=>⟨0,0,0,0⟩
def Ou:Str:="pieces.<locals>.<lambda>"
theorem Ug:Ak ["piece"] ["piece"] QY:=fsc
def R6(H:Hp)(l:Addr):Prop:=∀o,H l=some o->∃ps,o=.tbl ps
theorem T9{H H':Hp}{l:Addr}(s:SameN H H')(h:H' l=none):R6 H l:=λ o e=>Classical.byContradiction λ z=>by
 have:=s l o e (λ ps e'=>z ⟨ps,e'⟩);rw[h]at this;cases this
theorem Obj.n{H H':Hp}(s:SameN H H'):∀{t:Tr}{v:V},Obj cW cU cL H t v->Obj cW cU cL H' t v
 |.whole m,v,h=>by
  rw[Obj]at h |-;obtain⟨a,dx,e,h⟩:=h;exact⟨a,dx,e,s _ _ h λ_ z=>nomatch z⟩
 |.cut u k x y,v,h=>by
  rw[Obj]at h |-;obtain⟨a,dx,vx,vy,e,h,h1,h2⟩:=h;exact⟨a,dx,vx,vy,e,s _ _ h (λ_ z=>nomatch z),Obj.n s h1,Obj.n s h2⟩
def trK(k:Int):Tr:=.cut true k (.whole (some 999)) (.whole none)
theorem Uc{k ww hh:Int}:Dr (trK k) ww hh=if 1<=k/\k<ww then none else some k:=rfl
theorem RO{k:Int}{p:Rk}:JY (trK k) p=[(p.fst true k,some 999),(p.oth true k,none)]:=rfl
inductive HL(tb cW cU cL:Addr)(cc:Cc)(vs:LUz)(H:Hp)(Q:VK)(E:XK):Prop
 |mk (v:V) (k ww hh:Int) (h0:vs=[v,.int ww,.int hh]) (h1:Obj cW cU cL H (trK k) v) (h2:TabOk QZ Ou tb H) (h3:(1<=ww/\ww<=12)) (h4:(1<=hh/\hh<=12)) (h5:(¬(1<=k/\k<ww)->RfC cc H E (.C,.int k))) (h6:((1<=k/\k<ww)->∀l ts H',SameX tb H H'->TabOk QZ Ou tb H'->H' l=some (.lst (pcs ts))->PcO H' ts->(cons ts).Perm [(Rk.fst ⟨0,0,hh,ww⟩ true k,some 999),(Rk.oth ⟨0,0,hh,ww⟩ true k,none)]->Q (.ref l) H')):HL tb cW cU cL cc vs H Q E
def Fr(tb cW cU cL:Addr)(cc:Cc) :Sp:=λ vs H Q E=>HL tb cW cU cL cc vs H Q E
theorem Qo:Ak ["tree","width","height"] ["tree","width","height"] (Ag Bu):=fsc
theorem Df{x:Int}(h1:1<=x)(h2:x<=12):Ay (.int x)=true:=by
 show(decide (1<=x)&&decide (x<=12))=true;rw[decide_eq_true h1,decide_eq_true h2];rfl
theorem Oh{f:Addr}{fd:FuncData}{c tb:Addr}(F:FunC K "pieces" "pieces" Bu f fd c)(T:Txt mg tk)(hC:FO K c tb=true)(hB:R8 K mg)(D_check_sides:AT P w K mg base 3 "check_sides" ["width","height"] (Dc cc Ay))(D_cut_out:AT P w K mg base 4 "cut_out" ["tree","width","height"] (Md cW cU cL (cc .C))) :
  FnOk P w K mg base (CX1 P w) 5 f fd ["tree","width","height"] (Fr tb cW cU cL cc):=by
 have S:=Qo;refine F.okx S (λ vs H Q E h=>?_) (λ A outer s H vs Q E hr h=>?_)
 .obtain⟨v,k,ww,hh,rfl,_⟩:=h;rfl
 .obtain⟨v,k,ww,hh,rfl,ho,tab,⟨w1,w2⟩,⟨h1,h2⟩,r,q⟩:=h;have hlam:=Pz (X:=BF (CX1 P w) P w K mg base ["tree","width","height"] "pieces" (Ag Bu) f (.ref c) A outer s H E) (params:=TD) (body:=S3) (scope:=QY) (pos:=QZ) (qual:=Ou) (clos:=[]) rfl (codeTB_of hC) hB rfl rfl rfl;have hbind:∀(s:Shared)(pm ctv u:Value)(c':Addr),BindsTo s (kla_fn "<lambda>" Ou TD S3 QY [] pm (.ref c') ctv) ⟨[u],[]⟩ ((["piece"]:LSz).zip [u]):=λ_ _ _ _ _=>.of_eq rfl;have hbody:∀(A:Around)(outer:List Env)(s:Shared)(H:Hp)(f c':Addr),PE (BF CX0 P w K mg base ["piece"] Ou QY f (.ref c') A outer s H E0) S3 (tOp (QF K) (HV 0) (tC (.int 0))):=λ_ _ _ _ _ _=>Ao An (pv 0) Ad (λ_ _=>rfl);have hrl:Room (1+3) (A.deeper (PyProof.Rows.envOfC "pieces" (Ag Bu) s.heap.objs.size f (.ref c))):=hr;refine⟨_,(Af (AL (BB D_check_sides hr (BC AE (DT (H:=H) (E:=E))) (Aa (pv 1) (Aa (pv 2) Ab))))
   (Ae (Am (Od rfl T.z_sorted (Aa (BB D_cut_out hr (BC AE (DT (H:=H) (E:=E))) (Aa (pv 0) (Aa (pv 1) (Aa (pv 2) Ab)))) Ab) hlam Ug rfl hrl hbind hbody)))),?_⟩
  have sd:DG Ay (.int ww) (.int hh)=none:=by unfold DG;rw[Df w1 w2,Df h1 h2];rfl
  refine⟨_,rfl,_,rfl,.int ww,.int hh,rfl,⟨_,rfl⟩,⟨_,rfl⟩,λ v e=>by rw[sd]at e;(cases e),λ_ H1 s1=>?_⟩;refine⟨_,rfl,_,rfl,_,rfl,v,trK k,ww,hh,rfl,ho.same s1,(show 3<=400 from by decide),λ hb l ts H2 s2 nl hl pc ec=>?_,λ k' hk=>?_⟩
  .have hkw:1<=k/\k<ww:=by
    by_cases z:1<=k/\k<ww
    .exact z
    .rw[Uc,if_neg z]at hb;cases hb
   have inn:∀t'∈ts,GB.Rc.In ww hh t'.2.2.1:=λ t' ht'=>by
    have this:t'.2.2∈cons ts:=List.mem_map.mpr ⟨t',ht',rfl⟩;rw[ec,RO]at this;rcases List.mem_cons.mp this with e|e
    .rw[show t'.2.2.1=Rk.fst ⟨0,0,hh,ww⟩ true k from congrArg Prod.fst e];exact⟨Int.le_refl _,by show(0:Int)<hh;lia,Int.le_refl _,Int.le_refl _,by show 0<0+k;lia,by show 0+k<=ww;lia⟩
    .rw[show t'.2.2.1=Rk.oth ⟨0,0,hh,ww⟩ true k from congrArg Prod.fst (List.mem_singleton.mp e)];exact⟨Int.le_refl _,by show(0:Int)<hh;lia,Int.le_refl _,by show 0<=0+k;lia,by show 0+k<ww;lia,Int.le_refl _⟩
   unfold K3;simp only[];have t2:=tab.same (s1.trans s2);refine TabOk.lamC t2 λ c' fl ctv H3 sx tab3 hf hc hnew=>?_;have s3:=sx.toN t2.tbl;refine⟨fl,c',l,ctv,Addr×Rk×Option Int,ts,λ t'=>(t'.2.1,t'.2.2.1.ls),3,GB.key,rfl,hf,hc,rfl,SqL.of (s3.lst hl),λ t' ht'=>⟨rfl,((pc.n s3) t' ht').2⟩,λ t' ht'=>⟨_,rfl,t'.1,_,_,_,rfl,rfl,SqT.of ((pc.n s3) t' ht').1,BM,rfl,rfl⟩,λ t' ht' u' hu'=>GB.key_lt (inn t' ht') (inn u' hu') w2 h2 w2 h2,λ l' ts' nl' pm srt=>?_⟩;have s4:Same H3 (upd H3 l' (.lst (pcs ts'))):=Same.new nl';exact q hkw l' ts' _ ((s1.trans s2).x.trans (sx.trans s4.x)) (tab3.same s4) Ac (((pc.n s3).perm pm).same s4) (by rw[<-RO,<-ec];exact pm.map _)
  .rw[Uc]at hk;by_cases z:1<=k/\k<ww
   .rw[if_pos z]at hk;cases hk
   .rw[if_neg z]at hk;cases hk;exact IK s1 (r z)
theorem QS{H H':Hp}{l:Addr}(s:Same H H')(h:H' l=none):H l=none:=by
 cases e:H l with
 |none=>rfl
 |some o=>rw[s _ _ e]at h;cases h
theorem Nt:∀t:Tr,t.nd+1=2*t.sz
 |.whole _=>by rw[Tr.nd,Tr.sz]
 |.cut _ _ x y=>by have:=Nt x;have:=Nt y;rw[Tr.nd,Tr.sz];lia
def OO(en:Rk->En)(D:Rk->Prop):Tr->Rk->Prop
 |.whole m,p=>D p/\en p=.w m
 |.cut u k x y,p=>D p/\en p=.c u k/\OO en D x (p.fst u k)/\OO en D y (p.oth u k)
theorem Rl{D:Rk->Prop}{en:Rk->En}(ok:∀p,D p->1<=p.len true/\1<=p.len false)(cl:∀p,D p->∀c k,1<=k->k<p.len c->D (p.fst c k)/\D (p.oth c k))(hg:∀p,D p->EnOk p (en p)):∀(n:Nat)(p:Rk),D p->(p.len true+p.len false).toNat=n ->
  ∃t,OO en D t p/\Q1 p t:=by
 intro n
 induction n using Nat.strongRecOn with
 |ind n ih =>
  intro p dp hn;have g:=hg _ dp;cases e:en p with
  |w x=>exact⟨.whole x,⟨dp,e⟩,trivial⟩
  |c u k =>
   rw[e]at g;obtain⟨k1,k2⟩:=g;obtain⟨da,db⟩:=cl p dp u k k1 k2;have oa:=ok _ da;have ob:=ok _ db;have o:=ok _ dp;have ea:(p.fst u k).len true+(p.fst u k).len false<p.len true+p.len false/\(p.oth u k).len true+(p.oth u k).len false<p.len true+p.len false:=by
    cases u with
    |true =>
     have k2:k<p.r-p.l:=k2;exact⟨by show p.l+k-p.l+(p.b-p.t)<p.r-p.l+(p.b-p.t);lia,by show p.r-(p.l+k)+(p.b-p.t)<p.r-p.l+(p.b-p.t);lia⟩
    |false =>
     have k2:k<p.b-p.t:=k2;exact⟨by show p.r-p.l+(p.t+k-p.t)<p.r-p.l+(p.b-p.t);lia,by show p.r-p.l+(p.b-(p.t+k))<p.r-p.l+(p.b-p.t);lia⟩
   obtain⟨x,gx,fx⟩:=ih _ (by rw[<-hn];lia) (p.fst u k) da rfl;obtain⟨y,gy,fy⟩:=ih _ (by rw[<-hn];lia) (p.oth u k) db rfl;exact⟨.cut u k x y,⟨dp,e,gx,gy⟩,fitR_cut.mpr ⟨⟨k1,k2⟩,fx,fy⟩⟩
def spE(en:Rk->En)(D:Rk->Prop):Sp:=λ vs H Q _=>∃(a:Addr)(p:Rk),vs=[.ref a]/\H a=some (.tup p.vs)/\D p/\∀e H',Same H H'->H' e=some (.tup (enV (en p)))->Q (.ref e) H'
inductive Qz(P:Program)(w:World)(K:Frag)(mg:MGz)(base:Heap)(vs:LUz)(H:Hp)(Q:VK)(E:XK):Prop
 |mk (a f:Addr) (p:Rk) (t:Tr) (en:Rk->En) (D:Rk->Prop) (h0:vs=[.ref a,.ref f]) (h1:H a=some (.tup p.vs)) (h2:FvOk P w K mg base 3 H f (spE en D)) (h3:OO en D t p) (h4:t.nd<=400) (h5:∀l xs H',Same H H'->H l=none->H' l=some (.lst xs)->EnsAt H' xs (ents t)->Q (.ref l) H'):Qz P w K mg base vs H Q E
def RE(P:Program)(w:World)(K:Frag)(mg:MGz)(base:Heap) :Sp:=λ vs H Q E=>Qz P w K mg base vs H Q E
theorem Km:Ak ["sheet","entry_at","entries","waiting","piece","entry"] ["sheet","entry_at"] (Ag Dx):=fsc
abbrev Ux(en:Rk->En)(D:Rk->Prop)(H:Hp)(a f:Addr)(t:Tr)(le lw:Addr)(m:Nat)(σ:St)(H':Hp):Prop:=∃(xs:LUz)(es:List En)(ws:List (Addr×Rk×Tr))(x4 x5:Option V),σ=[some (.ref a),some (.ref f),some (.ref le),some (.ref lw),x4,x5]/\Same H H'/\H' le=some (.lst xs)/\EnsAt H' xs es/\H' lw=some (.lst (AI ws))/\PsAt H' ws/\(∀p∈ws,OO en D p.2.2 p.2.1)/\es++C5 (trs ws)=ents t/\m=cnt (trs ws)
theorem Lp(e:En):inV ((enV e).headD .non) [V.str "upright",V.str "level"]=match e with
  |.w _=>false
  |.c _ _=>true:=by
 cases e with
 |w m =>
  show(eqV (V.str "upright") (V.str "whole")||(eqV (V.str "level") (V.str "whole")||false))=false;decide +kernel
 |c u k =>
  cases u
  .show(eqV (V.str "upright") (V.str "level")||(eqV (V.str "level") (V.str "level")||false))=true;decide +kernel
  .show(eqV (V.str "upright") (V.str "upright")||(eqV (V.str "level") (V.str "upright")||false))=true;decide +kernel
theorem HZ{f:Addr}{fd:FuncData}(F:Fun K "entries_by" "entries_by" Dx f fd)(T:Txt mg tk)(D_first_piece:DefOk P w K mg base 1 "first_piece" ["piece","word","at"] J1)(D_other_piece:DefOk P w K mg base 1 "other_piece" ["piece","word","at"] J0):FnOk P w K mg base CX0 4 f fd ["sheet","entry_at"] (RE P w K mg base):=by
 have S:=Km;refine F.ok S (λ vs H Q E h=>?_) (λ cdv A outer s H vs Q E hr h=>?_)
 .obtain⟨a,f,p,t,en,D,rfl,_⟩:=h;rfl
 .obtain⟨a,fv,p,t,en,D,rfl,ha,hfv,gr,hn,q⟩:=h;refine⟨_,(Af (At (i:=2) S.nd rfl (Or.inl rfl) (A9 Ab))
   (Af (At (i:=3) S.nd rfl (Or.inl rfl) (A9 (Aa (pv 0) Ab)))
   (Af (KN PassesOwn.never (KL (pv 3) (λ_=>rfl)) (Af (At (i:=4) S.nd rfl (Or.inl rfl) (F4 PySem.F.plainAttrs_list PySem.F.slot_list_pop PySem.F.type_list_pop F8 (pv 3)))
   (Af (At (i:=5) S.nd rfl (Or.inl rfl) (T5 (k:=3) hr (pv 1) (Aa (pv 4) Ab)))
   (Af (AL (Dk PySem.F.plainAttrs_list PySem.F.slot_list_append PySem.F.type_list_append AZ (pv 2) (Aa (pv 5) Ab)))
   (Ae (AC (Ap Of (Ao An (pv 5) Ad (λ_ _=>rfl)) (A3 (Aa (Al (v:=.str "upright") rfl T.g_UPRIGHT ⟨_,rfl⟩) (Aa (Al (v:=.str "level") rfl T.g_LEVEL ⟨_,rfl⟩) Ab))) rfl) (Af (AL (Dk PySem.F.plainAttrs_list PySem.F.slot_list_append PySem.F.type_list_append AZ (pv 3) (Aa (Au D_other_piece hr (Aa (pv 4) (Aa (Ao An (pv 5) Ad (λ_ _=>rfl)) (Aa (Ao An (pv 5) Ad (λ_ _=>rfl)) Ab)))) Ab)))
   (Ae (AL (Dk PySem.F.plainAttrs_list PySem.F.slot_list_append PySem.F.type_list_append AZ (pv 3) (Aa (Au D_first_piece hr (Aa (pv 4) (Aa (Ao An (pv 5) Ad (λ_ _=>rfl)) (Aa (Ao An (pv 5) Ad (λ_ _=>rfl)) Ab)))) Ab))))) Ax))))))
   (Ae (Am (pv 2)))))),?_⟩
  refine⟨As 0,λ le hle=>⟨_,rfl,As 1,λ lw hlw=>?_⟩⟩;have nel:le≠lw:=Ah Ac hlw;have s0:Same H (upd (upd H le (.lst [])) lw (.lst [.ref a])):=(Same.new hle).trans (Same.new hlw);have hlw0:H lw=none:=QS (Same.new hle) hlw;refine⟨Ux en D H a fv t le lw,
   ⟨_,[],[],[(a,p,t)],none,none,rfl,s0,by rw[Ai nel];exact Ac,trivial,Ac,λ r hr=>?_,λ r hr=>?_,?_,rfl⟩,?_⟩
  .rw[List.mem_singleton.mp hr];exact s0 _ _ ha
  .rw[List.mem_singleton.mp hr];exact gr
  .show[]++C5 [(V.ref a,t)]=ents t;rw[Ew];rfl
  rintro m σ H' ⟨xs,es,ws,x4,x5,rfl,s1,hl,hen,hw,hps,hgr,heq,rfl⟩;have tot:es.length+cnt (trs ws)=t.nd:=by rw[<-C1,<-heq,List.length_append,Dq]
  rcases Cq ws with rfl|⟨ws0,r,rfl⟩
  .refine⟨_,rfl,_,.inl ⟨_,SqL.of hw,rfl⟩,BD rfl ⟨_,rfl,q le xs H' s1 hle hl ?_⟩⟩;rw[<-heq];show EnsAt H' xs (es++[]);rw[List.append_nil];exact hen
  .refine⟨_,rfl,_,.inl ⟨_,SqL.of hw,rfl⟩,Cd (by simp) ⟨λ σ' H''=>∃m',m'<cnt (trs (ws0++[r]))/\Ux en D H a fv t le lw m' σ' H'',λ σ' H'' z=>z,?_⟩⟩;obtain⟨pa,pk,pt⟩:=r;have hp0:=hps (pa,pk,pt) (by simp);have hg0:=hgr (pa,pk,pt) (by simp);refine⟨_,rfl,.inl ⟨rfl,_,SqL.of hw⟩,lw,_,_,rfl,rfl,hw,FC,?_⟩;rw[FL];have k2:Kp H' (upd H' lw (.lst (AI ws0))):=Kp.put hw;have s2:Same H (upd H' lw (.lst (AI ws0))):=λ b o e=>by rw[Ai (Ah e hlw0)];exact s1 b o e
   have l2:(upd H' lw (.lst (AI ws0))) le=some (.lst xs):=by rw[Ai nel];exact hl
   have w2:(upd H' lw (.lst (AI ws0))) lw=some (.lst (AI ws0)):=Ac;generalize upd H' lw (.lst (AI ws0))=H2 at k2 s2 l2 w2 |-;have hp2:=k2 _ _ hp0 (by intro xs z;cases z);have ps2:PsAt H2 ws0:=λ r hr=>k2 _ _ (hps r (List.mem_append_left _ hr)) (by intro xs z;cases z);have gr2:∀r∈ws0,OO en D r.2.2 r.2.1:=λ r hr=>hgr r (List.mem_append_left _ hr);have hen2:=hen.kp k2;rw[Bs,AV]at heq;rw[Bs,B7]at tot;have hxl:=hen.len;have np:=M0 pt;have hDp:D pk:=by cases pt<;>exact hg0.1
   refine⟨_,rfl,fv,spE en D,rfl,hfv.same s2,_,rfl,Same.refl H2,pa,pk,rfl,hp2,hDp,λ ea H3 s3 e3=>?_⟩;have l3:=s3 _ _ l2;refine⟨_,rfl,.inl ⟨rfl,_,SqL.of l3⟩,_,rfl,le,xs,.ref ea,rfl,rfl,l3,A0 (by lia),?_⟩;have k4:Kp H3 (upd H3 le (.lst (xs++[.ref ea]))):=Kp.put l3;have s4:Same H (upd H3 le (.lst (xs++[.ref ea]))):=λ b o e=>by rw[Ai (Ah e hle)];exact s3 b o (s2 b o e)
   have l4:(upd H3 le (.lst (xs++[.ref ea]))) le=some (.lst (xs++[.ref ea])):=Ac;have w4:(upd H3 le (.lst (xs++[.ref ea]))) lw=some (.lst (AI ws0)):=by rw[Ai (Ne.symm nel)];exact s3 _ _ w2
   have en4:EnsAt (upd H3 le (.lst (xs++[.ref ea]))) (xs++[.ref ea]) (es++[en pk]):=((hen2.kp (Dn s3)).kp k4).snoc (k4 _ _ e3 (by intro xs z;cases z));have kk:=(Dn s3).trans k4;have e4:=k4 _ _ e3 (by intro xs z;cases z);generalize upd H3 le (.lst (xs++[.ref ea]))=H4 at k4 s4 l4 w4 en4 kk e4 |-;have hp4:=kk _ _ hp2 (by intro xs z;cases z);have ps4:PsAt H4 ws0:=ps2.kp kk;cases pt with
   |whole m =>
    have een:en pk=.w m:=hg0.2;rw[een]at e4 en4;refine⟨_,rfl,ea,_,_,_,rfl,rfl,SqT.of e4,BM,As 2,λ tt ntt=>?_⟩;obtain⟨H5,g,s5,e5⟩:=nw (.tup [.str "upright",.str "level"]) ntt;rw[g];refine⟨tt,_,rfl,.inr (SqT.of e5),rfl,rfl,_,rfl,BD (by rw[if_neg Bool.false_ne_true];exact Lp (.w m)) ?_⟩;refine⟨cnt (trs ws0),by rw[Bs,B7];exact Nat.lt_succ_self _,_,_,ws0,_,_,rfl,s4.trans s5,s5 _ _ l4,en4.kp (Dn s5),s5 _ _ w4,ps4.kp (Dn s5),gr2,?_,rfl⟩;rw[<-heq,List.append_assoc];rfl
   |cut u k y1 y2 =>
    obtain⟨_,een,g1,g2⟩:=hg0;have een:en pk=.c u k:=een;rw[een]at e4 en4;refine⟨_,rfl,ea,_,_,_,rfl,rfl,SqT.of e4,BM,As 2,λ tt ntt=>?_⟩;obtain⟨H5,g,s5,e5⟩:=nw (.tup [.str "upright",.str "level"]) ntt;rw[g];refine⟨tt,_,rfl,.inr (SqT.of e5),rfl,rfl,_,rfl,Cd (by rw[if_neg Bool.false_ne_true];exact Lp (.c u k)) ?_⟩;have e55:=s5 _ _ e4;have w5:=s5 _ _ w4;have hp5:=s5 _ _ hp4;refine⟨_,rfl,.inl ⟨rfl,_,SqL.of w5⟩,_,rfl,_,rfl,ea,_,_,_,rfl,rfl,SqT.of e55,BM,_,rfl,ea,_,_,_,rfl,rfl,SqT.of e55,DZ,pa,pk,u,k,rfl,hp5,λ t6 n6=>?_⟩;obtain⟨H6,g,s6,e6⟩:=nw (.tup (pk.oth u k).vs) n6;rw[g];have w6:=s6 _ _ w5;have cl:=Ey (trs ws0);rw[List.length_map]at cl;have ndp:(Tr.cut u k y1 y2).nd=y1.nd+y2.nd+1:=rfl;refine⟨lw,_,_,rfl,rfl,w6,A0 (by rw[List.length_map];lia),?_⟩;have k7:Kp H6 (upd H6 lw (.lst (AI ws0++[.ref t6]))):=Kp.put w6;have s7:Same H (upd H6 lw (.lst (AI ws0++[.ref t6]))):=λ b o e=>by rw[Ai (Ah e hlw0)];exact s6 _ _ (s5 _ _ (s4 b o e))
    have l7:(upd H6 lw (.lst (AI ws0++[.ref t6]))) le=some (.lst (xs++[.ref ea])):=by rw[Ai nel];exact s6 _ _ (s5 _ _ l4)
    have w7:(upd H6 lw (.lst (AI ws0++[.ref t6]))) lw=some (.lst (AI ws0++[.ref t6])):=Ac;have kk7:=((Dn s5).trans (Dn s6)).trans k7;have e7:=k7 _ _ e6 (by intro xs z;cases z);generalize upd H6 lw (.lst (AI ws0++[.ref t6]))=H7 at k7 s7 l7 w7 kk7 e7 |-;have ea7:=kk7 _ _ e4 (by intro xs z;cases z);have hp7:=kk7 _ _ hp4 (by intro xs z;cases z);refine⟨_,rfl,.inl ⟨rfl,_,SqL.of w7⟩,_,rfl,_,rfl,ea,_,_,_,rfl,rfl,SqT.of ea7,BM,_,rfl,ea,_,_,_,rfl,rfl,SqT.of ea7,DZ,pa,pk,u,k,rfl,hp7,λ t8 n8=>?_⟩;obtain⟨H8,g,s8,e8⟩:=nw (.tup (pk.fst u k).vs) n8;rw[g];have w8:=s8 _ _ w7;refine⟨lw,_,_,rfl,rfl,w8,A0 (by rw[List.length_append,List.length_map,List.length_singleton];lia),?_⟩;have k9:Kp H8 (upd H8 lw (.lst (AI ws0++[.ref t6]++[.ref t8]))):=Kp.put w8;have kk9:=(Dn s8).trans k9;have kall:=kk7.trans kk9;refine⟨cnt (trs (ws0++[(t6,pk.oth u k,y2)]++[(t8,pk.fst u k,y1)])),?_,xs++[.ref ea],es++[.c u k],ws0++[(t6,pk.oth u k,y2)]++[(t8,pk.fst u k,y1)],_,_,rfl,λ b o e=>?_,?_,en4.kp kall,?_,λ r hr=>?_,λ r hr=>?_,?_,rfl⟩
    .rw[Bs,Bs,B7,B7,Bs,B7];show cnt (trs ws0)+y2.nd+y1.nd<cnt (trs ws0)+(y1.nd+y2.nd+1);lia
    .rw[Ai (Ah e hlw0)];exact s8 b o (s7 b o e)
    .rw[Ai nel];exact s8 _ _ l7
    .rw[Ac,El,El]
    .rcases List.mem_append.mp hr with hr|hr
     .rcases List.mem_append.mp hr with hr|hr
      .exact kall _ _ (ps4 r hr) (by intro xs z;cases z)
      .rw[List.mem_singleton.mp hr];exact kk9 _ _ e7 (by intro xs z;cases z)
     .rw[List.mem_singleton.mp hr];exact k9 _ _ e8 (by intro xs z;cases z)
    .rcases List.mem_append.mp hr with hr|hr
     .rcases List.mem_append.mp hr with hr|hr
      .exact gr2 r hr
      .rw[List.mem_singleton.mp hr];exact g2
     .rw[List.mem_singleton.mp hr];exact g1
    .rw[Bs,Bs,AV,AV,<-heq];show es++[.c u k]++(ents y1++(ents y2++C5 (trs ws0)))=es++(.c u k::(ents y1++ents y2)++C5 (trs ws0));simp[List.append_assoc]
def Nv:Expr:=match (Ar AY).getD 0 (.Pass ⟨0,0,0,0⟩) with
 |.Return (some (.Call _ [.Call _ [_,k] _ _] _ _)) _=>k
 |_=>.Constant .none 0 ⟨0,0,0,0⟩
def RI:Arguments:=match Nv with|.Lambda p _ _ _=>p|_=>Bk AY
def RJ:Expr:=match Nv with|.Lambda _ b _ _=>b|e=>e
def lamS2:Scope:=match Nv with|.Lambda _ _ s _=>s|_=>Ag AY
def Nu:Pos:=match Nv with|.Lambda _ _ _ q=>q|_=>⟨0,0,0,0⟩
def Lm:Str:="tree_by.<locals>.<lambda>"
theorem SS:LL "piece" ["choices","key"] lamS2:=⟨rfl,rfl,rfl,rfl,by decide +kernel,λ y hy=>(by decide +kernel:∀p∈lamS2.names,p.2=.free->p.1∈(["choices","key"]:LSz)) _ (PySem.mem_of_lookup hy) rfl,by decide +kernel⟩
abbrev NA(L:Nat):List (Str×Addr):=[("key",L+2),("choices",L+1)]
theorem EnsAt.tups{H H':Hp}(s:∀a xs,H a=some (.tup xs)->H' a=some (.tup xs)):∀{vs:LUz}{es:List En},EnsAt H vs es->EnsAt H' vs es
 |[],[],_=>trivial
 |v::r,e::q,h=>⟨let ⟨a,b,c⟩:=h.1;⟨a,b,s _ _ c⟩,EnsAt.tups s h.2⟩
 |[],_::_,h=>h
 |_::_,[],h=>h
theorem OE:Ak ["choices","sheet","key"] ["choices","sheet","key"] (Ag AY):=fsc
inductive HK(tb2:Addr)(mg:MGz)(vs:LUz)(H:Hp)(Q:VK)(E:XK):Prop
 |mk (kb:Bool) (d a fk:Addr) (p:Rk) (n:Nat) (D:Rk->Prop) (h0:vs=[.ref d,.ref a,.ref fk]) (h1:TabV kb H d n D) (h2:mg (kn kb)=some (.ref fk)) (h3:H a=some (.tup p.vs)) (h4:D p) (h5:(∀p,D p->1<=p.len true/\1<=p.len false)) (h6:(p.len true<=12/\p.len false<=12)) (h7:(∀p,D p->∀c k,1<=k->k<p.len c->D (p.fst c k)/\D (p.oth c k))) (h8:TabOk Nu Lm tb2 H) (h9:∀v H',SameX tb2 H H'->TabOk Nu Lm tb2 H'->Q v H'):HK tb2 mg vs H Q E
def Ef(tb2:Addr)(mg:MGz) :Sp:=λ vs H Q E=>HK tb2 mg vs H Q E
theorem Mo{f:Addr}{fd:FuncData}{c tb2:Addr}(F:FunC K "tree_by" "tree_by" AY f fd c)(hC:FO K c tb2=true)(hB:R8 K mg)(D_size_of:DefOk P w K mg base 1 "size_of" ["rectangle"] Eg)(D_itself:DefOk P w K mg base 1 "itself" ["piece"] Eh)(D_entries_by:DefOk P w K mg base 4 "entries_by" ["sheet","entry_at"] (RE P w K mg base))(D_tree_from:DefOk P w K mg base 4 "tree_from" ["entries"] (J9 K cW cU cL)) :
  FnOk P w K mg base CX0 5 f fd ["choices","sheet","key"] (Ef tb2 mg):=by
 have S:=OE;refine F.ok S (λ vs H Q E h=>?_) (λ A outer s H vs Q E hr h=>?_)
 .obtain⟨kb,d,a,fk,p,n,D,rfl,_⟩:=h;rfl
 .obtain⟨kb,d,a,fk,p,n,D,rfl,⟨tab,hd,_,_,look⟩,hfk,ha,dp,ok,big,cl,tb,q⟩:=h;have D_k:=FD D_size_of D_itself kb;have hlam:=Pz (X:=(BF CX0 P w K mg base ["choices","sheet","key"] "tree_by" (Ag AY) f (.ref c) A outer s H E).nox) (params:=RI) (body:=RJ) (scope:=lamS2) (pos:=Nu) (qual:=Lm) (clos:=NA s.heap.objs.size) rfl (codeTB_of hC) hB rfl rfl rfl;have hcl:∀p∈NA s.heap.objs.size,(BF CX0 P w K mg base ["choices","sheet","key"] "tree_by" (Ag AY) f (.ref c) A outer s H E).nox.env.cells.lookup p.1=some p.2/\(BF CX0 P w K mg base ["choices","sheet","key"] "tree_by" (Ag AY) f (.ref c) A outer s H E).nox.env.kindOf p.1=some .cell:=λ p hp=>by
   rcases List.mem_cons.mp hp with rfl|hp
   .exact⟨rfl,rfl⟩
   .rw[List.mem_singleton.mp hp];exact⟨rfl,rfl⟩
  refine⟨_,(Ae (Am (Au D_tree_from hr (Aa (Su (clos:=NA s.heap.objs.size) D_entries_by hr (Aa (pv 1) (Aa hlam Ab)) hcl (λ_=>rfl) rfl) Ab)))),?_⟩;obtain⟨ch,ea,en,he⟩:∃(ch ea:Rk->Addr)(en:Rk->En),∀z,D z->Cg tab (kv kb z)=some (.ref (ch z))/\(∃m:Int,H (ch z)=some (.tup [.int m,.ref (ea z)]))/\H (ea z)=some (.tup (enV (en z)))/\EnOk z (en z):=by
   classical
   have key:∀z,∃(c e:Addr)(n:En),D z->Cg tab (kv kb z)=some (.ref c)/\(∃m:Int,H c=some (.tup [.int m,.ref e]))/\H e=some (.tup (enV n))/\EnOk z n:=λ z=>by
    by_cases hz:D z
    .obtain⟨c,e1,m,e,n,e2,e3,e4⟩:=look z hz;exact⟨c,e,n,λ_=>⟨e1,⟨m,e2⟩,e3,e4⟩⟩
    .exact⟨0,0,.w none,λ z=>absurd z hz⟩
   exact⟨λ z=>(key z).choose,λ z=>(key z).choose_spec.choose,λ z=>(key z).choose_spec.choose_spec.choose,λ z hz=>(key z).choose_spec.choose_spec.choose_spec hz⟩
  obtain⟨t,gr,fit⟩:=Rl (en:=en) ok cl (λ z hz=>(he z hz).2.2.2) _ p dp rfl;obtain⟨ok1,ok2⟩:=ok p dp;have tbl:=tb.tbl;refine⟨_,rfl,TabOk.lamC tb λ c' fl ctv H1 s1 tab1 hf hc hnew=>?_⟩;have ne1:∀{x:Addr}{u:HO},H x=some u->(∀ps,u≠.tbl ps)->x≠tb2:=λ{x u} e n z=>by obtain⟨ps,e'⟩:=tbl;rw[z,e']at e;cases e;exact n _ rfl
  intro Lc CA;have tup1:∀{x:Addr}{xs:LUz},H x=some (.tup xs)->H1 x=some (.tup xs):=λ e=>s1 _ _ (ne1 e (by intro ps z;cases z)) e;have hd1:H1 d=some (.dT tab):=s1 _ _ (ne1 hd (by intro ps z;cases z)) hd;have up:∀{x:Addr}{u:HO},H1 x=some u->(tkd H1 Lc) x=some u:=λ e=>by rw[AR (DU CA.new e)];exact e
  have fv:=SD (P:=P) (w:=w) (K:=K) (mg:=mg) (base:=base) (k:=2) (H:=tkd H1 Lc) (f:=fl) (c':=c') (params:=RI) (body:=RJ) (scope:=lamS2) (qual:=Lm) (pn:="piece") (ctv:=ctv) (fs:=["choices","key"]) (clos:=NA s.heap.objs.size) (cv:=[.ref d,.ref fk]) (L:=Lc)
   (te:=tOp (QF K) (RC (HV 1) (Th mg (kn kb) (HV 2) (Pg kb) (ID (HV 0) K3))) (tC (.int 1)))
   (up hf) (up hc) SS rfl (λ y=>?_) (λ x y cc h1 h2=>?_) (λ a o e=>G2 e) CA.has (λ p hp i v hi hv=>?_) (λ_ _=>.of_eq rfl)
   (λ A' outer' s' H' Hx E' hr'=>Ao (JU (K:=K)) (JJ (Lq hr') (pv 1) (Mm D_k hr' (pv 2) (Aa (pv 0) Ab)) (λ_ _=>rfl)) Ad (λ_ _=>rfl))
  .refine⟨a,fl,p,t,_,_,rfl,up (tup1 ha),fv.imp λ vs H' Q' E' sm' hsp=>?_,gr,?_,λ l xs H2 s2 nl hl hens=>?_⟩
   .obtain⟨a',p',rfl,ha',ins2,q'⟩:=hsp;have hL':∀a o,Lc.lookup a=some o->H' a=some (B6 a o):=λ a o e=>sm' _ _ (G2 e);have kp:∀{x:Addr}{u:HO},H1 x=some u->(∀o,u≠B6 x o)->(utk H' Lc) x=some u:=λ e n=>Jx hL' (sm' _ _ (up e)) n;obtain⟨e0,⟨m,e1⟩,e2,_⟩:=he p' ins2;refine⟨_,rfl,_,rfl,_,rfl,⟨fk,rfl,hfk⟩,_,rfl,a',p',rfl,Jx hL' ha' (by intro o z;cases z),λ k2 H2 s2 hk2=>?_⟩;have dg:=DGet.t (k:=kv kb p') (s2 _ _ (kp hd1 (by intro o z;cases z))) hk2;rw[e0]at dg;refine⟨d,_,rfl,dg,ch p',_,_,_,rfl,rfl,SqT.of (s2 _ _ (kp (tup1 e1) (by intro o z;cases z))),DZ,q' _ _ (λ x o e=>?_) ?_⟩
    .cases q:Lc.lookup x with
     |some o'=>rw[hL' x o' q]at e;cases e;exact G2 q
     |none=>rw[AR q];exact s2 _ _ (by rw[Bn q];exact e)
    .rw[AR (DU CA.new (tup1 e2))];exact s2 _ _ (kp (tup1 e2) (by intro o z;cases z))
   .have w1:1<=p.r-p.l:=ok1;have h1:1<=p.b-p.t:=ok2;have z1:=FG w1 h1 fit;have z2:(p.r-p.l)*(p.b-p.t)<=12*12:=Int.mul_le_mul big.1 big.2 (by lia) (by lia);have z3:=Nt t;lia
   .obtain⟨sU,hk⟩:=Pp CA.new s2;refine⟨hk,l,xs,t,rfl,SqL.of (Jx hk hl (by intro o z;cases z)),hens.tups (λ a xs e=>Jx hk e (by intro o z;cases z)),?_,λ v' H3 s3 ob=>?_⟩
    .have w1:1<=p.r-p.l:=ok1;have h1:1<=p.b-p.t:=ok2;have z1:=FG w1 h1 fit;have z2:(p.r-p.l)*(p.b-p.t)<=12*12:=Int.mul_le_mul big.1 big.2 (by lia) (by lia);have z3:=Nt t;lia
    .exact q v' H3 (s1.trans (sU.x.trans s3.x)) ((tab1.same sU).same s3)
  .constructor
   .rintro⟨cc,h⟩;have:=PySem.mem_of_lookup h;rcases List.mem_cons.mp this with e|e
    .cases e;simp
    .cases List.mem_singleton.mp e;simp
   .intro hy;rcases List.mem_cons.mp hy with rfl|hy
    .exact⟨_,rfl⟩
    .rw[List.mem_singleton.mp hy];exact⟨_,rfl⟩
  .have m1:=PySem.mem_of_lookup h1;have m2:=PySem.mem_of_lookup h2;have n12:∀L:Nat,L+2≠L+1:=λ L=>by lia
   rcases List.mem_cons.mp m1 with e1|e1
   .rcases List.mem_cons.mp m2 with e2|e2
    .cases e1;cases e2;rfl
    .have e2:=List.mem_singleton.mp e2;cases e1;exact absurd (congrArg Prod.snd e2) (n12 _)
   .have e1:=List.mem_singleton.mp e1;rcases List.mem_cons.mp m2 with e2|e2
    .cases e2;exact absurd (congrArg Prod.snd e1) (n12 _)
    .have e2:=List.mem_singleton.mp e2;exact(congrArg Prod.fst e1).trans (congrArg Prod.fst e2).symm
  .rcases List.mem_cons.mp hp with rfl|hp
   .match i,hi with
    |1,_ =>
     cases hv;exact CA.val _ hp 2 _ rfl rfl
    |0,hi=>exact absurd (show("choices":Str)="key" from Option.some.inj hi) (by decide +kernel)
   .have hp':=List.mem_singleton.mp hp;subst hp'
    match i,hi with
    |0,_ =>
     cases hv;exact CA.val _ (List.mem_cons_of_mem _ hp) 0 _ rfl rfl
    |1,hi=>exact absurd (show("key":Str)="choices" from Option.some.inj hi) (by decide +kernel)
def RfN(H:Hp)(E:XK)(C:Addr)(P:LFz->Hp->Prop):Prop:=∀x d fs H',R6 H x->SameN H H'->XR H' x C (some d) fs->P fs H'->E (.ref x) (some d) H'
def XEN(H:Hp)(R:Addr->LFz->Hp->Prop):XK:=λ v d H'=>∃x C dx fs,v=.ref x/\d=some dx/\R6 H x/\SameN H H'/\XR H' x C (some dx) fs/\R C fs H'
theorem XEN.rf{H:Hp}{R:Addr->LFz->Hp->Prop}{C:Addr}{P:LFz->Hp->Prop}(h:∀fs H',P fs H'->R C fs H'):RfN H (XEN H R) C P:=λ x d fs H' hx s r p=>⟨x,C,d,fs,rfl,rfl,hx,s,r,h fs H' p⟩
def SR(P:LFz->Hp->Prop):Prop:=∀fs H' x C d T2,P fs H'->XR H' x C d fs->H' T2=none->P fs (thrown H' x C d T2)
def RUN(H:Hp)(E:XK):Addr->LFz->Hp->Prop:=λ C fs H'=>∃P,RfN H E C P/\P fs H'/\SR P
theorem OP{H H1:Hp}{x C C':Addr}{d:Option Addr}{T T2:Addr}{fs:LFz}(hx:R6 H1 x)(s:SameN H1 H)(r:XR H x C d fs)(fl:CD H x C' d T)(hT:H T2=none) :
  C=C'/\XR (thrown H x C' d T2) x C d fs/\SameN H1 (thrown H x C' d T2):=by
 have r0:=r;obtain⟨⟨dx,rfl,nd,ed⟩,T',e⟩:=r;have q:C=C':=by
  have:=fl.1;rw[e]at this;exact(Lw (Option.some.inj this)).1
 subst q;refine⟨rfl,⟨⟨dx,rfl,nd,by rw[AB nd (Ah ed hT)];exact ed⟩,T2,Da⟩,λ a o ho no=>?_⟩;rw[AB (λ z=>by subst z;obtain⟨ps,rfl⟩:=hx o ho;exact no ps rfl) (Ah (s a o ho no) hT)];exact s a o ho no
theorem D5{H:Hp}{E:XK}:∀x C d T T2 H',XEN H (RUN H E) (.ref x) d H'->CD H' x C d T->H' T2=none->T2≠x->E (.ref x) d (thrown H' x C d T2):=by
 rintro x C d T T2 H' ⟨x',C',dx,fs,ev,rfl,hx,s,r,P,rf,p,st⟩ fl hT2 nT2;obtain rfl:x=x':=Value.ref.inj ev;obtain⟨rfl,r2,s2⟩:=OP hx s r fl hT2;exact rf x dx fs _ hx s2 r2 (st fs H' x C' (some dx) T2 p r hT2)
theorem RF{H H2:Hp}{E:XK}{C:Addr}{P P':LFz->Hp->Prop}(s:SameN H H2)(r:RfN H E C P)(st:SR P)(hp:∀fs H',Same H2 H'->P' fs H'->P fs H'):Rf H2 (XEN H (RUN H E)) C P':=λ x d fs H' hx s2 xr p =>
 ⟨x,C,d,fs,rfl,rfl,T9 s hx,s.trans s2.n,xr,P,r,hp fs H' s2 p,st⟩
theorem Ry{C x T:Addr}{d:Option Addr}{q:Str}:Fo C d x T≠C4 x q:=λ h=>by
 have h:(HO.ext λ h=>∃vs sl,h.get? x=some ⟨.ref C,d,.fields vs,sl⟩/\vs[1]?=some (.ref T))=HO.ext λ h=>∃o vs t,h.get? x=some o/\o.data=.fields vs/\vs[1]?=some (.str q t):=h;injection h with h;have e:=congrFun h ((D9 x).push ⟨.ref C,d,.fields #[.none,.ref T],#[]⟩);have g:((D9 x).push ⟨.ref C,d,.fields #[.none,.ref T],#[]⟩).get? x=some ⟨.ref C,d,.fields #[.none,.ref T],#[]⟩:=Heap.get?_push_at (D8 x).symm rfl;obtain⟨o,vs,t,e1,e2,e3⟩:=e.mp ⟨_,_,g,rfl⟩;rw[g]at e1;cases e1;cases e2;cases e3
theorem TabOk.thrown{pos:Pos}{qual:Str}{T x C T2:Addr}{d:Option Addr}{H:Hp}{fs:LFz}(h:TabOk pos qual T H)(r:XR H x C d fs)(hT:H T2=none):TabOk pos qual T (L2.thrown H x C d T2):=by
 obtain⟨ps,e,t,c⟩:=h;obtain⟨_,T',ex⟩:=r;refine⟨ps,by rw[AB (λ z=>by rw[z,ex]at e;cases e) (Ah e hT)];exact e,t,?_⟩;rcases c with c|⟨c',c1,c2⟩
 .exact .inl c
 .exact .inr ⟨c',c1,by rw[AB (λ z=>by rw[z,ex]at c2;exact Ry (Option.some.inj c2)) (Ah c2 hT)];exact c2⟩
structure Tb(tb tb2:Addr)(H:Hp):Prop where
 a:TabOk QZ Ou tb H
 b:TabOk Nu Lm tb2 H
theorem Tb.same{tb tb2:Addr}{H H':Hp}(h:Tb tb tb2 H)(s:Same H H'):Tb tb tb2 H':=⟨h.a.same s,h.b.same s⟩
mutual
theorem FN{H H':Hp}(s:Kx H H'):∀(d:D){v:V},DAt H d v->DAt H' d v
 |.at u,v,h=>by rw[DAt]at h |-;exact h
 |.tup ds,v,h=>by
  rw[DAt]at h |-;obtain⟨a,xs,e,q,r⟩:=h;exact⟨a,xs,e,s.1 _ _ q,Kd s ds r⟩
 |.lst ds,v,h=>by
  rw[DAt]at h |-;obtain⟨a,xs,e,q,r⟩:=h;exact⟨a,xs,e,s.2 _ _ q,Kd s ds r⟩
theorem Kd{H H':Hp}(s:Kx H H'):∀(ds:Ds){xs:LUz},Be H ds xs->Be H' ds xs
 |.nil,xs,h=>by rw[Be]at h |-;exact h
 |.cons d r,xs,h=>by
  rw[Be]at h |-;obtain⟨x,ys,e,p,q⟩:=h;exact⟨x,ys,e,FN s d p,Kd s r q⟩
end
def PR(tb tb2:Addr)(c:Cl)(d:D):LFz->Hp->Prop:=λ fs H'=>(∃v,fs=[(nmC c,v)]/\DAt H' d v)/\Tb tb tb2 H'
theorem Sf{H:Hp}{x C T2:Addr}{d:Option Addr}{fs:LFz}(r:XR H x C d fs)(hT:H T2=none):Kx H (thrown H x C d T2):=by
 obtain⟨_,T',ex⟩:=r;exact⟨λ a xs e=>by rw[AB (λ z=>by rw[z,ex]at e;cases e) (Ah e hT)];exact e,λ a xs e=>by rw[AB (λ z=>by rw[z,ex]at e;cases e) (Ah e hT)];exact e⟩
theorem Mc{tb tb2:Addr}{c:Cl}{d:D}:SR (PR tb tb2 c d):=λ fs H' x C dx T2 hp r hT=>by
 obtain⟨⟨v,e,h⟩,tb⟩:=hp;exact⟨⟨v,e,FN (Sf r hT) d h⟩,TabOk.thrown tb.a r hT,TabOk.thrown tb.b r hT⟩
def AskR(tb tb2:Addr)(cc:Cc)(H:Hp)(E:XK)(o:Option (Cl×V)):Prop:=∀r,o=some r->∃d,DAt H d r.2/\RfN H E (cc r.1) (PR tb tb2 r.1 d)
theorem AskR.rf{tb tb2:Addr}{cc:Cc}{H H2:Hp}{E:XK}{o:Option (Cl×V)}(h:AskR tb tb2 cc H E o)(t:Tb tb tb2 H)(s:Same H H2){r:Cl×V}(e:o=some r):RfC cc H2 (XEN H (RUN H E)) r:=by
 obtain⟨d,da,rf⟩:=h r e;exact RF s.n rf Mc λ fs H' s2 z=>⟨⟨r.2,z,AM (s.trans s2) d da⟩,t.same (s.trans s2)⟩
def Uv(tb tb2:Addr)(H:Hp)(Q:VK):Prop:=∀v H',SameN H H'->Tb tb tb2 H'->Q v H'
inductive LX(tb tb2:Addr)(cc:Cc)(vs:LUz)(H:Hp)(Q:VK)(E:XK):Prop
 |mk (v1 v2:V) (b:Addr) (xs:LUz) (gs:List (Option Bp)) (h0:vs=[v1,v2,.ref b]) (h1:Ty H v1) (h2:Ty H v2) (h3:H b=some (.lst xs)) (h4:Ths KTh H xs gs) (h5:gs.length<=100) (h6:Tb tb tb2 H) (h7:AskR tb tb2 cc H E (C6 Ay v1 v2 gs)) (h8:(C6 Ay v1 v2 gs=none->Uv tb tb2 H Q)):LX tb tb2 cc vs H Q E
def Ej(tb tb2:Addr)(cc:Cc) :Sp:=λ vs H Q E=>LX tb tb2 cc vs H Q E
inductive LW(tb tb2:Addr)(cc:Cc)(vs:LUz)(H:Hp)(Q:VK)(E:XK):Prop
 |mk (v1 v2:V) (b e:Addr) (xs ys:LUz) (gs:List (Option Bp)) (hs:List (Option (Int×Int))) (W T:Int) (h0:vs=[v1,v2,.ref b,.ref e]) (h1:Ty H v1) (h2:Ty H v2) (h3:H b=some (.lst xs)) (h4:Ths KTh H xs gs) (h5:gs.length<=100) (h6:H e=some (.lst ys)) (h7:Ths (FTh W T) H ys hs) (h8:hs.length<=100) (h9:(AO v1=true->v1=.int W)) (h10:(AO v2=true->v2=.int T)) (h11:Tb tb tb2 H) (h12:AskR tb tb2 cc H E (Ie v1 v2 gs hs)) (h13:(Ie v1 v2 gs hs=none->Uv tb tb2 H Q)):LW tb tb2 cc vs H Q E
def Ei(tb tb2:Addr)(cc:Cc) :Sp:=λ vs H Q E=>LW tb tb2 cc vs H Q E
theorem Qn:Ak ["width","height","kinds"] ["width","height","kinds"] (Ag G8):=fsc
theorem Og{f tb tb2:Addr}{fd:FuncData}(F:Fun K "worths" "worths" G8 f fd)(D_choices_by_size:AT P w K mg base 5 "choices_by_size" ["width","height","kinds"] (Me cc))(D_worths_in:DefOk P w K mg base 1 "worths_in" ["choices"] Ph):FnOk P w K mg base (CX1 P w) 6 f fd ["width","height","kinds"] (Ej tb tb2 cc):=by
 have S:=Qn;refine F.okx S (λ vs H Q E h=>?_) (λ cdv A outer s H vs Q E hr h=>?_)
 .obtain⟨v1,v2,b,xs,gs,rfl,_⟩:=h;rfl
 .obtain⟨v1,v2,b,xs,gs,rfl,t1,t2,hxs,th,lg,tab,ask,done⟩:=h;refine⟨_,(Ae (Am (Au D_worths_in hr (Aa (BB D_choices_by_size hr (BC AE (D5 (H:=H) (E:=E))) (Aa (pv 0) (Aa (pv 1) (Aa (pv 2) Ab)))) Ab)))),?_⟩;refine⟨_,rfl,_,rfl,_,rfl,v1,v2,b,xs,gs,rfl,t1,t2,hxs,th,lg,λ r e=>ask.rf tab (Same.refl H) e,λ ww hh e1 e2 w1 w2 h1 h2 dz d H1 s1 nd tv=>?_⟩;refine⟨true,d,_,_,rfl,tv,by decide,λ v H2 s2=>?_⟩;have s02:Same H H2:=s2.same s1 nd;exact done dz v H2 s02.n (tab.same s02)
theorem Gi:Ak ["width","height","kinds","flaws"] ["width","height","kinds","flaws"] (Ag BZ):=fsc
theorem F6{f tb tb2:Addr}{fd:FuncData}(F:Fun K "flawed_worths" "flawed_worths" BZ f fd)(D_choices_by_piece:AT P w K mg base 5 "choices_by_piece" ["width","height","kinds","flaws"] (Mf cc))(D_worths_in:DefOk P w K mg base 1 "worths_in" ["choices"] Ph):FnOk P w K mg base (CX1 P w) 6 f fd ["width","height","kinds","flaws"] (Ei tb tb2 cc):=by
 have S:=Gi;refine F.okx S (λ vs H Q E h=>?_) (λ cdv A outer s H vs Q E hr h=>?_)
 .obtain⟨v1,v2,b,e,xs,ys,gs,hs,W,T',rfl,_⟩:=h;rfl
 .obtain⟨v1,v2,b,e,xs,ys,gs,hs,W,T',rfl,t1,t2,hxs,th,lg,hys,tf,lh,i1,i2,tab,ask,done⟩:=h;refine⟨_,(Ae (Am (Au D_worths_in hr (Aa (BB D_choices_by_piece hr (BC AE (D5 (H:=H) (E:=E))) (Aa (pv 0) (Aa (pv 1) (Aa (pv 2) (Aa (pv 3) Ab))))) Ab)))),?_⟩;refine⟨_,rfl,_,rfl,_,rfl,_,rfl,v1,v2,b,e,xs,ys,gs,hs,W,T',rfl,t1,t2,hxs,th,lg,hys,tf,lh,i1,i2,λ r e=>ask.rf tab (Same.refl H) e,λ e1 e2 w1 w2 h1 h2 dz d H1 s1 nd tv=>?_⟩;refine⟨false,d,_,_,rfl,tv,by decide,λ v H2 s2=>?_⟩;have s02:Same H H2:=s2.same s1 nd;exact done dz v H2 s02.n (tab.same s02)
theorem ST:Ak ["width","height","kinds"] ["width","height","kinds"] (Ag Mi):=fsc
theorem L3{p:Rk}{c:Bool}{k:Int}(k1:1<=k)(k2:k<p.len c)(u:Bool):(p.fst c k).len u=(if c=u then k else p.len u)/\(p.oth c k).len u=(if c=u then p.len u-k else p.len u):=by
 cases c<;>cases u<;>refine⟨?_,?_⟩
 .show p.t+k-p.t=k;lia
 .show p.b-(p.t+k)=p.b-p.t-k;lia
 .rfl
 .rfl
 .rfl
 .rfl
 .show p.l+k-p.l=k;lia
 .show p.r-(p.l+k)=p.r-p.l-k;lia
theorem QP{f tb tb2:Addr}{fd:FuncData}(F:Fun K "best" "best" Mi f fd)(T:Txt mg tk)(hne:tb≠tb2)(D_choices_by_size:AT P w K mg base 5 "choices_by_size" ["width","height","kinds"] (Me cc))(D_tree_by:DefOk P w K mg base 5 "tree_by" ["choices","sheet","key"] (Ef tb2 mg)):FnOk P w K mg base (CX1 P w) 6 f fd ["width","height","kinds"] (Ej tb tb2 cc):=by
 have S:=ST;have R:=T;refine F.okx S (λ vs H Q E h=>?_) (λ cdv A outer s H vs Q E hr h=>?_)
 .obtain⟨v1,v2,b,xs,gs,rfl,_⟩:=h;rfl
 .obtain⟨v1,v2,b,xs,gs,rfl,t1,t2,hxs,th,lg,tab,ask,done⟩:=h;refine⟨_,(Ae (Am (Au D_tree_by hr (Aa (BB D_choices_by_size hr (BC AE (D5 (H:=H) (E:=E))) (Aa (pv 0) (Aa (pv 1) (Aa (pv 2) Ab)))) (Aa (A3 (Aa Ad (Aa Ad (Aa (pv 1) (Aa (pv 0) Ab))))) (Aa (Al (v:=.ref (tk.2.2.2.2.2.2.2.2.2)) rfl R.g_size_of rfl) Ab)))))),?_⟩;refine⟨_,rfl,_,rfl,_,rfl,v1,v2,b,xs,gs,rfl,t1,t2,hxs,th,lg,λ r e=>ask.rf tab (Same.refl H) e,λ ww hh e1 e2 w1 w2 h1 h2 dz d H1 s1 nd tv=>?_⟩;subst e1 e2;refine⟨_,rfl,_,rfl,As 4,λ p np=>?_⟩;obtain⟨H2,g,s2,e2⟩:=nw (.tup [.int 0,.int 0,.int hh,.int ww]) np;rw[g];have e2:H2 p=some (.tup (Rk.vs ⟨0,0,hh,ww⟩)):=e2;have s12:=s1.trans s2;have lw:Rk.len ⟨0,0,hh,ww⟩ true=ww:=Int.sub_zero ww;have lh:Rk.len ⟨0,0,hh,ww⟩ false=hh:=Int.sub_zero hh;have tab2:=tab.same s12;refine⟨true,d,p,_,⟨0,0,hh,ww⟩,_,_,rfl,tv.same s2,T.g_size_of,e2,⟨⟨by rw[lw];exact w1,by rw[lw];exact Int.le_refl _⟩,by rw[lh];exact h1,by rw[lh];exact Int.le_refl _⟩,(λ q hq=>⟨hq.1.1,hq.2.1⟩),⟨by rw[lw];exact w2,by rw[lh];exact h2⟩,λ q hq c k k1 k2=>?_,tab2.b,λ v H3 s3 tb3=>?_⟩
  .obtain⟨a1,b1⟩:=L3 k1 k2 true;obtain⟨a2,b2⟩:=L3 k1 k2 false;show((1<=(q.fst c k).len true/\(q.fst c k).len true<=ww)/\1<=(q.fst c k).len false/\(q.fst c k).len false<=hh)/\((1<=(q.oth c k).len true/\(q.oth c k).len true<=ww)/\1<=(q.oth c k).len false/\(q.oth c k).len false<=hh);rw[a1,a2,b1,b2];have hq:(1<=q.len true/\q.len true<=ww)/\1<=q.len false/\q.len false<=hh:=hq;cases c
   .rw[if_neg Bool.false_ne_true,if_neg Bool.false_ne_true,if_pos rfl,if_pos rfl];lia
   .rw[if_pos rfl,if_pos rfl,if_neg Bool.false_ne_true.symm,if_neg Bool.false_ne_true.symm];lia
  .exact done dz v H3 (s12.n.trans (s3.toN tab2.b.tbl)) ⟨tab2.a.tb s3 hne tab2.b.tbl,tb3⟩
theorem Im:Ak ["width","height","kinds","flaws"] ["width","height","kinds","flaws"] (Ag CI):=fsc
theorem GO{f tb tb2:Addr}{fd:FuncData}(F:Fun K "flawed_best" "flawed_best" CI f fd)(T:Txt mg tk)(hne:tb≠tb2)(D_choices_by_piece:AT P w K mg base 5 "choices_by_piece" ["width","height","kinds","flaws"] (Mf cc))(D_tree_by:DefOk P w K mg base 5 "tree_by" ["choices","sheet","key"] (Ef tb2 mg)):FnOk P w K mg base (CX1 P w) 6 f fd ["width","height","kinds","flaws"] (Ei tb tb2 cc):=by
 have S:=Im;have R:=T;refine F.okx S (λ vs H Q E h=>?_) (λ cdv A outer s H vs Q E hr h=>?_)
 .obtain⟨v1,v2,b,e,xs,ys,gs,hs,W,T',rfl,_⟩:=h;rfl
 .obtain⟨v1,v2,b,e,xs,ys,gs,hs,ww,hh,rfl,t1,t2,hxs,th,lg,hys,tf,lh,i1,i2,tab,ask,done⟩:=h;refine⟨_,(Ae (Am (Au D_tree_by hr (Aa (BB D_choices_by_piece hr (BC AE (D5 (H:=H) (E:=E))) (Aa (pv 0) (Aa (pv 1) (Aa (pv 2) (Aa (pv 3) Ab))))) (Aa (A3 (Aa Ad (Aa Ad (Aa (pv 1) (Aa (pv 0) Ab))))) (Aa (Al (v:=.ref (tk.2.2.2.2.2.2.2.2.1)) rfl R.g_itself rfl) Ab)))))),?_⟩;refine⟨_,rfl,_,rfl,_,rfl,_,rfl,v1,v2,b,e,xs,ys,gs,hs,ww,hh,rfl,t1,t2,hxs,th,lg,hys,tf,lh,i1,i2,λ r e=>ask.rf tab (Same.refl H) e,λ e1 e2 w1 w2 h1 h2 dz d H1 s1 nd tv=>?_⟩;subst e1 e2;refine⟨_,rfl,_,rfl,As 4,λ p np=>?_⟩;obtain⟨H2,g,s2,e2⟩:=nw (.tup [.int 0,.int 0,.int hh,.int ww]) np;rw[g];have e2:H2 p=some (.tup (Rk.vs ⟨0,0,hh,ww⟩)):=e2;have s12:=s1.trans s2;have tab2:=tab.same s12;refine⟨false,d,p,_,⟨0,0,hh,ww⟩,_,_,rfl,tv.same s2,T.g_itself,e2,⟨Int.le_refl _,(show(0:Int)<hh from by lia),Int.le_refl _,Int.le_refl _,(show(0:Int)<ww from by lia),Int.le_refl _⟩,(λ q hq=>⟨by have:=hq.2.2.2.2.1;show 1<=q.r-q.l;lia,by have:=hq.2.1;show 1<=q.b-q.t;lia⟩),⟨by show ww-0<=12;lia,by show hh-0<=12;lia⟩,λ q hq c k k1 k2=>?_,tab2.b,λ v H3 s3 tb3=>?_⟩
  .obtain⟨g1,g2,g3,g4,g5,g6⟩:=hq;cases c with
   |true =>
    have k2:k<q.r-q.l:=k2;exact⟨⟨g1,g2,g3,g4,by show q.l<q.l+k;lia,by show q.l+k<=ww;lia⟩,⟨g1,g2,g3,by show 0<=q.l+k;lia,by show q.l+k<q.r;lia,g6⟩⟩
   |false =>
    have k2:k<q.b-q.t:=k2;exact⟨⟨g1,by show q.t<q.t+k;lia,by show q.t+k<=hh;lia,g4,g5,g6⟩,⟨by show 0<=q.t+k;lia,by show q.t+k<q.b;lia,g3,g4,g5,g6⟩⟩
  .exact done dz v H3 (s12.n.trans (s3.toN tab2.b.tbl)) ⟨tab2.a.tb s3 hne tab2.b.tbl,tb3⟩
inductive LP(vs:LUz)(H:Hp)(Q:VK)(E:XK):Prop
 |mk (a b:Addr) (xs:LUz) (h0:vs=[.ref a,.int 999,.ref b]) (h1:H b=some (.lst xs)) (h2:xs.length<=8) (h3:Q (.bl false) H):LP vs H Q E
def Nf:Sp:=λ vs H Q E=>LP vs H Q E
theorem OK:Ak ["piece","mark","kinds"] ["piece","mark","kinds"] (Ag Fy):=fsc
theorem Mu{f:Addr}{fd:FuncData}(F:Fun K "is_laid" "is_laid" Fy f fd)(T:Txt mg tk)(D_is_whole:DefOk P w K mg base 1 "is_whole" ["thing"] Db)(D_is_of_kind:DefOk P w K mg base 2 "is_of_kind" ["piece","kind"] Pf):FnOk P w K mg base CX0 3 f fd ["piece","mark","kinds"] Nf:=by
 have S:=OK;refine F.ok S (λ vs H Q E h=>?_) (λ cdv A outer s H vs Q E hr h=>?_)
 .obtain⟨a,b,xs,rfl,_⟩:=h;rfl
 .obtain⟨a,b,xs,rfl,hb,few,q⟩:=h;refine⟨_,(Ae (Am (Cz (Au D_is_whole hr (Aa (pv 1) Ab)) (Cz (BW DD DV Ad (pv 1) (Aw AA rfl T.z_len rfl (Aa (pv 2) Ab))) (D4 (Au D_is_of_kind hr (Aa (pv 0) (Aa (Ao Bb (pv 2) (pv 1) (λ_ _=>rfl)) Ab)))))))),?_⟩;refine⟨_,rfl,.int 999,rfl,⟨_,rfl⟩,_,rfl,E2 ⟨_,rfl,_,_,rfl,rfl,_,rfl,E2 ?_⟩⟩;refine⟨_,rfl,b,_,rfl,.inl (SqL.of hb),_,_,rfl,rfl,_,rfl,BD (decide_eq_false (by lia)) ?_⟩;show Q (.bl false) H;exact q
def Jy(p:Rk):D:=.tup (.cons (.tup (.cons (.at (.int p.t)) (.cons (.at (.int p.l)) (.cons (.at (.int p.b)) (.cons (.at (.int p.r)) .nil))))) (.cons (.at (.int 999)) .nil))
theorem OT{H:Hp}{a pa:Addr}{p:Rk}(h1:H a=some (.tup [.ref pa,.int 999]))(h2:H pa=some (.tup p.vs)):DAt H (Jy p) (.ref a):=by
 unfold Jy;rw[DAt];refine⟨a,_,rfl,h1,?_⟩;rw[Be];refine⟨_,_,rfl,?_,?_⟩
 .rw[DAt];refine⟨pa,_,rfl,h2,?_⟩;rw[Be];refine⟨_,_,rfl,by rw[DAt];exact⟨rfl,rfl⟩,?_⟩;rw[Be];refine⟨_,_,rfl,by rw[DAt];exact⟨rfl,rfl⟩,?_⟩;rw[Be];refine⟨_,_,rfl,by rw[DAt];exact⟨rfl,rfl⟩,?_⟩;rw[Be];refine⟨_,_,rfl,by rw[DAt];exact⟨rfl,rfl⟩,?_⟩;rw[Be]
 .rw[Be];refine⟨_,_,rfl,by rw[DAt];exact⟨rfl,rfl⟩,?_⟩;rw[Be]
theorem RfN.raise{H H1 H2:Hp}{E:XK}{C y dx T:Addr}{P:LFz->Hp->Prop}{fs:LFz}(r:RfN H E C P)(s1:SameN H H1)(hy:H1 y=none)(s:Same H1 H2)(e:H2 y=some (C7 C dx y))(ed:H2 dx=some (Ce dx fs))(nd:dx≠y)
  (hT:H2 T=none) (p:∀H3,Same H1 H3->P fs H3):E (.ref y) (some dx) (thrown H2 y C (some dx) T):=by
 obtain⟨a,b⟩:=OQ hy s e ed hT nd;exact r y dx fs _ (T9 s1 hy) (s1.trans b.n) a (p _ b)
theorem Sv{ts:List PT}{i:Nat}{x:V}(h:(pcs ts)[i]?=some x):∃t,ts[i]?=some t/\x=.ref t.1:=by
 rw[List.getElem?_map]at h;cases e:ts[i]? with
 |none=>rw[e]at h;cases h
 |some t=>rw[e]at h;exact⟨t,rfl,(Option.some.inj h).symm⟩
def mkd(ts:List PT):List PT:=ts.filter λ t=>t.2.2.2.isSome
def Pd(tb tb2 cW cU cL:Addr)(cc:Cc):Sp:=λ vs H _ E=>∃(vt:V)(k:Int)(v1 v2:V)(b:Addr)(xs:LUz)(gs:List (Option Bp)),vs=[vt,v1,v2,.ref b]/\Obj cW cU cL H (trK k) vt/\Ty H v1/\Ty H v2/\H b=some (.lst xs)/\Ths KTh H xs gs/\gs.length<=100/\Tb tb tb2 H/\AskR tb tb2 cc H E (C6 Ay v1 v2 gs) /\
 (C6 Ay v1 v2 gs=none->∀ww hh:Int,v1=.int ww->v2=.int hh->(¬(1<=k/\k<ww)->RfN H E (cc .C) (PR tb tb2 .C (.at (.int k))))/\((1<=k/\k<ww)->RfN H E (cc .U) (PR tb tb2 .U (Jy (Rk.fst ⟨0,0,hh,ww⟩ true k)))))
theorem MP:Ak ["tree","width","height","kinds","marked","rectangle","mark"] ["tree","width","height","kinds"] (Ag E7):=fsc
theorem KU{f tb tb2:Addr}{fd:FuncData}(F:Fun K "worth_of" "worth_of" E7 f fd)(T:Txt mg tk)(hne:tb≠tb2)(X_Unfit:Cf P w K mg base 1 "Unfit" (cc .U) ["self","piece"] ["piece"])(D_check_sides:AT P w K mg base 3 "check_sides" ["width","height"] (Dc cc Ay))(D_check_kinds:AT P w K mg base 4 "check_kinds" ["kinds"] (EV cc))(D_pieces:AT P w K mg base 5 "pieces" ["tree","width","height"] (Fr tb cW cU cL cc))(D_is_laid:DefOk P w K mg base 3 "is_laid" ["piece","mark","kinds"] Nf) :
  FnOk P w K mg base (CX1 P w) 6 f fd ["tree","width","height","kinds"] (Pd tb tb2 cW cU cL cc):=by
 have S:=MP;refine F.okx S (λ vs H Q E h=>?_) (λ cdv A outer s H vs Q E hr h=>?_)
 .obtain⟨vt,k,v1,v2,b,xs,gs,rfl,_⟩:=h;rfl
 .obtain⟨vt,k,v1,v2,b,xs,gs,rfl,ho,t1,t2,hxs,th,lg,tab,ask,q⟩:=h;refine⟨_,(Af (AL (BB D_check_sides hr (BC AE (D5 (H:=H) (E:=E))) (Aa (pv 1) (Aa (pv 2) Ab))))
   (Af (AL (BB D_check_kinds hr (BC AE (D5 (H:=H) (E:=E))) (Aa (pv 3) Ab)))
   (Af (KO rfl (Aq (i:=4) S.nd rfl (Or.inl rfl)) (Ch (BB D_pieces hr (BC AE (D5 (H:=H) (E:=E))) (Aa (pv 0) (Aa (pv 1) (Aa (pv 2) Ab))))) (λ_ _ _ _ _=>(Aq (i:=0) (show List.Nodup (["piece"]:LSz) from by decide +kernel) rfl (Or.inl rfl))) (λ_ _ _ _ _=>(Ap Gn (Ao (JU (K:=K)) (pv 0) Ad (λ_ _=>rfl)) BA (Av _))) (λ_ _ _ _ _=>(pv 0)) (N:=["piece"]) (fr:=[none]))
   (Af (Bh D6 rfl (Ch (pv 4)) (Cb rfl (A5 (Aq (i:=5) S.nd rfl (Or.inl rfl)) (A5 (Aq (i:=6) S.nd rfl (Or.inl rfl)) B3))) (Ae (AC (Bx (Bg (Au D_is_laid hr (Aa (pv 5) (Aa (pv 6) (Aa (pv 3) Ab)))))) (Ae (BV AE X_Unfit hr (Aa (A3 (Aa (pv 5) (Aa (pv 6) Ab))) Ab))) Ax)))
   (Ae (Am (Aw Qj rfl T.z_sum rfl (Aa (Em rfl (Ch (pv 4)) (λ_ _ _ _ _=>(Nn (K:=K) (n:=2) rfl (A5 (Aq (i:=0) (show List.Nodup (["rectangle","mark","kinds"]:LSz) from by decide +kernel) rfl (Or.inl rfl)) (A5 (Aq (i:=1) (show List.Nodup (["rectangle","mark","kinds"]:LSz) from by decide +kernel) rfl (Or.inl rfl)) B3)))) (λ_ _ _ _ _=>(Ao (JU (K:=K)) (Ao (PF (K:=K)) (pv 2) (pv 1) (λ_ _=>rfl)) Ad (λ_ _=>rfl))) (N:=["rectangle","mark","kinds"]) (fr:=[none,none,some 3])) Ab)))))))),?_⟩
  refine⟨_,rfl,_,rfl,v1,v2,rfl,t1,t2,λ v e=>ask.rf tab (Same.refl H) (MF e),λ ds H1 s1=>?_⟩;refine⟨_,rfl,b,xs,gs,rfl,s1 _ _ hxs,th.mono (λ v g k=>k.same s1),lg,λ r e=>ask.rf tab s1 (by rw[FK ds];exact e),λ dk H2 s2=>?_⟩;have dz:C6 Ay v1 v2 gs=none:=by rw[FK ds];exact dk
  obtain⟨f1,f2⟩:=Kc ds;obtain⟨ww,rfl,w1,w2⟩:=Bt f1;obtain⟨hh,rfl,h1,h2⟩:=Bt f2;obtain⟨rc,ru⟩:=q dz ww hh rfl rfl;have few:xs.length<=8:=by
   obtain⟨ks,rfl,few⟩:=Gs dk;rw[th.len,List.length_map];exact few
  have s12:=s1.trans s2;have tab2:=tab.same s12;refine⟨_,rfl,_,rfl,_,rfl,vt,k,ww,hh,rfl,ho.same s12,tab2.a,⟨w1,w2⟩,⟨h1,h2⟩,λ z=>RF s12.n (rc z) Mc λ fs H' s' e=>⟨⟨.int k,e,by rw[DAt];exact⟨rfl,rfl⟩⟩,tab2.same s'⟩,λ z l ts H3 s3 tb3 hl pc pm=>?_⟩;have ru:=ru z;have s3N:=s3.toN tab2.a.tbl;have tab3:Tb tb tb2 H3:=⟨tb3,tab2.b.tb s3 (Ne.symm hne) tab2.a.tbl⟩;have sN3:SameN H H3:=s12.n.trans s3N;have ln:=pm.length_eq;rw[List.length_map]at ln;refine⟨l,rfl,⟨_,SqL.of hl⟩,λ acc hacc=>ML (K:=K) (a:=l) (ys:=pcs ts) (λ i zs σ H'=>(∃y,σ=[y])/\Same H3 H'/\zs=pcs (mkd (ts.take i))) ⟨⟨none,rfl⟩,Same.new hacc,rfl⟩ (λ i zs σ H' _ _ hp=>SqL.of (hp.2.1 _ _ hl)) ?_ ?_⟩
  .rintro i x zs σ H' hx hi hl' hacc' ⟨⟨y,rfl⟩,hs,rfl⟩;obtain⟨u,hu,rfl⟩:=Sv hx;obtain⟨p1,p2⟩:=(pc.same hs) u (List.mem_of_getElem? hu);have tk:ts.take (i+1)=ts.take i++[u]:=by rw[List.take_succ,hu];rfl
   have sz:(pcs ts).length<=sizeLine:=Nat.le_of_lt (A0 (by rw[List.length_map,ln];exact(by decide:2<=1000)));obtain⟨ua,ub,up,um⟩:=u;refine⟨_,rfl,ua,_,_,_,rfl,rfl,SqT.of p1,DZ,rfl,_,rfl,?_⟩;cases um with
   |none =>
    rw[show(!decide (C0 none=V.non))=false by rw[show C0 none=V.non from rfl,decide_eq_true rfl];rfl];refine fSk.mk hi hl' hacc' ⟨⟨_,rfl⟩,hs,?_⟩;unfold mkd;rw[tk,List.filter_append];exact(congrArg pcs (List.append_nil _)).symm
   |some mk =>
    rw[show(!decide (C0 (some mk)=V.non))=true by rw[show C0 (some mk)=V.int mk from rfl,decide_eq_false (by intro z;cases z)];rfl];refine⟨_,rfl,fNx.mk sz hi hl' hacc' ⟨⟨_,rfl⟩,λ d o e=>by rw[Ai (Ah e hacc)];exact hs d o e,?_⟩⟩;unfold mkd;rw[tk,List.filter_append];exact(KQ _ _).symm
  .rintro zs σ H4 hl4 hacc4 ⟨_,s4,rfl⟩;rw[List.length_map,List.take_length]at hacc4;obtain⟨ua,ub,e0⟩:∃ua ub,mkd ts=[(ua,ub,Rk.fst ⟨0,0,hh,ww⟩ true k,some 999)]:=by
    have pf:=pm.filter (λ g=>g.2.isSome);have pf:((cons ts).filter λ g=>g.2.isSome).Perm [(Rk.fst ⟨0,0,hh,ww⟩ true k,some 999)]:=pf;have e:(cons ts).filter (λ g=>g.2.isSome)=cons (mkd ts):=by
     unfold mkd;rw[List.filter_map];rfl
    rw[e]at pf;have pe:=List.perm_singleton.mp pf;cases em:mkd ts with
    |nil=>rw[em]at pe;cases pe
    |cons u r =>
     rw[em]at pe;obtain⟨e1,e2⟩:=List.cons.inj pe;obtain⟨ua,ub,ug⟩:=u;have e1:ug=_:=e1;subst e1;have e2:r.map (λ t=>t.2.2)=[]:=e2;rw[List.map_eq_nil_iff.mp e2];exact⟨ua,ub,rfl⟩
   have mu:(ua,ub,Rk.fst ⟨0,0,hh,ww⟩ true k,some 999)∈ts:=(List.mem_filter.mp (show _∈mkd ts by rw[e0];exact List.mem_singleton.mpr rfl)).1;rw[e0]at hacc4;have sN4:SameN H H4:=sN3.trans s4.n;have tab4:=tab3.same s4;refine⟨_,rfl,acc,rfl,⟨_,SqL.of hacc4⟩,DX (K:=K) (a:=acc) (xs:=[.ref ua]) (λ i σ H'=>∃(x5 x6:Option V),σ=[some vt,some (.int ww),some (.int hh),some (.ref b),some (.ref acc),x5,x6]/\Same H4 H'/\i=0)
    ⟨_,_,rfl,Same.refl H4,rfl⟩ (λ i σ H' _ hp=>by obtain⟨_,_,_,s',_⟩:=hp;exact SqL.of (s' _ _ hacc4)) ?_ ?_⟩
   .rintro i x σ H5 hx ⟨x5,x6,rfl,s5,rfl⟩;cases hx;obtain⟨p1,p2⟩:=(pc.same (s4.trans s5)) _ mu;refine⟨ua,_,rfl,SqT.of p1,rfl,_,_,rfl,_,_,rfl,rfl,?_⟩;refine⟨_,rfl,_,rfl,_,rfl,ub,b,xs,rfl,s5 _ _ (s4 _ _ (sN3.lst hxs)),few,_,rfl,E2 ?_⟩;refine⟨_,rfl,_,rfl,As 2,λ a ha=>⟨rfl,λ y dx T H7 hy s7 e ed nd hT nT=>?_⟩⟩;have sa:Same H5 (upd H5 a (.tup [.ref ub,.int 999])):=Same.new ha;have s5a:=s5.trans sa;exact RfN.raise ru (sN4.trans s5a.n) hy s7 e ed nd hT λ H8 s8=>⟨⟨.ref a,rfl,OT (s8 _ _ Ac) ((sa.trans s8) _ _ p2)⟩,tab4.same (s5a.trans s8)⟩
   .rintro σ H5 ⟨x5,x6,rfl,s5,z⟩;cases z
theorem NR{H H1:Hp}{Q:VK}{x d:Addr}{o1 o2:HO}{E1:HO}(hx:H x=some E1)(hd:H d=none):(upd (upd H d o1) x o2) x=some o2/\(upd (upd H d o1) x o2) d=some o1/\∀a o,a≠x->H a=some o->(upd (upd H d o1) x o2) a=some o :=
 ⟨Ac,by rw[Ai (Ne.symm (Ah hx hd)),Ac],λ a o ne e=>by rw[Ai ne,Ai (Ah e hd)];exact e⟩
theorem Iy:Ak ["self","side"] ["self","side"] (Ag CP):=fsc
theorem GW{f cN:Addr}{fd:FuncData}(F:Fun K "__init__" "NoSide.__init__" CP f fd)(xc:XCls K cN)(xn:NoAttr K cN "side"):FnOk P w K mg base CX0 1 f fd ["self","side"] (K5 cN ["side"]):=by
 have S:=Iy;refine F.ok S (λ vs H Q E h=>?_) (λ cdv A outer s H vs Q E hr h=>?_)
 .obtain⟨x,ws,rfl,hl,_⟩:=h;rw[List.length_cons,hl];rfl
 .obtain⟨x,ws,rfl,hl,hx,q⟩:=h;obtain⟨v0,rfl⟩:=Ll hl;refine⟨_,(Ae (Ek (pv 0) (pv 1) rfl)),?_⟩;refine⟨_,rfl,_,rfl,x,cN,rfl,xc,xn,.inl ⟨hx,λ d hd=>?_⟩⟩;obtain⟨e1,e2,e3⟩:=NR (H1:=H) (Q:=Q) (o1:=Ce d [("side",v0)]) (o2:=C7 cN d x) hx hd;exact q d _ hd e1 e2 e3
theorem HH:Ak ["self","many"] ["self","many"] (Ag Cw):=fsc
theorem Gf{f cN:Addr}{fd:FuncData}(F:Fun K "__init__" "TooMany.__init__" Cw f fd)(xc:XCls K cN)(xn:NoAttr K cN "many"):FnOk P w K mg base CX0 1 f fd ["self","many"] (K5 cN ["many"]):=by
 have S:=HH;refine F.ok S (λ vs H Q E h=>?_) (λ cdv A outer s H vs Q E hr h=>?_)
 .obtain⟨x,ws,rfl,hl,_⟩:=h;rw[List.length_cons,hl];rfl
 .obtain⟨x,ws,rfl,hl,hx,q⟩:=h;obtain⟨v0,rfl⟩:=Ll hl;refine⟨_,(Ae (Ek (pv 0) (pv 1) rfl)),?_⟩;refine⟨_,rfl,_,rfl,x,cN,rfl,xc,xn,.inl ⟨hx,λ d hd=>?_⟩⟩;obtain⟨e1,e2,e3⟩:=NR (H1:=H) (Q:=Q) (o1:=Ce d [("many",v0)]) (o2:=C7 cN d x) hx hd;exact q d _ hd e1 e2 e3
theorem Kq:Ak ["self","at"] ["self","at"] (Ag D1):=fsc
theorem Ib{f cN:Addr}{fd:FuncData}(F:Fun K "__init__" "NoCut.__init__" D1 f fd)(xc:XCls K cN)(xn:NoAttr K cN "at"):FnOk P w K mg base CX0 1 f fd ["self","at"] (K5 cN ["at"]):=by
 have S:=Kq;refine F.ok S (λ vs H Q E h=>?_) (λ cdv A outer s H vs Q E hr h=>?_)
 .obtain⟨x,ws,rfl,hl,_⟩:=h;rw[List.length_cons,hl];rfl
 .obtain⟨x,ws,rfl,hl,hx,q⟩:=h;obtain⟨v0,rfl⟩:=Ll hl;refine⟨_,(Ae (Ek (pv 0) (pv 1) rfl)),?_⟩;refine⟨_,rfl,_,rfl,x,cN,rfl,xc,xn,.inl ⟨hx,λ d hd=>?_⟩⟩;obtain⟨e1,e2,e3⟩:=NR (H1:=H) (Q:=Q) (o1:=Ce d [("at",v0)]) (o2:=C7 cN d x) hx hd;exact q d _ hd e1 e2 e3
theorem Iz:Ak ["self","place"] ["self","place"] (Ag CQ):=fsc
theorem GX{f cN:Addr}{fd:FuncData}(F:Fun K "__init__" "NoKind.__init__" CQ f fd)(xc:XCls K cN)(xn:NoAttr K cN "place"):FnOk P w K mg base CX0 1 f fd ["self","place"] (K5 cN ["place"]):=by
 have S:=Iz;refine F.ok S (λ vs H Q E h=>?_) (λ cdv A outer s H vs Q E hr h=>?_)
 .obtain⟨x,ws,rfl,hl,_⟩:=h;rw[List.length_cons,hl];rfl
 .obtain⟨x,ws,rfl,hl,hx,q⟩:=h;obtain⟨v0,rfl⟩:=Ll hl;refine⟨_,(Ae (Ek (pv 0) (pv 1) rfl)),?_⟩;refine⟨_,rfl,_,rfl,x,cN,rfl,xc,xn,.inl ⟨hx,λ d hd=>?_⟩⟩;obtain⟨e1,e2,e3⟩:=NR (H1:=H) (Q:=Q) (o1:=Ce d [("place",v0)]) (o2:=C7 cN d x) hx hd;exact q d _ hd e1 e2 e3
theorem Ko:Ak ["self","piece"] ["self","piece"] (Ag D0):=fsc
theorem Ia{f cN:Addr}{fd:FuncData}(F:Fun K "__init__" "Unfit.__init__" D0 f fd)(xc:XCls K cN)(xn:NoAttr K cN "piece"):FnOk P w K mg base CX0 1 f fd ["self","piece"] (K5 cN ["piece"]):=by
 have S:=Ko;refine F.ok S (λ vs H Q E h=>?_) (λ cdv A outer s H vs Q E hr h=>?_)
 .obtain⟨x,ws,rfl,hl,_⟩:=h;rw[List.length_cons,hl];rfl
 .obtain⟨x,ws,rfl,hl,hx,q⟩:=h;obtain⟨v0,rfl⟩:=Ll hl;refine⟨_,(Ae (Ek (pv 0) (pv 1) rfl)),?_⟩;refine⟨_,rfl,_,rfl,x,cN,rfl,xc,xn,.inl ⟨hx,λ d hd=>?_⟩⟩;obtain⟨e1,e2,e3⟩:=NR (H1:=H) (Q:=Q) (o1:=Ce d [("piece",v0)]) (o2:=C7 cN d x) hx hd;exact q d _ hd e1 e2 e3
theorem I8:Ak ["self","place"] ["self","place"] (Ag CS):=fsc
theorem GY{f cN:Addr}{fd:FuncData}(F:Fun K "__init__" "NoFlaw.__init__" CS f fd)(xc:XCls K cN)(xn:NoAttr K cN "place"):FnOk P w K mg base CX0 1 f fd ["self","place"] (K5 cN ["place"]):=by
 have S:=I8;refine F.ok S (λ vs H Q E h=>?_) (λ cdv A outer s H vs Q E hr h=>?_)
 .obtain⟨x,ws,rfl,hl,_⟩:=h;rw[List.length_cons,hl];rfl
 .obtain⟨x,ws,rfl,hl,hx,q⟩:=h;obtain⟨v0,rfl⟩:=Ll hl;refine⟨_,(Ae (Ek (pv 0) (pv 1) rfl)),?_⟩;refine⟨_,rfl,_,rfl,x,cN,rfl,xc,xn,.inl ⟨hx,λ d hd=>?_⟩⟩;obtain⟨e1,e2,e3⟩:=NR (H1:=H) (Q:=Q) (o1:=Ce d [("place",v0)]) (o2:=C7 cN d x) hx hd;exact q d _ hd e1 e2 e3
theorem MS:Ak ["_law_script","_law_k"] ["_law_script","_law_k"] (Ag DN):=fsc
theorem KZ{f:Addr}{fd:FuncData}(F:Fun K "_law_cell" "_law_cell" DN f fd)(T:Txt mg tk):FnOk P w K mg base CX0 1 f fd ["_law_script","_law_k"] (Ni K):=by
 have S:=MS;refine F.ok S (λ vs H Q E h=>?_) (λ cdv A outer s H vs Q E hr h=>?_)
 .obtain⟨a,ns,k,rfl,_⟩:=h;rfl
 .obtain⟨a,ns,k,rfl,hS,k0,q⟩:=h;refine⟨_,(Af (AC (Ap DV (pv 1) (Aw AA rfl T.z_len rfl (Aa (pv 0) Ab)) (Av _)) (Ae (Am (Ao Bb (pv 0) (pv 1) (λ_ _=>rfl)))) Ax)
   (Ae (Am Ad))),?_⟩
  refine⟨_,rfl,_,rfl,a,_,rfl,.inl hS,_,_,rfl,rfl,_,rfl,AG (λ c=>?_) (λ c=>q 0)⟩;have c:=of_decide_eq_true c;rw[List.length_map]at c;obtain⟨z,hz⟩:=R1 k0 c;exact⟨_,rfl,_,rfl,a,_,_,_,rfl,rfl,hS,hz,q _⟩
theorem MR:Ak ["_law_cell_here","_law_nth","_law_many","_law_number"] ["_law_cell_here","_law_nth","_law_many"] (Ag DM):=fsc
theorem KY{f:Addr}{fd:FuncData}(F:Fun K "_law_draw" "_law_draw" DM f fd):FnOk P w K mg base CX0 1 f fd ["_law_cell_here","_law_nth","_law_many"] Gk:=by
 have S:=MR;refine F.ok S (λ vs H Q E h=>?_) (λ cdv A outer s H vs Q E hr h=>?_)
 .obtain⟨c,n,m,rfl,_⟩:=h;rfl
 .obtain⟨c,n,m,rfl,n0,n1,m0,q⟩:=h;refine⟨_,(Af (At (i:=3) S.nd rfl (Or.inl rfl) (Az BO (Az CB (Az AW (Az AW (Az BO (pv 0) Ad) Ad) (Az CB (pv 1) (pv 1))) Ad) Ad))
   (Ae (Am (Az BO (Az AW (Az DW (pv 3) Ad) (Az CB (Az BO (pv 3) Ad) (pv 1))) (pv 2))))),?_⟩
  have a:=Int.emod_nonneg c (b:=899809363) (by decide);have b:=Int.emod_lt_of_pos c (b:=899809363) (by decide);have nn:0<=n*n/\n*n<=1000000:=⟨Int.mul_nonneg n0 n0,Int.le_trans (Int.mul_le_mul n1 n1 n0 (by decide)) (by decide)⟩;refine⟨_,rfl,_,_,rfl,rfl,(show(0:Int)<899809363 from by decide),_,_,rfl,rfl,_,rfl,_,rfl,_,_,rfl,rfl,FT (by lia) (by lia) (by lia) (by lia),_,_,rfl,rfl,_,_,rfl,rfl,FT (by lia) (by lia) (by decide) (by decide),_,_,rfl,rfl,(show(0:Int)<899809363 from by decide),?_⟩;have g0:=Int.emod_nonneg ((c % 899809363+3+n*n)*60919 % 899809363) (b:=1013) (by decide);have g1:=Int.emod_lt_of_pos ((c % 899809363+3+n*n)*60919 % 899809363) (b:=1013) (by decide);exact⟨_,rfl,_,_,rfl,rfl,Qd _ (by decide) (by decide),_,rfl,_,_,rfl,rfl,(show(0:Int)<1013 from by decide),_,rfl,_,_,rfl,rfl,FT (by lia) (by lia) (by lia) (by lia),_,_,rfl,rfl,_,rfl,_,_,rfl,rfl,m0,q _ (Int.emod_nonneg _ (by lia)) (Int.emod_lt_of_pos _ m0)⟩
def Ho:Ds->Option (LUz)
 |.nil=>some []
 |.cons (.at v) r=>(Ho r).map (v::·)
 |_=>none
theorem RR{H:Hp}:∀(ds:Ds){xs ys:LUz},Ho ds=some ys->Be H ds xs->xs=ys/\∀x∈xs,Ty H x
 |.nil,xs,ys,h,e=>by
  cases h;rw[Be]at e;subst e;exact⟨rfl,λ x hx=>nomatch hx⟩
 |.cons (.at v) r,xs,ys,h,e=>by
  rw[Ho]at h;obtain⟨zs,hz,rfl⟩:=Option.map_eq_some_iff.mp h;rw[Be]at e;obtain⟨x,us,rfl,p,q⟩:=e;rw[DAt]at p;obtain⟨rfl,fl⟩:=p;obtain⟨rfl,t⟩:=RR r hz q;refine⟨rfl,λ y hy=>?_⟩;rcases List.mem_cons.mp hy with rfl|hy
  .exact Jz fl
  .exact t y hy
 |.cons (.tup _) _,xs,ys,h,e=>by cases h
 |.cons (.lst _) _,xs,ys,h,e=>by cases h
def SN(B:LUz->Bool):D->Bool
 |.at _=>true
 |.lst _=>true
 |.tup ds=>match Ho ds with
  |some xs=>!B xs&&decide (xs.length<=100)
  |none=>false
theorem SM{B:LUz->Bool}{H:Hp}:∀{d:D}{v:V},DAt H d v->SN B d=true->Bad B H v
 |.at u,v,h,_=>by
  rw[DAt]at h;obtain⟨rfl,fl⟩:=h;cases v with
  |non=>exact .inr ⟨"NoneType",rfl,by decide⟩
  |bl b=>exact .inr ⟨"bool",rfl,by decide⟩
  |int b=>exact .inr ⟨"int",rfl,by decide⟩
  |str b=>exact .inr ⟨"str",rfl,by decide⟩
  |_=>cases fl
 |.lst ds,v,h,_=>by
  rw[DAt]at h;obtain⟨a,xs,rfl,e,_⟩:=h;exact .inr ⟨"list",CF e,by decide⟩
 |.tup ds,v,h,b=>by
  rw[DAt]at h;obtain⟨a,xs,rfl,e,da⟩:=h;have b:(match Ho ds with
   |some xs=>!B xs&&decide (xs.length<=100)
   |none=>false)=true:=b
  split at b
  .rename_i ys hy;obtain⟨rfl,t⟩:=RR ds hy da;rw[Bool.and_eq_true,decide_eq_true_eq]at b;exact .inl ⟨a,xs,rfl,e,b.2,t,by simpa using b.1⟩
  .cases b
theorem SL{B:LUz->Bool}{H:Hp}{ds:Ds}{xs:LUz}(h:Be H ds xs)(b:∀i,i<ds.len->SN B (ds.get i)=true):∀v∈xs,Bad B H v:=λ v hv=>by
 obtain⟨i,hi,da⟩:=Ly ds h v hv;exact SM da (b i hi)
def QE(W T:Int)(x:Str):Option V:=if x="_law_height" then some (.int T) else if x="_law_width" then some (.int W) else none
def dsS:Ds:=.cons (.at (.int 0)) (.cons (.at (.int 13)) (.cons (.at (.int (-1))) (.cons (.at (.bl true)) (.cons (.at .non) (.cons (.at (.str "5")) (.cons (.at (.int 100000000000000000000)) (.cons (.lst (.cons (.at (.int 3)) .nil)) .nil)))))))
def dsK:Ds:=.cons (.lst (.cons (.at (.int 1)) (.cons (.at (.int 1)) (.cons (.at (.int 1)) (.cons (.at (.bl true)) .nil))))) (.cons (.tup (.cons (.at (.int 1)) (.cons (.at (.int 1)) (.cons (.at (.int 1)) .nil)))) (.cons (.tup (.cons (.at (.int 0)) (.cons (.at (.int 1)) (.cons (.at (.int 1)) (.cons (.at (.bl true)) .nil))))) (.cons (.tup (.cons (.at (.int 1)) (.cons (.at (.int 13)) (.cons (.at (.int 1)) (.cons (.at (.bl false)) .nil))))) (.cons (.tup (.cons (.at (.int 1)) (.cons (.at (.int 1)) (.cons (.at (.int (-1))) (.cons (.at (.bl true)) .nil))))) (.cons (.tup (.cons (.at (.int 1)) (.cons (.at (.int 1)) (.cons (.at (.bl true)) (.cons (.at (.bl true)) .nil))))) .nil)))))
def dsL:Ds:=.cons (.tup (.cons (.at (.int 2)) (.cons (.at (.int 1)) (.cons (.at (.int 1000000001)) (.cons (.at (.bl true)) .nil))))) (.cons (.tup (.cons (.at (.int 1)) (.cons (.at (.int 1)) (.cons (.at (.int 1)) (.cons (.at (.int 1)) .nil))))) (.cons (.at .non) (.cons (.tup (.cons (.at (.bl true)) (.cons (.at (.int 1)) (.cons (.at (.int 1)) (.cons (.at (.bl false)) .nil))))) (.cons (.at (.str "kind")) (.cons (.tup (.cons (.at (.int 1)) (.cons (.at (.int 1)) (.cons (.at (.int 1)) (.cons (.at (.bl true)) (.cons (.at (.int 1)) .nil)))))) .nil)))))
def dsF(W T:Int):Ds:=.cons (.tup (.cons (.at (.int T)) (.cons (.at (.int 0)) .nil))) (.cons (.tup (.cons (.at (.int 0)) (.cons (.at (.int W)) .nil))) (.cons (.tup (.cons (.at (.int (-1))) (.cons (.at (.int 0)) .nil))) (.cons (.lst (.cons (.at (.int 0)) (.cons (.at (.int 0)) .nil))) (.cons (.tup (.cons (.at (.bl true)) (.cons (.at (.int 0)) .nil))) (.cons (.tup (.cons (.at (.int 0)) .nil)) (.cons (.at .non) (.cons (.tup (.cons (.at (.int 0)) (.cons (.at (.int 0)) (.cons (.at (.int 0)) .nil)))) (.cons (.at (.str "00")) (.cons (.tup (.cons (.at (.int 0)) (.cons (.at (.bl false)) .nil))) .nil)))))))))
theorem U8:∃(p1 p2 p3 p4 p5 p6 p7 p8 p9 p10 p11 p12 p13 p14:Pos)(k1 k2 k3 k4:Nat)(es_dsS:List Expr),(Ar BS)=.If (.Compare (.BinOp (.Name "_law_cell_here" p1) .Mod (.Constant (.int 5) k1 p2) p3) [.Eq] [(.Constant (.int 0) k2 p4)] p5) [.Return (some (.Subscript (.List es_dsS p6) (.BinOp (.BinOp (.Name "_law_cell_here" p7) .FloorDiv (.Constant (.int 5) k3 p8) p9) .Mod (.Constant (.int 8) k4 p10) p11) p12)) p13] [] p14::(Ar BS).drop 1/\DE (Dm (λ_=>none) 4) es_dsS=some dsS/\es_dsS.length<=64:=⟨_,_,_,_,_,_,_,_,_,_,_,_,_,_,_,_,_,_,_,rfl,by kernel_rfl,by decide +kernel⟩
theorem UA:∃(p1 p2 p3:Pos)(es_dsK:List Expr),(Ar A6).drop 2=.Assign [(.Name "_law_odd" p1)] (.List es_dsK p2) p3::(Ar A6).drop 3/\DE (Dm (λ_=>none) 4) es_dsK=some dsK/\es_dsK.length<=64:=⟨_,_,_,_,rfl,by kernel_rfl,by decide +kernel⟩
theorem U9:∃(p1 p2 p3 p4 p5:Pos)(es_dsL:List Expr),(Ar A6).drop 3=.Assign [(.Name "_law_odd" p1)] (.BinOp (.Name "_law_odd" p2) .Add (.List es_dsL p3) p4) p5::(Ar A6).drop 4/\DE (Dm (λ_=>none) 4) es_dsL=some dsL/\es_dsL.length<=64:=⟨_,_,_,_,_,_,rfl,by kernel_rfl,by decide +kernel⟩
theorem UB(W T:Int):∃(p1 p2 p3:Pos)(es_dsF:List Expr),(Ar A7).drop 2=.Assign [(.Name "_law_odd" p1)] (.List es_dsF p2) p3::(Ar A7).drop 3/\DE (Dm (QE W T) 4) es_dsF=some (dsF W T)/\es_dsF.length<=64:=⟨_,_,_,_,rfl,by kernel_rfl,by decide +kernel⟩
def stN(s:Stmt)(i:Nat):Stmt:=(Ar s).getD i (.Pass ⟨0,0,0,0⟩)
def Dl:Option Nat->V
 |none=>.non
 |some k=>.int k
theorem PP{α:Type}{gs:List (Option α)}(h:AX gs=none):∀j,j<gs.length->∃t,gs[j]?=some (some t):=λ j hj=>by
 unfold AX at h;rw[List.getElem?_eq_getElem hj];cases e:gs[j] with
 |some t=>exact⟨t,rfl⟩
 |none=>exact absurd (List.findIdx?_eq_none_iff.mp h none (by rw[<-e];exact List.getElem_mem hj)) (λ z=>nomatch z)
theorem Rq{α:Type}{gs:List (Option α)}{k:Nat}(h:AX gs=some k):gs[k]?=some none/\∀j,j<k->∃t,gs[j]?=some (some t):=by
 unfold AX at h;obtain⟨hk,p,q⟩:=List.findIdx?_eq_some_iff_getElem.mp h;refine⟨?_,λ j hj=>?_⟩
 .rw[List.getElem?_eq_getElem hk];cases c:gs[k] with
  |none=>rfl
  |some t=>rw[c]at p;cases p
 .have hj':j<gs.length:=by lia
  rw[List.getElem?_eq_getElem hj'];have:=q j hj;cases c:gs[j] with
  |some t=>exact⟨t,rfl⟩
  |none=>rw[c]at this;exact absurd rfl this
def Ka(i:Nat):Option Nat->Nat
 |none=>i
 |some k=>if i<k then i else k
theorem Ls{α:Type}{gs:List (Option α)}{i:Nat}(hi:i<gs.length):AX (gs.set i none)=some (Ka i (AX gs)):=by
 have at_i:(gs.set i none)[i]?=some none:=by rw[List.getElem?_set_self hi]
 have off:∀{j:Nat},j≠i->(gs.set i none)[j]?=gs[j]?:=λ{j} n=>List.getElem?_set_ne (Ne.symm n);cases e:AX gs with
 |none =>
  show _=some i;exact Dp at_i λ j hj=>by rw[off (by lia)];exact PP e j (by lia)
 |some k =>
  obtain⟨p,q⟩:=Rq e;show _=some (if i<k then i else k);by_cases c:i<k
  .rw[if_pos c];exact Dp at_i λ j hj=>by rw[off (by lia)];exact q j (by lia)
  .rw[if_neg c];refine Dp ?_ λ j hj=>by rw[off (by lia)];exact q j hj
   by_cases z:k=i
   .rw[z];exact at_i
   .rw[off z];exact p
theorem Lu{α:Type}(ws:List α):AX (ws.map some)=none:=FF λ j hj=>by
 rw[List.length_map]at hj;exact⟨ws[j],by rw[List.getElem?_map,List.getElem?_eq_getElem hj];rfl⟩
theorem PH{n:Nat}{i:Int}(h0:0<=i)(h1:i<n):ixN n i=some i.toNat:=by
 unfold ixN;rw[if_pos h0,if_pos h1]
inductive Jp(vs:LUz)(H:Hp)(Q:VK)(E:XK):Prop
 |mk (c:Int) (h0:vs=[.int c]) (h1:∀d v H',Same H H'->DAt H' d v->dep d<=10->Q v H'):Jp vs H Q E
def K7:Sp:=λ vs H Q E=>Jp vs H Q E
theorem MQ:Ak ["_law_cell_here"] ["_law_cell_here"] (Ag BS):=fsc
theorem Rw:∀i,i<8->dep (dsS.get i)<=10:=by decide +kernel
theorem KW{f:Addr}{fd:FuncData}(F:Fun K "_law_side" "_law_side" BS f fd):FnOk P w K mg base CX0 1 f fd ["_law_cell_here"] K7:=by
 have S:=MQ;refine F.ok S (λ vs H Q E h=>?_) (λ cdv A outer s H vs Q E hr h=>?_)
 .obtain⟨c,rfl,_⟩:=h;rfl
 .obtain⟨c,rfl,q⟩:=h;obtain⟨p1,p2,p3,p4,p5,p6,p7,p8,p9,p10,p11,p12,p13,p14,k1,k2,k3,k4,es_dsS,heq_stS0,he_dsS,hl_dsS⟩:=U8;rw[heq_stS0];refine⟨_,(Af (AC (Ap BN (Az BO (pv 0) Ad) Ad (Av _)) (Ae (Am (Ao Bb (EZ (n:=4) (ds:=(dsS)) JS he_dsS hl_dsS) (Az BO (Az DW (pv 0) Ad) Ad) (λ_ _=>rfl)))) Ax)
   (Ae (Am (Az AW Ad (Az BO (Az DW (pv 0) Ad) Ad))))),?_⟩
  refine⟨_,rfl,_,_,rfl,rfl,(show(0:Int)<5 from by decide),rfl,_,rfl,AG (λ_=>?_) (λ_=>?_)⟩
  .refine⟨F7,λ l xs H1 s1 nl hl da=>?_⟩;have m0:=Int.emod_nonneg (c / 5) (b:=8) (by decide);have m1:=Int.emod_lt_of_pos (c / 5) (b:=8) (by decide);have e1:xs.length=8:=By _ da;obtain⟨v,hv,mv⟩:=Ki (L:=xs) m0 (by rw[e1];exact m1);obtain⟨i,hi,dv⟩:=Ly _ da v mv;exact⟨_,rfl,_,_,rfl,rfl,Qd _ (by decide) (by decide),_,_,rfl,rfl,(show(0:Int)<8 from by decide),l,_,_,v,rfl,rfl,SqL.of hl,hv,q _ v H1 s1 dv (Rw i hi)⟩
  .have m0:=Int.emod_nonneg (c / 5) (b:=12) (by decide);have m1:=Int.emod_lt_of_pos (c / 5) (b:=12) (by decide);exact⟨_,rfl,_,_,rfl,rfl,Qd _ (by decide) (by decide),_,_,rfl,rfl,(show(0:Int)<12 from by decide),_,_,rfl,rfl,q (.at (.int (1+c / 5 % 12))) _ H (Same.refl H) (by rw[DAt];exact⟨rfl,rfl⟩) (by rw[dep];decide)⟩
theorem Il:Ak ["_law_thing"] ["_law_thing"] (Ag Cu):=fsc
theorem GN{f:Addr}{fd:FuncData}(F:Fun K "_law_is_side" "_law_is_side" Cu f fd)(T:Txt mg tk):FnOk P w K mg base CX0 1 f fd ["_law_thing"] Du:=by
 have S:=Il;refine F.ok S (λ vs H Q E h=>?_) (λ cdv A outer s H vs Q E hr h=>?_)
 .obtain⟨v,rfl,_⟩:=h;rfl
 .obtain⟨v,rfl,⟨T',hT⟩,q⟩:=h;refine⟨_,(Ae (Am (Cz (Aw B4 rfl T.z_isinstance rfl (Aa (pv 0) (Aa (Ci (v:=.ty "int") rfl T.z_int rfl rfl) Ab))) (Cz (Px (Aw B4 rfl T.z_isinstance rfl (Aa (pv 0) (Aa (Ci (v:=.ty "bool") rfl T.z_bool rfl rfl) Ab)))) (D4 (BW DD DD Ad (pv 0) Ad)))))),?_⟩;obtain⟨w1,w2⟩:=Gx hT;refine⟨v,rfl,v,T',"int",rfl,hT,.inl rfl,_,rfl,AG (λ h=>?_) (λ h=>?_)⟩
  .refine⟨v,rfl,v,T',"bool",rfl,hT,.inr (.inl rfl),_,rfl,?_⟩;rw[w1 h];refine⟨_,rfl,AG (λ h2=>?_) (λ h2=>?_)⟩
   .obtain⟨i,rfl⟩:=Ee h2;have q:Q (.bl (decide (1<=i)&&decide (i<=12))) H:=q;refine⟨_,rfl,_,_,rfl,rfl,_,rfl,AG (λ h3=>?_) (λ h3=>?_)⟩
    .replace h3:decide (1<=i)=true:=h3
     rw[h3]at q;exact⟨_,_,rfl,rfl,q⟩
    .replace h3:decide (1<=i)=false:=h3
     rw[h3]at q;exact q
   .have e:Ay v=false:=by cases v<;>first|rfl|cases h2
    rw[e]at q;exact q
  .have e:Ay v=false:=by
    have:=w2 h;cases v<;>first|rfl|cases this
   rw[e]at q;exact q
inductive HM(vs:LUz)(H:Hp)(Q:VK)(E:XK):Prop
 |mk (c many:Int) (h0:vs=[.int c,.int many]) (h1:0<=many) (h2:many<=10) (h3:∀t l xs gs H',Same H H'->H l=none->H' t=some (.tup [.ref l,Dl (AX gs)])->H' l=some (.lst xs)->Ths KTh H' xs gs->(gs.length:Int)=many->Q (.ref t) H'):HM vs H Q E
def IE:Sp:=λ vs H Q E=>HM vs H Q E
theorem Ua{H:Hp}{xs:LUz}(h:Be H dsK xs):∀v∈xs,Bad Hg H v:=SL h (by decide +kernel)
theorem TZ{H:Hp}{xs:LUz}(h:Be H dsL xs):∀v∈xs,Bad Hg H v:=SL h (by decide +kernel)
abbrev LJ:LSz:=["_law_cell_here","_law_many","_law_kinds_here","_law_k","_law_odd","_law_due_here","_law_at"]
theorem LF:Ak LJ ["_law_cell_here","_law_many"] (Ag A6):=fsc
theorem QW:Ar A6=stN A6 0::stN A6 1::(Ar A6).drop 2:=by kernel_rfl
theorem JN{f:Addr}{fd:FuncData}(F:Fun K "_law_kinds" "_law_kinds" A6 f fd)(T:Txt mg tk)(D__law_draw:DefOk P w K mg base 1 "_law_draw" ["_law_cell_here","_law_nth","_law_many"] Gk):FnOk P w K mg base CX0 2 f fd ["_law_cell_here","_law_many"] IE:=by
 have S:=LF;refine F.ok S (λ vs H Q E h=>?_) (λ cdv A outer s H vs Q E hr h=>?_)
 .obtain⟨c,many,rfl,_⟩:=h;rfl
 .obtain⟨c,many,rfl,m0,m1,q⟩:=h;obtain⟨mm,rfl⟩:∃mm:Nat,many=mm:=⟨many.toNat,by lia⟩;obtain⟨tC,hC,kC⟩:∃rd,PSs (BF CX0 P w K mg base LJ "_law_kinds" (Ag A6) f cdv A outer s H E).nox ((Ar A6).drop 2) rd/\∀(l:Addr)(xs:LUz)(gs:List (Option Bp))(y:Option V)(H1:Hp),Same H H1->H l=none->H1 l=some (.lst xs)->Ths KTh H1 xs gs->gs.length=mm->AX gs=none->rd { nx:=λ_ H'=>Q .non H',rt:=Q } [some (.int c),some (.int mm),some (.ref l),y,none,none,none] H1:=by
   obtain⟨p1,p2,p3,es_dsK,heq_stK2,he_dsK,hl_dsK⟩:=UA;obtain⟨p1,p2,p3,p4,p5,es_dsL,heq_stK3,he_dsL,hl_dsL⟩:=U9;rw[heq_stK2,heq_stK3];refine⟨_,(Af (At (i:=4) S.nd rfl (Or.inl rfl) (EZ (n:=4) (ds:=(dsK)) JS he_dsK hl_dsK))
   (Af (At (i:=4) S.nd rfl (Or.inl rfl) (Az P1 (pv 4) (EZ (n:=4) (ds:=(dsL)) JS he_dsL hl_dsL)))
   (Af (At (i:=5) S.nd rfl (Or.inl rfl) BA)
   (Af (AC (PW.pt (DR (Ap CC (pv 1) Ad (Av _)) (C9 (Ap BN (Au D__law_draw hr (Aa (pv 0) (Aa Ad (Aa Ad Ab)))) Ad (Av _))))) (Ae (Bh PassesOwn.never rfl (Ck rfl T.z_range (Aa Ad Ab)) (Aq (i:=3) S.nd rfl (Or.inl rfl)) (Af (At (i:=6) S.nd rfl (Or.inl rfl) (Au D__law_draw hr (Aa (pv 0) (Aa (Az AW Ad (pv 3)) (Aa (pv 1) Ab)))))
   (Af (JE (Ao Bb (pv 4) (Au D__law_draw hr (Aa (pv 0) (Aa (Az AW Ad (pv 3)) (Aa Ad Ab)))) (λ_ _=>rfl)) (Ps (pv 2) (pv 6) KB))
   (Ae (AC (PW.pt (DQ (Ap GK (pv 5) BA (Av _)) (CT (Ap DV (pv 6) (pv 5) (Av _))))) (Ae (At (i:=5) S.nd rfl (Or.inl rfl) (pv 6))) Ax)))))) Ax)
   (Ae (Am (A3 (Aa (pv 2) (Aa (pv 5) Ab))))))))),λ l xs gs y H1 s1 nl hl th gl f0=>?_⟩
   refine⟨F7,λ l1 x1 H2 s2 n1 h1 d1=>⟨_,rfl,F7,λ l2 x2 H3 s3 n2 h2 d2=>⟨l1,l2,x1,x2,rfl,rfl,s3 _ _ h1,h2,?_,λ p np=>?_⟩⟩⟩
   .rw[By _ d1,By _ d2,sizeLine_eq];decide
   have e1:x1.length=6:=By _ d1;have e2:x2.length=6:=By _ d2;obtain⟨H4,g,s4,h4⟩:=nw (.lst (x1++x2)) np;rw[g];have s34:=s3.trans s4;have bad:∀v∈x1++x2,Bad Hg H4 v:=λ v hv=>by
    rcases List.mem_append.mp hv with hv|hv
    .exact(Ua d1 v hv).kt (P9 s34)
    .exact(TZ d2 v hv).kt (P9 s4)
   have s14:=s2.trans s34;have s04:=s1.trans s14;have hl4:=s14 _ _ hl;have th4:=th.mono λ v g k=>k.same s14;have pl:p≠l:=λ z=>by
    rw[z]at np;rw[(s2.trans s3) _ _ hl]at np;cases np
   have fin:∀(y y2:Option V)(xs:LUz)(gs:List (Option Bp))(H':Hp),SameX l H4 H'->H' l=some (.lst xs)->Ths KTh H' xs gs->gs.length=mm->Si (Sh (ID (HV 2) (ID (HV 5) K3))) { nx:=λ_ H'=>Q .non H',rt:=Q } [some (.int c),some (.int mm),some (.ref l),y,some (.ref p),some (Dl (AX gs)),y2] H':=λ y y2 xs gs H' s' h' t' g'=>by
    refine⟨_,rfl,_,rfl,As 2,λ t nt=>?_⟩;have sn:=s'.same s04 nl;exact q t l xs gs _ (sn.trans (Same.new nt)) nl Ac ((Same.new nt) _ _ h') (t'.mono λ v g k=>k.same (Same.new nt)) (by rw[g'])
   refine⟨_,rfl,_,_,rfl,rfl,_,rfl,AG (λ c0=>?_) (λ c0=>?_)⟩
   .have c0:(0:Int)<(mm:Int):=of_decide_eq_true c0;refine⟨_,rfl,c,31,3,rfl,by decide,by decide,by decide,λ r0 _ _=>⟨rfl,_,rfl,AG (λ_=>?_) (λ_=>?_)⟩⟩
    .refine⟨2,rfl,by decide,by decide,BP (lo:=0) (n:=(2:Int).toNat) (λ i σ H'=>∃(y y2:Option V)(xs:LUz)(gs:List (Option Bp)),σ=[some (.int c),some (.int mm),some (.ref l),y,some (.ref p),some (Dl (AX gs)),y2]/\SameX l H4 H'/\H' l=some (.lst xs)/\Ths KTh H' xs gs/\gs.length=mm) ⟨_,_,xs,gs,by rw[f0];rfl,SameX.refl,hl4,th4,gl⟩ ?_ ?_⟩
     .rintro i σ H5 hi ⟨y,y2,xs,gs,rfl,s5,hl5,th5,gl5⟩;have hi:i<2:=hi;rw[Int.zero_add];refine⟨_,rfl,_,rfl,_,_,rfl,rfl,_,rfl,c,32+(i:Int),mm,rfl,by lia,by lia,c0,λ r1 a0 a1=>?_⟩;refine⟨_,rfl,_,rfl,_,rfl,_,_,rfl,rfl,c,34+(i:Int),12,rfl,by lia,by lia,by decide,λ r2 b0 b1=>?_⟩;obtain⟨v,hv,mv⟩:=Ki (L:=x1++x2) b0 (by rw[List.length_append,e1,e2];exact b1);have h5:=s5 _ _ pl h4;refine⟨p,_,_,v,rfl,rfl,SqL.of h5,hv,_,rfl,_,rfl,l,xs,r1,r1.toNat,rfl,rfl,hl5,PH a0 (by rw[th5.len];lia),?_⟩;have kt:Kt H5 (upd H5 l (.lst (xs.set r1.toNat v))):=Kt.put hl5;have bv:Bad Hg H5 v:=by
       refine(bad v mv).kt ⟨λ a ys e=>s5 _ _ (λ z=>by rw[z,hl4]at e;cases e) e,λ u T e=>?_⟩;cases u with
       |ref a =>
        by_cases z:a=l
        .rw[z]at e |-;rw[CF hl4]at e;rw[CF hl5];exact e
        .have e:tyO (H4 a)=some T:=e;show tyO (H5 a)=some T;cases w:H4 a with
         |none=>rw[w]at e;cases e
         |some o=>rw[w]at e;rw[s5 a o z w];exact e
       |_=>exact e
      have th6:=(th5.mono (λ v g k=>k.kt kt)).put (g:=none) (bv.kt kt) r1.toNat;have fs:=Ls (gs:=gs) (i:=r1.toNat) (by lia);have ex:∀y3:Option V,∃(y y2:Option V)(xs_1:LUz)(gs_1:List (Option Bp)),[some (.int c),some (.int mm),some (.ref l),some (.int i),some (.ref p),some (.int (Ka r1.toNat (AX gs))),y3]=[some (.int c),some (.int mm),some (.ref l),y,some (.ref p),some (Dl (AX gs_1)),y2]/\SameX l H4 (upd H5 l (.lst (xs.set r1.toNat v)))/\(upd H5 l (.lst (xs.set r1.toNat v))) l=some (.lst xs_1)/\Ths KTh (upd H5 l (.lst (xs.set r1.toNat v))) xs_1 gs_1/\gs_1.length=mm:=λ y3=>⟨_,_,_,_,by rw[fs];rfl,s5.trans SameX.upd,Ac,th6,by rw[List.length_set];exact gl5⟩;have er:((r1.toNat:Nat):Int)=r1:=Int.toNat_of_nonneg a0;cases e:AX gs with
      |none =>
       rw[e]at ex;have ex:=ex (some (.int r1));refine⟨_,rfl,rfl,_,rfl,Cd rfl (E2 ⟨_,rfl,?_⟩)⟩;rw[show Ka r1.toNat (none:Option Nat)=r1.toNat from rfl,er]at ex;exact ex
      |some k =>
       rw[e]at ex;have ex:=ex (some (.int r1));refine⟨_,rfl,rfl,_,rfl,BD rfl ⟨_,rfl,_,rfl,_,_,rfl,rfl,_,rfl,AG (λ c2=>?_) (λ c2=>?_)⟩⟩
       .have c2:r1<(k:Int):=of_decide_eq_true c2;refine⟨_,rfl,?_⟩;rw[show Ka r1.toNat (some k)=r1.toNat from if_pos (by lia),er]at ex;exact ex
       .have c2:¬r1<(k:Int):=of_decide_eq_false c2;rw[show Ka r1.toNat (some k)=k from if_neg (by lia)]at ex;exact ex
     .rintro σ H5 ⟨y,y2,xs,gs,rfl,s5,hl5,th5,gl5⟩;exact fin y y2 xs gs H5 s5 hl5 th5 gl5
    .have:=fin y none xs gs H4 SameX.refl hl4 th4 gl;rw[f0]at this;exact this
   .have:=fin y none xs gs H4 SameX.refl hl4 th4 gl;rw[f0]at this;exact Fe this
  rw[QW];generalize (Ar A6).drop 2=tl at hC |-;refine⟨_,(Af (At (i:=2) S.nd rfl (Or.inl rfl) (A9 Ab))
   (Af (Bh PassesOwn.never rfl (Ck rfl T.z_range (Aa (pv 1) Ab)) (Aq (i:=3) S.nd rfl (Or.inl rfl)) (Ae (AL (Dk PySem.F.plainAttrs_list PySem.F.slot_list_append PySem.F.type_list_append AZ (pv 2) (Aa (A3 (Aa (Az AW Ad (Au D__law_draw hr (Aa (pv 0) (Aa (Az CB Ad (pv 3)) (Aa Ad Ab))))) (Aa (Az AW Ad (Au D__law_draw hr (Aa (pv 0) (Aa (Az AW (Az CB Ad (pv 3)) Ad) (Aa Ad Ab))))) (Aa (Az Mn Ad Ad) (Aa (Eo BN (Az BO (pv 3) Ad) Ad (Av _)) Ab))))) Ab)))))
   hC)),?_⟩
  refine⟨As 0,λ l nl=>?_⟩;obtain⟨H1,g,s1,hl1⟩:=nw (.lst []) nl;rw[g];refine⟨_,rfl,_,rfl,by lia,by lia,?_⟩;rw[Int.toNat_natCast];refine BP (lo:=0) (n:=mm) (λ i σ H'=>(∃y,σ=[some (.int c),some (.int mm),some (.ref l),y,none,none,none])/\SameX l H1 H'/\∃(xs:LUz)(ks:List Bp),H' l=some (.lst xs)/\Ths KTh H' xs (ks.map some)/\ks.length=i) ⟨⟨none,rfl⟩,SameX.refl,[],[],hl1,.nil,rfl⟩ ?_ ?_
  .rintro i σ H2 hi ⟨⟨y,rfl⟩,s2,xs,ks,hl2,th,kl⟩;rw[Int.zero_add];refine⟨_,rfl,.inl ⟨rfl,_,SqL.of hl2⟩,_,rfl,_,rfl,_,_,rfl,rfl,FT (by lia) (by lia) (by lia) (by lia),c,2*(i:Int),12,rfl,by lia,by lia,by decide,λ r0 a0 a1=>⟨_,_,rfl,rfl,_,rfl,_,rfl,_,_,rfl,rfl,FT (by lia) (by lia) (by lia) (by lia),_,_,rfl,rfl,c,2*(i:Int)+1,12,rfl,by lia,by lia,by decide,λ r1 b0 b1=>⟨_,_,rfl,rfl,_,_,rfl,rfl,UK,_,rfl,_,_,rfl,rfl,(show(0:Int)<2 from by decide),rfl,As 4,λ t nt=>?_⟩⟩⟩;obtain⟨H3,g,s3,h3⟩:=nw (.tup [.int (1+r0),.int (1+r1),.int (10^(9:Int).toNat),.bl (decide (V.int ((i:Int) % 2)=V.int 0))]) nt;rw[g];have h3:H3 t=some (.tup (kvs (1+r0,1+r1,1000000000,decide (V.int ((i:Int) % 2)=V.int 0)))):=h3;generalize decide (V.int ((i:Int) % 2)=V.int 0)=bb at h3;have hl3:=s3 _ _ hl2;have xl:=th.len;rw[List.length_map]at xl;refine⟨l,xs,_,rfl,rfl,hl3,A0 (by lia),⟨_,rfl⟩,(s2.trans s3.x).trans SameX.upd,xs++[.ref t],ks++[(1+r0,1+r1,1000000000,bb)],Ac,?_,by rw[List.length_append,kl];rfl⟩;rw[List.map_append];refine Ths.snoc ((th.mono λ v g k=>k.same s3).mono λ v g k=>k.kt (Kt.put hl3)) ⟨t,rfl,(Kt.put hl3).1 _ _ h3,?_,(show 4<=100 from by decide),?_⟩
   .show((Ay (.int (1+r0))&&Ay (.int (1+r1)))&&(Gw (.int 1000000000)&&Oz (.bl bb)))=true;rw[Df (by lia) (by lia),Df (by lia) (by lia)];rfl
   .intro x hx;have hx:x∈[V.int (1+r0),V.int (1+r1),V.int 1000000000,V.bl bb]:=hx;simp only[List.mem_cons,List.not_mem_nil,or_false]at hx;rcases hx with rfl|rfl|rfl|rfl<;>rfl
  .rintro σ H2 ⟨⟨y,rfl⟩,s2,xs,ks,hl2,th,kl⟩;exact kC l xs _ y H2 (s2.same s1 nl) nl hl2 th (by rw[List.length_map];exact kl) (Lu ks)
inductive HN(vs:LUz)(H:Hp)(Q:VK)(E:XK):Prop
 |mk (c W T:Int) (h0:vs=[.int c,.int W,.int T]) (h1:1<=W) (h2:W<=12) (h3:1<=T) (h4:T<=12) (h5:∀t l xs gs H',Same H H'->H l=none->H' t=some (.tup [.ref l,Dl (AX gs)])->H' l=some (.lst xs)->Ths (FTh W T) H' xs gs->gs.length<=52->Q (.ref t) H'):HN vs H Q E
def IF:Sp:=λ vs H Q E=>HN vs H Q E
theorem UU{W T:Int}:∀i,i<10->SN (sqB W T) ((dsF W T).get i)=true:=λ i hi=>by
 have e0:sqB W T [.int T,.int 0]=false:=by
  show((decide (0<=T)&&decide (T<T))&&inB W (.int 0))=false;rw[decide_eq_false (p:=T<T) (by lia),Bool.and_false];rfl
 have e1:sqB W T [.int 0,.int W]=false:=by
  show(inB T (.int 0)&&(decide (0<=W)&&decide (W<W)))=false;rw[decide_eq_false (p:=W<W) (by lia),Bool.and_false,Bool.and_false]
 match i,hi with
 |0,_=>show(!sqB W T [.int T,.int 0]&&true)=true;rw[e0];rfl
 |1,_=>show(!sqB W T [.int 0,.int W]&&true)=true;rw[e1];rfl
 |2,_=>rfl
 |3,_=>rfl
 |4,_=>rfl
 |5,_=>rfl
 |6,_=>rfl
 |7,_=>rfl
 |8,_=>rfl
 |9,_ =>
  show(!(inB T (.int 0)&&false)&&true)=true;rw[Bool.and_false];rfl
theorem Ub{W T:Int}{H:Hp}{xs:LUz}(h:Be H (dsF W T) xs):∀v∈xs,Bad (sqB W T) H v:=SL h UU
abbrev HJ:LSz:=["_law_cell_here","_law_width","_law_height","_law_many","_law_flaws_here","_law_odd","_law_due_here","_law_k","_law_at"]
theorem LG:Ak HJ ["_law_cell_here","_law_width","_law_height"] (Ag A7):=fsc
theorem QX:Ar A7=stN A7 0::stN A7 1::(Ar A7).drop 2:=by kernel_rfl
theorem QU{v:V}(h:v∈([.int 0,.int 3,.int 49,.int 50,.int 52,.int 7]:LUz)):∃n:Nat,v=.int n/\n<=52:=by
 simp only[List.mem_cons,List.not_mem_nil,or_false]at h;rcases h with rfl|rfl|rfl|rfl|rfl|rfl
 .exact⟨0,rfl,by decide⟩
 .exact⟨3,rfl,by decide⟩
 .exact⟨49,rfl,by decide⟩
 .exact⟨50,rfl,by decide⟩
 .exact⟨52,rfl,by decide⟩
 .exact⟨7,rfl,by decide⟩
theorem JO{f:Addr}{fd:FuncData}(F:Fun K "_law_flaws" "_law_flaws" A7 f fd)(T:Txt mg tk)(D__law_draw:DefOk P w K mg base 1 "_law_draw" ["_law_cell_here","_law_nth","_law_many"] Gk):FnOk P w K mg base CX0 2 f fd ["_law_cell_here","_law_width","_law_height"] IF:=by
 have S:=LG;refine F.ok S (λ vs H Q E h=>?_) (λ cdv A outer s H vs Q E hr h=>?_)
 .obtain⟨c,ww,hh,rfl,_⟩:=h;rfl
 .obtain⟨c,ww,hh,rfl,w1,w2,h1,h2,q⟩:=h;obtain⟨tC,hC,kC⟩:∃rd,PSs (BF CX0 P w K mg base HJ "_law_flaws" (Ag A7) f cdv A outer s H E).nox ((Ar A7).drop 2) rd/\∀(mm:Nat)(l:Addr)(xs:LUz)(gs:List (Option (Int×Int)))(H1:Hp),mm<=52->Same H H1->H l=none->H1 l=some (.lst xs)->Ths (FTh ww hh) H1 xs gs->gs.length=mm->AX gs=none->rd { nx:=λ_ H'=>Q .non H',rt:=Q } [some (.int c),some (.int ww),some (.int hh),some (.int mm),some (.ref l),none,none,none,none] H1:=by
   obtain⟨p1,p2,p3,es_dsF,heq_stF2,he_dsF,hl_dsF⟩:=UB ww hh;have nmF:R4 (BF CX0 P w K mg base HJ "_law_flaws" (Ag A7) f cdv A outer s H E).nox (QE ww hh):=λ x v e=>by
    unfold QE at e;split at e
    .rename_i z;subst z;exact⟨by first|exact Or.inl rfl|exact Or.inr (Or.inl rfl)|exact Or.inr (Or.inr rfl),by decide,by decide⟩
    .split at e
     .rename_i z;subst z;exact⟨by first|exact Or.inl rfl|exact Or.inr (Or.inl rfl)|exact Or.inr (Or.inr rfl),by decide,by decide⟩
     .cases e
   rw[heq_stF2];refine⟨_,(Af (At (i:=5) S.nd rfl (Or.inl rfl) (EZ (n:=4) (ds:=(dsF ww hh)) nmF he_dsF hl_dsF))
   (Af (At (i:=6) S.nd rfl (Or.inl rfl) BA)
   (Af (AC (PW.pt (DR (Ap CC (pv 3) Ad (Av _)) (C9 (Ap BN (Au D__law_draw hr (Aa (pv 0) (Aa Ad (Aa Ad Ab)))) Ad (Av _))))) (Ae (Bh PassesOwn.never rfl (Ck rfl T.z_range (Aa Ad Ab)) (Aq (i:=7) S.nd rfl (Or.inl rfl)) (Af (At (i:=8) S.nd rfl (Or.inl rfl) (Au D__law_draw hr (Aa (pv 0) (Aa (Az AW Ad (pv 7)) (Aa (pv 3) Ab)))))
   (Af (JE (Ao Bb (pv 5) (Au D__law_draw hr (Aa (pv 0) (Aa (Az AW Ad (pv 7)) (Aa Ad Ab)))) (λ_ _=>rfl)) (Ps (pv 4) (pv 8) KB))
   (Ae (AC (PW.pt (DQ (Ap GK (pv 6) BA (Av _)) (CT (Ap DV (pv 8) (pv 6) (Av _))))) (Ae (At (i:=6) S.nd rfl (Or.inl rfl) (pv 8))) Ax)))))) Ax)
   (Ae (Am (A3 (Aa (pv 4) (Aa (pv 6) Ab)))))))),λ mm l xs gs H1 mb s1 nl hl th gl f0=>?_⟩
   refine⟨λ x v e=>?_,λ p x1 H4 s14 np0 h4 d1=>?_⟩
   .unfold QE at e;split at e
    .rename_i z;subst z;cases e;exact⟨rfl,2,rfl,rfl⟩
    .split at e
     .rename_i z;subst z;cases e;exact⟨rfl,1,rfl,rfl⟩
     .cases e
   have e1:x1.length=10:=By _ d1;have bad:=Ub d1;have s04:=s1.trans s14;have hl4:=s14 _ _ hl;have th4:=th.mono λ v g k=>k.same s14;have pl:p≠l:=λ z=>by
    rw[z,hl]at np0;cases np0
   have fin:∀(y y2:Option V)(xs:LUz)(gs:List (Option (Int×Int)))(H':Hp),SameX l H4 H'->H' l=some (.lst xs)->Ths (FTh ww hh) H' xs gs->gs.length=mm->Si (Sh (ID (HV 4) (ID (HV 6) K3))) { nx:=λ_ H'=>Q .non H',rt:=Q } [some (.int c),some (.int ww),some (.int hh),some (.int mm),some (.ref l),some (.ref p),some (Dl (AX gs)),y,y2] H':=λ y y2 xs gs H' s' h' t' g'=>by
    refine⟨_,rfl,_,rfl,As 2,λ t nt=>?_⟩;have sn:=s'.same s04 nl;exact q t l xs gs _ (sn.trans (Same.new nt)) nl Ac ((Same.new nt) _ _ h') (t'.mono λ v g k=>k.same (Same.new nt)) (by lia)
   refine⟨_,rfl,_,_,rfl,rfl,_,rfl,AG (λ c0=>?_) (λ c0=>?_)⟩
   .have c0:(0:Int)<(mm:Int):=of_decide_eq_true c0;refine⟨_,rfl,c,42,2,rfl,by decide,by decide,by decide,λ r0 _ _=>⟨rfl,_,rfl,AG (λ_=>?_) (λ_=>?_)⟩⟩
    .refine⟨2,rfl,by decide,by decide,BP (lo:=0) (n:=(2:Int).toNat) (λ i σ H'=>∃(y y2:Option V)(xs:LUz)(gs:List (Option (Int×Int))),σ=[some (.int c),some (.int ww),some (.int hh),some (.int mm),some (.ref l),some (.ref p),some (Dl (AX gs)),y,y2]/\SameX l H4 H'/\H' l=some (.lst xs)/\Ths (FTh ww hh) H' xs gs/\gs.length=mm) ⟨_,_,xs,gs,by rw[f0];rfl,SameX.refl,hl4,th4,gl⟩ ?_ ?_⟩
     .rintro i σ H5 hi ⟨y,y2,xs,gs,rfl,s5,hl5,th5,gl5⟩;have hi:i<2:=hi;rw[Int.zero_add];refine⟨_,rfl,_,rfl,_,_,rfl,rfl,_,rfl,c,43+(i:Int),mm,rfl,by lia,by lia,c0,λ r1 a0 a1=>?_⟩;refine⟨_,rfl,_,rfl,_,rfl,_,_,rfl,rfl,c,45+(i:Int),10,rfl,by lia,by lia,by decide,λ r2 b0 b1=>?_⟩;obtain⟨v,hv,mv⟩:=Ki (L:=x1) b0 (by rw[e1];exact b1);have h5:=s5 _ _ pl h4;refine⟨p,_,_,v,rfl,rfl,SqL.of h5,hv,_,rfl,_,rfl,l,xs,r1,r1.toNat,rfl,rfl,hl5,PH a0 (by rw[th5.len];lia),?_⟩;have kt:Kt H5 (upd H5 l (.lst (xs.set r1.toNat v))):=Kt.put hl5;have bv:Bad (sqB ww hh) H5 v:=by
       refine(bad v mv).kt ⟨λ a ys e=>s5 _ _ (λ z=>by rw[z,hl4]at e;cases e) e,λ u T e=>?_⟩;cases u with
       |ref a =>
        by_cases z:a=l
        .rw[z]at e |-;rw[CF hl4]at e;rw[CF hl5];exact e
        .have e:tyO (H4 a)=some T:=e;show tyO (H5 a)=some T;cases w:H4 a with
         |none=>rw[w]at e;cases e
         |some o=>rw[w]at e;rw[s5 a o z w];exact e
       |_=>exact e
      have th6:=(th5.mono (λ v g k=>k.kt kt)).put (g:=none) (bv.kt kt) r1.toNat;have fs:=Ls (gs:=gs) (i:=r1.toNat) (by lia);have ex:∀y3:Option V,∃(y y2:Option V)(xs_1:LUz)(gs_1:List (Option (Int×Int))),[some (.int c),some (.int ww),some (.int hh),some (.int mm),some (.ref l),some (.ref p),some (.int (Ka r1.toNat (AX gs))),some (.int i),y3]=[some (.int c),some (.int ww),some (.int hh),some (.int mm),some (.ref l),some (.ref p),some (Dl (AX gs_1)),y,y2]/\SameX l H4 (upd H5 l (.lst (xs.set r1.toNat v)))/\(upd H5 l (.lst (xs.set r1.toNat v))) l=some (.lst xs_1)/\Ths (FTh ww hh) (upd H5 l (.lst (xs.set r1.toNat v))) xs_1 gs_1/\gs_1.length=mm:=λ y3=>⟨_,_,_,_,by rw[fs];rfl,s5.trans SameX.upd,Ac,th6,by rw[List.length_set];exact gl5⟩;have er:((r1.toNat:Nat):Int)=r1:=Int.toNat_of_nonneg a0;cases e:AX gs with
      |none =>
       rw[e]at ex;have ex:=ex (some (.int r1));refine⟨_,rfl,rfl,_,rfl,Cd rfl (E2 ⟨_,rfl,?_⟩)⟩;rw[show Ka r1.toNat (none:Option Nat)=r1.toNat from rfl,er]at ex;exact ex
      |some k =>
       rw[e]at ex;have ex:=ex (some (.int r1));refine⟨_,rfl,rfl,_,rfl,BD rfl ⟨_,rfl,_,rfl,_,_,rfl,rfl,_,rfl,AG (λ c2=>?_) (λ c2=>?_)⟩⟩
       .have c2:r1<(k:Int):=of_decide_eq_true c2;refine⟨_,rfl,?_⟩;rw[show Ka r1.toNat (some k)=r1.toNat from if_pos (by lia),er]at ex;exact ex
       .have c2:¬r1<(k:Int):=of_decide_eq_false c2;rw[show Ka r1.toNat (some k)=k from if_neg (by lia)]at ex;exact ex
     .rintro σ H5 ⟨y,y2,xs,gs,rfl,s5,hl5,th5,gl5⟩;exact fin y y2 xs gs H5 s5 hl5 th5 gl5
    .have:=fin none none xs gs H4 SameX.refl hl4 th4 gl;rw[f0]at this;exact this
   .have:=fin none none xs gs H4 SameX.refl hl4 th4 gl;rw[f0]at this;exact Fe this
  rw[QX];generalize (Ar A7).drop 2=tl at hC |-;refine⟨_,(Af (At (i:=3) S.nd rfl (Or.inl rfl) (Ao Bb (A9 (Aa Ad (Aa Ad (Aa Ad (Aa Ad (Aa Ad (Aa Ad Ab))))))) (Au D__law_draw hr (Aa (pv 0) (Aa Ad (Aa Ad Ab)))) (λ_ _=>rfl)))
   (Af (GF rfl (Aq (i:=4) S.nd rfl (Or.inl rfl)) (Ck rfl T.z_range (Aa (pv 3) Ab)) (λ_ _ _ _ _=>(Aq (i:=0) (show List.Nodup (["_law_k","_law_height","_law_width"]:LSz) from by decide +kernel) rfl (Or.inl rfl))) (λ_ _ _ _ _=>(A3 (Aa (Az BO (Az CB (pv 0) (pv 0)) (pv 1)) (Aa (Az BO (pv 0) (pv 2)) Ab)))) (N:=["_law_k","_law_height","_law_width"]) (fr:=[none,some 2,some 1]))
   hC)),?_⟩
  refine⟨As 6,λ L nL=>⟨_,rfl,c,41,6,rfl,by decide,by decide,by decide,λ r a0 a1=>?_⟩⟩;obtain⟨v,hv,mv⟩:=Ki (L:=[.int 0,.int 3,.int 49,.int 50,.int 52,.int 7]) a0 a1;obtain⟨mm,rfl,mb⟩:=QU mv;refine⟨L,_,_,_,rfl,rfl,SqL.of Ac,hv,?_⟩;obtain⟨H1,g,s1,_⟩:=nw (.lst [.int 0,.int 3,.int 49,.int 50,.int 52,.int 7]) nL;rw[g];refine⟨_,rfl,_,rfl,by lia,by lia,λ acc na=>?_⟩;rw[Int.toNat_natCast];refine DA (lo:=0) (n:=mm) (λ i zs σ H'=>(∃y,σ=[y,some (.int hh),some (.int ww)])/\Same H1 H'/\∃ks:List (Int×Int),Ths (FTh ww hh) H' zs (ks.map some)/\ks.length=i) ⟨⟨none,rfl⟩,Same.new na,[],.nil,rfl⟩ ?_ ?_
  .rintro i zs σ H2 hi hz ha2 ⟨⟨y,rfl⟩,s2,ks,th,kl⟩;rw[Int.zero_add];refine⟨_,rfl,_,rfl,_,_,rfl,rfl,FT (by lia) (by lia) (by lia) (by lia),_,rfl,_,_,rfl,rfl,(show 0<hh by lia),_,rfl,_,rfl,_,_,rfl,rfl,(show 0<ww by lia),As 2,λ t nt=>?_⟩;have c0:=Int.emod_nonneg ((i:Int)*i) (b:=hh) (by lia);have c1:=Int.emod_lt_of_pos ((i:Int)*i) (b:=hh) (by lia);have d0:=Int.emod_nonneg (i:Int) (b:=ww) (by lia);have d1:=Int.emod_lt_of_pos (i:Int) (b:=ww) (by lia);generalize (i:Int)*i % hh=g0 at c0 c1 |-;generalize (i:Int) % ww=g1 at d0 d1 |-;obtain⟨H3,g,s3,h3⟩:=nw (.tup [.int g0,.int g1]) nt;rw[g];have h3:H3 t=some (.tup (sqv (g0,g1))):=h3;have ha3:=s3 _ _ ha2;refine cNx.mk (Nat.le_of_lt (A0 (by lia))) hi hz ha3 ⟨⟨_,rfl⟩,λ b o e=>?_,ks++[(g0,g1)],?_,by rw[List.length_append,kl];rfl⟩
   .rw[Ai (Ah e na)];exact s3 _ _ (s2 b o e)
   rw[List.map_append];refine Ths.snoc ((th.mono λ v g k=>k.same s3).mono λ v g k=>k.kt (Kt.put ha3)) ⟨t,rfl,(Kt.put ha3).1 _ _ h3,?_,(show 2<=100 from by decide),?_⟩
   .show((decide (0<=g0)&&decide (g0<hh))&&(decide (0<=g1)&&decide (g1<ww)))=true;rw[decide_eq_true c0,decide_eq_true c1,decide_eq_true d0,decide_eq_true d1];rfl
   .intro x hx;have hx:x∈[V.int g0,V.int g1]:=hx;simp only[List.mem_cons,List.not_mem_nil,or_false]at hx;rcases hx with rfl|rfl<;>rfl
  .rintro zs σ H2 hz ha2 ⟨_,s2,ks,th,kl⟩;exact kC mm acc zs _ H2 mb (s1.trans s2) (Jw s1 na) ha2 th (by rw[List.length_map];exact kl) (Lu ks)
def KA(f:V->Bool):D->Bool
 |.at v=>f v
 |_=>false
def wD:D->Int
 |.at (.int i)=>i
 |_=>0
def BX(f:V->Bool)(d1 d2:D):Option D:=if KA f d1 then (if KA f d2 then none else some d2) else some d1
def upR(r:Cl×V):Cl×D:=(r.1,.at r.2)
def C3(verb:Int)(d1 d2:D)(hs:List (Option (Int×Int)))(k:Int):Option (Cl×D) :=
 if verb=2 then (if 1<=k/\k<wD d1 then some (.U,Jy ⟨0,0,wD d2,k⟩) else some (.C,.at (.int k))) else if 2<verb then (Bi 49 .F hs).map upR else none
def BQ(verb:Int)(d1 d2:D)(gs:List (Option Bp))(hs:List (Option (Int×Int)))(k:Int):Option (Cl×D) :=
 ((BX (if 2<verb then AO else Ay) d1 d2).map λ d=>(Cl.I,d)).or (((Bi 8 .K gs).map upR).or (C3 verb d1 d2 hs k))
theorem Ft{H:Hp}{f:V->Bool}(hf:∀a,f (.ref a)=false):∀{d:D}{v:V},DAt H d v->f v=KA f d
 |.at u,v,h=>by rw[DAt]at h;rw[h.1];rfl
 |.tup ds,v,h=>by rw[DAt]at h;obtain⟨a,xs,rfl,_⟩:=h;exact hf a
 |.lst ds,v,h=>by rw[DAt]at h;obtain⟨a,xs,rfl,_⟩:=h;exact hf a
theorem CV{H:Hp}{v:V}(h:BH v=true):DAt H (.at v) v:=by rw[DAt];exact⟨rfl,h⟩
theorem BI{H:Hp}:∀{d:D}{v:V},DAt H d v->Ty H v
 |.at u,v,h=>by rw[DAt]at h;rw[h.1];exact Jz h.2
 |.tup ds,v,h=>by rw[DAt]at h;obtain⟨a,xs,rfl,e,_⟩:=h;exact⟨_,G0 e⟩
 |.lst ds,v,h=>by rw[DAt]at h;obtain⟨a,xs,rfl,e,_⟩:=h;exact⟨_,CF e⟩
theorem Ja{α:Type}{n:Nat}{c:Cl}{gs:List (Option α)}{r:Cl×V}(h:Bi n c gs=some r):BH r.2=true:=by
 unfold Bi at h;split at h
 .cases h;rfl
 .obtain⟨k,_,rfl⟩:=Option.map_eq_some_iff.mp h;rfl
theorem SG{H:Hp}{f:V->Bool}(hf:∀a,f (.ref a)=false){d1 d2:D}{v1 v2:V}(h1:DAt H d1 v1)(h2:DAt H d2 v2):(DG f v1 v2=none/\BX f d1 d2=none)\/∃v d,DG f v1 v2=some v/\BX f d1 d2=some d/\DAt H d v:=by
 unfold DG BX;rw[Ft hf h1,Ft hf h2];cases KA f d1 with
 |false=>exact .inr ⟨v1,d1,rfl,rfl,h1⟩
 |true =>
  cases KA f d2 with
  |false=>exact .inr ⟨v2,d2,rfl,rfl,h2⟩
  |true=>exact .inl ⟨rfl,rfl⟩
theorem MG{H:Hp}{f:V->Bool}(hf:∀a,f (.ref a)=false){d1 d2:D}{v1 v2:V}{gs:List (Option Bp)}{o:Option (Cl×D)}(h1:DAt H d1 v1)(h2:DAt H d2 v2) :
  (∀r,C6 f v1 v2 gs=some r->∃d,DAt H d r.2/\((BX f d1 d2).map λ d=>(Cl.I,d)).or (((Bi 8 .K gs).map upR).or o)=some (r.1,d))/\(C6 f v1 v2 gs=none->((BX f d1 d2).map λ d=>(Cl.I,d)).or (((Bi 8 .K gs).map upR).or o)=o):=by
 unfold C6;rcases SG hf h1 h2 with ⟨e1,e2⟩|⟨v,d,e1,e2,da⟩
 .rw[e1,e2];show(∀r,Bi 8 .K gs=some r->∃d,DAt H d r.2/\((Bi 8 .K gs).map upR).or o=some (r.1,d))/\(Bi 8 .K gs=none->((Bi 8 .K gs).map upR).or o=o);refine⟨λ r e=>⟨.at r.2,CV (Ja e),by rw[e];rfl⟩,λ e=>by rw[e];rfl⟩
 .rw[e1,e2];exact⟨λ r e=>by cases e;exact⟨d,da,rfl⟩,λ e=>by cases e⟩
theorem UD(a:Addr):AO (.ref a)=false:=rfl
theorem Tt(a:Addr):Ay (.ref a)=false:=rfl
structure RG(mg:MGz)(K:Frag)(cc:Cc):Prop where
 g_NoSide:mg "NoSide"=some (.ref (cc .I))
 g_TooMany:mg "TooMany"=some (.ref (cc .M))
 g_NoKind:mg "NoKind"=some (.ref (cc .K))
 g_NoFlaw:mg "NoFlaw"=some (.ref (cc .F))
 g_NoCut:mg "NoCut"=some (.ref (cc .C))
 g_Unfit:mg "Unfit"=some (.ref (cc .U))
 x_NoSide:∃fI,Bj K (cc .I) fI=true
 x_TooMany:∃fI,Bj K (cc .M) fI=true
 x_NoKind:∃fI,Bj K (cc .K) fI=true
 x_NoFlaw:∃fI,Bj K (cc .F) fI=true
 x_NoCut:∃fI,Bj K (cc .C) fI=true
 x_Unfit:∃fI,Bj K (cc .U) fI=true
 m:∀c c',mroIn K (cc c) (.ref (cc c'))=some (decide (c=c'))
 cl:∀c,XCls K (cc c)
 kx:∀c c',kitOne K (.ref (cc c)) (.ref (cc c'))=some (decide (c=c'))
 na:∀c,NoAttr K (cc c) (nmC c)
theorem Dj{X:Cx}{K:Frag}{e:Expr}{f:Str}{pos:Pos}{ta:TE}(he:PE X e ta)(hb:attributeBase e f X.env (eval e X.env)=eval e X.env)(hK:X.K=K:=by rfl):PE X (.Attribute e f pos) (R9 K ta f):=by subst hK;exact QN he hb
theorem Et{f:Str}{v:V}:([(f,v)]:LFz).lookup f=some v:=by simp[List.lookup]
inductive Jt(tb tb2 cW cU cL:Addr)(vs:LUz)(H:Hp)(Q:VK)(E:XK):Prop
 |mk (verb:Int) (v1 v2:V) (b e:Addr) (vt:V) (d1 d2:D) (xs ys:LUz) (gs:List (Option Bp)) (hs:List (Option (Int×Int))) (W T k:Int) (h0:vs=[.int verb,v1,v2,.ref b,.ref e,vt]) (h1:(0<=verb/\verb<=4)) (h2:DAt H d1 v1) (h3:DAt H d2 v2) (h4:H b=some (.lst xs)) (h5:Ths KTh H xs gs) (h6:gs.length<=100) (h7:H e=some (.lst ys)) (h8:Ths (FTh W T) H ys hs) (h9:hs.length<=100) (h10:(AO v1=true->v1=.int W)) (h11:(AO v2=true->v2=.int T)) (h12:Obj cW cU cL H (trK k) vt) (h13:Tb tb tb2 H) (h14:(∀r,BQ verb d1 d2 gs hs k=some r->∀l v H',SameN H H'->Tb tb tb2 H'->H' l=some (.lst [.str (woC r.1),v,.bl false])->DAt H' r.2 v->Q (.ref l) H')) (h15:(BQ verb d1 d2 gs hs k=none->∀H',SameN H H'->Tb tb tb2 H'->Q .non H')):Jt tb tb2 cW cU cL vs H Q E
def De(tb tb2 cW cU cL:Addr) :Sp:=λ vs H Q E=>Jt tb tb2 cW cU cL vs H Q E
abbrev R7:LSz:=["_law_verb","_law_width","_law_height","_law_kinds_here","_law_flaws_here","_law_tree","_law_told","e"]
theorem LH:Ak R7 ["_law_verb","_law_width","_law_height","_law_kinds_here","_law_flaws_here","_law_tree"] (Ag Dz):=fsc
theorem JP{f tb tb2:Addr}{fd:FuncData}(F:Fun K "_law_asked" "_law_asked" Dz f fd)(T:Txt mg tk)(R:RG mg K cc)(D_worths:AT P w K mg base 6 "worths" ["width","height","kinds"] (Ej tb tb2 cc))(D_best:AT P w K mg base 6 "best" ["width","height","kinds"] (Ej tb tb2 cc))(D_worth_of:AT P w K mg base 6 "worth_of" ["tree","width","height","kinds"] (Pd tb tb2 cW cU cL cc))
  (D_flawed_worths:AT P w K mg base 6 "flawed_worths" ["width","height","kinds","flaws"] (Ei tb tb2 cc)) (D_flawed_best:AT P w K mg base 6 "flawed_best" ["width","height","kinds","flaws"] (Ei tb tb2 cc)):FnOk P w K mg base CX0 7 f fd ["_law_verb","_law_width","_law_height","_law_kinds_here","_law_flaws_here","_law_tree"] (De tb tb2 cW cU cL):=by
 have S:=LH;refine F.ok S (λ vs H Q E h=>?_) (λ cdv A outer s H vs Q E hr h=>?_)
 .obtain⟨verb,v1,v2,b,e,vt,d1,d2,xs,ys,gs,hs,W,T',k,rfl,_⟩:=h;rfl
 .obtain⟨verb,v1,v2,b,e,vt,d1,d2,xs,ys,gs,hs,W,T',k,rfl,⟨v0,v4⟩,a1,a2,hxs,th,lg,hys,tf,lh,i1,i2,ho,tab,qs,qn⟩:=h;refine⟨_,(Af (At (i:=6) S.nd rfl (Or.inl rfl) BA)
   (Af (QI (JC (Ap BN (pv 0) Ad (Av _)) (DP (λ_=>KJ D_worths hr (Aa (pv 1) (Aa (pv 2) (Aa (pv 3) Ab))))) (JC (Ap BN (pv 0) Ad (Av _)) (DP (λ_=>KJ D_best hr (Aa (pv 1) (Aa (pv 2) (Aa (pv 3) Ab))))) (JC (Ap BN (pv 0) Ad (Av _)) (DP (λ_=>KJ D_worth_of hr (Aa (pv 5) (Aa (pv 1) (Aa (pv 2) (Aa (pv 3) Ab)))))) (JC (Ap BN (pv 0) Ad (Av _)) (DP (λ_=>KJ D_flawed_worths hr (Aa (pv 1) (Aa (pv 2) (Aa (pv 3) (Aa (pv 4) Ab)))))) (DP (λ_=>KJ D_flawed_best hr (Aa (pv 1) (Aa (pv 2) (Aa (pv 3) (Aa (pv 4) Ab))))))))))
   (Di (im:=7) S.nd rfl rfl rfl R.g_NoSide R.x_NoSide (λ_=>(Ae (At (i:=6) S.nd rfl (Or.inl rfl) (A9 (Aa BK (Aa (Dj (K:=K) (pv 7) rfl) (Aa (Aw (Bm (K:=K)) rfl T.z_isinstance rfl (Aa (pv 7) (Aa (A3 (Aa (Al (v:=.ref ((cc .M))) rfl R.g_TooMany rfl) (Aa (Al (v:=.ref ((cc .K))) rfl R.g_NoKind rfl) (Aa (Al (v:=.ref ((cc .F))) rfl R.g_NoFlaw rfl) (Aa (Al (v:=.ref ((cc .C))) rfl R.g_NoCut rfl) (Aa (Al (v:=.ref ((cc .U))) rfl R.g_Unfit rfl) Ab)))))) Ab))) Ab)))))))
   (Di (im:=7) S.nd rfl rfl rfl R.g_TooMany R.x_TooMany (λ_=>(Ae (At (i:=6) S.nd rfl (Or.inl rfl) (A9 (Aa BK (Aa (Dj (K:=K) (pv 7) rfl) (Aa (Aw (Bm (K:=K)) rfl T.z_isinstance rfl (Aa (pv 7) (Aa (A3 (Aa (Al (v:=.ref ((cc .I))) rfl R.g_NoSide rfl) (Aa (Al (v:=.ref ((cc .K))) rfl R.g_NoKind rfl) (Aa (Al (v:=.ref ((cc .F))) rfl R.g_NoFlaw rfl) (Aa (Al (v:=.ref ((cc .C))) rfl R.g_NoCut rfl) (Aa (Al (v:=.ref ((cc .U))) rfl R.g_Unfit rfl) Ab)))))) Ab))) Ab)))))))
   (Di (im:=7) S.nd rfl rfl rfl R.g_NoKind R.x_NoKind (λ_=>(Ae (At (i:=6) S.nd rfl (Or.inl rfl) (A9 (Aa BK (Aa (Dj (K:=K) (pv 7) rfl) (Aa (Aw (Bm (K:=K)) rfl T.z_isinstance rfl (Aa (pv 7) (Aa (A3 (Aa (Al (v:=.ref ((cc .I))) rfl R.g_NoSide rfl) (Aa (Al (v:=.ref ((cc .M))) rfl R.g_TooMany rfl) (Aa (Al (v:=.ref ((cc .F))) rfl R.g_NoFlaw rfl) (Aa (Al (v:=.ref ((cc .C))) rfl R.g_NoCut rfl) (Aa (Al (v:=.ref ((cc .U))) rfl R.g_Unfit rfl) Ab)))))) Ab))) Ab)))))))
   (Di (im:=7) S.nd rfl rfl rfl R.g_NoFlaw R.x_NoFlaw (λ_=>(Ae (At (i:=6) S.nd rfl (Or.inl rfl) (A9 (Aa BK (Aa (Dj (K:=K) (pv 7) rfl) (Aa (Aw (Bm (K:=K)) rfl T.z_isinstance rfl (Aa (pv 7) (Aa (A3 (Aa (Al (v:=.ref ((cc .I))) rfl R.g_NoSide rfl) (Aa (Al (v:=.ref ((cc .M))) rfl R.g_TooMany rfl) (Aa (Al (v:=.ref ((cc .K))) rfl R.g_NoKind rfl) (Aa (Al (v:=.ref ((cc .C))) rfl R.g_NoCut rfl) (Aa (Al (v:=.ref ((cc .U))) rfl R.g_Unfit rfl) Ab)))))) Ab))) Ab)))))))
   (Di (im:=7) S.nd rfl rfl rfl R.g_NoCut R.x_NoCut (λ_=>(Ae (At (i:=6) S.nd rfl (Or.inl rfl) (A9 (Aa BK (Aa (Dj (K:=K) (pv 7) rfl) (Aa (Aw (Bm (K:=K)) rfl T.z_isinstance rfl (Aa (pv 7) (Aa (A3 (Aa (Al (v:=.ref ((cc .I))) rfl R.g_NoSide rfl) (Aa (Al (v:=.ref ((cc .M))) rfl R.g_TooMany rfl) (Aa (Al (v:=.ref ((cc .K))) rfl R.g_NoKind rfl) (Aa (Al (v:=.ref ((cc .F))) rfl R.g_NoFlaw rfl) (Aa (Al (v:=.ref ((cc .U))) rfl R.g_Unfit rfl) Ab)))))) Ab))) Ab)))))))
   (Di (im:=7) S.nd rfl rfl rfl R.g_Unfit R.x_Unfit (λ_=>(Ae (At (i:=6) S.nd rfl (Or.inl rfl) (A9 (Aa BK (Aa (Dj (K:=K) (pv 7) rfl) (Aa (Aw (Bm (K:=K)) rfl T.z_isinstance rfl (Aa (pv 7) (Aa (A3 (Aa (Al (v:=.ref ((cc .I))) rfl R.g_NoSide rfl) (Aa (Al (v:=.ref ((cc .M))) rfl R.g_TooMany rfl) (Aa (Al (v:=.ref ((cc .K))) rfl R.g_NoKind rfl) (Aa (Al (v:=.ref ((cc .F))) rfl R.g_NoFlaw rfl) (Aa (Al (v:=.ref ((cc .C))) rfl R.g_NoCut rfl) Ab)))))) Ab))) Ab)))))))
   QM)))))) rfl rfl (by intro z;cases z))
   (Ae (Am (pv 6))))),?_⟩
  have rf:∀{c:Cl}{d:D},BQ verb d1 d2 gs hs k=some (c,d)->RfN H (XEN H λ C fs H'=>∃r,BQ verb d1 d2 gs hs k=some r/\C=cc r.1/\PR tb tb2 r.1 r.2 fs H') (cc c) (PR tb tb2 c d):=λ{c d} e=>XEN.rf λ fs H' hp=>⟨(c,d),e,rfl,hp⟩;have ok:∀H',BQ verb d1 d2 gs hs k=none->SameN H H'->Tb tb tb2 H'->Q .non H':=λ H' e s t=>qn e H' s t;refine⟨XEN H λ C fs H'=>∃r,BQ verb d1 d2 gs hs k=some r/\C=cc r.1/\PR tb tb2 r.1 r.2 fs H',?_,?_⟩
  .have lo:¬2<verb->¬verb=2->AskR tb tb2 cc H (XEN H λ C fs H'=>∃r,BQ verb d1 d2 gs hs k=some r/\C=cc r.1/\PR tb tb2 r.1 r.2 fs H') (C6 Ay v1 v2 gs)/\(C6 Ay v1 v2 gs=none->BQ verb d1 d2 gs hs k=none):=λ c1 c2=>by
    obtain⟨z1,z2⟩:=MG (o:=C3 verb d1 d2 hs k) (gs:=gs) Tt a1 a2;have e:BQ verb d1 d2 gs hs k=((BX Ay d1 d2).map λ d=>(Cl.I,d)).or (((Bi 8 .K gs).map upR).or (C3 verb d1 d2 hs k)):=by unfold BQ;rw[if_neg c1]
    refine⟨λ r er=>?_,λ en=>by rw[e,z2 en];unfold C3;rw[if_neg c2,if_neg c1]⟩;obtain⟨d,da,ed⟩:=z1 r er;exact⟨d,da,rf (by rw[e];exact ed)⟩
   have hi:2<verb->AskR tb tb2 cc H (XEN H λ C fs H'=>∃r,BQ verb d1 d2 gs hs k=some r/\C=cc r.1/\PR tb tb2 r.1 r.2 fs H') (Ie v1 v2 gs hs)/\(Ie v1 v2 gs hs=none->BQ verb d1 d2 gs hs k=none):=λ c1=>by
    obtain⟨z1,z2⟩:=MG (o:=C3 verb d1 d2 hs k) (gs:=gs) UD a1 a2;have e:BQ verb d1 d2 gs hs k=((BX AO d1 d2).map λ d=>(Cl.I,d)).or (((Bi 8 .K gs).map upR).or (C3 verb d1 d2 hs k)):=by unfold BQ;rw[if_pos c1]
    have er2:C3 verb d1 d2 hs k=(Bi 49 .F hs).map upR:=by unfold C3;rw[if_neg (by lia),if_pos c1]
    cases ez:C6 AO v1 v2 gs with
    |some r0 =>
     rw[MJ ez];refine⟨λ r er=>?_,λ en=>by cases en⟩;cases er;obtain⟨d,da,ed⟩:=z1 r0 ez;exact⟨d,da,rf (by rw[e];exact ed)⟩
    |none =>
     rw[MK ez];refine⟨λ r er=>⟨.at r.2,CV (Ja er),rf ?_⟩,λ en=>?_⟩
     .rw[e,z2 ez,er2,er];rfl
     .rw[e,z2 ez,er2,en];rfl
   refine⟨_,rfl,rfl,_,rfl,AG (λ c0=>?_) (λ c0=>?_)⟩
   .have c0:verb=0:=decI.mp c0;obtain⟨l1,l2⟩:=lo (by lia) (by lia);exact⟨_,rfl,_,rfl,_,rfl,v1,v2,b,xs,gs,rfl,BI a1,BI a2,hxs,th,lg,tab,l1,λ en v H' s t=>⟨_,rfl,ok H' (l2 en) s t⟩⟩
   have c0:¬verb=0:=decIf.mp c0;refine⟨_,rfl,rfl,_,rfl,AG (λ c1=>?_) (λ c1=>?_)⟩
   .have c1:verb=1:=decI.mp c1;obtain⟨l1,l2⟩:=lo (by lia) (by lia);exact⟨_,rfl,_,rfl,_,rfl,v1,v2,b,xs,gs,rfl,BI a1,BI a2,hxs,th,lg,tab,l1,λ en v H' s t=>⟨_,rfl,ok H' (l2 en) s t⟩⟩
   have c1:¬verb=1:=decIf.mp c1;refine⟨_,rfl,rfl,_,rfl,AG (λ c2=>?_) (λ c2=>?_)⟩
   .have c2:verb=2:=decI.mp c2;obtain⟨z1,z2⟩:=MG (o:=C3 verb d1 d2 hs k) (gs:=gs) Tt a1 a2;have e:BQ verb d1 d2 gs hs k=((BX Ay d1 d2).map λ d=>(Cl.I,d)).or (((Bi 8 .K gs).map upR).or (C3 verb d1 d2 hs k)):=by unfold BQ;rw[if_neg (by lia)]
    have er2:C3 verb d1 d2 hs k=if 1<=k/\k<wD d1 then some (.U,Jy ⟨0,0,wD d2,k⟩) else some (.C,.at (.int k)):=by unfold C3;rw[if_pos c2]
    refine⟨_,rfl,_,rfl,_,rfl,_,rfl,vt,k,v1,v2,b,xs,gs,rfl,ho,BI a1,BI a2,hxs,th,lg,tab,λ r er=>?_,λ en ww hh e1 e2=>?_⟩
    .obtain⟨d,da,ed⟩:=z1 r er;exact⟨d,da,rf (by rw[e];exact ed)⟩
    .subst e1 e2;have w1:wD d1=ww:=by
      cases d1 with
      | «at» u=>rw[DAt]at a1;rw[<-a1.1];rfl
      |tup ds=>rw[DAt]at a1;obtain⟨_,_,z,_⟩:=a1;cases z
      |lst ds=>rw[DAt]at a1;obtain⟨_,_,z,_⟩:=a1;cases z
     have w2:wD d2=hh:=by
      cases d2 with
      | «at» u=>rw[DAt]at a2;rw[<-a2.1];rfl
      |tup ds=>rw[DAt]at a2;obtain⟨_,_,z,_⟩:=a2;cases z
      |lst ds=>rw[DAt]at a2;obtain⟨_,_,z,_⟩:=a2;cases z
     refine⟨λ z=>rf ?_,λ z=>?_⟩
     .rw[e,z2 en,er2,w1,if_neg z]
     .have ef:Rk.fst ⟨0,0,hh,ww⟩ true k=⟨0,0,hh,k⟩:=by
       show(⟨0,0,hh,0+k⟩:Rk)=⟨0,0,hh,k⟩;rw[Int.zero_add]
      rw[ef];refine rf ?_;rw[e,z2 en,er2,w1,w2,if_pos z]
   have c2:¬verb=2:=decIf.mp c2;obtain⟨l1,l2⟩:=hi (by lia);refine⟨_,rfl,rfl,_,rfl,AG (λ c3=>?_) (λ c3=>?_)⟩
   .exact⟨_,rfl,_,rfl,_,rfl,_,rfl,v1,v2,b,e,xs,ys,gs,hs,W,T',rfl,BI a1,BI a2,hxs,th,lg,hys,tf,lh,i1,i2,tab,l1,λ en v H' s t=>⟨_,rfl,ok H' (l2 en) s t⟩⟩
   .exact⟨_,rfl,_,rfl,_,rfl,_,rfl,v1,v2,b,e,xs,ys,gs,hs,W,T',rfl,BI a1,BI a2,hxs,th,lg,hys,tf,lh,i1,i2,tab,l1,λ en v H' s t=>⟨_,rfl,ok H' (l2 en) s t⟩⟩
  rintro x' C' d T0 T2 H' ⟨x2,C2,dx,fs,ev,rfl,hx,s34,xr,⟨c,dd⟩,ed,rfl,hp⟩ fl hT2 nT2;obtain rfl:x'=x2:=Value.ref.inj ev;have hp5:=Mc _ _ _ (cc c) _ _ hp xr hT2;obtain⟨rfl,xr',s5⟩:=OP hx s34 xr fl hT2;obtain⟨⟨dx',ed',nd,hd⟩,T3,hxT⟩:=xr';cases ed';obtain⟨⟨v,rfl,dv⟩,tab5⟩:=hp5;have tell:∀(H6:Hp),Same (thrown H' x' (cc c) (some dx) T2) H6->∀l,H6 l=none->Q (.ref l) (upd H6 l (.lst [.str (woC c),v,.bl false])):=λ H6 s6 l nl=>by
   have s7:=s6.trans (Same.new (o:=.lst [.str (woC c),v,.bl false]) nl);exact qs _ ed l v _ (s5.trans s7.n) (tab5.same s7) Ac (AM s7 _ dv)
  have he:IsExc (thrown H' x' (cc c) (some dx) T2) x' (cc c):=.inl ⟨dx,_,.inr ⟨T3,hxT⟩,hd⟩;refine⟨_,R.m c .I,λ z=>?_,λ z0=>?_⟩
  .obtain rfl:c=.I:=of_decide_eq_true z;refine⟨_,rfl,x',_,dx,_,_,rfl,.inr ⟨T3,hxT⟩,hd,R.cl .I,R.na .I,Et,_,rfl,As 5,λ tt ntt=>?_⟩;have s6:Same (thrown H' x' (cc .I) (some dx) T2) (upd (thrown H' x' (cc .I) (some dx) T2) tt (.tup [.ref (cc .M),.ref (cc .K),.ref (cc .F),.ref (cc .C),.ref (cc .U)])):=Same.new ntt;exact⟨x',_,tt,cc .M,cc .K,cc .F,cc .C,cc .U,rfl,he.same s6,R.cl .I,Ac,R.kx .I .M,R.kx .I .K,R.kx .I .F,R.kx .I .C,R.kx .I .U,As 3,λ l nl=>⟨_,rfl,tell _ s6 l nl⟩⟩
  refine⟨_,R.m c .M,λ z=>?_,λ z1=>?_⟩
  .obtain rfl:c=.M:=of_decide_eq_true z;refine⟨_,rfl,x',_,dx,_,_,rfl,.inr ⟨T3,hxT⟩,hd,R.cl .M,R.na .M,Et,_,rfl,As 5,λ tt ntt=>?_⟩;have s6:Same (thrown H' x' (cc .M) (some dx) T2) (upd (thrown H' x' (cc .M) (some dx) T2) tt (.tup [.ref (cc .I),.ref (cc .K),.ref (cc .F),.ref (cc .C),.ref (cc .U)])):=Same.new ntt;exact⟨x',_,tt,cc .I,cc .K,cc .F,cc .C,cc .U,rfl,he.same s6,R.cl .M,Ac,R.kx .M .I,R.kx .M .K,R.kx .M .F,R.kx .M .C,R.kx .M .U,As 3,λ l nl=>⟨_,rfl,tell _ s6 l nl⟩⟩
  refine⟨_,R.m c .K,λ z=>?_,λ z2=>?_⟩
  .obtain rfl:c=.K:=of_decide_eq_true z;refine⟨_,rfl,x',_,dx,_,_,rfl,.inr ⟨T3,hxT⟩,hd,R.cl .K,R.na .K,Et,_,rfl,As 5,λ tt ntt=>?_⟩;have s6:Same (thrown H' x' (cc .K) (some dx) T2) (upd (thrown H' x' (cc .K) (some dx) T2) tt (.tup [.ref (cc .I),.ref (cc .M),.ref (cc .F),.ref (cc .C),.ref (cc .U)])):=Same.new ntt;exact⟨x',_,tt,cc .I,cc .M,cc .F,cc .C,cc .U,rfl,he.same s6,R.cl .K,Ac,R.kx .K .I,R.kx .K .M,R.kx .K .F,R.kx .K .C,R.kx .K .U,As 3,λ l nl=>⟨_,rfl,tell _ s6 l nl⟩⟩
  refine⟨_,R.m c .F,λ z=>?_,λ z3=>?_⟩
  .obtain rfl:c=.F:=of_decide_eq_true z;refine⟨_,rfl,x',_,dx,_,_,rfl,.inr ⟨T3,hxT⟩,hd,R.cl .F,R.na .F,Et,_,rfl,As 5,λ tt ntt=>?_⟩;have s6:Same (thrown H' x' (cc .F) (some dx) T2) (upd (thrown H' x' (cc .F) (some dx) T2) tt (.tup [.ref (cc .I),.ref (cc .M),.ref (cc .K),.ref (cc .C),.ref (cc .U)])):=Same.new ntt;exact⟨x',_,tt,cc .I,cc .M,cc .K,cc .C,cc .U,rfl,he.same s6,R.cl .F,Ac,R.kx .F .I,R.kx .F .M,R.kx .F .K,R.kx .F .C,R.kx .F .U,As 3,λ l nl=>⟨_,rfl,tell _ s6 l nl⟩⟩
  refine⟨_,R.m c .C,λ z=>?_,λ z4=>?_⟩
  .obtain rfl:c=.C:=of_decide_eq_true z;refine⟨_,rfl,x',_,dx,_,_,rfl,.inr ⟨T3,hxT⟩,hd,R.cl .C,R.na .C,Et,_,rfl,As 5,λ tt ntt=>?_⟩;have s6:Same (thrown H' x' (cc .C) (some dx) T2) (upd (thrown H' x' (cc .C) (some dx) T2) tt (.tup [.ref (cc .I),.ref (cc .M),.ref (cc .K),.ref (cc .F),.ref (cc .U)])):=Same.new ntt;exact⟨x',_,tt,cc .I,cc .M,cc .K,cc .F,cc .U,rfl,he.same s6,R.cl .C,Ac,R.kx .C .I,R.kx .C .M,R.kx .C .K,R.kx .C .F,R.kx .C .U,As 3,λ l nl=>⟨_,rfl,tell _ s6 l nl⟩⟩
  refine⟨_,R.m c .U,λ z=>?_,λ z5=>?_⟩
  .obtain rfl:c=.U:=of_decide_eq_true z;refine⟨_,rfl,x',_,dx,_,_,rfl,.inr ⟨T3,hxT⟩,hd,R.cl .U,R.na .U,Et,_,rfl,As 5,λ tt ntt=>?_⟩;have s6:Same (thrown H' x' (cc .U) (some dx) T2) (upd (thrown H' x' (cc .U) (some dx) T2) tt (.tup [.ref (cc .I),.ref (cc .M),.ref (cc .K),.ref (cc .F),.ref (cc .C)])):=Same.new ntt;exact⟨x',_,tt,cc .I,cc .M,cc .K,cc .F,cc .C,rfl,he.same s6,R.cl .U,Ac,R.kx .U .I,R.kx .U .M,R.kx .U .K,R.kx .U .F,R.kx .U .C,As 3,λ l nl=>⟨_,rfl,tell _ s6 l nl⟩⟩
  cases c
  .exact absurd z0 (by decide)
  .exact absurd z1 (by decide)
  .exact absurd z2 (by decide)
  .exact absurd z3 (by decide)
  .exact absurd z4 (by decide)
  .exact absurd z5 (by decide)
def UY(H:Hp)(v:V):Option (Cl×D)->Prop
 |none=>v=.non
 |some r=>∃l u,v=.ref l/\H l=some (.lst [.str (woC r.1),u])/\DAt H r.2 u
inductive NL(vs:LUz)(H:Hp)(Q:VK)(E:XK):Prop
 |mk (verb:Int) (v1 v2:V) (b e:Addr) (d1 d2:D) (xs ys:LUz) (gs:List (Option Bp)) (hs:List (Option (Int×Int))) (k:Int) (h0:vs=[.int verb,v1,v2,.ref b,Dl (AX gs),.ref e,Dl (AX hs),.int k]) (h1:DAt H d1 v1) (h2:DAt H d2 v2) (h3:H b=some (.lst xs)) (h4:xs.length=gs.length) (h5:H e=some (.lst ys)) (h6:ys.length=hs.length) (h7:(k=7\/k<=0)) (h8:∀v H',Same H H'->UY H' v (BQ verb d1 d2 gs hs k)->Q v H'):NL vs H Q E
def Pk:Sp:=λ vs H Q E=>NL vs H Q E
abbrev Uo:LSz:=["_law_verb","_law_width","_law_height","_law_kinds_here","_law_odd","_law_flaws_here","_law_wrong","_law_at","_law_side_here"]
theorem OH:Ak Uo ["_law_verb","_law_width","_law_height","_law_kinds_here","_law_odd","_law_flaws_here","_law_wrong","_law_at"] (Ag EC):=fsc
theorem Mr{f:Addr}{fd:FuncData}(F:Fun K "_law_due" "_law_due" EC f fd)(T:Txt mg tk)(D__law_is_side:DefOk P w K mg base 1 "_law_is_side" ["_law_thing"] Du):FnOk P w K mg base CX0 2 f fd ["_law_verb","_law_width","_law_height","_law_kinds_here","_law_odd","_law_flaws_here","_law_wrong","_law_at"] Pk:=by
 have S:=OH;refine F.ok S (λ vs H Q E h=>?_) (λ cdv A outer s H vs Q E hr h=>?_)
 .obtain⟨verb,v1,v2,b,e,d1,d2,xs,ys,gs,hs,k,rfl,_⟩:=h;rfl
 .obtain⟨verb,v1,v2,b,e,d1,d2,xs,ys,gs,hs,k,rfl,a1,a2,hxs,lx,hys,ly,hk,q⟩:=h;refine⟨_,(Af (Bh PassesOwn.never rfl (JG (A3 (Aa (pv 1) (Aa (pv 2) Ab)))) (Aq (i:=8) S.nd rfl (Or.inl rfl)) (Ae (AC (PW.pt (DQ (Bx (Bg (Au D__law_is_side hr (Aa (pv 8) Ab)))) (CT (PW.pt (DR (Ap CC (pv 0) Ad (Av _)) (C9 (Ap CC (pv 8) Ad (Av _)))))))) (Ae (Am (A9 (Aa BK (Aa (pv 8) Ab))))) Ax)))
   (Af (AC (Ap CC (Aw AA rfl T.z_len rfl (Aa (pv 3) Ab)) Ad (Av _)) (Ae (Am (A9 (Aa BK (Aa (Aw AA rfl T.z_len rfl (Aa (pv 3) Ab)) Ab))))) Ax)
   (Af (AC (Ap Gn (pv 4) BA (Av _)) (Ae (Am (A9 (Aa BK (Aa (pv 4) Ab))))) Ax)
   (Af (AC (PW.pt (DR (Ap BN (pv 0) Ad (Av _)) (C9 (Bx (KM DV DV Ad (pv 7) (pv 1)))))) (Ae (Am (A9 (Aa BK (Aa (pv 7) Ab))))) Ax)
   (Af (AC (Ap BN (pv 0) Ad (Av _)) (Ae (Am (A9 (Aa BK (Aa (A3 (Aa (A3 (Aa Ad (Aa Ad (Aa (pv 2) (Aa Ad Ab))))) (Aa Ad Ab))) Ab))))) Ax)
   (Af (AC (PW.pt (DR (Ap CC (pv 0) Ad (Av _)) (C9 (Ap CC (Aw AA rfl T.z_len rfl (Aa (pv 5) Ab)) Ad (Av _))))) (Ae (Am (A9 (Aa BK (Aa (Aw AA rfl T.z_len rfl (Aa (pv 5) Ab)) Ab))))) Ax)
   (Af (AC (PW.pt (DR (Ap CC (pv 0) Ad (Av _)) (C9 (Ap Gn (pv 6) BA (Av _))))) (Ae (Am (A9 (Aa BK (Aa (pv 6) Ab))))) Ax)
   (Ae (Am BA))))))))),?_⟩
  obtain⟨fb,efb⟩:∃fb:V->Bool,fb=if 2<verb then AO else Ay:=⟨_,rfl⟩;have fr:∀a,fb (.ref a)=false:=λ a=>by rw[efb];split<;>rfl
  have fno:∀{x:V},Ay x=false->fb x=false:=λ{x} z=>by
   rw[efb];split
   .exact EW z
   .exact z
  have eA:BQ verb d1 d2 gs hs k=((BX fb d1 d2).map λ d=>(Cl.I,d)).or (((Bi 8 .K gs).map upR).or (C3 verb d1 d2 hs k)):=by rw[efb];rfl
  have say:∀{c:Cl}{d:D}{u:V}{H1:Hp},BQ verb d1 d2 gs hs k=some (c,d)->Same H H1->DAt H1 d u->∀l,H1 l=none->Q (.ref l) (upd H1 l (.lst [.str (woC c),u])):=λ{c d u H1} e s1 da l nl=>q _ _ (s1.trans (Same.new nl)) (by rw[e];exact⟨l,u,rfl,Ac,AM (Same.new nl) _ da⟩);refine⟨_,rfl,_,rfl,As 2,λ t nt=>⟨t,rfl,⟨_,SqT.of Ac⟩,JZ (K:=K) (a:=t) (xs:=[v1,v2]) (λ i σ H'=>(∃y,σ=[some (.int verb),some v1,some v2,some (.ref b),some (Dl (AX gs)),some (.ref e),some (Dl (AX hs)),some (.int k),y])/\H'=upd H t (.tup [v1,v2])/\(0<i->fb v1=true)/\(1<i->fb v2=true)) ⟨⟨none,rfl⟩,rfl,(λ z=>absurd z (by decide)),λ z=>absurd z (by decide)⟩ (λ i σ H' _ hp=>by rw[hp.2.1];exact SqT.of Ac) ?_ ?_⟩⟩
  .rintro i x σ H' hx ⟨⟨y,rfl⟩,rfl,h0,h1⟩;have s1:Same H (upd H t (.tup [v1,v2])):=Same.new nt;obtain⟨dx,ax,due,good⟩:∃dx,DAt H dx x/\(fb x=false->BX fb d1 d2=some dx)/\(fb x=true->(0<i+1->fb v1=true)/\(1<i+1->fb v2=true)):=by
    unfold BX;rw[<-Ft fr a1,<-Ft fr a2]
    match i,hx with
    |0,hx =>
     cases hx;exact⟨d1,a1,λ z=>by rw[z];rfl,λ z=>⟨λ_=>z,λ k=>absurd k (by lia)⟩⟩
    |1,hx =>
     cases hx;have z0:=h0 (by lia);exact⟨d2,a2,λ z=>by rw[z0,z];rfl,λ z=>⟨λ_=>z0,λ_=>z⟩⟩
    |i+2,hx=>cases hx
   have bad:fb x=false->∀l,(upd H t (.tup [v1,v2])) l=none->Q (.ref l) (upd (upd H t (.tup [v1,v2])) l (.lst [.str "side",x])):=λ z=>say (c:=.I) (by rw[eA,due z];rfl) s1 (AM s1 _ ax);refine⟨_,rfl,x,rfl,(BI ax).same s1,_,rfl,AG (λ hb=>?_) (λ hb=>?_)⟩
   .have hb:Ay x=false:=by simpa using hb
    exact E2 ⟨_,rfl,As 2,bad (fno hb)⟩
   .have hb:Ay x=true:=by simpa using hb
    obtain⟨n,rfl,n1,n2⟩:=Bt hb;refine⟨_,rfl,_,_,rfl,rfl,_,rfl,AG (λ c=>?_) (λ c=>?_)⟩
    .have c:2<verb:=of_decide_eq_true c;refine⟨_,rfl,_,_,rfl,rfl,_,rfl,AG (λ c2=>?_) (λ c2=>?_)⟩
     .exact⟨_,rfl,As 2,bad (by rw[efb,if_pos c];exact G6 (of_decide_eq_true c2))⟩
     .obtain⟨g0,g1⟩:=good (by rw[efb,if_pos c];exact DJ n1 (of_decide_eq_false c2));exact⟨⟨_,rfl⟩,rfl,g0,g1⟩
    .have c:¬2<verb:=of_decide_eq_false c;obtain⟨g0,g1⟩:=good (by rw[efb,if_neg c];exact hb);exact Fe ⟨⟨_,rfl⟩,rfl,g0,g1⟩
  .rintro σ H1 ⟨⟨y,rfl⟩,rfl,h0,h1⟩;have s1:Same H (upd H t (.tup [v1,v2])):=Same.new nt;have g1:=h0 (by show 0<2;decide);have g2:=h1 (by show 1<2;decide);have eS:BX fb d1 d2=none:=by unfold BX;rw[<-Ft fr a1,<-Ft fr a2,g1,g2];rfl
   have eA:BQ verb d1 d2 gs hs k=((Bi 8 .K gs).map upR).or (C3 verb d1 d2 hs k):=by rw[eA,eS];rfl
   have sv:∀{x:V},fb x=true->Ay x=true:=λ{x} z=>by
    cases c:Ay x with
    |true=>rfl
    |false=>rw[fno c]at z;cases z
   obtain⟨ww,rfl,w1,w2⟩:=Bt (sv g1);obtain⟨hh,rfl,j1,j2⟩:=Bt (sv g2);generalize upd H t (.tup [.int ww,.int hh])=H1 at s1 |-;have hx1:=s1 _ _ hxs;have hy1:=s1 _ _ hys;have wd1:wD d1=ww:=by
    cases d1 with
    | «at» u=>rw[DAt]at a1;rw[<-a1.1];rfl
    |tup ds=>rw[DAt]at a1;obtain⟨_,_,z,_⟩:=a1;cases z
    |lst ds=>rw[DAt]at a1;obtain⟨_,_,z,_⟩:=a1;cases z
   have wd2:wD d2=hh:=by
    cases d2 with
    | «at» u=>rw[DAt]at a2;rw[<-a2.1];rfl
    |tup ds=>rw[DAt]at a2;obtain⟨_,_,z,_⟩:=a2;cases z
    |lst ds=>rw[DAt]at a2;obtain⟨_,_,z,_⟩:=a2;cases z
   refine⟨_,rfl,b,_,rfl,.inl (SqL.of hx1),_,_,rfl,rfl,_,rfl,AG (λ c=>?_) (λ c=>?_)⟩
   .have c:(8:Int)<(xs.length:Int):=of_decide_eq_true c;refine⟨_,rfl,b,_,rfl,.inl (SqL.of hx1),As 2,say (c:=.M) (d:=.at (.int xs.length)) ?_ s1 (CV rfl)⟩;rw[eA];unfold Bi;rw[if_pos (by lia),lx];rfl
   have c:¬(8:Int)<(xs.length:Int):=of_decide_eq_false c;have eG:Bi 8 .K gs=(AX gs).map λ k:Nat=>(Cl.K,V.int k):=by unfold Bi;rw[if_neg (by lia)]
   cases e0:AX gs with
   |some i =>
    rw[e0]at eG;exact⟨_,rfl,rfl,_,rfl,Cd rfl ⟨_,rfl,As 2,say (c:=.K) (d:=.at (.int i)) (by rw[eA,eG];rfl) s1 (CV rfl)⟩⟩
   |none =>
   rw[e0]at eG;have eA:BQ verb d1 d2 gs hs k=C3 verb d1 d2 hs k:=by rw[eA,eG];rfl
   refine⟨_,rfl,rfl,_,rfl,BD rfl ?_⟩;refine⟨_,rfl,rfl,_,rfl,AG (λ c2=>?_) (λ c2=>?_)⟩
   .have c2:verb=2:=decI.mp c2;have eR:C3 verb d1 d2 hs k=if 1<=k/\k<ww then some (.U,Jy ⟨0,0,hh,k⟩) else some (.C,.at (.int k)):=by unfold C3;rw[if_pos c2,wd1,wd2]
    have cut:¬(1<=k/\k<ww)->∀l,H1 l=none->Q (.ref l) (upd H1 l (.lst [.str "cut",.int k])):=λ z=>say (c:=.C) (d:=.at (.int k)) (by rw[eA,eR,if_neg z]) s1 (CV rfl);refine⟨_,rfl,_,_,rfl,rfl,_,rfl,AG (λ c3=>?_) (λ c3=>?_)⟩
    .have c3:0<k:=of_decide_eq_true c3;refine⟨_,rfl,_,_,rfl,rfl,_,rfl,?_⟩;by_cases c4:k<ww
     .have k7:k=7:=by lia
      subst k7;refine BD (by rw[decide_eq_true c4];rfl) ⟨_,rfl,rfl,_,rfl,Cd (decI.mpr c2) ⟨_,rfl,As 4,λ p np=>?_⟩⟩;obtain⟨H2,g,s2,p2⟩:=nw (.tup [.int 0,.int 0,.int hh,.int 7]) np;rw[g];have p2:H2 p=some (.tup (Rk.vs ⟨0,0,hh,7⟩)):=p2;refine⟨As 2,λ p3 np3=>?_⟩;have s3:Same H2 (upd H2 p3 (.tup [.ref p,.int 999])):=Same.new np3;exact⟨As 2,say (c:=.U) (d:=Jy ⟨0,0,hh,7⟩) (by rw[eA,eR,if_pos ⟨by decide,c4⟩]) (s1.trans (s2.trans s3)) (OT Ac (s3 _ _ p2))⟩
     .exact Cd (by rw[decide_eq_false c4];rfl) ⟨_,rfl,As 2,cut (λ z=>c4 z.2)⟩
    .have c3:¬0<k:=of_decide_eq_false c3;exact⟨_,rfl,E2 ⟨_,rfl,As 2,cut (λ z=>by lia)⟩⟩
   .have c2':=c2;have c2:¬verb=2:=decIf.mp c2;refine Fe ⟨_,rfl,rfl,_,rfl,BD c2' ?_⟩;refine⟨_,rfl,_,_,rfl,rfl,_,rfl,AG (λ c3=>?_) (λ c3=>?_)⟩
    .have c3':=c3;have c3:2<verb:=of_decide_eq_true c3;have eR:C3 verb d1 d2 hs k=(Bi 49 .F hs).map upR:=by unfold C3;rw[if_neg c2,if_pos c3]
     refine⟨_,rfl,e,_,rfl,.inl (SqL.of hy1),_,_,rfl,rfl,_,rfl,AG (λ c4=>?_) (λ c4=>?_)⟩
     .have c4:(49:Int)<(ys.length:Int):=of_decide_eq_true c4;refine⟨_,rfl,e,_,rfl,.inl (SqL.of hy1),As 2,say (c:=.M) (d:=.at (.int ys.length)) ?_ s1 (CV rfl)⟩;rw[eA,eR];unfold Bi;rw[if_pos (by lia),ly];rfl
     .have c4:¬(49:Int)<(ys.length:Int):=of_decide_eq_false c4;have eH:Bi 49 .F hs=(AX hs).map λ k:Nat=>(Cl.F,V.int k):=by unfold Bi;rw[if_neg (by lia)]
      refine⟨_,rfl,_,_,rfl,rfl,_,rfl,Cd c3' ?_⟩;cases e1:AX hs with
      |some i =>
       rw[e1]at eH;exact⟨_,rfl,rfl,_,rfl,Cd rfl ⟨_,rfl,As 2,say (c:=.F) (d:=.at (.int i)) (by rw[eA,eR,eH];rfl) s1 (CV rfl)⟩⟩
      |none =>
       rw[e1]at eH;exact⟨_,rfl,rfl,_,rfl,BD rfl (q _ _ s1 (by rw[eA,eR,eH];rfl))⟩
    .have c3':=c3;have c3:¬2<verb:=of_decide_eq_false c3;refine Fe ⟨_,rfl,_,_,rfl,rfl,_,rfl,BD c3' (Fe (q _ _ s1 ?_))⟩;rw[eA];unfold C3;rw[if_neg c2,if_neg c3];rfl
theorem SZ{H H':Hp}:∀{d:D}{v u:V},DAt H d v->DAt H' d u->tyS H v=tyS H' u
 |.at w,v,u,h,h'=>by
  rw[DAt]at h h';rw[h.1,h'.1];cases w<;>first|rfl|cases h.2
 |.tup ds,v,u,h,h'=>by
  rw[DAt]at h h';obtain⟨a,xs,rfl,e,_⟩:=h;obtain⟨a',xs',rfl,e',_⟩:=h';rw[G0 e,G0 e']
 |.lst ds,v,u,h,h'=>by
  rw[DAt]at h h';obtain⟨a,xs,rfl,e,_⟩:=h;obtain⟨a',xs',rfl,e',_⟩:=h';rw[CF e,CF e']
def KS(s:Str)(d:D):D:=.lst (.cons (.at (.str s)) (.cons d .nil))
theorem KR{K:Frag}{H:Hp}{l:Addr}{s:Str}{d:D}{v:V}(h:H l=some (.lst [.str s,v]))(da:DAt H d v):DIs K H (KS s d) (.ref l):=by
 refine Qf _ ?_;unfold KS;rw[DAt];refine⟨l,_,rfl,h,?_⟩;rw[Be];refine⟨_,_,rfl,CV rfl,?_⟩;rw[Be];refine⟨_,_,rfl,da,?_⟩;rw[Be]
inductive Jo(vs:LUz)(H:Hp)(Q:VK)(E:XK):Prop
 |mk (vt vd:V) (h0:vs=[vt,vd]) (h1:((vt=.non/\vd=.non)\/∃l m s v u d,vt=.ref l/\vd=.ref m/\H l=some (.lst [.str s,v,.bl false])/\H m=some (.lst [.str s,u])/\DAt H d v/\DAt H d u/\dep d<=10)) (h2:∀H',Same H H'->Q (.bl true) H'):Jo vs H Q E
def K6:Sp:=λ vs H Q E=>Jo vs H Q E
theorem LD:Ak ["_law_told","_law_due_here"] ["_law_told","_law_due_here"] (Ag Dy):=fsc
theorem JM{f:Addr}{fd:FuncData}(F:Fun K "_law_right" "_law_right" Dy f fd)(T:Txt mg tk):FnOk P w K mg base CX0 2 f fd ["_law_told","_law_due_here"] K6:=by
 have S:=LD;refine F.ok S (λ vs H Q E h=>?_) (λ cdv A outer s H vs Q E hr h=>?_)
 .obtain⟨vt,vd,rfl,_⟩:=h;rfl
 .obtain⟨vt,vd,rfl,alt,q⟩:=h;refine⟨_,(Af (AC (Ap GK (pv 1) BA (Av _)) (Ae (Am (Eo GK (pv 0) BA (Av _)))) Ax)
   (Af (AC (PW.pt (DQ (Ap GK (pv 0) BA (Av _)) (DQ (Ap (Sw hr) (Pw Q9 (pv 0) QK (QJ Ad)) (pv 1) (Av _)) (CT (Ap Nq (Aw B4 rfl T.z_isinstance rfl (Aa (Ao Bb (pv 0) Ad (λ_ _=>rfl)) (Aa (Ci (v:=.ty "bool") rfl T.z_bool rfl rfl) Ab))) (Aw B4 rfl T.z_isinstance rfl (Aa (Ao Bb (pv 1) Ad (λ_ _=>rfl)) (Aa (Ci (v:=.ty "bool") rfl T.z_bool rfl rfl) Ab))) (Av _)))))) (Ae (Am DS)) Ax)
   (Ae (Am (Eo Sx (Ao Bb (pv 0) Ad (λ_ _=>rfl)) DS (Av _)))))),?_⟩
  rcases alt with ⟨rfl,rfl⟩|⟨l,m,s,v,u,d,rfl,rfl,hl,hm,dv,du,dd⟩
  .exact⟨_,rfl,rfl,_,rfl,Cd rfl ⟨_,rfl,rfl,q H (Same.refl H)⟩⟩
  .refine⟨_,rfl,rfl,_,rfl,BD rfl ?_⟩;refine⟨_,rfl,rfl,_,rfl,BD rfl ?_⟩;refine⟨_,rfl,_,rfl,l,_,rfl,SqL.of hl,λ p np=>?_⟩;rw[show Qg [.str s,v,.bl false] none (some 2)=[.str s,v] from rfl];obtain⟨H1,g,s1,p1⟩:=nw (.lst [.str s,v]) np;rw[g];obtain⟨T1,hT1⟩:=BI (AM s1 _ dv);have hT2:tyS H1 u=some T1:=by rw[<-SZ (AM s1 _ dv) (AM s1 _ du)];exact hT1
   have is:=KR (K:=K) p1 (AM s1 _ dv);refine⟨_,rfl,KS s d,KS s d,is,KR (s1 _ _ hm) (AM s1 _ du),⟨_,rfl⟩,⟨_,rfl⟩,?_,_,rfl,?_⟩
   .unfold KS;rw[dep,Fg,dep,Fg,Fg];lia
   rw[if_pos rfl,Ff _ is];refine BD rfl ?_;refine⟨_,rfl,l,_,_,_,rfl,rfl,SqL.of (s1 _ _ hl),Fj (j:=1) rfl,v,T1,"bool",rfl,hT1,.inr (.inl rfl),_,rfl,m,_,_,_,rfl,rfl,SqL.of (s1 _ _ hm),Fj (j:=1) rfl,u,T1,"bool",rfl,hT2,.inr (.inl rfl),rfl,_,rfl,BD (by rw[decide_eq_true rfl];rfl) ?_⟩;exact⟨_,rfl,l,_,_,_,rfl,rfl,SqL.of (s1 _ _ hl),Fj (j:=2) rfl,false,false,rfl,rfl,q H1 s1⟩
theorem S5{H H':Hp}(s:SameN H H'):Kt H H':=by
 refine⟨λ a xs e=>s.tup e,λ v T e=>?_⟩;cases v with
 |ref a =>
  have e:tyO (H a)=some T:=e;show tyO (H' a)=some T;cases w:H a with
  |none=>rw[w]at e;cases e
  |some o =>
   rw[w]at e;rw[s a o w (λ ps z=>by subst z;cases e)];exact e
 |_=>exact e
def shN(v:V):Int:=match v with
 |.int i=>if Ay (.int i)=true then i else 4
 |_=>4
theorem JB{v:V}(h:Ay v=true):v=.int (shN v):=by
 obtain⟨x,rfl,_,_⟩:=Bt h;show V.int x=V.int (if Ay (.int x)=true then x else 4);rw[if_pos h]
theorem Pn{v:V}(h:Ay v=false):shN v=4:=by
 unfold shN;split
 .rw[if_neg (by rw[h];exact Bool.false_ne_true)]
 .rfl
theorem Nk(v:V):1<=shN v/\shN v<=12:=by
 cases h:Ay v with
 |false=>rw[Pn h];decide
 |true =>
  obtain⟨x,rfl,a,b⟩:=Bt h;have:=JB h;rw[<-V.int.inj this];exact⟨a,b⟩
theorem sh7{v:V}(h:AO v=true):v=.int (shN v):=by
 cases c:Ay v with
 |true=>exact JB c
 |false=>rw[EW c]at h;cases h
theorem Qb{verb:Int}{d1 d2:D}{gs:List (Option Bp)}{hs:List (Option (Int×Int))}{k:Int}{r:Cl×D}(h1:dep d1<=10)(h2:dep d2<=10)(h:BQ verb d1 d2 gs hs k=some r):dep r.2<=10:=by
 have at0:∀v:V,dep (.at v)<=10:=λ v=>by rw[dep];decide
 unfold BQ at h;rcases Option.or_eq_some_iff.mp h with h|⟨_,h⟩
 .obtain⟨d,e,rfl⟩:=Option.map_eq_some_iff.mp h;unfold BX at e;generalize (if 2<verb then AO else Ay)=f at e;split at e
  .split at e
   .cases e
   .cases e;exact h2
  .cases e;exact h1
 .rcases Option.or_eq_some_iff.mp h with h|⟨_,h⟩
  .obtain⟨x,_,rfl⟩:=Option.map_eq_some_iff.mp h;exact at0 _
  .unfold C3 at h;split at h
   .split at h
    .cases h;show dep (Jy _)<=10;unfold Jy;simp only[dep,Fg];decide
    .cases h;exact at0 _
   .split at h
    .obtain⟨x,_,rfl⟩:=Option.map_eq_some_iff.mp h;exact at0 _
    .cases h
theorem O3{verb m0 m1 k:Int}(n2:¬verb=2)(a:1<=m0/\m0<=12)(b:1<=m1/\m1<=12)(c:2<verb->m0<=7/\m1<=7):BQ verb (.at (.int m0)) (.at (.int m1)) [some (1,1,0,true)] [] k=none:=by
 have e1:BX (if 2<verb then AO else Ay) (.at (.int m0)) (.at (.int m1))=none:=by
  unfold BX;show(if (if 2<verb then AO else Ay) (.int m0)=true then (if (if 2<verb then AO else Ay) (.int m1)=true then none else some _) else some _)=none;by_cases z:2<verb
  .obtain⟨c1,c2⟩:=c z;rw[if_pos z,DJ a.1 (by lia),DJ b.1 (by lia)];rfl
  .rw[if_neg z,Df a.1 a.2,Df b.1 b.2];rfl
 have e2:Bi 8 .K [some ((1,1,0,true):Bp)]=none:=by decide
 have e3:Bi 49 .F ([]:List (Option (Int×Int)))=none:=by decide
 unfold BQ;rw[e1,e2];show C3 verb _ _ [] k=none;unfold C3;rw[if_neg n2,e3];split<;>rfl
theorem LA{tb tb2:Addr}{verb:Int}{v1 v2:V}{b e:Addr}{vt:V}{d1 d2:D}{xs ys:LUz}{gs:List (Option Bp)}{hs:List (Option (Int×Int))}{W T k:Int}{H:Hp}{Q:VK}{E:XK}(hv:0<=verb/\verb<=4)(a1:DAt H d1 v1)(a2:DAt H d2 v2)(hx:H b=some (.lst xs))(th:Ths KTh H xs gs)(lg:gs.length<=100)(hy:H e=some (.lst ys))(tf:Ths (FTh W T) H ys hs)(lh:hs.length<=100)(i1:AO v1=true->v1=.int W)(i2:AO v2=true->v2=.int T)(ho:Obj cW cU cL H (trK k) vt)(tab:Tb tb tb2 H)
  (q:∀tv H7,SameN H H7->Tb tb tb2 H7->((tv=.non/\BQ verb d1 d2 gs hs k=none)\/∃r l v,BQ verb d1 d2 gs hs k=some r/\tv=.ref l/\H7 l=some (.lst [.str (woC r.1),v,.bl false])/\DAt H7 r.2 v)->Q tv H7):De tb tb2 cW cU cL [.int verb,v1,v2,.ref b,.ref e,vt] H Q E :=
 ⟨verb,v1,v2,b,e,vt,d1,d2,xs,ys,gs,hs,W,T,k,rfl,hv,a1,a2,hx,th,lg,hy,tf,lh,i1,i2,ho,tab,λ r er l v H7 s t hl dv=>q _ _ s t (.inr ⟨r,l,v,er,rfl,hl,dv⟩),λ en H7 s t=>q _ _ s t (.inl ⟨rfl,en⟩)⟩
inductive NH(tb tb2:Addr)(K:Frag)(vs:LUz)(H:Hp)(Q:VK)(E:XK):Prop
 |mk (a:Addr) (ns:List Int) (h0:vs=[.ref a]) (h1:SqL K H a (ns.map V.int)) (h2:ns.length<=63) (h3:H tb=some (.tbl #[])) (h4:H tb2=some (.tbl #[])) (h5:∀H',Q (.bl true) H'):NH tb tb2 K vs H Q E
def sp_law(tb tb2:Addr)(K:Frag) :Sp:=λ vs H Q E=>NH tb tb2 K vs H Q E
abbrev Qs:LSz:=["_law_script","_law_width","_law_height","_law_kinds_here","_law_odd","_law_sheet","_law_flaws_here","_law_wrong","_law_at","_law_tree","_law_verb","_law_some","_law_told"]
theorem Uf:Ak Qs ["_law_script"] (Ag Bo):=fsc
theorem law7:(Ar Bo).drop 7=stN Bo 7::(Ar Bo).drop 8:=by kernel_rfl
theorem law_body:Ar Bo=stN Bo 0::stN Bo 1::stN Bo 2::stN Bo 3::stN Bo 4::stN Bo 5::stN Bo 6::(Ar Bo).drop 7:=by kernel_rfl
theorem Sz{f tb tb2:Addr}{fd:FuncData}(F:Fun K "law" "law" Bo f fd)(T:Txt mg tk)(D__law_cell:DefOk P w K mg base 1 "_law_cell" ["_law_script","_law_k"] (Ni K))(D__law_draw:DefOk P w K mg base 1 "_law_draw" ["_law_cell_here","_law_nth","_law_many"] Gk)(D__law_side:DefOk P w K mg base 1 "_law_side" ["_law_cell_here"] K7)(D__law_is_side:DefOk P w K mg base 1 "_law_is_side" ["_law_thing"] Du)(D__law_kinds:DefOk P w K mg base 2 "_law_kinds" ["_law_cell_here","_law_many"] IE)(D__law_flaws:DefOk P w K mg base 2 "_law_flaws" ["_law_cell_here","_law_width","_law_height"] IF)
  (D__law_asked:DefOk P w K mg base 7 "_law_asked" ["_law_verb","_law_width","_law_height","_law_kinds_here","_law_flaws_here","_law_tree"] (De tb tb2 cW cU cL)) (D__law_due:DefOk P w K mg base 2 "_law_due" ["_law_verb","_law_width","_law_height","_law_kinds_here","_law_odd","_law_flaws_here","_law_wrong","_law_at"] Pk) (D__law_right:DefOk P w K mg base 2 "_law_right" ["_law_told","_law_due_here"] K6)
  (K_Whole:LK P w K mg base 1 "Whole" cW ["self","mark"] (IG cW)) (K0_Whole:Qt P w K mg base 1 "Whole" cW ["self","mark"] (IG cW) [.non]) (K_Upright:LK P w K mg base 1 "Upright" cU ["self","at","first","other"] (K8 cU)):FnOk P w K mg base CX0 9 f fd ["_law_script"] (sp_law tb tb2 K):=by
 have S:=Uf;refine F.ok S (λ vs H Q E h=>?_) (λ cdv A outer s H vs Q E hr h=>?_)
 .obtain⟨a,ns,rfl,_⟩:=h;rfl
 .obtain⟨a,ns,rfl,hS,hlen,htb,htb2,q⟩:=h;obtain⟨tC,hC,kC⟩:∃rd,PSs (BF CX0 P w K mg base Qs "law" (Ag Bo) f cdv A outer s H E).nox ((Ar Bo).drop 8) rd/\∀(v1 v2:V)(d1 d2:D)(b sh e:Addr)(xs ys:LUz)(gs:List (Option Bp))(hs:List (Option (Int×Int)))(k:Int)(vt:V)(H1:Hp),DAt H1 d1 v1->DAt H1 d2 v2->dep d1<=10->dep d2<=10->H1 b=some (.lst xs)->Ths KTh H1 xs gs->gs.length<=100->H1 e=some (.lst ys)->Ths (FTh (shN v1) (shN v2)) H1 ys hs->hs.length<=100->H1 sh=some (.lst [.int (shN v1),.int (shN v2)])->(k=7\/k<=0)->Obj cW cU cL H1 (trK k) vt->Tb tb tb2 H1 ->
    rd { nx:=λ_ H'=>Q .non H',rt:=Q } [some (.ref a),some v1,some v2,some (.ref b),some (Dl (AX gs)),some (.ref sh),some (.ref e),some (Dl (AX hs)),some (.int k),some vt,none,none,none] H1:=by
   refine⟨_,(Af (Bh PassesOwn.never rfl (Ck rfl T.z_range (Aa Ad Ab)) (Aq (i:=10) S.nd rfl (Or.inl rfl)) (Af (At (i:=11) S.nd rfl (Or.inl rfl) (Ao Bb (A9 (Aa (pv 5) (Aa (A9 (Aa (Aw (Jf rfl) rfl T.z_min rfl (Aa Ad (Aa (Ao Bb (pv 5) Ad (λ_ _=>rfl)) Ab))) (Aa (Aw (Jf rfl) rfl T.z_min rfl (Aa Ad (Aa (Ao Bb (pv 5) Ad (λ_ _=>rfl)) Ab))) Ab))) Ab))) (F3 OA rfl T.z_int rfl (Aa (Eo CC (pv 10) Ad (Av _)) Ab)) (λ_ _=>rfl)))
   (Af (At (i:=12) S.nd rfl (Or.inl rfl) (Au D__law_asked hr (Aa (pv 10) (Aa (pv 1) (Aa (pv 2) (Aa (F3 Fi rfl T.z_list rfl (Aa (pv 3) Ab)) (Aa (F3 Fi rfl T.z_list rfl (Aa (pv 6) Ab)) (Aa (pv 9) Ab))))))))
   (Af (AC (Bx (Bg (Au D__law_right hr (Aa (pv 12) (Aa (Au D__law_due hr (Aa (pv 10) (Aa (pv 1) (Aa (pv 2) (Aa (pv 3) (Aa (pv 4) (Aa (pv 6) (Aa (pv 7) (Aa (pv 8) Ab))))))))) Ab))))) (Ae (Am DS)) Ax)
   (Ae (AC (PW.pt (DR (Ap Nq (pv 10) Ad (Av _)) (C9 (Ap Gn (Au D__law_asked hr (Aa (pv 10) (Aa (Ao Bb (pv 11) Ad (λ_ _=>rfl)) (Aa (Ao Bb (pv 11) Ad (λ_ _=>rfl)) (Aa (A9 (Aa (A3 (Aa Ad (Aa Ad (Aa Ad (Aa DS Ab))))) Ab)) (Aa (A9 Ab) (Aa (pv 9) Ab))))))) BA (Av _))))) (Ae (Am DS)) Ax))))))
   (Ae (Am DS))),λ v1 v2 d1 d2 b sh e xs ys gs hs k vt H1 a1 a2 p1 p2 hxs th lg hys tf lh hsh hk ho tab=>?_⟩
   refine⟨5,rfl,by decide,by decide,BP (lo:=0) (n:=(5:Int).toNat) (λ i σ H'=>(∃y1 y2 y3,σ=[some (.ref a),some v1,some v2,some (.ref b),some (Dl (AX gs)),some (.ref sh),some (.ref e),some (Dl (AX hs)),some (.int k),some vt,y1,y2,y3])/\SameN H1 H'/\Tb tb tb2 H') ⟨⟨none,none,none,rfl⟩,SameN.refl _,tab⟩ ?_ ?_⟩
   .rintro i σ H2 hi ⟨⟨y1,y2,y3,rfl⟩,s2,tab2⟩;have hi:i<5:=hi;rw[Int.zero_add];have hsh2:=s2.lst hsh;obtain⟨w1,w2⟩:=Nk v1;obtain⟨j1,j2⟩:=Nk v2;refine⟨_,rfl,_,rfl,sh,_,_,_,rfl,rfl,SqL.of hsh2,BM,_,_,rfl,_,rfl,sh,_,_,_,rfl,rfl,SqL.of hsh2,DZ,_,_,rfl,As 2,λ l1 n1=>?_⟩;obtain⟨m0,em0,b0⟩:∃m0,m0=(if shN v1<7 then shN v1 else 7)/\(1<=m0/\m0<=7):=⟨_,rfl,by split<;>lia⟩;obtain⟨m1,em1,b1⟩:∃m1,m1=(if shN v2<7 then shN v2 else 7)/\(1<=m1/\m1<=7):=⟨_,rfl,by split<;>lia⟩;rw[<-em0,<-em1];obtain⟨H3,g,s3,h3⟩:=nw (.lst [.int m0,.int m1]) n1;rw[g];refine⟨As 2,λ l2 n2=>?_⟩;have s4:Same H3 (upd H3 l2 (.lst [.ref sh,.ref l1])):=Same.new n2;have h4:(upd H3 l2 (.lst [.ref sh,.ref l1])) l2=some (.lst [.ref sh,.ref l1]):=Ac;have h34:=s4 _ _ h3;have hsh4:=s4 _ _ (s3 _ _ hsh2);have s24:=s3.trans s4;generalize upd H3 l2 (.lst [.ref sh,.ref l1])=H4 at s24 h4 h34 hsh4 |-;clear s3 s4;have s14:SameN H1 H4:=s2.trans s24.n;have tab4:=tab2.same s24;obtain⟨so,g0,g1,eso,hso,z0,z1,z2⟩:∃(so:Addr)(g0 g1:Int),atI [V.ref sh,V.ref l1] (if decide ((2:Int)<(i:Int))=true then 1 else 0)=some (.ref so)/\H4 so=some (.lst [.int g0,.int g1])/\(1<=g0/\g0<=12)/\(1<=g1/\g1<=12)/\((2:Int)<(i:Int)->g0<=7/\g1<=7):=by
     by_cases z:(2:Int)<(i:Int)
     .exact⟨l1,m0,m1,by rw[decide_eq_true z];rfl,h34,⟨b0.1,by lia⟩,⟨b1.1,by lia⟩,λ_=>⟨b0.2,b1.2⟩⟩
     .exact⟨sh,shN v1,shN v2,by rw[decide_eq_false z];rfl,hsh4,⟨w1,w2⟩,⟨j1,j2⟩,λ y=>absurd y z⟩
    refine⟨_,rfl,_,_,rfl,rfl,.inr ⟨_,rfl,?_⟩⟩;refine⟨l2,_,_,_,rfl,rfl,SqL.of h4,eso,?_⟩;have hxs4:=s14.lst hxs;have hys4:=s14.lst hys;refine⟨_,rfl,_,rfl,_,rfl,_,rfl,b,xs,rfl,.inl (SqL.of hxs4),λ c1 nc1=>⟨_,rfl,e,ys,rfl,.inl (SqL.of ((Same.new nc1) _ _ hys4)),λ c2 nc2=>?_⟩⟩;obtain⟨H5,g,s5,h5⟩:=nw (.lst xs) nc1;rw[g] at nc2 |-;have s6:Same H5 (upd H5 c2 (.lst ys)):=Same.new nc2;have h6:(upd H5 c2 (.lst ys)) c2=some (.lst ys):=Ac;have h56:=s6 _ _ h5;generalize upd H5 c2 (.lst ys)=H6 at s6 h6 h56 |-;have s46:=s5.trans s6;have s16:SameN H1 H6:=s14.trans s46.n;have kx:=P8 s16;have kt:=S5 s16;refine⟨_,rfl,?_⟩;unfold K3;show De tb tb2 cW cU cL ([.int (i:Int),v1,v2,.ref c1,.ref c2,vt]++[]) H6 _ _;rw[List.append_nil];refine LA ⟨by lia,by lia⟩ (FN kx _ a1) (FN kx _ a2) h56 (th.mono λ v g z=>z.kt kt) lg h6 (tf.mono λ v g z=>z.kt kt) lh sh7 sh7 (ho.n s16) (tab4.same s46) λ tv H7 s67 tab7 alt=>?_;have s17:=s16.trans s67;have kx7:=P8 s17;refine⟨_,rfl,_,rfl,_,rfl,_,rfl,_,rfl,_,rfl,_,rfl,_,rfl,_,rfl,(i:Int),v1,v2,b,e,d1,d2,xs,ys,gs,hs,k,rfl,FN kx7 _ a1,FN kx7 _ a2,s17.lst hxs,th.len,s17.lst hys,tf.len,hk,λ vd H8 s78 dv=>⟨tv,vd,rfl,?_,λ H9 s89=>⟨_,rfl,BD rfl ?_⟩⟩⟩
    .rcases alt with ⟨rfl,en⟩|⟨r,l,v,er,rfl,hl,da⟩
     .rw[en]at dv;exact .inl ⟨rfl,dv⟩
     .rw[er]at dv;obtain⟨m,u,rfl,hm,du⟩:=dv;exact .inr ⟨l,m,_,v,u,r.2,rfl,rfl,s78 _ _ hl,hm,AM s78 _ da,du,Qb p1 p2 er⟩
    have s79:=s78.trans s89;have s19:SameN H1 H9:=s17.trans s79.n;have tab9:=tab7.same s79;have hso9:H9 so=some (.lst [.int g0,.int g1]):=s79 _ _ (s67.lst (s46 _ _ hso));refine⟨_,rfl,rfl,_,rfl,AG (λ c=>?_) (λ c=>?_)⟩
    .have n2:¬(i:Int)=2:=λ z=>by
      rw[z]at c;exact absurd c (by decide)
     refine⟨_,rfl,_,rfl,so,_,_,_,rfl,rfl,SqL.of hso9,BM,_,rfl,so,_,_,_,rfl,rfl,SqL.of hso9,DZ,As 4,λ t nt=>?_⟩;obtain⟨HA,g,sA,hA⟩:=nw (.tup [.int 1,.int 1,.int 0,.bl true]) nt;rw[g];have hA:HA t=some (.tup (kvs (1,1,0,true))):=hA;refine⟨As 1,λ l nl=>?_⟩;obtain⟨HB,g,sB,hB⟩:=nw (.lst [.ref t]) nl;rw[g];refine⟨As 0,λ z nz=>?_⟩;obtain⟨HC,g,sC,hC⟩:=nw (.lst []) nz;rw[g];have s9C:=sA.trans (sB.trans sC);refine⟨_,rfl,?_⟩;show De tb tb2 cW cU cL ([.int (i:Int),.int g0,.int g1,.ref l,.ref z,vt]++[]) HC _ _;rw[List.append_nil];refine LA (d1:=.at (.int g0)) (d2:=.at (.int g1)) (gs:=[some (1,1,0,true)]) (hs:=[]) (W:=g0) (T:=g1) (k:=k) ⟨by lia,by lia⟩ (CV rfl) (CV rfl) (sC _ _ hB) (.cons ⟨t,rfl,(sB.trans sC) _ _ hA,by decide,by decide,by decide⟩ .nil) (by decide) hC .nil (by decide) (λ_=>rfl) (λ_=>rfl) ((ho.n s19).same s9C) (tab9.same s9C) λ tv' H10 s10 tab10 alt'=>?_;rcases alt' with ⟨rfl,_⟩|⟨r,l',v',er,_⟩
     .exact⟨rfl,_,rfl,BD rfl ⟨⟨_,_,_,rfl⟩,s19.trans (s9C.n.trans s10),tab10⟩⟩
     .rw[O3 n2 z0 z1 z2]at er;cases er
    .exact Fe ⟨⟨_,_,_,rfl⟩,s19,tab9⟩
   .rintro σ H2 ⟨⟨y1,y2,y3,rfl⟩,s2,tab2⟩;exact q H2
  obtain⟨tB,hB,kB⟩:∃rd,PSs (BF CX0 P w K mg base Qs "law" (Ag Bo) f cdv A outer s H E).nox ((Ar Bo).drop 7) rd/\∀(v1 v2:V)(d1 d2:D)(b sh e:Addr)(xs ys:LUz)(gs:List (Option Bp))(hs:List (Option (Int×Int)))(k:Int)(H1:Hp),DAt H1 d1 v1->DAt H1 d2 v2->dep d1<=10->dep d2<=10->H1 b=some (.lst xs)->Ths KTh H1 xs gs->gs.length<=100->H1 e=some (.lst ys)->Ths (FTh (shN v1) (shN v2)) H1 ys hs->hs.length<=100->H1 sh=some (.lst [.int (shN v1),.int (shN v2)])->(k=7\/k<=0)->Tb tb tb2 H1 ->
    rd { nx:=λ_ H'=>Q .non H',rt:=Q } [some (.ref a),some v1,some v2,some (.ref b),some (Dl (AX gs)),some (.ref sh),some (.ref e),some (Dl (AX hs)),some (.int k),none,none,none,none] H1:=by
   rw[law7];generalize (Ar Bo).drop 8=tl at hC |-;refine⟨_,(Af (At (i:=9) S.nd rfl (Or.inl rfl) (KP K_Upright hr (Aa (pv 8) (Aa (KP K_Whole hr (Aa Ad Ab)) (Aa (Ss K0_Whole hr) Ab)))))
   hC),λ v1 v2 d1 d2 b sh e xs ys gs hs k H1 a1 a2 p1 p2 hxs th lg hys tf lh hsh hk tab=>?_⟩
   refine⟨_,rfl,λ x dx nx ndx nex=>⟨x,dx,_,rfl,Ac,rfl,?_⟩⟩;generalize hG:upd (upd (upd H1 dx (.own x)) x (.ins cW dx [])) x (.ins cW dx (wF (.int 999)))=G;have s2:Same H1 G:=λ b o e=>by
    rw[<-hG,Ai (Ah e nx)];exact Co nx ndx b o e
   have o2:Obj cW cU cL G (.whole (some 999)) (.ref x):=by rw[Obj];exact⟨x,dx,rfl,by rw[<-hG];exact Ac⟩
   clear hG;refine λ x' dx' nx' ndx' nex'=>⟨x',dx',_,rfl,Ac,rfl,?_⟩;generalize hG':upd (upd (upd G dx' (.own x')) x' (.ins cW dx' [])) x' (.ins cW dx' (wF .non))=G';have s3:Same G G':=λ b o e=>by
    rw[<-hG',Ai (Ah e nx')];exact Co nx' ndx' b o e
   have o3:Obj cW cU cL G' (.whole none) (.ref x'):=by rw[Obj];exact⟨x',dx',rfl,by rw[<-hG'];exact Ac⟩
   clear hG';refine λ y dy ny ndy ney=>⟨y,dy,k,.ref x,.ref x',rfl,Ac,λ H4 s4 e4=>⟨rfl,?_⟩⟩;have s5:Same G' H4:=λ b o e=>s4 b o (Ah e ny) (Co ny ndy b o e);have s15:=s2.trans (s3.trans s5);exact kC v1 v2 d1 d2 b sh e xs ys gs hs k (.ref y) H4 (AM s15 _ a1) (AM s15 _ a2) p1 p2 (s15 _ _ hxs) (th.mono λ v g z=>z.same s15) lg (s15 _ _ hys) (tf.mono λ v g z=>z.same s15) lh (s15 _ _ hsh) hk (by unfold trK;rw[Obj];exact⟨y,dy,_,_,rfl,e4,o2.same (s3.trans s5),o3.same s5⟩) (tab.same s15)
  rw[law_body];generalize (Ar Bo).drop 7=tl at hB |-;refine⟨_,(Af (At (i:=1) S.nd rfl (Or.inl rfl) (Au D__law_side hr (Aa (Au D__law_cell hr (Aa (pv 0) (Aa Ad Ab))) Ab)))
   (Af (At (i:=2) S.nd rfl (Or.inl rfl) (Au D__law_side hr (Aa (Au D__law_cell hr (Aa (pv 0) (Aa Ad Ab))) Ab)))
   (Af (JE (Au D__law_kinds hr (Aa (Au D__law_cell hr (Aa (pv 0) (Aa Ad Ab))) (Aa (Az BO (Au D__law_cell hr (Aa (pv 0) (Aa Ad Ab))) Ad) Ab))) (Cb rfl (A5 (Aq (i:=3) S.nd rfl (Or.inl rfl)) (A5 (Aq (i:=4) S.nd rfl (Or.inl rfl)) B3))))
   (Af (GF rfl (Aq (i:=5) S.nd rfl (Or.inl rfl)) (JG (A3 (Aa (pv 1) (Aa (pv 2) Ab)))) (λ_ _ _ _ _=>(Aq (i:=0) (show List.Nodup (["_law_side_here"]:LSz) from by decide +kernel) rfl (Or.inl rfl))) (λ_ _ _ _ _=>(Fb (Bg (Au D__law_is_side hr (Aa (pv 0) Ab))) (pv 0) Ad)) (N:=["_law_side_here"]) (fr:=[none]))
   (Af (JE (Au D__law_flaws hr (Aa (Au D__law_cell hr (Aa (pv 0) (Aa Ad Ab))) (Aa (Ao Bb (pv 5) Ad (λ_ _=>rfl)) (Aa (Ao Bb (pv 5) Ad (λ_ _=>rfl)) Ab)))) (Cb rfl (A5 (Aq (i:=6) S.nd rfl (Or.inl rfl)) (A5 (Aq (i:=7) S.nd rfl (Or.inl rfl)) B3))))
   (Af (At (i:=8) S.nd rfl (Or.inl rfl) Ad)
   (Af (AC (Ap BN (Az BO (Az DW (Au D__law_cell hr (Aa (pv 0) (Aa Ad Ab))) Ad) Ad) Ad (Av _)) (Ae (At (i:=8) S.nd rfl (Or.inl rfl) (Az EE Ad (Az CB (Au D__law_draw hr (Aa (Au D__law_cell hr (Aa (pv 0) (Aa Ad Ab))) (Aa Ad (Aa (Az Mn Ad Ad) Ab)))) (Az BO (Az DW (Au D__law_cell hr (Aa (pv 0) (Aa Ad Ab))) Ad) Ad))))) Ax)
   hB))))))),?_⟩
  refine⟨_,rfl,a,ns,0,rfl,hS,by decide,λ z0=>⟨z0,rfl,λ d1 v1 H1 s1 a1 p1=>?_⟩⟩;refine⟨_,rfl,a,ns,1,rfl,s1.seq hS,by decide,λ z1=>⟨z1,rfl,λ d2 v2 H2 s2 a2 p2=>?_⟩⟩;have s02:=s1.trans s2;have m0:=λ z:Int=>Int.emod_nonneg z (b:=11) (by decide);have m1:=λ z:Int=>Int.emod_lt_of_pos z (b:=11) (by decide);refine⟨_,rfl,a,ns,2,rfl,s02.seq hS,by decide,λ z2=>⟨_,rfl,a,ns,3,rfl,s02.seq hS,by decide,λ z3=>⟨_,_,rfl,rfl,(show(0:Int)<11 from by decide),z2,z3 % 11,rfl,m0 z3,(by have:=m1 z3;lia),λ t b xs gs H3 s3 nb ht hxs th gl=>?_⟩⟩⟩;have gl10:gs.length<=100:=by have:=m1 z3;lia
  refine⟨t,_,rfl,SqT.of ht,rfl,_,_,rfl,_,_,rfl,rfl,?_⟩;have s03:=s02.trans s3;refine⟨_,rfl,_,rfl,As 2,λ t2 nt2=>?_⟩;obtain⟨H4,g,s4,h4⟩:=nw (.tup [v1,v2]) nt2;rw[g];have s04:=s03.trans s4;have ty:∀x∈[v1,v2],Ty H4 x:=λ x hx=>by
   rcases List.mem_cons.mp hx with rfl|hx
   .exact BI (AM (s2.trans (s3.trans s4)) _ a1)
   .rw[List.mem_singleton.mp hx];exact BI (AM (s3.trans s4) _ a2)
  refine⟨t2,rfl,⟨_,SqT.of h4⟩,λ sh nsh=>Qh (K:=K) (a:=t2) (ys:=[v1,v2]) (λ i zs σ H'=>(∃y,σ=[y])/\Same H4 H'/\zs=(([v1,v2]:LUz).take i).map λ v=>V.int (shN v)) ⟨⟨none,rfl⟩,Same.new nsh,rfl⟩ (λ i zs σ H' _ _ hp=>SqT.of (hp.2.1 _ _ h4)) ?_ ?_⟩
  .rintro i x zs σ H5 hx hi hz ha ⟨⟨y,rfl⟩,s5,rfl⟩;have hm:=List.mem_of_getElem? hx;have tk1:([v1,v2]:LUz).take (i+1)=([v1,v2]:LUz).take i++[x]:=by rw[List.take_succ,hx];rfl
   have nx:∀u:V,u=.int (shN x)->cNx sh 2 (λ i zs σ H'=>(∃y,σ=[y])/\Same H4 H'/\zs=(([v1,v2]:LUz).take i).map λ v=>V.int (shN v)) i [some x] u H5:=λ u e=>by
    subst e;refine cNx.mk (Nat.le_of_lt (A0 (by decide))) hi hz ha ⟨⟨_,rfl⟩,λ b o e=>?_,?_⟩
    .rw[Ai (Ah e nsh)];exact s5 b o e
    .rw[tk1,List.map_append];rfl
   refine⟨_,rfl,x,rfl,(ty x hm).same s5,_,rfl,AG (λ c=>?_) (λ c=>?_)⟩
   .exact⟨_,rfl,nx _ (JB c)⟩
   .exact nx _ (by rw[Pn c])
  rintro zs σ H5 hz hsh ⟨_,s5,rfl⟩;have hsh:H5 sh=some (.lst [.int (shN v1),.int (shN v2)]):=hsh;have s05:=s04.trans s5;obtain⟨w1,w2⟩:=Nk v1;obtain⟨j1,j2⟩:=Nk v2;refine⟨_,rfl,a,ns,4,rfl,s05.seq hS,by decide,λ z4=>⟨_,rfl,sh,_,_,_,rfl,rfl,SqL.of hsh,BM,_,rfl,sh,_,_,_,rfl,rfl,SqL.of hsh,DZ,z4,shN v1,shN v2,rfl,w1,w2,j1,j2,λ t3 e ys hs H6 s6 ne ht3 hys tf lh=>?_⟩⟩;refine⟨t3,_,rfl,SqT.of ht3,rfl,_,_,rfl,_,_,rfl,rfl,?_⟩;have s06:=s05.trans s6;have s36:=s4.trans (s5.trans s6);have tab:Tb tb tb2 H6:=⟨TabOk.same (TabOk.new htb) s06,TabOk.same (TabOk.new htb2) s06⟩;have go:∀k:Int,(k=7\/k<=0)->tB { nx:=λ_ H'=>Q .non H',rt:=Q } [some (.ref a),some v1,some v2,some (.ref b),some (Dl (AX gs)),some (.ref sh),some (.ref e),some (Dl (AX hs)),some (.int k),none,none,none,none] H6:=λ k hk=>kB v1 v2 d1 d2 b sh e xs ys gs hs k H6 (AM (s2.trans (s3.trans s36)) _ a1) (AM (s3.trans s36) _ a2) p1 p2 (s36 _ _ hxs) (th.mono λ v g z=>z.same s36) gl10 hys tf (by lia) (s6 _ _ hsh) hk tab;refine⟨_,rfl,a,ns,3,rfl,s06.seq hS,by decide,λ z5=>⟨_,_,rfl,rfl,Qd _ (by decide) (by decide),_,_,rfl,rfl,(show(0:Int)<8 from by decide),rfl,_,rfl,AG (λ_=>?_) (λ_=>?_)⟩⟩
  .have b0:=λ z:Int=>Int.emod_nonneg z (b:=2) (by decide);have b1:=λ z:Int=>Int.emod_lt_of_pos z (b:=2) (by decide);refine⟨_,rfl,a,ns,4,rfl,s06.seq hS,by decide,λ z6=>⟨_,_,rfl,rfl,⟨by decide,by decide,by decide⟩,z6,47,_,rfl,by decide,by decide,(show(0:Int)<10^(6:Int).toNat from by decide),λ r r0 r1=>⟨_,rfl,a,ns,3,rfl,s06.seq hS,by decide,λ z7=>⟨_,_,rfl,rfl,Qd _ (by decide) (by decide),_,_,rfl,rfl,(show(0:Int)<2 from by decide),?_⟩⟩⟩⟩;have r1:r<1000000:=r1;have c0:=b0 (z7 / 88);have c1:=b1 (z7 / 88);generalize z7 / 88 % 2=g at c0 c1 |-;have rg:=Int.mul_nonneg r0 c0;exact⟨_,_,rfl,rfl,FT (by lia) (by lia) (by lia) (by lia),_,_,rfl,rfl,go _ (.inr (by lia))⟩
  .exact go 7 (.inl rfl)
def clA(qI qM qK qF qC qU:Addr):Cc
 |.I=>qI
 |.M=>qM
 |.K=>qK
 |.F=>qF
 |.C=>qC
 |.U=>qU
def clL:List Cl:=[.I,.M,.K,.F,.C,.U]
theorem NB(c:Cl):c∈clL:=by cases c<;>decide
def TF(K:Frag)(cc:Cc):Bool:=clL.all λ x=>clL.all λ y=>(kitOne K (.ref (cc x)) (.ref (cc y))==some (decide (x=y)))&&(mroIn K (cc x) (.ref (cc y))==some (decide (x=y)))
theorem Nw{K:Frag}{cc:Cc}(h:TF K cc=true)(x y:Cl):kitOne K (.ref (cc x)) (.ref (cc y))=some (decide (x=y))/\mroIn K (cc x) (.ref (cc y))=some (decide (x=y)):=by
 have:=List.all_eq_true.mp (List.all_eq_true.mp h x (NB x)) y (NB y);rw[Bool.and_eq_true]at this;exact⟨beq_iff_eq.mp this.1,beq_iff_eq.mp this.2⟩
def icB(K:Frag)(C:Addr):Bool:=plainGet K C Str.empty&&(hasDictIn K C&&(plainOver K C&&((findIn K (.ref C) "__setattr__"==some (some (.builtin "object.__setattr__")))&&((findIn K (.ref C) "__class__"==some (some (.builtin "object.__class__"))) &&
 ((specialIn K (.builtin "object.__class__") "__get__"==some (some (.builtin "getset_descriptor.__get__")))&&((takesIn K (.builtin "object.__class__")==some true)&&((mroIn K C (.type "object")==some true)&&(makesIn K C&&keepIn K (.ref C)))))))))
theorem MA{C:Addr}(h:icB K C=true):MX K C/\makesIn K C=true/\keepIn K (.ref C)=true:=by
 unfold icB at h;simp only[Bool.and_eq_true,beq_iff_eq]at h;obtain⟨a,b,c,d,e,f,g,i,j,l⟩:=h;exact⟨⟨⟨a,b,c,d⟩,e,f,g,i⟩,j,l⟩
def S6(K:Frag)(cT cW cU cL:Addr):Bool:=([(cW,"mark"),(cU,"at"),(cU,"first"),(cU,"other"),(cL,"at"),(cL,"first"),(cL,"other")]:List (Addr×Str)).all (λ p=>findIn K (.ref p.1) p.2==some none) &&
 ([(cW,cW,true),(cW,cU,false),(cW,cL,false),(cU,cW,false),(cL,cW,false),(cU,cU,true),(cU,cL,false),(cL,cU,false),(cL,cL,true),(cW,cT,true),(cU,cT,true),(cL,cT,true)]:List (Addr×Addr×Bool)).all (λ p=>kitOne K (.ref p.1) (.ref p.2.1)==some p.2.2)
theorem Tp(h:S6 K cT cW cU cL=true)(iW:MX K cW)(iU:MX K cU)(iL:MX K cL)(gT:mg "Tree"=some (.ref cT))(gW:mg "Whole"=some (.ref cW))(gU:mg "Upright"=some (.ref cU))(gL:mg "Level"=some (.ref cL)):RT mg K cT cW cU cL:=by
 unfold S6 at h;rw[Bool.and_eq_true,List.all_eq_true,List.all_eq_true]at h;obtain⟨h1,h2⟩:=h;have f1:∀p∈([(cW,"mark"),(cU,"at"),(cU,"first"),(cU,"other"),(cL,"at"),(cL,"first"),(cL,"other")]:List (Addr×Str)),findIn K (.ref p.1) p.2=some none:=λ p hp=>beq_iff_eq.mp (h1 p hp);have f2:∀p∈([(cW,cW,true),(cW,cU,false),(cW,cL,false),(cU,cW,false),(cL,cW,false),(cU,cU,true),(cU,cL,false),(cL,cU,false),(cL,cL,true),(cW,cT,true),(cU,cT,true),(cL,cT,true)]:List (Addr×Addr×Bool)),kitOne K (.ref p.1) (.ref p.2.1)=some p.2.2:=λ p hp=>beq_iff_eq.mp (h2 p hp);simp only[List.forall_mem_cons,List.not_mem_nil,false_implies,implies_true,and_true]at f1 f2;obtain⟨a1,a2,a3,a4,a5,a6,a7⟩:=f1;obtain⟨k1,k2,k3,k4,k5,k6,k7,k8,k9,k10,k11,k12⟩:=f2;refine⟨gT,gW,gU,gL,iW,?_,a1,?_,?_,?_,k1,?_,?_,?_,k10,?_⟩
 .intro u;cases u;exact iL;exact iU
 .intro u;cases u;exact a5;exact a2
 .intro u;cases u;exact a6;exact a3
 .intro u;cases u;exact a7;exact a4
 .intro u;cases u;exact k3;exact k2
 .intro u;cases u;exact k5;exact k4
 .intro u v;cases u<;>cases v;exact k9;exact k8;exact k7;exact k6
 .intro u;cases u;exact k12;exact k11
theorem QV{us:LWz}{d:Value}(h:(us++[d]).length=2):∃u,us=[u]:=by
 rw[List.length_append,List.length_singleton]at h;exact Ll (by lia)
end
theorem Oq{α β:Type}{us:List α}{p:β}{ps:List β}(h:us.length=(p::ps).length):∃u vs,us=u::vs/\vs.length=ps.length:=by
 cases us with
 |nil=>cases h
 |cons u vs=>exact⟨u,vs,rfl,Nat.succ.inj h⟩
theorem Op{α β:Type}{us:List α}(h:us.length=([]:List β).length):us=[]:=List.length_eq_zero_iff.mp h
abbrev FB(K:Frag)(x qual:Str)(st:Stmt)(f:Addr):Prop:=∃fd,Fun K x qual st f fd
abbrev FI(K:Frag)(x:Str)(st:Stmt)(f:Addr):Prop:=nsIn K mainGlobals x=some (some (.ref f))/\FB K x x st f
abbrev MI(K:Frag)(C:Addr)(x qual:Str)(st:Stmt)(f:Addr):Prop:=findIn K (.ref C) x=some (some (.ref f))/\isFn K (.ref f)=true/\FB K x qual st f
structure HC(P:Program)(w:World)(K:Frag)(mg:MGz)(base:Heap):Prop where
 ex:∃h:Heap,K.In h/\h.Ns mainGlobals mg
abbrev BOk(x qual:Str)(st:Stmt)(ps:LSz):Prop:=∀(kV doc pm:Value)(an:Option Addr)(cdv ct:Value)(us:LWz),us.length=ps.length->bindArgs (fnOf x qual (Bk st) (Ar st) (Ag st) .none kV doc pm an cdv ct) ⟨us,[]⟩=pure (ps.zip us)
section
variable{P:Program}{w:World}{K:Frag}{mg:MGz}{base:Heap}{x qual:Str}{st:Stmt}{f C:Addr}{n:Nat}{ps:LSz}{sp:Sp}{v:Value}
theorem HC.g(c:HC P w K mg base)(a:nsIn K mainGlobals x=some (some v)):mg x=some v:=let ⟨_,X,G⟩:=c.ex;mg_of X G a
theorem HC.d(c:HC P w K mg base)(i:FI K x st f)(ok:∀fd,Fun K x x st f fd->FnOk P w K mg base CX0 n f fd ps sp)(hb:BOk x x st ps:=by intro _ _ _ _ _ _ us hl;(repeat (obtain⟨_,_,e,h⟩:=Oq hl;clear hl;subst e;have hl:=h;clear h));cases Op hl;rfl):DefOk P w K mg base n x ps sp:=let ⟨a,_,F⟩:=i;⟨_,_,ok _ F,c.g a,F.kp,F.binds hb⟩
theorem HC.dx(c:HC P w K mg base)(i:FI K x st f)(ok:∀fd,Fun K x x st f fd->FnOk P w K mg base (CX1 P w) n f fd ps sp)(hb:BOk x x st ps:=by intro _ _ _ _ _ _ us hl;(repeat (obtain⟨_,_,e,h⟩:=Oq hl;clear hl;subst e;have hl:=h;clear h));cases Op hl;rfl):AT P w K mg base n x ps sp:=let ⟨a,_,F⟩:=i;⟨_,_,ok _ F,c.g a,F.kp,F.binds hb⟩
theorem HC.k{cn:Str}(c:HC P w K mg base)(m:makesIn K C=true)(k:keepIn K (.ref C)=true)(ac:nsIn K mainGlobals cn=some (some (.ref C)))(i:MI K C "__init__" qual st f)(ok:∀fd,Fun K "__init__" qual st f fd->FnOk P w K mg base CX0 n f fd ps sp)(hb:BOk "__init__" qual st ps:=by intro _ _ _ _ _ _ us hl;(repeat (obtain⟨_,_,e,h⟩:=Oq hl;clear hl;subst e;have hl:=h;clear h));cases Op hl;rfl):LK P w K mg base n cn C ps sp:=let ⟨a,b,_,F⟩:=i;⟨_,_,⟨m,a,b,k⟩,ok _ F,c.g ac,F.binds hb⟩
theorem HC.xm{cn:Str}{ns:LSz}(c:HC P w K mg base)(l:EO K C=true)(e:Bj K C f=true)(k:keepIn K (.ref C)=true)(ac:nsIn K mainGlobals cn=some (some (.ref C)))(i:MI K C "__init__" qual st f)(ok:∀fd,Fun K "__init__" qual st f fd->XCls K C->FnOk P w K mg base CX0 n f fd ps (K5 C ns))(fw:ns.length<=1000:=by decide)(hb:BOk "__init__" qual st ps:=by intro _ _ _ _ _ _ us hl;(repeat (obtain⟨_,_,e,h⟩:=Oq hl;clear hl;subst e;have hl:=h;clear h));cases Op hl;rfl):Cf P w K mg base n cn C ps ns:=let ⟨a,b,_,F⟩:=i;⟨fw,_,_,⟨XCls.of l,e,k,b⟩,ok _ F (XCls.of l),c.g ac,F.binds hb⟩
end
theorem all_mk{l:OpenLaw}{w:World}{K:Frag}{h:Heap}{mg:MGz}{fa:Addr}(X:K.In h)(G:h.Ns mainGlobals mg)(hfa:mg "law"=some (.ref fa))
  {cT:Addr} (aT:nsIn K mainGlobals "Tree"=some (some (.ref cT)))
  {cW:Addr} (aC_cW:nsIn K mainGlobals "Whole"=some (some (.ref cW))) (ic_cW:icB K cW=true)
  {f_cW:Addr} {od_cW an_cW:Option Addr} {sl_cW:AOz} {oc_cW kV_cW dc_cW pm_cW cd_cW ct_cW:Value} {T_cW:Addr} {to_cW:Value} {td_cW:Option Addr} {ts_cW:AOz} {ti_cW:Array Value} {tn_cW:Nat} (a_cWcW:findIn K (.ref cW) "__init__"=some (some (.ref f_cW))) (i_cW:isFn K (.ref f_cW)=true) (l_cW:K.lookup f_cW=some ⟨oc_cW,od_cW,.func (fnOf "__init__" "Whole.__init__" (Bk B0) (Ar B0) (Ag B0) (.ref T_cW) kV_cW dc_cW pm_cW an_cW cd_cW ct_cW),sl_cW⟩) (cc_cW:codeIn K cd_cW "Whole.__init__"=true) (k_cW:keepIn K (.ref f_cW)=true) (lT_cW:K.lookup T_cW=some ⟨to_cW,td_cW,.seq ti_cW tn_cW,ts_cW⟩) (eT_cW:ti_cW=#[.none])
  {cU:Addr} (aC_cU:nsIn K mainGlobals "Upright"=some (some (.ref cU))) (ic_cU:icB K cU=true)
  {f_cU:Addr} (h_cUcU:MI K cU "__init__" "Upright.__init__" Cv f_cU)
  {cL:Addr} (aC_cL:nsIn K mainGlobals "Level"=some (some (.ref cL))) (ic_cL:icB K cL=true)
  {f_cL:Addr} (h_cLcL:MI K cL "__init__" "Level.__init__" D2 f_cL)
  (kit:S6 K cT cW cU cL=true)
  {cG:Addr} (aG:nsIn K mainGlobals "GlassError"=some (some (.ref cG))) (eG:excIn K cG vErr "ValueError.__new__"=true)
  {qI:Addr} (aC_qI:nsIn K mainGlobals "NoSide"=some (some (.ref qI))) (kC_qI:keepIn K (.ref qI)=true) (nC_qI:findIn K (.ref qI) "side"=some none)
  {f_qI:Addr} (h_qIqI:MI K qI "__init__" "NoSide.__init__" CP f_qI)
  (ei_qI:Bj K qI f_qI=true) (xc_qI:EO K qI=true) (xm_qI:mroIn K qI (.ref cG)=some true)
  {qM:Addr} (aC_qM:nsIn K mainGlobals "TooMany"=some (some (.ref qM))) (kC_qM:keepIn K (.ref qM)=true) (nC_qM:findIn K (.ref qM) "many"=some none)
  {f_qM:Addr} (h_qMqM:MI K qM "__init__" "TooMany.__init__" Cw f_qM)
  (ei_qM:Bj K qM f_qM=true) (xc_qM:EO K qM=true) (xm_qM:mroIn K qM (.ref cG)=some true)
  {qK:Addr} (aC_qK:nsIn K mainGlobals "NoKind"=some (some (.ref qK))) (kC_qK:keepIn K (.ref qK)=true) (nC_qK:findIn K (.ref qK) "place"=some none)
  {f_qK:Addr} (h_qKqK:MI K qK "__init__" "NoKind.__init__" CQ f_qK)
  (ei_qK:Bj K qK f_qK=true) (xc_qK:EO K qK=true) (xm_qK:mroIn K qK (.ref cG)=some true)
  {qF:Addr} (aC_qF:nsIn K mainGlobals "NoFlaw"=some (some (.ref qF))) (kC_qF:keepIn K (.ref qF)=true) (nC_qF:findIn K (.ref qF) "place"=some none)
  {f_qF:Addr} (h_qFqF:MI K qF "__init__" "NoFlaw.__init__" CS f_qF)
  (ei_qF:Bj K qF f_qF=true) (xc_qF:EO K qF=true) (xm_qF:mroIn K qF (.ref cG)=some true)
  {qC:Addr} (aC_qC:nsIn K mainGlobals "NoCut"=some (some (.ref qC))) (kC_qC:keepIn K (.ref qC)=true) (nC_qC:findIn K (.ref qC) "at"=some none)
  {f_qC:Addr} (h_qCqC:MI K qC "__init__" "NoCut.__init__" D1 f_qC)
  (ei_qC:Bj K qC f_qC=true) (xc_qC:EO K qC=true) (xm_qC:mroIn K qC (.ref cG)=some true)
  {qU:Addr} (aC_qU:nsIn K mainGlobals "Unfit"=some (some (.ref qU))) (kC_qU:keepIn K (.ref qU)=true) (nC_qU:findIn K (.ref qU) "piece"=some none)
  {f_qU:Addr} (h_qUqU:MI K qU "__init__" "Unfit.__init__" D0 f_qU)
  (ei_qU:Bj K qU f_qU=true) (xc_qU:EO K qU=true) (xm_qU:mroIn K qU (.ref cG)=some true)
  (ktC:TF K (clA qI qM qK qF qC qU)=true)
  {f0:Addr} (h0:FI K "is_whole" E8 f0)
  {f1:Addr} (h1:FI K "is_side" Fx f1)
  {f2:Addr} (h2:FI K "size_of" Fu f2)
  {f3:Addr} (h3:FI K "area_of" F1 f3)
  {f4:Addr} (h4:FI K "check_sides" CL f4)
  {f5:Addr} (h5:FI K "kind_of" Fw f5)
  {f6:Addr} (h6:FI K "entry_of" EA f6)
  {f7:Addr} (h7:FI K "entries_of" Dw f7)
  {f8:Addr} (h8:FI K "cut_from" EB f8)
  {f9:Addr} (h9:FI K "tree_from" DL f9)
  {f10:Addr} (h10:FI K "first_piece" CJ f10)
  {f11:Addr} (h11:FI K "other_piece" CH f11)
  {f12:Addr} (h12:FI K "entries_by" Dx f12)
  {f13:Addr} (h13:FI K "check_cut" BR f13)
  {f14:Addr} (h14:FI K "cut_out" F0 f14)
  {f15:Addr} {od15 an15:Option Addr} {sl15:AOz} {oc15 kV15 dc15 pm15 cd15 ct15:Value} (a15:nsIn K mainGlobals "pieces"=some (some (.ref f15))) (l15:K.lookup f15=some ⟨oc15,od15,.func (fnOf "pieces" "pieces" (Bk Bu) (Ar Bu) (Ag Bu) .none kV15 dc15 pm15 an15 cd15 ct15),sl15⟩) (cc15:codeIn K cd15 "pieces"=true) (k15:keepIn K (.ref f15)=true) {c15 tb:Addr} (ec15:cd15=.ref c15) (hC15:FO K c15 tb=true)
  {f16:Addr} (h16:FI K "is_kind" Fz f16)
  {f17:Addr} (h17:FI K "check_kinds" CM f17)
  {f18:Addr} (h18:FI K "has_size" E9 f18)
  {f19:Addr} (h19:FI K "is_of_kind" Dv f19)
  {f20:Addr} (h20:FI K "choice_uncut" Ct f20)
  {f21:Addr} (h21:FI K "cuts_within" CK f21)
  {f22:Addr} (h22:FI K "itself" G9 f22)
  {f23:Addr} (h23:FI K "best_choice" CO f23)
  {f24:Addr} {od24 an24:Option Addr} {sl24:AOz} {oc24 kV24 dc24 pm24 cd24 ct24:Value} (a24:nsIn K mainGlobals "tree_by"=some (some (.ref f24))) (l24:K.lookup f24=some ⟨oc24,od24,.func (fnOf "tree_by" "tree_by" (Bk AY) (Ar AY) (Ag AY) .none kV24 dc24 pm24 an24 cd24 ct24),sl24⟩) (cc24:codeIn K cd24 "tree_by"=true) (k24:keepIn K (.ref f24)=true) {c24 tb2:Addr} (ec24:cd24=.ref c24) (hC24:FO K c24 tb2=true)
  {f25:Addr} (h25:FI K "worths_in" DK f25)
  {f26:Addr} (h26:FI K "choices_by_size" BJ f26)
  {f27:Addr} (h27:FI K "worths" G8 f27)
  {f28:Addr} (h28:FI K "best" Mi f28)
  {f29:Addr} (h29:FI K "is_laid" Fy f29)
  {f30:Addr} (h30:FI K "worth_of" E7 f30)
  {f31:Addr} (h31:FI K "check_flawed_sides" Bv f31)
  {f32:Addr} (h32:FI K "is_square_of" Cr f32)
  {f33:Addr} (h33:FI K "check_flaws" CN f33)
  {f34:Addr} (h34:FI K "runs_within" CG f34)
  {f35:Addr} (h35:FI K "pieces_within" BY f35)
  {f36:Addr} (h36:FI K "lies_in" Fv f36)
  {f37:Addr} (h37:FI K "flawed_uncut" Cs f37)
  {f38:Addr} (h38:FI K "choices_by_piece" B8 f38)
  {f39:Addr} (h39:FI K "flawed_worths" BZ f39)
  {f40:Addr} (h40:FI K "flawed_best" CI f40)
  {f41:Addr} (h41:FI K "_law_cell" DN f41)
  {f42:Addr} (h42:FI K "_law_draw" DM f42)
  {f43:Addr} (h43:FI K "_law_side" BS f43)
  {f44:Addr} (h44:FI K "_law_is_side" Cu f44)
  {f45:Addr} (h45:FI K "_law_kinds" A6 f45)
  {f46:Addr} (h46:FI K "_law_flaws" A7 f46)
  {f47:Addr} (h47:FI K "_law_asked" Dz f47)
  {f48:Addr} (h48:FI K "_law_due" EC f48)
  {f49:Addr} (h49:FI K "_law_right" Dy f49)
  {f50:Addr} (h50:FI K "law" Bo f50)
  {bm:Addr} {bsl:AOz} (abm:nsIn K mainGlobals "__builtins__"=some (some (.ref bm))) (lbm:K.lookup bm=some ⟨.type "module",some builtinsNs,.plain,bsl⟩) (nbm1:bm≠builtinsNs) (nbm2:bm≠mainGlobals)
  (hne:tb≠tb2)
  (z0:nsIn K mainGlobals "isinstance"=some none)
  (z1:nsIn K mainGlobals "int"=some none)
  (z2:nsIn K mainGlobals "bool"=some none)
  (z3:nsIn K mainGlobals "tuple"=some none)
  (z4:nsIn K mainGlobals "list"=some none)
  (z5:nsIn K mainGlobals "len"=some none)
  (z6:nsIn K mainGlobals "enumerate"=some none)
  (z7:nsIn K mainGlobals "range"=some none)
  (z8:nsIn K mainGlobals "any"=some none)
  (z9:nsIn K mainGlobals "sorted"=some none)
  (z10:nsIn K mainGlobals "sum"=some none)
  (z11:nsIn K mainGlobals "reversed"=some none)
  (z12:nsIn K mainGlobals "min"=some none)
  {tk0:Tok} (g0:nsIn K mainGlobals "LONGEST_SIDE"=some (some (.int 12 tk0)))
  {tk1:Tok} (g1:nsIn K mainGlobals "MOST_KINDS"=some (some (.int 8 tk1)))
  {tk2:Tok} (g2:nsIn K mainGlobals "GREATEST_WORTH"=some (some (.int 1000000000 tk2)))
  {tk3:Tok} (g3:nsIn K mainGlobals "WHOLE"=some (some (.str "whole" tk3)))
  {tk4:Tok} (g4:nsIn K mainGlobals "UPRIGHT"=some (some (.str "upright" tk4)))
  {tk5:Tok} (g5:nsIn K mainGlobals "LEVEL"=some (some (.str "level" tk5)))
  {tk6:Tok} (g6:nsIn K mainGlobals "LONGEST_FLAWED"=some (some (.int 7 tk6)))
  {tk7:Tok} (g7:nsIn K mainGlobals "MOST_FLAWS"=some (some (.int 49 tk7)))
  : ∃fd:FuncData,(∀(s:Shared)(v:Value),BindsTo s fd ⟨[v],[]⟩ [("_law_script",v)])/\∀base:Heap,K.In base->base.Ns mainGlobals mg->FnOk l.prog w K mg base CX0 9 fa fd ["_law_script"] (sp_law tb tb2 K):=by
 have e:=hfa.symm.trans (mg_of X G h50.1);cases e;have T:Txt mg (tk0,tk1,tk2,tk3,tk4,tk5,tk6,tk7,f22,f2):=⟨mg_none_of X G z0,mg_none_of X G z1,mg_none_of X G z2,mg_none_of X G z3,mg_none_of X G z4,mg_none_of X G z5,mg_none_of X G z6,mg_none_of X G z7,mg_none_of X G z8,mg_none_of X G z9,mg_none_of X G z10,mg_none_of X G z11,mg_none_of X G z12,mg_of X G g0,mg_of X G g1,mg_of X G g2,mg_of X G g3,mg_of X G g4,mg_of X G g5,mg_of X G g6,mg_of X G g7,mg_of X G h22.1,mg_of X G h2.1⟩;obtain⟨I_cW,mk_cW,kc_cW⟩:=MA ic_cW;obtain⟨I_cU,mk_cU,kc_cU⟩:=MA ic_cU;obtain⟨I_cL,mk_cL,kc_cL⟩:=MA ic_cL;have R0:RT mg K cT cW cU cL:=Tp kit I_cW I_cU I_cL (mg_of X G aT) (mg_of X G aC_cW) (mg_of X G aC_cU) (mg_of X G aC_cL);have hB0:R8 K mg:=⟨bm,bsl,mg_of X G abm,nbm1,nbm2,lbm⟩;have RG0:RG mg K (clA qI qM qK qF qC qU):=⟨mg_of X G aC_qI,mg_of X G aC_qM,mg_of X G aC_qK,mg_of X G aC_qF,mg_of X G aC_qC,mg_of X G aC_qU,⟨f_qI,ei_qI⟩,⟨f_qM,ei_qM⟩,⟨f_qK,ei_qK⟩,⟨f_qF,ei_qF⟩,⟨f_qC,ei_qC⟩,⟨f_qU,ei_qU⟩,λ x y=>(Nw ktC x y).2,λ c=>by cases c;exact XCls.of xc_qI;exact XCls.of xc_qM;exact XCls.of xc_qK;exact XCls.of xc_qF;exact XCls.of xc_qC;exact XCls.of xc_qU,λ x y=>(Nw ktC x y).1,λ c=>by cases c;exact nC_qI;exact nC_qM;exact nC_qK;exact nC_qF;exact nC_qC;exact nC_qU⟩;have F_cW:FunD K "__init__" "Whole.__init__" B0 f_cW _:=⟨⟨_,_,_,_,_,_,_,_,_,_,_,tn_cW,rfl,l_cW,cc_cW,lT_cW,by rw[eT_cW]⟩,k_cW⟩;have b_cW:=F_cW.binds (ps:=["self","mark"]) (ds:=[]) λ_ _ _ _ _ _ _ us hl=>by obtain⟨u0,u1,rfl⟩:=S1 ((List.append_nil us) ▸ hl);exact⟨_,rfl,rfl⟩
 have b0_cW:=F_cW.binds (ps:=["self","mark"]) (ds:=[.none]) λ_ _ _ _ _ _ _ us hl=>by obtain⟨u,rfl⟩:=QV hl;exact⟨_,rfl,rfl⟩
 have F15:=N1 (st:=Bu) l15 cc15 k15 ec15;have b15:=F15.fn.binds (ps:=["tree","width","height"]) λ_ _ _ _ _ _ us hl=>by (repeat (obtain⟨_,_,e,h⟩:=Oq hl;clear hl;subst e;have hl:=h;clear h));cases Op hl;rfl
 have F24:=N1 (st:=AY) l24 cc24 k24 ec24;have b24:=F24.fn.binds (ps:=["choices","sheet","key"]) λ_ _ _ _ _ _ us hl=>by (repeat (obtain⟨_,_,e,h⟩:=Oq hl;clear hl;subst e;have hl:=h;clear h));cases Op hl;rfl
 obtain⟨ha50,fd,F50⟩:=h50;obtain⟨oc,od,kV,doc,pm,an,cdv,ct,osl,rfl,lk,hcd⟩:=id F50.ex;refine⟨fnOf "law" "law" (Bk Bo) (Ar Bo) (Ag Bo) .none kV doc pm an cdv ct,λ s v=>.of_eq rfl,λ base _ _=>?_⟩;have c:HC l.prog w K mg base:=⟨h,X,G⟩;have K_Whole:LK l.prog w K mg base 1 "Whole" cW ["self","mark"] (IG cW):=⟨_,_,⟨mk_cW,a_cWcW,i_cW,kc_cW⟩,E3 F_cW R0,mg_of X G aC_cW,b_cW⟩;have K0_Whole:Qt l.prog w K mg base 1 "Whole" cW ["self","mark"] (IG cW) [.non]:=⟨_,_,_,⟨mk_cW,a_cWcW,i_cW,kc_cW⟩,E3 F_cW R0,mg_of X G aC_cW,b0_cW,.cons rfl .nil⟩;have K_Upright:=c.k mk_cU kc_cU aC_cU h_cUcU λ_ F=>Ge F R0;have K_Level:=c.k mk_cL kc_cL aC_cL h_cLcL λ_ F=>Ic F R0;have X_NoSide:=c.xm xc_qI ei_qI kC_qI aC_qI h_qIqI λ_ F x=>GW F x nC_qI;have X_TooMany:=c.xm xc_qM ei_qM kC_qM aC_qM h_qMqM λ_ F x=>Gf F x nC_qM;have X_NoKind:=c.xm xc_qK ei_qK kC_qK aC_qK h_qKqK λ_ F x=>GX F x nC_qK;have X_NoFlaw:=c.xm xc_qF ei_qF kC_qF aC_qF h_qFqF λ_ F x=>GY F x nC_qF;have X_NoCut:=c.xm xc_qC ei_qC kC_qC aC_qC h_qCqC λ_ F x=>Ib F x nC_qC;have X_Unfit:=c.xm xc_qU ei_qU kC_qU aC_qU h_qUqU λ_ F x=>Ia F x nC_qU;have X_NoSide:Cf l.prog w K mg base 1 "NoSide" ((clA qI qM qK qF qC qU) .I) ["self","side"] ["side"]:=X_NoSide;have X_TooMany:Cf l.prog w K mg base 1 "TooMany" ((clA qI qM qK qF qC qU) .M) ["self","many"] ["many"]:=X_TooMany;have X_NoKind:Cf l.prog w K mg base 1 "NoKind" ((clA qI qM qK qF qC qU) .K) ["self","place"] ["place"]:=X_NoKind;have X_NoFlaw:Cf l.prog w K mg base 1 "NoFlaw" ((clA qI qM qK qF qC qU) .F) ["self","place"] ["place"]:=X_NoFlaw;have X_NoCut:Cf l.prog w K mg base 1 "NoCut" ((clA qI qM qK qF qC qU) .C) ["self","at"] ["at"]:=X_NoCut;have X_Unfit:Cf l.prog w K mg base 1 "Unfit" ((clA qI qM qK qF qC qU) .U) ["self","piece"] ["piece"]:=X_Unfit;have D_is_whole:=c.d h0 λ_ F=>La F T;have D_is_side:=c.d h1 λ_ F=>Mt F T D_is_whole;have D_size_of:=c.d h2 λ_ F=>Mp F;have D_area_of:=c.d h3 λ_ F=>Mx F;have D_check_sides:=c.dx h4 λ_ F=>GR F X_NoSide D_is_side;have D_kind_of:=c.d (sp:=Fs cW cU cL) h5 λ_ F=>Ms F T R0;have D_entry_of:=c.d (sp:=G5 cW cU cL) h6 λ_ F=>Ld F T R0 D_kind_of;have D_entries_of:=c.d (sp:=E5 cW cU cL) h7 λ_ F=>HY F T R0 D_entry_of;have D_cut_from:=c.d (sp:=E6 cW cU cL) h8 λ_ F=>Le F T K_Upright K_Level;have D_tree_from:=c.d (sp:=J9 K cW cU cL) h9 λ_ F=>JL F T R0 K_Whole D_cut_from;have D_first_piece:=c.d h10 λ_ F=>GP F T;have D_other_piece:=c.d h11 λ_ F=>GM F T;have D_entries_by:=c.d h12 λ_ F=>HZ F T D_first_piece D_other_piece;have D_check_cut:=c.dx h13 λ_ F=>JQ F T X_NoCut D_is_whole;have D_cut_out:=c.dx (sp:=Md cW cU cL ((clA qI qM qK qF qC qU) .C)) h14 λ_ F=>Mw F T D_entries_of D_check_cut D_first_piece D_other_piece;have D_pieces:AT l.prog w K mg base 5 "pieces" ["tree","width","height"] (Fr tb cW cU cL (clA qI qM qK qF qC qU)):=⟨_,_,Oh F15 T hC15 hB0 D_check_sides D_cut_out,mg_of X G a15,k15,b15⟩;have D_is_kind:=c.d h16 λ_ F=>Mv F T D_is_whole D_is_side;have D_check_kinds:=c.dx h17 λ_ F=>GS F T X_TooMany X_NoKind D_is_kind;have D_has_size:=c.d h18 λ_ F=>Lb F;have D_is_of_kind:=c.d h19 λ_ F=>HX F D_size_of D_has_size;have D_choice_uncut:=c.d h20 λ_ F=>Gd F T D_is_of_kind;have D_cuts_within:=c.d h21 λ_ F=>GQ F T D_size_of;have D_itself:=c.d h22 λ_ F=>Oi F;have D_best_choice:=c.d h23 λ_ F=>GV F T D_size_of D_itself D_first_piece D_other_piece D_cuts_within;have D_tree_by:DefOk l.prog w K mg base 5 "tree_by" ["choices","sheet","key"] (Ef tb2 mg):=⟨_,_,Mo F24 hC24 hB0 D_size_of D_itself D_entries_by D_tree_from,mg_of X G a24,k24,b24⟩;have D_worths_in:=c.d h25 λ_ F=>JK F;have D_choices_by_size:=c.dx h26 λ_ F=>EF F T D_check_sides D_check_kinds D_choice_uncut D_best_choice;have D_worths:=c.dx (sp:=Ej tb tb2 (clA qI qM qK qF qC qU)) h27 λ_ F=>Og F D_choices_by_size D_worths_in;have D_best:=c.dx (sp:=Ej tb tb2 (clA qI qM qK qF qC qU)) h28 λ_ F=>QP F T hne D_choices_by_size D_tree_by;have D_is_laid:=c.d h29 λ_ F=>Mu F T D_is_whole D_is_of_kind;have D_worth_of:=c.dx (sp:=Pd tb tb2 cW cU cL (clA qI qM qK qF qC qU)) h30 λ_ F=>KU F T hne X_Unfit D_check_sides D_check_kinds D_pieces D_is_laid;have D_check_flawed_sides:=c.dx h31 λ_ F=>DF F X_NoSide T D_is_side;have D_is_square_of:=c.d h32 λ_ F=>Gb F T D_is_whole;have D_check_flaws:=c.dx h33 λ_ F=>GU F T X_TooMany X_NoFlaw D_is_square_of;have D_runs_within:=c.d h34 λ_ F=>GL F T;have D_pieces_within:=c.d h35 λ_ F=>F5 F D_runs_within;have D_lies_in:=c.d h36 λ_ F=>Mq F;have D_flawed_uncut:=c.d h37 λ_ F=>Gc F T D_lies_in D_choice_uncut;have D_choices_by_piece:=c.dx h38 λ_ F=>Ez F T D_area_of D_check_flawed_sides D_check_kinds D_check_flaws D_pieces_within D_flawed_uncut D_best_choice;have D_flawed_worths:=c.dx (sp:=Ei tb tb2 (clA qI qM qK qF qC qU)) h39 λ_ F=>F6 F D_choices_by_piece D_worths_in;have D_flawed_best:=c.dx (sp:=Ei tb tb2 (clA qI qM qK qF qC qU)) h40 λ_ F=>GO F T hne D_choices_by_piece D_tree_by;have D__law_cell:=c.d h41 λ_ F=>KZ F T;have D__law_draw:=c.d h42 λ_ F=>KY F;have D__law_side:=c.d h43 λ_ F=>KW F;have D__law_is_side:=c.d h44 λ_ F=>GN F T;have D__law_kinds:=c.d h45 λ_ F=>JN F T D__law_draw;have D__law_flaws:=c.d h46 λ_ F=>JO F T D__law_draw;have D__law_asked:=c.d (sp:=De tb tb2 cW cU cL) h47 λ_ F=>JP F T RG0 D_worths D_best D_worth_of D_flawed_worths D_flawed_best;have D__law_due:=c.d h48 λ_ F=>Mr F T D__law_is_side;have D__law_right:=c.d h49 λ_ F=>JM F T;exact Sz F50 T D__law_cell D__law_draw D__law_side D__law_is_side D__law_kinds D__law_flaws D__law_asked D__law_due D__law_right K_Whole K0_Whole K_Upright
theorem walk(tb:Addr)(tb2:Addr){l:OpenLaw}{q:Program}{loose:LSz}{XP:(MGz)->Heap->Prop}{YP:World->Heap->Prop}{d:DefRec}{K:Params->Frag}{Ts:List Addr}(hm_tb:tb∈Ts)(hm_tb2:tb2∈Ts)(hn:l.most=some 63)(hdf:d.params.defaults=[])
  (hY:∀(w:World)(h:Heap),YP w h->(K w.params).In h) (hT:∀(w:World)(h:Heap),YP w h->∀T∈Ts,h.get? T=some (tabObj #[])/\(K w.params).lookup T=none/\∃c,CodeHd h c T)
  (F:∀(w:World)(mg:MGz)(fa:Addr)(h:Heap),(K w.params).In h->h.Ns mainGlobals mg->mg d.name=some (.ref fa) ->
   ∃fd:FuncData,(∀(s:Shared)(u:Value),BindsTo s fd ⟨[u],[]⟩ [("_law_script",u)])/\∀base:Heap,(K w.params).In base->base.Ns mainGlobals mg->FnOk l.prog w (K w.params) mg base CX0 9 fa fd ["_law_script"] (sp_law tb tb2 (K w.params))) :
  WalkO q loose XP YP l.row.toRowW d [] (λ f vs=>PySem.call f vs) :=
 L2.walk_ofT (n:=63) (k:=9) (x:="_law_script") (CX:=λ_=>CX0) (sp:=λ w=>sp_law tb tb2 (K w.params)) hn (by decide) hdf ⟨rfl,by decide,by decide⟩ hY hT F (λ_ _ a ns hl hO hS=>⟨a,ns,rfl,hS,hl,hO.2 tb hm_tb,hO.2 tb2 hm_tb2,λ_=>rfl⟩) λ_ _ _ _ _ z=>z
end K56
open PySem PySem.W PyProof.Rows
set_option maxRecDepth 100000 in
set_option maxHeartbeats 0 in
theorem PySem.Challenge.cw_glazebench_k56_worths_refused_holds : PySem.Challenge.rw_glazebench_k56_worths_refused.Holds := by
 refine KH.prep fun said => ?_
 have fx : ∀ s, KH.Xp PySem.Challenge.pw_glazebench_k56_worths_refused s = true → XL (KH.qv PySem.Challenge.pw_glazebench_k56_worths_refused) [] (s.heap.nsMap mainGlobals) s.heap := fun s e => xl_of s (Bool.and_eq_true_iff.mp e).1
 have fr : ∀ s, KH.Xp PySem.Challenge.pw_glazebench_k56_worths_refused s = true → RecFacts (RowW.records (OpenRow.toRowW PySem.Challenge.rw_glazebench_k56_worths_refused.row)) s.heap := fun s e => recFacts_of (Bool.and_eq_true_iff.mp e).2
 refine holds_open (XP := XL (KH.qv PySem.Challenge.pw_glazebench_k56_worths_refused) []) KH.left (L2.hookT (kHook KH.KK KH.kas KH.kas_is) KH.Ts).of (L2.hookT (kHook KH.KK KH.kas KH.kas_is) KH.Ts).keeps fx XL.keeps (by rfl) (by rfl) (by rfl) fr (by rfl) said (by decide +kernel) ?hb ?hw ?hc
 case hb => exact ⟨rfl,rfl, rfl,rfl, rfl, by decide +kernel⟩
 case hw => w_witness2
 case hc =>
  k_fill
  refine K56.walk (l := PySem.Challenge.rw_glazebench_k56_worths_refused) (Ts := KH.Ts) 362 416 (by simp [KH.Ts]) (by simp [KH.Ts]) rfl rfl (fun w h Y => PySem.W.kIn_of Y.1) ?HT ?F
  case HT =>
   intro w h Y T hT
   refine ⟨Y.2 T hT, ?_⟩
   have hT : T ∈ [362, 416] := hT
   simp only [List.mem_cons, List.not_mem_nil, or_false] at hT
   rcases hT with rfl | rfl
   ·exact ⟨by kernel_rfl, 366, L2.codeTB_of (c := 366) (T := 362) (by kernel_rfl) h (PySem.W.kIn_of Y.1)⟩
   ·exact ⟨by kernel_rfl, 420, L2.codeTB_of (c := 420) (T := 416) (by kernel_rfl) h (PySem.W.kIn_of Y.1)⟩
  case F =>
   intro w mg fa h KX G hmg
   refine' K56.all_mk (tb := 362) (tb2 := 416) KX G hmg ?my_aT ?my_aC_cW ?my_ic_cW ?my_a_cWcW ?my_i_cW ?my_l_cW ?my_cc_cW ?my_k_cW ?my_lT_cW ?my_eT_cW ?my_aC_cU ?my_ic_cU ?my_h_cUcU ?my_aC_cL ?my_ic_cL ?my_h_cLcL ?my_kit ?my_aG ?my_eG ?my_aC_qI ?my_kC_qI ?my_nC_qI ?my_h_qIqI ?my_ei_qI ?my_xc_qI ?my_xm_qI ?my_aC_qM ?my_kC_qM ?my_nC_qM ?my_h_qMqM ?my_ei_qM ?my_xc_qM ?my_xm_qM ?my_aC_qK ?my_kC_qK ?my_nC_qK ?my_h_qKqK ?my_ei_qK ?my_xc_qK ?my_xm_qK ?my_aC_qF ?my_kC_qF ?my_nC_qF ?my_h_qFqF ?my_ei_qF ?my_xc_qF ?my_xm_qF ?my_aC_qC ?my_kC_qC ?my_nC_qC ?my_h_qCqC ?my_ei_qC ?my_xc_qC ?my_xm_qC ?my_aC_qU ?my_kC_qU ?my_nC_qU ?my_h_qUqU ?my_ei_qU ?my_xc_qU ?my_xm_qU ?my_ktC ?my_h0 ?my_h1 ?my_h2 ?my_h3 ?my_h4 ?my_h5 ?my_h6 ?my_h7 ?my_h8 ?my_h9 ?my_h10 ?my_h11 ?my_h12 ?my_h13 ?my_h14 ?my_a15 ?my_l15 ?my_cc15 ?my_k15 ?my_ec15 ?my_hC15 ?my_h16 ?my_h17 ?my_h18 ?my_h19 ?my_h20 ?my_h21 ?my_h22 ?my_h23 ?my_a24 ?my_l24 ?my_cc24 ?my_k24 ?my_ec24 ?my_hC24 ?my_h25 ?my_h26 ?my_h27 ?my_h28 ?my_h29 ?my_h30 ?my_h31 ?my_h32 ?my_h33 ?my_h34 ?my_h35 ?my_h36 ?my_h37 ?my_h38 ?my_h39 ?my_h40 ?my_h41 ?my_h42 ?my_h43 ?my_h44 ?my_h45 ?my_h46 ?my_h47 ?my_h48 ?my_h49 ?my_h50 ?my_abm ?my_lbm ?my_nbm1 ?my_nbm2 ?my_hne ?my_z0 ?my_z1 ?my_z2 ?my_z3 ?my_z4 ?my_z5 ?my_z6 ?my_z7 ?my_z8 ?my_z9 ?my_z10 ?my_z11 ?my_z12 ?my_g0 ?my_g1 ?my_g2 ?my_g3 ?my_g4 ?my_g5 ?my_g6 ?my_g7
   (case my_aT => k_is); (case my_aC_cW => k_is); (case my_a_cWcW => k_is); (case my_i_cW => k_is); (case my_l_cW => k_is); (case my_cc_cW => k_is); (case my_k_cW => k_is); (case my_lT_cW => k_is)
   (case my_aC_cU => k_is); (case my_aC_cL => k_is); (case my_aG => k_is); (case my_aC_qI => k_is); (case my_kC_qI => k_is); (case my_nC_qI => k_is); (case my_xm_qI => k_is); (case my_aC_qM => k_is)
   (case my_kC_qM => k_is); (case my_nC_qM => k_is); (case my_xm_qM => k_is); (case my_aC_qK => k_is); (case my_kC_qK => k_is); (case my_nC_qK => k_is); (case my_xm_qK => k_is); (case my_aC_qF => k_is)
   (case my_kC_qF => k_is); (case my_nC_qF => k_is); (case my_xm_qF => k_is); (case my_aC_qC => k_is); (case my_kC_qC => k_is); (case my_nC_qC => k_is); (case my_xm_qC => k_is); (case my_aC_qU => k_is)
   (case my_kC_qU => k_is); (case my_nC_qU => k_is); (case my_xm_qU => k_is); (case my_a15 => k_is); (case my_l15 => k_is); (case my_cc15 => k_is); (case my_k15 => k_is); (case my_a24 => k_is)
   (case my_l24 => k_is); (case my_cc24 => k_is); (case my_k24 => k_is); (case my_abm => k_is); (case my_lbm => k_is); (case my_z0 => k_is); (case my_z1 => k_is); (case my_z2 => k_is)
   (case my_z3 => k_is); (case my_z4 => k_is); (case my_z5 => k_is); (case my_z6 => k_is); (case my_z7 => k_is); (case my_z8 => k_is); (case my_z9 => k_is); (case my_z10 => k_is)
   (case my_z11 => k_is); (case my_z12 => k_is); (case my_g0 => k_is); (case my_g1 => k_is); (case my_g2 => k_is); (case my_g3 => k_is); (case my_g4 => k_is); (case my_g5 => k_is)
   (case my_g6 => k_is); (case my_g7 => k_is); (case my_eT_cW => rfl); (case my_ec15 => rfl); (case my_ec24 => rfl); (case my_ic_cW => kernel_rfl); (case my_ic_cU => kernel_rfl); (case my_ic_cL => kernel_rfl)
   (case my_kit => kernel_rfl); (case my_eG => kernel_rfl); (case my_ei_qI => kernel_rfl); (case my_xc_qI => kernel_rfl); (case my_ei_qM => kernel_rfl); (case my_xc_qM => kernel_rfl); (case my_ei_qK => kernel_rfl); (case my_xc_qK => kernel_rfl)
   (case my_ei_qF => kernel_rfl); (case my_xc_qF => kernel_rfl); (case my_ei_qC => kernel_rfl); (case my_xc_qC => kernel_rfl); (case my_ei_qU => kernel_rfl); (case my_xc_qU => kernel_rfl); (case my_ktC => kernel_rfl); (case my_hC15 => kernel_rfl)
   (case my_hC24 => kernel_rfl); (case my_nbm1 => decide); (case my_nbm2 => decide); (case my_hne => decide)
   case my_h_cUcU | my_h_cLcL | my_h_qIqI | my_h_qMqM | my_h_qKqK | my_h_qFqF | my_h_qCqC | my_h_qUqU => exact ⟨by k_is, by k_is, _, ⟨⟨_,_,_,_,_,_,_,_,_,rfl, by k_is, by k_is⟩, by k_is⟩⟩
   case my_h0 | my_h1 | my_h2 | my_h3 | my_h4 | my_h5 | my_h6 | my_h7 | my_h8 | my_h9 | my_h10 | my_h11 | my_h12 | my_h13 | my_h14 | my_h16 | my_h17 | my_h18 | my_h19 | my_h20 | my_h21 | my_h22 | my_h23 | my_h25 | my_h26 | my_h27 | my_h28 | my_h29 | my_h30 | my_h31 | my_h32 | my_h33 | my_h34 | my_h35 | my_h36 | my_h37 | my_h38 | my_h39 | my_h40 | my_h41 | my_h42 | my_h43 | my_h44 | my_h45 | my_h46 | my_h47 | my_h48 | my_h49 | my_h50 => exact ⟨by k_is, _, ⟨⟨_,_,_,_,_,_,_,_,_,rfl, by k_is, by k_is⟩, by k_is⟩⟩
